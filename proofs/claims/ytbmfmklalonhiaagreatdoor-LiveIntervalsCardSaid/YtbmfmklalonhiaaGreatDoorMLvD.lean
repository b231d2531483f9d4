/- The document's starts of a unit. The document's instruction. (written by genrinst.py) The document's Check. (written by genrchk.py) -/
import Derived.Test.YtbmfmklalonhiaaGreatDoorMIrC
import Derived.Test.YtbmfmklalonhiaaGreatDoorMIrD
import Derived.Deep.RegionHeld3
import Derived.IntWalk
namespace Go.Proofs.YtbmfmklalonhiaaGreatDoor
open Go.RowKit

set_option maxRecDepth 100000 in
set_option maxHeartbeats 4000000 in
theorem r11_starts (u : Un) (w : World) (hA : IntsAt w u.sa u.starts) (hB : UB u) : Calls Tryz.prog 66 #[u.v] w (Still (.bool (startsOk u)) w) := by
  have hsn := hB.sn
  have hmn := hB.mn
  have hcn := hB.cn
  have hI := startsOk_iff u
  generalize startsOk u = v at *
  obtain ⟨method, args, temps, R, P, S, ea, en, ec, ca, co, cc, sa, st, sc, ma, mp, mc⟩ := u
  unfold Un.v
  simp only at hsn hmn hcn hI hA ⊢
  clear hB
  generalize en.length = el at *
  generalize co.length = cl at *
  obtain ⟨sl, hsl⟩ : ∃ n, n = st.length := ⟨_, rfl⟩
  rw [← hsl] at hI hsn ⊢
  generalize mp.length = ml at *
  have HS := Lib.hid hsl
  have HA := Lib.hid hA
  have HI := Lib.hid hI
  clear hsl hA hI
  by_cases h0 : sl < 2
  · have HV : Hid (v = false) := Lib.hid (by
      cases v
      · rfl
      · exact absurd (HI.out.1 rfl).1 (by omega))
    have h0' : (sl : Int) < 2 := by omega
    have d0 : decide ((sl : Int) < 2) = true := by simpa using h0'
    clear h0
    go_enter Tryz.func66, Tryz.ntmps66
    go_wp2_with fail
    go_quiet (fail)
    go_wp2_with fail
    go_ret
    exact ⟨ret1 (vb HV.out.symm), by (repeat (first | (with_reducible refine Fr.setCell ?_ (fun h => absurd h (Nat.lt_irrefl _)) _) | (with_reducible refine Fr.setCell ?_ (fun h => absurd h (by first | omega | (simp; done) | (simp; omega) | (dsimp only; omega))) _) | (with_reducible refine Fr.alloc ?_ _) | (with_reducible refine Fr.drew ?_) | (with_reducible refine Fr.drewN ?_ _) | (with_reducible exact Fr.refl [] w)))⟩
  · have h0' : (2 : Int) ≤ (sl : Int) := by omega
    have d0 : decide ((sl : Int) < 2) = false := by simp; omega
    by_cases h1 : 129 < sl
    · have HV : Hid (v = false) := Lib.hid (by
        cases v
        · rfl
        · exact absurd (HI.out.1 rfl).2.1 (by omega))
      have h1' : (129 : Int) < (sl : Int) := by omega
      have d1 : decide ((129 : Int) < (sl : Int)) = true := by simpa using h1'
      clear h0 h1
      go_enter Tryz.func66, Tryz.ntmps66
      go_wp2_with fail
      go_quiet (fail)
      go_wp2_with fail
      go_ret
      exact ⟨ret1 (vb HV.out.symm), by (repeat (first | (with_reducible refine Fr.setCell ?_ (fun h => absurd h (Nat.lt_irrefl _)) _) | (with_reducible refine Fr.setCell ?_ (fun h => absurd h (by first | omega | (simp; done) | (simp; omega) | (dsimp only; omega))) _) | (with_reducible refine Fr.alloc ?_ _) | (with_reducible refine Fr.drew ?_) | (with_reducible refine Fr.drewN ?_ _) | (with_reducible exact Fr.refl [] w)))⟩
    · have h1' : (sl : Int) ≤ 129 := by omega
      have d1 : decide ((129 : Int) < (sl : Int)) = false := by simp; omega
      have e1 : IntKind.i64.wrap ((sl : Int) - 1) = (sl : Int) - 1 := IntWalk.i64_in _ (by omega)
      by_cases h2 : ml + 1 = sl
      · have e2 : (sl : Int) - 1 = (ml : Int) := by omega
        obtain ⟨a0, ha0⟩ : ∃ x, st[0]? = some x := ⟨_, List.getElem?_eq_getElem (by rw [← HS.out]; omega)⟩
        obtain ⟨aL, haL⟩ : ∃ x, st[ml]? = some x := ⟨_, List.getElem?_eq_getElem (by rw [← HS.out]; omega)⟩
        obtain ⟨g, o, rfl, c0⟩ := HA.out _ _ ha0
        obtain ⟨_, _, e, cL⟩ := HA.out _ _ haL
        cases e
        rw [Nat.add_zero] at c0
        have hg : g < w.heap.size := World.block_lt_of_cell? w _ c0
        have eL : sl - 1 = ml := by omega
        have HJ : Hid (v = true ↔ a0 = 0 ∧ aL = (cl : Int) ∧ rising st) := Lib.hid (by
          rw [HI.out, ha0, eL, haL]
          simp only [Option.some.injEq]
          constructor
          · rintro ⟨-, -, -, h, k, r⟩; exact ⟨h, k, r⟩
          · rintro ⟨h, k, r⟩; exact ⟨by omega, by omega, h2, h, k, r⟩)
        have hml0 : (0 : Int) ≤ (ml : Int) := by omega
        have hml1 : (1 : Int) ≤ (ml : Int) := by omega
        have hmls : (ml : Int) < (sl : Int) := by omega
        have hsl0 : (0 : Int) < (sl : Int) := by omega
        have H2 := Lib.hid h2
        clear HI eL h2 ha0 haL h0 h1
        by_cases hz : a0 = 0
        · subst hz
          by_cases hy : aL = (cl : Int)
          · have HR : Hid (v = true ↔ rising st) := Lib.hid (by rw [HJ.out]; simp [hy])
            have hy1 : (aL == (cl : Int)) = true := by simp [hy]
            have hy2 : (aL != (cl : Int)) = false := by simp [hy]
            clear HJ hy
            go_enter Tryz.func66, Tryz.ntmps66
            go_wp2_with fail
            go_quiet (fail)
            clear e1 e2
            go_wp2_with fail
            go_loopw [4] (fun i wr => ∃ k : Nat, 1 ≤ k ∧ k ≤ sl ∧ i = .int .i64 k ∧ Hid (Fr [] w wr) ∧ Hid (wr.heap[w.heap.size]? = some (.cells #[.int .u64 method, .int .i64 args, .int .i64 temps, .int .i64 R, .int .i64 P, .int .i64 S, .slice ea el ec, .slice ca cl cc, .slice (some ⟨g, o, none⟩) sl sc, .slice ma ml mc] 34)) ∧ Hid (∀ j a b, j + 1 < k → st[j]? = some a → st[j + 1]? = some b → a ≤ b)) (fun i _ => sl - (intOf i).toNat)
            case atStart => exact ⟨1, Nat.le_refl _, by omega, rfl, ((Fr.refl [] w).alloc _).drewN _, heap_new _ _, Lib.hid (fun j a b hj => absurd hj (by omega))⟩
            case round =>
              obtain ⟨k, hk0, hk, rfl, HF, HB, HTq⟩ := hrel
              have hw0 : w.heap.size < wr.heap.size := lt_of_heap HB.out
              by_cases hlt : k < sl
              · obtain ⟨x, hx⟩ : ∃ x, st[k - 1]? = some x := ⟨_, List.getElem?_eq_getElem (by rw [← HS.out]; omega)⟩
                obtain ⟨y, hy⟩ : ∃ y, st[k]? = some y := ⟨_, List.getElem?_eq_getElem (by rw [← HS.out]; omega)⟩
                obtain ⟨_, _, e, cx⟩ := (HA.out.fr HF.out) _ _ hx
                cases e
                obtain ⟨_, _, e, cy⟩ := (HA.out.fr HF.out) _ _ hy
                cases e
                have hgr : g < wr.heap.size := World.block_lt_of_cell? wr _ cx
                have b0 := cell_of_heap (o := 0) HB.out rfl; have b1 := cell_of_heap (o := 1) HB.out rfl; have b2 := cell_of_heap (o := 2) HB.out rfl; have b3 := cell_of_heap (o := 3) HB.out rfl; have b4 := cell_of_heap (o := 4) HB.out rfl; have b5 := cell_of_heap (o := 5) HB.out rfl; have b6 := cell_of_heap (o := 6) HB.out rfl; have b7 := cell_of_heap (o := 7) HB.out rfl; have b8 := cell_of_heap (o := 8) HB.out rfl; have b9 := cell_of_heap (o := 9) HB.out rfl
                have k0 : (0 : Int) ≤ (k : Int) := by omega
                have k00 : (1 : Int) ≤ (k : Int) := by omega
                have k1 : (k : Int) < (sl : Int) := by omega
                have k3 : (k : Int) - 1 < (sl : Int) := by omega
                have k4 : (0 : Int) ≤ (k : Int) - 1 := by omega
                have k5 : IntKind.i64.wrap ((k : Int) - 1) = (k : Int) - 1 := IntWalk.i64_in _ (by omega)
                have k6 : ((k : Int) - 1).toNat = k - 1 := by omega
                by_cases hxy : x ≤ y
                · have HE : Hid (∀ j a b, j + 1 < k + 1 → st[j]? = some a → st[j + 1]? = some b → a ≤ b) := Lib.hid (fun j a b hj ha hb => by
                    by_cases hjk : j = k - 1
                    · subst hjk
                      rw [show k - 1 + 1 = k by omega] at hb
                      rw [hx] at ha; rw [hy] at hb; cases ha; cases hb; exact hxy
                    · exact HTq.out j a b (by omega) ha hb)
                  have hd : decide (y < x) = false := by simp; omega
                  clear hx hy hxy
                  go_wp2_with fail
                  go_quiet (fail)
                  clear k5 k6
                  go_wp2_with fail
                  go_roundw
                  case rel => exact ⟨k + 1, by omega, by omega, by go_num, HF.out.drewN _, HB.out, HE⟩
                  case measure => simp [intOf]; omega
                · have HV : Hid (v = false) := Lib.hid (by
                    cases v
                    · rfl
                    · exact absurd (HR.out.1 rfl (k - 1) x y hx (by rw [show k - 1 + 1 = k by omega]; exact hy)) hxy)
                  have hd : decide (y < x) = true := by simp; omega
                  clear hx hy hxy
                  go_wp2_with fail
                  go_quiet (fail)
                  clear k5 k6
                  go_wp2_with fail
                  go_ret
                  exact ⟨ret1 (vb HV.out.symm), HF.out.drewN _⟩
              · have hkn : k = sl := by omega
                have hkd : decide (k < sl) = false := by simp; omega
                have hkd2 : ¬ (k : Int) < (sl : Int) := by omega
                have HV : Hid (v = true) := Lib.hid (HR.out.2 (fun j a b ha hb => HTq.out j a b (by
                  have := (List.getElem?_eq_some_iff.1 hb).1
                  rw [← HS.out] at this
                  omega) ha hb))
                have b0 := cell_of_heap (o := 0) HB.out rfl; have b1 := cell_of_heap (o := 1) HB.out rfl; have b2 := cell_of_heap (o := 2) HB.out rfl; have b3 := cell_of_heap (o := 3) HB.out rfl; have b4 := cell_of_heap (o := 4) HB.out rfl; have b5 := cell_of_heap (o := 5) HB.out rfl; have b6 := cell_of_heap (o := 6) HB.out rfl; have b7 := cell_of_heap (o := 7) HB.out rfl; have b8 := cell_of_heap (o := 8) HB.out rfl; have b9 := cell_of_heap (o := 9) HB.out rfl
                clear hkn
                go_wp2_with fail
                go_ret
                exact ⟨ret1 (vb HV.out.symm), HF.out⟩
          · have HV : Hid (v = false) := Lib.hid (by
              cases v
              · rfl
              · exact absurd (HJ.out.1 rfl).2.1 hy)
            have hy1 : (aL == (cl : Int)) = false := by simp [hy]
            have hy2 : (aL != (cl : Int)) = true := by simp [hy]
            clear HJ hy
            go_enter Tryz.func66, Tryz.ntmps66
            go_wp2_with fail
            go_quiet (fail)
            go_wp2_with fail
            go_ret
            exact ⟨ret1 (vb HV.out.symm), by (repeat (first | (with_reducible refine Fr.setCell ?_ (fun h => absurd h (Nat.lt_irrefl _)) _) | (with_reducible refine Fr.setCell ?_ (fun h => absurd h (by first | omega | (simp; done) | (simp; omega) | (dsimp only; omega))) _) | (with_reducible refine Fr.alloc ?_ _) | (with_reducible refine Fr.drew ?_) | (with_reducible refine Fr.drewN ?_ _) | (with_reducible exact Fr.refl [] w)))⟩
        · have HV : Hid (v = false) := Lib.hid (by
            cases v
            · rfl
            · exact absurd (HJ.out.1 rfl).1 hz)
          have hz1 : (a0 == 0) = false := by simp [hz]
          have hz2 : (a0 != 0) = true := by simp [hz]
          clear HJ hz
          go_enter Tryz.func66, Tryz.ntmps66
          go_wp2_with fail
          go_quiet (fail)
          go_wp2_with fail
          go_ret
          exact ⟨ret1 (vb HV.out.symm), by (repeat (first | (with_reducible refine Fr.setCell ?_ (fun h => absurd h (Nat.lt_irrefl _)) _) | (with_reducible refine Fr.setCell ?_ (fun h => absurd h (by first | omega | (simp; done) | (simp; omega) | (dsimp only; omega))) _) | (with_reducible refine Fr.alloc ?_ _) | (with_reducible refine Fr.drew ?_) | (with_reducible refine Fr.drewN ?_ _) | (with_reducible exact Fr.refl [] w)))⟩
      · have HV : Hid (v = false) := Lib.hid (by
          cases v
          · rfl
          · exact absurd (HI.out.1 rfl).2.2.1 h2)
        have h2a : ((ml : Int) == (sl : Int) - 1) = false := by simp; omega
        have h2b : ((ml : Int) != (sl : Int) - 1) = true := by simp; omega
        clear h0 h1
        go_enter Tryz.func66, Tryz.ntmps66
        go_wp2_with fail
        go_quiet (fail)
        go_wp2_with fail
        go_ret
        exact ⟨ret1 (vb HV.out.symm), by (repeat (first | (with_reducible refine Fr.setCell ?_ (fun h => absurd h (Nat.lt_irrefl _)) _) | (with_reducible refine Fr.setCell ?_ (fun h => absurd h (by first | omega | (simp; done) | (simp; omega) | (dsimp only; omega))) _) | (with_reducible refine Fr.alloc ?_ _) | (with_reducible refine Fr.drew ?_) | (with_reducible refine Fr.drewN ?_ _) | (with_reducible exact Fr.refl [] w)))⟩
end Go.Proofs.YtbmfmklalonhiaaGreatDoor
namespace Go.Proofs.YtbmfmklalonhiaaGreatDoor
open Go.RowKit

set_option maxRecDepth 100000 in
set_option maxHeartbeats 8000000 in
theorem r11_instruction (u : Un) (i : Ii) (w : World) (hI : IB i) (h : SrcsAt w i.la i.l) (hS : 0 ≤ u.sites ∧ u.sites ≤ 128) (hM : 0 ≤ (u.maps.length : Int) ∧ (u.maps.length : Int) ≤ 128) : Calls Tryz.prog 68 #[u.v, i.v] w (Still (.bool (insOkU u.regs u.spills u.sites u.maps.length i)) w) := by
  have ht := fun W => r11_Takes i.op W
  have HSO : Hid (∀ s W, Calls Tryz.prog 67 #[u.v, s.v] W (Still (.bool (srcOk u.regs u.spills s)) W)) := Lib.hid (fun s W => r11_source u s W)
  have hl := fun W => r11_Leaves i.op W
  have hp := fun W => r11_Place i.d W
  have hd := fun W => r11_source u i.d W
  have HX0 : Hid (iodd i.w = false → ∀ W, Calls Tryz.prog 98 #[.int .u64 i.w] W (Gives (.tuple #[.int .i64 0, .int .i64 1]) W)) := Lib.hid fun ho W => irInt_no i.w W hI.w ho
  have HX1 : Hid (iodd i.w = true → ∀ W, Calls Tryz.prog 98 #[.int .u64 i.w] W (Gives (.tuple #[.int .i64 (inum i.w), .int .i64 0]) W)) := Lib.hid fun ho W => irInt_yes i.w W hI.w ho
  have HX2 : Hid (iodd i.w = true → ((0 ≤ inum i.w ∧ inum i.w ≤ 1) ↔ (i.w = 1 ∨ i.w = 3))) := Lib.hid fun ho => inum01 hI.w ho
  have HO : Hid (insOkU u.regs u.spills u.sites u.maps.length i = (wtn i.l.length (lst i.op) (mst i.op) && i.l.all (srcOk u.regs u.spills) && resOk u.regs u.spills i && wtn i.n 0 (grt u.sites u.maps.length i.op) && wrdOk i)) := Lib.hid rfl
  have HRS : Hid (resOk u.regs u.spills i = if lvs i.op = true then plc i.d && srcOk u.regs u.spills i.d else decide (i.d = zeroS)) := Lib.hid rfl
  generalize insOkU u.regs u.spills u.sites u.maps.length i = ok at *
  generalize resOk u.regs u.spills i = b3 at *
  have hll := hI.n
  obtain ⟨op, n, ⟨dk, dn, dw⟩, la, l, lc, x⟩ := i
  obtain ⟨method, args, T, R, P, S, ea, en, ec, ca, co, cc, sa, st, sc, ma, mp, mc⟩ := u
  unfold Un.v Ii.v at *
  simp only [Sr.v, zeroS, Sr.mk.injEq] at ht HSO hl hp hd HX0 HX1 HX2 HO HRS hS hM h hll ⊢
  obtain ⟨s0, s1⟩ := hS
  obtain ⟨m0, m1⟩ := hM
  generalize en.length = el at *
  generalize co.length = cl at *
  generalize st.length = sl at *
  generalize mp.length = ml at *
  obtain ⟨ll, hlen⟩ : ∃ n, n = l.length := ⟨_, rfl⟩
  rw [← hlen] at hll HO ⊢
  have HLL := Lib.hid hlen
  have HA := Lib.hid h
  clear h hlen hI
  by_cases hb1 : lst op ≤ (ll : Int) ∧ (ll : Int) ≤ mst op
  · obtain ⟨hb1a, hb1b⟩ := hb1
    have HO1 : Hid (ok = (l.all (srcOk R P) && b3 && wtn n 0 (grt S ml op) && wrdOk ⟨op, n, ⟨dk, dn, dw⟩, la, l, lc, x⟩)) := Lib.hid (by
      rw [HO.out]; unfold wtn; simp [hb1a, hb1b])
    have HOP : Hid (op = 1 ∨ op = 2 ∨ op = 3 ∨ op = 4 ∨ op = 5 ∨ op = 6 ∨ op = 7 ∨ op = 8 ∨ op = 9) := Lib.hid (by
      rcases op_casesU op with h | h
      · rw [(op_none h).2.1] at hb1b; omega
      · exact h)
    have HGT : Hid (∀ b, op = b → grt S ml op = grt S ml b) := Lib.hid (fun b h => by rw [h])
    have hb2a : decide ((ll : Int) < lst op) = false := by simp; omega
    have hb2b : decide (mst op < (ll : Int)) = false := by simp; omega
    clear HO
    have HTq := Lib.hid ht
    have HBA := Lib.hid (And.intro hb1a hb1b)
    clear ht hb1a hb1b
    go_enter Tryz.func68, Tryz.ntmps68
    go_wp2_with (go_at_call 95; refine (HTq.out _).mono ?_; rintro e w' ⟨rfl, rfl⟩)
    go_loopw [7] (fun i wr => ∃ k : Nat, k ≤ ll ∧ i = .int .i64 k ∧ Hid (Fr [] w wr) ∧ Hid (wr.heap[w.heap.size]? = some (.cells #[.int .u64 method, .int .i64 args, .int .i64 T, .int .i64 R, .int .i64 P, .int .i64 S, .slice ea el ec, .slice ca cl cc, .slice sa sl sc, .slice ma ml mc] 34)) ∧ Hid (wr.heap[w.heap.size + 1]? = some (.cells #[.int .i64 op, .int .i64 n, .int .i64 dk, .int .i64 dn, .int .u64 dw, .slice la ll lc, .int .u64 x] 64)) ∧ Hid ((l.take k).all (srcOk R P) = true)) (fun i _ => ll - (intOf i).toNat)
    case atStart => exact ⟨0, Nat.zero_le _, rfl, ((Fr.refl [] w).alloc _).alloc _, hp1 _ _ _, hp2 _ _ _, Lib.hid (by simp)⟩
    case round =>
      clear hb2a hb2b
      obtain ⟨k, hk, rfl, HF, HB, HI, HTT⟩ := hrel
      have hw0 : w.heap.size < wr.heap.size := lt_of_heap HB.out
      have hw1 : w.heap.size + 1 < wr.heap.size := lt_of_heap HI.out
      by_cases hlt : k < ll
      · have hkl : k < l.length := by rw [← HLL.out]; exact hlt
        obtain ⟨s, hs⟩ : ∃ s, l[k]? = some s := ⟨_, List.getElem?_eq_getElem hkl⟩
        obtain ⟨g, o, rfl, c0, c1, c2⟩ := (HA.out.fr HF.out) k s hs
        have hc := HSO.out s
        have HY := Lib.hid (fun hp => all_snoc hs HTT.out (p := srcOk R P) hp)
        have HNO := Lib.hid (fun hp => all_no (p := srcOk R P) hs hp)
        obtain ⟨b, hb⟩ : ∃ b, b = srcOk R P s := ⟨_, rfl⟩
        simp only [← hb] at hc HY HNO
        have k0 : (0 : Int) ≤ (k : Int) := by omega
        have k1 : (k : Int) < (ll : Int) := by omega
        have b0 := cell_of_heap (o := 0) HB.out rfl; have b1 := cell_of_heap (o := 1) HB.out rfl; have b2 := cell_of_heap (o := 2) HB.out rfl; have b3 := cell_of_heap (o := 3) HB.out rfl; have b4 := cell_of_heap (o := 4) HB.out rfl; have b5 := cell_of_heap (o := 5) HB.out rfl; have b6 := cell_of_heap (o := 6) HB.out rfl; have b7 := cell_of_heap (o := 7) HB.out rfl; have b8 := cell_of_heap (o := 8) HB.out rfl; have b9 := cell_of_heap (o := 9) HB.out rfl
        have r0 := cell_of_heap (o := 0) HI.out rfl; have r1 := cell_of_heap (o := 1) HI.out rfl; have r2 := cell_of_heap (o := 2) HI.out rfl; have r3 := cell_of_heap (o := 3) HI.out rfl; have r4 := cell_of_heap (o := 4) HI.out rfl; have r5 := cell_of_heap (o := 5) HI.out rfl; have r6 := cell_of_heap (o := 6) HI.out rfl
        have hg : g < wr.heap.size := World.block_lt_of_cell? wr _ c0
        clear hb hkl hs
        cases b
        · have HE : Hid (ok = false) := Lib.hid (by rw [HO1.out, HNO.out rfl]; simp)
          clear HNO HY
          go_wp2_with fail
          go_region_held3 (fun w' => w'.cell? ⟨w.heap.size, 0, none⟩ = some (.int .u64 method) ∧ w'.cell? ⟨w.heap.size, 1, none⟩ = some (.int .i64 args) ∧ w'.cell? ⟨w.heap.size, 2, none⟩ = some (.int .i64 T) ∧ w'.cell? ⟨w.heap.size, 3, none⟩ = some (.int .i64 R) ∧ w'.cell? ⟨w.heap.size, 4, none⟩ = some (.int .i64 P) ∧ w'.cell? ⟨w.heap.size, 5, none⟩ = some (.int .i64 S) ∧ w'.cell? ⟨w.heap.size, 6, none⟩ = some (.slice ea el ec) ∧ w'.cell? ⟨w.heap.size, 7, none⟩ = some (.slice ca cl cc) ∧ w'.cell? ⟨w.heap.size, 8, none⟩ = some (.slice sa sl sc) ∧ w'.cell? ⟨w.heap.size, 9, none⟩ = some (.slice ma ml mc) ∧ w'.cell? ⟨w.heap.size + 1, 5, none⟩ = some (.slice (some ⟨g, o, none⟩) ll lc) ∧ w'.cell? ⟨g, o + k * 3, none⟩ = some (.int .i64 s.kind) ∧ w'.cell? ⟨g, o + k * 3 + 1, none⟩ = some (.int .i64 s.n) ∧ w'.cell? ⟨g, o + k * 3 + 2, none⟩ = some (.int .u64 s.w))
            (first | exact ⟨HF2.out.cell (by simp) b0, HF2.out.cell (by simp) b1, HF2.out.cell (by simp) b2, HF2.out.cell (by simp) b3, HF2.out.cell (by simp) b4, HF2.out.cell (by simp) b5, HF2.out.cell (by simp) b6, HF2.out.cell (by simp) b7, HF2.out.cell (by simp) b8, HF2.out.cell (by simp) b9, HF2.out.cell (by simp) r5, HF2.out.cell (by simp) c0, HF2.out.cell (by simp) c1, HF2.out.cell (by simp) c2⟩ | go_keep)
            ((go_at_call 67; (with_reducible refine (hc _).mono ?_); rintro e w2 ⟨rfl, hF⟩; have HF2 : Hid (Fr [] wr w2) := Lib.hid ((Fr.refl [] wr).drew.trans hF); clear hF))
          go_wp2_with fail
          go_ret
          exact ⟨ret1 (vb HE.out.symm), HF.out.trans HF2.out⟩
        · have HE := Lib.hid (HY.out rfl)
          clear HNO HY
          go_wp2_with fail
          go_region_held3 (fun w' => w'.cell? ⟨w.heap.size, 0, none⟩ = some (.int .u64 method) ∧ w'.cell? ⟨w.heap.size, 1, none⟩ = some (.int .i64 args) ∧ w'.cell? ⟨w.heap.size, 2, none⟩ = some (.int .i64 T) ∧ w'.cell? ⟨w.heap.size, 3, none⟩ = some (.int .i64 R) ∧ w'.cell? ⟨w.heap.size, 4, none⟩ = some (.int .i64 P) ∧ w'.cell? ⟨w.heap.size, 5, none⟩ = some (.int .i64 S) ∧ w'.cell? ⟨w.heap.size, 6, none⟩ = some (.slice ea el ec) ∧ w'.cell? ⟨w.heap.size, 7, none⟩ = some (.slice ca cl cc) ∧ w'.cell? ⟨w.heap.size, 8, none⟩ = some (.slice sa sl sc) ∧ w'.cell? ⟨w.heap.size, 9, none⟩ = some (.slice ma ml mc) ∧ w'.cell? ⟨w.heap.size + 1, 5, none⟩ = some (.slice (some ⟨g, o, none⟩) ll lc) ∧ w'.cell? ⟨g, o + k * 3, none⟩ = some (.int .i64 s.kind) ∧ w'.cell? ⟨g, o + k * 3 + 1, none⟩ = some (.int .i64 s.n) ∧ w'.cell? ⟨g, o + k * 3 + 2, none⟩ = some (.int .u64 s.w))
            (first | exact ⟨HF2.out.cell (by simp) b0, HF2.out.cell (by simp) b1, HF2.out.cell (by simp) b2, HF2.out.cell (by simp) b3, HF2.out.cell (by simp) b4, HF2.out.cell (by simp) b5, HF2.out.cell (by simp) b6, HF2.out.cell (by simp) b7, HF2.out.cell (by simp) b8, HF2.out.cell (by simp) b9, HF2.out.cell (by simp) r5, HF2.out.cell (by simp) c0, HF2.out.cell (by simp) c1, HF2.out.cell (by simp) c2⟩ | go_keep)
            ((go_at_call 67; (with_reducible refine (hc _).mono ?_); rintro e w2 ⟨rfl, hF⟩; have HF2 : Hid (Fr [] wr w2) := Lib.hid ((Fr.refl [] wr).drew.trans hF); clear hF))
          go_wp2_with fail
          go_roundw
          case rel => exact ⟨k + 1, by omega, by go_num, HF.out.trans HF2.out, HF2.out.heap (by simp) HB.out, HF2.out.heap (by simp) HI.out, HE⟩
          case measure => simp [intOf]; omega
      · have hkn : k = ll := by omega
        have HE := Lib.hid (all_end HTT.out (hkn.trans HLL.out))
        have HO2 : Hid (ok = (b3 && wtn n 0 (grt S ml op) && wrdOk ⟨op, n, ⟨dk, dn, dw⟩, la, l, lc, x⟩)) := Lib.hid (by rw [HO1.out, HE.out]; simp)
        have hkd : ¬ (k : Int) < (ll : Int) := by omega
        have b0 := cell_of_heap (o := 0) HB.out rfl; have b1 := cell_of_heap (o := 1) HB.out rfl; have b2 := cell_of_heap (o := 2) HB.out rfl; have b3 := cell_of_heap (o := 3) HB.out rfl; have b4 := cell_of_heap (o := 4) HB.out rfl; have b5 := cell_of_heap (o := 5) HB.out rfl; have b6 := cell_of_heap (o := 6) HB.out rfl; have b7 := cell_of_heap (o := 7) HB.out rfl; have b8 := cell_of_heap (o := 8) HB.out rfl; have b9 := cell_of_heap (o := 9) HB.out rfl
        have r0 := cell_of_heap (o := 0) HI.out rfl; have r1 := cell_of_heap (o := 1) HI.out rfl; have r2 := cell_of_heap (o := 2) HI.out rfl; have r3 := cell_of_heap (o := 3) HI.out rfl; have r4 := cell_of_heap (o := 4) HI.out rfl; have r5 := cell_of_heap (o := 5) HI.out rfl; have r6 := cell_of_heap (o := 6) HI.out rfl
        clear hkn hlt HE HO1 HTT HSO
        cases hlv : lvs op
        · simp only [hlv] at hl
          have HD := Lib.hid HRS.out
          rw [hlv, if_neg (by simp)] at HD
          by_cases hz : dk = 0 ∧ dn = 0 ∧ dw = 0
          · obtain ⟨rfl, rfl, rfl⟩ := hz
            have HO3 : Hid (ok = (wtn n 0 (grt S ml op) && wrdOk ⟨op, n, ⟨0, 0, 0⟩, la, l, lc, x⟩)) := Lib.hid (by rw [HO2.out, HD.out]; simp)
            have hop : op = 4 ∨ op = 5 ∨ op = 6 ∨ op = 8 ∨ op = 9 := by
              have h1 := HOP.out
              simp [lvs] at hlv
              omega
            clear HO2 HD HRS HOP hlv HGT HBA
            rcases hop with rfl | rfl | rfl | rfl | rfl
            · cases hio : iodd x
              · have hx := HX0.out hio
                clear hio HX0 HX1 HX2
                have HV : Hid (ok = decide ((0 ≤ n ∧ n ≤ 4095) ∧ x = 0)) := Lib.hid (by rw [HO3.out, Bool.eq_iff_iff]; simp [wtn, grt, wrdOk])
                clear HO3
                go_wp2_with (first
                  | (go_at_call 96; refine (hl _).mono ?_; rintro e w' ⟨rfl, rfl⟩)
                  | (go_at_call 98; refine (hx _).mono ?_; rintro e w' ⟨rfl, rfl⟩))
                all_goals (go_ret; exact ⟨ret1 (vb (by have hv := HV.out; rw [hv, Bool.eq_iff_iff]; first | (simp; done) | (simp; omega) | (simp at *; omega))), HF.out⟩)
              · have hx := HX1.out hio
                clear hio HX0 HX1 HX2
                have HV : Hid (ok = decide ((0 ≤ n ∧ n ≤ 4095) ∧ x = 0)) := Lib.hid (by rw [HO3.out, Bool.eq_iff_iff]; simp [wtn, grt, wrdOk])
                clear HO3
                go_wp2_with (first
                  | (go_at_call 96; refine (hl _).mono ?_; rintro e w' ⟨rfl, rfl⟩)
                  | (go_at_call 98; refine (hx _).mono ?_; rintro e w' ⟨rfl, rfl⟩))
                all_goals (go_ret; exact ⟨ret1 (vb (by have hv := HV.out; rw [hv, Bool.eq_iff_iff]; first | (simp; done) | (simp; omega) | (simp at *; omega))), HF.out⟩)
            · cases hio : iodd x
              · have hx := HX0.out hio
                clear hio HX0 HX1 HX2
                have HV : Hid (ok = decide ((0 ≤ n ∧ n ≤ (ml : Int) - 1) ∧ x = 0)) := Lib.hid (by rw [HO3.out, Bool.eq_iff_iff]; simp [wtn, grt, wrdOk])
                have e1 : IntKind.i64.wrap ((ml : Int) - 1) = (ml : Int) - 1 := IntWalk.i64_in _ (by omega)
                clear HO3
                go_wp2_with (first
                  | (go_at_call 96; refine (hl _).mono ?_; rintro e w' ⟨rfl, rfl⟩)
                  | (go_at_call 98; refine (hx _).mono ?_; rintro e w' ⟨rfl, rfl⟩))
                all_goals (go_ret; exact ⟨ret1 (vb (by have hv := HV.out; rw [hv, Bool.eq_iff_iff]; first | (simp; done) | (simp; omega) | (simp at *; omega))), HF.out⟩)
              · have hx := HX1.out hio
                clear hio HX0 HX1 HX2
                have HV : Hid (ok = decide ((0 ≤ n ∧ n ≤ (ml : Int) - 1) ∧ x = 0)) := Lib.hid (by rw [HO3.out, Bool.eq_iff_iff]; simp [wtn, grt, wrdOk])
                have e1 : IntKind.i64.wrap ((ml : Int) - 1) = (ml : Int) - 1 := IntWalk.i64_in _ (by omega)
                clear HO3
                go_wp2_with (first
                  | (go_at_call 96; refine (hl _).mono ?_; rintro e w' ⟨rfl, rfl⟩)
                  | (go_at_call 98; refine (hx _).mono ?_; rintro e w' ⟨rfl, rfl⟩))
                all_goals (go_ret; exact ⟨ret1 (vb (by have hv := HV.out; rw [hv, Bool.eq_iff_iff]; first | (simp; done) | (simp; omega) | (simp at *; omega))), HF.out⟩)
            · cases hio : iodd x
              · have hx := HX0.out hio
                have HXO : Hid (¬ (x = 1 ∨ x = 3)) := Lib.hid (by simp [iodd] at hio; omega)
                clear hio HX0 HX1 HX2
                have HV : Hid (ok = decide ((0 ≤ n ∧ n ≤ (ml : Int) - 1) ∧ (x = 1 ∨ x = 3))) := Lib.hid (by rw [HO3.out, Bool.eq_iff_iff]; simp [wtn, grt, wrdOk])
                have e1 : IntKind.i64.wrap ((ml : Int) - 1) = (ml : Int) - 1 := IntWalk.i64_in _ (by omega)
                clear HO3
                go_wp2_with (first
                  | (go_at_call 96; refine (hl _).mono ?_; rintro e w' ⟨rfl, rfl⟩)
                  | (go_at_call 98; refine (hx _).mono ?_; rintro e w' ⟨rfl, rfl⟩))
                all_goals (go_ret; exact ⟨ret1 (vb (by have hv := HV.out; have hi := HXO.out; rw [hv, Bool.eq_iff_iff]; first | (simp; done) | (simp; omega) | (simp at *; omega))), HF.out⟩)
              · have hx := HX1.out hio
                have HX3 := Lib.hid (HX2.out hio)
                clear hio HX0 HX1 HX2
                have HV : Hid (ok = decide ((0 ≤ n ∧ n ≤ (ml : Int) - 1) ∧ (x = 1 ∨ x = 3))) := Lib.hid (by rw [HO3.out, Bool.eq_iff_iff]; simp [wtn, grt, wrdOk])
                have e1 : IntKind.i64.wrap ((ml : Int) - 1) = (ml : Int) - 1 := IntWalk.i64_in _ (by omega)
                clear HO3
                go_wp2_with (first
                  | (go_at_call 96; refine (hl _).mono ?_; rintro e w' ⟨rfl, rfl⟩)
                  | (go_at_call 98; refine (hx _).mono ?_; rintro e w' ⟨rfl, rfl⟩))
                all_goals (go_ret; exact ⟨ret1 (vb (by have hv := HV.out; have hi := HX3.out; rw [hv, Bool.eq_iff_iff]; first | (simp; done) | (simp; omega) | (simp at *; omega))), HF.out⟩)
            · cases hio : iodd x
              · have hx := HX0.out hio
                clear hio HX0 HX1 HX2
                have HV : Hid (ok = decide ((0 ≤ n ∧ n ≤ 0) ∧ x = 0)) := Lib.hid (by rw [HO3.out, Bool.eq_iff_iff]; simp [wtn, grt, wrdOk])
                clear HO3
                go_wp2_with (first
                  | (go_at_call 96; refine (hl _).mono ?_; rintro e w' ⟨rfl, rfl⟩)
                  | (go_at_call 98; refine (hx _).mono ?_; rintro e w' ⟨rfl, rfl⟩))
                all_goals (go_ret; exact ⟨ret1 (vb (by have hv := HV.out; rw [hv, Bool.eq_iff_iff]; first | (simp; done) | (simp; omega) | (simp at *; omega))), HF.out⟩)
              · have hx := HX1.out hio
                clear hio HX0 HX1 HX2
                have HV : Hid (ok = decide ((0 ≤ n ∧ n ≤ 0) ∧ x = 0)) := Lib.hid (by rw [HO3.out, Bool.eq_iff_iff]; simp [wtn, grt, wrdOk])
                clear HO3
                go_wp2_with (first
                  | (go_at_call 96; refine (hl _).mono ?_; rintro e w' ⟨rfl, rfl⟩)
                  | (go_at_call 98; refine (hx _).mono ?_; rintro e w' ⟨rfl, rfl⟩))
                all_goals (go_ret; exact ⟨ret1 (vb (by have hv := HV.out; rw [hv, Bool.eq_iff_iff]; first | (simp; done) | (simp; omega) | (simp at *; omega))), HF.out⟩)
            · cases hio : iodd x
              · have hx := HX0.out hio
                clear hio HX0 HX1 HX2
                have HV : Hid (ok = decide ((0 ≤ n ∧ n ≤ 0) ∧ x = 0)) := Lib.hid (by rw [HO3.out, Bool.eq_iff_iff]; simp [wtn, grt, wrdOk])
                clear HO3
                go_wp2_with (first
                  | (go_at_call 96; refine (hl _).mono ?_; rintro e w' ⟨rfl, rfl⟩)
                  | (go_at_call 98; refine (hx _).mono ?_; rintro e w' ⟨rfl, rfl⟩))
                all_goals (go_ret; exact ⟨ret1 (vb (by have hv := HV.out; rw [hv, Bool.eq_iff_iff]; first | (simp; done) | (simp; omega) | (simp at *; omega))), HF.out⟩)
              · have hx := HX1.out hio
                clear hio HX0 HX1 HX2
                have HV : Hid (ok = decide ((0 ≤ n ∧ n ≤ 0) ∧ x = 0)) := Lib.hid (by rw [HO3.out, Bool.eq_iff_iff]; simp [wtn, grt, wrdOk])
                clear HO3
                go_wp2_with (first
                  | (go_at_call 96; refine (hl _).mono ?_; rintro e w' ⟨rfl, rfl⟩)
                  | (go_at_call 98; refine (hx _).mono ?_; rintro e w' ⟨rfl, rfl⟩))
                all_goals (go_ret; exact ⟨ret1 (vb (by have hv := HV.out; rw [hv, Bool.eq_iff_iff]; first | (simp; done) | (simp; omega) | (simp at *; omega))), HF.out⟩)
          · have HV : Hid (ok = false) := Lib.hid (by rw [HO2.out, HD.out]; simp [hz])
            have hzz : (dk == 0) = false ∨ dk = 0 ∧ (dn == 0) = false ∨ dk = 0 ∧ dn = 0 ∧ (dw == 0) = false := by simp; omega
            clear HO2 HD HRS HOP hlv HGT HBA hz
            rcases hzz with hz | ⟨rfl, hz⟩ | ⟨rfl, rfl, hz⟩
            all_goals
              go_wp2_with (first | (go_at_call 96; refine (hl _).mono ?_; rintro e w' ⟨rfl, rfl⟩))
              go_ret
              exact ⟨ret1 (vb HV.out.symm), HF.out⟩
        · simp only [hlv] at hl
          have HD := Lib.hid HRS.out
          rw [hlv, if_pos rfl] at HD
          generalize plc ⟨dk, dn, dw⟩ = pl at *
          generalize srcOk R P ⟨dk, dn, dw⟩ = so at *
          cases pl
          · have HV : Hid (ok = false) := Lib.hid (by rw [HO2.out, HD.out]; simp)
            clear HO2 HD HRS HOP hlv HGT HBA
            go_wp2_with (first
              | (go_at_call 96; refine (hl _).mono ?_; rintro e w' ⟨rfl, rfl⟩)
              | (go_at_call 97; refine (hp _).mono ?_; rintro e w2 ⟨rfl, hF⟩; have HF2 : Hid (Fr [] wr w2) := Lib.hid hF; have HB2 := Lib.hid (hF.heap (by simp) HB.out); have HI2 := Lib.hid (hF.heap (by simp) HI.out); have d0 := cell_of_heap (o := 0) HB2.out rfl; have d1 := cell_of_heap (o := 1) HB2.out rfl; have d2 := cell_of_heap (o := 2) HB2.out rfl; have d3 := cell_of_heap (o := 3) HB2.out rfl; have d4 := cell_of_heap (o := 4) HB2.out rfl; have d5 := cell_of_heap (o := 5) HB2.out rfl; have d6 := cell_of_heap (o := 6) HB2.out rfl; have d7 := cell_of_heap (o := 7) HB2.out rfl; have d8 := cell_of_heap (o := 8) HB2.out rfl; have d9 := cell_of_heap (o := 9) HB2.out rfl; have q0 := cell_of_heap (o := 0) HI2.out rfl; have q1 := cell_of_heap (o := 1) HI2.out rfl; have q2 := cell_of_heap (o := 2) HI2.out rfl; have q3 := cell_of_heap (o := 3) HI2.out rfl; have q4 := cell_of_heap (o := 4) HI2.out rfl; have q5 := cell_of_heap (o := 5) HI2.out rfl; have q6 := cell_of_heap (o := 6) HI2.out rfl; have hw2 := lt_of_heap HI2.out; clear hF))
            go_ret
            exact ⟨ret1 (vb HV.out.symm), HF.out.trans HF2.out⟩
          · cases so
            · have HV : Hid (ok = false) := Lib.hid (by rw [HO2.out, HD.out]; simp)
              clear HO2 HD HRS HOP hlv HGT HBA
              go_wp2_with (first
                | (go_at_call 96; refine (hl _).mono ?_; rintro e w' ⟨rfl, rfl⟩)
                | (go_at_call 97; refine (hp _).mono ?_; rintro e w2 ⟨rfl, hF⟩; have HF2 : Hid (Fr [] wr w2) := Lib.hid hF; have HB2 := Lib.hid (hF.heap (by simp) HB.out); have HI2 := Lib.hid (hF.heap (by simp) HI.out); have d0 := cell_of_heap (o := 0) HB2.out rfl; have d1 := cell_of_heap (o := 1) HB2.out rfl; have d2 := cell_of_heap (o := 2) HB2.out rfl; have d3 := cell_of_heap (o := 3) HB2.out rfl; have d4 := cell_of_heap (o := 4) HB2.out rfl; have d5 := cell_of_heap (o := 5) HB2.out rfl; have d6 := cell_of_heap (o := 6) HB2.out rfl; have d7 := cell_of_heap (o := 7) HB2.out rfl; have d8 := cell_of_heap (o := 8) HB2.out rfl; have d9 := cell_of_heap (o := 9) HB2.out rfl; have q0 := cell_of_heap (o := 0) HI2.out rfl; have q1 := cell_of_heap (o := 1) HI2.out rfl; have q2 := cell_of_heap (o := 2) HI2.out rfl; have q3 := cell_of_heap (o := 3) HI2.out rfl; have q4 := cell_of_heap (o := 4) HI2.out rfl; have q5 := cell_of_heap (o := 5) HI2.out rfl; have q6 := cell_of_heap (o := 6) HI2.out rfl; have hw2 := lt_of_heap HI2.out; clear hF)
                | (go_at_call 67; refine (hd _).mono ?_; rintro e w3 ⟨rfl, hF⟩; have HF3 : Hid (Fr [] wr w3) := Lib.hid (HF2.out.trans hF); have HB3 := Lib.hid (hF.heap (by simp) HB2.out); have HI3 := Lib.hid (hF.heap (by simp) HI2.out); have m0 := cell_of_heap (o := 0) HB3.out rfl; have m1 := cell_of_heap (o := 1) HB3.out rfl; have m2 := cell_of_heap (o := 2) HB3.out rfl; have m3 := cell_of_heap (o := 3) HB3.out rfl; have m4 := cell_of_heap (o := 4) HB3.out rfl; have m5 := cell_of_heap (o := 5) HB3.out rfl; have m6 := cell_of_heap (o := 6) HB3.out rfl; have m7 := cell_of_heap (o := 7) HB3.out rfl; have m8 := cell_of_heap (o := 8) HB3.out rfl; have m9 := cell_of_heap (o := 9) HB3.out rfl; have p0 := cell_of_heap (o := 0) HI3.out rfl; have p1 := cell_of_heap (o := 1) HI3.out rfl; have p2 := cell_of_heap (o := 2) HI3.out rfl; have p3 := cell_of_heap (o := 3) HI3.out rfl; have p4 := cell_of_heap (o := 4) HI3.out rfl; have p5 := cell_of_heap (o := 5) HI3.out rfl; have p6 := cell_of_heap (o := 6) HI3.out rfl; have hw3 := lt_of_heap HI3.out; clear hF))
              go_ret
              exact ⟨ret1 (vb HV.out.symm), HF.out.trans HF3.out⟩
            · have HO3 : Hid (ok = (wtn n 0 (grt S ml op) && wrdOk ⟨op, n, ⟨dk, dn, dw⟩, la, l, lc, x⟩)) := Lib.hid (by rw [HO2.out, HD.out]; simp)
              have hop : op = 1 ∨ op = 2 ∨ op = 3 ∨ op = 7 := by simpa [lvs] using hlv
              clear HO2 HD HRS HOP hlv HGT HBA
              rcases hop with rfl | rfl | rfl | rfl
              · cases hio : iodd x
                · have hx := HX0.out hio
                  clear hio HX0 HX1 HX2
                  have HV : Hid (ok = decide ((0 ≤ n ∧ n ≤ 0) ∧ x = 0)) := Lib.hid (by rw [HO3.out, Bool.eq_iff_iff]; simp [wtn, grt, wrdOk])
                  clear HO3
                  go_wp2_with (first
                    | (go_at_call 96; refine (hl _).mono ?_; rintro e w' ⟨rfl, rfl⟩)
                    | (go_at_call 98; refine (hx _).mono ?_; rintro e w' ⟨rfl, rfl⟩)
                    | (go_at_call 97; refine (hp _).mono ?_; rintro e w2 ⟨rfl, hF⟩; have HF2 : Hid (Fr [] wr w2) := Lib.hid hF; have HB2 := Lib.hid (hF.heap (by simp) HB.out); have HI2 := Lib.hid (hF.heap (by simp) HI.out); have d0 := cell_of_heap (o := 0) HB2.out rfl; have d1 := cell_of_heap (o := 1) HB2.out rfl; have d2 := cell_of_heap (o := 2) HB2.out rfl; have d3 := cell_of_heap (o := 3) HB2.out rfl; have d4 := cell_of_heap (o := 4) HB2.out rfl; have d5 := cell_of_heap (o := 5) HB2.out rfl; have d6 := cell_of_heap (o := 6) HB2.out rfl; have d7 := cell_of_heap (o := 7) HB2.out rfl; have d8 := cell_of_heap (o := 8) HB2.out rfl; have d9 := cell_of_heap (o := 9) HB2.out rfl; have q0 := cell_of_heap (o := 0) HI2.out rfl; have q1 := cell_of_heap (o := 1) HI2.out rfl; have q2 := cell_of_heap (o := 2) HI2.out rfl; have q3 := cell_of_heap (o := 3) HI2.out rfl; have q4 := cell_of_heap (o := 4) HI2.out rfl; have q5 := cell_of_heap (o := 5) HI2.out rfl; have q6 := cell_of_heap (o := 6) HI2.out rfl; have hw2 := lt_of_heap HI2.out; clear hF)
                    | (go_at_call 67; refine (hd _).mono ?_; rintro e w3 ⟨rfl, hF⟩; have HF3 : Hid (Fr [] wr w3) := Lib.hid (HF2.out.trans hF); have HB3 := Lib.hid (hF.heap (by simp) HB2.out); have HI3 := Lib.hid (hF.heap (by simp) HI2.out); have m0 := cell_of_heap (o := 0) HB3.out rfl; have m1 := cell_of_heap (o := 1) HB3.out rfl; have m2 := cell_of_heap (o := 2) HB3.out rfl; have m3 := cell_of_heap (o := 3) HB3.out rfl; have m4 := cell_of_heap (o := 4) HB3.out rfl; have m5 := cell_of_heap (o := 5) HB3.out rfl; have m6 := cell_of_heap (o := 6) HB3.out rfl; have m7 := cell_of_heap (o := 7) HB3.out rfl; have m8 := cell_of_heap (o := 8) HB3.out rfl; have m9 := cell_of_heap (o := 9) HB3.out rfl; have p0 := cell_of_heap (o := 0) HI3.out rfl; have p1 := cell_of_heap (o := 1) HI3.out rfl; have p2 := cell_of_heap (o := 2) HI3.out rfl; have p3 := cell_of_heap (o := 3) HI3.out rfl; have p4 := cell_of_heap (o := 4) HI3.out rfl; have p5 := cell_of_heap (o := 5) HI3.out rfl; have p6 := cell_of_heap (o := 6) HI3.out rfl; have hw3 := lt_of_heap HI3.out; clear hF))
                  all_goals (go_ret; exact ⟨ret1 (vb (by have hv := HV.out; rw [hv, Bool.eq_iff_iff]; first | (simp; done) | (simp; omega) | (simp at *; omega))), HF.out.trans HF3.out⟩)
                · have hx := HX1.out hio
                  clear hio HX0 HX1 HX2
                  have HV : Hid (ok = decide ((0 ≤ n ∧ n ≤ 0) ∧ x = 0)) := Lib.hid (by rw [HO3.out, Bool.eq_iff_iff]; simp [wtn, grt, wrdOk])
                  clear HO3
                  go_wp2_with (first
                    | (go_at_call 96; refine (hl _).mono ?_; rintro e w' ⟨rfl, rfl⟩)
                    | (go_at_call 98; refine (hx _).mono ?_; rintro e w' ⟨rfl, rfl⟩)
                    | (go_at_call 97; refine (hp _).mono ?_; rintro e w2 ⟨rfl, hF⟩; have HF2 : Hid (Fr [] wr w2) := Lib.hid hF; have HB2 := Lib.hid (hF.heap (by simp) HB.out); have HI2 := Lib.hid (hF.heap (by simp) HI.out); have d0 := cell_of_heap (o := 0) HB2.out rfl; have d1 := cell_of_heap (o := 1) HB2.out rfl; have d2 := cell_of_heap (o := 2) HB2.out rfl; have d3 := cell_of_heap (o := 3) HB2.out rfl; have d4 := cell_of_heap (o := 4) HB2.out rfl; have d5 := cell_of_heap (o := 5) HB2.out rfl; have d6 := cell_of_heap (o := 6) HB2.out rfl; have d7 := cell_of_heap (o := 7) HB2.out rfl; have d8 := cell_of_heap (o := 8) HB2.out rfl; have d9 := cell_of_heap (o := 9) HB2.out rfl; have q0 := cell_of_heap (o := 0) HI2.out rfl; have q1 := cell_of_heap (o := 1) HI2.out rfl; have q2 := cell_of_heap (o := 2) HI2.out rfl; have q3 := cell_of_heap (o := 3) HI2.out rfl; have q4 := cell_of_heap (o := 4) HI2.out rfl; have q5 := cell_of_heap (o := 5) HI2.out rfl; have q6 := cell_of_heap (o := 6) HI2.out rfl; have hw2 := lt_of_heap HI2.out; clear hF)
                    | (go_at_call 67; refine (hd _).mono ?_; rintro e w3 ⟨rfl, hF⟩; have HF3 : Hid (Fr [] wr w3) := Lib.hid (HF2.out.trans hF); have HB3 := Lib.hid (hF.heap (by simp) HB2.out); have HI3 := Lib.hid (hF.heap (by simp) HI2.out); have m0 := cell_of_heap (o := 0) HB3.out rfl; have m1 := cell_of_heap (o := 1) HB3.out rfl; have m2 := cell_of_heap (o := 2) HB3.out rfl; have m3 := cell_of_heap (o := 3) HB3.out rfl; have m4 := cell_of_heap (o := 4) HB3.out rfl; have m5 := cell_of_heap (o := 5) HB3.out rfl; have m6 := cell_of_heap (o := 6) HB3.out rfl; have m7 := cell_of_heap (o := 7) HB3.out rfl; have m8 := cell_of_heap (o := 8) HB3.out rfl; have m9 := cell_of_heap (o := 9) HB3.out rfl; have p0 := cell_of_heap (o := 0) HI3.out rfl; have p1 := cell_of_heap (o := 1) HI3.out rfl; have p2 := cell_of_heap (o := 2) HI3.out rfl; have p3 := cell_of_heap (o := 3) HI3.out rfl; have p4 := cell_of_heap (o := 4) HI3.out rfl; have p5 := cell_of_heap (o := 5) HI3.out rfl; have p6 := cell_of_heap (o := 6) HI3.out rfl; have hw3 := lt_of_heap HI3.out; clear hF))
                  all_goals (go_ret; exact ⟨ret1 (vb (by have hv := HV.out; rw [hv, Bool.eq_iff_iff]; first | (simp; done) | (simp; omega) | (simp at *; omega))), HF.out.trans HF3.out⟩)
              · cases hio : iodd x
                · have hx := HX0.out hio
                  clear hio HX0 HX1 HX2
                  have HV : Hid (ok = decide ((0 ≤ n ∧ n ≤ 7) ∧ x = 0)) := Lib.hid (by rw [HO3.out, Bool.eq_iff_iff]; simp [wtn, grt, wrdOk])
                  clear HO3
                  go_wp2_with (first
                    | (go_at_call 96; refine (hl _).mono ?_; rintro e w' ⟨rfl, rfl⟩)
                    | (go_at_call 98; refine (hx _).mono ?_; rintro e w' ⟨rfl, rfl⟩)
                    | (go_at_call 97; refine (hp _).mono ?_; rintro e w2 ⟨rfl, hF⟩; have HF2 : Hid (Fr [] wr w2) := Lib.hid hF; have HB2 := Lib.hid (hF.heap (by simp) HB.out); have HI2 := Lib.hid (hF.heap (by simp) HI.out); have d0 := cell_of_heap (o := 0) HB2.out rfl; have d1 := cell_of_heap (o := 1) HB2.out rfl; have d2 := cell_of_heap (o := 2) HB2.out rfl; have d3 := cell_of_heap (o := 3) HB2.out rfl; have d4 := cell_of_heap (o := 4) HB2.out rfl; have d5 := cell_of_heap (o := 5) HB2.out rfl; have d6 := cell_of_heap (o := 6) HB2.out rfl; have d7 := cell_of_heap (o := 7) HB2.out rfl; have d8 := cell_of_heap (o := 8) HB2.out rfl; have d9 := cell_of_heap (o := 9) HB2.out rfl; have q0 := cell_of_heap (o := 0) HI2.out rfl; have q1 := cell_of_heap (o := 1) HI2.out rfl; have q2 := cell_of_heap (o := 2) HI2.out rfl; have q3 := cell_of_heap (o := 3) HI2.out rfl; have q4 := cell_of_heap (o := 4) HI2.out rfl; have q5 := cell_of_heap (o := 5) HI2.out rfl; have q6 := cell_of_heap (o := 6) HI2.out rfl; have hw2 := lt_of_heap HI2.out; clear hF)
                    | (go_at_call 67; refine (hd _).mono ?_; rintro e w3 ⟨rfl, hF⟩; have HF3 : Hid (Fr [] wr w3) := Lib.hid (HF2.out.trans hF); have HB3 := Lib.hid (hF.heap (by simp) HB2.out); have HI3 := Lib.hid (hF.heap (by simp) HI2.out); have m0 := cell_of_heap (o := 0) HB3.out rfl; have m1 := cell_of_heap (o := 1) HB3.out rfl; have m2 := cell_of_heap (o := 2) HB3.out rfl; have m3 := cell_of_heap (o := 3) HB3.out rfl; have m4 := cell_of_heap (o := 4) HB3.out rfl; have m5 := cell_of_heap (o := 5) HB3.out rfl; have m6 := cell_of_heap (o := 6) HB3.out rfl; have m7 := cell_of_heap (o := 7) HB3.out rfl; have m8 := cell_of_heap (o := 8) HB3.out rfl; have m9 := cell_of_heap (o := 9) HB3.out rfl; have p0 := cell_of_heap (o := 0) HI3.out rfl; have p1 := cell_of_heap (o := 1) HI3.out rfl; have p2 := cell_of_heap (o := 2) HI3.out rfl; have p3 := cell_of_heap (o := 3) HI3.out rfl; have p4 := cell_of_heap (o := 4) HI3.out rfl; have p5 := cell_of_heap (o := 5) HI3.out rfl; have p6 := cell_of_heap (o := 6) HI3.out rfl; have hw3 := lt_of_heap HI3.out; clear hF))
                  all_goals (go_ret; exact ⟨ret1 (vb (by have hv := HV.out; rw [hv, Bool.eq_iff_iff]; first | (simp; done) | (simp; omega) | (simp at *; omega))), HF.out.trans HF3.out⟩)
                · have hx := HX1.out hio
                  clear hio HX0 HX1 HX2
                  have HV : Hid (ok = decide ((0 ≤ n ∧ n ≤ 7) ∧ x = 0)) := Lib.hid (by rw [HO3.out, Bool.eq_iff_iff]; simp [wtn, grt, wrdOk])
                  clear HO3
                  go_wp2_with (first
                    | (go_at_call 96; refine (hl _).mono ?_; rintro e w' ⟨rfl, rfl⟩)
                    | (go_at_call 98; refine (hx _).mono ?_; rintro e w' ⟨rfl, rfl⟩)
                    | (go_at_call 97; refine (hp _).mono ?_; rintro e w2 ⟨rfl, hF⟩; have HF2 : Hid (Fr [] wr w2) := Lib.hid hF; have HB2 := Lib.hid (hF.heap (by simp) HB.out); have HI2 := Lib.hid (hF.heap (by simp) HI.out); have d0 := cell_of_heap (o := 0) HB2.out rfl; have d1 := cell_of_heap (o := 1) HB2.out rfl; have d2 := cell_of_heap (o := 2) HB2.out rfl; have d3 := cell_of_heap (o := 3) HB2.out rfl; have d4 := cell_of_heap (o := 4) HB2.out rfl; have d5 := cell_of_heap (o := 5) HB2.out rfl; have d6 := cell_of_heap (o := 6) HB2.out rfl; have d7 := cell_of_heap (o := 7) HB2.out rfl; have d8 := cell_of_heap (o := 8) HB2.out rfl; have d9 := cell_of_heap (o := 9) HB2.out rfl; have q0 := cell_of_heap (o := 0) HI2.out rfl; have q1 := cell_of_heap (o := 1) HI2.out rfl; have q2 := cell_of_heap (o := 2) HI2.out rfl; have q3 := cell_of_heap (o := 3) HI2.out rfl; have q4 := cell_of_heap (o := 4) HI2.out rfl; have q5 := cell_of_heap (o := 5) HI2.out rfl; have q6 := cell_of_heap (o := 6) HI2.out rfl; have hw2 := lt_of_heap HI2.out; clear hF)
                    | (go_at_call 67; refine (hd _).mono ?_; rintro e w3 ⟨rfl, hF⟩; have HF3 : Hid (Fr [] wr w3) := Lib.hid (HF2.out.trans hF); have HB3 := Lib.hid (hF.heap (by simp) HB2.out); have HI3 := Lib.hid (hF.heap (by simp) HI2.out); have m0 := cell_of_heap (o := 0) HB3.out rfl; have m1 := cell_of_heap (o := 1) HB3.out rfl; have m2 := cell_of_heap (o := 2) HB3.out rfl; have m3 := cell_of_heap (o := 3) HB3.out rfl; have m4 := cell_of_heap (o := 4) HB3.out rfl; have m5 := cell_of_heap (o := 5) HB3.out rfl; have m6 := cell_of_heap (o := 6) HB3.out rfl; have m7 := cell_of_heap (o := 7) HB3.out rfl; have m8 := cell_of_heap (o := 8) HB3.out rfl; have m9 := cell_of_heap (o := 9) HB3.out rfl; have p0 := cell_of_heap (o := 0) HI3.out rfl; have p1 := cell_of_heap (o := 1) HI3.out rfl; have p2 := cell_of_heap (o := 2) HI3.out rfl; have p3 := cell_of_heap (o := 3) HI3.out rfl; have p4 := cell_of_heap (o := 4) HI3.out rfl; have p5 := cell_of_heap (o := 5) HI3.out rfl; have p6 := cell_of_heap (o := 6) HI3.out rfl; have hw3 := lt_of_heap HI3.out; clear hF))
                  all_goals (go_ret; exact ⟨ret1 (vb (by have hv := HV.out; rw [hv, Bool.eq_iff_iff]; first | (simp; done) | (simp; omega) | (simp at *; omega))), HF.out.trans HF3.out⟩)
              · cases hio : iodd x
                · have hx := HX0.out hio
                  clear hio HX0 HX1 HX2
                  have HV : Hid (ok = decide ((0 ≤ n ∧ n ≤ 4095) ∧ x = 0)) := Lib.hid (by rw [HO3.out, Bool.eq_iff_iff]; simp [wtn, grt, wrdOk])
                  clear HO3
                  go_wp2_with (first
                    | (go_at_call 96; refine (hl _).mono ?_; rintro e w' ⟨rfl, rfl⟩)
                    | (go_at_call 98; refine (hx _).mono ?_; rintro e w' ⟨rfl, rfl⟩)
                    | (go_at_call 97; refine (hp _).mono ?_; rintro e w2 ⟨rfl, hF⟩; have HF2 : Hid (Fr [] wr w2) := Lib.hid hF; have HB2 := Lib.hid (hF.heap (by simp) HB.out); have HI2 := Lib.hid (hF.heap (by simp) HI.out); have d0 := cell_of_heap (o := 0) HB2.out rfl; have d1 := cell_of_heap (o := 1) HB2.out rfl; have d2 := cell_of_heap (o := 2) HB2.out rfl; have d3 := cell_of_heap (o := 3) HB2.out rfl; have d4 := cell_of_heap (o := 4) HB2.out rfl; have d5 := cell_of_heap (o := 5) HB2.out rfl; have d6 := cell_of_heap (o := 6) HB2.out rfl; have d7 := cell_of_heap (o := 7) HB2.out rfl; have d8 := cell_of_heap (o := 8) HB2.out rfl; have d9 := cell_of_heap (o := 9) HB2.out rfl; have q0 := cell_of_heap (o := 0) HI2.out rfl; have q1 := cell_of_heap (o := 1) HI2.out rfl; have q2 := cell_of_heap (o := 2) HI2.out rfl; have q3 := cell_of_heap (o := 3) HI2.out rfl; have q4 := cell_of_heap (o := 4) HI2.out rfl; have q5 := cell_of_heap (o := 5) HI2.out rfl; have q6 := cell_of_heap (o := 6) HI2.out rfl; have hw2 := lt_of_heap HI2.out; clear hF)
                    | (go_at_call 67; refine (hd _).mono ?_; rintro e w3 ⟨rfl, hF⟩; have HF3 : Hid (Fr [] wr w3) := Lib.hid (HF2.out.trans hF); have HB3 := Lib.hid (hF.heap (by simp) HB2.out); have HI3 := Lib.hid (hF.heap (by simp) HI2.out); have m0 := cell_of_heap (o := 0) HB3.out rfl; have m1 := cell_of_heap (o := 1) HB3.out rfl; have m2 := cell_of_heap (o := 2) HB3.out rfl; have m3 := cell_of_heap (o := 3) HB3.out rfl; have m4 := cell_of_heap (o := 4) HB3.out rfl; have m5 := cell_of_heap (o := 5) HB3.out rfl; have m6 := cell_of_heap (o := 6) HB3.out rfl; have m7 := cell_of_heap (o := 7) HB3.out rfl; have m8 := cell_of_heap (o := 8) HB3.out rfl; have m9 := cell_of_heap (o := 9) HB3.out rfl; have p0 := cell_of_heap (o := 0) HI3.out rfl; have p1 := cell_of_heap (o := 1) HI3.out rfl; have p2 := cell_of_heap (o := 2) HI3.out rfl; have p3 := cell_of_heap (o := 3) HI3.out rfl; have p4 := cell_of_heap (o := 4) HI3.out rfl; have p5 := cell_of_heap (o := 5) HI3.out rfl; have p6 := cell_of_heap (o := 6) HI3.out rfl; have hw3 := lt_of_heap HI3.out; clear hF))
                  all_goals (go_ret; exact ⟨ret1 (vb (by have hv := HV.out; rw [hv, Bool.eq_iff_iff]; first | (simp; done) | (simp; omega) | (simp at *; omega))), HF.out.trans HF3.out⟩)
                · have hx := HX1.out hio
                  clear hio HX0 HX1 HX2
                  have HV : Hid (ok = decide ((0 ≤ n ∧ n ≤ 4095) ∧ x = 0)) := Lib.hid (by rw [HO3.out, Bool.eq_iff_iff]; simp [wtn, grt, wrdOk])
                  clear HO3
                  go_wp2_with (first
                    | (go_at_call 96; refine (hl _).mono ?_; rintro e w' ⟨rfl, rfl⟩)
                    | (go_at_call 98; refine (hx _).mono ?_; rintro e w' ⟨rfl, rfl⟩)
                    | (go_at_call 97; refine (hp _).mono ?_; rintro e w2 ⟨rfl, hF⟩; have HF2 : Hid (Fr [] wr w2) := Lib.hid hF; have HB2 := Lib.hid (hF.heap (by simp) HB.out); have HI2 := Lib.hid (hF.heap (by simp) HI.out); have d0 := cell_of_heap (o := 0) HB2.out rfl; have d1 := cell_of_heap (o := 1) HB2.out rfl; have d2 := cell_of_heap (o := 2) HB2.out rfl; have d3 := cell_of_heap (o := 3) HB2.out rfl; have d4 := cell_of_heap (o := 4) HB2.out rfl; have d5 := cell_of_heap (o := 5) HB2.out rfl; have d6 := cell_of_heap (o := 6) HB2.out rfl; have d7 := cell_of_heap (o := 7) HB2.out rfl; have d8 := cell_of_heap (o := 8) HB2.out rfl; have d9 := cell_of_heap (o := 9) HB2.out rfl; have q0 := cell_of_heap (o := 0) HI2.out rfl; have q1 := cell_of_heap (o := 1) HI2.out rfl; have q2 := cell_of_heap (o := 2) HI2.out rfl; have q3 := cell_of_heap (o := 3) HI2.out rfl; have q4 := cell_of_heap (o := 4) HI2.out rfl; have q5 := cell_of_heap (o := 5) HI2.out rfl; have q6 := cell_of_heap (o := 6) HI2.out rfl; have hw2 := lt_of_heap HI2.out; clear hF)
                    | (go_at_call 67; refine (hd _).mono ?_; rintro e w3 ⟨rfl, hF⟩; have HF3 : Hid (Fr [] wr w3) := Lib.hid (HF2.out.trans hF); have HB3 := Lib.hid (hF.heap (by simp) HB2.out); have HI3 := Lib.hid (hF.heap (by simp) HI2.out); have m0 := cell_of_heap (o := 0) HB3.out rfl; have m1 := cell_of_heap (o := 1) HB3.out rfl; have m2 := cell_of_heap (o := 2) HB3.out rfl; have m3 := cell_of_heap (o := 3) HB3.out rfl; have m4 := cell_of_heap (o := 4) HB3.out rfl; have m5 := cell_of_heap (o := 5) HB3.out rfl; have m6 := cell_of_heap (o := 6) HB3.out rfl; have m7 := cell_of_heap (o := 7) HB3.out rfl; have m8 := cell_of_heap (o := 8) HB3.out rfl; have m9 := cell_of_heap (o := 9) HB3.out rfl; have p0 := cell_of_heap (o := 0) HI3.out rfl; have p1 := cell_of_heap (o := 1) HI3.out rfl; have p2 := cell_of_heap (o := 2) HI3.out rfl; have p3 := cell_of_heap (o := 3) HI3.out rfl; have p4 := cell_of_heap (o := 4) HI3.out rfl; have p5 := cell_of_heap (o := 5) HI3.out rfl; have p6 := cell_of_heap (o := 6) HI3.out rfl; have hw3 := lt_of_heap HI3.out; clear hF))
                  all_goals (go_ret; exact ⟨ret1 (vb (by have hv := HV.out; rw [hv, Bool.eq_iff_iff]; first | (simp; done) | (simp; omega) | (simp at *; omega))), HF.out.trans HF3.out⟩)
              · cases hio : iodd x
                · have hx := HX0.out hio
                  clear hio HX0 HX1 HX2
                  have HV : Hid (ok = decide ((0 ≤ n ∧ n ≤ S - 1) ∧ x ≠ 0)) := Lib.hid (by rw [HO3.out, Bool.eq_iff_iff]; simp [wtn, grt, wrdOk])
                  have e1 : IntKind.i64.wrap (S - 1) = S - 1 := IntWalk.i64_in _ (by omega)
                  clear HO3
                  go_wp2_with (first
                    | (go_at_call 96; refine (hl _).mono ?_; rintro e w' ⟨rfl, rfl⟩)
                    | (go_at_call 98; refine (hx _).mono ?_; rintro e w' ⟨rfl, rfl⟩)
                    | (go_at_call 97; refine (hp _).mono ?_; rintro e w2 ⟨rfl, hF⟩; have HF2 : Hid (Fr [] wr w2) := Lib.hid hF; have HB2 := Lib.hid (hF.heap (by simp) HB.out); have HI2 := Lib.hid (hF.heap (by simp) HI.out); have d0 := cell_of_heap (o := 0) HB2.out rfl; have d1 := cell_of_heap (o := 1) HB2.out rfl; have d2 := cell_of_heap (o := 2) HB2.out rfl; have d3 := cell_of_heap (o := 3) HB2.out rfl; have d4 := cell_of_heap (o := 4) HB2.out rfl; have d5 := cell_of_heap (o := 5) HB2.out rfl; have d6 := cell_of_heap (o := 6) HB2.out rfl; have d7 := cell_of_heap (o := 7) HB2.out rfl; have d8 := cell_of_heap (o := 8) HB2.out rfl; have d9 := cell_of_heap (o := 9) HB2.out rfl; have q0 := cell_of_heap (o := 0) HI2.out rfl; have q1 := cell_of_heap (o := 1) HI2.out rfl; have q2 := cell_of_heap (o := 2) HI2.out rfl; have q3 := cell_of_heap (o := 3) HI2.out rfl; have q4 := cell_of_heap (o := 4) HI2.out rfl; have q5 := cell_of_heap (o := 5) HI2.out rfl; have q6 := cell_of_heap (o := 6) HI2.out rfl; have hw2 := lt_of_heap HI2.out; clear hF)
                    | (go_at_call 67; refine (hd _).mono ?_; rintro e w3 ⟨rfl, hF⟩; have HF3 : Hid (Fr [] wr w3) := Lib.hid (HF2.out.trans hF); have HB3 := Lib.hid (hF.heap (by simp) HB2.out); have HI3 := Lib.hid (hF.heap (by simp) HI2.out); have m0 := cell_of_heap (o := 0) HB3.out rfl; have m1 := cell_of_heap (o := 1) HB3.out rfl; have m2 := cell_of_heap (o := 2) HB3.out rfl; have m3 := cell_of_heap (o := 3) HB3.out rfl; have m4 := cell_of_heap (o := 4) HB3.out rfl; have m5 := cell_of_heap (o := 5) HB3.out rfl; have m6 := cell_of_heap (o := 6) HB3.out rfl; have m7 := cell_of_heap (o := 7) HB3.out rfl; have m8 := cell_of_heap (o := 8) HB3.out rfl; have m9 := cell_of_heap (o := 9) HB3.out rfl; have p0 := cell_of_heap (o := 0) HI3.out rfl; have p1 := cell_of_heap (o := 1) HI3.out rfl; have p2 := cell_of_heap (o := 2) HI3.out rfl; have p3 := cell_of_heap (o := 3) HI3.out rfl; have p4 := cell_of_heap (o := 4) HI3.out rfl; have p5 := cell_of_heap (o := 5) HI3.out rfl; have p6 := cell_of_heap (o := 6) HI3.out rfl; have hw3 := lt_of_heap HI3.out; clear hF))
                  all_goals (go_ret; exact ⟨ret1 (vb (by have hv := HV.out; rw [hv, Bool.eq_iff_iff]; first | (simp; done) | (simp; omega) | (simp at *; omega))), HF.out.trans HF3.out⟩)
                · have hx := HX1.out hio
                  clear hio HX0 HX1 HX2
                  have HV : Hid (ok = decide ((0 ≤ n ∧ n ≤ S - 1) ∧ x ≠ 0)) := Lib.hid (by rw [HO3.out, Bool.eq_iff_iff]; simp [wtn, grt, wrdOk])
                  have e1 : IntKind.i64.wrap (S - 1) = S - 1 := IntWalk.i64_in _ (by omega)
                  clear HO3
                  go_wp2_with (first
                    | (go_at_call 96; refine (hl _).mono ?_; rintro e w' ⟨rfl, rfl⟩)
                    | (go_at_call 98; refine (hx _).mono ?_; rintro e w' ⟨rfl, rfl⟩)
                    | (go_at_call 97; refine (hp _).mono ?_; rintro e w2 ⟨rfl, hF⟩; have HF2 : Hid (Fr [] wr w2) := Lib.hid hF; have HB2 := Lib.hid (hF.heap (by simp) HB.out); have HI2 := Lib.hid (hF.heap (by simp) HI.out); have d0 := cell_of_heap (o := 0) HB2.out rfl; have d1 := cell_of_heap (o := 1) HB2.out rfl; have d2 := cell_of_heap (o := 2) HB2.out rfl; have d3 := cell_of_heap (o := 3) HB2.out rfl; have d4 := cell_of_heap (o := 4) HB2.out rfl; have d5 := cell_of_heap (o := 5) HB2.out rfl; have d6 := cell_of_heap (o := 6) HB2.out rfl; have d7 := cell_of_heap (o := 7) HB2.out rfl; have d8 := cell_of_heap (o := 8) HB2.out rfl; have d9 := cell_of_heap (o := 9) HB2.out rfl; have q0 := cell_of_heap (o := 0) HI2.out rfl; have q1 := cell_of_heap (o := 1) HI2.out rfl; have q2 := cell_of_heap (o := 2) HI2.out rfl; have q3 := cell_of_heap (o := 3) HI2.out rfl; have q4 := cell_of_heap (o := 4) HI2.out rfl; have q5 := cell_of_heap (o := 5) HI2.out rfl; have q6 := cell_of_heap (o := 6) HI2.out rfl; have hw2 := lt_of_heap HI2.out; clear hF)
                    | (go_at_call 67; refine (hd _).mono ?_; rintro e w3 ⟨rfl, hF⟩; have HF3 : Hid (Fr [] wr w3) := Lib.hid (HF2.out.trans hF); have HB3 := Lib.hid (hF.heap (by simp) HB2.out); have HI3 := Lib.hid (hF.heap (by simp) HI2.out); have m0 := cell_of_heap (o := 0) HB3.out rfl; have m1 := cell_of_heap (o := 1) HB3.out rfl; have m2 := cell_of_heap (o := 2) HB3.out rfl; have m3 := cell_of_heap (o := 3) HB3.out rfl; have m4 := cell_of_heap (o := 4) HB3.out rfl; have m5 := cell_of_heap (o := 5) HB3.out rfl; have m6 := cell_of_heap (o := 6) HB3.out rfl; have m7 := cell_of_heap (o := 7) HB3.out rfl; have m8 := cell_of_heap (o := 8) HB3.out rfl; have m9 := cell_of_heap (o := 9) HB3.out rfl; have p0 := cell_of_heap (o := 0) HI3.out rfl; have p1 := cell_of_heap (o := 1) HI3.out rfl; have p2 := cell_of_heap (o := 2) HI3.out rfl; have p3 := cell_of_heap (o := 3) HI3.out rfl; have p4 := cell_of_heap (o := 4) HI3.out rfl; have p5 := cell_of_heap (o := 5) HI3.out rfl; have p6 := cell_of_heap (o := 6) HI3.out rfl; have hw3 := lt_of_heap HI3.out; clear hF))
                  all_goals (go_ret; exact ⟨ret1 (vb (by have hv := HV.out; rw [hv, Bool.eq_iff_iff]; first | (simp; done) | (simp; omega) | (simp at *; omega))), HF.out.trans HF3.out⟩)
  · have HV : Hid (ok = false) := Lib.hid (by
      rw [HO.out]; unfold wtn; simp [hb1])
    have hb2 : decide ((ll : Int) < lst op) = true ∨ decide ((ll : Int) < lst op) = false ∧ decide (mst op < (ll : Int)) = true := by simp; omega
    clear hb1 HO
    rcases hb2 with hb2 | ⟨hb2, hb3⟩
    all_goals
      go_enter Tryz.func68, Tryz.ntmps68
      go_wp2_with (go_at_call 95; refine (ht _).mono ?_; rintro e w' ⟨rfl, rfl⟩)
      go_ret
      exact ⟨ret1 (vb HV.out.symm), by (repeat (first | (with_reducible refine Fr.setCell ?_ (fun h => absurd h (Nat.lt_irrefl _)) _) | (with_reducible refine Fr.setCell ?_ (fun h => absurd h (by first | omega | (simp; done) | (simp; omega) | (dsimp only; omega))) _) | (with_reducible refine Fr.alloc ?_ _) | (with_reducible refine Fr.drew ?_) | (with_reducible refine Fr.drewN ?_ _) | (with_reducible exact Fr.refl [] w)))⟩
end Go.Proofs.YtbmfmklalonhiaaGreatDoor
namespace Go.Proofs.YtbmfmklalonhiaaGreatDoor
open Go.RowKit

theorem seven (a b c d e f g : Bool) : a = false ∨ (a = true ∧ b = false) ∨ (a = true ∧ b = true ∧ c = false) ∨ (a = true ∧ b = true ∧ c = true ∧ d = false) ∨ (a = true ∧ b = true ∧ c = true ∧ d = true ∧ e = false) ∨ (a = true ∧ b = true ∧ c = true ∧ d = true ∧ e = true ∧ f = false) ∨ (a = true ∧ b = true ∧ c = true ∧ d = true ∧ e = true ∧ f = true ∧ g = false) ∨ (a = true ∧ b = true ∧ c = true ∧ d = true ∧ e = true ∧ f = true ∧ g = true) := by
  cases a <;> cases b <;> cases c <;> cases d <;> cases e <;> cases f <;> cases g <;> simp
theorem apart_step {l : List Ii} {k : Nat} {m : Ii} (h : l[k]? = some m) (ha : apart (l.take k)) (hn : ∀ (j : Nat) (a : Ii), j < k → l[j]? = some a → ¬ (m.op = 7 ∧ a.op = 7 ∧ m.n = a.n)) : apart (l.take (k + 1)) :=
  apart_snoc h ha (fun h7 => by
    rw [List.any_eq_false]
    intro a ha2
    obtain ⟨j, hj⟩ := List.getElem?_of_mem ha2
    have hjl := (List.getElem?_eq_some_iff.1 hj).1
    rw [List.length_take] at hjl
    rw [List.getElem?_take_of_lt (by omega)] at hj
    have := hn j a (by omega) hj
    simp only [decide_eq_true_eq]
    rintro ⟨h1, h2⟩
    exact this ⟨h7, h1, h2.symm⟩)
set_option maxRecDepth 100000 in
set_option maxHeartbeats 16000000 in
theorem r11_Check (u : Un) (w : World) (hA : UAt w u) (hB : UB u) : Calls Tryz.prog 44 #[u.v] w (Still (.int .i64 (errU u)) w) := by
  have h1 := fun W => r11_within u.args 0 4 W
  have h2 := fun W => r11_within u.temps u.args 16 W
  have h3 := fun W => r11_within u.regs 0 4096 W
  have h4 := fun W => r11_within u.spills 0 4096 W
  have h5 := fun W => r11_within u.sites 0 128 W
  have HST : Hid (∀ W, Fr [] w W → Calls Tryz.prog 66 #[u.v] W (Still (.bool (startsOk u)) W)) := Lib.hid fun W hF => r11_starts u W (hA.starts.fr hF) hB
  have HSO : Hid (∀ s W, Calls Tryz.prog 67 #[u.v, s.v] W (Still (.bool (srcOk u.regs u.spills s)) W)) := Lib.hid (fun s W => r11_source u s W)
  have HIE : Hid (numsOk u = true → startsOk u = true → ∀ i W, (i ∈ u.enter ∨ i ∈ u.code) → SrcsAt W i.la i.l → Calls Tryz.prog 68 #[u.v, i.v] W (Still (.bool (insOkU u.regs u.spills u.sites u.maps.length i)) W)) := Lib.hid (fun hn hs i W hi h => by
    have h6 := (numsOk_iff u).1 hn
    have h7 := (startsOk_iff u).1 hs
    exact r11_instruction u i W (hi.elim (hB.enter i) (hB.code i)) h h6.2.2.2.2.2 ⟨by omega, by omega⟩)
  have HT16 : Hid (numsOk u = true → 0 ≤ u.temps ∧ u.temps ≤ 16) := Lib.hid (fun hn => by have h6 := (numsOk_iff u).1 hn; omega)
  have HN : Hid (numsOk u = (decide (u.method ≠ 0) && wtn u.args 0 4 && wtn u.temps u.args 16 && wtn u.regs 0 4096 && wtn u.spills 0 4096 && wtn u.sites 0 128)) := Lib.hid rfl
  have HE0 : Hid (numsOk u = true → startsOk u = true → u.maps.all (mapOk u.regs u.spills u.temps) = true → (∀ i ∈ u.enter, i.op = 1) → u.enter.all (insOkU u.regs u.spills u.sites u.maps.length) = true → u.code.all (insOkU u.regs u.spills u.sites u.maps.length) = true → apart u.code → errU u = 0) := Lib.hid (fun a b c d e f g => by
    have : okU u = true := by unfold okU; rw [a, b, c, (codeOk_iff u).2 ⟨d, e, f, g⟩]; rfl
    unfold errU; rw [this]; rfl)
  have HEN : Hid (numsOk u = false → errU u = 1) := Lib.hid (fun h => by have : okU u = false := by unfold okU; rw [h]; simp
                                                                         unfold errU; rw [this]; rfl)
  have HES : Hid (startsOk u = false → errU u = 1) := Lib.hid (fun h => by have : okU u = false := by unfold okU; rw [h]; simp
                                                                           unfold errU; rw [this]; rfl)
  have HEM : Hid (∀ m ∈ u.maps, mapOk u.regs u.spills u.temps m = false → errU u = 1) := Lib.hid (fun m hm h => by
    have h8 : u.maps.all (mapOk u.regs u.spills u.temps) = false := by rw [List.all_eq_false]; exact ⟨m, hm, by simp [h]⟩
    have : okU u = false := by unfold okU; rw [h8]; simp
    unfold errU; rw [this]; rfl)
  have HEC : Hid (¬ ((∀ i ∈ u.enter, i.op = 1) ∧ u.enter.all (insOkU u.regs u.spills u.sites u.maps.length) = true ∧ u.code.all (insOkU u.regs u.spills u.sites u.maps.length) = true ∧ apart u.code) → errU u = 1) := Lib.hid (fun h => by
    have h8 : codeOkU u = false := by
      cases hc : codeOkU u
      · rfl
      · exact absurd ((codeOk_iff u).1 hc) h
    have : okU u = false := by unfold okU; rw [h8]; simp
    unfold errU; rw [this]; rfl)
  have HMO : Hid (∀ m, mapOk u.regs u.spills u.temps m = ((decide (m.l.length = 0) || wtn m.l.length u.temps (u.temps + 16)) && m.l.all (srcOk u.regs u.spills))) := Lib.hid (fun m => rfl)
  have HML : Hid (∀ m ∈ u.maps, m.l.length ≤ 5864062014805) := Lib.hid (fun m hm => (hB.maps m hm).1)
  generalize numsOk u = nk at *
  generalize startsOk u = sk at *
  generalize errU u = er at *
  generalize hmq : mapOk u.regs u.spills u.temps = mq at *
  generalize hiq : insOkU u.regs u.spills u.sites u.maps.length = iq at *
  generalize hsq : srcOk u.regs u.spills = sq at *
  generalize wtn u.args 0 4 = b1 at *
  generalize wtn u.temps u.args 16 = b2 at *
  generalize wtn u.regs 0 4096 = b3 at *
  generalize wtn u.spills 0 4096 = b4 at *
  generalize wtn u.sites 0 128 = b5 at *
  clear hmq hiq hsq
  have hen := hB.en
  have hcn := hB.cn
  have hmn := hB.mn
  have HAE := Lib.hid hA.enter
  have HAC := Lib.hid hA.code
  have HAM := Lib.hid hA.maps
  clear hA hB
  obtain ⟨method, args, T, R, P, S, ea, en, ec, ca, co, cc, sa, st, sc, ma, mp, mc⟩ := u
  unfold Un.v at *
  simp only at h1 h2 h3 h4 h5 HST HSO HIE HN HE0 HEN HES HEM HEC HMO HML HT16 hen hcn hmn HAE HAC HAM ⊢
  obtain ⟨el, hel⟩ : ∃ n, n = en.length := ⟨_, rfl⟩
  obtain ⟨cl, hcl⟩ : ∃ n, n = co.length := ⟨_, rfl⟩
  obtain ⟨ml, hml⟩ : ∃ n, n = mp.length := ⟨_, rfl⟩
  generalize st.length = sl at *
  simp only [← hel, ← hcl, ← hml] at h1 h2 h3 h4 h5 HST HSO HIE HE0 HEN HES HEM HEC hen hcn hmn ⊢
  have HEL := Lib.hid hel
  have HCL := Lib.hid hcl
  have HMLN := Lib.hid hml
  clear hel hcl hml
  by_cases hmz : method = 0
  · subst hmz
    have HV := Lib.hid (HEN.out (by rw [HN.out]; simp))
    clear HE0 HEN HES HEM HEC HMO HML HT16 HIE HSO HST HN
    rcases seven b1 b2 b3 b4 b5 true true with rfl | ⟨rfl, rfl⟩ | ⟨rfl, rfl, rfl⟩ | ⟨rfl, rfl, rfl, rfl⟩ | ⟨rfl, rfl, rfl, rfl, rfl⟩ | ⟨-, -, -, -, -, h⟩ | ⟨-, -, -, -, -, -, h⟩ | ⟨rfl, rfl, rfl, rfl, rfl, -, -⟩
    case inr.inr.inr.inr.inr.inl => cases h
    case inr.inr.inr.inr.inr.inr.inl => cases h
    all_goals
      go_enter Tryz.func44, Tryz.ntmps44
      go_wp2_with (first
          | (go_at_call 65; (with_reducible refine (h1 _).mono ?_); rintro e w' ⟨rfl, rfl⟩)
          | (go_at_call 65; (with_reducible refine (h2 _).mono ?_); rintro e w' ⟨rfl, rfl⟩)
          | (go_at_call 65; (with_reducible refine (h3 _).mono ?_); rintro e w' ⟨rfl, rfl⟩)
          | (go_at_call 65; (with_reducible refine (h4 _).mono ?_); rintro e w' ⟨rfl, rfl⟩)
          | (go_at_call 65; (with_reducible refine (h5 _).mono ?_); rintro e w' ⟨rfl, rfl⟩))
      go_ret
      exact ⟨ret1 (vi HV.out.symm), by (repeat (first | (with_reducible refine Fr.setCell ?_ (fun h => absurd h (Nat.lt_irrefl _)) _) | (with_reducible refine Fr.setCell ?_ (fun h => absurd h (by first | omega | (simp; done) | (simp; omega) | (dsimp only; omega))) _) | (with_reducible refine Fr.alloc ?_ _) | (with_reducible refine Fr.drew ?_) | (with_reducible refine Fr.drewN ?_ _) | (with_reducible exact Fr.refl [] w)))⟩
  · have hm1 : (method == 0) = false := by simp [hmz]
    have hm2 : decide (method ≠ 0) = true := by simp [hmz]
    rw [hm2, Bool.true_and] at HN
    clear hm2 hmz
    rcases seven b1 b2 b3 b4 b5 sk true with rfl | ⟨rfl, rfl⟩ | ⟨rfl, rfl, rfl⟩ | ⟨rfl, rfl, rfl, rfl⟩ | ⟨rfl, rfl, rfl, rfl, rfl⟩ | ⟨rfl, rfl, rfl, rfl, rfl, rfl⟩ | ⟨-, -, -, -, -, -, h⟩ | ⟨rfl, rfl, rfl, rfl, rfl, rfl, -⟩
    case inr.inr.inr.inr.inr.inr.inl => cases h
    case inr.inr.inr.inr.inr.inr.inr =>
      have HNK : Hid (nk = true) := Lib.hid (by rw [HN.out]; rfl)
      have HIE2 := Lib.hid (HIE.out HNK.out rfl)
      obtain ⟨t0, t16⟩ := HT16.out HNK.out
      have HE02 := Lib.hid (HE0.out HNK.out rfl)
      clear HE0 HEN HES HIE HT16 HN HNK
      go_enter Tryz.func44, Tryz.ntmps44
      go_wp2_with (first
          | (go_at_call 65; (with_reducible refine (h1 _).mono ?_); rintro e w' ⟨rfl, rfl⟩)
          | (go_at_call 65; (with_reducible refine (h2 _).mono ?_); rintro e w' ⟨rfl, rfl⟩)
          | (go_at_call 65; (with_reducible refine (h3 _).mono ?_); rintro e w' ⟨rfl, rfl⟩)
          | (go_at_call 65; (with_reducible refine (h4 _).mono ?_); rintro e w' ⟨rfl, rfl⟩)
          | (go_at_call 65; (with_reducible refine (h5 _).mono ?_); rintro e w' ⟨rfl, rfl⟩)
          | (go_at_call 66; refine (HST.out _ (by (repeat (first | (with_reducible refine Fr.setCell ?_ (fun h => absurd h (Nat.lt_irrefl _)) _) | (with_reducible refine Fr.setCell ?_ (fun h => absurd h (by first | omega | (simp; done) | (simp; omega) | (dsimp only; omega))) _) | (with_reducible refine Fr.alloc ?_ _) | (with_reducible refine Fr.drew ?_) | (with_reducible refine Fr.drewN ?_ _) | (with_reducible exact Fr.refl [] w))))).mono ?_; rintro e w2 ⟨rfl, hF⟩; have HF2 : Hid (Fr [] w w2) := Lib.hid (((Fr.refl [] w).alloc _).trans hF); have HB2 := Lib.hid (hF.heap (by simp) (heap_new w _)); clear hF))
      clear h1 h2 h3 h4 h5
      go_loopw [3] (fun i wr => ∃ k : Nat, k ≤ ml ∧ i = .int .i64 k ∧ Hid (Fr [] w wr) ∧ Hid (wr.heap[w.heap.size]? = some (.cells #[.int .u64 method, .int .i64 args, .int .i64 T, .int .i64 R, .int .i64 P, .int .i64 S, .slice ea el ec, .slice ca cl cc, .slice sa sl sc, .slice ma ml mc] 34)) ∧ Hid ((mp.take k).all mq = true)) (fun i _ => ml - (intOf i).toNat)
      case atStart => exact ⟨0, Nat.zero_le _, rfl, HF2, HB2, Lib.hid (by simp)⟩
      case round =>
        obtain ⟨k, hk, rfl, HF, HB, HTq⟩ := hrel
        have hw0 : w.heap.size < wr.heap.size := lt_of_heap HB.out
        clear HF2 HB2
        by_cases hlt : k < ml
        · have hkl : k < mp.length := by rw [← HMLN.out]; exact hlt
          obtain ⟨m, hm⟩ : ∃ m, mp[k]? = some m := ⟨_, List.getElem?_eq_getElem hkl⟩
          obtain ⟨⟨g, o, rfl, c0⟩, hs⟩ := (HAM.out.fr HF.out) k m hm
          have hg : g < wr.heap.size := World.block_lt_of_cell? wr _ c0
          have hll := HML.out m (List.mem_of_getElem? hm)
          have HY : Hid (mq m = true → (mp.take (k + 1)).all mq = true) := Lib.hid (fun hp => all_snoc hm HTq.out (p := mq) hp)
          have HNO : Hid (mq m = false → er = 1) := Lib.hid (fun hp => HEM.out m (List.mem_of_getElem? hm) hp)
          have HQ := Lib.hid (HMO.out m)
          obtain ⟨b, hb⟩ : ∃ b, b = mq m := ⟨_, rfl⟩
          simp only [← hb] at HY HNO HQ
          have k0 : (0 : Int) ≤ (k : Int) := by omega
          have k1 : (k : Int) < (ml : Int) := by omega
          have HMK := Lib.hid hm
          have b0 := cell_of_heap (o := 0) HB.out rfl; have b1 := cell_of_heap (o := 1) HB.out rfl; have b2 := cell_of_heap (o := 2) HB.out rfl; have b3 := cell_of_heap (o := 3) HB.out rfl; have b4 := cell_of_heap (o := 4) HB.out rfl; have b5 := cell_of_heap (o := 5) HB.out rfl; have b6 := cell_of_heap (o := 6) HB.out rfl; have b7 := cell_of_heap (o := 7) HB.out rfl; have b8 := cell_of_heap (o := 8) HB.out rfl; have b9 := cell_of_heap (o := 9) HB.out rfl
          obtain ⟨a, l, c⟩ := m
          simp only at c0 hs hll HQ HMK
          obtain ⟨ll, hlen⟩ : ∃ n, n = l.length := ⟨_, rfl⟩
          rw [← hlen] at c0 hll
          simp only [← hlen] at HQ
          have HLN := Lib.hid hlen
          have hwi := fun W => r11_within ll T (T + 16) W
          have e1 : IntKind.i64.wrap (T + 16) = T + 16 := IntWalk.i64_in _ (by omega)
          have hz : (ll : Int) ≤ 0 ∧ (b = l.all sq) ∨ (0 : Int) < (ll : Int) ∧ wtn ll T (T + 16) = false ∧ b = false ∨ (0 : Int) < (ll : Int) ∧ wtn ll T (T + 16) = true ∧ b = l.all sq := by
            have h := HQ.out
            by_cases hz : ll = 0
            · refine .inl ⟨by omega, ?_⟩
              rw [h]; simp [hz]
            · refine .inr ?_
              have h0 : (0 : Int) < (ll : Int) := by omega
              simp only [hz, decide_false, Bool.false_or] at h
              cases hw : wtn ll T (T + 16)
              · rw [hw] at h; exact .inl ⟨h0, rfl, by simpa using h⟩
              · rw [hw] at h; exact .inr ⟨h0, rfl, by simpa using h⟩
          generalize wtn ll T (T + 16) = bw at *
          clear hb hkl hm hs hlen HQ
          rcases hz with ⟨hz, hbq⟩ | ⟨hz, rfl, rfl⟩ | ⟨hz, rfl, hbq⟩
          case inr.inl =>
            have HV := Lib.hid (HNO.out rfl)
            clear HNO HY
            go_wp2_with (first
              | (go_at_call 65; (with_reducible refine (hwi _).mono ?_); rintro e w' ⟨rfl, rfl⟩))
            go_ret
            exact ⟨ret1 (vi HV.out.symm), HF.out⟩
          all_goals
            have HBQ := Lib.hid hbq
            clear hbq
            go_wp2_with (first
              | (go_at_call 65; (with_reducible refine (hwi _).mono ?_); rintro e w' ⟨rfl, rfl⟩))
            clear hwi e1 hz
            go_loopw [5] (fun i wr => ∃ j : Nat, j ≤ ll ∧ i = .int .i64 j ∧ Hid (Fr [] w wr) ∧ Hid (wr.heap[w.heap.size]? = some (.cells #[.int .u64 method, .int .i64 args, .int .i64 T, .int .i64 R, .int .i64 P, .int .i64 S, .slice ea el ec, .slice ca cl cc, .slice sa sl sc, .slice (some ⟨g, o, none⟩) ml mc] 34)) ∧ Hid ((l.take j).all sq = true)) (fun i _ => ll - (intOf i).toNat)
            case atStart => exact ⟨0, Nat.zero_le _, rfl, HF, HB, Lib.hid (by simp)⟩
            case round =>
              clear c0 b0 b1 b2 b3 b4 b5 b6 b7 b8 b9 hg hw0
              have HFO := HF
              clear HF HB
              obtain ⟨j, hj, rfl, HF, HB, HTI⟩ := hrel
              have hw0 : w.heap.size < wr.heap.size := lt_of_heap HB.out
              by_cases hjl : j < ll
              · have hjll : j < l.length := by rw [← HLN.out]; exact hjl
                obtain ⟨s, hs⟩ : ∃ s, l[j]? = some s := ⟨_, List.getElem?_eq_getElem hjll⟩
                obtain ⟨mm, hmm, hmv⟩ : ∃ mm, mp[k]? = some mm ∧ (mm.a = a ∧ mm.l = l ∧ mm.c = c) := ⟨_, HMK.out, rfl, rfl, rfl⟩
                obtain ⟨⟨_, _, e, c0⟩, hsr⟩ := (HAM.out.fr HF.out) k mm hmm
                cases e
                obtain ⟨rfl, rfl, rfl⟩ := hmv
                obtain ⟨g2, o2, ea2, d0, d1, d2⟩ := hsr j s hs
                rw [ea2, ← HLN.out] at c0
                have hg : g < wr.heap.size := World.block_lt_of_cell? wr _ c0
                have hg2 : g2 < wr.heap.size := World.block_lt_of_cell? wr _ d0
                have hc := HSO.out s
                unfold Sr.v at hc
                have HY2 : Hid (sq s = true → (mm.l.take (j + 1)).all sq = true) := Lib.hid (fun hp => all_snoc hs HTI.out (p := sq) hp)
                have HN2 : Hid (sq s = false → er = 1) := Lib.hid (fun hp => HNO.out (by rw [HBQ.out]; exact all_no (p := sq) hs hp))
                obtain ⟨b, hb⟩ : ∃ b, b = sq s := ⟨_, rfl⟩
                simp only [← hb] at hc HY2 HN2
                have j0 : (0 : Int) ≤ (j : Int) := by omega
                have j1 : (j : Int) < (ll : Int) := by omega
                have b0 := cell_of_heap (o := 0) HB.out rfl; have b1 := cell_of_heap (o := 1) HB.out rfl; have b2 := cell_of_heap (o := 2) HB.out rfl; have b3 := cell_of_heap (o := 3) HB.out rfl; have b4 := cell_of_heap (o := 4) HB.out rfl; have b5 := cell_of_heap (o := 5) HB.out rfl; have b6 := cell_of_heap (o := 6) HB.out rfl; have b7 := cell_of_heap (o := 7) HB.out rfl; have b8 := cell_of_heap (o := 8) HB.out rfl; have b9 := cell_of_heap (o := 9) HB.out rfl
                have HEA := Lib.hid ea2
                clear hb hjll hs hmm hsr ea2 hlt hjl
                cases b
                · have HV := Lib.hid (HN2.out rfl)
                  clear HN2 HY2
                  go_wp2_with fail
                  go_region_held3 (fun w' => w'.cell? ⟨w.heap.size, 0, none⟩ = some (.int .u64 method) ∧ w'.cell? ⟨w.heap.size, 1, none⟩ = some (.int .i64 args) ∧ w'.cell? ⟨w.heap.size, 2, none⟩ = some (.int .i64 T) ∧ w'.cell? ⟨w.heap.size, 3, none⟩ = some (.int .i64 R) ∧ w'.cell? ⟨w.heap.size, 4, none⟩ = some (.int .i64 P) ∧ w'.cell? ⟨w.heap.size, 5, none⟩ = some (.int .i64 S) ∧ w'.cell? ⟨w.heap.size, 6, none⟩ = some (.slice ea el ec) ∧ w'.cell? ⟨w.heap.size, 7, none⟩ = some (.slice ca cl cc) ∧ w'.cell? ⟨w.heap.size, 8, none⟩ = some (.slice sa sl sc) ∧ w'.cell? ⟨w.heap.size, 9, none⟩ = some (.slice (some ⟨g, o, none⟩) ml mc) ∧ w'.cell? ⟨g, o + k, none⟩ = some (.slice (some ⟨g2, o2, none⟩) ll mm.c) ∧ w'.cell? ⟨g2, o2 + j * 3, none⟩ = some (.int .i64 s.kind) ∧ w'.cell? ⟨g2, o2 + j * 3 + 1, none⟩ = some (.int .i64 s.n) ∧ w'.cell? ⟨g2, o2 + j * 3 + 2, none⟩ = some (.int .u64 s.w))
                    (first | exact ⟨HF2.out.cell (by simp) b0, HF2.out.cell (by simp) b1, HF2.out.cell (by simp) b2, HF2.out.cell (by simp) b3, HF2.out.cell (by simp) b4, HF2.out.cell (by simp) b5, HF2.out.cell (by simp) b6, HF2.out.cell (by simp) b7, HF2.out.cell (by simp) b8, HF2.out.cell (by simp) b9, HF2.out.cell (by simp) c0, HF2.out.cell (by simp) d0, HF2.out.cell (by simp) d1, HF2.out.cell (by simp) d2⟩ | go_keep)
                    ((go_at_call 67; (with_reducible refine (hc _).mono ?_); rintro e w2 ⟨rfl, hF⟩; have HF2 : Hid (Fr [] wr w2) := Lib.hid ((Fr.refl [] wr).drew.trans hF); clear hF))
                  go_wp2_with fail
                  go_ret
                  exact ⟨ret1 (vi HV.out.symm), HF.out.trans HF2.out⟩
                · have HE := Lib.hid (HY2.out rfl)
                  clear HN2 HY2
                  go_wp2_with fail
                  go_region_held3 (fun w' => w'.cell? ⟨w.heap.size, 0, none⟩ = some (.int .u64 method) ∧ w'.cell? ⟨w.heap.size, 1, none⟩ = some (.int .i64 args) ∧ w'.cell? ⟨w.heap.size, 2, none⟩ = some (.int .i64 T) ∧ w'.cell? ⟨w.heap.size, 3, none⟩ = some (.int .i64 R) ∧ w'.cell? ⟨w.heap.size, 4, none⟩ = some (.int .i64 P) ∧ w'.cell? ⟨w.heap.size, 5, none⟩ = some (.int .i64 S) ∧ w'.cell? ⟨w.heap.size, 6, none⟩ = some (.slice ea el ec) ∧ w'.cell? ⟨w.heap.size, 7, none⟩ = some (.slice ca cl cc) ∧ w'.cell? ⟨w.heap.size, 8, none⟩ = some (.slice sa sl sc) ∧ w'.cell? ⟨w.heap.size, 9, none⟩ = some (.slice (some ⟨g, o, none⟩) ml mc) ∧ w'.cell? ⟨g, o + k, none⟩ = some (.slice (some ⟨g2, o2, none⟩) ll mm.c) ∧ w'.cell? ⟨g2, o2 + j * 3, none⟩ = some (.int .i64 s.kind) ∧ w'.cell? ⟨g2, o2 + j * 3 + 1, none⟩ = some (.int .i64 s.n) ∧ w'.cell? ⟨g2, o2 + j * 3 + 2, none⟩ = some (.int .u64 s.w))
                    (first | exact ⟨HF2.out.cell (by simp) b0, HF2.out.cell (by simp) b1, HF2.out.cell (by simp) b2, HF2.out.cell (by simp) b3, HF2.out.cell (by simp) b4, HF2.out.cell (by simp) b5, HF2.out.cell (by simp) b6, HF2.out.cell (by simp) b7, HF2.out.cell (by simp) b8, HF2.out.cell (by simp) b9, HF2.out.cell (by simp) c0, HF2.out.cell (by simp) d0, HF2.out.cell (by simp) d1, HF2.out.cell (by simp) d2⟩ | go_keep)
                    ((go_at_call 67; (with_reducible refine (hc _).mono ?_); rintro e w2 ⟨rfl, hF⟩; have HF2 : Hid (Fr [] wr w2) := Lib.hid ((Fr.refl [] wr).drew.trans hF); clear hF))
                  go_wp2_with fail
                  go_roundw
                  case rel => exact ⟨j + 1, by omega, by go_num, HF.out.trans HF2.out, HF2.out.heap (by simp) HB.out, HE⟩
                  case measure => simp [intOf]; omega
              · have hjn : j = ll := by omega
                have HE : Hid ((mp.take (k + 1)).all mq = true) := Lib.hid (HY.out (by rw [HBQ.out]; exact all_end HTI.out (hjn.trans HLN.out)))
                have hkd : ¬ (j : Int) < (ll : Int) := by omega
                clear hjn hjl
                go_wp2_with fail
                go_roundw
                case rel => exact ⟨k + 1, by omega, by go_num, HF.out, HB.out, HE⟩
                case measure => simp [intOf]; omega
        · have hkn : k = ml := by omega
          have HMA := Lib.hid (all_end HTq.out (hkn.trans HMLN.out))
          have HE03 := Lib.hid (HE02.out HMA.out)
          have hkd : ¬ (k : Int) < (ml : Int) := by omega
          have b0 := cell_of_heap (o := 0) HB.out rfl; have b1 := cell_of_heap (o := 1) HB.out rfl; have b2 := cell_of_heap (o := 2) HB.out rfl; have b3 := cell_of_heap (o := 3) HB.out rfl; have b4 := cell_of_heap (o := 4) HB.out rfl; have b5 := cell_of_heap (o := 5) HB.out rfl; have b6 := cell_of_heap (o := 6) HB.out rfl; have b7 := cell_of_heap (o := 7) HB.out rfl; have b8 := cell_of_heap (o := 8) HB.out rfl; have b9 := cell_of_heap (o := 9) HB.out rfl
          clear hkn hlt HE02 HMA HTq HEM HMO HML HSO
          go_wp2_with fail
          clear b0 b1 b2 b3 b4 b5 b6 b7 b8 b9 hkd
          have HFO := HF
          have HBO := HB
          clear HF HB hw0
          go_loopw [6] (fun i wr => ∃ k : Nat, k ≤ el ∧ i = .int .i64 k ∧ Hid (Fr [] w wr) ∧ Hid (wr.heap[w.heap.size]? = some (.cells #[.int .u64 method, .int .i64 args, .int .i64 T, .int .i64 R, .int .i64 P, .int .i64 S, .slice ea el ec, .slice ca cl cc, .slice sa sl sc, .slice ma ml mc] 34)) ∧ Hid ((en.take k).all iq = true) ∧ Hid (∀ i ∈ en.take k, i.op = 1)) (fun i _ => el - (intOf i).toNat)
          case atStart => exact ⟨0, Nat.zero_le _, rfl, HFO, HBO, Lib.hid (by simp), Lib.hid (by simp)⟩
          case round =>
            clear HFO HBO
            obtain ⟨k, hk, rfl, HF, HB, HTq, HO⟩ := hrel
            have hw0 : w.heap.size < wr.heap.size := lt_of_heap HB.out
            by_cases hlt : k < el
            · have hkl : k < en.length := by rw [← HEL.out]; exact hlt
              obtain ⟨m, hm⟩ : ∃ m, en[k]? = some m := ⟨_, List.getElem?_eq_getElem hkl⟩
              obtain ⟨⟨g, o, rfl, c0, c1, c2, c3, c4, c5, c6⟩, hs⟩ := (HAE.out.fr HF.out) k m hm
              have HSS : Hid (∀ W, Fr [] wr W → Calls Tryz.prog 68 #[.agg #[.int .u64 method, .int .i64 args, .int .i64 T, .int .i64 R, .int .i64 P, .int .i64 S, .slice (some ⟨g, o, none⟩) el ec, .slice ca cl cc, .slice sa sl sc, .slice ma ml mc], m.v] W (Still (.bool (iq m)) W)) := Lib.hid fun W hF => HIE2.out m W (.inl (List.mem_of_getElem? hm)) (hs.fr hF)
              have hg : g < wr.heap.size := World.block_lt_of_cell? wr _ c0
              have HY : Hid (iq m = true → (en.take (k + 1)).all iq = true) := Lib.hid (fun hp => all_snoc hm HTq.out (p := iq) hp)
              have HN : Hid (m.op ≠ 1 ∨ iq m = false → er = 1) := Lib.hid (fun hp => HEC.out (fun h => by
                rcases hp with hp | hp
                · exact absurd (h.1 m (List.mem_of_getElem? hm)) hp
                · rw [all_no hm hp] at h; exact absurd h.2.1 (by simp)))
              have HO2 : Hid (m.op = 1 → ∀ i ∈ en.take (k + 1), i.op = 1) := Lib.hid (fun h1 i hi => by
                rw [take_snoc hm] at hi
                rcases List.mem_append.1 hi with hi | hi
                · exact HO.out i hi
                · simp at hi; rw [hi]; exact h1)
              obtain ⟨b, hb⟩ : ∃ b, b = iq m := ⟨_, rfl⟩
              simp only [← hb] at HY HN HSS
              have k0 : (0 : Int) ≤ (k : Int) := by omega
              have k1 : (k : Int) < (el : Int) := by omega
              have b0 := cell_of_heap (o := 0) HB.out rfl; have b1 := cell_of_heap (o := 1) HB.out rfl; have b2 := cell_of_heap (o := 2) HB.out rfl; have b3 := cell_of_heap (o := 3) HB.out rfl; have b4 := cell_of_heap (o := 4) HB.out rfl; have b5 := cell_of_heap (o := 5) HB.out rfl; have b6 := cell_of_heap (o := 6) HB.out rfl; have b7 := cell_of_heap (o := 7) HB.out rfl; have b8 := cell_of_heap (o := 8) HB.out rfl; have b9 := cell_of_heap (o := 9) HB.out rfl
              obtain ⟨op, n, ⟨dk, dn, dw⟩, la, l, lc, x⟩ := m
              unfold Ii.v at HSS
              simp only at c0 c1 c2 c3 c4 c5 c6 hs HSS HN HO2
              generalize l.length = lw at *
              clear hb hkl hm hs
              by_cases h1 : op = 1
              · have e1 : (op == 1) = true := by simp [h1]
                have e2 : (op != 1) = false := by simp [h1]
                have HO3 := Lib.hid (HO2.out h1)
                clear h1 HO2
                cases b
                · have HE := Lib.hid (HN.out (.inr rfl))
                  clear HN HY
                  go_wp2_with fail
                  go_region_held3 (fun w' => w'.cell? ⟨w.heap.size, 0, none⟩ = some (.int .u64 method) ∧ w'.cell? ⟨w.heap.size, 1, none⟩ = some (.int .i64 args) ∧ w'.cell? ⟨w.heap.size, 2, none⟩ = some (.int .i64 T) ∧ w'.cell? ⟨w.heap.size, 3, none⟩ = some (.int .i64 R) ∧ w'.cell? ⟨w.heap.size, 4, none⟩ = some (.int .i64 P) ∧ w'.cell? ⟨w.heap.size, 5, none⟩ = some (.int .i64 S) ∧ w'.cell? ⟨w.heap.size, 6, none⟩ = some (.slice (some ⟨g, o, none⟩) el ec) ∧ w'.cell? ⟨w.heap.size, 7, none⟩ = some (.slice ca cl cc) ∧ w'.cell? ⟨w.heap.size, 8, none⟩ = some (.slice sa sl sc) ∧ w'.cell? ⟨w.heap.size, 9, none⟩ = some (.slice ma ml mc) ∧ w'.cell? ⟨g, o + k * 7, none⟩ = some (.int .i64 op) ∧ w'.cell? ⟨g, o + k * 7 + 1, none⟩ = some (.int .i64 n) ∧ w'.cell? ⟨g, o + k * 7 + 2, none⟩ = some (.int .i64 dk) ∧ w'.cell? ⟨g, o + k * 7 + 3, none⟩ = some (.int .i64 dn) ∧ w'.cell? ⟨g, o + k * 7 + 4, none⟩ = some (.int .u64 dw) ∧ w'.cell? ⟨g, o + k * 7 + 5, none⟩ = some (.slice la lw lc) ∧ w'.cell? ⟨g, o + k * 7 + 6, none⟩ = some (.int .u64 x))
                    (first | exact ⟨HF2.out.cell (by simp) b0, HF2.out.cell (by simp) b1, HF2.out.cell (by simp) b2, HF2.out.cell (by simp) b3, HF2.out.cell (by simp) b4, HF2.out.cell (by simp) b5, HF2.out.cell (by simp) b6, HF2.out.cell (by simp) b7, HF2.out.cell (by simp) b8, HF2.out.cell (by simp) b9, HF2.out.cell (by simp) c0, HF2.out.cell (by simp) c1, HF2.out.cell (by simp) c2, HF2.out.cell (by simp) c3, HF2.out.cell (by simp) c4, HF2.out.cell (by simp) c5, HF2.out.cell (by simp) c6⟩ | go_keep)
                    ((go_at_call 68; refine (HSS.out _ (Fr.refl [] wr).drew).mono ?_; rintro e w2 ⟨rfl, hF⟩; have HF2 : Hid (Fr [] wr w2) := Lib.hid ((Fr.refl [] wr).drew.trans hF); clear hF))
                  go_wp2_with fail
                  go_ret
                  exact ⟨ret1 (vi HE.out.symm), HF.out.trans HF2.out⟩
                · have HE := Lib.hid (HY.out rfl)
                  clear HN HY
                  go_wp2_with fail
                  go_region_held3 (fun w' => w'.cell? ⟨w.heap.size, 0, none⟩ = some (.int .u64 method) ∧ w'.cell? ⟨w.heap.size, 1, none⟩ = some (.int .i64 args) ∧ w'.cell? ⟨w.heap.size, 2, none⟩ = some (.int .i64 T) ∧ w'.cell? ⟨w.heap.size, 3, none⟩ = some (.int .i64 R) ∧ w'.cell? ⟨w.heap.size, 4, none⟩ = some (.int .i64 P) ∧ w'.cell? ⟨w.heap.size, 5, none⟩ = some (.int .i64 S) ∧ w'.cell? ⟨w.heap.size, 6, none⟩ = some (.slice (some ⟨g, o, none⟩) el ec) ∧ w'.cell? ⟨w.heap.size, 7, none⟩ = some (.slice ca cl cc) ∧ w'.cell? ⟨w.heap.size, 8, none⟩ = some (.slice sa sl sc) ∧ w'.cell? ⟨w.heap.size, 9, none⟩ = some (.slice ma ml mc) ∧ w'.cell? ⟨g, o + k * 7, none⟩ = some (.int .i64 op) ∧ w'.cell? ⟨g, o + k * 7 + 1, none⟩ = some (.int .i64 n) ∧ w'.cell? ⟨g, o + k * 7 + 2, none⟩ = some (.int .i64 dk) ∧ w'.cell? ⟨g, o + k * 7 + 3, none⟩ = some (.int .i64 dn) ∧ w'.cell? ⟨g, o + k * 7 + 4, none⟩ = some (.int .u64 dw) ∧ w'.cell? ⟨g, o + k * 7 + 5, none⟩ = some (.slice la lw lc) ∧ w'.cell? ⟨g, o + k * 7 + 6, none⟩ = some (.int .u64 x))
                    (first | exact ⟨HF2.out.cell (by simp) b0, HF2.out.cell (by simp) b1, HF2.out.cell (by simp) b2, HF2.out.cell (by simp) b3, HF2.out.cell (by simp) b4, HF2.out.cell (by simp) b5, HF2.out.cell (by simp) b6, HF2.out.cell (by simp) b7, HF2.out.cell (by simp) b8, HF2.out.cell (by simp) b9, HF2.out.cell (by simp) c0, HF2.out.cell (by simp) c1, HF2.out.cell (by simp) c2, HF2.out.cell (by simp) c3, HF2.out.cell (by simp) c4, HF2.out.cell (by simp) c5, HF2.out.cell (by simp) c6⟩ | go_keep)
                    ((go_at_call 68; refine (HSS.out _ (Fr.refl [] wr).drew).mono ?_; rintro e w2 ⟨rfl, hF⟩; have HF2 : Hid (Fr [] wr w2) := Lib.hid ((Fr.refl [] wr).drew.trans hF); clear hF))
                  go_wp2_with fail
                  go_roundw
                  case rel => exact ⟨k + 1, by omega, by go_num, HF.out.trans HF2.out, HF2.out.heap (by simp) HB.out, HE, HO3⟩
                  case measure => simp [intOf]; omega
              · have e1 : (op == 1) = false := by simp [h1]
                have e2 : (op != 1) = true := by simp [h1]
                have HE := Lib.hid (HN.out (.inl h1))
                clear h1 HO2 HN HY
                go_wp2_with fail
                go_quiet (fail)
                go_wp2_with fail
                go_ret
                exact ⟨ret1 (vi HE.out.symm), HF.out.drewN _⟩
            · have hkn : k = el := by omega
              have HEA := Lib.hid (all_end HTq.out (hkn.trans HEL.out))
              have HEO : Hid (∀ i ∈ en, i.op = 1) := Lib.hid (by have := HO.out; rw [hkn, HEL.out, List.take_length] at this; exact this)
              have HE04 := Lib.hid (HE03.out HEO.out HEA.out)
              have hkd : ¬ (k : Int) < (el : Int) := by omega
              have b0 := cell_of_heap (o := 0) HB.out rfl; have b1 := cell_of_heap (o := 1) HB.out rfl; have b2 := cell_of_heap (o := 2) HB.out rfl; have b3 := cell_of_heap (o := 3) HB.out rfl; have b4 := cell_of_heap (o := 4) HB.out rfl; have b5 := cell_of_heap (o := 5) HB.out rfl; have b6 := cell_of_heap (o := 6) HB.out rfl; have b7 := cell_of_heap (o := 7) HB.out rfl; have b8 := cell_of_heap (o := 8) HB.out rfl; have b9 := cell_of_heap (o := 9) HB.out rfl
              clear hkn hlt HE03 HEA HEO HTq HO
              go_wp2_with fail
              clear b0 b1 b2 b3 b4 b5 b6 b7 b8 b9 hkd
              have HFO := HF
              have HBO := HB
              clear HF HB hw0
              go_loopw [7] (fun i wr => ∃ k : Nat, k ≤ cl ∧ i = .int .i64 k ∧ Hid (Fr [] w wr) ∧ Hid (wr.heap[w.heap.size]? = some (.cells #[.int .u64 method, .int .i64 args, .int .i64 T, .int .i64 R, .int .i64 P, .int .i64 S, .slice ea el ec, .slice ca cl cc, .slice sa sl sc, .slice ma ml mc] 34)) ∧ Hid ((co.take k).all iq = true) ∧ Hid (apart (co.take k))) (fun i _ => cl - (intOf i).toNat)
              case atStart => exact ⟨0, Nat.zero_le _, rfl, HFO, HBO, Lib.hid (by simp), Lib.hid (fun i j a b _ h => by simp at h)⟩
              case round =>
                clear HFO HBO
                obtain ⟨k, hk, rfl, HF, HB, HTq, HP⟩ := hrel
                have hw0 : w.heap.size < wr.heap.size := lt_of_heap HB.out
                by_cases hlt : k < cl
                · have hkl : k < co.length := by rw [← HCL.out]; exact hlt
                  obtain ⟨m, hm⟩ : ∃ m, co[k]? = some m := ⟨_, List.getElem?_eq_getElem hkl⟩
                  obtain ⟨⟨g, o, rfl, c0, c1, c2, c3, c4, c5, c6⟩, hs⟩ := (HAC.out.fr HF.out) k m hm
                  have HSS : Hid (∀ W, Fr [] wr W → Calls Tryz.prog 68 #[.agg #[.int .u64 method, .int .i64 args, .int .i64 T, .int .i64 R, .int .i64 P, .int .i64 S, .slice ea el ec, .slice (some ⟨g, o, none⟩) cl cc, .slice sa sl sc, .slice ma ml mc], m.v] W (Still (.bool (iq m)) W)) := Lib.hid fun W hF => HIE2.out m W (.inr (List.mem_of_getElem? hm)) (hs.fr hF)
                  have hg : g < wr.heap.size := World.block_lt_of_cell? wr _ c0
                  have HY : Hid (iq m = true → (co.take (k + 1)).all iq = true) := Lib.hid (fun hp => all_snoc hm HTq.out (p := iq) hp)
                  have HN : Hid (iq m = false → er = 1) := Lib.hid (fun hp => HEC.out (fun h => by rw [all_no hm hp] at h; exact absurd h.2.2.1 (by simp)))
                  have HNN : Hid (∀ (j : Nat) (a : Ii), j < k → co[j]? = some a → m.op = 7 → a.op = 7 → m.n = a.n → er = 1) := Lib.hid (fun j a hj ha h7 h8 hn => HEC.out (fun h => absurd hn.symm (h.2.2.2 j k a m hj ha hm h8 h7)))
                  have HPP : Hid ((∀ (j : Nat) (a : Ii), j < k → co[j]? = some a → ¬ (m.op = 7 ∧ a.op = 7 ∧ m.n = a.n)) → apart (co.take (k + 1))) := Lib.hid (fun h => apart_step hm HP.out h)
                  obtain ⟨b, hb⟩ : ∃ b, b = iq m := ⟨_, rfl⟩
                  simp only [← hb] at HY HN HSS
                  have k0 : (0 : Int) ≤ (k : Int) := by omega
                  have k1 : (k : Int) < (cl : Int) := by omega
                  have b0 := cell_of_heap (o := 0) HB.out rfl; have b1 := cell_of_heap (o := 1) HB.out rfl; have b2 := cell_of_heap (o := 2) HB.out rfl; have b3 := cell_of_heap (o := 3) HB.out rfl; have b4 := cell_of_heap (o := 4) HB.out rfl; have b5 := cell_of_heap (o := 5) HB.out rfl; have b6 := cell_of_heap (o := 6) HB.out rfl; have b7 := cell_of_heap (o := 7) HB.out rfl; have b8 := cell_of_heap (o := 8) HB.out rfl; have b9 := cell_of_heap (o := 9) HB.out rfl
                  have HMK := Lib.hid hm
                  obtain ⟨op, n, ⟨dk, dn, dw⟩, la, l, lc, x⟩ := m
                  unfold Ii.v at HSS
                  simp only at c0 c1 c2 c3 c4 c5 c6 hs HSS HNN HPP HMK
                  obtain ⟨lw, hlw⟩ : ∃ z, z = l.length := ⟨_, rfl⟩
                  simp only [← hlw] at c5 HSS
                  clear hb hkl hm hs hlw
                  cases b
                  · have HE := Lib.hid (HN.out rfl)
                    clear HN HY HNN HPP
                    go_wp2_with fail
                    go_region_held3 (fun w' => w'.cell? ⟨w.heap.size, 0, none⟩ = some (.int .u64 method) ∧ w'.cell? ⟨w.heap.size, 1, none⟩ = some (.int .i64 args) ∧ w'.cell? ⟨w.heap.size, 2, none⟩ = some (.int .i64 T) ∧ w'.cell? ⟨w.heap.size, 3, none⟩ = some (.int .i64 R) ∧ w'.cell? ⟨w.heap.size, 4, none⟩ = some (.int .i64 P) ∧ w'.cell? ⟨w.heap.size, 5, none⟩ = some (.int .i64 S) ∧ w'.cell? ⟨w.heap.size, 6, none⟩ = some (.slice ea el ec) ∧ w'.cell? ⟨w.heap.size, 7, none⟩ = some (.slice (some ⟨g, o, none⟩) cl cc) ∧ w'.cell? ⟨w.heap.size, 8, none⟩ = some (.slice sa sl sc) ∧ w'.cell? ⟨w.heap.size, 9, none⟩ = some (.slice ma ml mc) ∧ w'.cell? ⟨g, o + k * 7, none⟩ = some (.int .i64 op) ∧ w'.cell? ⟨g, o + k * 7 + 1, none⟩ = some (.int .i64 n) ∧ w'.cell? ⟨g, o + k * 7 + 2, none⟩ = some (.int .i64 dk) ∧ w'.cell? ⟨g, o + k * 7 + 3, none⟩ = some (.int .i64 dn) ∧ w'.cell? ⟨g, o + k * 7 + 4, none⟩ = some (.int .u64 dw) ∧ w'.cell? ⟨g, o + k * 7 + 5, none⟩ = some (.slice la lw lc) ∧ w'.cell? ⟨g, o + k * 7 + 6, none⟩ = some (.int .u64 x))
                      (first | exact ⟨HF2.out.cell (by simp) b0, HF2.out.cell (by simp) b1, HF2.out.cell (by simp) b2, HF2.out.cell (by simp) b3, HF2.out.cell (by simp) b4, HF2.out.cell (by simp) b5, HF2.out.cell (by simp) b6, HF2.out.cell (by simp) b7, HF2.out.cell (by simp) b8, HF2.out.cell (by simp) b9, HF2.out.cell (by simp) c0, HF2.out.cell (by simp) c1, HF2.out.cell (by simp) c2, HF2.out.cell (by simp) c3, HF2.out.cell (by simp) c4, HF2.out.cell (by simp) c5, HF2.out.cell (by simp) c6⟩ | go_keep)
                      ((go_at_call 68; refine (HSS.out _ (Fr.refl [] wr).drew).mono ?_; rintro e w2 ⟨rfl, hF⟩; have HF2 : Hid (Fr [] wr w2) := Lib.hid ((Fr.refl [] wr).drew.trans hF); clear hF))
                    go_wp2_with fail
                    go_ret
                    exact ⟨ret1 (vi HE.out.symm), HF.out.trans HF2.out⟩
                  · have HE := Lib.hid (HY.out rfl)
                    clear HN HY
                    go_wp2_with fail
                    go_region_held3 (fun w' => w'.cell? ⟨w.heap.size, 0, none⟩ = some (.int .u64 method) ∧ w'.cell? ⟨w.heap.size, 1, none⟩ = some (.int .i64 args) ∧ w'.cell? ⟨w.heap.size, 2, none⟩ = some (.int .i64 T) ∧ w'.cell? ⟨w.heap.size, 3, none⟩ = some (.int .i64 R) ∧ w'.cell? ⟨w.heap.size, 4, none⟩ = some (.int .i64 P) ∧ w'.cell? ⟨w.heap.size, 5, none⟩ = some (.int .i64 S) ∧ w'.cell? ⟨w.heap.size, 6, none⟩ = some (.slice ea el ec) ∧ w'.cell? ⟨w.heap.size, 7, none⟩ = some (.slice (some ⟨g, o, none⟩) cl cc) ∧ w'.cell? ⟨w.heap.size, 8, none⟩ = some (.slice sa sl sc) ∧ w'.cell? ⟨w.heap.size, 9, none⟩ = some (.slice ma ml mc) ∧ w'.cell? ⟨g, o + k * 7, none⟩ = some (.int .i64 op) ∧ w'.cell? ⟨g, o + k * 7 + 1, none⟩ = some (.int .i64 n) ∧ w'.cell? ⟨g, o + k * 7 + 2, none⟩ = some (.int .i64 dk) ∧ w'.cell? ⟨g, o + k * 7 + 3, none⟩ = some (.int .i64 dn) ∧ w'.cell? ⟨g, o + k * 7 + 4, none⟩ = some (.int .u64 dw) ∧ w'.cell? ⟨g, o + k * 7 + 5, none⟩ = some (.slice la lw lc) ∧ w'.cell? ⟨g, o + k * 7 + 6, none⟩ = some (.int .u64 x))
                      (first | exact ⟨HF2.out.cell (by simp) b0, HF2.out.cell (by simp) b1, HF2.out.cell (by simp) b2, HF2.out.cell (by simp) b3, HF2.out.cell (by simp) b4, HF2.out.cell (by simp) b5, HF2.out.cell (by simp) b6, HF2.out.cell (by simp) b7, HF2.out.cell (by simp) b8, HF2.out.cell (by simp) b9, HF2.out.cell (by simp) c0, HF2.out.cell (by simp) c1, HF2.out.cell (by simp) c2, HF2.out.cell (by simp) c3, HF2.out.cell (by simp) c4, HF2.out.cell (by simp) c5, HF2.out.cell (by simp) c6⟩ | go_keep)
                      ((go_at_call 68; refine (HSS.out _ (Fr.refl [] wr).drew).mono ?_; rintro e w2 ⟨rfl, hF⟩; have HF2 : Hid (Fr [] wr w2) := Lib.hid ((Fr.refl [] wr).drew.trans hF); clear hF))
                    go_wp2_with fail
                    have HFO : Hid (Fr [] w w2) := Lib.hid (HF.out.trans HF2.out)
                    have HBO := Lib.hid (HF2.out.heap (by simp) HB.out)
                    clear c0 c1 c2 c3 c4 c5 c6 b0 b1 b2 b3 b4 b5 b6 b7 b8 b9 HF HB HF2 HSS hw0 hg
                    go_loopw [8] (fun i wr => ∃ j : Nat, j ≤ k ∧ i = .int .i64 j ∧ Hid (Fr [] w wr) ∧ Hid (wr.heap[w.heap.size]? = some (.cells #[.int .u64 method, .int .i64 args, .int .i64 T, .int .i64 R, .int .i64 P, .int .i64 S, .slice ea el ec, .slice (some ⟨g, o, none⟩) cl cc, .slice sa sl sc, .slice ma ml mc] 34)) ∧ Hid (∀ (z : Nat) (a : Ii), z < j → co[z]? = some a → ¬ (op = 7 ∧ a.op = 7 ∧ n = a.n))) (fun i _ => k - (intOf i).toNat)
                    case atStart => exact ⟨0, Nat.zero_le _, rfl, HFO, HBO, Lib.hid (fun z a hz => absurd hz (by omega))⟩
                    case round =>
                      clear HFO HBO
                      obtain ⟨j, hj, rfl, HF, HB, HZ⟩ := hrel
                      have hw0 : w.heap.size < wr.heap.size := lt_of_heap HB.out
                      by_cases hjk : j < k
                      · obtain ⟨q, hq⟩ : ∃ q, co[j]? = some q := ⟨_, List.getElem?_eq_getElem (by rw [← HCL.out]; omega)⟩
                        obtain ⟨⟨_, _, e, c0, c1, -, -, -, -, -⟩, -⟩ := (HAC.out.fr HF.out) k _ HMK.out
                        cases e
                        obtain ⟨⟨_, _, e, d0, d1, -, -, -, -, -⟩, -⟩ := (HAC.out.fr HF.out) j q hq
                        cases e
                        have hg : g < wr.heap.size := World.block_lt_of_cell? wr _ c0
                        have j0 : (0 : Int) ≤ (j : Int) := by omega
                        have j1 : (j : Int) < (k : Int) := by omega
                        have j2 : (j : Int) < (cl : Int) := by omega
                        have b0 := cell_of_heap (o := 0) HB.out rfl; have b1 := cell_of_heap (o := 1) HB.out rfl; have b2 := cell_of_heap (o := 2) HB.out rfl; have b3 := cell_of_heap (o := 3) HB.out rfl; have b4 := cell_of_heap (o := 4) HB.out rfl; have b5 := cell_of_heap (o := 5) HB.out rfl; have b6 := cell_of_heap (o := 6) HB.out rfl; have b7 := cell_of_heap (o := 7) HB.out rfl; have b8 := cell_of_heap (o := 8) HB.out rfl; have b9 := cell_of_heap (o := 9) HB.out rfl
                        have HV : Hid (op = 7 → q.op = 7 → n = q.n → er = 1) := Lib.hid (HNN.out j q hjk hq)
                        have HZ2 : Hid (¬ (op = 7 ∧ q.op = 7 ∧ n = q.n) → ∀ (z : Nat) (a : Ii), z < j + 1 → co[z]? = some a → ¬ (op = 7 ∧ a.op = 7 ∧ n = a.n)) := Lib.hid (fun h z a hz ha => by
                          by_cases hzj : z = j
                          · subst hzj; rw [hq] at ha; cases ha; exact h
                          · exact HZ.out z a (by omega) ha)
                        obtain ⟨qo, hqo⟩ : ∃ z, z = q.op := ⟨_, rfl⟩
                        obtain ⟨qn, hqn⟩ : ∃ z, z = q.n := ⟨_, rfl⟩
                        simp only [← hqo, ← hqn] at d0 d1 HV HZ2
                        clear hqo hqn hq hjk hlt
                        have h7 : (op == 7) = false ∨ op = 7 := by by_cases h : op = 7 <;> simp [h]
                        have h8 : (qo == 7) = false ∨ qo = 7 := by by_cases h : qo = 7 <;> simp [h]
                        have h9 : (n == qn) = false ∨ n = qn := by by_cases h : n = qn <;> simp [h]
                        rcases h7 with h7 | h7
                        · have HZ3 := Lib.hid (HZ2.out (fun h => by rw [h.1] at h7; simp at h7))
                          clear HV HZ2 h8 h9
                          go_wp2_with fail
                          go_quiet (fail)
                          go_wp2_with fail
                          go_roundw
                          case rel => exact ⟨j + 1, by omega, by go_num, HF.out.drewN _, HB.out, HZ3⟩
                          case measure => simp [intOf]; omega
                        · have e7 : (op == 7) = true := by simp [h7]
                          rcases h8 with h8 | h8
                          · have HZ3 := Lib.hid (HZ2.out (fun h => by rw [h.2.1] at h8; simp at h8))
                            clear HV HZ2 h9 h7
                            go_wp2_with fail
                            go_quiet (fail)
                            go_wp2_with fail
                            go_roundw
                            case rel => exact ⟨j + 1, by omega, by go_num, HF.out.drewN _, HB.out, HZ3⟩
                            case measure => simp [intOf]; omega
                          · have e8 : (qo == 7) = true := by simp [h8]
                            rcases h9 with h9 | h9
                            · have HZ3 := Lib.hid (HZ2.out (fun h => by rw [h.2.2] at h9; simp at h9))
                              clear HV HZ2 h8 h7
                              go_wp2_with fail
                              go_quiet (fail)
                              go_wp2_with fail
                              go_roundw
                              case rel => exact ⟨j + 1, by omega, by go_num, HF.out.drewN _, HB.out, HZ3⟩
                              case measure => simp [intOf]; omega
                            · have e9 : (n == qn) = true := by simp [h9]
                              have HE2 := Lib.hid (HV.out h7 h8 h9)
                              clear HV HZ2 h8 h7 h9
                              go_wp2_with fail
                              go_quiet (fail)
                              go_wp2_with fail
                              go_ret
                              exact ⟨ret1 (vi HE2.out.symm), HF.out.drewN _⟩
                      · have hjn : j = k := by omega
                        have HP2 := Lib.hid (HPP.out (fun z a hz ha => HZ.out z a (by omega) ha))
                        have hkd : ¬ (j : Int) < (k : Int) := by omega
                        clear hjn hjk
                        go_wp2_with fail
                        go_roundw
                        case rel => exact ⟨k + 1, by omega, by go_num, HF.out, HB.out, HE, HP2⟩
                        case measure => simp [intOf]; omega
                · have hkn : k = cl := by omega
                  have HTA := Lib.hid (all_end HTq.out (hkn.trans HCL.out))
                  have HPA : Hid (apart co) := Lib.hid (by have := HP.out; rw [hkn, HCL.out, List.take_length] at this; exact this)
                  have HV := Lib.hid (HE04.out HTA.out HPA.out)
                  have hkd : ¬ (k : Int) < (cl : Int) := by omega
                  have b0 := cell_of_heap (o := 0) HB.out rfl; have b1 := cell_of_heap (o := 1) HB.out rfl; have b2 := cell_of_heap (o := 2) HB.out rfl; have b3 := cell_of_heap (o := 3) HB.out rfl; have b4 := cell_of_heap (o := 4) HB.out rfl; have b5 := cell_of_heap (o := 5) HB.out rfl; have b6 := cell_of_heap (o := 6) HB.out rfl; have b7 := cell_of_heap (o := 7) HB.out rfl; have b8 := cell_of_heap (o := 8) HB.out rfl; have b9 := cell_of_heap (o := 9) HB.out rfl
                  clear hkn hlt
                  go_wp2_with fail
                  go_ret
                  exact ⟨ret1 (vi HV.out.symm), HF.out⟩
    case inr.inr.inr.inr.inr.inl =>
      have HV := Lib.hid (HES.out rfl)
      clear HE0 HEN HES HEM HEC HMO HML HT16 HIE HSO HN
      go_enter Tryz.func44, Tryz.ntmps44
      go_wp2_with (first
          | (go_at_call 65; (with_reducible refine (h1 _).mono ?_); rintro e w' ⟨rfl, rfl⟩)
          | (go_at_call 65; (with_reducible refine (h2 _).mono ?_); rintro e w' ⟨rfl, rfl⟩)
          | (go_at_call 65; (with_reducible refine (h3 _).mono ?_); rintro e w' ⟨rfl, rfl⟩)
          | (go_at_call 65; (with_reducible refine (h4 _).mono ?_); rintro e w' ⟨rfl, rfl⟩)
          | (go_at_call 65; (with_reducible refine (h5 _).mono ?_); rintro e w' ⟨rfl, rfl⟩)
          | (go_at_call 66; refine (HST.out _ (by (repeat (first | (with_reducible refine Fr.setCell ?_ (fun h => absurd h (Nat.lt_irrefl _)) _) | (with_reducible refine Fr.setCell ?_ (fun h => absurd h (by first | omega | (simp; done) | (simp; omega) | (dsimp only; omega))) _) | (with_reducible refine Fr.alloc ?_ _) | (with_reducible refine Fr.drew ?_) | (with_reducible refine Fr.drewN ?_ _) | (with_reducible exact Fr.refl [] w))))).mono ?_; rintro e w2 ⟨rfl, hF⟩; have HF2 : Hid (Fr [] w w2) := Lib.hid (((Fr.refl [] w).alloc _).trans hF); have HB2 := Lib.hid (hF.heap (by simp) (heap_new w _)); clear hF))
      go_ret
      exact ⟨ret1 (vi HV.out.symm), HF2.out⟩
    all_goals
      have HV := Lib.hid (HEN.out (by rw [HN.out]; simp))
      clear HE0 HEN HES HEM HEC HMO HML HT16 HIE HSO HST HN
      go_enter Tryz.func44, Tryz.ntmps44
      go_wp2_with (first
          | (go_at_call 65; (with_reducible refine (h1 _).mono ?_); rintro e w' ⟨rfl, rfl⟩)
          | (go_at_call 65; (with_reducible refine (h2 _).mono ?_); rintro e w' ⟨rfl, rfl⟩)
          | (go_at_call 65; (with_reducible refine (h3 _).mono ?_); rintro e w' ⟨rfl, rfl⟩)
          | (go_at_call 65; (with_reducible refine (h4 _).mono ?_); rintro e w' ⟨rfl, rfl⟩)
          | (go_at_call 65; (with_reducible refine (h5 _).mono ?_); rintro e w' ⟨rfl, rfl⟩))
      go_ret
      exact ⟨ret1 (vi HV.out.symm), by (repeat (first | (with_reducible refine Fr.setCell ?_ (fun h => absurd h (Nat.lt_irrefl _)) _) | (with_reducible refine Fr.setCell ?_ (fun h => absurd h (by first | omega | (simp; done) | (simp; omega) | (dsimp only; omega))) _) | (with_reducible refine Fr.alloc ?_ _) | (with_reducible refine Fr.drew ?_) | (with_reducible refine Fr.drewN ?_ _) | (with_reducible exact Fr.refl [] w)))⟩
end Go.Proofs.YtbmfmklalonhiaaGreatDoor
