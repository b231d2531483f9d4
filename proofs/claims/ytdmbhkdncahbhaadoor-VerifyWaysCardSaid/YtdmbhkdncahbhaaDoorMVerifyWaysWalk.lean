/- VerifyWays: no way finds the stack too low or too high. -/
import Derived.Test.YtdmbhkdncahbhaaDoorMVerE
import Derived.Test.YtdmbhkdncahbhaaDoorMVerF
namespace Go.Proofs.YtdmbhkdncahbhaaDoor
open Go.RowKit

set_option maxRecDepth 100000 in
set_option maxHeartbeats 1600000 in
theorem verifyWays_walk (m : Mth) (la ca : Option Addr) (lc cc : Nat) (bs : List Bool) (ba : Option Addr) (bc : Nat) (w : World) (hcode : RowAt w ca (flatI m.code)) (hbs : RowAt w ba (bs.map Value.bool)) (hg : VG w) : Calls Tryd.prog 4 #[m.v la lc ca cc, .slice ba bs.length bc] w (Still (.bool true) w) := by
  have HAW := Lib.hid (fun W (hF : Fr [] w W) => awake5 W (hg.fr hF))
  have HD := Lib.hid (fun W (hF : Fr [] w W) => Depths_at m la ca lc cc W (row_fr hcode hF) (hg.fr hF).errs (hg.fr hF).field (hg.fr hF).db (hg.fr hF).et)
  have HCODE := Lib.hid hcode
  have HBS := Lib.hid hbs
  unfold Mth.v at HD
  unfold Mth.v
  obtain ⟨ll, hll⟩ : ∃ n, n = m.lits.length := ⟨_, rfl⟩
  obtain ⟨n, hN⟩ : ∃ n, n = m.code.length := ⟨_, rfl⟩
  obtain ⟨bl, hBL⟩ : ∃ n, n = bs.length := ⟨_, rfl⟩
  rw [← hll, ← hN] at HD ⊢
  rw [← hBL]
  have HNN := Lib.hid hN
  have HBL := Lib.hid hBL
  clear hcode hg hll hN hbs hBL
  go_enter Tryd.func4, Tryd.ntmps4
  go_wp2_with fail
  refine (HAW.out _ ((Fr.refl _ _).alloc _)).mono ?_
  rintro e w2 ⟨rfl, hF2⟩
  have HF2 : Hid (Fr [] w w2) := ((Fr.refl _ _).alloc _).trans hF2
  have HB2 := Lib.hid (hF2.heap (by simp) (heap_new w _))
  have k0 := cell_of_heap (o := 0) HB2.out rfl; have k1 := cell_of_heap (o := 1) HB2.out rfl; have k2 := cell_of_heap (o := 2) HB2.out rfl; have k3 := cell_of_heap (o := 3) HB2.out rfl; have k4 := cell_of_heap (o := 4) HB2.out rfl; have k5 := cell_of_heap (o := 5) HB2.out rfl
  clear hF2
  go_wp2_with fail
  refine (HD.out w2 HF2.out).mono ?_
  rintro e w3 ⟨l, p, en, ra, rc, hto, rfl, hF3, hR3, -⟩
  have HF3 : Hid (Fr [] w w3) := HF2.out.trans hF3
  have HB3 := Lib.hid (hF3.heap (by simp) HB2.out)
  have HR3 := Lib.hid hR3
  clear k0 k1 k2 k3 k4 k5 hF3 hR3
  have k0 := cell_of_heap (o := 0) HB3.out rfl; have k1 := cell_of_heap (o := 1) HB3.out rfl; have k2 := cell_of_heap (o := 2) HB3.out rfl; have k3 := cell_of_heap (o := 3) HB3.out rfl; have k4 := cell_of_heap (o := 4) HB3.out rfl; have k5 := cell_of_heap (o := 5) HB3.out rfl
  rcases hto.err with rfl | ⟨rfl, rfl⟩
  rotate_left
  · clear hto
    go_wp2_with fail
    go_ret
    exact ⟨rfl, HF3.out⟩
  obtain ⟨g, rfl, rfl⟩ := hto.ok_good
  have HG := Lib.hid g
  have HDL : Hid (m.depths.length = m.code.length) := Lib.hid m.depths_len
  rw [HDL.out, ← HNN.out]
  have hn128 : n ≤ 128 := by rw [HNN.out]; have := m.head_iff.1 (m.ok_iff.1 g.ok).1; omega
  have hqq : ((n : Int) == (n : Int)) = true := by simp
  have hqn : ((n : Int) != (n : Int)) = false := by simp
  have HS : Hid (m.stack ≤ 16) := Lib.hid (by have := m.head_iff.1 (m.ok_iff.1 g.ok).1; omega)
  have HW0 : Hid (Way m 0 0) := Lib.hid .start
  clear hto g hqq
  go_wp2_with fail
  go_loopw [9, 10, 11] (fun x y z wr => ∃ k q e : Nat, k ≤ 500 ∧ x = .int .i64 q ∧ y = .int .i64 e ∧ z = .int .i64 k ∧ Hid (Fr [] w3 wr) ∧ Hid (Way m q e)) (fun _ _ i _ => 500 - (intOf i).toNat)
  case atStart => exact ⟨0, 0, 0, by omega, rfl, rfl, rfl, Lib.hid (Fr.refl _ _), HW0⟩
  case round =>
    obtain ⟨k, q, e, hk, rfl, rfl, rfl, hF, hW⟩ := hrel
    by_cases hlt : k < 500
    · obtain ⟨i, hA⟩ := at_of HG.out hW.out
      have HA := Lib.hid hA
      obtain ⟨f1, f2, f3⟩ := flatI_at hA.ins
      obtain ⟨g, off, rfl, c1⟩ := HCODE.out _ _ f1
      obtain ⟨_, _, e2, c2⟩ := HCODE.out _ _ f2
      cases e2
      obtain ⟨_, _, e3, c3⟩ := HCODE.out _ _ f3
      cases e3
      obtain ⟨g2, o2, rfl, c4⟩ := HR3.out q (.int .i64 (e : Int)) (by rw [List.getElem?_map, hA.dep]; rfl)
      have HC1 := Lib.hid (HF3.out.cell (by simp) c1)
      have HC2 := Lib.hid (HF3.out.cell (by simp) c2)
      have HC3 := Lib.hid (HF3.out.cell (by simp) c3)
      rw [← Nat.add_assoc] at HC2 HC3
      have hbr := hF.out.heap (by simp) HB3.out
      have d1 := hF.out.cell (by simp) HC1.out
      have d2 := hF.out.cell (by simp) HC2.out
      have d3 := hF.out.cell (by simp) HC3.out
      have d4 := hF.out.cell (by simp) c4
      have hne := rneeds_at i hA.iok wr
      have hnx := Lib.hid (fun W => rnext_at i hA.iok q (by have := hA.lt; rw [← HNN.out] at this; omega) W)
      unfold Ins.v at hne hnx
      obtain ⟨nd, hnd⟩ : ∃ x, x = i.need := ⟨_, rfl⟩
      obtain ⟨lv, hlv⟩ : ∃ x, x = i.leave := ⟨_, rfl⟩
      obtain ⟨E, hE⟩ : ∃ x, x = i.ends := ⟨_, rfl⟩
      rw [← hnd, ← hlv, ← hE] at hne
      have hn1 := hA.need
      have hn2 := hA.low
      have hn3 := hA.high
      have hn4 := hA.nn
      have hn5 := hA.d16
      have hn6 := hA.after
      rw [← hnd] at hn1 hn2 hn3 hn4 hn6
      rw [← hlv] at hn1 hn3 hn4 hn6
      have hql : q < n := by rw [HNN.out]; exact hA.lt
      obtain ⟨af, haf⟩ : ∃ x, x = i.after e := ⟨_, rfl⟩
      rw [← haf] at hn6
      have HAF := Lib.hid haf
      have HE := Lib.hid hE
      have hst := HS.out
      have z0 : (0 : Int) ≤ (q : Int) := by omega
      have z1 : (q : Int) < (n : Int) := by omega
      have hee : ((e : Int) != (e : Int)) = false := by simp
      clear k0 k1 k2 k3 k4 k5 hA f1 f2 f3 c1 c2 c3 c4 hE hnd hlv haf
      have k0 := cell_of_heap (o := 0) hbr rfl; have k1 := cell_of_heap (o := 1) hbr rfl; have k2 := cell_of_heap (o := 2) hbr rfl; have k3 := cell_of_heap (o := 3) hbr rfl; have k4 := cell_of_heap (o := 4) hbr rfl; have k5 := cell_of_heap (o := 5) hbr rfl
      go_wp2_with fail
      refine hne.mono ?_
      rintro e' w4 ⟨rfl, hF4⟩
      have HF4 := Lib.hid (hF.out.trans hF4)
      have HB4 := Lib.hid (HF4.out.heap (by simp) HB3.out)
      have t1 := HF4.out.cell (by simp) HC1.out
      have t2 := HF4.out.cell (by simp) HC2.out
      have t3 := HF4.out.cell (by simp) HC3.out
      clear hF4 hne hbr k0 k1 k2 k3 k4 k5 d1 d2 d3 d4
      have k0 := cell_of_heap (o := 0) HB4.out rfl; have k1 := cell_of_heap (o := 1) HB4.out rfl; have k2 := cell_of_heap (o := 2) HB4.out rfl; have k3 := cell_of_heap (o := 3) HB4.out rfl; have k4 := cell_of_heap (o := 4) HB4.out rfl; have k5 := cell_of_heap (o := 5) HB4.out rfl
      cases hE2 : E
      rotate_left
      · subst hE2
        go_wp2_with fail
        go_ret
        exact ⟨rfl, HF3.out.trans HF4.out⟩
      · subst hE2
        go_wp2_with fail
        refine (hnx.out w4).mono ?_
        rintro e' w5 ⟨na, nc, rfl, hR5, hF5, -⟩
        have HF5 := Lib.hid (HF4.out.trans hF5)
        have HAl : Hid (∀ x : Int, x ∈ i.next q → 0 ≤ x ∧ Way m x.toNat af) := Lib.hid fun x hx => by rw [HAF.out]; exact HA.out.next HG.out hx
        clear hF5 t1 t2 t3 k0 k1 k2 k3 k4 k5
        rcases next_two (pc := q) HE.out.symm with ⟨x, hx⟩ | ⟨x, y, hx⟩
        · rw [hx] at hR5 HAl
          obtain ⟨hx0, hwx⟩ := HAl.out x (by simp)
          obtain ⟨xn, rfl⟩ : ∃ xn : Nat, x = xn := ⟨x.toNat, by omega⟩
          rw [Int.toNat_natCast] at hwx
          have HWX := Lib.hid hwx
          obtain ⟨g3, o3, rfl, c5⟩ := hR5 0 (.int .i64 (xn : Int)) rfl
          rw [Nat.add_zero] at c5
          rw [hx]
          have hln : ([(xn : Int)] : List Int).length = 1 := rfl
          rw [hln]
          clear hR5 hwx hx0 HAl hx hln
          go_wp2_with fail
          go_roundw
          case rel => exact ⟨k + 1, xn, af, by omega, rfl, by rw [hn6], by go_num, HF5, HWX⟩
          case measure => simp [intOf]; omega
        · rw [hx] at hR5 HAl
          obtain ⟨hx0, hwx⟩ := HAl.out x (by simp)
          obtain ⟨hy0, hwy⟩ := HAl.out y (by simp)
          obtain ⟨xn, rfl⟩ : ∃ xn : Nat, x = xn := ⟨x.toNat, by omega⟩
          obtain ⟨yn, rfl⟩ : ∃ yn : Nat, y = yn := ⟨y.toNat, by omega⟩
          rw [Int.toNat_natCast] at hwx hwy
          have HWX := Lib.hid hwx
          have HWY := Lib.hid hwy
          obtain ⟨g3, o3, rfl, c5⟩ := hR5 0 (.int .i64 (xn : Int)) rfl
          obtain ⟨_, _, e6, c6⟩ := hR5 1 (.int .i64 (yn : Int)) rfl
          cases e6
          rw [Nat.add_zero] at c5
          rw [hx]
          have hln : ([(xn : Int), (yn : Int)] : List Int).length = 2 := rfl
          rw [hln]
          clear hR5 hwx hwy hx0 hy0 HAl hx hln
          by_cases hkb : k < bl
          · have hkl : k < bs.length := by rw [← HBL.out]; exact hkb
            obtain ⟨b, hb⟩ : ∃ b, bs[k]? = some b := ⟨_, List.getElem?_eq_getElem hkl⟩
            obtain ⟨g4, o4, rfl, c7⟩ := HBS.out k (.bool b) (by rw [List.getElem?_map, hb]; rfl)
            have d7 := (HF3.out.trans HF5.out).cell (by simp) c7
            have y0 : (0 : Int) ≤ (k : Int) := by omega
            have y1 : (k : Int) < (bl : Int) := by omega
            clear hkl hb c7
            cases b
            · go_wp2_with fail
              go_roundw
              case rel => exact ⟨k + 1, xn, af, by omega, rfl, by rw [hn6], by go_num, HF5, HWX⟩
              case measure => simp [intOf]; omega
            · go_wp2_with fail
              go_roundw
              case rel => exact ⟨k + 1, yn, af, by omega, rfl, by rw [hn6], by go_num, HF5, HWY⟩
              case measure => simp [intOf]; omega
          · have hkd : decide ((k : Int) < (bl : Int)) = false := by simp; omega
            have y2 : (bl : Int) ≤ (k : Int) := by omega
            clear hkb
            go_wp2_with fail
            go_roundw
            case rel => exact ⟨k + 1, xn, af, by omega, rfl, by rw [hn6], by go_num, HF5, HWX⟩
            case measure => simp [intOf]; omega
    · have hke : k = 500 := by omega
      subst hke
      go_wp2_with fail
      go_ret
      exact ⟨rfl, HF3.out.trans hF.out⟩
end Go.Proofs.YtdmbhkdncahbhaaDoor
