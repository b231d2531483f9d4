/- VerifyChecks: the program's Check answers what the document's does; by what laid hands over. -/
import Derived.Test.YtjghgambieflaaaGreatDoorMVerFieldsWalk
namespace Go.Proofs.YtjghgambieflaaaGreatDoor
open Go.RowKit

theorem odd_no (M : List Bool) : stB M 1 = false := by
  cases h : stB M 1
  · rfl
  · obtain ⟨k, hk, -⟩ := stB_at h
    omega
theorem CheckTo.no {rd : Int → Mth × Int} {fields x : Int} {sub : Int → List Int → Prop} {outers : List Int} {p e : Int} (h4 : (rd x).2 = 4) (h : CheckTo rd fields sub x outers p e) : p = -1 ∧ e = 4 := by
  obtain ⟨e1, e2⟩ := h.one (.none (by rw [h4]; decide))
  exact ⟨e1, e2⟩
set_option maxRecDepth 100000 in
set_option maxHeartbeats 1600000 in
theorem verifyChecks_walk {nv : Value} (m : Mth) (la ca : Option Addr) (lc cc : Nat) (fields : Int) (outers : List Int) (oa : Option Addr) (oc : Nat) (w : World) (hg : VG6 w) (hL : ∀ W, Fr [] w W → Calls Tryz.prog 6 #[m.v la lc ca cc, nv] W (LaidPost W)) (ho : RowAt w oa (outers.map (Value.int .i64))) (hon : oa = none → oc = 0 ∧ outers = []) (hlen : outers.length ≤ 17592186043904) :
    Calls Tryz.prog 3 #[m.v la lc ca cc, nv, .int .i64 fields, .slice oa outers.length oc] w (Still (.bool true) w) := by
  have HAW := Lib.hid (fun W (hF : Fr [] w W) => awake5 W ((VG.mk hg.verrs hg.field hg.db hg.et).fr hF))
  have HE := Lib.hid (fun W (hF : Fr [] w W) => hg.field.fr hF)
  have HC := Lib.hid (fun W2 (hF2 : Fr [] w W2) rd hp (hrd : RdOk W2 39 (.pointer hp) rd) W x (hF : Fr [] W2 W) (hx : WB x) => Check_at (fields := fields) (hg.cerrs.fr hF2) (hg.verrs.fr hF2) (hg.field.fr hF2) (hg.db.fr hF2) (hg.et.fr hF2) hrd outers W x oa oc hF hx (row_fr ho (hF2.trans hF)) hon)
  have HR := Lib.hid (fun W2 (hF2 : Fr [] w W2) rd rp (hrd : RdOk W2 20 (.pointer rp) rd) W x (hF : Fr [] W2 W) (hx : WB x) => rchecks_at (fields := fields) hrd (2 - outers.length) outers rfl hlen W x oa oc hF hx (row_fr ho (hF2.trans hF)) hon)
  unfold Mth.v at hL ⊢
  obtain ⟨ll, hll⟩ : ∃ n, n = m.lits.length := ⟨_, rfl⟩
  obtain ⟨cl, hcl⟩ : ∃ n, n = m.code.length := ⟨_, rfl⟩
  rw [← hll, ← hcl] at hL ⊢
  have HL := Lib.hid hL
  obtain ⟨ol, hol⟩ : ∃ v, v = outers.length := ⟨_, rfl⟩
  obtain ⟨t, ht⟩ : ∃ t, t = 2 - outers.length := ⟨_, rfl⟩
  unfold CheckPost at HC
  rw [← ht] at HC HR
  rw [← hol] at HC HR ⊢
  clear hL hll hcl hg ho hon hol hlen ht
  go_enter Tryz.func3, Tryz.ntmps3
  go_wp2_with fail
  refine (HAW.out _ ((Fr.refl _ _).alloc _)).mono ?_
  rintro e w1 ⟨rfl, hF1⟩
  have HF1 : Hid (Fr [] w w1) := ((Fr.refl _ _).alloc _).trans hF1
  have HB1 := Lib.hid (hF1.heap (by simp) (heap_new w _))
  have k0 := cell_of_heap (o := 0) HB1.out rfl; have k1 := cell_of_heap (o := 1) HB1.out rfl; have k2 := cell_of_heap (o := 2) HB1.out rfl; have k3 := cell_of_heap (o := 3) HB1.out rfl; have k4 := cell_of_heap (o := 4) HB1.out rfl; have k5 := cell_of_heap (o := 5) HB1.out rfl
  clear hF1
  go_wp2_with fail
  refine (HL.out w1 HF1.out).mono ?_
  rintro e w2 ⟨hb, mb, rb, root, os, l, wv, sv, lv, x, rfl, hF2, hx, hI, ha, hH, hR⟩
  have HF2 := Lib.hid (HF1.out.trans hF2)
  obtain ⟨rd, hrd, hrr, hno⟩ := reads_rd hI ha hH hR (HE.out w2 HF2.out)
  have HC1 := Lib.hid (fun W x (hF : Fr [] w2 W) (hx : WB x) => HC.out w2 HF2.out rd _ hrd W x hF hx)
  have HR1 := Lib.hid (fun W (hF : Fr [] w2 W) => HR.out w2 HF2.out rd _ hrr W x hF hx)
  have HNO := Lib.hid (hno 1 ⟨by omega, by omega⟩ (odd_no _))
  have HX := Lib.hid hx
  clear hF2 hx hI ha hH hR hrd hrr hno
  go_wp2_with fail
  refine (HC1.out w2 x (Fr.refl _ _) HX.out).mono ?_
  rintro e w3 ⟨hF3, a, e3, hto, rfl⟩
  have HF3 := Lib.hid hF3
  have HTO := Lib.hid hto
  clear hF3 hto
  go_wp2_with fail
  refine (HR1.out w3 HF3.out).mono ?_
  rintro e w4 ⟨hF4, b, f4, hto, rfl⟩
  obtain ⟨rfl, rfl⟩ := HTO.out.one hto
  have HF4 := Lib.hid (HF3.out.trans hF4)
  clear hF4 hto
  go_wp2_with fail
  refine (HC1.out w4 1 HF4.out ⟨by omega, by omega⟩).mono ?_
  rintro e w5 ⟨hF5, c, f5, hto, rfl⟩
  obtain ⟨rfl, rfl⟩ := hto.no HNO.out
  have HF5 := Lib.hid (HF2.out.trans (HF4.out.trans hF5))
  clear hF5 hto
  go_wp2_with fail
  go_ret
  exact ⟨rfl, HF5.out⟩
end Go.Proofs.YtjghgambieflaaaGreatDoor
