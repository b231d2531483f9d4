/- VerifyDepths: how deep the stack is, or where something is wrong. -/
import Derived.Test.YtdmbhkdncahbhaaDoorMVerE
import Derived.Test.YtdmbhkdncahbhaaDoorMVerH
namespace Go.Proofs.YtdmbhkdncahbhaaDoor
open Go.RowKit

set_option maxRecDepth 100000 in
set_option maxHeartbeats 1600000 in
theorem verifyDepths_walk (m : Mth) (la ca : Option Addr) (lc cc : Nat) (w : World) (hcode : RowAt w ca (flatI m.code)) (hcl : m.code.length ≤ 5864062014805) (hg : VG w) : Calls Tryd.prog 3 #[m.v la lc ca cc] w (Still (.bool true) w) := by
  have HAW := Lib.hid (fun W (hF : Fr [] w W) => awake5 W (hg.fr hF))
  have HD := Lib.hid (fun W (hF : Fr [] w W) => Depths_at m la ca lc cc W (row_fr hcode hF) (hg.fr hF).errs (hg.fr hF).field (hg.fr hF).db (hg.fr hF).et)
  have HR := Lib.hid (fun W (hF : Fr [] w W) => rDepths_at m la ca lc cc W (row_fr hcode hF) hcl)
  unfold Mth.v at HD HR
  unfold Mth.v
  obtain ⟨ll, hll⟩ : ∃ n, n = m.lits.length := ⟨_, rfl⟩
  obtain ⟨n, hN⟩ : ∃ n, n = m.code.length := ⟨_, rfl⟩
  rw [← hll, ← hN] at HD HR ⊢
  clear hcode hg hll hN hcl
  go_enter Tryd.func3, Tryd.ntmps3
  go_wp2_with fail
  refine (HAW.out _ ((Fr.refl _ _).alloc _)).mono ?_
  rintro e w2 ⟨rfl, hF2⟩
  have HF2 : Hid (Fr [] w w2) := ((Fr.refl _ _).alloc _).trans hF2
  have HB2 := Lib.hid (hF2.heap (by simp) (heap_new w _))
  have k0 := cell_of_heap (o := 0) HB2.out rfl; have k1 := cell_of_heap (o := 1) HB2.out rfl; have k2 := cell_of_heap (o := 2) HB2.out rfl; have k3 := cell_of_heap (o := 3) HB2.out rfl; have k4 := cell_of_heap (o := 4) HB2.out rfl; have k5 := cell_of_heap (o := 5) HB2.out rfl
  clear hF2
  go_wp2_with fail
  refine (HD.out w2 HF2.out).mono ?_
  rintro e w3 ⟨l, p, en, ra, rc, hto, rfl, hF3, hR3, -⟩
  have HTO := Lib.hid hto
  have HR3 := Lib.hid hR3
  have HF3 := Lib.hid (HF2.out.trans hF3)
  have HB3 := Lib.hid (hF3.heap (by simp) HB2.out)
  clear hF3 hR3 hto k0 k1 k2 k3 k4 k5
  have k0 := cell_of_heap (o := 0) HB3.out rfl; have k1 := cell_of_heap (o := 1) HB3.out rfl; have k2 := cell_of_heap (o := 2) HB3.out rfl; have k3 := cell_of_heap (o := 3) HB3.out rfl; have k4 := cell_of_heap (o := 4) HB3.out rfl; have k5 := cell_of_heap (o := 5) HB3.out rfl
  go_wp2_with fail
  refine (HR.out w3 HF3.out).mono ?_
  rintro e w4 ⟨l', p', en', ra', rc', hto', rfl, hF4, hR4, -⟩
  obtain ⟨rfl, rfl, rfl⟩ := HTO.out.one hto'
  have HF4 := Lib.hid (HF3.out.trans hF4)
  have hl := HTO.out.len
  have hsm : Calls Tryd.prog 10 #[.slice ra l.length rc, .slice ra' l.length rc'] w4 (Still (.bool true) w4) := by
    have h := sameInts_at l l ra ra' rc rc' w4 (row_fr HR3.out hF4) hR4 (by omega) (by omega)
    simpa using h
  obtain ⟨n1, hn1⟩ : ∃ n, n = l.length := ⟨_, rfl⟩
  rw [← hn1] at hsm ⊢
  clear hF4 hR4 hto' hl hn1
  go_wp2_with fail
  refine hsm.mono ?_
  rintro e w5 ⟨rfl, hF5⟩
  have HF5 := Lib.hid (HF4.out.trans hF5)
  clear hF5 hsm
  go_wp2_with fail
  go_ret
  exact ⟨rfl, HF5.out⟩
end Go.Proofs.YtdmbhkdncahbhaaDoor
