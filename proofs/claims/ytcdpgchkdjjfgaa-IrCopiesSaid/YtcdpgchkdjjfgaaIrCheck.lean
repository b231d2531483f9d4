/- ir.Check. -/
import Derived.Test.YtcdpgchkdjjfgaaIrStarts
import Derived.Test.YtcdpgchkdjjfgaaIrMaps
import Derived.Test.YtcdpgchkdjjfgaaIrCode
namespace Go.Proofs.Ytcdpgchkdjjfgaa
open Go.RowKit

noncomputable def okU (u : Un) : Bool := numsOk u && startsOk u && u.maps.all (mapOk u.regs u.spills u.temps) && codeOk u
noncomputable def errU (u : Un) : Int := if okU u = true then 0 else 1
theorem numsOk_iff (u : Un) : numsOk u = true ↔ u.method ≠ 0 ∧ (0 ≤ u.args ∧ u.args ≤ 4) ∧ (u.args ≤ u.temps ∧ u.temps ≤ 16) ∧ (0 ≤ u.regs ∧ u.regs ≤ 4096) ∧ (0 ≤ u.spills ∧ u.spills ≤ 4096) ∧ (0 ≤ u.sites ∧ u.sites ≤ 128) := by
  unfold numsOk wtn
  simp [and_assoc]
theorem four (a b c d : Bool) : a = false ∨ (a = true ∧ b = false) ∨ (a = true ∧ b = true ∧ c = false) ∨ (a = true ∧ b = true ∧ c = true) := by
  cases a <;> cases b <;> cases c <;> cases d <;> simp
set_option maxRecDepth 100000 in
set_option maxHeartbeats 4000000 in
theorem ir_Check (u : Un) (w : World) (hA : UAt w u) (hB : UB u) : Calls Try.prog 21 #[u.v] w (Still (.int .i64 (errU u)) w) := by
  have h1 := fun W => ir_areNumbers u W
  have h2 : Hid (∀ W, Fr [] w W → Calls Try.prog 27 #[u.v] W (Still (.bool (startsOk u)) W)) := Lib.hid fun W hF => ir_areStarts u W (hA.starts.fr hF) hB
  have h3 : Hid (numsOk u = true → ∀ W, Fr [] w W → Calls Try.prog 28 #[u.v] W (Still (.bool (u.maps.all (mapOk u.regs u.spills u.temps))) W)) := Lib.hid fun hn W hF => by
    have := (numsOk_iff u).1 hn
    exact ir_areMaps u W (hA.maps.fr hF) hB ⟨by omega, by omega⟩
  have h4 : Hid (numsOk u = true → startsOk u = true → ∀ W, Fr [] w W → Calls Try.prog 29 #[u.v] W (Still (.bool (codeOk u)) W)) := Lib.hid fun hn hs W hF => by
    have := (numsOk_iff u).1 hn
    have h5 := (startsOk_iff u).1 hs
    exact ir_isCode u W (hA.fr hF) hB this.2.2.2.2.2 (by omega)
  have HE : Hid (∀ b, okU u = b → errU u = if b = true then 0 else 1) := Lib.hid fun b h => by unfold errU; rw [h]
  have HO : Hid (okU u = (numsOk u && startsOk u && u.maps.all (mapOk u.regs u.spills u.temps) && codeOk u)) := Lib.hid rfl
  generalize errU u = er at *
  generalize okU u = ok at *
  generalize numsOk u = b1 at *
  generalize startsOk u = b2 at *
  generalize u.maps.all (mapOk u.regs u.spills u.temps) = b3 at *
  generalize codeOk u = b4 at *
  obtain ⟨method, args, T, R, P, S, ea, en, ec, ca, co, cc, sa, st, sc, ma, mp, mc⟩ := u
  unfold Un.v at *
  simp only at h1 h2 h3 h4 ⊢
  clear hA hB
  generalize en.length = el at *
  generalize co.length = cl at *
  generalize st.length = sl at *
  generalize mp.length = ml at *
  rcases four b1 b2 b3 b4 with rfl | ⟨rfl, rfl⟩ | ⟨rfl, rfl, rfl⟩ | ⟨rfl, rfl, rfl⟩
  case inr.inr.inr =>
    cases b4
    all_goals
      simp only [Bool.true_and, Bool.and_false] at HO
      have HV := Lib.hid (HE.out _ HO.out)
      simp only [if_true, if_false, Bool.false_eq_true] at HV
      have h3' := Lib.hid (h3.out rfl)
      have h4' := Lib.hid (h4.out rfl rfl)
      go_enter Try.func21, Try.ntmps21
      go_wp2_with (first
        | (go_at_call 26; refine (h1 _).mono ?_; rintro e w1 ⟨rfl, hF⟩; have HF1 : Hid (Fr [] w w1) := ((Fr.refl [] w).alloc _).trans hF; have HU1 := Lib.hid (hF.heap (by simp) (heap_new w _)); have b0 := cell_of_heap (o := 0) HU1.out rfl; have b1 := cell_of_heap (o := 1) HU1.out rfl; have b2 := cell_of_heap (o := 2) HU1.out rfl; have b3 := cell_of_heap (o := 3) HU1.out rfl; have b4 := cell_of_heap (o := 4) HU1.out rfl; have b5 := cell_of_heap (o := 5) HU1.out rfl; have b6 := cell_of_heap (o := 6) HU1.out rfl; have b7 := cell_of_heap (o := 7) HU1.out rfl; have b8 := cell_of_heap (o := 8) HU1.out rfl; have b9 := cell_of_heap (o := 9) HU1.out rfl; clear hF)
        | (go_at_call 27; refine (h2.out _ HF1.out).mono ?_; rintro e w2 ⟨rfl, hF⟩; have HF2 : Hid (Fr [] w w2) := HF1.out.trans hF; have HU2 := Lib.hid (hF.heap (by simp) HU1.out); have c0 := cell_of_heap (o := 0) HU2.out rfl; have c1 := cell_of_heap (o := 1) HU2.out rfl; have c2 := cell_of_heap (o := 2) HU2.out rfl; have c3 := cell_of_heap (o := 3) HU2.out rfl; have c4 := cell_of_heap (o := 4) HU2.out rfl; have c5 := cell_of_heap (o := 5) HU2.out rfl; have c6 := cell_of_heap (o := 6) HU2.out rfl; have c7 := cell_of_heap (o := 7) HU2.out rfl; have c8 := cell_of_heap (o := 8) HU2.out rfl; have c9 := cell_of_heap (o := 9) HU2.out rfl; clear hF)
        | (go_at_call 28; refine (h3'.out _ HF2.out).mono ?_; rintro e w3 ⟨rfl, hF⟩; have HF3 : Hid (Fr [] w w3) := HF2.out.trans hF; have HU3 := Lib.hid (hF.heap (by simp) HU2.out); have d0 := cell_of_heap (o := 0) HU3.out rfl; have d1 := cell_of_heap (o := 1) HU3.out rfl; have d2 := cell_of_heap (o := 2) HU3.out rfl; have d3 := cell_of_heap (o := 3) HU3.out rfl; have d4 := cell_of_heap (o := 4) HU3.out rfl; have d5 := cell_of_heap (o := 5) HU3.out rfl; have d6 := cell_of_heap (o := 6) HU3.out rfl; have d7 := cell_of_heap (o := 7) HU3.out rfl; have d8 := cell_of_heap (o := 8) HU3.out rfl; have d9 := cell_of_heap (o := 9) HU3.out rfl; clear hF)
        | (go_at_call 29; refine (h4'.out _ HF3.out).mono ?_; rintro e w4 ⟨rfl, hF⟩; have HF4 : Hid (Fr [] w w4) := HF3.out.trans hF; clear hF))
      go_ret
      exact ⟨ret1 (vi HV.out.symm), HF4.out⟩
  all_goals
    simp only [Bool.true_and, Bool.false_and] at HO
    have HV := Lib.hid (HE.out _ HO.out)
    simp only [if_false, Bool.false_eq_true] at HV
    have h3' := Lib.hid h3.out
    try have h3'' := Lib.hid (h3.out rfl)
    go_enter Try.func21, Try.ntmps21
    go_wp2_with (first
      | (go_at_call 26; refine (h1 _).mono ?_; rintro e w1 ⟨rfl, hF⟩; have HF1 : Hid (Fr [] w w1) := ((Fr.refl [] w).alloc _).trans hF; have HU1 := Lib.hid (hF.heap (by simp) (heap_new w _)); have b0 := cell_of_heap (o := 0) HU1.out rfl; have b1 := cell_of_heap (o := 1) HU1.out rfl; have b2 := cell_of_heap (o := 2) HU1.out rfl; have b3 := cell_of_heap (o := 3) HU1.out rfl; have b4 := cell_of_heap (o := 4) HU1.out rfl; have b5 := cell_of_heap (o := 5) HU1.out rfl; have b6 := cell_of_heap (o := 6) HU1.out rfl; have b7 := cell_of_heap (o := 7) HU1.out rfl; have b8 := cell_of_heap (o := 8) HU1.out rfl; have b9 := cell_of_heap (o := 9) HU1.out rfl; clear hF)
      | (go_at_call 27; refine (h2.out _ HF1.out).mono ?_; rintro e w2 ⟨rfl, hF⟩; have HF2 : Hid (Fr [] w w2) := HF1.out.trans hF; have HU2 := Lib.hid (hF.heap (by simp) HU1.out); have c0 := cell_of_heap (o := 0) HU2.out rfl; have c1 := cell_of_heap (o := 1) HU2.out rfl; have c2 := cell_of_heap (o := 2) HU2.out rfl; have c3 := cell_of_heap (o := 3) HU2.out rfl; have c4 := cell_of_heap (o := 4) HU2.out rfl; have c5 := cell_of_heap (o := 5) HU2.out rfl; have c6 := cell_of_heap (o := 6) HU2.out rfl; have c7 := cell_of_heap (o := 7) HU2.out rfl; have c8 := cell_of_heap (o := 8) HU2.out rfl; have c9 := cell_of_heap (o := 9) HU2.out rfl; clear hF)
      | (go_at_call 28; refine (h3''.out _ HF2.out).mono ?_; rintro e w3 ⟨rfl, hF⟩; have HF3 : Hid (Fr [] w w3) := HF2.out.trans hF; have HU3 := Lib.hid (hF.heap (by simp) HU2.out); have d0 := cell_of_heap (o := 0) HU3.out rfl; have d1 := cell_of_heap (o := 1) HU3.out rfl; have d2 := cell_of_heap (o := 2) HU3.out rfl; have d3 := cell_of_heap (o := 3) HU3.out rfl; have d4 := cell_of_heap (o := 4) HU3.out rfl; have d5 := cell_of_heap (o := 5) HU3.out rfl; have d6 := cell_of_heap (o := 6) HU3.out rfl; have d7 := cell_of_heap (o := 7) HU3.out rfl; have d8 := cell_of_heap (o := 8) HU3.out rfl; have d9 := cell_of_heap (o := 9) HU3.out rfl; clear hF))
    go_ret
    exact ⟨ret1 (vi HV.out.symm), by first | exact HF3.out | exact HF2.out | exact HF1.out⟩
end Go.Proofs.Ytcdpgchkdjjfgaa
