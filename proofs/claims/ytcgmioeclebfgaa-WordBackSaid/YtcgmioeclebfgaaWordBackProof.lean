/- WordBack returns true for every number and every word: each number that may be has one word and comes back, so does each reference, and no word is both; no condition. -/
import Derived.Test.YtcgmioeclebfgaaRows
import Derived.Test.YtcgmioeclebfgaaFacts
import Derived.WalkKit
import Derived.ProofKit
import Derived.OpenShut
namespace Go.Proofs.Ytcgmioeclebfgaa.wordBack
open Go.ChangeShapes Go.WideShapes Go.ChangeAt Go.RowKit
set_option linter.unusedVariables false      -- a walk need not use every 'w<i>' (that an integer argument fits its kind)

theorem own : ownKnob Try.prog.godebug = none := by kernel_rfl

/-! the walk: the Go text returns true -/
theorem walk (a0 : Int) (a1 : Int) (w0 : (Lit.int .i64 a0).wf = true) (w1 : (Lit.int .u64 a1).wf = true) (w : World) :
    Calls Try.prog 5 #[.int .i64 a0, .int .u64 a1] w fun e w' => e = .returned (.bool true) ∧ Grown w w' := by
  obtain ⟨b1, b2⟩ := wf_u64 w1
  have bf := fiW_bd a0
  have hA : (fiE a0 = 0 ∧ inE (fiW a0) = 0 ∧ inN (fiW a0) = a0 ∧ odd (fiW a0) = true) ∨ fiE a0 = 1 := by
    cases h : fit a0
    · exact Or.inr (fi_no a0 h).2
    · exact Or.inl ⟨(fi_yes a0 h).2, (in_yes _ (odd_fiW a0 h)).2, inN_fiW a0 h, odd_fiW a0 h⟩
  have hB : (inE a1 = 0 ∧ rfE a1 = 1 ∧ fiE (inN a1) = 0 ∧ fiW (inN a1) = a1 ∧ odd a1 = true) ∨ (inE a1 = 1 ∧ rfE a1 = 0 ∧ frE (rfN a1) = 0 ∧ frW (rfN a1) = a1 ∧ odd a1 = false) ∨ (inE a1 = 1 ∧ rfE a1 = 1 ∧ odd a1 = false) := by
    cases h : odd a1
    · refine Or.inr ?_
      cases h' : rfOk a1
      · exact Or.inr ⟨(in_no a1 h).2, (rf_no a1 h').2, rfl⟩
      · exact Or.inl ⟨(in_no a1 h).2, (rf_yes a1 h').2, (frW_rfN a1 h').2, (frW_rfN a1 h').1, rfl⟩
    · have h' : rfOk a1 = false := by
        cases h' : rfOk a1
        · rfl
        · rw [rfOk_iff] at h'; rw [odd_iff] at h; omega
      exact Or.inl ⟨(in_yes a1 h).2, (rf_no a1 h').2, (fiW_inN a1 h b1 b2).2, (fiW_inN a1 h b1 b2).1, rfl⟩
  have hD := Dn.refl w
  rcases hA with ⟨p1, p2, p3, p4⟩ | p1 <;> rcases hB with ⟨q1, q2, q3, q4, q5⟩ | ⟨q1, q2, q3, q4, q5⟩ | ⟨q1, q2, q5⟩
  all_goals
    go_enter Try.func5, Try.ntmps5
    go_wp2_with (first
      | (go_at_call 11; refine (c11 _).mono ?_; rintro e w' ⟨rfl, hd⟩; replace hD := hD.trans hd; clear hd)
      | (go_at_call 12; refine (c12 _ _).mono ?_; rintro e w' ⟨rfl, rfl⟩)
      | (go_at_call 14; refine (c14 _ _).mono ?_; rintro e w' ⟨rfl, rfl⟩)
      | (go_at_call 16; refine (c16 _ _ (by omega) (by omega)).mono ?_; rintro e w' ⟨rfl, rfl⟩)
      | (go_at_call 18; refine (c18 _ _ b1 b2).mono ?_; rintro e w' ⟨rfl, rfl⟩)
      | (go_at_call 20; refine (c20 _ _ (by omega) (by omega)).mono ?_; rintro e w' ⟨rfl, rfl⟩))
    go_ret
    exact ⟨rfl, hD.grown⟩

/-! ### THE ROW's STEP: WRITTEN OUT: LEAVE IT -/
set_option maxRecDepth 100000 in
theorem lifted (os : Os) (started : os.Started) (H : Type) (enc : TypeId × Value → H) :
    ReturnsInHanded {} Try.checked os 5 .any (Rows.wordBackSpec.pre6 enc Try.prog Try.f5 Rows.wordBackRow.domain false) (Rows.wordBackSpec.post enc Try.prog Try.f5 false true false false) := by
  refine returnsInHanded_of_change (C := Try.checked) own started (by kernel_rfl) Try.func5
    (ChangeSpec.witness6 (enc := enc) (C := Try.checked) false ⟨#[], #[.int .i64 0, .int .u64 0], []⟩ 8 (by kernel_rfl) (by kernel_rfl) (by kernel_rfl) (by kernel_rfl)) ?_
  intro W base args ds gs before hval0 hW hcnd _
  have hval : ∀ (j : Nat) t v, Try.f5.params[j]? = some t → args[j]? = some v → Value.okWide Try.prog W .any base t v := hval0
  have hW' := hW
  obtain ⟨p, q, hA0, hV, rfl, hfz, hnd⟩ := hW
  have hA : DataW.TrodAll enc Try.prog W 0 (fun _ => true) true Try.f5.params.toList args.toList ds p := hA0
  rw [Try.params5] at hA hval
  obtain ⟨v0, vs0, d0, ds0, p0, q0, hargs, rfl, rfl, h0, r0⟩ := trodAll_cons hA
  obtain ⟨v1, vs1, d1, ds1, p1, q1, rfl, rfl, rfl, h1, r1⟩ := trodAll_cons r0
  obtain ⟨rfl, rfl, rfl⟩ := trodAll_nil r1
  obtain rfl : args = #[v0, v1] := by cases args; simp_all
  obtain ⟨rfl, rfl⟩ := trodVars_none hV
  obtain ⟨a0, rfl, rfl, rfl, w0⟩ := open_int Try.underlying3 (hval 0 3 v0 rfl rfl) h0
  obtain ⟨a1, rfl, rfl, rfl, w1⟩ := open_int Try.underlying23 (hval 1 23 v1 rfl rfl) h1
  clear hA0 hval0
  simp only [List.append_nil] at hW'
  refine (walk a0 a1 w0 w1 W).mono fun e W' ⟨he, hg⟩ => ?_
  subst he
  exact ⟨_, rfl, post_of_same (pa := []) (pv := []) hW' (fun _ _ _ => (trodAll_cons_mk (shut_bool Try.underlying4 _) trodAll_mk0)) (fun sp _ => (trodAll_cons_mk (shut_int Try.underlying3 w0) (trodAll_cons_mk (shut_int Try.underlying23 w1) trodAll_mk0))) (fun _ _ => rfl) rfl
    (hg.frame _) hg.2.1 (ok_one (by kernel_rfl) rfl (okWide_bool_mk Try.underlying4 _))⟩

theorem over : Rows.wordBackRow.holds Try.pinned (OpenSpec.ofChange Rows.wordBackSpec) :=
  OpenClaim.holds_of_wide 5 Try.f5 rfl rfl rfl rfl rfl rfl rfl ⟨rfl, rfl, rfl, rfl, rfl⟩ rfl rfl rfl rfl rfl (by kernel_rfl) Try.func5 (by kernel_rfl)
    (of_decide_eq_true (by kernel_rfl)) (by unfold Func.isWrapper; first | (rw [if_pos (by decide +kernel)]; kernel_rfl) | (rw [if_neg (by decide +kernel)]; exact ⟨rfl, rfl⟩))
    (fun os started H enc _ => lifted os started H enc)

/-- ████ THE STATEMENT ████ -/
theorem proved : Rows.WordBackSaid :=
  over
end Go.Proofs.Ytcgmioeclebfgaa.wordBack
