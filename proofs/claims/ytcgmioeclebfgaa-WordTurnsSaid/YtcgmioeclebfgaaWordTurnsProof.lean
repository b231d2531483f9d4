/- WordTurns returns true for every kind and every two words: plus, times, and, or, exclusive or do not hang on the order, and minus turned round is below 0; no condition. -/
import Derived.Test.YtcgmioeclebfgaaRows
import Derived.Test.YtcgmioeclebfgaaFacts
import Derived.WalkKit
import Derived.ProofKit
import Derived.OpenShut
namespace Go.Proofs.Ytcgmioeclebfgaa.wordTurns
open Go.ChangeShapes Go.WideShapes Go.ChangeAt Go.RowKit
set_option linter.unusedVariables false      -- a walk need not use every 'w<i>' (that an integer argument fits its kind)

theorem own : ownKnob Try.prog.godebug = none := by kernel_rfl

theorem arW_bd (k v u : Int) : 0 ≤ arW k v u ∧ arW k v u ≤ 18446744073709551615 := by
  unfold arW; split
  · exact fiW_bd _
  · omega
theorem minus_turn (v u : Int) (h : arOk 1 v u = true) (g : arOk 1 u v = true) : inN (arW 1 v u) = wrap64 (-(inN (arW 1 u v))) := by
  rw [ar_yes _ _ _ h, ar_yes _ _ _ g]
  have hf : fit (resN 1 (inN v) (inN u)) = true := by unfold arOk at h; simp at h; exact h.2.2.2
  have gf : fit (resN 1 (inN u) (inN v)) = true := by unfold arOk at g; simp at g; exact g.2.2.2
  rw [inN_fiW _ hf, inN_fiW _ gf]
  have e1 : resN 1 (inN v) (inN u) = inN v - inN u := by simp [resN]
  have e2 : resN 1 (inN u) (inN v) = inN u - inN v := by simp [resN]
  rw [e1] at hf ⊢
  rw [e2] at gf ⊢
  rw [fit_iff] at hf gf
  rw [IntWalk.wrap64_in _ (by omega)]; omega
/-! the walk: the Go text returns true -/
theorem walk (a0 : Int) (a1 : Int) (a2 : Int) (w0 : (Lit.int .i64 a0).wf = true) (w1 : (Lit.int .u64 a1).wf = true) (w2 : (Lit.int .u64 a2).wf = true) (w : World) :
    Calls Try.prog 7 #[.int .i64 a0, .int .u64 a1, .int .u64 a2] w fun e w' => e = .returned (.bool true) ∧ Grown w w' := by
  obtain ⟨b1, b2⟩ := wf_u64 w1
  obtain ⟨b3, b4⟩ := wf_u64 w2
  have hD := Dn.refl w
  by_cases hk : a0 = 0 ∨ a0 = 2 ∨ a0 = 5 ∨ a0 = 6 ∨ a0 = 7
  · obtain ⟨e1, e2⟩ := ar_comm a0 a1 a2 hk
    rcases hk with rfl | rfl | rfl | rfl | rfl
    all_goals
      go_enter Try.func7, Try.ntmps7
      go_wp2_with (first
        | (go_at_call 11; refine (c11 _).mono ?_; rintro e w' ⟨rfl, hd⟩; replace hD := hD.trans hd; clear hd)
        | (go_at_call 22; refine (c22 _ _ _ _ (by omega) (by omega) (by omega) (by omega)).mono ?_; rintro e w' ⟨rfl, hd⟩; replace hD := hD.trans hd; clear hd)
        | (go_at_call 24; refine (c24 _ _ _ _ (by omega) (by omega) (by omega) (by omega)).mono ?_; rintro e w' ⟨rfl, rfl⟩)
        | (go_at_call 16; refine (c16 _ _ (by omega) (by omega)).mono ?_; rintro e w' ⟨rfl, rfl⟩))
      all_goals (go_ret; exact ⟨rfl, hD.grown⟩)
  by_cases h1 : a0 = 1
  · subst h1
    clear hk
    have g1 := arW_bd 1 a1 a2
    have g2 := arW_bd 1 a2 a1
    cases ho : arOk 1 a1 a2
    · skip
      go_enter Try.func7, Try.ntmps7
      go_wp2_with (first
        | (go_at_call 11; refine (c11 _).mono ?_; rintro e w' ⟨rfl, hd⟩; replace hD := hD.trans hd; clear hd)
        | (go_at_call 22; refine (c22 _ _ _ _ (by omega) (by omega) (by omega) (by omega)).mono ?_; rintro e w' ⟨rfl, hd⟩; replace hD := hD.trans hd; clear hd)
        | (go_at_call 24; refine (c24 _ _ _ _ (by omega) (by omega) (by omega) (by omega)).mono ?_; rintro e w' ⟨rfl, rfl⟩)
        | (go_at_call 16; refine (c16 _ _ (by omega) (by omega)).mono ?_; rintro e w' ⟨rfl, rfl⟩))
      all_goals (go_ret; exact ⟨rfl, hD.grown⟩)
    cases hp : arOk 1 a2 a1
    · skip
      go_enter Try.func7, Try.ntmps7
      go_wp2_with (first
        | (go_at_call 11; refine (c11 _).mono ?_; rintro e w' ⟨rfl, hd⟩; replace hD := hD.trans hd; clear hd)
        | (go_at_call 22; refine (c22 _ _ _ _ (by omega) (by omega) (by omega) (by omega)).mono ?_; rintro e w' ⟨rfl, hd⟩; replace hD := hD.trans hd; clear hd)
        | (go_at_call 24; refine (c24 _ _ _ _ (by omega) (by omega) (by omega) (by omega)).mono ?_; rintro e w' ⟨rfl, rfl⟩)
        | (go_at_call 16; refine (c16 _ _ (by omega) (by omega)).mono ?_; rintro e w' ⟨rfl, rfl⟩))
      all_goals (go_ret; exact ⟨rfl, hD.grown⟩)
    have e := minus_turn a1 a2 ho hp
    go_enter Try.func7, Try.ntmps7
    go_wp2_with (first
      | (go_at_call 11; refine (c11 _).mono ?_; rintro e w' ⟨rfl, hd⟩; replace hD := hD.trans hd; clear hd)
      | (go_at_call 22; refine (c22 _ _ _ _ (by omega) (by omega) (by omega) (by omega)).mono ?_; rintro e w' ⟨rfl, hd⟩; replace hD := hD.trans hd; clear hd)
      | (go_at_call 24; refine (c24 _ _ _ _ (by omega) (by omega) (by omega) (by omega)).mono ?_; rintro e w' ⟨rfl, rfl⟩)
      | (go_at_call 16; refine (c16 _ _ (by omega) (by omega)).mono ?_; rintro e w' ⟨rfl, rfl⟩))
    all_goals (go_ret; exact ⟨rfl, hD.grown⟩)
  have k0 : (a0 == 0) = false := by simp; omega
  have k1 : (a0 == 1) = false := by simp; omega
  have k2 : (a0 == 2) = false := by simp; omega
  have k5 : (a0 == 5) = false := by simp; omega
  have k6 : (a0 == 6) = false := by simp; omega
  have k7 : (a0 == 7) = false := by simp; omega
  clear hk h1
  cases hl : leOk 0 a1 a2
  · skip
    go_enter Try.func7, Try.ntmps7
    go_wp2_with (first
      | (go_at_call 11; refine (c11 _).mono ?_; rintro e w' ⟨rfl, hd⟩; replace hD := hD.trans hd; clear hd)
      | (go_at_call 22; refine (c22 _ _ _ _ (by omega) (by omega) (by omega) (by omega)).mono ?_; rintro e w' ⟨rfl, hd⟩; replace hD := hD.trans hd; clear hd)
      | (go_at_call 24; refine (c24 _ _ _ _ (by omega) (by omega) (by omega) (by omega)).mono ?_; rintro e w' ⟨rfl, rfl⟩)
      | (go_at_call 16; refine (c16 _ _ (by omega) (by omega)).mono ?_; rintro e w' ⟨rfl, rfl⟩))
    all_goals (go_ret; exact ⟨rfl, hD.grown⟩)
  have hv : odd a1 = true := by unfold leOk at hl; simp at hl; exact hl.1
  have hu : odd a2 = true := by unfold leOk at hl; simp at hl; exact hl.2
  have l1 : leB 0 a1 a2 = decide (inN a1 < inN a2) := by unfold leB; rw [hl]; simp
  have l2 : leB 2 a1 a2 = decide (inN a1 = inN a2) := by
    unfold leB leOk; rw [hv, hu]; simp
  have l3 : leB 0 a2 a1 = decide (inN a2 < inN a1) := by
    unfold leB leOk; rw [hv, hu]; simp
  clear hv hu
  have hc : (leB 0 a1 a2 = true ∧ leB 2 a1 a2 = false ∧ leB 0 a2 a1 = false) ∨ (leB 0 a1 a2 = false ∧ leB 2 a1 a2 = true ∧ leB 0 a2 a1 = false) ∨ (leB 0 a1 a2 = false ∧ leB 2 a1 a2 = false ∧ leB 0 a2 a1 = true) := by
    rw [l1, l2, l3]; simp; omega
  clear l1 l2 l3
  rcases hc with ⟨l1, l2, l3⟩ | ⟨l1, l2, l3⟩ | ⟨l1, l2, l3⟩
  all_goals
    go_enter Try.func7, Try.ntmps7
    go_wp2_with (first
      | (go_at_call 11; refine (c11 _).mono ?_; rintro e w' ⟨rfl, hd⟩; replace hD := hD.trans hd; clear hd)
      | (go_at_call 22; refine (c22 _ _ _ _ (by omega) (by omega) (by omega) (by omega)).mono ?_; rintro e w' ⟨rfl, hd⟩; replace hD := hD.trans hd; clear hd)
      | (go_at_call 24; refine (c24 _ _ _ _ (by omega) (by omega) (by omega) (by omega)).mono ?_; rintro e w' ⟨rfl, rfl⟩)
      | (go_at_call 16; refine (c16 _ _ (by omega) (by omega)).mono ?_; rintro e w' ⟨rfl, rfl⟩))
    all_goals (go_ret; exact ⟨rfl, hD.grown⟩)

/-! ### THE ROW's STEP: WRITTEN OUT: LEAVE IT -/
set_option maxRecDepth 100000 in
theorem lifted (os : Os) (started : os.Started) (H : Type) (enc : TypeId × Value → H) :
    ReturnsInHanded {} Try.checked os 7 .any (Rows.wordTurnsSpec.pre6 enc Try.prog Try.f7 Rows.wordTurnsRow.domain false) (Rows.wordTurnsSpec.post enc Try.prog Try.f7 false true false false) := by
  refine returnsInHanded_of_change (C := Try.checked) own started (by kernel_rfl) Try.func7
    (ChangeSpec.witness6 (enc := enc) (C := Try.checked) false ⟨#[], #[.int .i64 0, .int .u64 0, .int .u64 0], []⟩ 8 (by kernel_rfl) (by kernel_rfl) (by kernel_rfl) (by kernel_rfl)) ?_
  intro W base args ds gs before hval0 hW hcnd _
  have hval : ∀ (j : Nat) t v, Try.f7.params[j]? = some t → args[j]? = some v → Value.okWide Try.prog W .any base t v := hval0
  have hW' := hW
  obtain ⟨p, q, hA0, hV, rfl, hfz, hnd⟩ := hW
  have hA : DataW.TrodAll enc Try.prog W 0 (fun _ => true) true Try.f7.params.toList args.toList ds p := hA0
  rw [Try.params7] at hA hval
  obtain ⟨v0, vs0, d0, ds0, p0, q0, hargs, rfl, rfl, h0, r0⟩ := trodAll_cons hA
  obtain ⟨v1, vs1, d1, ds1, p1, q1, rfl, rfl, rfl, h1, r1⟩ := trodAll_cons r0
  obtain ⟨v2, vs2, d2, ds2, p2, q2, rfl, rfl, rfl, h2, r2⟩ := trodAll_cons r1
  obtain ⟨rfl, rfl, rfl⟩ := trodAll_nil r2
  obtain rfl : args = #[v0, v1, v2] := by cases args; simp_all
  obtain ⟨rfl, rfl⟩ := trodVars_none hV
  obtain ⟨a0, rfl, rfl, rfl, w0⟩ := open_int Try.underlying3 (hval 0 3 v0 rfl rfl) h0
  obtain ⟨a1, rfl, rfl, rfl, w1⟩ := open_int Try.underlying23 (hval 1 23 v1 rfl rfl) h1
  obtain ⟨a2, rfl, rfl, rfl, w2⟩ := open_int Try.underlying23 (hval 2 23 v2 rfl rfl) h2
  clear hA0 hval0
  simp only [List.append_nil] at hW'
  refine (walk a0 a1 a2 w0 w1 w2 W).mono fun e W' ⟨he, hg⟩ => ?_
  subst he
  exact ⟨_, rfl, post_of_same (pa := []) (pv := []) hW' (fun _ _ _ => (trodAll_cons_mk (shut_bool Try.underlying4 _) trodAll_mk0)) (fun sp _ => (trodAll_cons_mk (shut_int Try.underlying3 w0) (trodAll_cons_mk (shut_int Try.underlying23 w1) (trodAll_cons_mk (shut_int Try.underlying23 w2) trodAll_mk0)))) (fun _ _ => rfl) rfl
    (hg.frame _) hg.2.1 (ok_one (by kernel_rfl) rfl (okWide_bool_mk Try.underlying4 _))⟩

theorem over : Rows.wordTurnsRow.holds Try.pinned (OpenSpec.ofChange Rows.wordTurnsSpec) :=
  OpenClaim.holds_of_wide 7 Try.f7 rfl rfl rfl rfl rfl rfl rfl ⟨rfl, rfl, rfl, rfl, rfl⟩ rfl rfl rfl rfl rfl (by kernel_rfl) Try.func7 (by kernel_rfl)
    (of_decide_eq_true (by kernel_rfl)) (by unfold Func.isWrapper; first | (rw [if_pos (by decide +kernel)]; kernel_rfl) | (rw [if_neg (by decide +kernel)]; exact ⟨rfl, rfl⟩))
    (fun os started H enc _ => lifted os started H enc)

/-- ████ THE STATEMENT ████ -/
theorem proved : Rows.WordTurnsSaid :=
  over
end Go.Proofs.Ytcgmioeclebfgaa.wordTurns
