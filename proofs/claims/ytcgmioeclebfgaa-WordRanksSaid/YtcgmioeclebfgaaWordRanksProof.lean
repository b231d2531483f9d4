/- WordRanks returns true for every three numbers: less is an order of all numbers; no condition. -/
import Derived.Test.YtcgmioeclebfgaaRows
import Derived.Test.YtcgmioeclebfgaaFacts
import Derived.WalkKit
import Derived.ProofKit
import Derived.OpenShut
namespace Go.Proofs.Ytcgmioeclebfgaa.wordRanks
open Go.ChangeShapes Go.WideShapes Go.ChangeAt Go.RowKit
set_option linter.unusedVariables false      -- a walk need not use every 'w<i>' (that an integer argument fits its kind)

theorem own : ownKnob Try.prog.godebug = none := by kernel_rfl

/-! the walk: the Go text returns true -/
theorem walk (a0 : Int) (a1 : Int) (a2 : Int) (w0 : (Lit.int .i64 a0).wf = true) (w1 : (Lit.int .i64 a1).wf = true) (w2 : (Lit.int .i64 a2).wf = true) (w : World) :
    Calls Try.prog 10 #[.int .i64 a0, .int .i64 a1, .int .i64 a2] w fun e w' => e = .returned (.bool true) ∧ Grown w w' := by
  have fa := fiW_bd a0
  have fb := fiW_bd a1
  have fc := fiW_bd a2
  have hD := Dn.refl w
  cases ha : fit a0
  · have e1 := le_left 0 a0 (fiW a1) ha
    have e4' : (fiW a0 == 0) = true := by rw [(fi_no a0 ha).1]; rfl
    clear ha
    go_enter Try.func10, Try.ntmps10
    go_wp2_with (first
      | (go_at_call 11; refine (c11 _).mono ?_; rintro e w' ⟨rfl, hd⟩; replace hD := hD.trans hd; clear hd)
      | (go_at_call 26; refine (c26 _ _).mono ?_; rintro e w' ⟨rfl, rfl⟩)
      | (go_at_call 24; refine (c24 _ _ _ _ (by omega) (by omega) (by omega) (by omega)).mono ?_; rintro e w' ⟨rfl, rfl⟩))
    all_goals (go_ret; exact ⟨rfl, hD.grown⟩)
  have na : (fiW a0 == 0) = false := by simpa using fiW_ne a0 ha
  cases hb : fit a1
  · have e1 := le_right 0 (fiW a0) a1 hb
    have e4' : (fiW a1 == 0) = true := by rw [(fi_no a1 hb).1]; rfl
    clear ha hb
    go_enter Try.func10, Try.ntmps10
    go_wp2_with (first
      | (go_at_call 11; refine (c11 _).mono ?_; rintro e w' ⟨rfl, hd⟩; replace hD := hD.trans hd; clear hd)
      | (go_at_call 26; refine (c26 _ _).mono ?_; rintro e w' ⟨rfl, rfl⟩)
      | (go_at_call 24; refine (c24 _ _ _ _ (by omega) (by omega) (by omega) (by omega)).mono ?_; rintro e w' ⟨rfl, rfl⟩))
    all_goals (go_ret; exact ⟨rfl, hD.grown⟩)
  have nb : (fiW a1 == 0) = false := by simpa using fiW_ne a1 hb
  have e1 := (le_of 0 a0 a1 (by omega) ha hb).1
  cases hc : fit a2
  · have e2 := le_right 0 (fiW a1) a2 hc
    have e4' : (fiW a2 == 0) = true := by rw [(fi_no a2 hc).1]; rfl
    clear ha hb hc
    go_enter Try.func10, Try.ntmps10
    go_wp2_with (first
      | (go_at_call 11; refine (c11 _).mono ?_; rintro e w' ⟨rfl, hd⟩; replace hD := hD.trans hd; clear hd)
      | (go_at_call 26; refine (c26 _ _).mono ?_; rintro e w' ⟨rfl, rfl⟩)
      | (go_at_call 24; refine (c24 _ _ _ _ (by omega) (by omega) (by omega) (by omega)).mono ?_; rintro e w' ⟨rfl, rfl⟩))
    all_goals (go_ret; exact ⟨rfl, hD.grown⟩)
  have x1 : leB 0 (fiW a0) (fiW a1) = decide (a0 < a1) := (le_of 0 a0 a1 (by omega) ha hb).2
  obtain ⟨e2, x2⟩ := le_of 0 a1 a2 (by omega) hb hc
  replace x2 : leB 0 (fiW a1) (fiW a2) = decide (a1 < a2) := x2
  obtain ⟨e3, x3⟩ := le_of 0 a0 a2 (by omega) ha hc
  replace x3 : leB 0 (fiW a0) (fiW a2) = decide (a0 < a2) := x3
  have x4 : leB 2 (fiW a0) (fiW a1) = decide (a0 = a1) := (le_of 2 a0 a1 (by omega) ha hb).2
  have x5 : leB 1 (fiW a0) (fiW a1) = decide (a0 ≤ a1) := (le_of 1 a0 a1 (by omega) ha hb).2
  clear ha hb hc na nb
  have hs : (a0 < a1 ∧ a1 < a2) ∨ (a0 < a1 ∧ ¬ a1 < a2) ∨ a0 = a1 ∨ a1 < a0 := by omega
  rcases hs with ⟨s1, s2⟩ | ⟨s1, s2⟩ | s1 | s1
  · have d1 : leB 0 (fiW a0) (fiW a1) = true := by rw [x1]; simp; omega
    have d2 : leB 0 (fiW a1) (fiW a2) = true := by rw [x2]; simp; omega
    have d3 : leB 0 (fiW a0) (fiW a2) = true := by rw [x3]; simp; omega
    have d4 : leB 2 (fiW a0) (fiW a1) = false := by rw [x4]; simp; omega
    have d5 : leB 1 (fiW a0) (fiW a1) = true := by rw [x5]; simp; omega
    have d6 : (a0 == a1) = false := by simp; omega
    clear x1 x2 x3 x4 x5
    go_enter Try.func10, Try.ntmps10
    go_wp2_with (first
      | (go_at_call 11; refine (c11 _).mono ?_; rintro e w' ⟨rfl, hd⟩; replace hD := hD.trans hd; clear hd)
      | (go_at_call 26; refine (c26 _ _).mono ?_; rintro e w' ⟨rfl, rfl⟩)
      | (go_at_call 24; refine (c24 _ _ _ _ (by omega) (by omega) (by omega) (by omega)).mono ?_; rintro e w' ⟨rfl, rfl⟩))
    all_goals (go_ret; exact ⟨rfl, hD.grown⟩)
  · have d1 : leB 0 (fiW a0) (fiW a1) = true := by rw [x1]; simp; omega
    have d2 : leB 0 (fiW a1) (fiW a2) = false := by rw [x2]; simp; omega
    have d4 : leB 2 (fiW a0) (fiW a1) = false := by rw [x4]; simp; omega
    have d5 : leB 1 (fiW a0) (fiW a1) = true := by rw [x5]; simp; omega
    have d6 : (a0 == a1) = false := by simp; omega
    clear x1 x2 x3 x4 x5
    go_enter Try.func10, Try.ntmps10
    go_wp2_with (first
      | (go_at_call 11; refine (c11 _).mono ?_; rintro e w' ⟨rfl, hd⟩; replace hD := hD.trans hd; clear hd)
      | (go_at_call 26; refine (c26 _ _).mono ?_; rintro e w' ⟨rfl, rfl⟩)
      | (go_at_call 24; refine (c24 _ _ _ _ (by omega) (by omega) (by omega) (by omega)).mono ?_; rintro e w' ⟨rfl, rfl⟩))
    all_goals (go_ret; exact ⟨rfl, hD.grown⟩)
  · have d1 : leB 0 (fiW a0) (fiW a1) = false := by rw [x1]; simp; omega
    have d4 : leB 2 (fiW a0) (fiW a1) = true := by rw [x4]; simp; omega
    have d5 : leB 1 (fiW a0) (fiW a1) = true := by rw [x5]; simp; omega
    have d6 : (a0 == a1) = true := by simp; omega
    have d7 : decide (a0 < a1) = false := by simp; omega
    clear x1 x2 x3 x4 x5 s1
    go_enter Try.func10, Try.ntmps10
    go_wp2_with (first
      | (go_at_call 11; refine (c11 _).mono ?_; rintro e w' ⟨rfl, hd⟩; replace hD := hD.trans hd; clear hd)
      | (go_at_call 26; refine (c26 _ _).mono ?_; rintro e w' ⟨rfl, rfl⟩)
      | (go_at_call 24; refine (c24 _ _ _ _ (by omega) (by omega) (by omega) (by omega)).mono ?_; rintro e w' ⟨rfl, rfl⟩))
    all_goals (go_ret; exact ⟨rfl, hD.grown⟩)
  · have d1 : leB 0 (fiW a0) (fiW a1) = false := by rw [x1]; simp; omega
    have d4 : leB 2 (fiW a0) (fiW a1) = false := by rw [x4]; simp; omega
    have d5 : leB 1 (fiW a0) (fiW a1) = false := by rw [x5]; simp; omega
    have d6 : (a0 == a1) = false := by simp; omega
    have d7 : decide (a0 < a1) = false := by simp; omega
    clear x1 x2 x3 x4 x5
    go_enter Try.func10, Try.ntmps10
    go_wp2_with (first
      | (go_at_call 11; refine (c11 _).mono ?_; rintro e w' ⟨rfl, hd⟩; replace hD := hD.trans hd; clear hd)
      | (go_at_call 26; refine (c26 _ _).mono ?_; rintro e w' ⟨rfl, rfl⟩)
      | (go_at_call 24; refine (c24 _ _ _ _ (by omega) (by omega) (by omega) (by omega)).mono ?_; rintro e w' ⟨rfl, rfl⟩))
    all_goals (go_ret; exact ⟨rfl, hD.grown⟩)

/-! ### THE ROW's STEP: WRITTEN OUT: LEAVE IT -/
set_option maxRecDepth 100000 in
theorem lifted (os : Os) (started : os.Started) (H : Type) (enc : TypeId × Value → H) :
    ReturnsInHanded {} Try.checked os 10 .any (Rows.wordRanksSpec.pre6 enc Try.prog Try.f10 Rows.wordRanksRow.domain false) (Rows.wordRanksSpec.post enc Try.prog Try.f10 false true false false) := by
  refine returnsInHanded_of_change (C := Try.checked) own started (by kernel_rfl) Try.func10
    (ChangeSpec.witness6 (enc := enc) (C := Try.checked) false ⟨#[], #[.int .i64 0, .int .i64 0, .int .i64 0], []⟩ 8 (by kernel_rfl) (by kernel_rfl) (by kernel_rfl) (by kernel_rfl)) ?_
  intro W base args ds gs before hval0 hW hcnd _
  have hval : ∀ (j : Nat) t v, Try.f10.params[j]? = some t → args[j]? = some v → Value.okWide Try.prog W .any base t v := hval0
  have hW' := hW
  obtain ⟨p, q, hA0, hV, rfl, hfz, hnd⟩ := hW
  have hA : DataW.TrodAll enc Try.prog W 0 (fun _ => true) true Try.f10.params.toList args.toList ds p := hA0
  rw [Try.params10] at hA hval
  obtain ⟨v0, vs0, d0, ds0, p0, q0, hargs, rfl, rfl, h0, r0⟩ := trodAll_cons hA
  obtain ⟨v1, vs1, d1, ds1, p1, q1, rfl, rfl, rfl, h1, r1⟩ := trodAll_cons r0
  obtain ⟨v2, vs2, d2, ds2, p2, q2, rfl, rfl, rfl, h2, r2⟩ := trodAll_cons r1
  obtain ⟨rfl, rfl, rfl⟩ := trodAll_nil r2
  obtain rfl : args = #[v0, v1, v2] := by cases args; simp_all
  obtain ⟨rfl, rfl⟩ := trodVars_none hV
  obtain ⟨a0, rfl, rfl, rfl, w0⟩ := open_int Try.underlying3 (hval 0 3 v0 rfl rfl) h0
  obtain ⟨a1, rfl, rfl, rfl, w1⟩ := open_int Try.underlying3 (hval 1 3 v1 rfl rfl) h1
  obtain ⟨a2, rfl, rfl, rfl, w2⟩ := open_int Try.underlying3 (hval 2 3 v2 rfl rfl) h2
  clear hA0 hval0
  simp only [List.append_nil] at hW'
  refine (walk a0 a1 a2 w0 w1 w2 W).mono fun e W' ⟨he, hg⟩ => ?_
  subst he
  exact ⟨_, rfl, post_of_same (pa := []) (pv := []) hW' (fun _ _ _ => (trodAll_cons_mk (shut_bool Try.underlying4 _) trodAll_mk0)) (fun sp _ => (trodAll_cons_mk (shut_int Try.underlying3 w0) (trodAll_cons_mk (shut_int Try.underlying3 w1) (trodAll_cons_mk (shut_int Try.underlying3 w2) trodAll_mk0)))) (fun _ _ => rfl) rfl
    (hg.frame _) hg.2.1 (ok_one (by kernel_rfl) rfl (okWide_bool_mk Try.underlying4 _))⟩

theorem over : Rows.wordRanksRow.holds Try.pinned (OpenSpec.ofChange Rows.wordRanksSpec) :=
  OpenClaim.holds_of_wide 10 Try.f10 rfl rfl rfl rfl rfl rfl rfl ⟨rfl, rfl, rfl, rfl, rfl⟩ rfl rfl rfl rfl rfl (by kernel_rfl) Try.func10 (by kernel_rfl)
    (of_decide_eq_true (by kernel_rfl)) (by unfold Func.isWrapper; first | (rw [if_pos (by decide +kernel)]; kernel_rfl) | (rw [if_neg (by decide +kernel)]; exact ⟨rfl, rfl⟩))
    (fun os started H enc _ => lifted os started H enc)

/-- ████ THE STATEMENT ████ -/
theorem proved : Rows.WordRanksSaid :=
  over
end Go.Proofs.Ytcgmioeclebfgaa.wordRanks
