/- WordUndone returns true for every two numbers: what was added is taken away again, what was multiplied is divided again; no condition. -/
import Derived.Test.YtcgmioeclebfgaaRows
import Derived.Test.YtcgmioeclebfgaaFacts
import Derived.WalkKit
import Derived.ProofKit
import Derived.OpenShut
namespace Go.Proofs.Ytcgmioeclebfgaa.wordUndone
open Go.ChangeShapes Go.WideShapes Go.ChangeAt Go.RowKit
set_option linter.unusedVariables false      -- a walk need not use every 'w<i>' (that an integer argument fits its kind)

theorem own : ownKnob Try.prog.godebug = none := by kernel_rfl

theorem arW_bd (k v u : Int) : 0 ≤ arW k v u ∧ arW k v u ≤ 18446744073709551615 := by
  unfold arW; split
  · exact fiW_bd _
  · omega
theorem undone (a b : Int) (h : arOk 0 (fiW a) (fiW b) = true) : arOk 1 (arW 0 (fiW a) (fiW b)) (fiW b) = true ∧ arW 1 (arW 0 (fiW a) (fiW b)) (fiW b) = fiW a := by
  cases ha : fit a
  · rw [ar_left 0 a (fiW b) ha] at h; cases h
  cases hb : fit b
  · rw [ar_right 0 (fiW a) b hb] at h; cases h
  cases hf : fit (a + b)
  · rw [ar_of_no 0 a b ha hb (by show (true && fit (a + b)) = false; rw [hf]; rfl)] at h; cases h
  have e := (ar_of 0 a b ha hb rfl hf).2
  replace e : arW 0 (fiW a) (fiW b) = fiW (a + b) := e
  have hr : resN 1 (a + b) b = a := by show a + b - b = a; omega
  have g := ar_of 1 (a + b) b hf hb rfl (by rw [hr]; exact ha)
  rw [hr] at g
  rw [e]; exact g
theorem undone2 (a b : Int) (h : arOk 2 (fiW a) (fiW b) = true) (hz : b ≠ 0) : arOk 3 (arW 2 (fiW a) (fiW b)) (fiW b) = true ∧ arW 3 (arW 2 (fiW a) (fiW b)) (fiW b) = fiW a := by
  cases ha : fit a
  · rw [ar_left 2 a (fiW b) ha] at h; cases h
  cases hb : fit b
  · rw [ar_right 2 (fiW a) b hb] at h; cases h
  have ⟨a1, a2⟩ := ar2 (fiW a) (fiW b) (odd_fiW a ha) (odd_fiW b hb)
  rw [inN_fiW a ha, inN_fiW b hb] at a1 a2
  rw [a1] at h
  rw [a2 h]
  have hr : resN 3 (a * b) b = a := by
    have e : resN 3 (a * b) b = flQ (a * b) b := by simp [resN, hz]
    rw [e, (fl_no _ _ (by unfold flC; rw [Int.mul_tmod_left]; rfl)).1, Int.mul_tdiv_cancel a hz]
  have g := ar_of 3 (a * b) b h hb (by simp [resOk, hz]) (by rw [hr]; exact ha)
  rw [hr] at g
  exact g
/-! the walk: the Go text returns true -/
theorem walk (a0 : Int) (a1 : Int) (w0 : (Lit.int .i64 a0).wf = true) (w1 : (Lit.int .i64 a1).wf = true) (w : World) :
    Calls Try.prog 9 #[.int .i64 a0, .int .i64 a1] w fun e w' => e = .returned (.bool true) ∧ Grown w w' := by
  have fa := fiW_bd a0
  have fb := fiW_bd a1
  have hD := Dn.refl w
  have b1 := arW_bd 0 (fiW a0) (fiW a1)
  have b2 := arW_bd 2 (fiW a0) (fiW a1)
  have hA : arOk 0 (fiW a0) (fiW a1) = false ∨ (arOk 0 (fiW a0) (fiW a1) = true ∧ arOk 1 (arW 0 (fiW a0) (fiW a1)) (fiW a1) = true ∧ arW 1 (arW 0 (fiW a0) (fiW a1)) (fiW a1) = fiW a0) := by
    cases h : arOk 0 (fiW a0) (fiW a1)
    · exact Or.inl rfl
    · exact Or.inr ⟨rfl, undone a0 a1 h⟩
  have hB : arOk 2 (fiW a0) (fiW a1) = false ∨ (arOk 2 (fiW a0) (fiW a1) = true ∧ a1 = 0) ∨ (arOk 2 (fiW a0) (fiW a1) = true ∧ (a1 == 0) = false ∧ arOk 3 (arW 2 (fiW a0) (fiW a1)) (fiW a1) = true ∧ arW 3 (arW 2 (fiW a0) (fiW a1)) (fiW a1) = fiW a0) := by
    cases h : arOk 2 (fiW a0) (fiW a1)
    · exact Or.inl rfl
    · refine Or.inr ?_
      by_cases hz : a1 = 0
      · exact Or.inl ⟨rfl, hz⟩
      · exact Or.inr ⟨rfl, by simpa using hz, undone2 a0 a1 h hz⟩
  rcases hA with p1 | ⟨p1, p2, p3⟩ <;> rcases hB with q1 | ⟨q1, q2⟩ | ⟨q1, q2, q3, q4⟩
  all_goals (try subst q2)
  all_goals
    go_enter Try.func9, Try.ntmps9
    go_wp2_with (first
      | (go_at_call 11; refine (c11 _).mono ?_; rintro e w' ⟨rfl, hd⟩; replace hD := hD.trans hd; clear hd)
      | (go_at_call 26; refine (c26 _ _).mono ?_; rintro e w' ⟨rfl, rfl⟩)
      | (go_at_call 22; refine (c22 _ _ _ _ (by omega) (by omega) (by omega) (by omega)).mono ?_; rintro e w' ⟨rfl, hd⟩; replace hD := hD.trans hd; clear hd)
      | (go_at_call 16; refine (c16 _ _ (by omega) (by omega)).mono ?_; rintro e w' ⟨rfl, rfl⟩))
    all_goals (go_ret; exact ⟨rfl, hD.grown⟩)

/-! ### THE ROW's STEP: WRITTEN OUT: LEAVE IT -/
set_option maxRecDepth 100000 in
theorem lifted (os : Os) (started : os.Started) (H : Type) (enc : TypeId × Value → H) :
    ReturnsInHanded {} Try.checked os 9 .any (Rows.wordUndoneSpec.pre6 enc Try.prog Try.f9 Rows.wordUndoneRow.domain false) (Rows.wordUndoneSpec.post enc Try.prog Try.f9 false true false false) := by
  refine returnsInHanded_of_change (C := Try.checked) own started (by kernel_rfl) Try.func9
    (ChangeSpec.witness6 (enc := enc) (C := Try.checked) false ⟨#[], #[.int .i64 0, .int .i64 0], []⟩ 8 (by kernel_rfl) (by kernel_rfl) (by kernel_rfl) (by kernel_rfl)) ?_
  intro W base args ds gs before hval0 hW hcnd _
  have hval : ∀ (j : Nat) t v, Try.f9.params[j]? = some t → args[j]? = some v → Value.okWide Try.prog W .any base t v := hval0
  have hW' := hW
  obtain ⟨p, q, hA0, hV, rfl, hfz, hnd⟩ := hW
  have hA : DataW.TrodAll enc Try.prog W 0 (fun _ => true) true Try.f9.params.toList args.toList ds p := hA0
  rw [Try.params9] at hA hval
  obtain ⟨v0, vs0, d0, ds0, p0, q0, hargs, rfl, rfl, h0, r0⟩ := trodAll_cons hA
  obtain ⟨v1, vs1, d1, ds1, p1, q1, rfl, rfl, rfl, h1, r1⟩ := trodAll_cons r0
  obtain ⟨rfl, rfl, rfl⟩ := trodAll_nil r1
  obtain rfl : args = #[v0, v1] := by cases args; simp_all
  obtain ⟨rfl, rfl⟩ := trodVars_none hV
  obtain ⟨a0, rfl, rfl, rfl, w0⟩ := open_int Try.underlying3 (hval 0 3 v0 rfl rfl) h0
  obtain ⟨a1, rfl, rfl, rfl, w1⟩ := open_int Try.underlying3 (hval 1 3 v1 rfl rfl) h1
  clear hA0 hval0
  simp only [List.append_nil] at hW'
  refine (walk a0 a1 w0 w1 W).mono fun e W' ⟨he, hg⟩ => ?_
  subst he
  exact ⟨_, rfl, post_of_same (pa := []) (pv := []) hW' (fun _ _ _ => (trodAll_cons_mk (shut_bool Try.underlying4 _) trodAll_mk0)) (fun sp _ => (trodAll_cons_mk (shut_int Try.underlying3 w0) (trodAll_cons_mk (shut_int Try.underlying3 w1) trodAll_mk0))) (fun _ _ => rfl) rfl
    (hg.frame _) hg.2.1 (ok_one (by kernel_rfl) rfl (okWide_bool_mk Try.underlying4 _))⟩

theorem over : Rows.wordUndoneRow.holds Try.pinned (OpenSpec.ofChange Rows.wordUndoneSpec) :=
  OpenClaim.holds_of_wide 9 Try.f9 rfl rfl rfl rfl rfl rfl rfl ⟨rfl, rfl, rfl, rfl, rfl⟩ rfl rfl rfl rfl rfl (by kernel_rfl) Try.func9 (by kernel_rfl)
    (of_decide_eq_true (by kernel_rfl)) (by unfold Func.isWrapper; first | (rw [if_pos (by decide +kernel)]; kernel_rfl) | (rw [if_neg (by decide +kernel)]; exact ⟨rfl, rfl⟩))
    (fun os started H enc _ => lifted os started H enc)

/-- ████ THE STATEMENT ████ -/
theorem proved : Rows.WordUndoneSaid :=
  over
end Go.Proofs.Ytcgmioeclebfgaa.wordUndone
