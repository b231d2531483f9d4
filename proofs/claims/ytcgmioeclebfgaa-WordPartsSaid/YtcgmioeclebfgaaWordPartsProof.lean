/- WordParts returns true for every two numbers: a number is its quotient times the divisor and the rest, which has the divisor's sign and is less in amount; no condition. -/
import Derived.Test.YtcgmioeclebfgaaRows
import Derived.Test.YtcgmioeclebfgaaFacts
import Derived.WalkKit
import Derived.ProofKit
import Derived.OpenShut
namespace Go.Proofs.Ytcgmioeclebfgaa.wordParts
open Go.ChangeShapes Go.WideShapes Go.ChangeAt Go.RowKit
set_option linter.unusedVariables false      -- a walk need not use every 'w<i>' (that an integer argument fits its kind)

theorem own : ownKnob Try.prog.godebug = none := by kernel_rfl

theorem parts_eq (n m : Int) (hn : fit n = true) (hm : fit m = true) (hz : m ≠ 0) : wrap64 (wrap64 (flQ n m * m) + flR n m) = n := by
  have h1 := fl_sum n m
  have h2 := flR_facts n m hz
  rw [fit_iff] at hn hm
  rw [Int.mul_comm] at h1
  rw [IntWalk.wrap64_in (flQ n m * m) (by omega), h1]
  exact IntWalk.wrap64_in _ (by omega)
theorem walk_a (a0 a1 : Int) (w : World) (ha : fit a0 = false) : Calls Try.prog 6 #[.int .i64 a0, .int .i64 a1] w fun e w' => e = .returned (.bool true) ∧ Grown w w' := by
  have fa := fiW_bd a0
  have fb := fiW_bd a1
  have hD := Dn.refl w
  have e1 := ar_left 3 a0 (fiW a1) ha
  rw [fit_not] at ha
  go_enter Try.func6, Try.ntmps6
  go_wp2_with (first
    | (go_at_call 11; refine (c11 _).mono ?_; rintro e w' ⟨rfl, hd⟩; replace hD := hD.trans hd; clear hd)
    | (go_at_call 26; refine (c26 _ _).mono ?_; rintro e w' ⟨rfl, rfl⟩)
    | (go_at_call 22; refine (c22 _ _ _ _ (by omega) (by omega) (by omega) (by omega)).mono ?_; rintro e w' ⟨rfl, hd⟩; replace hD := hD.trans hd; clear hd)
    | (go_at_call 16; refine (c16 _ _ (by omega) (by omega)).mono ?_; rintro e w' ⟨rfl, rfl⟩))
  all_goals (go_ret; first | exact ⟨rfl, hD.grown⟩ | exact ⟨ret1 (vb (by simp; omega)), hD.grown⟩)
theorem walk_b (a0 a1 : Int) (w : World) (hb : fit a1 = false) : Calls Try.prog 6 #[.int .i64 a0, .int .i64 a1] w fun e w' => e = .returned (.bool true) ∧ Grown w w' := by
  have fa := fiW_bd a0
  have fb := fiW_bd a1
  have hD := Dn.refl w
  have e1 := ar_right 3 (fiW a0) a1 hb
  rw [fit_not] at hb
  go_enter Try.func6, Try.ntmps6
  go_wp2_with (first
    | (go_at_call 11; refine (c11 _).mono ?_; rintro e w' ⟨rfl, hd⟩; replace hD := hD.trans hd; clear hd)
    | (go_at_call 26; refine (c26 _ _).mono ?_; rintro e w' ⟨rfl, rfl⟩)
    | (go_at_call 22; refine (c22 _ _ _ _ (by omega) (by omega) (by omega) (by omega)).mono ?_; rintro e w' ⟨rfl, hd⟩; replace hD := hD.trans hd; clear hd)
    | (go_at_call 16; refine (c16 _ _ (by omega) (by omega)).mono ?_; rintro e w' ⟨rfl, rfl⟩))
  all_goals (go_ret; first | exact ⟨rfl, hD.grown⟩ | exact ⟨ret1 (vb (by simp; omega)), hD.grown⟩)
theorem walk_z (a0 : Int) (w : World) (ha : fit a0 = true) : Calls Try.prog 6 #[.int .i64 a0, .int .i64 0] w fun e w' => e = .returned (.bool true) ∧ Grown w w' := by
  have fa := fiW_bd a0
  have fb := fiW_bd 0
  have hD := Dn.refl w
  have e1 : arOk 3 (fiW a0) (fiW 0) = false := ar_of_no 3 a0 0 ha (by decide +kernel) rfl
  clear ha
  go_enter Try.func6, Try.ntmps6
  go_wp2_with (first
    | (go_at_call 11; refine (c11 _).mono ?_; rintro e w' ⟨rfl, hd⟩; replace hD := hD.trans hd; clear hd)
    | (go_at_call 26; refine (c26 _ _).mono ?_; rintro e w' ⟨rfl, rfl⟩)
    | (go_at_call 22; refine (c22 _ _ _ _ (by omega) (by omega) (by omega) (by omega)).mono ?_; rintro e w' ⟨rfl, hd⟩; replace hD := hD.trans hd; clear hd)
    | (go_at_call 16; refine (c16 _ _ (by omega) (by omega)).mono ?_; rintro e w' ⟨rfl, rfl⟩))
  all_goals (go_ret; first | exact ⟨rfl, hD.grown⟩ | exact ⟨ret1 (vb (by simp; omega)), hD.grown⟩)
theorem walk_m (a0 : Int) (w : World) (e1 : arOk 3 (fiW a0) (fiW (-1)) = false) : Calls Try.prog 6 #[.int .i64 a0, .int .i64 (-1)] w fun e w' => e = .returned (.bool true) ∧ Grown w w' := by
  have fa := fiW_bd a0
  have fb := fiW_bd (-1)
  have hD := Dn.refl w
  go_enter Try.func6, Try.ntmps6
  go_wp2_with (first
    | (go_at_call 11; refine (c11 _).mono ?_; rintro e w' ⟨rfl, hd⟩; replace hD := hD.trans hd; clear hd)
    | (go_at_call 26; refine (c26 _ _).mono ?_; rintro e w' ⟨rfl, rfl⟩)
    | (go_at_call 22; refine (c22 _ _ _ _ (by omega) (by omega) (by omega) (by omega)).mono ?_; rintro e w' ⟨rfl, hd⟩; replace hD := hD.trans hd; clear hd)
    | (go_at_call 16; refine (c16 _ _ (by omega) (by omega)).mono ?_; rintro e w' ⟨rfl, rfl⟩))
  all_goals (go_ret; first | exact ⟨rfl, hD.grown⟩ | exact ⟨ret1 (vb (by simp; omega)), hD.grown⟩)
theorem walk_p0 (a0 a1 q r : Int) (w : World) (fa : 0 ≤ fiW a0 ∧ fiW a0 ≤ 18446744073709551615) (fb : 0 ≤ fiW a1 ∧ fiW a1 ≤ 18446744073709551615) (fq : 0 ≤ fiW q ∧ fiW q ≤ 18446744073709551615) (fr : 0 ≤ fiW r ∧ fiW r ≤ 18446744073709551615)
    (e1 : arOk 3 (fiW a0) (fiW a1) = true) (e2 : arW 3 (fiW a0) (fiW a1) = fiW q) (e3 : arOk 4 (fiW a0) (fiW a1) = true) (e4 : arW 4 (fiW a0) (fiW a1) = fiW r)
    (g1 : inN (fiW q) = q) (g2 : inN (fiW r) = r) (g3 : inN (fiW a0) = a0) (g4 : inN (fiW a1) = a1) (g5 : inE (fiW q) = 0) (g6 : inE (fiW r) = 0) (hs : wrap64 (wrap64 (q * a1) + r) = a0)
    (c3 : (r == 0) = true) (c4 : decide (r < a1) = true) (c5 : decide (a1 < 0) = false) (c6 : decide (0 < a1) = true) (c7 : decide (a1 < r) = false) : Calls Try.prog 6 #[.int .i64 a0, .int .i64 a1] w fun e w' => e = .returned (.bool true) ∧ Grown w w' := by
  have hD := Dn.refl w
  go_enter Try.func6, Try.ntmps6
  go_wp2_with (first
    | (go_at_call 11; refine (c11 _).mono ?_; rintro e w' ⟨rfl, hd⟩; replace hD := hD.trans hd; clear hd)
    | (go_at_call 26; refine (c26 _ _).mono ?_; rintro e w' ⟨rfl, rfl⟩)
    | (go_at_call 22; refine (c22 _ _ _ _ (by omega) (by omega) (by omega) (by omega)).mono ?_; rintro e w' ⟨rfl, hd⟩; replace hD := hD.trans hd; clear hd)
    | (go_at_call 16; refine (c16 _ _ (by omega) (by omega)).mono ?_; rintro e w' ⟨rfl, rfl⟩))
  all_goals (go_ret; first | exact ⟨rfl, hD.grown⟩ | exact ⟨ret1 (vb (by simp; omega)), hD.grown⟩)
theorem walk_n0 (a0 a1 q r : Int) (w : World) (fa : 0 ≤ fiW a0 ∧ fiW a0 ≤ 18446744073709551615) (fb : 0 ≤ fiW a1 ∧ fiW a1 ≤ 18446744073709551615) (fq : 0 ≤ fiW q ∧ fiW q ≤ 18446744073709551615) (fr : 0 ≤ fiW r ∧ fiW r ≤ 18446744073709551615)
    (e1 : arOk 3 (fiW a0) (fiW a1) = true) (e2 : arW 3 (fiW a0) (fiW a1) = fiW q) (e3 : arOk 4 (fiW a0) (fiW a1) = true) (e4 : arW 4 (fiW a0) (fiW a1) = fiW r)
    (g1 : inN (fiW q) = q) (g2 : inN (fiW r) = r) (g3 : inN (fiW a0) = a0) (g4 : inN (fiW a1) = a1) (g5 : inE (fiW q) = 0) (g6 : inE (fiW r) = 0) (hs : wrap64 (wrap64 (q * a1) + r) = a0)
    (c3 : (r == 0) = true) (c4 : decide (r < a1) = false) (c5 : decide (a1 < 0) = true) (c6 : decide (0 < a1) = false) (c7 : decide (a1 < r) = true) : Calls Try.prog 6 #[.int .i64 a0, .int .i64 a1] w fun e w' => e = .returned (.bool true) ∧ Grown w w' := by
  have hD := Dn.refl w
  go_enter Try.func6, Try.ntmps6
  go_wp2_with (first
    | (go_at_call 11; refine (c11 _).mono ?_; rintro e w' ⟨rfl, hd⟩; replace hD := hD.trans hd; clear hd)
    | (go_at_call 26; refine (c26 _ _).mono ?_; rintro e w' ⟨rfl, rfl⟩)
    | (go_at_call 22; refine (c22 _ _ _ _ (by omega) (by omega) (by omega) (by omega)).mono ?_; rintro e w' ⟨rfl, hd⟩; replace hD := hD.trans hd; clear hd)
    | (go_at_call 16; refine (c16 _ _ (by omega) (by omega)).mono ?_; rintro e w' ⟨rfl, rfl⟩))
  all_goals (go_ret; first | exact ⟨rfl, hD.grown⟩ | exact ⟨ret1 (vb (by simp; omega)), hD.grown⟩)
theorem walk_p (a0 a1 q r : Int) (w : World) (fa : 0 ≤ fiW a0 ∧ fiW a0 ≤ 18446744073709551615) (fb : 0 ≤ fiW a1 ∧ fiW a1 ≤ 18446744073709551615) (fq : 0 ≤ fiW q ∧ fiW q ≤ 18446744073709551615) (fr : 0 ≤ fiW r ∧ fiW r ≤ 18446744073709551615)
    (e1 : arOk 3 (fiW a0) (fiW a1) = true) (e2 : arW 3 (fiW a0) (fiW a1) = fiW q) (e3 : arOk 4 (fiW a0) (fiW a1) = true) (e4 : arW 4 (fiW a0) (fiW a1) = fiW r)
    (g1 : inN (fiW q) = q) (g2 : inN (fiW r) = r) (g3 : inN (fiW a0) = a0) (g4 : inN (fiW a1) = a1) (g5 : inE (fiW q) = 0) (g6 : inE (fiW r) = 0) (hs : wrap64 (wrap64 (q * a1) + r) = a0)
    (c3 : (r == 0) = false) (c4 : decide (r < a1) = true) (c5 : decide (a1 < 0) = false) (c6 : decide (0 < a1) = true) (c7 : decide (a1 < r) = false) (c8 : decide (r < 0) = false) : Calls Try.prog 6 #[.int .i64 a0, .int .i64 a1] w fun e w' => e = .returned (.bool true) ∧ Grown w w' := by
  have hD := Dn.refl w
  go_enter Try.func6, Try.ntmps6
  go_wp2_with (first
    | (go_at_call 11; refine (c11 _).mono ?_; rintro e w' ⟨rfl, hd⟩; replace hD := hD.trans hd; clear hd)
    | (go_at_call 26; refine (c26 _ _).mono ?_; rintro e w' ⟨rfl, rfl⟩)
    | (go_at_call 22; refine (c22 _ _ _ _ (by omega) (by omega) (by omega) (by omega)).mono ?_; rintro e w' ⟨rfl, hd⟩; replace hD := hD.trans hd; clear hd)
    | (go_at_call 16; refine (c16 _ _ (by omega) (by omega)).mono ?_; rintro e w' ⟨rfl, rfl⟩))
  all_goals (go_ret; first | exact ⟨rfl, hD.grown⟩ | exact ⟨ret1 (vb (by simp; omega)), hD.grown⟩)
theorem walk_n (a0 a1 q r : Int) (w : World) (fa : 0 ≤ fiW a0 ∧ fiW a0 ≤ 18446744073709551615) (fb : 0 ≤ fiW a1 ∧ fiW a1 ≤ 18446744073709551615) (fq : 0 ≤ fiW q ∧ fiW q ≤ 18446744073709551615) (fr : 0 ≤ fiW r ∧ fiW r ≤ 18446744073709551615)
    (e1 : arOk 3 (fiW a0) (fiW a1) = true) (e2 : arW 3 (fiW a0) (fiW a1) = fiW q) (e3 : arOk 4 (fiW a0) (fiW a1) = true) (e4 : arW 4 (fiW a0) (fiW a1) = fiW r)
    (g1 : inN (fiW q) = q) (g2 : inN (fiW r) = r) (g3 : inN (fiW a0) = a0) (g4 : inN (fiW a1) = a1) (g5 : inE (fiW q) = 0) (g6 : inE (fiW r) = 0) (hs : wrap64 (wrap64 (q * a1) + r) = a0)
    (c3 : (r == 0) = false) (c4 : decide (r < a1) = false) (c5 : decide (a1 < 0) = true) (c6 : decide (0 < a1) = false) (c7 : decide (a1 < r) = true) (c8 : decide (r < 0) = true) : Calls Try.prog 6 #[.int .i64 a0, .int .i64 a1] w fun e w' => e = .returned (.bool true) ∧ Grown w w' := by
  have hD := Dn.refl w
  go_enter Try.func6, Try.ntmps6
  go_wp2_with (first
    | (go_at_call 11; refine (c11 _).mono ?_; rintro e w' ⟨rfl, hd⟩; replace hD := hD.trans hd; clear hd)
    | (go_at_call 26; refine (c26 _ _).mono ?_; rintro e w' ⟨rfl, rfl⟩)
    | (go_at_call 22; refine (c22 _ _ _ _ (by omega) (by omega) (by omega) (by omega)).mono ?_; rintro e w' ⟨rfl, hd⟩; replace hD := hD.trans hd; clear hd)
    | (go_at_call 16; refine (c16 _ _ (by omega) (by omega)).mono ?_; rintro e w' ⟨rfl, rfl⟩))
  all_goals (go_ret; first | exact ⟨rfl, hD.grown⟩ | exact ⟨ret1 (vb (by simp; omega)), hD.grown⟩)
/-! the walk: the Go text returns true -/
theorem walk (a0 : Int) (a1 : Int) (w0 : (Lit.int .i64 a0).wf = true) (w1 : (Lit.int .i64 a1).wf = true) (w : World) :
    Calls Try.prog 6 #[.int .i64 a0, .int .i64 a1] w fun e w' => e = .returned (.bool true) ∧ Grown w w' := by
  have fa := fiW_bd a0
  have fb := fiW_bd a1
  cases ha : fit a0
  · exact walk_a a0 a1 w ha
  cases hb : fit a1
  · exact walk_b a0 a1 w hb
  by_cases hz : a1 = 0
  · subst hz; exact walk_z a0 w ha
  have ho : resOk 3 a0 a1 = true := by simp [resOk, hz]
  have hr : resN 3 a0 a1 = flQ a0 a1 := by simp [resN, hz]
  have ho' : resOk 4 a0 a1 = true := by simp [resOk, hz]
  have hr' : resN 4 a0 a1 = flR a0 a1 := by simp [resN, hz]
  cases hf : fit (flQ a0 a1)
  · have e1 : arOk 3 (fiW a0) (fiW a1) = false := ar_of_no 3 a0 a1 ha hb (by rw [hr, hf]; simp)
    have e2 := flQ_nofit a0 a1 ha hz hf
    subst e2
    exact walk_m a0 w e1
  obtain ⟨e1, e2⟩ := ar_of 3 a0 a1 ha hb ho (by rw [hr]; exact hf)
  have hg := flR_fit a0 a1 hb hz
  obtain ⟨e3, e4⟩ := ar_of 4 a0 a1 ha hb ho' (by rw [hr']; exact hg)
  rw [hr] at e2
  rw [hr'] at e4
  have g1 := inN_fiW _ hf
  have g2 := inN_fiW _ hg
  have g3 := inN_fiW _ ha
  have g4 := inN_fiW _ hb
  have g5 := (in_yes _ (odd_fiW _ hf)).2
  have g6 := (in_yes _ (odd_fiW _ hg)).2
  have fq := fiW_bd (flQ a0 a1)
  have fr := fiW_bd (flR a0 a1)
  have hs := parts_eq a0 a1 ha hb hz
  obtain ⟨h1, h2⟩ := flR_facts a0 a1 hz
  have hc : ((flR a0 a1 = 0 ∧ 0 < a1) ∨ (flR a0 a1 = 0 ∧ a1 < 0)) ∨ (0 < flR a0 a1 ∧ flR a0 a1 < a1) ∨ (flR a0 a1 < 0 ∧ a1 < flR a0 a1) := by omega
  rcases hc with (⟨c1, c2⟩ | ⟨c1, c2⟩) | ⟨c1, c2⟩ | ⟨c1, c2⟩
  · exact walk_p0 a0 a1 _ _ w fa fb fq fr e1 e2 e3 e4 g1 g2 g3 g4 g5 g6 hs (by simp; omega) (by simp; omega) (by simp; omega) (by simp; omega) (by simp; omega)
  · exact walk_n0 a0 a1 _ _ w fa fb fq fr e1 e2 e3 e4 g1 g2 g3 g4 g5 g6 hs (by simp; omega) (by simp; omega) (by simp; omega) (by simp; omega) (by simp; omega)
  · exact walk_p a0 a1 _ _ w fa fb fq fr e1 e2 e3 e4 g1 g2 g3 g4 g5 g6 hs (by simp; omega) (by simp; omega) (by simp; omega) (by simp; omega) (by simp; omega) (by simp; omega)
  · exact walk_n a0 a1 _ _ w fa fb fq fr e1 e2 e3 e4 g1 g2 g3 g4 g5 g6 hs (by simp; omega) (by simp; omega) (by simp; omega) (by simp; omega) (by simp; omega) (by simp; omega)

/-! ### THE ROW's STEP: WRITTEN OUT: LEAVE IT -/
set_option maxRecDepth 100000 in
theorem lifted (os : Os) (started : os.Started) (H : Type) (enc : TypeId × Value → H) :
    ReturnsInHanded {} Try.checked os 6 .any (Rows.wordPartsSpec.pre6 enc Try.prog Try.f6 Rows.wordPartsRow.domain false) (Rows.wordPartsSpec.post enc Try.prog Try.f6 false true false false) := by
  refine returnsInHanded_of_change (C := Try.checked) own started (by kernel_rfl) Try.func6
    (ChangeSpec.witness6 (enc := enc) (C := Try.checked) false ⟨#[], #[.int .i64 0, .int .i64 0], []⟩ 8 (by kernel_rfl) (by kernel_rfl) (by kernel_rfl) (by kernel_rfl)) ?_
  intro W base args ds gs before hval0 hW hcnd _
  have hval : ∀ (j : Nat) t v, Try.f6.params[j]? = some t → args[j]? = some v → Value.okWide Try.prog W .any base t v := hval0
  have hW' := hW
  obtain ⟨p, q, hA0, hV, rfl, hfz, hnd⟩ := hW
  have hA : DataW.TrodAll enc Try.prog W 0 (fun _ => true) true Try.f6.params.toList args.toList ds p := hA0
  rw [Try.params6] at hA hval
  obtain ⟨v0, vs0, d0, ds0, p0, q0, hargs, rfl, rfl, h0, r0⟩ := trodAll_cons hA
  obtain ⟨v1, vs1, d1, ds1, p1, q1, rfl, rfl, rfl, h1, r1⟩ := trodAll_cons r0
  obtain ⟨rfl, rfl, rfl⟩ := trodAll_nil r1
  obtain rfl : args = #[v0, v1] := by cases args; simp_all
  obtain ⟨rfl, rfl⟩ := trodVars_none hV
  obtain ⟨a0, rfl, rfl, rfl, w0⟩ := open_int Try.underlying3 (hval 0 3 v0 rfl rfl) h0
  obtain ⟨a1, rfl, rfl, rfl, w1⟩ := open_int Try.underlying3 (hval 1 3 v1 rfl rfl) h1
  clear hA0 hval0
  simp only [List.append_nil] at hW'
  refine (walk a0 a1 w0 w1 W).mono fun e W' ⟨he, hg⟩ => ?_
  subst he
  exact ⟨_, rfl, post_of_same (pa := []) (pv := []) hW' (fun _ _ _ => (trodAll_cons_mk (shut_bool Try.underlying4 _) trodAll_mk0)) (fun sp _ => (trodAll_cons_mk (shut_int Try.underlying3 w0) (trodAll_cons_mk (shut_int Try.underlying3 w1) trodAll_mk0))) (fun _ _ => rfl) rfl
    (hg.frame _) hg.2.1 (ok_one (by kernel_rfl) rfl (okWide_bool_mk Try.underlying4 _))⟩

theorem over : Rows.wordPartsRow.holds Try.pinned (OpenSpec.ofChange Rows.wordPartsSpec) :=
  OpenClaim.holds_of_wide 6 Try.f6 rfl rfl rfl rfl rfl rfl rfl ⟨rfl, rfl, rfl, rfl, rfl⟩ rfl rfl rfl rfl rfl (by kernel_rfl) Try.func6 (by kernel_rfl)
    (of_decide_eq_true (by kernel_rfl)) (by unfold Func.isWrapper; first | (rw [if_pos (by decide +kernel)]; kernel_rfl) | (rw [if_neg (by decide +kernel)]; exact ⟨rfl, rfl⟩))
    (fun os started H enc _ => lifted os started H enc)

/-- ████ THE STATEMENT ████ -/
theorem proved : Rows.WordPartsSaid :=
  over
end Go.Proofs.Ytcgmioeclebfgaa.wordParts
