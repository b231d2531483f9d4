/- ScanAssigns returns true for every list of intervals and every number of registers: the program's Assign and the document's answer the same places, the same number of cells, the same refusals. -/
import Derived.Test.YtomcfjckhajhmaaScanAssignsWalk
import Derived.Test.YtomcfjckhajhmaaScnOpen
import Derived.Test.YtomcfjckhajhmaaRows
import Derived.WalkKit
import Derived.ProofKit
import Derived.OpenShut
import Derived.Clock
namespace Go.Proofs.Ytomcfjckhajhmaa.scanAssigns
open Go.ChangeShapes Go.WideShapes Go.ChangeAt Go.RowKit
set_option linter.unusedVariables false      -- a walk need not use every 'w<i>' (that an integer argument fits its kind)

theorem laidOut : laidOutB Try.prog = true := by kernel_rfl
theorem own : ownKnob Try.prog.godebug = none := by kernel_rfl

/-! the row -/
set_option maxRecDepth 100000 in
theorem lifted (os : Os) (started : os.Started) (H : Type) (enc : TypeId × Value → H) :
    ReturnsInHanded {} Try.checked os 3 .any (fun w args => (Rows.scanAssignsSpec.pre enc Try.prog Try.f3 Rows.scanAssignsRow.domain false w args ∧ True) ∧ sizedMet enc Try.prog Try.f3 (OpenSpec.ofChange Rows.scanAssignsSpec) false w args) (Rows.scanAssignsSpec.post enc Try.prog Try.f3 false true false false) := by
  obtain ⟨w0, t0, i0, e1, e2, e3, e4, e5, e6⟩ := ChangeSpec.witness6 (enc := enc) (C := Try.checked) (s := Rows.scanAssignsSpec) (f := 3) (fn := Try.f3) (conds := Rows.scanAssignsRow.domain) (os := os) false ⟨#[], #[.slice none 0 0, .int .i64 0], []⟩ 8 (by kernel_rfl) (by kernel_rfl) (by kernel_rfl) (by kernel_rfl)
  refine returnsInHanded_of_change_and (C := Try.checked) (X := fun _ _ => True) (fun _ _ _ _ h => h) own started (by kernel_rfl) Try.func3 ⟨w0, t0, i0, e1, e2, e3, e4, ⟨⟨e5.1, trivial⟩, e5.2⟩, e6⟩ ?_
  intro W base args ds gs before hval0 hW hcnd hsz0 _ _
  have hval : ∀ (j : Nat) t v, Try.f3.params[j]? = some t → args[j]? = some v → Value.okWide Try.prog W .any base t v := hval0
  have hW' := hW
  obtain ⟨p, q, hA0, hV, rfl, hfz, hnd⟩ := hW
  have hA : DataW.TrodAll enc Try.prog W 0 (fun _ => true) true Try.f3.params.toList args.toList ds p := hA0
  rw [Try.params3] at hA hval hsz0
  obtain ⟨v0, vs0, d0, ds0, p0, q0, hargs, rfl, rfl, h0, r0⟩ := trodAll_cons hA
  obtain ⟨v1, vs1, d1, ds1, p1, q1, rfl, rfl, rfl, h1, r1⟩ := trodAll_cons r0
  obtain ⟨rfl, rfl, rfl⟩ := trodAll_nil r1
  obtain rfl : args = #[v0, v1] := Array.toList_inj.1 hargs
  obtain ⟨rfl, rfl⟩ := trodVars_none hV
  obtain ⟨a1, rfl, rfl, rfl, w1⟩ := open_int Try.underlying3 (hval 1 3 v1 rfl rfl) h1
  clear hA0 hval0
  have hsz : (DataW.weightsEach Try.prog [22, 3] [d0, .lit (.int .i64 a1)]).all (fun x => decide (x ≤ reachBytes)) = true := hsz0
  have hlight0 : SLight 22 d0 := by
    intro m hm
    have := List.all_eq_true.1 hsz m (DataW.weights_mem_each (j := 0) rfl rfl m hm)
    simpa using this
  have hlt0 : ∀ x ∈ p0, x.block < W.heap.size := fun x hx => by simpa using hW'.lt x (by simp [hx])
  have hk0 := h0
  obtain ⟨ao0, len0, cap0, rfl⟩ := okWide_slice Try.underlying22 (hval 0 22 v0 rfl rfl)
  obtain ⟨fuel0, hf0⟩ := h0
  obtain ⟨la0, lc0, L0, e0, hL0, hB0, hC0, hN0⟩ := read_ivs (v := .slice ao0 len0 cap0) hf0 hlight0
  cases e0
  refine (scanAssigns_walk ao0 cap0 _ L0 a1 W hL0 rfl (by omega)).mono fun e W' ⟨he, hF⟩ => ?_
  subst he
  have hb := hF.toBelow (Nat.le_refl _) (fun _ h => by cases h)
  refine ⟨_, rfl, _, _, _, [], p0 ++ ([] ++ []), [], hW', ?_, ?_, rfl, hb.frame _, fun h => by cases h⟩
  · exact trodAll_cons_mk (shut_bool Try.underlying4 _) trodAll_mk0
  · have g0 := Below.trod laidOut (by kernel_rfl) (of_decide_eq_true (by kernel_rfl)) hk0 hb hlt0
    exact trodAll_cons_mk g0 (trodAll_cons_mk (shut_int Try.underlying3 w1) trodAll_mk0)

theorem over : Rows.scanAssignsRow.holds Try.pinned (OpenSpec.ofChange Rows.scanAssignsSpec) :=
  OpenClaim.holds_of_cond 3 Try.f3 rfl rfl rfl rfl rfl rfl rfl ⟨rfl, rfl, rfl, rfl, rfl⟩ rfl rfl rfl rfl rfl (by kernel_rfl) Try.func3 (by kernel_rfl)
    (of_decide_eq_true (by kernel_rfl)) (by unfold Func.isWrapper; first | (rw [if_pos (by decide +kernel)]; kernel_rfl) | (rw [if_neg (by decide +kernel)]; exact ⟨rfl, rfl⟩))
    (fun os started H enc _ F => by rw [Clock.pre_unlisted rfl]; exact lifted os started H enc)

/-- ████ THE STATEMENT ████ -/
theorem proved : Rows.ScanAssignsSaid :=
  over
#print axioms proved
end Go.Proofs.Ytomcfjckhajhmaa.scanAssigns
