/- IrCopies returns true for every unit: a copy is the same unit, may be if and only if it may be, and shares no memory with it; no condition. -/
import Derived.Test.YtcdpgchkdjjfgaaIrCopiesWalk
import Derived.Test.YtcdpgchkdjjfgaaIrOpen
import Derived.Test.YtcdpgchkdjjfgaaRows
import Derived.WalkKit
import Derived.ProofKit
import Derived.OpenShut
import Derived.Clock
namespace Go.Proofs.Ytcdpgchkdjjfgaa.irCopies
open Go.ChangeShapes Go.WideShapes Go.ChangeAt Go.RowKit
set_option linter.unusedVariables false      -- a walk need not use every 'w<i>' (that an integer argument fits its kind)

theorem laidOut : laidOutB Try.prog = true := by kernel_rfl
theorem own : ownKnob Try.prog.godebug = none := by kernel_rfl

/-! the row -/
set_option maxRecDepth 100000 in
theorem lifted (os : Os) (started : os.Started) (H : Type) (enc : TypeId × Value → H) :
    ReturnsInHanded {} Try.checked os 5 .any (fun w args => (Rows.irCopiesSpec.pre enc Try.prog Try.f5 Rows.irCopiesRow.domain false w args ∧ True) ∧ sizedMet enc Try.prog Try.f5 (OpenSpec.ofChange Rows.irCopiesSpec) false w args) (Rows.irCopiesSpec.post enc Try.prog Try.f5 false true false false) := by
  obtain ⟨w0, t0, i0, e1, e2, e3, e4, e5, e6⟩ := ChangeSpec.witness6 (enc := enc) (C := Try.checked) (s := Rows.irCopiesSpec) (f := 5) (fn := Try.f5) (conds := Rows.irCopiesRow.domain) (os := os) false ⟨#[], #[.agg #[.int .u64 0, .int .i64 0, .int .i64 0, .int .i64 0, .int .i64 0, .int .i64 0, .slice none 0 0, .slice none 0 0, .slice none 0 0, .slice none 0 0]], []⟩ 8 (by kernel_rfl) (by kernel_rfl) (by kernel_rfl) (by kernel_rfl)
  refine returnsInHanded_of_change_and (C := Try.checked) (X := fun _ _ => True) (fun _ _ _ _ h => h) own started (by kernel_rfl) Try.func5 ⟨w0, t0, i0, e1, e2, e3, e4, ⟨⟨e5.1, trivial⟩, e5.2⟩, e6⟩ ?_
  intro W base args ds gs before hval0 hW hcnd hsz0 _ _
  have hval : ∀ (j : Nat) t v, Try.f5.params[j]? = some t → args[j]? = some v → Value.okWide Try.prog W .any base t v := hval0
  have hW' := hW
  obtain ⟨p, q, hA0, hV, rfl, hfz, hnd⟩ := hW
  have hA : DataW.TrodAll enc Try.prog W 0 (fun _ => true) true Try.f5.params.toList args.toList ds p := hA0
  rw [Try.params5] at hA hval hsz0
  obtain ⟨v0, vs0, d0, ds0, p0, q0, hargs, rfl, rfl, h0, r0⟩ := trodAll_cons hA
  obtain ⟨rfl, rfl, rfl⟩ := trodAll_nil r0
  obtain rfl : args = #[v0] := Array.toList_inj.1 hargs
  obtain ⟨rfl, rfl⟩ := trodVars_none hV
  clear hA0 hval0
  have hsz : (DataW.weightsEach Try.prog [43] [d0]).all (fun x => decide (x ≤ reachBytes)) = true := hsz0
  have hlight0 : ILight 43 d0 := by
    intro m hm
    have := List.all_eq_true.1 hsz m (DataW.weights_mem_each (j := 0) rfl rfl m hm)
    simpa using this
  have hlt0 : ∀ x ∈ p0, x.block < W.heap.size := fun x hx => by simpa using hW'.lt x (by simp [hx])
  have hk0 := h0
  obtain ⟨u0, rfl, hU0, hB0, hN0⟩ := read_unit (hval 0 43 v0 rfl rfl) h0 hlight0
  refine (irCopies_walk u0 W hU0 hB0 hN0).mono fun e W' ⟨he, hF⟩ => ?_
  subst he
  have hb := hF.toBelow (Nat.le_refl _) (fun _ h => by cases h)
  refine ⟨_, rfl, _, _, _, [], p0 ++ [], [], hW', ?_, ?_, rfl, hb.frame _, fun h => by cases h⟩
  · exact trodAll_cons_mk (shut_bool Try.underlying4 _) trodAll_mk0
  · have g0 := Below.trod laidOut (by kernel_rfl) (of_decide_eq_true (by kernel_rfl)) hk0 hb hlt0
    exact trodAll_cons_mk g0 trodAll_mk0

theorem over : Rows.irCopiesRow.holds Try.pinned (OpenSpec.ofChange Rows.irCopiesSpec) :=
  OpenClaim.holds_of_cond 5 Try.f5 rfl rfl rfl rfl rfl rfl rfl ⟨rfl, rfl, rfl, rfl, rfl⟩ rfl rfl rfl rfl rfl (by kernel_rfl) Try.func5 (by kernel_rfl)
    (of_decide_eq_true (by kernel_rfl)) (by unfold Func.isWrapper; first | (rw [if_pos (by decide +kernel)]; kernel_rfl) | (rw [if_neg (by decide +kernel)]; exact ⟨rfl, rfl⟩))
    (fun os started H enc _ F => by rw [Clock.pre_unlisted rfl]; exact lifted os started H enc)

/-- ████ THE STATEMENT ████ -/
theorem proved : Rows.IrCopiesSaid :=
  over
#print axioms proved
end Go.Proofs.Ytcdpgchkdjjfgaa.irCopies
