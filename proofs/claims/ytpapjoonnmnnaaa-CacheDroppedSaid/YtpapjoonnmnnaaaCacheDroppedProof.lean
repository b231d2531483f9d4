/- CacheDropped returns true for every number of lines and every list of words: the selectors that were dropped are told, in order, once; of more than 64 the last ones; no condition. -/
import Derived.Test.YtpapjoonnmnnaaaCacheDroppedWalk
import Derived.Test.YtpapjoonnmnnaaaOpenW
import Derived.Test.YtpapjoonnmnnaaaRows
import Derived.WalkKit
import Derived.ProofKit
import Derived.OpenShut
import Derived.Clock
namespace Go.Proofs.Ytpapjoonnmnnaaa.cacheDropped
open Go.ChangeShapes Go.WideShapes Go.ChangeAt Go.RowKit
set_option linter.unusedVariables false      -- a walk need not use every 'w<i>' (that an integer argument fits its kind)

theorem laidOut : laidOutB Try.prog = true := by kernel_rfl
theorem own : ownKnob Try.prog.godebug = none := by kernel_rfl

/-! the row -/
set_option maxRecDepth 100000 in
theorem lifted (os : Os) (started : os.Started) (H : Type) (enc : TypeId × Value → H) :
    ReturnsInHanded {} Try.checked os 4 .any (fun w args => (Rows.cacheDroppedSpec.pre enc Try.prog Try.f4 Rows.cacheDroppedRow.domain false w args ∧ True) ∧ sizedMet enc Try.prog Try.f4 (OpenSpec.ofChange Rows.cacheDroppedSpec) false w args) (Rows.cacheDroppedSpec.post enc Try.prog Try.f4 false true false false) := by
  obtain ⟨w0, t0, i0, e1, e2, e3, e4, e5, e6⟩ := ChangeSpec.witness6 (enc := enc) (C := Try.checked) (s := Rows.cacheDroppedSpec) (f := 4) (fn := Try.f4) (conds := Rows.cacheDroppedRow.domain) (os := os) false ⟨#[], #[.int .i64 0, .slice none 0 0], []⟩ 8 (by kernel_rfl) (by kernel_rfl) (by kernel_rfl) (by kernel_rfl)
  refine returnsInHanded_of_change_and (C := Try.checked) (X := fun _ _ => True) (fun _ _ _ _ h => h) own started (by kernel_rfl) Try.func4 ⟨w0, t0, i0, e1, e2, e3, e4, ⟨⟨e5.1, trivial⟩, e5.2⟩, e6⟩ ?_
  intro W base args ds gs before hval0 hW hcnd hsz0 _ _
  have hval : ∀ (j : Nat) t v, Try.f4.params[j]? = some t → args[j]? = some v → Value.okWide Try.prog W .any base t v := hval0
  have hW' := hW
  obtain ⟨p, q, hA0, hV, rfl, hfz, hnd⟩ := hW
  have hA : DataW.TrodAll enc Try.prog W 0 (fun _ => true) true Try.f4.params.toList args.toList ds p := hA0
  rw [Try.params4] at hA hval hsz0
  obtain ⟨v0, vs0, d0, ds0, p0, q0, hargs, rfl, rfl, h0, r0⟩ := trodAll_cons hA
  obtain ⟨v1, vs1, d1, ds1, p1, q1, rfl, rfl, rfl, h1, r1⟩ := trodAll_cons r0
  obtain ⟨rfl, rfl, rfl⟩ := trodAll_nil r1
  obtain rfl : args = #[v0, v1] := Array.toList_inj.1 hargs
  obtain ⟨rfl, rfl⟩ := trodVars_none hV
  obtain ⟨a0, rfl, rfl, rfl, w0⟩ := open_int Try.underlying3 (hval 0 3 v0 rfl rfl) h0
  obtain ⟨ao1, len1, cap1, rfl⟩ := okWide_slice Try.underlying34 (hval 1 34 v1 rfl rfl)
  have h1k := h1
  clear hA0 hval0
  simp only [List.append_nil] at hW'
  have hlt : ∀ x ∈ p1, x.block < W.heap.size := fun x hx => by simpa using hW'.lt x (by simpa using hx)
  have hsz : (DataW.weightsEach Try.prog [3, 34] [.lit (.int .i64 a0), d1]).all (fun x => decide (x ≤ reachBytes)) = true := hsz0
  have hlight : Light 34 d1 := by
    intro m hm
    have := List.all_eq_true.1 hsz m (DataW.weights_mem_each (j := 1) rfl rfl m hm)
    simpa using this
  obtain ⟨ao, cap, xs, hv1, hX, hB, hl, hc1, hc2, hnil, hspot, -⟩ : ∃ ao cap xs, Value.slice ao1 len1 cap1 = .slice ao xs.length cap ∧ WordsAt W ao xs ∧ (∀ x ∈ xs, WB x) ∧ xs.length ≤ 17592186043904 ∧ xs.length ≤ cap ∧ cap ≤ 9223372036854775807 ∧ (ao = none → cap = 0 ∧ xs = []) ∧ (∀ a, ao = some a → 0 < (if true then cap else xs.length) → ∃ b o, a = ⟨b, o, none⟩) ∧ (0 < xs.length → ∃ b o, ao = some ⟨b, o, none⟩ ∧ b < W.heap.size) := by
    obtain ⟨fuel, hf⟩ := h1
    exact read_words2 (v := .slice ao1 len1 cap1) hf hlight
  cases hv1
  refine (cacheDropped_walk a0 ao1 cap1 xs W hX (by omega) hc1 hc2 hB (fun h => ⟨(hnil h).2, (hnil h).1⟩) (fun a ha hp => hspot a ha (by simpa using hp))).mono fun e W' ⟨he, hF⟩ => ?_
  subst he
  have hb := hF.toBelow (Nat.le_refl _) (fun _ h => by cases h)
  refine ⟨_, rfl, _, _, _, [], p1, [], hW', ?_, ?_, rfl, hb.frame _, fun h => by cases h⟩
  · exact trodAll_cons_mk (shut_bool Try.underlying4 _) trodAll_mk0
  · have hargs := Below.trod laidOut (by kernel_rfl) (of_decide_eq_true (by kernel_rfl)) h1k hb hlt
    have ht := trodAll_cons_mk (shut_int Try.underlying3 w0) (trodAll_cons_mk hargs trodAll_mk0)
    simp only [List.nil_append, List.append_nil] at ht
    exact ht

theorem over : Rows.cacheDroppedRow.holds Try.pinned (OpenSpec.ofChange Rows.cacheDroppedSpec) :=
  OpenClaim.holds_of_cond 4 Try.f4 rfl rfl rfl rfl rfl rfl rfl ⟨rfl, rfl, rfl, rfl, rfl⟩ rfl rfl rfl rfl rfl (by kernel_rfl) Try.func4 (by kernel_rfl)
    (of_decide_eq_true (by kernel_rfl)) (by unfold Func.isWrapper; first | (rw [if_pos (by decide +kernel)]; kernel_rfl) | (rw [if_neg (by decide +kernel)]; exact ⟨rfl, rfl⟩))
    (fun os started H enc _ F => by rw [Clock.pre_unlisted rfl]; exact lifted os started H enc)

/-- ████ THE STATEMENT ████ -/
theorem proved : Rows.CacheDroppedSaid :=
  over
#print axioms proved
end Go.Proofs.Ytpapjoonnmnnaaa.cacheDropped
