/- GcTwice, walked. -/
import Derived.Test.YtjjkbdkalnhcbaaGreatDoorMGcOrderWalk
namespace Go.Proofs.YtjjkbdkalnhcbaaGreatDoor
open Go.RowKit

section
variable {lim root hashes : Int} {os : List Ob} {roots : List Int}
/-- what is left may be run again -/
theorem left_inv (hI : OInv lim os hashes) (hwo : wordsOk os root = true) (hs5 : ∀ o ∈ os, o.2.2.length ≤ 512) :
    OInv lim (leftObs (keepR os (root :: roots)) os) hashes ∧ wordsOk (leftObs (keepR os (root :: roots)) os) (moveW (keepR os (root :: roots)) os root) = true ∧ ∀ o ∈ leftObs (keepR os (root :: roots)) os, o.2.2.length ≤ 512 := by
  have he : endOf os ≤ 65536 := by have := hI.fit; have := hI.l2; omega
  have hsrc : ∀ o ∈ leftObs (keepR os (root :: roots)) os, ∃ a ∈ os, o = moveOb (moveW (keepR os (root :: roots)) os) a := fun o ho => by
    obtain ⟨a, ha, e⟩ := List.mem_map.1 ho
    exact ⟨a, (keepL_sub _ 1 os).subset ha, e.symm⟩
  refine ⟨⟨hI.l1, hI.l2, ?_, hI.h0, hI.h1, fun o ho => ?_, fun o ho => ?_, hash_left hI.uq⟩, words_left he hwo (keepR_closed _ _) (fun h => keepR_iff.2 (.root (by simp) h)), size_left hs5⟩
  · have := end_left (keepR os (root :: roots)) os
    have := hI.fit
    omega
  · obtain ⟨a, ha, rfl⟩ := hsrc o ho
    exact hI.each a ha
  · obtain ⟨a, ha, rfl⟩ := hsrc o ho
    have h2 := hI.bd a ha
    refine ⟨move_WB h2.1, fun y hy => ?_⟩
    obtain ⟨z, hz, rfl⟩ := List.mem_map.1 hy
    exact move_WB (h2.2 z hz)
theorem left_ok (he : endOf os ≤ 65536) (hall : roots.all (okB (marksOf os)) = true) : (roots.map (moveW (keepR os (root :: roots)) os)).all (okB (marksOf (leftObs (keepR os (root :: roots)) os))) = true := by
  rw [List.all_eq_true]
  intro y hy
  obtain ⟨x, hx, rfl⟩ := List.mem_map.1 hy
  exact ok_move he (List.all_eq_true.1 hall x hx) (fun h => keepR_iff.2 (.root (by simp [hx]) h))
/-- a second run keeps all, and moves nothing -/
theorem twice_law (ol : List Ob) (hol : ol = leftObs (keepR os (root :: roots)) os) (f : Int → Int) (hf : f = moveW (keepR os (root :: roots)) os) :
    leftObs (keepR ol (f root :: roots.map f)) ol = ol ∧ ∀ x, moveW (keepR ol (f root :: roots.map f)) ol x = x := by
  have h : ∀ y, (lookP 1 ol y).isSome = true → keepR ol (f root :: roots.map f) y = true := fun y hy => by
    rw [hol] at hy ⊢
    have := all_kept hy
    rw [List.map_cons, ← hf] at this
    exact this
  exact ⟨leftObs_all h, moveW_all h⟩
end
end Go.Proofs.YtjjkbdkalnhcbaaGreatDoor
