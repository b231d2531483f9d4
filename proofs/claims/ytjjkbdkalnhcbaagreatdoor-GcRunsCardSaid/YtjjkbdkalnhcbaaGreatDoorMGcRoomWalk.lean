/- GcRoom, walked. -/
import Derived.Test.YtjjkbdkalnhcbaaGreatDoorMRuns
namespace Go.Proofs.YtjjkbdkalnhcbaaGreatDoor
open Go.RowKit

theorem inv_nil (lim : Int) (h1 : 64 ≤ lim) (h2 : lim ≤ 65536) : OInv lim [] 0 := ⟨h1, h2, by simp [endOf, flatW]; omega, by omega, by omega, by simp, by simp, ⟨by omega, by omega, fun i x hx => by simp at hx⟩⟩
theorem inv_nil' {lim n : Int} {os : List Ob} (h : OInv lim os n) : OInv lim [] n := ⟨h.l1, h.l2, by have := h.l1; simp [endOf, flatW]; omega, h.h0, h.h1, by simp, by simp, ⟨h.uq.1, h.uq.2.1, fun i x hx => by simp at hx⟩⟩
/-- what a heap holds that was loaded -/
theorem loaded_inv {its : List (It × Int)} {root n : Int} (hB : B4 its) (h : loadE 4096 (obsOf (its.map Prod.fst)) root n = 0) : OInv 4096 (obsOf (its.map Prod.fst)) n ∧ wordsOk (obsOf (its.map Prod.fst)) root = true ∧ ∀ o ∈ obsOf (its.map Prod.fst), o.2.2.length ≤ 512 := by
  obtain ⟨h1, h2, h3, h4⟩ := loadE_inv h
  refine ⟨OLoad.inv (r0 := 0) (.inl ⟨h, rfl, rfl, rfl⟩) (inv_nil 4096 (by omega) (by omega)) (fun o ho => ?_), h4, h1⟩
  obtain ⟨a, ha, rfl⟩ := List.mem_map.1 ho
  obtain ⟨p, hp, rfl⟩ := List.mem_map.1 ha
  exact hB.words p hp
end Go.Proofs.YtjjkbdkalnhcbaaGreatDoor
