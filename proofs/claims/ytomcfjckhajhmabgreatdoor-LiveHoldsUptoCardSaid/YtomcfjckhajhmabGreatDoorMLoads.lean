/- The memory's checkLoaded: whether every word of the objects may be, and the root. The heap's Load, whatever is loaded. -/
import Derived.Test.YtomcfjckhajhmabGreatDoorMRanges
import Derived.Test.YtomcfjckhajhmabGreatDoorMLoading
namespace Go.Proofs.YtomcfjckhajhmabGreatDoor
open Go.RowKit Go.Shelf
attribute [local go_sem] Oper.semAt_some

theorem starts_at {os : List Ob} {q : List Ob} {pre : List Nat} {x : Nat} (h : pre ++ [x] <+: startsOf (endOf q) os) : ∃ a o b, os = a ++ o :: b ∧ a.length = pre.length ∧ x = endOf (q ++ a) := by
  induction os generalizing q pre with
  | nil => obtain ⟨t, ht⟩ := h; simp [startsOf] at ht
  | cons o os ih =>
    simp only [startsOf] at h
    cases pre with
    | nil =>
      obtain ⟨t, ht⟩ := h
      simp at ht
      exact ⟨[], o, os, rfl, rfl, by simpa using ht.1⟩
    | cons y pre =>
      obtain ⟨t, ht⟩ := h
      simp only [List.cons_append, List.cons.injEq] at ht
      have e := endOf_snoc q o
      rw [← e] at ht
      obtain ⟨a, o', b, rfl, hl, hx⟩ := ih (q := q ++ [o]) ⟨t, by simpa using ht.2⟩
      exact ⟨o :: a, o', b, rfl, by simp [hl], by simpa using hx⟩
theorem starts_len (p : Nat) (os : List Ob) : (startsOf p os).length = os.length := by
  induction os generalizing p with
  | nil => rfl
  | cons o os ih => simp [startsOf, ih]
theorem keeps_fr {W W' : World} (hF : Fr [] W W') (B : Nat) : KeepsFrom B W W' := ⟨hF.size, fun _ _ _ hq _ => hF.heap (by simp) hq⟩
def okOb (M : List Bool) (o : Ob) : Bool := okB M o.1 && o.2.2.all (okB M)
end Go.Proofs.YtomcfjckhajhmabGreatDoor
namespace Go.Proofs.YtomcfjckhajhmabGreatDoor
open Go.RowKit

open Classical in
/-- the memory behind a Load -/
noncomputable def memLoad (lim : Int) (os0 : List Ob) (r0 h0 : Int) (os : List Ob) (root n : Int) : Mem := if loadE lim os root n = 0 then absMem lim os root n else absMem lim os0 r0 h0
theorem memLoad_ok {lim : Int} {os0 : List Ob} {r0 h0 : Int} {os : List Ob} {root n : Int} (h : loadE lim os root n = 0) : memLoad lim os0 r0 h0 os root n = absMem lim os root n := by unfold memLoad; rw [if_pos h]
theorem memLoad_no {lim : Int} {os0 : List Ob} {r0 h0 : Int} {os : List Ob} {root n : Int} (h : loadE lim os root n ≠ 0) : memLoad lim os0 r0 h0 os root n = absMem lim os0 r0 h0 := by unfold memLoad; rw [if_neg h]
/-- a list that can be handed to Load -/
structure Handed (w : World) (ao : Option Addr) (its : List It) : Prop where
  row : RowAt w ao (flat3 its)
  each : ∀ o ∈ its, ItIn w o
  len : its.length ≤ 2932031007402
  sizes : ∀ o ∈ its, o.fs.length ≤ 17592186044416
  hash : ∀ o ∈ its, -9223372036854775808 ≤ o.hash ∧ o.hash ≤ 9223372036854775807
  words : ∀ o ∈ its, ObB o.key
theorem ItIn.fr {w w' : World} {o : It} (h : ItIn w o) (hF : Fr [] w w') : ItIn w' o := by
  rcases h with ⟨fb, fo, fc, h1, h2, h3⟩ | h
  · exact .inl ⟨fb, fo, fc, h1, Nat.lt_of_lt_of_le h2 hF.size, h3.fr hF (by simp)⟩
  · exact .inr h
theorem Handed.fr {w w' : World} {ao : Option Addr} {its : List It} (h : Handed w ao its) (hF : Fr [] w w') : Handed w' ao its :=
  ⟨h.row.fr hF (fun _ _ => by simp), fun o ho => (h.each o ho).fr hF, h.len, h.sizes, h.hash, h.words⟩
end Go.Proofs.YtomcfjckhajhmabGreatDoor
