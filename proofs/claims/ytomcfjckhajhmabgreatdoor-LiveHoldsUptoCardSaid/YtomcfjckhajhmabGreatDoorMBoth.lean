/- The program's heap and the document's, side by side: both made since a world, their blocks apart; what one of them does leaves the other. What one reader answers on both heaps: the same. What one writer does to both heaps: the same. -/
import Derived.Test.YtomcfjckhajhmabGreatDoorMRanges
import Derived.Test.YtomcfjckhajhmabGreatDoorMRefs
import Derived.Test.YtomcfjckhajhmabGreatDoorMLoading
namespace Go.Proofs.YtomcfjckhajhmabGreatDoor
open Go.RowKit

section
variable {w0 W W' : World} {X : List (Nat × Obj)} {hb mb rb : Nat} {m m' : Mem} {r r' : RH}
end
end Go.Proofs.YtomcfjckhajhmabGreatDoor
namespace Go.Proofs.YtomcfjckhajhmabGreatDoor
open Go.RowKit
section
variable {w0 : World} {hb mb rb : Nat} {lim root hashes : Int} {os : List Ob} {l : List RO}

/-- an answer: a number; a truth; a number and an error -/
def IsInt1 (v : Value) : Prop := ∃ a, v = .int .i64 a
def IsBool1 (v : Value) : Prop := ∃ b, v = .bool b
def IsTwo (k : IntKind) (v : Value) : Prop := ∃ a e, v = .tuple #[.int k a, .int .i64 e]
theorem findR_none (ha : RAgree 1 l os) {x : Int} (hx : stB (absMem lim os root hashes).M x = false) : findR l x = none := by
  have := agree_has ha lim root hashes x
  rw [hx] at this
  cases hf : findR l x with
  | none => rfl
  | some r => rw [hf] at this; cases this
theorem endOf_pos (pre : List Ob) : 1 ≤ endOf pre := by unfold endOf; omega
theorem endOf_lt (pre post : List Ob) (o : Ob) : endOf pre + 3 + o.2.2.length ≤ endOf (pre ++ o :: post) := by
  unfold endOf
  rw [flatW_append, flatW_cons, List.length_append, List.length_append, wordsOb_len]
  omega
end
end Go.Proofs.YtomcfjckhajhmabGreatDoor
namespace Go.Proofs.YtomcfjckhajhmabGreatDoor
open Go.RowKit

theorem RAgree.set {p : Nat} {l : List RO} {pre post : List Ob} {o o' : Ob} {r r' : RO} (h : RAgree p l (pre ++ o :: post)) (hr : l[pre.length]? = some r) (ho : r'.ob = o') (hp : r'.pos = r.pos) (hl : o'.2.2.length = o.2.2.length) : RAgree p (l.set pre.length r') (pre ++ o' :: post) := by
  induction pre generalizing p l with
  | nil =>
    cases l with
    | nil => exact h.elim
    | cons q l =>
      obtain ⟨h1, h2, h3⟩ := h
      simp at hr
      subst hr
      exact ⟨ho, by rw [hp, h2], by rw [hl]; exact h3⟩
  | cons a pre ih =>
    cases l with
    | nil => exact h.elim
    | cons q l =>
      obtain ⟨h1, h2, h3⟩ := h
      exact ⟨h1, h2, ih h3 (by simpa using hr)⟩
theorem RAgree.snoc {p : Nat} {l : List RO} {os : List Ob} {r : RO} {o : Ob} (h : RAgree p l os) (ho : r.ob = o) (hp : r.pos = p + (flatW os).length) : RAgree p (l ++ [r]) (os ++ [o]) := by
  induction l generalizing p os with
  | nil =>
    cases os with
    | nil => exact ⟨ho, by simpa [flatW] using hp, trivial⟩
    | cons => exact h.elim
  | cons q l ih =>
    cases os with
    | nil => exact h.elim
    | cons a os =>
      obtain ⟨h1, h2, h3⟩ := h
      exact ⟨h1, h2, ih h3 (by rw [hp, flatW_cons, List.length_append, wordsOb_len]; omega)⟩
theorem agree_may {l : List RO} {os : List Ob} (h : RAgree 1 l os) (lim root hashes x : Int) : mayR l x = okB (absMem lim os root hashes).M x := by
  unfold mayR okB
  rw [agree_has h lim root hashes x]
  cases stB (absMem lim os root hashes).M x <;> cases decide (x = 0) <;> cases odd x <;> rfl
/-- what holds of the objects at all times -/
structure OInv (lim : Int) (os : List Ob) (hashes : Int) : Prop where
  l1 : 64 ≤ lim
  l2 : lim ≤ 65536
  fit : (endOf os : Int) ≤ lim
  h0 : 0 ≤ hashes
  h1 : hashes ≤ 1099511627775
  each : ∀ o ∈ os, 0 ≤ o.2.1 ∧ o.2.1 ≤ hashes
  bd : ∀ o ∈ os, ObB o
  uq : HashOk (os.map fun o => o.2.1) hashes
theorem bd_set {pre post : List Ob} {o o' : Ob} (h : ∀ p ∈ pre ++ o :: post, ObB p) (ho : ObB o') : ∀ p ∈ pre ++ o' :: post, ObB p := by
  intro p hp
  rcases List.mem_append.1 hp with hp | hp
  · exact h p (List.mem_append_left _ hp)
  · rcases List.mem_cons.1 hp with rfl | hp
    · exact ho
    · exact h p (by simp [hp])
theorem ObB.store {o : Ob} (h : ObB o) (j : Nat) {c : Int} (hc : WB c) : ObB (o.1, o.2.1, o.2.2.set j c) :=
  ⟨h.1, fun x hx => by
    rcases List.mem_or_eq_of_mem_set hx with hx | rfl
    · exact h.2 x hx
    · exact hc⟩
section
variable {w0 : World} {hb mb rb : Nat} {lim root hashes : Int} {os : List Ob} {l : List RO}
theorem each_set {hs' : Int} {pre post : List Ob} {o o' : Ob} (h : ∀ p ∈ pre ++ o :: post, 0 ≤ p.2.1 ∧ p.2.1 ≤ hashes) (hle : hashes ≤ hs') (ho : 0 ≤ o'.2.1 ∧ o'.2.1 ≤ hs') : ∀ p ∈ pre ++ o' :: post, 0 ≤ p.2.1 ∧ p.2.1 ≤ hs' := by
  intro p hp
  rcases List.mem_append.1 hp with hp | hp
  · have := h p (List.mem_append_left _ hp); omega
  · rcases List.mem_cons.1 hp with rfl | hp
    · exact ho
    · have := h p (by simp [hp]); omega
theorem endOf_set {pre post : List Ob} {o o' : Ob} (hl : o'.2.2.length = o.2.2.length) : endOf (pre ++ o' :: post) = endOf (pre ++ o :: post) := by
  simp only [endOf, flatW_append, flatW_cons, List.length_append, wordsOb_len, hl]
end
end Go.Proofs.YtomcfjckhajhmabGreatDoor
