/- scan: the document's Assign: which register is free, who ends last. -/
import Derived.Test.YtomcfjckhajhmaaScnRight
namespace Go.Proofs.Ytomcfjckhajhmaa
open Go.RowKit

/-- who holds each register, by number: -1, nobody -/
structure HC (L : List Iv) (H : List (Option Iv)) (r : Nat) (cur : Array Value) : Prop where
  len : H.length = r
  size : cur.size = r
  at_ : ∀ q, q < r → (H[q]? = some none ∧ cur[q]? = some (.int .i64 (-1))) ∨ ∃ (k : Nat) (x : Iv), H[q]? = some (some x) ∧ L[k]? = some x ∧ cur[q]? = some (.int .i64 (k : Int))
theorem HC.put {L : List Iv} {H : List (Option Iv)} {r : Nat} {cur : Array Value} (h : HC L H r cur) {q k : Nat} {x : Iv} (hq : q < r) (hk : L[k]? = some x) : HC L (H.set q (some x)) r (cur.setIfInBounds q (.int .i64 (k : Int))) := by
  refine ⟨by simp [h.len], by simp [h.size], fun j hj => ?_⟩
  have hl := h.len; have hs := h.size
  by_cases e : q = j
  · subst e
    exact Or.inr ⟨k, x, by rw [List.getElem?_set_self (by omega)], hk, by rw [Array.getElem?_setIfInBounds, if_pos rfl, if_pos (by omega)]⟩
  · rw [List.getElem?_set_ne e, Array.getElem?_setIfInBounds_ne e]
    exact h.at_ j hj
theorem HC.drop {L : List Iv} {H : List (Option Iv)} {r : Nat} {cur : Array Value} (h : HC L H r cur) {q : Nat} (hq : q < r) : HC L (H.set q none) r (cur.setIfInBounds q (.int .i64 (-1))) := by
  refine ⟨by simp [h.len], by simp [h.size], fun j hj => ?_⟩
  have hl := h.len; have hs := h.size
  by_cases e : q = j
  · subst e
    exact Or.inl ⟨by rw [List.getElem?_set_self (by omega)], by rw [Array.getElem?_setIfInBounds, if_pos rfl, if_pos (by omega)]⟩
  · rw [List.getElem?_set_ne e, Array.getElem?_setIfInBounds_ne e]
    exact h.at_ j hj
/-- released from the k-th register on -/
def relF (f : Int) (H : List (Option Iv)) (k : Nat) : List (Option Iv) := H.take k ++ (relH f H).drop k
theorem relF_len (f : Int) (H : List (Option Iv)) (k : Nat) : (relF f H k).length = H.length := by
  unfold relF
  simp [relH_len]
  omega
theorem relF_at (f : Int) (H : List (Option Iv)) (k q : Nat) (hk : k ≤ H.length) : (relF f H k)[q]? = if q < k then H[q]? else (relH f H)[q]? := by
  unfold relF
  by_cases h : q < k
  · rw [if_pos h, List.getElem?_append_left (by simp; omega), List.getElem?_take, if_pos h]
  · rw [if_neg h, List.getElem?_append_right (by simp; omega), List.getElem?_drop]
    congr 1
    simp
    omega
theorem relF_all (f : Int) (H : List (Option Iv)) : relF f H H.length = H := by
  apply List.ext_getElem?
  intro q
  rw [relF_at f H _ q (Nat.le_refl _)]
  by_cases h : q < H.length
  · rw [if_pos h]
  · rw [if_neg h, List.getElem?_eq_none (by rw [relH_len]; omega), List.getElem?_eq_none (by omega)]
theorem relF_zero (f : Int) (H : List (Option Iv)) : relF f H 0 = relH f H := by unfold relF; simp
theorem relF_same {f : Int} {H : List (Option Iv)} {j : Nat} (hj : j < H.length) (h : (relH f H)[j]? = H[j]?) : relF f H j = relF f H (j + 1) := by
  apply List.ext_getElem?
  intro q
  rw [relF_at f H _ q (by omega), relF_at f H _ q (by omega)]
  by_cases e : q = j
  · subst e
    rw [if_neg (by omega), if_pos (by omega), h]
  · by_cases h1 : q < j
    · rw [if_pos h1, if_pos (by omega)]
    · rw [if_neg h1, if_neg (by omega)]
theorem relF_drop {f : Int} {H : List (Option Iv)} {j : Nat} (hj : j < H.length) (h : (relH f H)[j]? = some none) : relF f H j = (relF f H (j + 1)).set j none := by
  apply List.ext_getElem?
  intro q
  rw [relF_at f H _ q (by omega), List.getElem?_set, relF_at f H _ q (by omega), relF_len]
  by_cases e : j = q
  · subst e
    rw [if_neg (by omega), if_pos rfl, if_pos hj, h]
  · rw [if_neg e]
    by_cases h1 : q < j
    · rw [if_pos h1, if_pos (by omega)]
    · rw [if_neg h1, if_neg (by omega)]
theorem relH_gone {f : Int} {H : List (Option Iv)} {j : Nat} {x : Iv} (h : H[j]? = some (some x)) (hx : x.t < f) : (relH f H)[j]? = some none := by
  unfold relH
  rw [List.getElem?_map, h]
  show some (Option.filter _ (some x)) = _
  rw [Option.filter_some, if_neg (by simp; omega)]
theorem relH_empty {f : Int} {H : List (Option Iv)} {j : Nat} (h : H[j]? = some none) : (relH f H)[j]? = some none := by
  unfold relH
  rw [List.getElem?_map, h]
  rfl
/-- the least register that is free among those from k on, or -1 -/
def FreeAt (R : List (Option Iv)) (r k : Nat) (fr : Int) : Prop := (fr = -1 ∧ ∀ q, k ≤ q → q < r → ∃ x, R[q]? = some (some x)) ∨ ∃ q : Nat, fr = (q : Int) ∧ k ≤ q ∧ q < r ∧ R[q]? = some none ∧ ∀ q', k ≤ q' → q' < q → ∃ x, R[q']? = some (some x)
/-- who ends last among i and those of the first k registers -/
def WorstAt (L : List Iv) (R : List (Option Iv)) (i : Iv) (ki k : Nat) (wi at_ : Int) : Prop := (at_ = -1 ∧ wi = (ki : Int) ∧ ∀ (q : Nat) (y : Iv), q < k → R[q]? = some (some y) → endLt y i) ∨ ∃ (q kq : Nat) (x : Iv), at_ = (q : Int) ∧ wi = (kq : Int) ∧ q < k ∧ R[q]? = some (some x) ∧ L[kq]? = some x ∧ endLt i x ∧ ∀ (q' : Nat) (y : Iv), q' < k → R[q']? = some (some y) → q' = q ∨ endLt y x
theorem FreeAt.empty {R : List (Option Iv)} {r j : Nat} {fr : Int} (h : FreeAt R r (j + 1) fr) (hj : j < r) (hn : R[j]? = some none) : FreeAt R r j (j : Int) :=
  Or.inr ⟨j, rfl, Nat.le_refl _, hj, hn, fun q' h1 h2 => by omega⟩
theorem FreeAt.held {R : List (Option Iv)} {r j : Nat} {fr : Int} (h : FreeAt R r (j + 1) fr) {x : Iv} (hx : R[j]? = some (some x)) : FreeAt R r j fr := by
  have key : ∀ q, j ≤ q → (j + 1 ≤ q → ∃ x, R[q]? = some (some x)) → ∃ x, R[q]? = some (some x) := fun q h1 h2 => by
    by_cases e : q = j
    · subst e; exact ⟨x, hx⟩
    · exact h2 (by omega)
  rcases h with ⟨rfl, h⟩ | ⟨q, rfl, h1, h2, h3, h4⟩
  · exact Or.inl ⟨rfl, fun q h1 h2 => key q h1 fun h3 => h q h3 h2⟩
  · exact Or.inr ⟨q, rfl, by omega, h2, h3, fun q' h5 h6 => key q' h5 fun h7 => h4 q' h7 h6⟩
theorem WorstAt.more {L : List Iv} {R : List (Option Iv)} {i : Iv} {ki k : Nat} {wi at_ : Int} (h : WorstAt L R i ki k wi at_) {y w : Iv} (hy : R[k]? = some (some y)) (hw : (at_ = -1 ∧ w = i) ∨ ∃ q : Nat, at_ = (q : Int) ∧ R[q]? = some (some w)) (hlt : endLt y w) : WorstAt L R i ki (k + 1) wi at_ := by
  rcases h with ⟨rfl, rfl, h⟩ | ⟨q, kq, x, rfl, rfl, h1, h2, h3, h4, h5⟩
  · have e : w = i := by
      rcases hw with ⟨-, e⟩ | ⟨q, e, -⟩
      · exact e
      · omega
    subst e
    refine Or.inl ⟨rfl, rfl, fun q z hq hz => ?_⟩
    by_cases e : q = k
    · subst e; rw [hy] at hz; cases hz; exact hlt
    · exact h q z (by omega) hz
  · have e : w = x := by
      rcases hw with ⟨e, -⟩ | ⟨q', e, hq'⟩
      · omega
      · have : q' = q := by omega
        subst this
        rw [h2] at hq'
        cases hq'
        rfl
    subst e
    refine Or.inr ⟨q, kq, w, rfl, rfl, by omega, h2, h3, h4, fun q' z hq' hz => ?_⟩
    by_cases e : q' = k
    · subst e; rw [hy] at hz; cases hz; exact Or.inr hlt
    · exact h5 q' z (by omega) hz
theorem WorstAt.next {L : List Iv} {R : List (Option Iv)} {i : Iv} {ki k ky : Nat} {wi at_ : Int} (h : WorstAt L R i ki k wi at_) {y w : Iv} (hy : R[k]? = some (some y)) (hky : L[ky]? = some y) (hw : (at_ = -1 ∧ w = i) ∨ ∃ q : Nat, at_ = (q : Int) ∧ R[q]? = some (some w)) (hlt : endLt w y) : WorstAt L R i ki (k + 1) (ky : Int) (k : Int) := by
  rcases h with ⟨rfl, rfl, h⟩ | ⟨q, kq, x, rfl, rfl, h1, h2, h3, h4, h5⟩
  · have e : w = i := by
      rcases hw with ⟨-, e⟩ | ⟨q, e, -⟩
      · exact e
      · omega
    subst e
    refine Or.inr ⟨k, ky, y, rfl, rfl, by omega, hy, hky, hlt, fun q' z hq' hz => ?_⟩
    by_cases e : q' = k
    · exact Or.inl e
    · exact Or.inr ((h q' z (by omega) hz).trans hlt)
  · have e : w = x := by
      rcases hw with ⟨e, -⟩ | ⟨q', e, hq'⟩
      · omega
      · have : q' = q := by omega
        subst this
        rw [h2] at hq'
        cases hq'
        rfl
    subst e
    refine Or.inr ⟨k, ky, y, rfl, rfl, by omega, hy, hky, h4.trans hlt, fun q' z hq' hz => ?_⟩
    by_cases e : q' = k
    · exact Or.inl e
    · rcases h5 q' z (by omega) hz with e2 | e2
      · subst e2
        rw [h2] at hz
        cases hz
        exact Or.inr hlt
      · exact Or.inr (e2.trans hlt)
theorem freeAt_step {s : St} {i : Iv} {r : Nat} {fr : Int} (hl : s.hold.length = r) (h : FreeAt (relH i.f s.hold) r 0 fr) : (∃ q : Nat, fr = (q : Int) ∧ q < r ∧ Step s i ⟨(relH i.f s.hold).set q (some i), updO s.out i.v (0, q), s.cells⟩) ∨ (fr = -1 ∧ ∀ k, k < s.hold.length → ∃ x, (relH i.f s.hold)[k]? = some (some x)) := by
  rcases h with ⟨rfl, h⟩ | ⟨q, rfl, -, h2, h3, h4⟩
  · exact Or.inr ⟨rfl, fun k hk => h k (Nat.zero_le _) (by omega)⟩
  · exact Or.inl ⟨q, rfl, h2, Step.free q h3 (fun k hk => h4 k (Nat.zero_le _) hk)⟩
end Go.Proofs.Ytomcfjckhajhmaa
