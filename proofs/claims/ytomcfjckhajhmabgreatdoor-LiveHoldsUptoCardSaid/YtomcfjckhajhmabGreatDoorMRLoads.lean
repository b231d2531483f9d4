/- The document's Load. The same list, loaded into both heaps. -/
import Derived.Test.YtomcfjckhajhmabGreatDoorMRanges
import Derived.Test.YtomcfjckhajhmabGreatDoorMBoth
import Derived.Test.YtomcfjckhajhmabGreatDoorMLoads
import Derived.Test.YtomcfjckhajhmabGreatDoorMLists
namespace Go.Proofs.YtomcfjckhajhmabGreatDoor
open Go.RowKit

theorem len_end (q : List Ob) : 1 + q.length * 3 ≤ endOf q := by
  unfold endOf
  induction q with
  | nil => simp
  | cons a q ih => rw [flatW_cons, List.length_append, wordsOb_len, List.length_cons]; omega
theorem end_take (os : List Ob) (k : Nat) : endOf (os.take k) ≤ endOf os := by
  have : os = os.take k ++ os.drop k := (List.take_append_drop k os).symm
  unfold endOf
  conv => rhs; rw [this]
  rw [flatW_append, List.length_append]
  omega
theorem ROB {l : List RO} {os : List Ob} {p : Nat} (h : RAgree p l os) : l.map RO.ob = os := by
  induction l generalizing p os with
  | nil => cases os with | nil => rfl | cons => exact h.elim
  | cons r l ih => cases os with | nil => exact h.elim | cons o os => simp [h.1, ih h.2.2]
end Go.Proofs.YtomcfjckhajhmabGreatDoor
namespace Go.Proofs.YtomcfjckhajhmabGreatDoor
open Go.RowKit

/-- a list of the document's objects that lies somewhere -/
structure G4 (W : World) (lo : Option Addr) (its : List (It × Int)) : Prop where
  row : RowAt W lo (flat4 its)
  ok : ∀ o ∈ its, ItOk W o.1
  inn : ∀ o ∈ its, ItIn W o.1
structure B4 (its : List (It × Int)) : Prop where
  len : its.length ≤ 2932031007402
  sizes : ∀ o ∈ its, o.1.fs.length ≤ 17592186044416
  hash : ∀ o ∈ its, -9223372036854775808 ≤ o.1.hash ∧ o.1.hash ≤ 9223372036854775807
  words : ∀ o ∈ its, ObB o.1.key
theorem ItOk.fr {S : List Nat} {W W' : World} {o : It} (h : ItOk W o) (hF : Fr S W W') (hS : ∀ fa n fc, o.fv = .slice (some fa) n fc → 0 < n → fa.block ∉ S) : ItOk W' o := by
  obtain ⟨fa, fc, h1, h2, h3⟩ := h
  refine ⟨fa, fc, h1, fun i x hx => ?_, h3⟩
  have hi : 0 < o.fs.length := Nat.lt_of_le_of_lt (Nat.zero_le _) (List.getElem?_eq_some_iff.1 hx).1
  obtain ⟨g, oo, rfl, hc⟩ := h2 i x hx
  exact ⟨g, oo, rfl, hF.cell (hS ⟨g, oo, none⟩ _ _ h1 hi) hc⟩
theorem ItIn.fr' {S : List Nat} {W W' : World} {o : It} (h : ItIn W o) (hF : Fr S W W') (hS : ∀ fa n fc, o.fv = .slice (some fa) n fc → 0 < n → fa.block ∉ S) : ItIn W' o := by
  rcases h with ⟨fb, fo, fc, h1, h2, h3⟩ | h
  · by_cases hn : 0 < o.fs.length
    · exact .inl ⟨fb, fo, fc, h1, Nat.lt_of_lt_of_le h2 hF.size, h3.fr hF (hS _ _ _ h1 hn)⟩
    · have h0 : o.fs = [] := List.length_eq_zero_iff.1 (by omega)
      exact .inr (.inr ⟨_, fc, by rw [h1, h0]; rfl, h0⟩)
  · exact .inr h
theorem RowAt.fr' {S : List Nat} {W W' : World} {ao : Option Addr} {xs : List Value} (h : RowAt W ao xs) (hF : Fr S W W') (hS : xs ≠ [] → ∀ a, ao = some a → a.block ∉ S) : RowAt W' ao xs := by
  intro j u hu
  obtain ⟨g, off, rfl, hc⟩ := h j u hu
  exact ⟨g, off, rfl, hF.cell (hS (fun e => by rw [e] at hu; simp at hu) ⟨g, off, none⟩ rfl) hc⟩
theorem flat4_ne {its : List (It × Int)} (h : flat4 its ≠ []) : its ≠ [] := fun e => h (by rw [e]; rfl)
theorem G4.fr {S : List Nat} {W W' : World} {lo : Option Addr} {its : List (It × Int)} (h : G4 W lo its) (hF : Fr S W W') (h1 : its ≠ [] → ∀ a, lo = some a → a.block ∉ S) (h2 : ∀ o ∈ its, ∀ fa n fc, o.1.fv = .slice (some fa) n fc → 0 < n → fa.block ∉ S) : G4 W' lo its :=
  ⟨h.row.fr' hF (fun hne => h1 (flat4_ne hne)), fun o ho => (h.ok o ho).fr hF (h2 o ho), fun o ho => (h.inn o ho).fr' hF (h2 o ho)⟩
theorem G4.fr0 {W W' : World} {lo : Option Addr} {its : List (It × Int)} (h : G4 W lo its) (hF : Fr [] W W') : G4 W' lo its := h.fr hF (fun _ _ _ => by simp) (fun _ _ _ _ _ _ _ => by simp)
theorem ItOwn.inn {W : World} {o : It} (h : ItOwn W o) : ItIn W o := by
  rcases h.1.2 with ⟨h0, hn⟩ | ⟨g, cap, cur, hv, -, hg, -, -, -⟩
  · exact .inr (.inl ⟨h0, List.length_eq_zero_iff.1 hn⟩)
  · refine .inl ⟨g, 0, cap, hv, lt_of_heap hg, fun j u hu => ?_⟩
    have hj : j < o.fs.length := by have := (List.getElem?_eq_some_iff.1 hu).1; simpa using this
    obtain ⟨g', cap', e, hc, -, -⟩ := row_at h.1 hj
    rw [hv] at e
    cases e
    rw [Lib.add_plain, Nat.zero_add, hc]
    exact hu
/-- the objects, the root and the hashes behind a Load -/
def OLoad (lim : Int) (os0 : List Ob) (r0 h0 : Int) (os : List Ob) (root n : Int) (os' : List Ob) (root' h' : Int) : Prop := (loadE lim os root n = 0 ∧ os' = os ∧ root' = root ∧ h' = n) ∨ (loadE lim os root n ≠ 0 ∧ os' = os0 ∧ root' = r0 ∧ h' = h0)
theorem OLoad.ex (lim : Int) (os0 : List Ob) (r0 h0 : Int) (os : List Ob) (root n : Int) : ∃ os' root' h', OLoad lim os0 r0 h0 os root n os' root' h' ∧ memLoad lim os0 r0 h0 os root n = absMem lim os' root' h' := by
  by_cases h : loadE lim os root n = 0
  · exact ⟨os, root, n, .inl ⟨h, rfl, rfl, rfl⟩, memLoad_ok h⟩
  · exact ⟨os0, r0, h0, .inr ⟨h, rfl, rfl, rfl⟩, memLoad_no h⟩
theorem OLoad.inv {lim : Int} {os0 : List Ob} {r0 h0 : Int} {os : List Ob} {root n : Int} {os' : List Ob} {root' h' : Int} (h : OLoad lim os0 r0 h0 os root n os' root' h') (hI : OInv lim os0 h0) (hB : ∀ o ∈ os, ObB o) : OInv lim os' h' := by
  rcases h with ⟨h, rfl, rfl, rfl⟩ | ⟨h, rfl, rfl, rfl⟩
  · obtain ⟨a1, a2, a3, a4⟩ := loadE_inv h
    refine ⟨hI.l1, hI.l2, a2, a3.1, by have := a3.2.1; omega, fun o ho => ?_, hB, a3⟩
    obtain ⟨i, hi⟩ := List.getElem?_of_mem ho
    have := a3.2.2 i o.2.1 (by rw [List.getElem?_map, hi]; rfl)
    exact ⟨this.1, this.2.1⟩
  · exact hI
section
variable {w0 W : World} {X : List (Nat × Obj)} {hb mb rb : Nat} {lim r0 h0 : Int} {os0 : List Ob} {l : List RO} {wv sv : Value}
end
theorem row_rowAt {W : World} {b size : Nat} {e : TypeId} {ao : Option Addr} {n cap : Nat} {xs : List Value} (h : W.ownsRow b e size (.slice ao n cap) n xs) : RowAt W ao xs := by
  intro j u hu
  have hj : j < xs.length := (List.getElem?_eq_some_iff.1 hu).1
  rcases h.2 with ⟨h0, hn⟩ | ⟨g, cp, cur, hv, rest⟩
  · have := h.1
    rw [hn] at this
    simp at this
    subst this
    simp at hj
  · cases hv
    have := h.cellAt j (by have := h.1; omega)
    refine ⟨g, 0, rfl, ?_⟩
    rw [Nat.zero_add]
    exact this.trans hu
end Go.Proofs.YtomcfjckhajhmabGreatDoor
