/- CodeFields: a method's object, field by field. -/
import Derived.Test.YtjghgambieflaaaGreatDoorMCodeE
import Derived.Test.YtjghgambieflaaaGreatDoorMCodePacksWalk
namespace Go.Proofs.YtjghgambieflaaaGreatDoor
open Go.RowKit

theorem fs_lits (m : Mth) {k : Nat} (h : k < m.lits.length) : m.fs[5 + k]? = m.lits[k]? := by
  unfold Mth.fs
  rw [List.append_assoc, List.getElem?_append_right (by simp), List.getElem?_append_left (by simp; omega)]
  congr 1
  simp
theorem fs_code (m : Mth) {k : Nat} {i : Ins} (h : m.code[k]? = some i) : m.fs[5 + m.lits.length + k]? = some (wordOf i.num) := by
  unfold Mth.fs
  rw [List.append_assoc, List.getElem?_append_right (by simp; omega), List.getElem?_append_right (by simp; omega)]
  rw [show 5 + m.lits.length + k - [wordOf m.args, wordOf m.temps, wordOf m.stack, wordOf m.prim, wordOf m.lits.length].length - m.lits.length = k by simp; omega]
  rw [List.getElem?_map, h]
  rfl
/-- Write into a heap without objects: OK, or 1 where a literal leads nowhere, or 4 -/
theorem writeF_new (m : Mth) : (m.ok = false ∧ writeF 4096 [] 0 m = (0, 4, [])) ∨ (m.ok = true ∧ (writeF 4096 [] 0 m).2.1 = 1) ∨ (m.ok = true ∧ (writeF 4096 [] 0 m).2.1 = 0) := by
  cases h : m.ok
  · left
    refine ⟨rfl, ?_⟩
    unfold writeF
    rw [if_pos h]
  · right
    have hd := m.head_iff.1 (m.ok_iff.1 h).1
    have hfl := m.fs_len
    have ha : allocF 4096 [] 0 m.fs.length 1 = (2 * (endOf [] : Int), 0, [] ++ [(0, 0, List.replicate (m.fs.length : Int).toNat 1)]) := by
      rcases allocF_cases 4096 [] 0 m.fs.length 1 with ⟨h, -⟩ | ⟨-, h1⟩ | ⟨-, -, -, -, -, h1⟩
      · exact h
      · have e1 : okB (marksOf []) 0 = true := by decide
        have e2 : okB (marksOf []) 1 = true := by decide
        rw [e1, e2] at h1
        simp at h1
        omega
      · have : endOf [] = 1 := by decide
        rw [this] at h1
        omega
    rw [writeF_stores h ha]
    simp only
    rcases storesI_01 [].length m.fs ([] ++ [(0, 0, List.replicate (m.fs.length : Int).toNat 1)]) 0 with h1 | h1
    · exact .inr ⟨trivial, h1⟩
    · exact .inl ⟨trivial, h1⟩
end Go.Proofs.YtjghgambieflaaaGreatDoor
