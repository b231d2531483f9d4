/- What the reader of an image does: number, readNumbers. -/
import Derived.Test.YtomcfjckhajhmabGreatDoorMImgA
import Derived.Test.YtomcfjckhajhmabGreatDoorMLists
import Derived.Test.YtomcfjckhajhmabGreatDoorMLoading
import Derived.Test.YtomcfjckhajhmabGreatDoorMCodeA
namespace Go.Proofs.YtomcfjckhajhmabGreatDoor
open Go.RowKit

/-- bytes that lie in a row -/
def BytesAt (w : World) (ao : Option Addr) (bs : List Int) : Prop := ∀ i x, bs[i]? = some x → ∃ g o, ao = some ⟨g, o, none⟩ ∧ w.cell? ⟨g, o + i, none⟩ = some (.int .u8 x)
theorem BytesAt.fr {S : List Nat} {w w' : World} {ao : Option Addr} {bs : List Int} (h : BytesAt w ao bs) (hF : Fr S w w') (hS : ∀ a, ao = some a → a.block ∉ S) : BytesAt w' ao bs := by
  intro i x hx
  obtain ⟨g, o, rfl, hc⟩ := h i x hx
  exact ⟨g, o, rfl, hF.cell (hS ⟨g, o, none⟩ rfl) hc⟩
theorem BytesAt.drop {w : World} {g o : Nat} {bs : List Int} (h : BytesAt w (some ⟨g, o, none⟩) bs) (k : Nat) : BytesAt w (some ⟨g, o + k, none⟩) (bs.drop k) := by
  intro i x hx
  rw [List.getElem?_drop] at hx
  obtain ⟨g', o', e, hc⟩ := h _ x hx
  cases e
  exact ⟨g, o + k, rfl, by rw [Nat.add_assoc]; exact hc⟩
/-- so many bytes of a number -/
def part (bs : List Int) : Nat → Int
  | 0 => 0
  | k + 1 => part bs k + bs.getD k 0 * 2 ^ (8 * k)
theorem getD_B {bs : List Int} (h : ∀ x ∈ bs, B x) (k : Nat) : B (bs.getD k 0) := by
  rw [List.getD_eq_getElem?_getD]
  cases hk : bs[k]? with
  | none => exact ⟨Int.le_refl _, by decide⟩
  | some v => exact h v (List.mem_of_getElem? hk)
theorem part_nat {bs : List Int} (h : ∀ x ∈ bs, B x) : ∀ k, ∃ p : Nat, part bs k = (p : Int) ∧ p < 2 ^ (8 * k)
  | 0 => ⟨0, rfl, by decide⟩
  | k + 1 => by
    obtain ⟨p, h1, h2⟩ := part_nat h k
    obtain ⟨b1, b2⟩ := getD_B h k
    obtain ⟨b, hb⟩ : ∃ b : Nat, bs.getD k 0 = (b : Int) := ⟨(bs.getD k 0).toNat, by omega⟩
    refine ⟨p + b * 2 ^ (8 * k), ?_, ?_⟩
    · rw [part, h1, hb]; simp
    · have h3 : b ≤ 255 := by omega
      have h4 : b * 2 ^ (8 * k) ≤ 255 * 2 ^ (8 * k) := Nat.mul_le_mul_right _ h3
      rw [show 8 * (k + 1) = 8 * k + 8 by omega, Nat.pow_add]
      omega
theorem or_u64_nat (a b : Nat) (ha : a < 2 ^ 64) (hb : b < 2 ^ 64) : bits .or .u64 (a : Int) (b : Int) = ((a ||| b : Nat) : Int) := by
  show IntKind.u64.wrap ((BitVec.ofInt 64 a ||| BitVec.ofInt 64 b).toNat : Int) = _
  rw [BitVec.toNat_or, uns_toNat, uns_toNat]
  have e1 : uns (a : Int) = a := by unfold uns; omega
  have e2 : uns (b : Int) = b := by unfold uns; omega
  rw [e1, e2]
  have hlt : a ||| b < 2 ^ 64 := Nat.or_lt_two_pow ha hb
  rw [IntKind.wrap_u64]
  omega
theorem part_step {bs : List Int} (h : ∀ x ∈ bs, B x) {k : Nat} (hk : k < 8) {x : Int} (hx : bs[k]? = some x) : bits .or .u64 (part bs k) (IntKind.u64.wrap (x * 2 ^ (8 * k))) = part bs (k + 1) := by
  obtain ⟨p, h1, h2⟩ := part_nat h k
  obtain ⟨b1, b2⟩ := h x (List.mem_of_getElem? hx)
  obtain ⟨b, rfl⟩ : ∃ b : Nat, x = (b : Int) := ⟨x.toNat, by omega⟩
  have hg : bs.getD k 0 = (b : Int) := by rw [List.getD_eq_getElem?_getD, hx]; rfl
  have h3 : b ≤ 255 := by omega
  have h5 : 2 ^ (8 * k) ≤ 2 ^ 56 := Nat.pow_le_pow_right (by decide) (by omega)
  have h4 : b * 2 ^ (8 * k) ≤ 255 * 2 ^ 56 := Nat.mul_le_mul h3 h5
  have e : ((b : Int) * 2 ^ (8 * k)) = ((b * 2 ^ (8 * k) : Nat) : Int) := by simp
  rw [part, hg, e, h1, IntKind.wrap_u64, Int.emod_eq_of_lt (by omega) (by omega), or_u64_nat _ _ (Nat.lt_of_lt_of_le h2 (by omega)) (by omega), or_shift b p (8 * k) h2]
  simp
  omega
theorem part_all (bs : List Int) : part bs 8 = numB bs := by
  simp only [part, numB, n8]
  simp
  omega
end Go.Proofs.YtomcfjckhajhmabGreatDoor
