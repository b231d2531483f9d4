/- strconv.FormatUint at base 10 and strconv.Itoa: each returns the number's numeral; memory that was there stays as it was. heap.invalid, invalidWord, full: each returns a fault that wraps its number; memory that was there stays as it was. What package word's IsInt, Ref and FromRef return. A heap's memory as lists of words and marks; what the memory's readers (start, find, field, size, hash) return. What the memory's find, size, hash and field return. What the memory's check returns: nothing where all words are valid, else a fault. What the memory's set and assignHash do. Whether the memory takes one more object. -/
import Derived.Test.YtomcfjckhajhmabGreatDoorMBase
import Derived.Lib.Walk
import Derived.Lib.ItoaMem
import Derived.WalkKit
import Derived.BigCall
import Derived.BigGuard
import Derived.Laws.BitsAllLaws
import Derived.RegionTactic
namespace Go.Proofs.YtomcfjckhajhmabGreatDoor
open Go.RowKit Go.Sort Go.Lib

end Go.Proofs.YtomcfjckhajhmabGreatDoor
namespace Go.Proofs.YtomcfjckhajhmabGreatDoor
open Go.RowKit Go.Sort Go.Lib

/-- Returned a short text; only new memory. -/
def Texts (w : World) (e : Ending) (w' : World) : Prop := ∃ t : ByteArray, e = .returned (.string t) ∧ t.size ≤ 21 ∧ Fr [] w w'
end Go.Proofs.YtomcfjckhajhmabGreatDoor
namespace Go.Proofs.YtomcfjckhajhmabGreatDoor
open Go.RowKit

def odd (w : Int) : Bool := decide (w % 2 = 1)
def rfOk (w : Int) : Bool := decide (w % 2 = 0 ∧ 1 ≤ w / 2 ∧ w / 2 ≤ 2147483647)
theorem odd_iff (n : Int) : odd n = true ↔ n % 2 = 1 := by unfold odd; simp
theorem odd_not (n : Int) : odd n = false ↔ n % 2 = 0 := by unfold odd; simp; omega
theorem rfOk_iff (n : Int) : rfOk n = true ↔ (n % 2 = 0 ∧ 1 ≤ n / 2 ∧ n / 2 ≤ 2147483647) := by unfold rfOk; simp
theorem bits_and1_u64 (n : Int) (h1 : 0 ≤ n) (h2 : n ≤ 18446744073709551615) : bits .and .u64 n 1 = n % 2 := by
  rw [u64_and n 1 h1 (by omega) (by omega) (by omega)]
  have e : (1 : Int).toNat = 1 := rfl
  rw [e, nat_mask1]; omega
theorem wrap_u64_eq (n : Int) : IntKind.u64.wrap n = n % 18446744073709551616 := IntKind.wrap_u64 n
theorem wordIsInt (n : Int) (w : World) (h1 : 0 ≤ n) (h2 : n ≤ 18446744073709551615) : Calls Tryz.prog 109 #[.int .u64 n] w (Gives (.bool (odd n)) w) := by
  go_enter Tryz.func109, Tryz.ntmps109
  go_wp2
  go_ret
  exact ⟨ret1 (vb (by rw [bits_and1_u64 n h1 h2]; unfold odd; rfl)), rfl⟩
end Go.Proofs.YtomcfjckhajhmabGreatDoor
namespace Go.Proofs.YtomcfjckhajhmabGreatDoor
open Go.RowKit Go.Sort Go.Lib

/-! rows -/
theorem row_shape {w : World} {b : Nat} {e : TypeId} {v : Value} {n : Nat} {xs : List Value} (h : w.ownsRow b e 1 v n xs) : ∃ ao cap, v = .slice ao n cap := by
  rcases h.2 with ⟨rfl, rfl⟩ | ⟨g, cap, cur, rfl, _⟩
  · exact ⟨_, _, rfl⟩
  · exact ⟨_, _, rfl⟩
theorem row_at {w : World} {b : Nat} {e : TypeId} {v : Value} {n : Nat} {xs : List Value} (h : w.ownsRow b e 1 v n xs) {i : Nat} (hi : i < n) : ∃ g cap, v = .slice (some ⟨g, 0, none⟩) n cap ∧ w.cell? ⟨g, i, none⟩ = xs[i]? ∧ w.frozen? ⟨g, i, none⟩ = false ∧ n ≤ cap := by
  rcases h.2 with ⟨rfl, rfl⟩ | ⟨g, cap, cur, rfl, hb, hg, hn, hr⟩
  · omega
  · exact ⟨g, cap, rfl, h.cellAt i (by omega), h.frozenAt i, hn⟩

/-- what a memory holds: its limit, its words, for each of them whether an object begins there, the root, how many hashes were given -/
structure Mem where
  lim : Int
  W : List Int
  M : List Bool
  root : Int
  hashes : Int

/-- does a word lead to an object? -/
def stB (M : List Bool) (x : Int) : Bool := rfOk x && M[(x / 2).toNat]?.getD false
theorem stB_at {M : List Bool} {x : Int} (h : stB M x = true) : ∃ k : Nat, x = 2 * k ∧ 1 ≤ k ∧ k ≤ 2147483647 ∧ M[k]? = some true := by
  unfold stB at h
  simp only [Bool.and_eq_true] at h
  obtain ⟨h1, h2⟩ := h
  rw [rfOk_iff] at h1
  refine ⟨(x / 2).toNat, by omega, by omega, by omega, ?_⟩
  cases hm : M[(x / 2).toNat]? with
  | none => rw [hm] at h2; cases h2
  | some b => rw [hm] at h2; simp at h2; rw [h2]
theorem stB_mk {M : List Bool} {k : Nat} (h1 : 1 ≤ k) (h2 : k ≤ 2147483647) (h : M[k]? = some true) : stB M (2 * k) = true := by
  unfold stB
  have e : (2 * (k : Int) / 2).toNat = k := by omega
  rw [e, h]
  simp only [Option.getD_some, Bool.and_true]
  rw [rfOk_iff]; omega
theorem stB_no {M : List Bool} {x : Int} (h : stB M x = false) : rfOk x = false ∨ ∃ k : Nat, x = 2 * k ∧ 1 ≤ k ∧ k ≤ 2147483647 ∧ (M.length ≤ k ∨ M[k]? = some false) := by
  cases hr : rfOk x
  · exact .inl rfl
  · right
    unfold stB at h
    rw [hr] at h
    rw [rfOk_iff] at hr
    refine ⟨(x / 2).toNat, by omega, by omega, by omega, ?_⟩
    simp only [Bool.true_and] at h
    cases hm : M[(x / 2).toNat]? with
    | none => left; exact List.getElem?_eq_none_iff.1 hm
    | some b => rw [hm] at h; simp at h; right; rw [h]

end Go.Proofs.YtomcfjckhajhmabGreatDoor
namespace Go.Proofs.YtomcfjckhajhmabGreatDoor
open Go.RowKit Go.Sort Go.Lib

end Go.Proofs.YtomcfjckhajhmabGreatDoor
namespace Go.Proofs.YtomcfjckhajhmabGreatDoor
open Go.RowKit

/-- may a word be? -/
def okB (M : List Bool) (x : Int) : Bool := stB M x || decide (x = 0) || odd x
/-- the words xs lie from an address on -/
def WordsAt (w : World) (ao : Option Addr) (xs : List Int) : Prop := ∀ i x, xs[i]? = some x → ∃ g o, ao = some ⟨g, o, none⟩ ∧ w.cell? ⟨g, o + i, none⟩ = some (.int .u64 x)
theorem WordsAt.fr {S : List Nat} {w w' : World} {ao : Option Addr} {xs : List Int} (h : WordsAt w ao xs) (hF : Fr S w w') (hS : ∀ a, ao = some a → a.block ∉ S) : WordsAt w' ao xs := by
  intro i x hx
  obtain ⟨g, o, rfl, hc⟩ := h i x hx
  exact ⟨g, o, rfl, hF.cell (hS ⟨g, o, none⟩ rfl) hc⟩

end Go.Proofs.YtomcfjckhajhmabGreatDoor
namespace Go.Proofs.YtomcfjckhajhmabGreatDoor
open Go.RowKit

/-- the blocks of a memory -/
def foot (mb : Nat) (wv sv : Value) : List Nat := mb :: (wv.ownBlock.toList ++ sv.ownBlock.toList)
theorem foot_mb {mb : Nat} {wv sv : Value} : mb ∈ foot mb wv sv := by simp [foot]
theorem foot_w {mb g : Nat} {wv sv : Value} (h : wv.ownBlock = some g) : g ∈ foot mb wv sv := by simp [foot, h]
theorem foot_s {mb g : Nat} {wv sv : Value} (h : sv.ownBlock = some g) : g ∈ foot mb wv sv := by simp [foot, h]
theorem row_heap {w : World} {b : Nat} {e : TypeId} {v : Value} {n : Nat} {xs : List Value} (h : w.ownsRow b e 1 v n xs) {g : Nat} (hg : v.ownBlock = some g) : ∃ cur, w.heap[g]? = some (.cells cur e (0, 0)) := by
  rcases h.2 with ⟨rfl, rfl⟩ | ⟨g', cap, cur, rfl, hb, hh, _⟩
  · cases hg
  · cases hg; exact ⟨cur, hh⟩
/-! assignHash -/
end Go.Proofs.YtomcfjckhajhmabGreatDoor
namespace Go.Proofs.YtomcfjckhajhmabGreatDoor
open Go.RowKit

end Go.Proofs.YtomcfjckhajhmabGreatDoor
