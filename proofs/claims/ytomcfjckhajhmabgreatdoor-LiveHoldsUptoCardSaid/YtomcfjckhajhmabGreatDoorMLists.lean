/- Lists of objects in rows (of package heap's and of the document's); Theirs and Mine turn one into the other; the document's Objects; chosen; SameWords. Mine; the document's Objects; chosen; SameWords. SameObjects; copied. copied; the document's Dump. The document's Dump. needed; chosen. The document's hashed. checkHashes: its set of hashes. -/
import Derived.Test.YtomcfjckhajhmabGreatDoorMRefs
import Derived.Test.YtomcfjckhajhmabGreatDoorMRanges
import Derived.Deep.RegionHeld3
import Derived.Deep.AppendLies
import Derived.StillTailTactics
import Derived.Maps.OwnSet
import Derived.WalkArith
namespace Go.Proofs.YtomcfjckhajhmabGreatDoor
open Go.RowKit

/-- an object in a list: class, hash, the slice of its fields, the fields -/
structure It where
  cls : Int
  hash : Int
  fv : Value
  fs : List Int
/-- the cells of package heap's objects -/
def flat3 (l : List It) : List Value := l.flatMap fun o => [.int .u64 o.cls, .int .i64 o.hash, o.fv]
/-- the cells of the document's objects, at places -/
def flat4 (l : List (It × Int)) : List Value := l.flatMap fun o => [.int .u64 o.1.cls, .int .i64 o.1.hash, o.1.fv, .int .i64 o.2]
def noPlace (l : List It) : List (It × Int) := l.map fun o => (o, 0)
theorem flat3_len (l : List It) : (flat3 l).length = l.length * 3 := by
  induction l with
  | nil => rfl
  | cons a l ih => simp only [flat3, List.flatMap_cons, List.length_append, List.length_cons, List.length_nil] at ih ⊢; omega
theorem flat4_len (l : List (It × Int)) : (flat4 l).length = l.length * 4 := by
  induction l with
  | nil => rfl
  | cons a l ih => simp only [flat4, List.flatMap_cons, List.length_append, List.length_cons, List.length_nil] at ih ⊢; omega
theorem flat3_snoc (l : List It) (o : It) : flat3 (l ++ [o]) = flat3 l ++ [.int .u64 o.cls, .int .i64 o.hash, o.fv] := by simp [flat3]
theorem flat4_snoc (l : List (It × Int)) (o : It × Int) : flat4 (l ++ [o]) = flat4 l ++ [.int .u64 o.1.cls, .int .i64 o.1.hash, o.1.fv, .int .i64 o.2] := by simp [flat4]
theorem noPlace_snoc (l : List It) (o : It) : noPlace (l ++ [o]) = noPlace l ++ [(o, 0)] := by simp [noPlace]
theorem flat3_at {l : List It} {i : Nat} {o : It} (h : l[i]? = some o) : (flat3 l)[i * 3]? = some (.int .u64 o.cls) ∧ (flat3 l)[i * 3 + 1]? = some (.int .i64 o.hash) ∧ (flat3 l)[i * 3 + 2]? = some o.fv := by
  induction l generalizing i with
  | nil => cases h
  | cons a l ih =>
    have e : flat3 (a :: l) = [Value.int .u64 a.cls, .int .i64 a.hash, a.fv] ++ flat3 l := by simp [flat3]
    cases i with
    | zero => cases h; rw [e]; exact ⟨rfl, rfl, rfl⟩
    | succ i =>
      have := ih (i := i) (by simpa using h)
      rw [e]
      rw [List.getElem?_append_right (by simp; omega), List.getElem?_append_right (by simp; omega), List.getElem?_append_right (by simp; omega)]
      simp only [List.length_cons, List.length_nil]
      rw [show (i + 1) * 3 - (0 + 1 + 1 + 1) = i * 3 by omega, show (i + 1) * 3 + 1 - (0 + 1 + 1 + 1) = i * 3 + 1 by omega, show (i + 1) * 3 + 2 - (0 + 1 + 1 + 1) = i * 3 + 2 by omega]
      exact this
theorem flat4_at {l : List (It × Int)} {i : Nat} {o : It × Int} (h : l[i]? = some o) : (flat4 l)[i * 4]? = some (.int .u64 o.1.cls) ∧ (flat4 l)[i * 4 + 1]? = some (.int .i64 o.1.hash) ∧ (flat4 l)[i * 4 + 2]? = some o.1.fv ∧ (flat4 l)[i * 4 + 3]? = some (.int .i64 o.2) := by
  induction l generalizing i with
  | nil => cases h
  | cons a l ih =>
    have e : flat4 (a :: l) = [Value.int .u64 a.1.cls, .int .i64 a.1.hash, a.1.fv, .int .i64 a.2] ++ flat4 l := by simp [flat4]
    cases i with
    | zero => cases h; rw [e]; exact ⟨rfl, rfl, rfl, rfl⟩
    | succ i =>
      have := ih (i := i) (by simpa using h)
      rw [e]
      rw [List.getElem?_append_right (by simp; omega), List.getElem?_append_right (by simp; omega), List.getElem?_append_right (by simp; omega), List.getElem?_append_right (by simp; omega)]
      simp only [List.length_cons, List.length_nil]
      rw [show (i + 1) * 4 - (0 + 1 + 1 + 1 + 1) = i * 4 by omega, show (i + 1) * 4 + 1 - (0 + 1 + 1 + 1 + 1) = i * 4 + 1 by omega, show (i + 1) * 4 + 2 - (0 + 1 + 1 + 1 + 1) = i * 4 + 2 by omega, show (i + 1) * 4 + 3 - (0 + 1 + 1 + 1 + 1) = i * 4 + 3 by omega]
      exact this
/-- these values lie from an address on -/
def RowAt (w : World) (ao : Option Addr) (xs : List Value) : Prop := ∀ j u, xs[j]? = some u → ∃ g off, ao = some ⟨g, off, none⟩ ∧ w.cell? ⟨g, off + j, none⟩ = some u
theorem RowAt.fr {S : List Nat} {w w' : World} {ao : Option Addr} {xs : List Value} (h : RowAt w ao xs) (hF : Fr S w w') (hS : ∀ a, ao = some a → a.block ∉ S) : RowAt w' ao xs := by
  intro j u hu
  obtain ⟨g, off, rfl, hc⟩ := h j u hu
  exact ⟨g, off, rfl, hF.cell (hS ⟨g, off, none⟩ rfl) hc⟩
/-- a row in growth, made since w -/
structure Grows (w : World) (e : TypeId) (size k : Nat) (xs : List Value) (v : Value) (W : World) : Prop where
  row : W.ownsRow 0 e size v k xs
  fr : Fr [] w W
  new : ∀ b, v.ownBlock = some b → w.heap.size ≤ b
theorem Grows.step {w W W1 w1 : World} {e : TypeId} {size k j : Nat} {xs news : List Value} {v v' : Value} (h : Grows w e size k xs v W) (hW : Fr [] W W1) (ho : w1.ownsRow 0 e size v' (k + j) (xs ++ news)) (hg : W1.grownBy w1 v.ownBlock) (hf : v'.ownBlock = v.ownBlock ∨ v'.ownBlock = some W1.heap.size) : Grows w e size (k + j) (xs ++ news) v' w1 := by
  refine ⟨ho, (h.fr.trans hW).grown hg (fun b hb hl => by have := h.new b hb; omega), fun b hb => ?_⟩
  rcases hf with hf | hf
  · exact h.new b (hf ▸ hb)
  · have e := hf.symm.trans hb
    cases e
    exact Nat.le_trans h.fr.size hW.size
theorem row_shape' {w : World} {b size : Nat} {e : TypeId} {v : Value} {n : Nat} {xs : List Value} (h : w.ownsRow b e size v n xs) : ∃ ao cap, v = .slice ao n cap := by
  rcases h.2 with ⟨rfl, rfl⟩ | ⟨g, cap, cur, rfl, _⟩
  · exact ⟨_, _, rfl⟩
  · exact ⟨_, _, rfl⟩
end Go.Proofs.YtomcfjckhajhmabGreatDoor
namespace Go.Proofs.YtomcfjckhajhmabGreatDoor
open Go.RowKit

/-- the references of the document's objects -/
def refsR (l : List RO) : List Value := l.map fun o => Value.int .u64 (2 * (o.pos : Int))
end Go.Proofs.YtomcfjckhajhmabGreatDoor
namespace Go.Proofs.YtomcfjckhajhmabGreatDoor
open Go.RowKit

/-- what two objects share when they are the same -/
def It.key (o : It) : Int × Int × List Int := (o.cls, o.hash, o.fs)
/-- the fields of an object in a list lie where its slice says -/
def ItOk (w : World) (o : It) : Prop := ∃ fa fc, o.fv = .slice fa o.fs.length fc ∧ WordsAt w fa o.fs ∧ o.fs.length ≤ 17592186044416
theorem WordsAt.drewN {w : World} {ao : Option Addr} {xs : List Int} (h : WordsAt w ao xs) (n : Nat) : WordsAt (w.drewN n) ao xs := h.fr ((Fr.refl [] w).drewN n) (fun _ _ => by simp)
end Go.Proofs.YtomcfjckhajhmabGreatDoor
namespace Go.Proofs.YtomcfjckhajhmabGreatDoor
open Go.RowKit

end Go.Proofs.YtomcfjckhajhmabGreatDoor
namespace Go.Proofs.YtomcfjckhajhmabGreatDoor
open Go.RowKit

/-- an object in a list whose fields are a row of their own -/
def ItOwn (w : World) (o : It) : Prop := w.ownsRow 0 29 1 o.fv o.fs.length (o.fs.map (Value.int .u64)) ∧ o.fs.length ≤ 65536
theorem ItOwn.ok {w : World} {o : It} (h : ItOwn w o) : ItOk w o := by
  obtain ⟨fa, fc, hv⟩ := row_shape h.1
  refine ⟨fa, fc, hv, fun i x hx => ?_, by have := h.2; omega⟩
  have hi : i < o.fs.length := (List.getElem?_eq_some_iff.1 hx).1
  obtain ⟨g, cap, e, hc, -, -⟩ := row_at h.1 hi
  rw [hv] at e
  cases e
  rw [List.getElem?_map, hx] at hc
  exact ⟨g, 0, rfl, by simpa using hc⟩
theorem ItOwn.fr {S : List Nat} {w w' : World} {o : It} (h : ItOwn w o) (hF : Fr S w w') (hS : ∀ k, o.fv.ownBlock = some k → k ∉ S) : ItOwn w' o := ⟨hF.row h.1 hS, h.2⟩
/-- behind an append to a row of another type -/
theorem ItOwn.grown {w w' : World} {o : It} {e : TypeId} {size n : Nat} {v : Value} {xs : List Value} (h : ItOwn w o) (hr : w.ownsRow 0 e size v n xs) (hg : w.grownBy w' v.ownBlock) (he : 29 ≠ e) : ItOwn w' o := by
  refine h.fr (S := v.ownBlock.toList) ((Fr.refl _ _).grown hg (fun g hgv _ => by simp [hgv])) (fun k hk hm => ?_)
  obtain ⟨c, hc⟩ := row_heap h.1 hk
  obtain ⟨c', hc'⟩ := row_cells hr (g := k) (by simpa using hm)
  exact tag_ne hc hc' he rfl
/-- the abstract objects of a list, with their places -/
def keysR (l : List RO) : List ((Int × Int × List Int) × Int) := l.map fun o => ((o.cls, o.hash, o.fs), (o.pos : Int))
def keys4 (l : List (It × Int)) : List ((Int × Int × List Int) × Int) := l.map fun o => (o.1.key, o.2)
end Go.Proofs.YtomcfjckhajhmabGreatDoor
namespace Go.Proofs.YtomcfjckhajhmabGreatDoor
open Go.RowKit

/-- how many words the objects of a list take -/
def wordsOf : List It → Nat
  | [] => 0
  | o :: l => 3 + o.fs.length + wordsOf l
theorem wordsOf_snoc (l : List It) (o : It) : wordsOf (l ++ [o]) = wordsOf l + (3 + o.fs.length) := by
  induction l with
  | nil => simp [wordsOf]
  | cons a l ih => simp only [List.cons_append, wordsOf, ih]; omega
theorem wordsOf_le {l : List It} (h : ∀ o ∈ l, o.fs.length ≤ 512) : wordsOf l ≤ l.length * 515 := by
  induction l with
  | nil => simp [wordsOf]
  | cons a l ih =>
    have h1 := h a (by simp)
    have h2 := ih (fun o ho => h o (by simp [ho]))
    simp only [wordsOf, List.length_cons]
    omega
/-- a word of a list, or the word itself -/
def chosenI (l : List Int) (x i : Int) : Int := if 0 < i ∧ l ≠ [] then l.getD (i.toNat % l.length) 0 else x
end Go.Proofs.YtomcfjckhajhmabGreatDoor
namespace Go.Proofs.YtomcfjckhajhmabGreatDoor
open Go.RowKit

/-- the hash at a place of a list may be -/
def okAt (l : List Int) (n : Int) (i : Nat) : Prop := ∀ x, l[i]? = some x → 0 ≤ x ∧ x ≤ n ∧ ∀ k, k < i → 0 < x → l[k]? ≠ some x
/-- the hashes of a list may be, if so many were given -/
def HashOk (l : List Int) (n : Int) : Prop := 0 ≤ n ∧ n < 1099511627776 ∧ ∀ i, okAt l n i
/-- Returned whether p holds, and only draws. -/
def Says (p : Prop) (w : World) (e : Ending) (w' : World) : Prop := ∃ b : Bool, e = .returned (.bool b) ∧ (b = true ↔ p) ∧ ∃ m, w' = w.drewN m
end Go.Proofs.YtomcfjckhajhmabGreatDoor
namespace Go.Proofs.YtomcfjckhajhmabGreatDoor
open Go.RowKit

theorem keyedInt : Maps.Keyed Tryz.prog 3 := Maps.int_keyed Tryz.underlying3
/-- the set holds the hashes of the first k objects -/
def Takes (L : List Int) (k : Nat) (b : Nat) (W : World) : Prop := ∃ D : DataW Unit, W.ownsMap Tryz.prog 3 unitElem b k D ∧ ∀ x : Int, x ≠ 0 → (Maps.has D (.int .i64 x) = true ↔ ∃ q, q < k ∧ L[q]? = some x)
end Go.Proofs.YtomcfjckhajhmabGreatDoor
