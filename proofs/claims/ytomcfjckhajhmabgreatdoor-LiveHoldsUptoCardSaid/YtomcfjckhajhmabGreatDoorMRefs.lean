/- The document's heap (tappetref02): its objects in memory; what its readers return. The document's heap: Used, Size, Class, Fetch; SetClass, Hash, Store, SetRoot; New. The document's heap: SetClass, Hash, Store, SetRoot. The document's heap: ref, Alloc. -/
import Derived.Test.YtomcfjckhajhmabGreatDoorMPlaces
namespace Go.Proofs.YtomcfjckhajhmabGreatDoor
open Go.RowKit

/-- an object: its block, its fields' slice; class, hash, fields, place -/
structure RO where
  b : Nat
  fv : Value
  cls : Int
  hash : Int
  fs : List Int
  pos : Nat
def RO.ptr (o : RO) : Value := .pointer (some ⟨o.b, 0, none⟩)
/-- two objects that share no memory -/
def RO.Apart (a b : RO) : Prop := a.b ≠ b.b ∧ ∀ k, a.fv.ownBlock = some k → b.fv.ownBlock ≠ some k
def RO.blocks (o : RO) : List Nat := o.b :: o.fv.ownBlock.toList
/-- the document's heap: its words, objects, root, how many hashes were given -/
structure RH where
  n : Int
  l : List RO
  root : Int
  last : Int
def rfoot (rb : Nat) (r : RH) (lv : Value) : List Nat := rb :: (lv.ownBlock.toList ++ r.l.flatMap RO.blocks)
theorem rfoot_b {rb : Nat} {r : RH} {lv : Value} {o : RO} (h : o ∈ r.l) : o.b ∈ rfoot rb r lv := by
  simp only [rfoot, List.mem_cons, List.mem_append, List.mem_flatMap]
  exact .inr (.inr ⟨o, h, by simp [RO.blocks]⟩)
theorem rfoot_f {rb : Nat} {r : RH} {lv : Value} {o : RO} (h : o ∈ r.l) {k : Nat} (hk : o.fv.ownBlock = some k) : k ∈ rfoot rb r lv := by
  simp only [rfoot, List.mem_cons, List.mem_append, List.mem_flatMap]
  exact .inr (.inr ⟨o, h, by simp [RO.blocks, hk]⟩)
/-- the object to which a word leads -/
def findR (l : List RO) (x : Int) : Option RO := if rfOk x then l.find? (fun o => decide ((o.pos : Int) = x / 2)) else none
def optPtr : Option RO → Value
  | none => .pointer none
  | some o => o.ptr
theorem findR_mem {l : List RO} {x : Int} {o : RO} (h : findR l x = some o) : o ∈ l := by
  unfold findR at h
  split at h
  · exact List.mem_of_find?_eq_some h
  · cases h
/-- may a word be? -/
def mayR (l : List RO) (x : Int) : Bool := decide (x = 0) || odd x || (findR l x).isSome
end Go.Proofs.YtomcfjckhajhmabGreatDoor
namespace Go.Proofs.YtomcfjckhajhmabGreatDoor
open Go.RowKit

/-- how many words are taken -/
def usedR (l : List RO) : Nat := match l.getLast? with | none => 1 | some o => o.pos + 3 + o.fs.length
/-- Returned v, and only draws. -/
def Drawn (v : Value) (w : World) (e : Ending) (w' : World) : Prop := e = .returned v ∧ ∃ m, w' = w.drewN m
/-- a field that is there -/
def fieldR (l : List RO) (x k : Int) : Option Int := match findR l x with | none => none | some o => if 0 ≤ k then o.fs[k.toNat]? else none
end Go.Proofs.YtomcfjckhajhmabGreatDoor
namespace Go.Proofs.YtomcfjckhajhmabGreatDoor
open Go.RowKit

theorem map_set_same {α β : Type} {l : List α} {i : Nat} {o o' : α} (f : α → β) (hi : l[i]? = some o) (hf : f o' = f o) : (l.set i o').map f = l.map f := by
  apply List.ext_getElem?
  intro j
  rw [List.getElem?_map, List.getElem?_map, List.getElem?_set]
  split
  · rename_i e
    subst e
    have hl := (List.getElem?_eq_some_iff.1 hi).1
    rw [if_pos hl, hi, Option.map_some, Option.map_some, hf]
  · rfl
theorem rfoot_set {rb : Nat} {r : RH} {lv : Value} {i : Nat} {o o' : RO} (hi : r.l[i]? = some o) (hb : o'.b = o.b) (hv : o'.fv = o.fv) : rfoot rb { r with l := r.l.set i o' } lv = rfoot rb r lv := by
  simp only [rfoot, List.flatMap]
  rw [map_set_same RO.blocks hi (by simp [RO.blocks, hb, hv])]
end Go.Proofs.YtomcfjckhajhmabGreatDoor
namespace Go.Proofs.YtomcfjckhajhmabGreatDoor
open Go.RowKit

end Go.Proofs.YtomcfjckhajhmabGreatDoor
