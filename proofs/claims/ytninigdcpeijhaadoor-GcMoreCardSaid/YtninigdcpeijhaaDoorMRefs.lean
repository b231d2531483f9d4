/- The document's heap (tappetref02): its objects in memory; what its readers return. The document's heap: Used, Size, Class, Fetch; SetClass, Hash, Store, SetRoot; New. The document's heap: SetClass, Hash, Store, SetRoot. The document's heap: ref, Alloc. -/
import Derived.Test.YtninigdcpeijhaaDoorMPlaces
namespace Go.Proofs.YtninigdcpeijhaaDoor
open Go.RowKit

/-- an object: its block, its fields' slice; class, hash, fields, place -/
structure RO where
  b : Nat
  fv : Value
  cls : Int
  hash : Int
  fs : List Int
  pos : Nat
def RO.ptr (o : RO) : Value := .pointer (some ⟨o.b, 0, none⟩)
structure RO.At (o : RO) (w : World) : Prop where
  cells : w.heap[o.b]? = some (.cells #[.int .u64 o.cls, .int .i64 o.hash, o.fv, .int .i64 o.pos] 80 (0, 0))
  row : w.ownsRow 0 28 1 o.fv o.fs.length (o.fs.map (Value.int .u64))
/-- two objects that share no memory -/
def RO.Apart (a b : RO) : Prop := a.b ≠ b.b ∧ ∀ k, a.fv.ownBlock = some k → b.fv.ownBlock ≠ some k
def RO.blocks (o : RO) : List Nat := o.b :: o.fv.ownBlock.toList
/-- the document's heap: its words, objects, root, how many hashes were given -/
structure RH where
  n : Int
  l : List RO
  root : Int
  last : Int
def rfoot (rb : Nat) (r : RH) (lv : Value) : List Nat := rb :: (lv.ownBlock.toList ++ r.l.flatMap RO.blocks)
theorem rfoot_b {rb : Nat} {r : RH} {lv : Value} {o : RO} (h : o ∈ r.l) : o.b ∈ rfoot rb r lv := by
  simp only [rfoot, List.mem_cons, List.mem_append, List.mem_flatMap]
  exact .inr (.inr ⟨o, h, by simp [RO.blocks]⟩)
theorem rfoot_f {rb : Nat} {r : RH} {lv : Value} {o : RO} (h : o ∈ r.l) {k : Nat} (hk : o.fv.ownBlock = some k) : k ∈ rfoot rb r lv := by
  simp only [rfoot, List.mem_cons, List.mem_append, List.mem_flatMap]
  exact .inr (.inr ⟨o, h, by simp [RO.blocks, hk]⟩)
theorem RO.At.fr {S : List Nat} {w w' : World} {o : RO} (h : o.At w) (hF : Fr S w w') (h1 : o.b ∉ S) (h2 : ∀ k, o.fv.ownBlock = some k → k ∉ S) : o.At w' := ⟨hF.heap h1 h.cells, hF.row h.row h2⟩
/-- the object to which a word leads -/
def findR (l : List RO) (x : Int) : Option RO := if rfOk x then l.find? (fun o => decide ((o.pos : Int) = x / 2)) else none
def optPtr : Option RO → Value
  | none => .pointer none
  | some o => o.ptr
theorem findR_mem {l : List RO} {x : Int} {o : RO} (h : findR l x = some o) : o ∈ l := by
  unfold findR at h
  split at h
  · exact List.mem_of_find?_eq_some h
  · cases h
/-- may a word be? -/
def mayR (l : List RO) (x : Int) : Bool := decide (x = 0) || odd x || (findR l x).isSome
end Go.Proofs.YtninigdcpeijhaaDoor
namespace Go.Proofs.YtninigdcpeijhaaDoor
open Go.RowKit

/-- how many words are taken -/
def usedR (l : List RO) : Nat := match l.getLast? with | none => 1 | some o => o.pos + 3 + o.fs.length
/-- Returned v, and only draws. -/
def Drawn (v : Value) (w : World) (e : Ending) (w' : World) : Prop := e = .returned v ∧ ∃ m, w' = w.drewN m
/-- a field that is there -/
def fieldR (l : List RO) (x k : Int) : Option Int := match findR l x with | none => none | some o => if 0 ≤ k then o.fs[k.toNat]? else none
end Go.Proofs.YtninigdcpeijhaaDoor
namespace Go.Proofs.YtninigdcpeijhaaDoor
open Go.RowKit

theorem map_set_same {α β : Type} {l : List α} {i : Nat} {o o' : α} (f : α → β) (hi : l[i]? = some o) (hf : f o' = f o) : (l.set i o').map f = l.map f := by
  apply List.ext_getElem?
  intro j
  rw [List.getElem?_map, List.getElem?_map, List.getElem?_set]
  split
  · rename_i e
    subst e
    have hl := (List.getElem?_eq_some_iff.1 hi).1
    rw [if_pos hl, hi, Option.map_some, Option.map_some, hf]
  · rfl
theorem rfoot_set {rb : Nat} {r : RH} {lv : Value} {i : Nat} {o o' : RO} (hi : r.l[i]? = some o) (hb : o'.b = o.b) (hv : o'.fv = o.fv) : rfoot rb { r with l := r.l.set i o' } lv = rfoot rb r lv := by
  simp only [rfoot, List.flatMap]
  rw [map_set_same RO.blocks hi (by simp [RO.blocks, hb, hv])]
end Go.Proofs.YtninigdcpeijhaaDoor
namespace Go.Proofs.YtninigdcpeijhaaDoor
open Go.RowKit

theorem RO.At.fr0 {w w' : World} {o : RO} (h : o.At w) (hF : Fr [] w w') : o.At w' := h.fr hF (by simp) (fun _ _ => by simp)
/-- an object made since the world w -/
structure NewRO (w : World) (o : RO) (W : World) : Prop where
  at_ : o.At W
  fr : Fr [] w W
  nb : w.heap.size ≤ o.b
  nf : ∀ k, o.fv.ownBlock = some k → w.heap.size ≤ k
/-- words are appended to the fields of a new object -/
theorem NewRO.step {w W W1 w1 : World} {o : RO} {v' : Value} {ys : List Int} {j : Nat} (h : NewRO w o W) (hW : Fr [] W W1) (ho : w1.ownsRow 0 28 1 v' (o.fs.length + j) (o.fs.map (Value.int .u64) ++ ys.map (Value.int .u64))) (hj : j = ys.length)
    (hg : W1.grownBy w1 o.fv.ownBlock) (hf : v'.ownBlock = o.fv.ownBlock ∨ v'.ownBlock = some W1.heap.size) :
    w1.cell? ⟨o.b, 2, none⟩ = some o.fv ∧ w1.frozen? ⟨o.b, 2, none⟩ = false ∧ NewRO w { o with fv := v', fs := o.fs ++ ys } (w1.setCell ⟨o.b, 2, none⟩ v') := by
  have hA1 := h.at_.fr0 hW
  have hFw : Fr [] w w1 := (h.fr.trans hW).grown hg (fun k hk hl => by have := h.nf k hk; omega)
  have hc1 : w1.heap[o.b]? = some (.cells #[.int .u64 o.cls, .int .i64 o.hash, o.fv, .int .i64 o.pos] 80 (0, 0)) := by
    rw [hg.block o.b (lt_of_heap hA1.cells) (fun e => by obtain ⟨c, hc⟩ := row_heap hA1.row e.symm; exact tag_ne hc hA1.cells (by decide) rfl)]
    exact hA1.cells
  have hF2 : Fr [o.b] w1 (w1.setCell ⟨o.b, 2, none⟩ v') := (Fr.refl _ _).setCell (fun _ => by simp) _
  refine ⟨cell_of_heap hc1 rfl, frozen_of_heap hc1, ⟨heap_setCell_same hc1 _, ?_⟩, ?_, h.nb, ?_⟩
  · have := hF2.row ho (fun k hk => by obtain ⟨c, hc⟩ := row_heap ho hk; simpa using tag_ne hc hc1 (by decide))
    simp only [List.length_append, List.map_append]
    rw [← hj]
    exact this
  · exact hFw.setCell (fun hl => by have := h.nb; simp only at hl; omega) _
  · intro k hk
    rcases hf with hf | hf
    · exact h.nf k (hf ▸ hk)
    · have e := hf.symm.trans hk
      cases e
      exact Nat.le_trans h.fr.size hW.size
end Go.Proofs.YtninigdcpeijhaaDoor
