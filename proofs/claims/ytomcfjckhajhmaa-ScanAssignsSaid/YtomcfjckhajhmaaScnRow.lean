/- scan: rows of numbers: one less, sorted, a truth looked for: the library's, by contract. -/
import Derived.Test.YtomcfjckhajhmaaScnMem
import Derived.Test.YtomcfjckhajhmaaScnLay
import Derived.Lib.ItoaMem
namespace Go.Proofs.Ytomcfjckhajhmaa
open Go.RowKit Go.Sort Go.Shelf

theorem heap_mapBlock (w : World) (b k : Nat) (f : Array Value → Array Value) : (mapBlock w b f).heap[k]? = if b = k then (w.heap[k]?).map (onCells f) else w.heap[k]? := by
  unfold mapBlock
  simp only [Array.getElem?_modify]
theorem fr_putRow {α : Type} [Inhabited α] (enc : α → Value) (w : World) (b o : Nat) (d : Array α) : Fr [b] w (putRow enc w b o d) := by
  refine ⟨rfl, rfl, rfl, ?_, fun k hk hn => ?_⟩
  · unfold putRow mapBlock; simp
  · unfold putRow
    rw [heap_mapBlock, if_neg (fun e => hn (by simp [e]))]
theorem fr_sortWorld {α : Type} [Inhabited α] (enc : α → Value) (w : World) (b o m : Nat) (d : Array α) (os : Array Obj) : Fr [b] w (sortWorld enc w b o m d os) := by
  have h1 : Fr [b] w (Sort.ahead w m) := (Fr.refl _ w).drewN m
  have h2 := h1.trans (fr_putRow enc (Sort.ahead w m) b o d)
  refine h2.trans (Fr.weak ?_)
  have := Fr.grow (w := putRow enc (Sort.ahead w m) b o d) 0 os
  exact this
theorem putCells_take {α : Type} [Inhabited α] (enc : α → Value) (l : List α) (cur : Array Value) (m : Nat) (hm : m ≤ l.length) (hs : l.length ≤ cur.size) : (putCells enc 0 l.toArray cur).toList.take m = (l.take m).map enc := by
  apply List.ext_getElem?
  intro k
  rw [List.getElem?_take, List.getElem?_map, List.getElem?_take]
  by_cases hk : k < m
  · rw [if_pos hk, if_pos hk]
    have hkl : k < l.length := by omega
    unfold putCells
    rw [Array.getElem?_toList, Array.getElem?_mapIdx, Array.getElem?_eq_getElem (by omega), Option.map_some, if_pos ⟨by omega, by simp; omega⟩]
    simp [List.getElem?_eq_getElem hkl]
  · rw [if_neg hk, if_neg hk]; rfl
theorem putCells_size {α : Type} [Inhabited α] (enc : α → Value) (o : Nat) (d : Array α) (cur : Array Value) : (putCells enc o d cur).size = cur.size := by unfold putCells; simp
/-- a row of numbers, laid anew -/
theorem row_put {α : Type} [Inhabited α] (enc : α → Value) {w : World} {g n cap : Nat} {e : TypeId} {xs : List Value} (h : w.ownsRow 0 e 1 (.slice (some ⟨g, 0, none⟩) n cap) n xs) (l : List α) (hl : l.length ≤ n) (m : Nat) (hm : m ≤ l.length) (q : Nat) (os : Array Obj) :
    (sortWorld enc w g 0 q l.toArray os).ownsRow 0 e 1 (.slice (some ⟨g, 0, none⟩) m cap) m ((l.take m).map enc) := by
  refine ⟨by simp; omega, ?_⟩
  rcases h.2 with ⟨hv, -⟩ | ⟨g', cap', cur, hv, hb, hh, hnc, hcm, hcs, ht⟩
  · cases hv
  · cases hv
    refine .inr ⟨g, cap, putCells enc 0 l.toArray cur, rfl, hb, ?_, by omega, hcm, by rw [putCells_size]; exact hcs, ?_⟩
    · have hlt := lt_of_heap hh
      unfold sortWorld
      rw [heap_grow_old _ _ (by rw [size_putRow]; exact hlt)]
      unfold putRow
      rw [heap_mapBlock, if_pos rfl]
      show (w.heap[g]?).map _ = _
      rw [hh]
      rfl
    · rw [Nat.mul_one]
      exact putCells_take enc l cur m hm (by omega)
/-- what a row of numbers holds, cell by cell -/
theorem row_holds {α : Type} [Inhabited α] (enc : α → Value) {w : World} {g cap : Nat} {e : TypeId} {l : List α} (h : w.ownsRow 0 e 1 (.slice (some ⟨g, 0, none⟩) l.length cap) l.length (l.map enc)) : Holds enc w g 0 l.toArray ∧ l.length ≤ cap ∧ cap ≤ maxLen ∧ g < w.heap.size := by
  have hc := h.cells (g := g) rfl
  rcases h.2 with ⟨hv, -⟩ | ⟨g', cap', cur, hv, hb, hh, hnc, hcm, hcs, ht⟩
  · cases hv
  · cases hv
    refine ⟨fun j hj => ⟨?_, frozen_of_heap hh⟩, hnc, hcm, lt_of_heap hh⟩
    have hj' : j < l.length := by simpa using hj
    have := hc j (enc l[j]) (by simp [hj'])
    rw [Lib.add_plain] at this
    simpa [List.getElem?_eq_getElem hj'] using this
theorem infoN : (Try.prog.info? 3).map (fun i => (i.zero, i.size, i.bytes)) = some (some (.int .i64 0), 1, 8) := by kernel_rfl
def encN (k : Nat) : Value := .int .i64 (k : Int)
theorem sl_delete {g cap : Nat} {hs : List Nat} {w : World} (h : w.ownsRow 0 3 1 (.slice (some ⟨g, 0, none⟩) hs.length cap) hs.length (hs.map encN)) {j : Nat} (hj : j < hs.length) :
    Calls Try.prog 35 #[.slice (some ⟨g, 0, none⟩) hs.length cap, .int .i64 j, .int .i64 (j + 1 : Nat)] w fun e w' => e = .returned (.slice (some ⟨g, 0, none⟩) (hs.length - 1) cap) ∧ Fr [g] w w' ∧ w'.ownsRow 0 3 1 (.slice (some ⟨g, 0, none⟩) (hs.length - 1) cap) (hs.length - 1) ((hs.eraseIdx j).map encN) := by
  obtain ⟨hH, hcap, hcm, hlt⟩ := row_holds encN h
  obtain ⟨i0, hi, hz0, hz1, hz2⟩ := info_parts infoN
  have h1 := AnyE.slices_Delete Try.scDel encN (fun _ => rfl) 0 Try.scDel.v3 i0 hi hz1 g 0 cap j (j + 1) hs.toArray w hH (by simpa using hcap) (by unfold maxLen at hcm; omega) (Nat.le_succ j) (by simp; omega)
  have e1 : j + 1 - j = 1 := by omega
  simp only [List.size_toArray, e1] at h1
  refine h1.mono ?_
  rintro e w' ⟨rfl, q, rfl⟩
  have hE : (hs.take j ++ hs.drop (j + 1) ++ List.replicate 1 0).take (hs.length - 1) = hs.eraseIdx j := by
    rw [List.eraseIdx_eq_take_drop_succ, List.take_append_of_le_length (by simp; omega), List.take_of_length_le (by simp; omega)]
  have hl : (hs.take j ++ hs.drop (j + 1) ++ List.replicate 1 0).length = hs.length := by simp; omega
  refine ⟨rfl, ((Fr.refl [g] w).drewN q).trans (fr_putRow _ _ _ _ _), ?_⟩
  have h3 := row_put encN h (hs.take j ++ hs.drop (j + 1) ++ List.replicate 1 0) (by omega) (hs.length - 1) (by omega) q #[]
  rw [hE] at h3
  unfold sortWorld at h3
  rw [Sort.grow_empty] at h3
  exact h3
/-- is the first register that is free, or -1 -/
theorem sl_index {g : Nat} {H : List (Option Iv)} {w : World} {t : TypeId} (h : w.heap[g]? = some (.cells (takenL H).toArray t (0, 0))) (hl : H.length ≤ 8) :
    Calls Try.prog 25 #[.slice (some ⟨g, 0, none⟩) H.length H.length, .bool false] w (Gives (.int .i64 (Lib.idxBy (fun x y => x == y) (H.map (fun o => o.isSome)) false)) w) := by
  have hc : ∀ j, j < (H.map fun o => o.isSome).length → w.cell? ⟨g, 0 + j, none⟩ = some (Value.bool (H.map fun o => o.isSome)[j]!) := fun j hj => by
    have hj' : j < H.length := by simpa using hj
    refine cell_of_heap h ?_
    simp [takenL, hj', List.getElem?_eq_getElem hj']
  have h1 := AnyE.slices_Index Try.scIndex Value.bool (fun x y => x == y) (EqlAt.bool _ Try.underlying4) g 0 H.length H.length (H.map fun o => o.isSome) false w (by simp) (by omega) hc
  have e : (H.map fun o => o.isSome).take H.length = H.map fun o => o.isSome := List.take_of_length_le (by simp)
  rw [e] at h1
  exact h1.mono fun _ _ ⟨a, b⟩ => ⟨a, b.symm⟩
def encF {m : Nat} (k : Fin (m + 1)) : Value := .int .i64 (k.val : Int)
/-- numbers, sorted by a closure that tells all of them apart -/
theorem sl_sortFn {m : Nat} (gf : Nat) (eg : ∀ args w, (callFunc gf args).run Try.prog w = .ok (.enter gf args) w) (cb : Array Value) (cf : Fin (m + 1) → Fin (m + 1) → Int) (hO : SWO (ltOf cf)) (hT : ∀ x y, ltOf cf x y = false → ltOf cf y x = false → x = y)
    {g cap : Nat} {l : List (Fin (m + 1))} {w : World} (h : w.ownsRow 0 3 1 (.slice (some ⟨g, 0, none⟩) l.length cap) l.length (l.map encF)) (hll : l.length < 4611686018427387904) (hcmp : ∀ W, Fr [g] w W → ∀ x y, Calls Try.prog gf (#[encF x, encF y] ++ cb) W (Grows (.int .i64 (cf x y)) W)) :
    Calls Try.prog 20 #[.slice (some ⟨g, 0, none⟩) l.length cap, .func (.func gf) #[] cb] w fun e w' => e = .returned (.tuple #[]) ∧ Fr [g] w w' ∧ w'.ownsRow 0 3 1 (.slice (some ⟨g, 0, none⟩) l.length cap) l.length ((l.mergeSort fun x y => !ltOf cf y x).map encF) := by
  obtain ⟨hH, hcap, hcm, hlt⟩ := row_holds encF h
  have h1 := Any.slices_SortFunc_total Try.scSort encF (fun _ => rfl) cf hO gf cb g 0 cap l.toArray w eg (fun q os dk _ x y => hcmp _ (fr_sortWorld encF w g 0 q dk os) x y) hH hlt (by simpa using hll) hT
  simp only [List.size_toArray] at h1
  refine h1.mono ?_
  rintro e w' ⟨rfl, q, os, rfl⟩
  refine ⟨rfl, fr_sortWorld _ _ _ _ _ _ _, ?_⟩
  have h3 := row_put encF h (l.mergeSort fun x y => !ltOf cf y x) (by simp) l.length (by simp) q os
  rw [List.take_of_length_le (by simp)] at h3
  exact h3
end Go.Proofs.Ytomcfjckhajhmaa
