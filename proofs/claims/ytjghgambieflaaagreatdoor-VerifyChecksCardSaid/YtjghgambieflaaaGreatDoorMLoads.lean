/- The memory's checkLoaded: whether every word of the objects may be, and the root. The heap's Load, whatever is loaded. -/
import Derived.Test.YtjghgambieflaaaGreatDoorMRanges
import Derived.Test.YtjghgambieflaaaGreatDoorMLoading
namespace Go.Proofs.YtjghgambieflaaaGreatDoor
open Go.RowKit Go.Shelf
attribute [local go_sem] Oper.semAt_some

theorem starts_at {os : List Ob} {q : List Ob} {pre : List Nat} {x : Nat} (h : pre ++ [x] <+: startsOf (endOf q) os) : ∃ a o b, os = a ++ o :: b ∧ a.length = pre.length ∧ x = endOf (q ++ a) := by
  induction os generalizing q pre with
  | nil => obtain ⟨t, ht⟩ := h; simp [startsOf] at ht
  | cons o os ih =>
    simp only [startsOf] at h
    cases pre with
    | nil =>
      obtain ⟨t, ht⟩ := h
      simp at ht
      exact ⟨[], o, os, rfl, rfl, by simpa using ht.1⟩
    | cons y pre =>
      obtain ⟨t, ht⟩ := h
      simp only [List.cons_append, List.cons.injEq] at ht
      have e := endOf_snoc q o
      rw [← e] at ht
      obtain ⟨a, o', b, rfl, hl, hx⟩ := ih (q := q ++ [o]) ⟨t, by simpa using ht.2⟩
      exact ⟨o :: a, o', b, rfl, by simp [hl], by simpa using hx⟩
theorem starts_len (p : Nat) (os : List Ob) : (startsOf p os).length = os.length := by
  induction os generalizing p with
  | nil => rfl
  | cons o os ih => simp [startsOf, ih]
/-- a heap's memory under way through a loop over its objects: the memory's variable, a result, the memory -/
structure Looks (w : World) (bb rb mb : Nat) (m : Mem) (wv sv rv : Value) (W : World) : Prop where
  box : W.heap[bb]? = some (.cells #[.pointer (some ⟨mb, 0, none⟩)] 66 (0, 0))
  res : W.heap[rb]? = some (.cells #[rv] 59 (0, 0))
  mem : MemAt W mb m wv sv
  fr : Fr [] w W
  new : w.heap.size ≤ rb
theorem Looks.go {w W W' : World} {bb rb mb : Nat} {m : Mem} {wv sv rv : Value} (h : Looks w bb rb mb m wv sv rv W) (hF : Fr [] W W') : Looks w bb rb mb m wv sv rv W' :=
  ⟨hF.heap (by simp) h.box, hF.heap (by simp) h.res, h.mem.fr0 hF, h.fr.trans hF, h.new⟩
theorem Looks.put {w W : World} {bb rb mb : Nat} {m : Mem} {wv sv rv : Value} (h : Looks w bb rb mb m wv sv rv W) {l : Nat} {o : Obj} (o' : Obj) (hl : w.heap.size ≤ l) (hh : W.heap[l]? = some o) (hc : o.isCells = false) : Looks w bb rb mb m wv sv rv (W.putObj l o') := by
  have hF := putObj_fr W l o'
  refine ⟨hF.heap (by simpa using not_cells h.box hh hc) h.box, hF.heap (by simpa using not_cells h.res hh hc) h.res, h.mem.fr hF (fun g hg => ?_), h.fr.trans' hF (fun _ _ e => by cases e) (fun j hj e => by simp at e; omega), h.new⟩
  obtain ⟨c, t', f, hcc⟩ := foot_cells h.mem hg
  simpa using not_cells hcc hh hc
theorem Looks.set {w W : World} {bb rb mb : Nat} {m : Mem} {wv sv rv : Value} (h : Looks w bb rb mb m wv sv rv W) (u : Value) : Looks w bb rb mb m wv sv u (W.setCell ⟨rb, 0, none⟩ u) := by
  have hF : Fr [rb] W (W.setCell ⟨rb, 0, none⟩ u) := (Fr.refl _ _).setCell (fun _ => by simp) _
  refine ⟨hF.heap (by simpa using tag_ne h.box h.res (by decide)) h.box, heap_setCell_same h.res _, h.mem.fr hF (fun g hg => ?_), h.fr.setCell (fun hl => by have := h.new; simp only at hl; omega) _, h.new⟩
  simp only [List.mem_singleton]
  rintro rfl
  exact box_apart (v := rv) h.res h.mem (by decide) (by decide) (by decide) hg
theorem Looks.keeps {w W : World} {bb rb mb : Nat} {m : Mem} {wv sv rv : Value} (h : Looks w bb rb mb m wv sv rv W) (B : Nat) (u : Value) : KeepsFrom B W (W.setCell ⟨rb, 0, none⟩ u) :=
  ⟨by simp [World.setCell], fun q ob _ hq hoc => by
    rw [Below.heap_setCell _ _ _ _ (fun e' => by subst e'; rw [h.res] at hq; cases hq; cases hoc)]; exact hq⟩
theorem keeps_fr {W W' : World} (hF : Fr [] W W') (B : Nat) : KeepsFrom B W W' := ⟨hF.size, fun _ _ _ hq _ => hF.heap (by simp) hq⟩
def okOb (M : List Bool) (o : Ob) : Bool := okB M o.1 && o.2.2.all (okB M)
end Go.Proofs.YtjghgambieflaaaGreatDoor
namespace Go.Proofs.YtjghgambieflaaaGreatDoor
open Go.RowKit

open Classical in
/-- the memory behind a Load -/
noncomputable def memLoad (lim : Int) (os0 : List Ob) (r0 h0 : Int) (os : List Ob) (root n : Int) : Mem := if loadE lim os root n = 0 then absMem lim os root n else absMem lim os0 r0 h0
theorem memLoad_ok {lim : Int} {os0 : List Ob} {r0 h0 : Int} {os : List Ob} {root n : Int} (h : loadE lim os root n = 0) : memLoad lim os0 r0 h0 os root n = absMem lim os root n := by unfold memLoad; rw [if_pos h]
theorem memLoad_no {lim : Int} {os0 : List Ob} {r0 h0 : Int} {os : List Ob} {root n : Int} (h : loadE lim os root n ≠ 0) : memLoad lim os0 r0 h0 os root n = absMem lim os0 r0 h0 := by unfold memLoad; rw [if_neg h]
/-- a list that can be handed to Load -/
structure Handed (w : World) (ao : Option Addr) (its : List It) : Prop where
  row : RowAt w ao (flat3 its)
  each : ∀ o ∈ its, ItIn w o
  len : its.length ≤ 2932031007402
  sizes : ∀ o ∈ its, o.fs.length ≤ 17592186044416
  hash : ∀ o ∈ its, -9223372036854775808 ≤ o.hash ∧ o.hash ≤ 9223372036854775807
  words : ∀ o ∈ its, ObB o.key
theorem ItIn.fr {w w' : World} {o : It} (h : ItIn w o) (hF : Fr [] w w') : ItIn w' o := by
  rcases h with ⟨fb, fo, fc, h1, h2, h3⟩ | h
  · exact .inl ⟨fb, fo, fc, h1, Nat.lt_of_lt_of_le h2 hF.size, h3.fr hF (by simp)⟩
  · exact .inr h
theorem Handed.fr {w w' : World} {ao : Option Addr} {its : List It} (h : Handed w ao its) (hF : Fr [] w w') : Handed w' ao its :=
  ⟨h.row.fr hF (fun _ _ => by simp), fun o ho => (h.each o ho).fr hF, h.len, h.sizes, h.hash, h.words⟩
theorem Still.turns {w w' : World} {e : Ending} {v : Value} {mb : Nat} {m : Mem} {wv sv : Value} (hM : MemAt w mb m wv sv) (h : Still v w e w') : Turns v mb m (foot mb wv sv) w e w' :=
  ⟨h.1, wv, sv, hM.fr0 h.2, h.2.weak, fun _ hk => .inl hk⟩
end Go.Proofs.YtjghgambieflaaaGreatDoor
