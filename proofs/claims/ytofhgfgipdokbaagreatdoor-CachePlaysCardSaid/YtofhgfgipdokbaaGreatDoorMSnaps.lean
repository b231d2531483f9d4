/- The heap's Dump: all objects, in order, each with fields of its own, in new memory. Hashes, one behind the other: plain; and the heap's Hash at an object of the list. A heap's objects, dumped and turned into the document's; Alloc, whatever comes of it. Store, whatever comes of it; a heap's own dump, kept. -/
import Derived.Test.YtofhgfgipdokbaaGreatDoorMLoads
import Derived.Test.YtofhgfgipdokbaaGreatDoorMRanges
import Derived.Test.YtofhgfgipdokbaaGreatDoorMLists
import Derived.Test.YtofhgfgipdokbaaGreatDoorMRLoads
namespace Go.Proofs.YtofhgfgipdokbaaGreatDoor
open Go.RowKit Go.Shelf
attribute [local go_sem] Oper.semAt_some

/-- a list of the heap's objects under way -/
structure DumpH (w : World) (bb vb mb : Nat) (m : Mem) (wv sv : Value) (os : List Ob) (k : Nat) (v : Value) (its : List It) (W : World) : Prop where
  box : W.heap[bb]? = some (.cells #[v] 61 (0, 0))
  var : W.heap[vb]? = some (.cells #[.pointer (some ⟨mb, 0, none⟩)] 75 (0, 0))
  row : W.ownsRow 0 65 3 v k (flat3 its)
  mem : MemAt W mb m wv sv
  fr : Fr [] w W
  new : ∀ b, v.ownBlock = some b → w.heap.size ≤ b
  own : ∀ o ∈ its, ItOwn W o
  fresh : ∀ o ∈ its, ∀ b, o.fv.ownBlock = some b → w.heap.size ≤ b
  keys : obsOf its = os.take k
  bbn : w.heap.size ≤ bb
section
variable {w W W' : World} {bb vb mb k : Nat} {m : Mem} {wv sv v : Value} {os : List Ob} {its : List It}
theorem DumpH.go (h : DumpH w bb vb mb m wv sv os k v its W) (hF : Fr [] W W') : DumpH w bb vb mb m wv sv os k v its W' :=
  ⟨hF.heap (by simp) h.box, hF.heap (by simp) h.var, hF.row h.row (fun _ _ => by simp), h.mem.fr0 hF, h.fr.trans hF, h.new, fun o ho => (h.own o ho).fr hF (fun _ _ => by simp), h.fresh, h.keys, h.bbn⟩
theorem DumpH.put (h : DumpH w bb vb mb m wv sv os k v its W) {l : Nat} {o : Obj} (o' : Obj) (hl : w.heap.size ≤ l) (hh : W.heap[l]? = some o) (hc : o.isCells = false) : DumpH w bb vb mb m wv sv os k v its (W.putObj l o') := by
  have hF := putObj_fr W l o'
  refine ⟨hF.heap (by simpa using not_cells h.box hh hc) h.box, hF.heap (by simpa using not_cells h.var hh hc) h.var, hF.row h.row (fun g hg => ?_), h.mem.fr hF (fun g hg => ?_), h.fr.trans' hF (fun _ _ e => by cases e) (fun j hj e => by simp at e; omega), h.new, fun p hp => (h.own p hp).fr hF (fun g hg => ?_), h.fresh, h.keys, h.bbn⟩
  · obtain ⟨c, hcc⟩ := row_cells h.row hg
    simpa using not_cells hcc hh hc
  · obtain ⟨c, t', f, hcc⟩ := foot_cells h.mem hg
    simpa using not_cells hcc hh hc
  · obtain ⟨c, hcc⟩ := row_heap (h.own p hp).1 hg
    simpa using not_cells hcc hh hc
theorem tag_apart {c : Array Value} {t : TypeId} {f : Nat × Nat} {q : Nat} (hb : W.heap[q]? = some (.cells c t f)) (hM : MemAt W mb m wv sv) (h1 : t ≠ 101) (h2 : t ≠ 24) (h3 : t ≠ 4) : q ∉ foot mb wv sv := by
  intro hk
  simp only [foot, List.mem_cons, List.mem_append, Option.mem_toList] at hk
  rcases hk with rfl | hk | hk
  · exact tag_ne hb hM.mem h1 rfl
  · obtain ⟨c, hc⟩ := row_heap hM.words hk; exact tag_ne hb hc h2 rfl
  · obtain ⟨c, hc⟩ := row_heap hM.starts hk; exact tag_ne hb hc h3 rfl
/-- one object more -/
theorem DumpH.push {w1 : World} {v' : Value} {it : It} (h : DumpH w bb vb mb m wv sv os k v its W) (ho : w1.ownsRow 0 65 3 v' (k + 1) (flat3 its ++ [.int .u64 it.cls, .int .i64 it.hash, it.fv])) (hg : W.grownBy w1 v.ownBlock) (hf : v'.ownBlock = v.ownBlock ∨ ∃ q, v'.ownBlock = some q ∧ w.heap.size ≤ q)
    (hi : ItOwn W it) (hn : ∀ b, it.fv.ownBlock = some b → w.heap.size ≤ b) (hk : os.take (k + 1) = os.take k ++ [it.key]) (B : Nat) :
    (∀ (q : Nat) (c : Array Value) (t : TypeId) (f : Nat × Nat), W.heap[q]? = some (.cells c t f) → t ≠ 65 → ∀ j u, W.cell? ⟨q, j, none⟩ = some u → w1.cell? ⟨q, j, none⟩ = some u) ∧ w1.cell? ⟨bb, 0, none⟩ = some v ∧ w1.frozen? ⟨bb, 0, none⟩ = false ∧ DumpH w bb vb mb m wv sv os (k + 1) v' (its ++ [it]) (w1.setCell ⟨bb, 0, none⟩ v') ∧ KeepsFrom B W (w1.setCell ⟨bb, 0, none⟩ v') := by
  have hF1 : Fr v.ownBlock.toList W w1 := (Fr.refl _ _).grown hg (fun g hgv _ => by simp [hgv])
  have hne : ∀ {q : Nat} {c : Array Value} {t : TypeId} {f : Nat × Nat}, W.heap[q]? = some (.cells c t f) → t ≠ 65 → q ∉ v.ownBlock.toList := by
    intro q c t f hq ht hk
    obtain ⟨c', hc'⟩ := row_cells h.row (g := q) (by simpa using hk)
    exact tag_ne hq hc' ht rfl
  have hb1 := hF1.heap (hne h.box (by decide)) h.box
  have hv1 := hF1.heap (hne h.var (by decide)) h.var
  have hm1 : MemAt w1 mb m wv sv := h.mem.fr hF1 (fun g hg hg' => by
    obtain ⟨c', hc'⟩ := row_cells h.row (g := g) (by simpa using hg')
    exact tag_apart hc' h.mem (by decide) (by decide) (by decide) hg)
  have own1 : ∀ o, ItOwn W o → ItOwn w1 o := fun o ho => ho.grown h.row hg (by decide)
  have hF2 : Fr [bb] w1 (w1.setCell ⟨bb, 0, none⟩ v') := (Fr.refl _ _).setCell (fun _ => by simp) _
  have own2 : ∀ o, ItOwn w1 o → ItOwn (w1.setCell ⟨bb, 0, none⟩ v') o := fun o ho => ho.fr hF2 (fun q hq => by obtain ⟨c, hc⟩ := row_heap ho.1 hq; simpa using tag_ne hc hb1 (by decide))
  have hFw : Fr [] w w1 := h.fr.grown hg (fun g hgv hl => by have := h.new g hgv; omega)
  refine ⟨fun q c t f hq ht j u hu => hF1.cell (hne hq ht) hu, cell_of_heap hb1 rfl, frozen_of_heap hb1, ⟨heap_setCell_same hb1 _, hF2.heap (by simpa using tag_ne hv1 hb1 (by decide)) hv1, ?_, hm1.fr hF2 (fun g hg hg' => by simp at hg'; subst hg'; exact box_apart hb1 hm1 (by decide) (by decide) (by decide) hg), hFw.setCell (fun hl => by have := h.bbn; simp only at hl; omega) _, ?_, ?_, ?_, ?_, h.bbn⟩, ?_⟩
  · rw [flat3_snoc]
    exact hF2.row ho (fun q hq => by obtain ⟨c, hc⟩ := row_cells ho hq; simpa using tag_ne hc hb1 (by decide))
  · intro b hb
    rcases hf with hf | ⟨q, hf, hq⟩
    · exact h.new b (hf ▸ hb)
    · rw [hf] at hb; cases hb; exact hq
  · intro o hom
    rcases List.mem_append.1 hom with hom | hom
    · exact own2 o (own1 o (h.own o hom))
    · simp at hom; subst hom; exact own2 _ (own1 _ hi)
  · intro o hom
    rcases List.mem_append.1 hom with hom | hom
    · exact h.fresh o hom
    · simp at hom; subst hom; exact hn
  · rw [hk, ← h.keys]
    simp [obsOf]
  · refine ⟨by have := hg.size; simp [World.setCell] at this ⊢; omega, fun q ob _ hq hoc => ?_⟩
    rw [Below.heap_setCell _ _ _ _ (fun e' => by subst e'; rw [h.box] at hq; cases hq; cases hoc), hg.block q (lt_of_heap hq) (fun e' => by obtain ⟨c, hc⟩ := row_cells h.row e'.symm; rw [hc] at hq; cases hq; cases hoc)]
    exact hq
end
/-- Returned the objects os, in new memory. -/
def DumpsTo (os : List Ob) (w : World) (e : Ending) (w' : World) : Prop := ∃ v its, e = .returned v ∧ w'.ownsRow 0 65 3 v its.length (flat3 its) ∧ obsOf its = os ∧ (∀ o ∈ its, ItOwn w' o) ∧ Fr [] w w' ∧ (∀ b, v.ownBlock = some b → w.heap.size ≤ b) ∧ ∀ o ∈ its, ∀ b, o.fv.ownBlock = some b → w.heap.size ≤ b
end Go.Proofs.YtofhgfgipdokbaaGreatDoor
namespace Go.Proofs.YtofhgfgipdokbaaGreatDoor
open Go.RowKit

/-- what Hash does at the object number i -/
def HS (os : List Ob) (hs : Int) (i : Nat) (a er : Int) (os' : List Ob) (hs' : Int) : Prop :=
  ∃ o, os[i]? = some o ∧ ((o.2.1 ≠ 0 ∧ a = o.2.1 ∧ er = 0 ∧ os' = os ∧ hs' = hs) ∨ (o.2.1 = 0 ∧ hs = 1099511627775 ∧ a = 0 ∧ er = 2 ∧ os' = os ∧ hs' = hs) ∨ (o.2.1 = 0 ∧ hs ≠ 1099511627775 ∧ a = hs + 1 ∧ er = 0 ∧ os' = os.set i (o.1, hs + 1, o.2.2) ∧ hs' = hs + 1))
theorem endOf_sum (l : List Ob) : endOf l = 1 + (l.map fun o => 3 + o.2.2.length).sum := by
  unfold endOf
  induction l with
  | nil => rfl
  | cons a l ih => rw [flatW_cons, List.length_append, wordsOb_len, List.map_cons, List.sum_cons]; omega
theorem end_set {os : List Ob} {i : Nat} {o o' : Ob} (hi : os[i]? = some o) (hl : o'.2.2.length = o.2.2.length) (j : Nat) : endOf ((os.set i o').take j) = endOf (os.take j) := by
  rw [endOf_sum, endOf_sum, List.map_take, List.map_take, map_set_same _ hi (by simp [hl])]
theorem end_take_lt {os : List Ob} {i j : Nat} (hij : i < j) (hj : j ≤ os.length) : endOf (os.take i) < endOf (os.take j) := by
  obtain ⟨o, ho⟩ : ∃ o, os[i]? = some o := ⟨_, List.getElem?_eq_getElem (by omega)⟩
  have h1 : endOf (os.take (i + 1)) = endOf (os.take i) + 3 + o.2.2.length := by rw [List.take_add_one, ho]; exact endOf_snoc _ _
  have h2 := end_take (os.take j) (i + 1)
  rw [List.take_take, Nat.min_eq_left (by omega)] at h2
  omega
theorem end_take_inj {os : List Ob} {i j : Nat} (hi : i < os.length) (hj : j < os.length) (h : endOf (os.take i) = endOf (os.take j)) : i = j := by
  rcases Nat.lt_trichotomy i j with hl | hl | hl
  · have := end_take_lt hl (Nat.le_of_lt hj); omega
  · exact hl
  · have := end_take_lt hl (Nat.le_of_lt hi); omega
theorem HS.pos {os : List Ob} {hs : Int} {i : Nat} {a er : Int} {os' : List Ob} {hs' : Int} (h : HS os hs i a er os' hs') (j : Nat) : endOf (os'.take j) = endOf (os.take j) := by
  obtain ⟨o, ho, ⟨-, -, -, rfl, -⟩ | ⟨-, -, -, -, rfl, -⟩ | ⟨-, -, -, -, rfl, -⟩⟩ := h
  · rfl
  · rfl
  · exact end_set (o' := (o.1, hs + 1, o.2.2)) ho rfl j
theorem HS.len {os : List Ob} {hs : Int} {i : Nat} {a er : Int} {os' : List Ob} {hs' : Int} (h : HS os hs i a er os' hs') : os'.length = os.length := by
  obtain ⟨o, ho, ⟨-, -, -, rfl, -⟩ | ⟨-, -, -, -, rfl, -⟩ | ⟨-, -, -, -, rfl, -⟩⟩ := h <;> simp
theorem OInv.lone {lim : Int} {os : List Ob} {hs : Int} (hI : OInv lim os hs) {i j : Nat} {o p : Ob} (hi : os[i]? = some o) (hj : os[j]? = some p) (hx : o.2.1 ≠ 0) (e : o.2.1 = p.2.1) : i = j :=
  hI.uq.one (x := o.2.1) (by rw [List.getElem?_map, hi]; rfl) (by rw [List.getElem?_map, hj, e]; rfl) hx
theorem getElem_set_eq' {α : Type} {l : List α} {i : Nat} {a b : α} (h : l[i]? = some a) : (l.set i b)[i]? = some b := by
  rw [List.getElem?_set_self (List.getElem?_eq_some_iff.1 h).1]
theorem hashes_law {lim : Int} {os os1 os2 os3 : List Ob} {hs h1 h2 h3 : Int} {i j : Nat} {a b c e f g : Int} (hI : OInv lim os hs) (H1 : HS os hs i a e os1 h1) (H2 : HS os1 h1 j b f os2 h2) (H3 : HS os2 h2 i c g os3 h3) :
    (e = 2 ∧ 1099511627774 ≤ hs) ∨ (e = 0 ∧ f = 2 ∧ 1099511627774 ≤ hs) ∨ (e = 0 ∧ f = 0 ∧ g = 0 ∧ c = a ∧ (a = b ↔ i = j) ∧ 1 ≤ a ∧ a ≤ h3 ∧ b ≤ h3 ∧ hs ≤ h3 ∧ h3 ≤ hs + 2) := by
  obtain ⟨o, ho, ⟨x1, rfl, rfl, rfl, rfl⟩ | ⟨x1, x2, rfl, rfl, rfl, rfl⟩ | ⟨x1, x2, rfl, rfl, rfl, rfl⟩⟩ := H1
  · have bo := hI.each o (List.mem_of_getElem? ho)
    obtain ⟨p, hp, ⟨y1, rfl, rfl, rfl, rfl⟩ | ⟨y1, y2, rfl, rfl, rfl, rfl⟩ | ⟨y1, y2, rfl, rfl, rfl, rfl⟩⟩ := H2
    · have bp := hI.each p (List.mem_of_getElem? hp)
      obtain ⟨q, hq, ⟨z1, rfl, rfl, rfl, rfl⟩ | ⟨z1, -⟩ | ⟨z1, -⟩⟩ := H3
      · rw [ho] at hq; cases hq
        refine .inr (.inr ⟨rfl, rfl, rfl, rfl, ⟨fun he => hI.lone ho hp x1 he, fun he => ?_⟩, by omega, by omega, by omega, by omega, by omega⟩)
        subst he
        rw [ho] at hp; cases hp; rfl
      · rw [ho] at hq; cases hq; exact absurd z1 x1
      · rw [ho] at hq; cases hq; exact absurd z1 x1
    · exact .inr (.inl ⟨rfl, rfl, by omega⟩)
    · have hij : j ≠ i := fun he => by subst he; rw [ho] at hp; cases hp; exact x1 y1
      obtain ⟨q, hq, hz⟩ := H3
      rw [List.getElem?_set_ne hij, ho] at hq
      cases hq
      rcases hz with ⟨z1, rfl, rfl, rfl, rfl⟩ | ⟨z1, -⟩ | ⟨z1, -⟩
      · exact .inr (.inr ⟨rfl, rfl, rfl, rfl, ⟨fun he => by omega, fun he => absurd he.symm hij⟩, by omega, by omega, by omega, by omega, by omega⟩)
      · exact absurd z1 x1
      · exact absurd z1 x1
  · exact .inl ⟨rfl, by omega⟩
  · have hh0 := hI.h0
    obtain ⟨p, hp, hy⟩ := H2
    by_cases hij : i = j
    · subst hij
      rw [getElem_set_eq' ho] at hp
      cases hp
      rcases hy with ⟨y1, rfl, rfl, rfl, rfl⟩ | ⟨y1, -⟩ | ⟨y1, -⟩
      · obtain ⟨q, hq, hz⟩ := H3
        rw [getElem_set_eq' ho] at hq
        cases hq
        rcases hz with ⟨z1, rfl, rfl, rfl, rfl⟩ | ⟨z1, -⟩ | ⟨z1, -⟩
        · exact .inr (.inr ⟨rfl, rfl, rfl, rfl, ⟨fun _ => rfl, fun _ => rfl⟩, by omega, by omega, by show hs + 1 ≤ hs + 1; omega, by omega, by omega⟩)
        · simp only at z1; omega
        · simp only at z1; omega
      · simp only at y1; omega
      · simp only at y1; omega
    · rw [List.getElem?_set_ne hij] at hp
      have bp := hI.each p (List.mem_of_getElem? hp)
      rcases hy with ⟨y1, rfl, rfl, rfl, rfl⟩ | ⟨y1, y2, rfl, rfl, rfl, rfl⟩ | ⟨y1, y2, rfl, rfl, rfl, rfl⟩
      · obtain ⟨q, hq, hz⟩ := H3
        rw [getElem_set_eq' ho] at hq
        cases hq
        rcases hz with ⟨z1, rfl, rfl, rfl, rfl⟩ | ⟨z1, -⟩ | ⟨z1, -⟩
        · exact .inr (.inr ⟨rfl, rfl, rfl, rfl, ⟨fun he => by omega, fun he => absurd he hij⟩, by omega, by omega, by omega, by omega, by omega⟩)
        · simp only at z1; omega
        · simp only at z1; omega
      · exact .inr (.inl ⟨rfl, rfl, by omega⟩)
      · obtain ⟨q, hq, hz⟩ := H3
        rw [List.getElem?_set_ne (Ne.symm hij), getElem_set_eq' ho] at hq
        cases hq
        rcases hz with ⟨z1, rfl, rfl, rfl, rfl⟩ | ⟨z1, -⟩ | ⟨z1, -⟩
        · exact .inr (.inr ⟨rfl, rfl, rfl, rfl, ⟨fun he => by omega, fun he => absurd he hij⟩, by omega, by omega, by omega, by omega, by omega⟩)
        · simp only at z1; omega
        · simp only at z1; omega
theorem take_split {α : Type} {l : List α} {i : Nat} {a : α} (h : l[i]? = some a) : l = l.take i ++ a :: l.drop (i + 1) := by
  have hi := (List.getElem?_eq_some_iff.1 h).1
  rw [List.getElem?_eq_getElem hi] at h
  cases h
  rw [← List.drop_eq_getElem_cons hi, List.take_append_drop]
/-- Objects, of a heap that holds os -/
def refsO (os : List Ob) : List Int := (startsOf 1 os).map fun p : Nat => 2 * (p : Int)
theorem starts_get {os : List Ob} {q : List Ob} {i : Nat} (hi : i < os.length) : (startsOf (endOf q) os)[i]? = some (endOf (q ++ os.take i)) := by
  induction os generalizing q i with
  | nil => simp at hi
  | cons o os ih =>
    cases i with
    | zero => simp [startsOf]
    | succ i =>
      simp only [startsOf, List.getElem?_cons_succ, List.take_succ_cons]
      rw [← endOf_snoc, ih (q := q ++ [o]) (by simpa using hi)]
      simp
theorem refsO_at {os : List Ob} {i : Nat} (hi : i < os.length) : (refsO os)[i]? = some (2 * (endOf (os.take i) : Int)) := by
  have := starts_get (q := []) hi
  simp only [List.nil_append] at this
  unfold refsO
  rw [List.getElem?_map]
  have e : startsOf 1 os = startsOf (endOf []) os := rfl
  rw [e, this]
  rfl
theorem refsO_len (os : List Ob) : (refsO os).length = os.length := by unfold refsO; rw [List.length_map, starts_len]
theorem objects_at {w W : World} {hb mb : Nat} {lim root hashes : Int} {os : List Ob} (hI : OInv lim os hashes) (hL : Live w hb mb (absMem lim os root hashes) W) :
    Calls Tryz.prog 8 #[.pointer (some ⟨hb, 0, none⟩)] W fun e W' => ∃ ao cap, e = .returned (.slice ao (refsO os).length cap) ∧ WordsAt W' ao (refsO os) ∧ Fr [] W W' ∧ (∀ a, ao = some a → W.heap.size ≤ a.block) ∧ Live w hb mb (absMem lim os root hashes) W' := by
  have hL0 := hL
  obtain ⟨wv, sv, hH, hF0, h1, h2⟩ := hL
  have hsz : ∀ o ∈ os, o.2.2.length ≤ 65536 := fun o ho => by
    obtain ⟨a, b, rfl⟩ := List.append_of_mem ho
    have := endOf_lt a b o
    have := hI.fit
    have := hI.l2
    omega
  have hC : Chain (absMem lim os root hashes).W 1 (startsOf 1 os) := by have := abs_chain (lim := lim) (root := root) (hashes := hashes) [] os hsz; simpa [endOf, flatW] using this
  have hF : Fr [] W (W.alloc (.cells #[.slice none 0 0] 38)) := (Fr.refl _ _).alloc _
  refine (objects_lists (memory_at (hH.fr hF (by simp) (fun _ _ => by simp))) _ hC).mono ?_
  rintro e W' ⟨v, rfl, hr, hF', hn⟩
  obtain ⟨ao, cap, rfl⟩ := row_shape hr
  refine ⟨ao, cap, by simp [refsO], fun i x hx => ?_, hF', fun a ha => ?_, hL0.still hF'⟩
  · have hi : i < (startsOf 1 os).length := by have := (List.getElem?_eq_some_iff.1 hx).1; simpa [refsO] using this
    obtain ⟨g, c, e, hc, -, -⟩ := row_at hr hi
    cases e
    refine ⟨g, 0, rfl, ?_⟩
    rw [Nat.zero_add, hc]
    simp only [refsO, List.getElem?_map] at hx
    simp only [refsOf, List.getElem?_map]
    cases hs : (startsOf 1 os)[i]? with
    | none => rw [hs] at hx; cases hx
    | some p => rw [hs] at hx; cases hx; rfl
  · subst ha
    refine hn a.block ?_
    rcases hr.2 with ⟨h0, -⟩ | ⟨g, c, cur, h0, -⟩
    · cases h0
    · cases h0; rfl
end Go.Proofs.YtofhgfgipdokbaaGreatDoor
namespace Go.Proofs.YtofhgfgipdokbaaGreatDoor
open Go.RowKit

theorem noPlace_len (its : List It) : (noPlace its).length = its.length := by simp [noPlace]
theorem noPlace_keys (its : List It) : (noPlace its).map (fun o => o.1.key) = obsOf its := by simp [noPlace, obsOf]
theorem own_block {W : World} {o : It} (h : ItOwn W o) {fa : Addr} {n fc : Nat} (hv : o.fv = .slice (some fa) n fc) : o.fv.ownBlock = some fa.block := by
  rcases h.1.2 with ⟨h0, -⟩ | ⟨g, cap, cur, h0, -⟩
  · rw [hv] at h0; cases h0
  · rw [hv] at h0
    cases h0
    rw [hv]
    rfl
/-- what Alloc does -/
def AL (lim : Int) (os : List Ob) (x n y : Int) (rw' re : Int) (os' : List Ob) : Prop :=
  (re = 0 ∧ rw' = 2 * (endOf os : Int) ∧ 0 ≤ n ∧ n ≤ 512 ∧ (endOf os : Int) + 3 + n ≤ lim ∧ os' = os ++ [(x, 0, List.replicate n.toNat y)]) ∨ ((re = 1 ∨ re = 2) ∧ rw' = 0 ∧ os' = os)
/-- a reference to an object may be -/
theorem ok_ref {lim : Int} {os : List Ob} {hashes : Int} (hI : OInv lim os hashes) {i : Nat} (hi : i < os.length) : okB (marksOf os) (2 * (endOf (os.take i) : Int)) = true ∧ WB (2 * (endOf (os.take i) : Int)) := by
  obtain ⟨o, ho⟩ : ∃ o, os[i]? = some o := ⟨_, List.getElem?_eq_getElem hi⟩
  have hs := take_split ho
  have h1 := endOf_lt (os.take i) (os.drop (i + 1)) o
  rw [← hs] at h1
  have h2 := hI.fit
  have h3 := hI.l2
  have h4 := endOf_pos (os.take i)
  have hm := abs_mark (lim := lim) (root := 0) (hashes := hashes) (pre := os.take i) (post := os.drop (i + 1)) (o := o)
  rw [← hs] at hm
  have := stB_mk (M := marksOf os) h4 (by omega) hm
  refine ⟨by unfold okB; rw [this]; rfl, ?_⟩
  unfold WB
  omega
end Go.Proofs.YtofhgfgipdokbaaGreatDoor
namespace Go.Proofs.YtofhgfgipdokbaaGreatDoor
open Go.RowKit

/-- a list of the heap's objects that lies somewhere -/
structure G3 (W : World) (va : Option Addr) (its : List It) : Prop where
  row : RowAt W va (flat3 its)
  own : ∀ o ∈ its, ItOwn W o
theorem G3.fr {S : List Nat} {W W' : World} {va : Option Addr} {its : List It} (h : G3 W va its) (hF : Fr S W W') (h1 : ∀ a, va = some a → a.block ∉ S) (h2 : ∀ o ∈ its, ∀ b, o.fv.ownBlock = some b → b ∉ S) : G3 W' va its :=
  ⟨h.row.fr hF h1, fun o ho => (h.own o ho).fr hF (h2 o ho)⟩
/-- what Store does -/
def ST (os : List Ob) (i : Nat) (k v re : Int) (os' : List Ob) : Prop :=
  ∃ o, os[i]? = some o ∧ ((0 ≤ k ∧ k < o.2.2.length ∧ re = 0 ∧ os' = os.set i (o.1, o.2.1, o.2.2.set k.toNat v)) ∨ ((k < 0 ∨ (o.2.2.length : Int) ≤ k) ∧ re = 1 ∧ os' = os))
/-- each field behind a Store -/
theorem ST.field {os os' : List Ob} {i : Nat} {k v re : Int} (h : ST os i k v re os') {x y : Nat} {o o' : Ob} (ho : os[x]? = some o) (ho' : os'[x]? = some o') : o'.2.2.length = o.2.2.length ∧ (y < o.2.2.length → o'.2.2[y]? = if re = 0 ∧ x = i ∧ (y : Int) = k then some v else o.2.2[y]?) := by
  obtain ⟨p, hp, ⟨h1, h2, rfl, rfl⟩ | ⟨h1, rfl, rfl⟩⟩ := h
  · by_cases hx : i = x
    · subst hx
      rw [getElem_set_eq' hp] at ho'
      cases ho'
      rw [hp] at ho
      cases ho
      refine ⟨by simp, fun hy => ?_⟩
      by_cases hky : (y : Int) = k
      · have : k.toNat = y := by omega
        rw [if_pos ⟨rfl, rfl, hky⟩]
        simp only [this]
        rw [List.getElem?_set_self hy]
      · rw [if_neg (fun h => hky h.2.2)]
        simp only
        rw [List.getElem?_set_ne (by omega)]
    · rw [List.getElem?_set_ne hx, ho] at ho'
      cases ho'
      exact ⟨rfl, fun _ => by rw [if_neg (fun h => hx h.2.1.symm)]⟩
  · rw [ho] at ho'
    cases ho'
    exact ⟨rfl, fun _ => by rw [if_neg (fun h => by simp at h)]⟩
theorem ST.len {os os' : List Ob} {i : Nat} {k v re : Int} (h : ST os i k v re os') : os'.length = os.length := by
  obtain ⟨p, hp, ⟨-, -, -, rfl⟩ | ⟨-, -, rfl⟩⟩ := h <;> simp
end Go.Proofs.YtofhgfgipdokbaaGreatDoor
