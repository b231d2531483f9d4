/- The document's list of ways under way: its memory. -/
import Derived.Test.YtbmfmklalonhiaaGreatDoorMVerF
import Derived.Test.YtbmfmklalonhiaaGreatDoorMVerC
import Derived.Test.YtbmfmklalonhiaaGreatDoorMRLoads
import Derived.ArgAppend
import Derived.Maps.AppendAt
namespace Go.Proofs.YtbmfmklalonhiaaGreatDoor
open Go.RowKit

theorem infoInts : (Tryz.prog.info? 31).map (fun i => (i.zero, i.size, i.bytes)) = some (some (.slice none 0 0), 1, 24) := by kernel_rfl
def dInts (l : List Nat) : List Value := l.map fun (d : Nat) => Value.int .i64 (d : Int)
/-- the memory of the document's ways; each block has its role, so that no two of them are one -/
structure FMem (w0 : World) (n atB byB : Nat) (A : Nat → List Nat) (B : Nat → Bool) (qg off cap : Nat) (T : List (Nat × Nat)) (hdr : List Value) (X : List (Nat × Obj)) (ρ : Nat → Nat) (W : World) : Prop where
  fr : Fr [] w0 W
  hl : hdr.length = n
  at_ : W.heap[atB]? = some (.cells hdr.toArray 31 (0, 0))
  atR : ρ atB = 0
  atN : w0.heap.size ≤ atB
  by_ : W.heap[byB]? = some (.cells ((List.range n).map (fun k => Value.bool (B k))).toArray 4 (0, 0))
  byR : ρ byB = 1
  byN : w0.heap.size ≤ byB
  rows : ∀ (k : Nat) (v : Value), hdr[k]? = some v → W.ownsRow w0.heap.size 3 1 v (A k).length (dInts (A k)) ∧ ∀ g, v.ownBlock = some g → ρ g = 4 + k
  que : ∃ cur, W.heap[qg]? = some (.cells cur 31 (0, 0)) ∧ off + cap ≤ cur.size
  quR : ρ qg = 2
  quN : w0.heap.size ≤ qg
  len : T.length ≤ cap
  items : ∀ (j : Nat) (p : Nat × Nat), T[j]? = some p → ∃ b, W.cell? ⟨qg, off + j, none⟩ = some (.slice (some ⟨b, 0, none⟩) 2 2) ∧ W.heap[b]? = some (.cells #[.int .i64 (p.1 : Int), .int .i64 (p.2 : Int)] 3 (0, 0)) ∧ ρ b = 3 ∧ w0.heap.size ≤ b
  kept : ∀ p ∈ X, W.heap[p.1]? = some p.2 ∧ ρ p.1 = 3
section
variable {w0 W W' : World} {n atB byB : Nat} {A : Nat → List Nat} {B : Nat → Bool} {qg off cap : Nat} {T : List (Nat × Nat)} {hdr : List Value} {X : List (Nat × Obj)} {ρ : Nat → Nat}
theorem FMem.still (h : FMem w0 n atB byB A B qg off cap T hdr X ρ W) (hF : Fr [] W W') : FMem w0 n atB byB A B qg off cap T hdr X ρ W' := by
  obtain ⟨cur, hq, hsz⟩ := h.que
  refine ⟨h.fr.trans hF, h.hl, hF.heap (by simp) h.at_, h.atR, h.atN, hF.heap (by simp) h.by_, h.byR, h.byN, fun k v hv => ⟨hF.row (h.rows k v hv).1 (fun _ _ => by simp), (h.rows k v hv).2⟩, ⟨cur, hF.heap (by simp) hq, hsz⟩, h.quR, h.quN, h.len, fun j p hp => ?_, fun p hp => ⟨hF.heap (by simp) (h.kept p hp).1, (h.kept p hp).2⟩⟩
  obtain ⟨b, h1, h2, h3, h4⟩ := h.items j p hp
  exact ⟨b, hF.cell (by simp) h1, hF.heap (by simp) h2, h3, h4⟩
theorem FMem.role (h : FMem w0 n atB byB A B qg off cap T hdr X ρ W) {b : Nat} (hb : W.heap.size ≤ b) (r : Nat) : FMem w0 n atB byB A B qg off cap T hdr X (fun x => if x = b then r else ρ x) W := by
  have key : ∀ x, x < W.heap.size → (if x = b then r else ρ x) = ρ x := fun x hx => if_neg (by omega)
  obtain ⟨cur, hq, hsz⟩ := h.que
  refine ⟨h.fr, h.hl, h.at_, (key _ (lt_of_heap h.at_)).trans h.atR, h.atN, h.by_, (key _ (lt_of_heap h.by_)).trans h.byR, h.byN, fun k v hv => ⟨(h.rows k v hv).1, fun g hg => ?_⟩, h.que, (key _ (lt_of_heap hq)).trans h.quR, h.quN, h.len, fun j p hp => ?_, fun p hp => ⟨(h.kept p hp).1, (key _ (lt_of_heap (h.kept p hp).1)).trans (h.kept p hp).2⟩⟩
  · obtain ⟨_, hh⟩ := row_heap2 (h.rows k v hv).1 hg
    exact (key _ (lt_of_heap hh)).trans ((h.rows k v hv).2 g hg)
  · obtain ⟨c, h1, h2, h3, h4⟩ := h.items j p hp
    exact ⟨c, h1, h2, (key _ (lt_of_heap h2)).trans h3, h4⟩
theorem FMem.cut1 {p : Nat × Nat} (h : FMem w0 n atB byB A B qg off cap (p :: T) hdr X ρ W) (hc : cap = 1) : FMem w0 n atB byB A B qg off 0 T hdr X ρ W ∧ T = [] := by
  have hl := h.len
  simp only [List.length_cons] at hl
  have hT : T = [] := List.length_eq_zero_iff.1 (by omega)
  subst hT
  obtain ⟨cur, hq, hsz⟩ := h.que
  exact ⟨⟨h.fr, h.hl, h.at_, h.atR, h.atN, h.by_, h.byR, h.byN, h.rows, ⟨cur, hq, by omega⟩, h.quR, h.quN, by simp, fun j p hp => by simp at hp, h.kept⟩, rfl⟩
theorem FMem.cut {p : Nat × Nat} (h : FMem w0 n atB byB A B qg off cap (p :: T) hdr X ρ W) : FMem w0 n atB byB A B qg (off + 1) (cap - 1) T hdr X ρ W := by
  have hl := h.len
  simp only [List.length_cons] at hl
  obtain ⟨cur, hq, hsz⟩ := h.que
  refine ⟨h.fr, h.hl, h.at_, h.atR, h.atN, h.by_, h.byR, h.byN, h.rows, ⟨cur, hq, by omega⟩, h.quR, h.quN, by omega, fun j p hp => ?_, h.kept⟩
  obtain ⟨b, h1, h2⟩ := h.items (j + 1) p (by simpa using hp)
  rw [show off + (j + 1) = off + 1 + j by omega] at h1
  exact ⟨b, h1, h2⟩
theorem FMem.add (h : FMem w0 n atB byB A B qg off cap T hdr X ρ W) {pc d : Nat} {v v' : Value} (hv : hdr[pc]? = some v) (ho : W'.ownsRow w0.heap.size 3 1 v' ((A pc).length + 1) (dInts (A pc) ++ [.int .i64 (d : Int)])) (hg : W.grownBy W' v.ownBlock) (hb : v'.ownBlock = v.ownBlock ∨ v'.ownBlock = some W.heap.size) :
    ∃ ρ', FMem w0 n atB byB (addAt A pc d) B qg off cap T (hdr.set pc v') X ρ' (W'.setCell ⟨atB, pc, none⟩ v') := by
  obtain ⟨hrow, hrol⟩ := h.rows pc v hv
  have hpl : pc < hdr.length := (List.getElem?_eq_some_iff.1 hv).1
  obtain ⟨ρ', hM, hr'⟩ : ∃ ρ', FMem w0 n atB byB A B qg off cap T hdr X ρ' W ∧ ∀ g, v'.ownBlock = some g → ρ' g = 4 + pc := by
    rcases hb with hb | hb
    · exact ⟨ρ, h, fun g hg => hrol g (hb ▸ hg)⟩
    · refine ⟨_, h.role (Nat.le_refl W.heap.size) (4 + pc), fun g hg => ?_⟩
      rw [hb] at hg
      cases hg
      exact if_pos rfl
  have hvr := (hM.rows pc v hv).2
  have hF : Fr v.ownBlock.toList W W' := (Fr.refl _ _).grown hg (fun k hk _ => by rw [hk]; simp)
  have hF2 : Fr (atB :: v.ownBlock.toList) W (W'.setCell ⟨atB, pc, none⟩ v') := (hF.mono (fun _ _ h => List.mem_cons_of_mem _ h)).setCell (fun _ => by simp) _
  have out : ∀ x, ρ' x ≠ 4 + pc → x ∉ v.ownBlock.toList := fun x hx hm => by
    simp at hm
    exact hx (hvr x hm)
  have out2 : ∀ x, ρ' x ≠ 4 + pc → ρ' x ≠ 0 → x ∉ atB :: v.ownBlock.toList := fun x h1 h2 hm => by
    rcases List.mem_cons.1 hm with rfl | hm
    · exact h2 hM.atR
    · exact out x h1 hm
  have hat := hF.heap (out atB (by rw [hM.atR]; omega)) hM.at_
  obtain ⟨cur, hq, hsz⟩ := hM.que
  refine ⟨ρ', hM.fr.join' hF2 (fun x hx => ?_), by simpa using hM.hl, ?_, hM.atR, hM.atN, hF2.heap (out2 byB (by rw [hM.byR]; omega) (by rw [hM.byR]; omega)) hM.by_, hM.byR, hM.byN, fun k u hu => ?_, ⟨cur, hF2.heap (out2 qg (by rw [hM.quR]; omega) (by rw [hM.quR]; omega)) hq, hsz⟩, hM.quR, hM.quN, hM.len, fun j p hp => ?_, fun p hp => ⟨hF2.heap (out2 p.1 (by rw [(hM.kept p hp).2]; omega) (by rw [(hM.kept p hp).2]; omega)) (hM.kept p hp).1, (hM.kept p hp).2⟩⟩
  · rcases List.mem_cons.1 hx with rfl | hx
    · exact hM.atN
    · simp at hx
      rcases hrow.2 with ⟨hn, -⟩ | ⟨g', cap, cur, rfl, hb, hgg, -⟩
      · rw [hn] at hx; cases hx
      · cases hx; exact hb
  · have := heap_setCell_same (o := pc) hat v'
    rw [this]
    simp
  · rw [List.getElem?_set] at hu
    split at hu
    · next e =>
      subst e
      try rw [if_pos hpl] at hu
      cases hu
      refine ⟨?_, hr'⟩
      have e : addAt A pc d pc = A pc ++ [d] := by unfold addAt; rw [if_pos rfl]
      rw [e]
      have h2 : (Fr [atB] W' (W'.setCell ⟨atB, pc, none⟩ v')) := (Fr.refl _ _).setCell (fun _ => by simp) _
      have := h2.row ho (fun g hg => by
        simp only [List.mem_singleton]
        rintro rfl
        have := hr' _ hg
        rw [hM.atR] at this
        omega)
      simpa [dInts] using this
    · next e =>
      have e2 : addAt A pc d k = A k := by unfold addAt; rw [if_neg (Ne.symm e)]
      rw [e2]
      refine ⟨hF2.row (hM.rows k u hu).1 (fun g hg => ?_), (hM.rows k u hu).2⟩
      have := (hM.rows k u hu).2 g hg
      exact out2 g (by omega) (by omega)
  · obtain ⟨b, h1, h2, h3, h4⟩ := hM.items j p hp
    exact ⟨b, hF2.cell (out2 qg (by rw [hM.quR]; omega) (by rw [hM.quR]; omega)) h1, hF2.heap (out2 b (by rw [h3]; omega) (by rw [h3]; omega)) h2, h3, h4⟩
theorem FMem.mark (h : FMem w0 n atB byB A B qg off cap T hdr X ρ W) {pc : Nat} (hp : pc < n) : FMem w0 n atB byB A (fun k => if k = pc then true else B k) qg off cap T hdr X ρ (W.setCell ⟨byB, pc, none⟩ (.bool true)) := by
  have hF : Fr [byB] W (W.setCell ⟨byB, pc, none⟩ (.bool true)) := (Fr.refl _ _).setCell (fun _ => by simp) _
  have out : ∀ x, ρ x ≠ 1 → x ∉ [byB] := fun x hx hm => by
    simp at hm
    subst hm
    exact hx h.byR
  obtain ⟨cur, hq, hsz⟩ := h.que
  refine ⟨h.fr.join' hF (fun x hx => by simp at hx; rw [hx]; exact h.byN), h.hl, hF.heap (out _ (by rw [h.atR]; omega)) h.at_, h.atR, h.atN, ?_, h.byR, h.byN, fun k v hv => ⟨hF.row (h.rows k v hv).1 (fun g hg => out g (by have := (h.rows k v hv).2 g hg; omega)), (h.rows k v hv).2⟩, ⟨cur, hF.heap (out _ (by rw [h.quR]; omega)) hq, hsz⟩, h.quR, h.quN, h.len, fun j p hp => ?_, fun p hp => ⟨hF.heap (out _ (by rw [(h.kept p hp).2]; omega)) (h.kept p hp).1, (h.kept p hp).2⟩⟩
  · have := heap_setCell_same (o := pc) h.by_ (.bool true)
    rw [this]
    congr 2
    apply Array.ext'
    simp only [List.setIfInBounds_toArray]
    refine List.ext_getElem? fun k => ?_
    rw [List.getElem?_set]
    simp only [List.getElem?_map, List.length_map, List.length_range]
    by_cases e : pc = k
    · subst e
      rw [if_pos rfl, if_pos hp, List.getElem?_range hp]
      simp
    · rw [if_neg e]
      by_cases hk : k < n
      · rw [List.getElem?_range hk]
        simp [Ne.symm e]
      · rw [List.getElem?_eq_none (by simp; omega)]
        rfl
  · obtain ⟨b, h1, h2, h3, h4⟩ := h.items j p hp
    exact ⟨b, hF.cell (out _ (by rw [h.quR]; omega)) h1, hF.heap (out _ (by rw [h3]; omega)) h2, h3, h4⟩
theorem FMem.begin {pb : Nat} {v' : Value} (hF : Fr [] w0 W) (hat : W.heap[atB]? = some (.cells (List.replicate n (Value.slice none 0 0)).toArray 31 (0, 0))) (hby : W.heap[byB]? = some (.cells (List.replicate n (Value.bool false)).toArray 4 (0, 0))) (hpb : W.heap[pb]? = some (.cells #[.int .i64 0, .int .i64 0] 3 (0, 0))) (hX : ∀ p ∈ X, W.heap[p.1]? = some p.2 ∧ p.1 < atB) (n1 : w0.heap.size ≤ atB) (n2 : atB < byB) (n3 : byB < pb) (ho : W'.ownsRow w0.heap.size 31 1 v' 1 [.slice (some ⟨pb, 0, none⟩) 2 2]) (hg : W.grownBy W' none) (hb : v'.ownBlock = none ∨ v'.ownBlock = some W.heap.size) :
    ∃ cap ρ, v' = .slice (some ⟨W.heap.size, 0, none⟩) 1 cap ∧ FMem w0 n atB byB (fun _ => []) (fun _ => false) W.heap.size 0 cap [(0, 0)] (List.replicate n (.slice none 0 0)) X ρ W' := by
  have hF2 : Fr [] W W' := (Fr.refl _ _).grown hg (fun _ h => by cases h)
  have hlt := lt_of_heap hpb
  rcases ho.2 with ⟨-, h0⟩ | ⟨g', cap', cur', rfl, hgb, hh, hnc, hcm, hcs, htk⟩
  · omega
  · have hb' : g' = W.heap.size := by
      rcases hb with hb | hb
      · cases hb
      · cases hb; rfl
    subst hb'
    refine ⟨cap', fun x => if x = atB then 0 else if x = byB then 1 else if x = W.heap.size then 2 else 3, rfl, hF.trans hF2, by simp, hF2.heap (by simp) hat, by simp, n1, ?_, by simp; omega, by omega, fun k v hv => ?_, ⟨cur', hh, by omega⟩, ?_, hgb, by simpa using hnc, fun j p hp => ?_, fun p hp => ⟨hF2.heap (by simp) (hX p hp).1, ?_⟩⟩
    · rw [hF2.heap (by simp) hby]
      congr 2
      apply Array.ext'
      refine List.ext_getElem? fun k => ?_
      by_cases hk : k < n
      · simp [hk]
      · simp [hk]
    · rw [List.getElem?_replicate] at hv
      split at hv
      · cases hv
        exact ⟨World.ownsRow_nil _ _ _ _, fun g hg => by cases hg⟩
      · cases hv
    · show (if W.heap.size = atB then 0 else if W.heap.size = byB then 1 else if W.heap.size = W.heap.size then 2 else 3) = 2
      rw [if_neg (by omega), if_neg (by omega), if_pos rfl]
    · have hj : j = 0 := by
        by_cases e : j = 0
        · exact e
        · rw [List.getElem?_eq_none (by simp; omega)] at hp; cases hp
      subst hj
      cases hp
      refine ⟨pb, ?_, hF2.heap (by simp) hpb, ?_, by omega⟩
      · obtain ⟨_, _, e2, h2⟩ := row_rowAt ho 0 (.slice (some ⟨pb, 0, none⟩) 2 2) rfl
        cases e2
        simpa using h2
      · show (if pb = atB then 0 else if pb = byB then 1 else if pb = W.heap.size then 2 else 3) = 3
        rw [if_neg (by omega), if_neg (by omega), if_neg (by omega)]
    · have h1 := (hX p hp).2
      show (if p.1 = atB then 0 else if p.1 = byB then 1 else if p.1 = W.heap.size then 2 else 3) = 3
      rw [if_neg (by omega), if_neg (by omega), if_neg (by omega)]
theorem FMem.hold (h : FMem w0 n atB byB A B qg off cap T hdr X ρ W) {b : Nat} {o : Obj} (hb : W.heap[b]? = some o) (hr : ρ b = 3) : FMem w0 n atB byB A B qg off cap T hdr ((b, o) :: X) ρ W :=
  ⟨h.fr, h.hl, h.at_, h.atR, h.atN, h.by_, h.byR, h.byN, h.rows, h.que, h.quR, h.quN, h.len, h.items, fun p hp => by
    rcases List.mem_cons.1 hp with rfl | hp
    · exact ⟨hb, hr⟩
    · exact h.kept p hp⟩
theorem FMem.fewer (h : FMem w0 n atB byB A B qg off cap T hdr X ρ W) {X' : List (Nat × Obj)} (hs : ∀ p ∈ X', p ∈ X) : FMem w0 n atB byB A B qg off cap T hdr X' ρ W :=
  ⟨h.fr, h.hl, h.at_, h.atR, h.atN, h.by_, h.byR, h.byN, h.rows, h.que, h.quR, h.quN, h.len, h.items, fun p hp => h.kept p (hs p hp)⟩
/-- a new row is kept, too -/
theorem FMem.holdRow (h : FMem w0 n atB byB A B qg off cap T hdr X ρ W) (hF : Fr [] W W') {na : Option Addr} {xs : List Value} (hR : RowAt W' na xs) (hn : ∀ a, na = some a → W.heap.size ≤ a.block) :
    ∃ X' ρ', FMem w0 n atB byB A B qg off cap T hdr X' ρ' W' ∧ (∀ p ∈ X, p ∈ X') ∧ ∀ (A2 : Nat → List Nat) (B2 : Nat → Bool) (qg2 off2 cap2 : Nat) (T2 : List (Nat × Nat)) (hdr2 : List Value) (ρ2 : Nat → Nat) (W2 : World), FMem w0 n atB byB A2 B2 qg2 off2 cap2 T2 hdr2 X' ρ2 W2 → RowAt W2 na xs := by
  cases xs with
  | nil => exact ⟨X, ρ, h.still hF, fun _ h => h, fun _ _ _ _ _ _ _ _ _ _ j u hj => by simp at hj⟩
  | cons x xs =>
    obtain ⟨b, o, rfl, c⟩ := hR 0 x rfl
    have hlt := World.block_lt_of_cell? W' _ c
    have hb := hn _ rfl
    simp only at hb hlt
    have ho : W'.heap[b]? = some W'.heap[b] := Array.getElem?_eq_getElem hlt
    refine ⟨(b, W'.heap[b]) :: X, _, ((h.role hb 3).still hF).hold ho (if_pos rfl), fun p hp => List.mem_cons_of_mem _ hp, fun _ _ _ _ _ _ _ _ W2 h2 j u hj => ?_⟩
    obtain ⟨b', o', e, c'⟩ := hR j u hj
    cases e
    refine ⟨b, o, rfl, ?_⟩
    have hk := (h2.kept _ (List.mem_cons_self ..)).1
    exact (World.cell?_of_block (by rw [hk, ho])).trans c'
theorem FMem.first {p : Nat × Nat} (h : FMem w0 n atB byB A B qg off cap (p :: T) hdr X ρ W) : ∃ b, W.cell? ⟨qg, off, none⟩ = some (.slice (some ⟨b, 0, none⟩) 2 2) ∧ W.cell? ⟨b, 0, none⟩ = some (.int .i64 (p.1 : Int)) ∧ W.cell? ⟨b, 1, none⟩ = some (.int .i64 (p.2 : Int)) := by
  obtain ⟨b, h1, h2, -, -⟩ := h.items 0 p rfl
  exact ⟨b, h1, cell_of_heap h2 rfl, cell_of_heap h2 rfl⟩
theorem FMem.atAt (h : FMem w0 n atB byB A B qg off cap T hdr X ρ W) {pc : Nat} (hp : pc < n) : ∃ la lc, hdr[pc]? = some (.slice la (A pc).length lc) ∧ W.cell? ⟨atB, pc, none⟩ = some (.slice la (A pc).length lc) ∧ W.ownsRow w0.heap.size 3 1 (.slice la (A pc).length lc) (A pc).length (dInts (A pc)) ∧ RowAt W la (dInts (A pc)) := by
  have hl : pc < hdr.length := by rw [h.hl]; exact hp
  have hv := List.getElem?_eq_getElem hl
  have ho := (h.rows pc _ hv).1
  obtain ⟨la, lc, e⟩ := row_shape' ho
  rw [e] at hv ho
  exact ⟨la, lc, hv, cell_of_heap h.at_ (by simpa using hv), ho, row_rowAt ho⟩
theorem FMem.ready (h : FMem w0 n atB byB A B qg off cap T hdr X ρ W) {pc : Nat} {v : Value} (hv : hdr[pc]? = some v) (hg : W.grownBy W' v.ownBlock) : W'.cell? ⟨atB, pc, none⟩ = some v ∧ W'.frozen? ⟨atB, pc, none⟩ = false := by
  have hF : Fr v.ownBlock.toList W W' := (Fr.refl _ _).grown hg (fun k hk _ => by rw [hk]; simp)
  have hout : atB ∉ v.ownBlock.toList := fun hm => by
    simp at hm
    have := (h.rows pc v hv).2 _ hm
    rw [h.atR] at this
    omega
  have hat := hF.heap hout h.at_
  exact ⟨cell_of_heap hat (by simpa using hv), frozen_of_heap hat⟩
theorem FMem.atFree (h : FMem w0 n atB byB A B qg off cap T hdr X ρ W) (k : Nat) : W.frozen? ⟨atB, k, none⟩ = false := frozen_of_heap h.at_
theorem FMem.byAt (h : FMem w0 n atB byB A B qg off cap T hdr X ρ W) {pc : Nat} (hp : pc < n) : W.cell? ⟨byB, pc, none⟩ = some (.bool (B pc)) ∧ W.frozen? ⟨byB, pc, none⟩ = false :=
  ⟨cell_of_heap h.by_ (by simp [hp]), frozen_of_heap h.by_⟩
end
theorem infoB : (Tryz.prog.info? 4).map (fun i => (i.zero, i.size, i.bytes)) = some (some (.bool false), 1, 1) := by kernel_rfl
theorem makeBs (n : Nat) (h2 : n ≤ 65536) (W : World) : (Instr.makeSlice 26 (.int .i64 (n : Int)) (.int .i64 (n : Int))).run Tryz.prog W = .ok (.slice (some ⟨W.heap.size, 0, none⟩) n n) (W.alloc (.cells (List.replicate n (Value.bool false)).toArray 4)) := by
  obtain ⟨i0, hi, hz0, hz1, hz2⟩ := info_parts infoB
  have hr := run_make (P := Tryz.prog) W 26 4 i0 (.bool false) Tryz.underlying26 hi hz0 .i64 .i64 n n (by omega) (by omega) (by rw [hz2]; omega) (by omega)
  simp only [Int.toNat_natCast, hz1, Nat.mul_one] at hr
  rw [made_one _ _ rfl] at hr
  exact hr
end Go.Proofs.YtbmfmklalonhiaaGreatDoor
