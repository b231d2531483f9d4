/- Rows of words that are taken from the front and put behind: plain, over any program. What the document's gc reaches: plain. The document's gc: what is reached. The document's gc: a word, as it leads then. The document's gc: where objects go: plain. The document's gc: the objects that are kept, one after another. -/
import Derived.Test.YtjjkbdkalnhcbaaGreatDoorMWords
import Derived.Test.YtjjkbdkalnhcbaaGreatDoorMPlaces
import Derived.Test.YtjjkbdkalnhcbaaGreatDoorMLists
import Derived.Test.YtjjkbdkalnhcbaaGreatDoorMPlain
import Derived.Test.YtjjkbdkalnhcbaaGreatDoorMLoading
import Derived.Test.YtjjkbdkalnhcbaaGreatDoorMRefs
import Derived.Test.YtjjkbdkalnhcbaaGreatDoorMRLoads
import Derived.ArgAppend
import Derived.Deep.AppendSrc
import Derived.Deep.DeepAppendWide
import Derived.Deep.LoopGhost
import Derived.LaidEqlPtr
import Derived.Lib.Builder
namespace Go.Proofs.YtjjkbdkalnhcbaaGreatDoor
open Go.RowKit

/-- cells that are written one behind the other -/
def setQ (c : Array Value) : Nat → List Value → Array Value
  | _, [] => c
  | o, v :: r => setQ (c.setIfInBounds o v) (o + 1) r
theorem setQ_size : ∀ (vs : List Value) (c : Array Value) (o : Nat), (setQ c o vs).size = c.size
  | [], _, _ => rfl
  | v :: r, c, o => by rw [setQ, setQ_size r]; simp
theorem setQ_get : ∀ (vs : List Value) (c : Array Value) (o t : Nat), o + vs.length ≤ c.size → (setQ c o vs)[t]? = if o ≤ t ∧ t < o + vs.length then vs[t - o]? else c[t]?
  | [], c, o, t, _ => by
    rw [if_neg (fun h => by simp at h; omega)]
    rfl
  | v :: r, c, o, t, h => by
    simp only [List.length_cons] at h
    rw [setQ, setQ_get r _ _ _ (by simp; omega)]
    by_cases h1 : o + 1 ≤ t ∧ t < o + 1 + r.length
    · rw [if_pos h1, if_pos (by simp; omega)]
      obtain ⟨k, hk⟩ : ∃ k, t - o = k + 1 := ⟨t - o - 1, by omega⟩
      rw [hk, List.getElem?_cons_succ]
      congr 1; omega
    · rw [if_neg h1, Array.getElem?_setIfInBounds]
      by_cases h2 : t = o
      · subst h2
        rw [if_pos rfl, if_pos (by omega), if_pos (by simp)]
        simp
      · rw [if_neg (fun e => h2 e.symm), if_neg (by simp; omega)]
theorem heap_setQ : ∀ (vs : List Value) {w : World} {b : Nat} {c : Array Value} {t : TypeId} {f : Nat × Nat} (o : Nat), w.heap[b]? = some (.cells c t f) → (w.setCells b o vs).heap[b]? = some (.cells (setQ c o vs) t f)
  | [], _, _, _, _, _, _, h => h
  | v :: r, _, _, _, _, _, o, h => by rw [World.setCells, setQ]; exact heap_setQ r (o + 1) (heap_setCell_same h v)
theorem Fr.setQ : ∀ (vs : List Value) {S : List Nat} {a w : World} (_ : Fr S a w) (b o : Nat) (_ : b ∈ S), Fr S a (w.setCells b o vs)
  | [], _, _, _, h, _, _, _ => h
  | v :: r, _, _, _, h, b, o, hb => by rw [World.setCells]; exact Fr.setQ r (h.setCell (fun _ => hb) v) b (o + 1) hb
/-- nothing is appended -/
theorem append_none_src {P : Program} (w : World) (t tx ty e : TypeId) (i : TypeInfo) (ht : P.underlying t = some (.slice e)) (hi : P.info? e = some i) (base : Option Addr) (sLen sCap : Nat) (hle : sLen ≤ sCap) (x : Value) (hs : Src P i.size tx x 0 [] w) :
    (Builtin.append_ #[t, tx] ty #[.slice base sLen sCap, x]).run P w = .ok (.slice base sLen sCap) w := by
  rcases hs.kind with ⟨e', hk⟩ | hk <;> cases base <;> simp [Builtin.append_, run_underlying ht, run_underlying hk, sizeOf, typeInfo, hi, hs.len, hle, hs.cells, storeCells]
/-- a queue of words: they lie one behind the other, from some place on -/
structure QueW (w : World) (g off cap : Nat) (ps : List Int) : Prop where
  row : ∃ cur, w.heap[g]? = some (.cells cur 24 (0, 0)) ∧ off + cap ≤ cur.size
  len : ps.length ≤ cap
  cells : ∀ j x, ps[j]? = some x → w.cell? ⟨g, off + j, none⟩ = some (.int .u64 x)
theorem QueW.fr {w w' : World} {g off cap : Nat} {ps : List Int} {S : List Nat} (h : QueW w g off cap ps) (hF : Fr S w w') (hg : g ∉ S) : QueW w' g off cap ps := by
  obtain ⟨cur, h1, h2⟩ := h.row
  exact ⟨⟨cur, hF.heap hg h1, h2⟩, h.len, fun j u hj => hF.cell (p := ⟨g, off + j, none⟩) hg (h.cells j u hj)⟩
theorem QueW.lt {w : World} {g off cap : Nat} {ps : List Int} (h : QueW w g off cap ps) : g < w.heap.size := by
  obtain ⟨cur, h1, -⟩ := h.row
  exact lt_of_heap h1
theorem QueW.ofRow {w : World} {v : Value} {ps : List Int} (h : w.ownsRow 0 24 1 v ps.length (ps.map (Value.int .u64))) (hn : 0 < ps.length) : ∃ g cap, v = .slice (some ⟨g, 0, none⟩) ps.length cap ∧ v.ownBlock = some g ∧ QueW w g 0 cap ps := by
  rcases h.2 with ⟨-, h0⟩ | ⟨g, cap, cur, rfl, hb, hh, hnc, hcm, hcs, htk⟩
  · omega
  · refine ⟨g, cap, rfl, rfl, ⟨⟨cur, hh, by omega⟩, hnc, fun j x hj => ?_⟩⟩
    obtain ⟨g', c', e, hc, -, -⟩ := row_at h (i := j) (List.getElem?_eq_some_iff.1 hj).1
    cases e
    rw [Nat.zero_add, hc]
    simp [hj]
/-- behind an append -/
theorem QueW.append {w : World} {g off cap : Nat} {ps : List Int} (h : QueW w g off cap ps) (news : List Int) {ao : Option Addr} {c : Nat} (ha : WordsAt w ao news) (hn : ps.length + news.length ≤ 20000000000000) (ty : TypeId) :
    ∃ g' off' cap' w', (Builtin.append_ #[25, 25] ty #[.slice (some ⟨g, off, none⟩) ps.length cap, .slice ao news.length c]).run Tryz.prog w = .ok (.slice (some ⟨g', off', none⟩) (ps.length + news.length) cap') w' ∧ QueW w' g' off' cap' (ps ++ news) ∧ Fr [g] w w' ∧ (g' = g ∨ w.heap.size ≤ g') := by
  obtain ⟨i0, hi, hz0, hz1, hz2⟩ := info_parts infoWord
  by_cases h0 : news = []
  · subst h0
    have hs : Src Tryz.prog i0.size 25 (.slice ao 0 c) 0 [] w := by
      cases ao with
      | none => exact Src.ofNil w Tryz.underlying25 c
      | some a => exact Src.ofSlice w Tryz.underlying25 a 0 c [] (by simp) (fun j u hj => by simp at hj) (fun u hu => by cases hu)
    refine ⟨g, off, cap, w, append_none_src w 25 25 ty 24 i0 Tryz.underlying25 hi (some ⟨g, off, none⟩) ps.length cap h.len _ hs, by simpa using h, Fr.refl _ _, .inl rfl⟩
  · obtain ⟨ag, aoff, rfl⟩ : ∃ ag aoff, ao = some ⟨ag, aoff, none⟩ := by
      obtain ⟨ag, aoff, e, -⟩ := ha 0 _ (List.getElem?_eq_getElem (List.length_pos_iff.2 h0))
      exact ⟨ag, aoff, e⟩
    have hac : ∀ j u, (news.map (Value.int .u64))[j]? = some u → w.cell? ((⟨ag, aoff, none⟩ : Addr).add j) = some u := fun j u hj => by
      rw [List.getElem?_map] at hj
      obtain ⟨x, hx, rfl⟩ := Option.map_eq_some_iff.1 hj
      obtain ⟨g', o', e, hc⟩ := ha j x hx
      cases e
      rw [Lib.add_plain]
      exact hc
    obtain ⟨cur, hc, hsz⟩ := h.row
    have hnl : (news.map (Value.int .u64)).length = news.length * 1 := by simp
    by_cases hroom : ps.length + news.length ≤ cap
    · have hcell : ∀ j, j < news.length → w.cell? ⟨g, off + ps.length * 1 + j, none⟩ = some (cur[off + ps.length * 1 + j]?.getD undef) := fun j hj => cell_of_heap hc (by rw [Array.getElem?_eq_getElem (by omega)]; rfl)
      have hr := run_append_room_cells (P := Tryz.prog) w 25 ty 24 i0 Tryz.underlying25 hi g off ps.length cap ⟨ag, aoff, none⟩ news.length c (news.map (Value.int .u64)) (by rw [hz1]; exact hnl) hac (ints_one news) hroom (fun j hj => by rw [hz1, hcell j (by simpa using hj)]; rfl) (fun j hj => frozen_of_heap hc)
      rw [hz1] at hr
      have hF : Fr [g] w (w.setCells g (off + ps.length * 1) (news.map (Value.int .u64))) := Fr.setQ _ (Fr.refl _ _) g _ (by simp)
      have hh := heap_setQ (news.map (Value.int .u64)) (off + ps.length * 1) hc
      refine ⟨g, off, cap, _, hr, ⟨⟨_, hh, by rw [setQ_size]; exact hsz⟩, by simpa using hroom, fun j x hj => ?_⟩, hF, .inl rfl⟩
      refine cell_of_heap hh ?_
      rw [setQ_get _ _ _ _ (by simp; omega)]
      by_cases hlt : j < ps.length
      · rw [if_neg (by omega)]
        rw [List.getElem?_append_left hlt] at hj
        have := h.cells j x hj
        simpa [World.cell?, hc] using this
      · have hjl := (List.getElem?_eq_some_iff.1 hj).1
        rw [List.length_append] at hjl
        rw [List.getElem?_append_right (by omega)] at hj
        rw [if_pos (by simp; omega), List.getElem?_map, show off + j - (off + ps.length * 1) = j - ps.length by omega, hj]
        rfl
    · have hr := run_append_grow (P := Tryz.prog) w 25 ty 24 i0 (.int .u64 0) Tryz.underlying25 hi hz0 ⟨g, off, none⟩ ps.length cap (ps.map (Value.int .u64)) (by rw [hz1]; simp) (fun j u hj => by
        rw [List.getElem?_map] at hj
        obtain ⟨x, hx, rfl⟩ := Option.map_eq_some_iff.1 hj
        rw [Lib.add_plain]
        exact h.cells j x hx) ⟨ag, aoff, none⟩ news.length c (news.map (Value.int .u64)) (by rw [hz1]; exact hnl) hac (by omega) (by omega) (by rw [hz2]; exact growslice_fits_wide (by omega) (by omega))
      have hge := grownCap_ge w (ps.length + news.length) cap 24
      refine ⟨w.heap.size, 0, _, _, hr, ⟨⟨_, heap_new w.drew _, ?_⟩, by rw [List.length_append]; exact hge, fun j x hj => ?_⟩, ((Fr.refl _ _).drew).alloc _, .inr (Nat.le_refl _)⟩
      · rw [Array.size_append, Array.size_append, size_zeroCells]
        simp [Value.cells]
        omega
      · refine cell_of_heap (heap_new w.drew _) ?_
        have hjl := (List.getElem?_eq_some_iff.1 hj).1
        rw [List.length_append] at hjl
        rw [Array.getElem?_append_left (by simp; omega), Nat.zero_add]
        have e : (ps.map (Value.int .u64)).toArray ++ (news.map (Value.int .u64)).toArray = ((ps ++ news).map (Value.int .u64)).toArray := by simp
        rw [e, List.getElem?_toArray, List.getElem?_map, hj]
        rfl
theorem QueW.tail {w : World} {g off cap : Nat} {p : Int} {ps : List Int} (h : QueW w g off cap (p :: ps)) : QueW w g (off + 1) (cap - 1) ps := by
  obtain ⟨cur, h1, h2⟩ := h.row
  have hl := h.len
  simp only [List.length_cons] at hl
  refine ⟨⟨cur, h1, by omega⟩, by omega, fun j u hj => ?_⟩
  have := h.cells (j + 1) u (by simpa using hj)
  rw [show off + 1 + j = off + (j + 1) by omega]
  exact this
theorem QueW.none {w : World} {g off cap : Nat} {ps : List Int} (h : QueW w g off cap ps) : QueW w g off 0 [] := by
  obtain ⟨cur, h1, h2⟩ := h.row
  exact ⟨⟨cur, h1, by omega⟩, by simp, fun j u hj => by simp at hj⟩
theorem quew_pop {w : World} {g off cap : Nat} {p : Int} {ps : List Int} (h : QueW w g off cap (p :: ps)) : ∃ off2 cap2, QueW w g off2 cap2 ps ∧ ∀ W : World, (Instr.sliceAt 25 (.slice (some ⟨g, off, none⟩) (ps.length + 1) cap) (some (.int .i64 1)) none none).run Tryz.prog W = .ok (.slice (some ⟨g, off2, none⟩) ps.length cap2) W := by
  have hl := h.len
  simp only [List.length_cons] at hl
  obtain ⟨i0, hi0, hz0, hz1, hz2⟩ := info_parts infoWord
  have hsz : ∀ W : World, (sizeOf (Tryz.prog.elem 25)).run Tryz.prog W = .ok 1 W := fun W => by
    rw [show Tryz.prog.elem 25 = 24 by kernel_rfl]
    simp [sizeOf, typeInfo, hi0, hz1]
  have hu : Tryz.prog.underlying 25 = some (.slice (Tryz.prog.elem 25)) := by kernel_rfl
  have hr : ∀ W : World, (Instr.sliceAt 25 (.slice (some ⟨g, off, none⟩) (ps.length + 1) cap) (some (.int .i64 1)) none none).run Tryz.prog W = .ok (sliced (some ⟨g, off, none⟩) 1 (ps.length + 1) cap 1) W := fun W => by
    rw [run_sliceAt_slice W 25 _ _ _ _ hu, run_slice_l W 25 _ _ _ hu .i64 1 (by omega) (by omega), hsz]
    rfl
  by_cases hc : cap = 1
  · have hps : ps = [] := List.eq_nil_of_length_eq_zero (by omega)
    refine ⟨off, 0, by rw [hps]; exact h.none, fun W => ?_⟩
    rw [hr]
    simp [sliced, hc]
  · refine ⟨off + 1, cap - 1, h.tail, fun W => ?_⟩
    rw [hr]
    simp [sliced, hc, Addr.add]
end Go.Proofs.YtjjkbdkalnhcbaaGreatDoor
namespace Go.Proofs.YtjjkbdkalnhcbaaGreatDoor

/-- the word that names the i-th object -/
def refI (os : List Ob) (i : Nat) : Int := 2 * (endOf (os.take i) : Int)
theorem refI_inj {os : List Ob} {i j : Nat} (hi : i < os.length) (hj : j < os.length) (h : refI os i = refI os j) : i = j := end_take_inj hi hj (by unfold refI at h; omega)
def Mk (os : List Ob) (M : List Bool) (y : Int) : Prop := ∃ i, M[i]? = some true ∧ y = refI os i
theorem Mk.set {os : List Ob} {M : List Bool} {y : Int} (h : Mk os M y) (k : Nat) : Mk os (M.set k true) y := by
  obtain ⟨i, h1, h2⟩ := h
  refine ⟨i, ?_, h2⟩
  have hl := (List.getElem?_eq_some_iff.1 h1).1
  rw [List.getElem?_set]
  split
  · next e => rw [if_pos (by omega)]
  · exact h1
/-- while a word is looked up -/
structure RInv (os : List Ob) (rts : List Int) (w : Int) (k : Nat) (M : List Bool) (Q : List Int) : Prop where
  len : M.length = os.length
  mks : ∀ i, M[i]? = some true → Rch os rts (refI os i)
  wr : (lookP 1 os w).isSome = true → Rch os rts w
  qr : ∀ x ∈ Q, (lookP 1 os x).isSome = true → Rch os rts x
  all : ∀ y, (y ∈ rts ∨ ∃ (i : Nat) (o : Ob), M[i]? = some true ∧ os[i]? = some o ∧ (y = o.1 ∨ y ∈ o.2.2)) → (lookP 1 os y).isSome = true → y ∈ Q ∨ Mk os M y ∨ (y = w ∧ ∀ i, i < k → y ≠ refI os i)
/-- between two words -/
structure ROut (os : List Ob) (rts : List Int) (M : List Bool) (Q : List Int) : Prop where
  len : M.length = os.length
  mks : ∀ i, M[i]? = some true → Rch os rts (refI os i)
  qr : ∀ x ∈ Q, (lookP 1 os x).isSome = true → Rch os rts x
  all : ∀ y, (y ∈ rts ∨ ∃ (i : Nat) (o : Ob), M[i]? = some true ∧ os[i]? = some o ∧ (y = o.1 ∨ y ∈ o.2.2)) → (lookP 1 os y).isSome = true → y ∈ Q ∨ Mk os M y
theorem rep_get {n i : Nat} {b c : Bool} (h : (List.replicate n b)[i]? = some c) : c = b := by
  rw [List.getElem?_replicate] at h
  split at h
  · exact (Option.some.inj h).symm
  · cases h
theorem ROut.start (os : List Ob) (rts : List Int) : ROut os rts (List.replicate os.length false) rts := by
  refine ⟨by simp, fun i h => (by cases rep_get h), fun x hx hs => .root hx hs, ?_⟩
  rintro y (h | ⟨i, o, h, -⟩) -
  · exact .inl h
  · cases rep_get h
theorem ROut.pop {os : List Ob} {rts : List Int} {M : List Bool} {w : Int} {Q : List Int} (h : ROut os rts M (w :: Q)) : RInv os rts w 0 M Q := by
  refine ⟨h.len, h.mks, h.qr w (by simp), fun x hx => h.qr x (by simp [hx]), fun y hy hs => ?_⟩
  rcases h.all y hy hs with h1 | h1
  · rcases List.mem_cons.1 h1 with rfl | h1
    · exact .inr (.inr ⟨rfl, fun i hi => by omega⟩)
    · exact .inl h1
  · exact .inr (.inl h1)
theorem RInv.skip {os : List Ob} {rts : List Int} {w : Int} {k : Nat} {M : List Bool} {Q : List Int} (h : RInv os rts w k M Q) (hk : w ≠ refI os k ∨ M[k]? = some true) : RInv os rts w (k + 1) M Q := by
  refine ⟨h.len, h.mks, h.wr, h.qr, fun y hy hs => ?_⟩
  rcases h.all y hy hs with h1 | h1 | ⟨rfl, h1⟩
  · exact .inl h1
  · exact .inr (.inl h1)
  · rcases hk with hk | hk
    · refine .inr (.inr ⟨rfl, fun i hi => ?_⟩)
      by_cases e : i = k
      · rw [e]; exact hk
      · exact h1 i (by omega)
    · by_cases e : y = refI os k
      · exact .inr (.inl ⟨k, hk, e⟩)
      · refine .inr (.inr ⟨rfl, fun i hi => ?_⟩)
        by_cases e' : i = k
        · rw [e']; exact e
        · exact h1 i (by omega)
theorem RInv.mark {os : List Ob} {rts : List Int} {w : Int} {k : Nat} {M : List Bool} {Q : List Int} (h : RInv os rts w k M Q) {o : Ob} (ho : os[k]? = some o) (hw : w = refI os k) : RInv os rts w (k + 1) (M.set k true) (Q ++ o.1 :: o.2.2) := by
  have hlk : lookP 1 os w = some o := by rw [hw]; exact look_of_ref ho
  have hR : Rch os rts w := h.wr (by rw [hlk]; rfl)
  have hkl := (List.getElem?_eq_some_iff.1 ho).1
  have hat : ∀ i, (M.set k true)[i]? = some true → i = k ∨ M[i]? = some true := fun i hi => by
    rw [List.getElem?_set] at hi
    split at hi
    · next e => exact .inl e.symm
    · exact .inr hi
  refine ⟨by simp [h.len], fun i hi => ?_, fun _ => hR, fun x hx hs => ?_, fun y hy hs => ?_⟩
  · rcases hat i hi with rfl | hi
    · rw [← hw]; exact hR
    · exact h.mks i hi
  · rcases List.mem_append.1 hx with hx | hx
    · exact h.qr x hx hs
    · rw [List.mem_cons] at hx
      exact .step hR hlk hx hs
  · by_cases hyw : y = w
    · exact .inr (.inl ⟨k, by rw [List.getElem?_set, if_pos rfl, if_pos (by rw [h.len]; exact hkl)], by rw [hyw, hw]⟩)
    · have hold : (y ∈ rts ∨ ∃ (i : Nat) (o : Ob), M[i]? = some true ∧ os[i]? = some o ∧ (y = o.1 ∨ y ∈ o.2.2)) ∨ (y = o.1 ∨ y ∈ o.2.2) := by
        rcases hy with hy | ⟨i, o', h1, h2, h3⟩
        · exact .inl (.inl hy)
        · rcases hat i h1 with rfl | h1
          · rw [ho] at h2
            cases h2
            exact .inr h3
          · exact .inl (.inr ⟨i, o', h1, h2, h3⟩)
      rcases hold with hold | hnew
      · rcases h.all y hold hs with h1 | h1 | ⟨e, -⟩
        · exact .inl (List.mem_append_left _ h1)
        · exact .inr (.inl (h1.set k))
        · exact absurd e hyw
      · exact .inl (List.mem_append_right _ (by simpa using hnew))
theorem RInv.done {os : List Ob} {rts : List Int} {w : Int} {M : List Bool} {Q : List Int} (h : RInv os rts w os.length M Q) : ROut os rts M Q := by
  refine ⟨h.len, h.mks, h.qr, fun y hy hs => ?_⟩
  rcases h.all y hy hs with h1 | h1 | ⟨-, h1⟩
  · exact .inl h1
  · exact .inr h1
  · obtain ⟨o, ho⟩ := Option.isSome_iff_exists.1 hs
    obtain ⟨i, hi, e, -⟩ := look_ref ho
    exact absurd e (h1 i (List.getElem?_eq_some_iff.1 hi).1)
/-- which objects are kept -/
noncomputable def keepB (os : List Ob) (rts : List Int) : List Bool := (List.range os.length).map fun i => keepR os rts (refI os i)
theorem ROut.end_ {os : List Ob} {rts : List Int} {M : List Bool} (h : ROut os rts M []) : M = keepB os rts := by
  have hall : ∀ y, Rch os rts y → Mk os M y := fun y hy => by
    induction hy with
    | root h1 h2 =>
      rcases h.all _ (.inl h1) h2 with h3 | h3
      · cases h3
      · exact h3
    | step h1 h2 h3 h4 ih =>
      obtain ⟨i, hi, e⟩ := ih
      have hil : i < os.length := by rw [← h.len]; exact (List.getElem?_eq_some_iff.1 hi).1
      obtain ⟨j, hj, e2, -⟩ := look_ref h2
      have hij : i = j := refI_inj hil (List.getElem?_eq_some_iff.1 hj).1 (e.symm.trans e2)
      subst hij
      rcases h.all _ (.inr ⟨i, _, hi, hj, h3⟩) h4 with h5 | h5
      · cases h5
      · exact h5
  apply List.ext_getElem?
  intro i
  by_cases hi : i < os.length
  · have hM : i < M.length := by rw [h.len]; exact hi
    have hr : (keepB os rts)[i]? = some (keepR os rts (refI os i)) := by simp [keepB, hi]
    rw [hr, List.getElem?_eq_getElem hM]
    congr 1
    cases hm : M[i] with
    | true => exact (keepR_iff.2 (h.mks i (by rw [List.getElem?_eq_getElem hM, hm]))).symm
    | false =>
      cases hk : keepR os rts (refI os i) with
      | false => rfl
      | true =>
        obtain ⟨j, hj, e⟩ := hall _ (keepR_iff.1 hk)
        have hjl : j < os.length := by rw [← h.len]; exact (List.getElem?_eq_some_iff.1 hj).1
        have := refI_inj hi hjl e
        subst this
        rw [List.getElem?_eq_getElem hM, hm] at hj
        cases hj
  · rw [List.getElem?_eq_none (by rw [h.len]; omega), List.getElem?_eq_none (by simp [keepB]; omega)]
/-- what may still be put behind -/
def costM : List Ob → List Bool → Nat
  | o :: os, b :: M => (if b then 0 else 2 + o.2.2.length) + costM os M
  | _, _ => 0
theorem costM_set : ∀ {os : List Ob} {M : List Bool} {k : Nat} {o : Ob}, os[k]? = some o → M[k]? = some false → costM os (M.set k true) + (2 + o.2.2.length) = costM os M
  | [], _, _, _, h, _ => by cases h
  | _ :: _, [], _, _, _, h => by cases h
  | a :: os, b :: M, 0, o, h1, h2 => by
    cases h1
    cases h2
    simp [costM]
    omega
  | a :: os, b :: M, k + 1, o, h1, h2 => by
    have := costM_set (os := os) (M := M) (k := k) (by simpa using h1) (by simpa using h2)
    simp only [List.set_cons_succ, costM]
    omega
theorem costM_le : ∀ (os : List Ob) (M : List Bool), costM os M ≤ (os.map fun o => 3 + o.2.2.length).sum
  | [], _ => by simp [costM]
  | _ :: _, [] => by simp [costM]
  | a :: os, b :: M => by
    have := costM_le os M
    simp only [costM, List.map_cons, List.sum_cons]
    split <;> omega
theorem costM_end (os : List Ob) (M : List Bool) : costM os M ≤ endOf os := by
  have := costM_le os M
  rw [endOf_sum]
  omega
/-- which word leads to an object -/
theorem find_hit {l : List RO} {os : List Ob} (ha : RAgree 1 l os) (hs : ∀ o ∈ l, 1 ≤ o.pos ∧ o.pos + 3 + o.fs.length ≤ 65536) {i : Nat} {o : RO} (ho : l[i]? = some o) : o.pos = endOf (os.take i) ∧ os[i]? = some o.ob ∧ ∀ w, findR l w = some o ↔ w = refI os i := by
  have hil : i < os.length := by rw [← ha.len]; exact (List.getElem?_eq_some_iff.1 ho).1
  obtain ⟨a, ha0⟩ : ∃ a, os[i]? = some a := ⟨_, List.getElem?_eq_getElem hil⟩
  obtain ⟨pre, post, e, hpl, htk⟩ : ∃ pre post, os = pre ++ a :: post ∧ pre.length = i ∧ os.take i = pre := ⟨os.take i, os.drop (i + 1), by
    have e : os[i] = a := (List.getElem?_eq_some_iff.1 ha0).2
    rw [← e, ← List.drop_eq_getElem_cons, List.take_append_drop], by simp; omega, rfl⟩
  have ha' := ha
  rw [e] at ha'
  obtain ⟨r, h1, h2, h3, h4⟩ := ha'.find
  rw [hpl, ho] at h1
  cases h1
  have hpos : o.pos = endOf (os.take i) := by rw [htk, h3]; rfl
  have hob : os[i]? = some o.ob := by rw [ha0, h2]
  refine ⟨hpos, hob, fun w => ⟨fun h => ?_, fun h => ?_⟩⟩
  · unfold findR at h
    split at h
    · next hok =>
      obtain ⟨q1, -, q3⟩ := (rfOk_iff _).1 hok
      have := List.find?_some h
      simp only [decide_eq_true_eq] at this
      unfold refI
      rw [← hpos]
      omega
    · cases h
  · subst h
    have hb := hs o (List.mem_of_getElem? ho)
    unfold findR
    have hok : rfOk (refI os i) = true := by
      rw [rfOk_iff]
      unfold refI
      rw [← hpos]
      omega
    rw [if_pos hok, ← h4]
    congr 1
    funext q
    have : refI os i / 2 = ((1 + (flatW pre).length : Nat) : Int) := by
      unfold refI
      rw [htk]
      unfold endOf
      omega
    rw [this]
end Go.Proofs.YtjjkbdkalnhcbaaGreatDoor
namespace Go.Proofs.YtjjkbdkalnhcbaaGreatDoor
open Go.RowKit

theorem wpList_append_quew {ops : Array Oper} {rest : List Oper} {o : Oper} {a : Act} {Q : Exit → Act → World → Prop} {w : World} (hgd : o.guard = none) (s x : Operand)
    (ho : o.op = .call { callee := .builtin .append, args := #[s, x], argTypes := #[25, 25] }) {g off cap : Nat} {ps : List Int} (hs : a.eval s = .slice (some ⟨g, off, none⟩) ps.length cap) (hq : QueW w g off cap ps)
    (news : List Int) {ao : Option Addr} {c : Nat} (hx : a.eval x = .slice ao news.length c) (ha : WordsAt w ao news) (hn : ps.length + news.length ≤ 20000000000000)
    (h : ∀ g' off' cap' w', QueW w' g' off' cap' (ps ++ news) → Fr [g] w w' → (g' = g ∨ w.heap.size ≤ g') → wpList Tryz.prog ops Q rest (a.put o.dst (.slice (some ⟨g', off', none⟩) (ps.length + news.length) cap')) w') : wpList Tryz.prog ops Q (o :: rest) a w := by
  obtain ⟨g', off', cap', w', hr, h1, h2, h3⟩ := hq.append news ha hn o.type
  exact Lib.wpList_append_run w hgd s x 25 25 ho _ _ hs hx _ _ hr (h g' off' cap' w' h1 h2 h3)
theorem made_ones (z : Value) (n : Nat) (h : z.cells = #[z]) : madeCells z.cells n = (List.replicate n z).toArray := by
  apply Array.ext'
  rw [h, toList_madeCells_one]
/-- pointers to objects: one, two, none -/
theorem eqlRO_same (b : Nat) (W : World) : (binOp BinOp.eql 81 (.pointer (some ⟨b, 0, none⟩)) (.pointer (some ⟨b, 0, none⟩))).run Tryz.prog W = .ok (.bool true) W := by
  obtain ⟨i0, hi, hz0, hz1, hz2⟩ := info_parts infoRO
  exact run_eql_ptr_same W _ Tryz.underlying81 hi
theorem neqRO_same (b : Nat) (W : World) : (binOp BinOp.neq 81 (.pointer (some ⟨b, 0, none⟩)) (.pointer (some ⟨b, 0, none⟩))).run Tryz.prog W = .ok (.bool false) W := by
  obtain ⟨i0, hi, hz0, hz1, hz2⟩ := info_parts infoRO
  exact Lib.run_neq_ptr_same W _ Tryz.underlying81 hi
theorem eqlRO_other {b c : Nat} {W : World} {ca cb : Array Value} {ta tb : TypeId} (hne : b ≠ c) (ha : W.heap[b]? = some (.cells ca ta (0, 0))) (hb : W.heap[c]? = some (.cells cb tb (0, 0))) : (binOp BinOp.eql 81 (.pointer (some ⟨b, 0, none⟩)) (.pointer (some ⟨c, 0, none⟩))).run Tryz.prog W = .ok (.bool false) W := by
  obtain ⟨i0, hi, hz0, hz1, hz2⟩ := info_parts infoRO
  exact run_eql_ptr_other W Tryz.underlying81 hi (by rw [hz1]; decide) (fun e => hne (by cases e; rfl)) ha hb
theorem neqRO_other {b c : Nat} {W : World} {ca cb : Array Value} {ta tb : TypeId} (hne : b ≠ c) (ha : W.heap[b]? = some (.cells ca ta (0, 0))) (hb : W.heap[c]? = some (.cells cb tb (0, 0))) : (binOp BinOp.neq 81 (.pointer (some ⟨b, 0, none⟩)) (.pointer (some ⟨c, 0, none⟩))).run Tryz.prog W = .ok (.bool true) W := by
  obtain ⟨i0, hi, hz0, hz1, hz2⟩ := info_parts infoRO
  have hne' : (⟨b, 0, none⟩ : Addr) ≠ ⟨c, 0, none⟩ := fun e => hne (by cases e; rfl)
  have hp := Tryz.underlying81
  have hsz : i0.size ≠ 0 := by rw [hz1]; decide
  have h : ∀ d : Nat, (Op.equalIn (d + 1) 81 (.pointer (some ⟨b, 0, none⟩)) (.pointer (some ⟨c, 0, none⟩))).run Tryz.prog W = .ok false W := fun d => by
    simp [Op.equalIn, run_underlying hp, sizeOf, typeInfo, hi, hsz, run_sameAddr_other W hne' ha hb]
  simp only [binOp]
  simp [Op.equal, Op.maxDepth, h 9999]
theorem eqlRO_nil (c : Nat) (W : World) : (binOp BinOp.eql 81 (.pointer none) (.pointer (some ⟨c, 0, none⟩))).run Tryz.prog W = .ok (.bool false) W := by
  have hp := Tryz.underlying81
  have h : ∀ d : Nat, (Op.equalIn (d + 1) 81 (.pointer none) (.pointer (some ⟨c, 0, none⟩))).run Tryz.prog W = .ok false W := fun d => by
    simp [Op.equalIn, run_underlying hp]
  simp only [binOp]
  simp [Op.equal, Op.maxDepth, h 9999]
theorem neqRO_nil (c : Nat) (W : World) : (binOp BinOp.neq 81 (.pointer none) (.pointer (some ⟨c, 0, none⟩))).run Tryz.prog W = .ok (.bool true) W := by
  have hp := Tryz.underlying81
  have h : ∀ d : Nat, (Op.equalIn (d + 1) 81 (.pointer none) (.pointer (some ⟨c, 0, none⟩))).run Tryz.prog W = .ok false W := fun d => by
    simp [Op.equalIn, run_underlying hp]
  simp only [binOp]
  simp [Op.equal, Op.maxDepth, h 9999]
theorem infoBl : (Tryz.prog.info? 4).map (fun i => (i.zero, i.size, i.bytes)) = some (some (.bool false), 1, 1) := by kernel_rfl
theorem makeBl (n : Nat) (h2 : n ≤ 65536) (W : World) : (Instr.makeSlice 74 (.int .i64 (n : Int)) (.int .i64 (n : Int))).run Tryz.prog W = .ok (.slice (some ⟨W.heap.size, 0, none⟩) n n) (W.alloc (.cells (List.replicate n (Value.bool false)).toArray 4)) := by
  obtain ⟨i0, hi, hz0, hz1, hz2⟩ := info_parts infoBl
  have hr := run_make (P := Tryz.prog) W 74 4 i0 (.bool false) Tryz.underlying74 hi hz0 .i64 .i64 n n (by omega) (by omega) (by rw [hz2]; omega) (by omega)
  simp only [Int.toNat_natCast, hz1, Nat.mul_one] at hr
  rw [made_ones _ _ rfl] at hr
  exact hr
/-- the row of what was reached -/
def OutAt (w : World) (ob : Nat) (M : List Bool) : Prop := w.heap[ob]? = some (.cells (M.map Value.bool).toArray 4 (0, 0))
theorem OutAt.fr {S : List Nat} {w w' : World} {ob : Nat} {M : List Bool} (h : OutAt w ob M) (hF : Fr S w w') (hS : ob ∉ S) : OutAt w' ob M := hF.heap hS h
theorem OutAt.set {w : World} {ob : Nat} {M : List Bool} (h : OutAt w ob M) (k : Nat) (b : Bool) : OutAt (w.setCell ⟨ob, k, none⟩ (.bool b)) ob (M.set k b) := by
  unfold OutAt
  rw [heap_setCell_same h]
  simp [List.map_set]
theorem OutAt.cell {w : World} {ob : Nat} {M : List Bool} (h : OutAt w ob M) {k : Nat} {b : Bool} (hk : M[k]? = some b) : w.cell? ⟨ob, k, none⟩ = some (.bool b) := cell_of_heap h (by simp [hk])
set_option maxRecDepth 100000 in
set_option maxHeartbeats 4000000 in
theorem reached_at {w : World} {rb : Nat} {r : RH} {lv : Value} {os : List Ob} (h : RefAt w rb r lv) (ha : RAgree 1 r.l os) (hroot : WB r.root) (hob : ∀ o ∈ os, ObB o) {ra : Option Addr} {rc : Nat} (roots : List Int) (hx : WordsAt w ra roots) (hB : ∀ x ∈ roots, WB x) (hl : roots.length ≤ 17592186044416) (he : endOf os ≤ 65536) :
    Calls Tryz.prog 40 #[.pointer (some ⟨rb, 0, none⟩), .slice ra roots.length rc] w (fun e w' => ∃ ob cap, e = .returned (.slice (some ⟨ob, 0, none⟩) os.length cap) ∧ OutAt w' ob (keepB os (r.root :: roots)) ∧ w.heap.size ≤ ob ∧ Fr [] w w') := by
  obtain ⟨ao, cap, hlv⟩ := row_shape h.row
  have hlen := ha.len
  have H := Lib.hid h
  have HA := Lib.hid ha
  have HX := Lib.hid hx
  have HB := Lib.hid hB
  have HE := Lib.hid he
  have HOB := Lib.hid hob
  have HRT := Lib.hid hroot
  have c1 : w.cell? ⟨rb, 1, none⟩ = some lv := cell_of_heap h.heap rfl
  have c2 : w.cell? ⟨rb, 2, none⟩ = some (.int .u64 r.root) := cell_of_heap h.heap rfl
  rw [hlv, hlen] at c1
  have hrb : rb < w.heap.size := lt_of_heap h.heap
  have hN : os.length ≤ 65536 := by rw [← hlen]; exact h.most
  obtain ⟨N, hNN⟩ : ∃ N, N = os.length := ⟨_, rfl⟩
  obtain ⟨R, hRR⟩ : ∃ R, R = roots.length := ⟨_, rfl⟩
  have HN := Lib.hid hNN
  have HR := Lib.hid hRR
  have HLV := Lib.hid hlv
  rw [← hNN] at c1 hN ⊢
  rw [← hRR] at hl ⊢
  have HMK := makeBl N hN
  have HROW : Hid (∀ (k : Nat) (o : RO), r.l[k]? = some o → ∃ gl, ao = some ⟨gl, 0, none⟩ ∧ w.cell? ⟨gl, k, none⟩ = some (.pointer (some ⟨o.b, 0, none⟩))) := Lib.hid (by
    intro k o hk
    obtain ⟨gl, cl, e, hc, -, -⟩ := row_at h.row (i := k) (List.getElem?_eq_some_iff.1 hk).1
    rw [hlv] at e
    cases e
    exact ⟨gl, rfl, by rw [hc, List.getElem?_map, hk]; rfl⟩)
  have HFI : Hid (∀ (W : World) (x : Int), Fr [] w W → WB x → Calls Tryz.prog 61 #[.pointer (some ⟨rb, 0, none⟩), .int .u64 x] W (Gives (optPtr (findR r.l x)) W)) := Lib.hid fun W x hF hx => rfind (h.fr hF (fun _ _ => by simp)) x hx.1 hx.2
  have HHIT : Hid (∀ (i : Nat) (o : RO), r.l[i]? = some o → os[i]? = some o.ob ∧ ∀ w, findR r.l w = some o ↔ w = refI os i) := Lib.hid fun i o ho => (find_hit ha h.small ho).2
  have HNE : Hid (∀ (i j : Nat) (o p : RO), r.l[i]? = some o → r.l[j]? = some p → o.b = p.b → i = j) := Lib.hid (by
    intro i j o p hi hj hb
    have hap := h.apart
    rw [List.pairwise_iff_getElem] at hap
    obtain ⟨hil, rfl⟩ := List.getElem?_eq_some_iff.1 hi
    obtain ⟨hjl, rfl⟩ := List.getElem?_eq_some_iff.1 hj
    rcases Nat.lt_trichotomy i j with hij | hij | hij
    · exact absurd hb (hap i j hil hjl hij).1
    · exact hij
    · exact absurd hb.symm (hap j i hjl hil hij).1)
  clear h ha hx hB he hob hroot hlv hlen hNN hRR
  go_enter Tryz.func40, Tryz.ntmps40
  have HQ0 : Hid (QueW ((w.alloc (.cells (Array.replicate N (Value.bool false)) 4)).alloc (.cells #[.int .u64 r.root] 24)) (w.heap.size + 1) 0 1 [r.root]) := by
    have hh : ((w.alloc (.cells (Array.replicate N (Value.bool false)) 4)).alloc (.cells #[.int .u64 r.root] 24)).heap[w.heap.size + 1]? = some (.cells #[.int .u64 r.root] 24 (0, 0)) := by
      have := heap_new (w.alloc (.cells (Array.replicate N (Value.bool false)) 4)) (.cells #[.int .u64 r.root] 24)
      simpa using this
    refine Lib.hid ⟨⟨_, hh, by simp⟩, by simp, fun j x hj => ?_⟩
    cases j with
    | zero => cases hj; exact cell_of_heap hh rfl
    | succ j => simp at hj
  have HO0 : Hid (OutAt ((w.alloc (.cells (Array.replicate N (Value.bool false)) 4)).alloc (.cells #[.int .u64 r.root] 24)) w.heap.size (List.replicate os.length false)) := by
    have h1 : OutAt (w.alloc (.cells (Array.replicate N (Value.bool false)) 4)) w.heap.size (List.replicate os.length false) := by
      unfold OutAt
      rw [heap_new, ← HN.out]
      simp
    exact Lib.hid (h1.fr ((Fr.refl [] _).alloc _) (by simp))
  have HX0 : Hid (WordsAt ((w.alloc (.cells (Array.replicate N (Value.bool false)) 4)).alloc (.cells #[.int .u64 r.root] 24)) ra roots) := Lib.hid (HX.out.fr (((Fr.refl [] w).alloc _).alloc _) (fun _ _ => by simp))
  have HF0 : Hid (Fr [] w ((w.alloc (.cells (Array.replicate N (Value.bool false)) 4)).alloc (.cells #[.int .u64 r.root] 24))) := Lib.hid (((Fr.refl [] w).alloc _).alloc _)
  go_wp2_with (at_builtin; refine wpList_append_quew rfl (.tmp 20) (.tmp 21) rfl (ps := [r.root]) rfl HQ0.out roots (ao := ra) (c := rc) (by rw [← HR.out]; rfl) HX0.out (by rw [← HR.out]; simp; omega) ?_; intro g1 off1 cap1 w1 hq1 hf1 hg1; have HQ1 : Hid (QueW w1 g1 off1 cap1 (r.root :: roots)) := hq1; have HF1 : Hid (Fr [] w w1) := Lib.hid (HF0.out.trans' hf1 (fun _ _ e => e) (fun q hq e => by simp at e; omega)); have HG1 : Hid (w.heap.size < g1) := Lib.hid (by rcases hg1 with e | e; (rw [e]; omega); (simp at e; omega)); have HO1 : Hid (OutAt w1 w.heap.size (List.replicate os.length false)) := Lib.hid (HO0.out.fr hf1 (by simp)); clear hq1 hf1 hg1)
  go_loopg [6] (1 + R + costM os (List.replicate os.length false)) (fun k tv wr => ∃ (g off cap : Nat) (Q : List Int) (M : List Bool), tv = .slice (some ⟨g, off, none⟩) Q.length cap ∧ Hid (QueW wr g off cap Q) ∧ Hid (OutAt wr w.heap.size M) ∧ Hid (ROut os (r.root :: roots) M Q) ∧ Hid (Fr [] w wr) ∧ Hid (w.heap.size < g) ∧ Hid (∀ x ∈ Q, WB x) ∧ Q.length + costM os M ≤ k ∧ Hid (Q.length + costM os M ≤ 17592186109953))
  case atStart => exact ⟨g1, off1, cap1, r.root :: roots, _, by rw [List.length_cons, Nat.add_comm], HQ1, HO1, ROut.start _ _, HF1, HG1, (by
    intro x hx
    rcases List.mem_cons.1 hx with rfl | hx
    · exact HRT.out
    · exact HB.out x hx), by simp; rw [← HR.out]; omega, Lib.hid (by
    have h1 := costM_end os (List.replicate os.length false)
    have h2 := HE.out
    rw [List.length_cons, ← HR.out]
    omega)⟩
  case round =>
    obtain ⟨g, off, cap, Q, M, rfl, hQ, hO, hI, hF, hG, hW, hle, hle2⟩ := hrel
    cases Q with
    | nil =>
      have HLE := Lib.hid hle
      clear hle
      go_wp2_with fail
      go_ret
      exact ⟨_, _, rfl, by rw [← hI.out.end_]; exact hO.out, Nat.le_refl _, hF.out⟩
    | cons x Q =>
      obtain ⟨off2, cap2, hQ2, hsl⟩ := quew_pop hQ.out
      have d0 : wr.cell? ⟨g, off, none⟩ = some (.int .u64 x) := by simpa using hQ.out.cells 0 x rfl
      have hxb := hW.out x (by simp)
      have HXB := Lib.hid hxb
      have HPOP := Lib.hid hI.out.pop
      have HQ2 := Lib.hid hQ2
      have HLE := Lib.hid hle
      have hcl := hQ.out.len
      rw [List.length_cons] at hcl
      obtain ⟨L, hL⟩ : ∃ L, L = Q.length := ⟨_, rfl⟩
      have HL := Lib.hid hL
      rw [← hL] at hsl hcl
      rw [List.length_cons, ← hL]
      have hL0 : (0 : Int) < (L : Int) + 1 := by omega
      clear hxb hle hL
      go_wp2_with fail
      go_loopw [6, 8] (fun tv iv wr => ∃ (k g off cap : Nat) (Q' : List Int) (M' : List Bool), k ≤ N ∧ iv = .int .i64 k ∧ tv = .slice (some ⟨g, off, none⟩) Q'.length cap ∧ Hid (QueW wr g off cap Q') ∧ Hid (OutAt wr w.heap.size M') ∧ Hid (RInv os (r.root :: roots) x k M' Q') ∧ Hid (Fr [] w wr) ∧ Hid (w.heap.size < g) ∧ Hid (∀ x ∈ Q', WB x) ∧ Hid (Q'.length + costM os M' ≤ L + costM os M)) (fun _ iv _ => N - (intOf iv).toNat)
      case atStart => exact ⟨0, g, off2, cap2, Q, M, Nat.zero_le _, rfl, by rw [← HL.out], HQ2, hO, HPOP, hF, hG, Lib.hid (fun y hy => hW.out y (by simp [hy])), Lib.hid (by rw [← HL.out]; exact Nat.le_refl _)⟩
      case round =>
        obtain ⟨k, g3, off3, cap3, Q3, M3, hk, rfl, rfl, hQ3, hO3, hI3, hF3, hG3, hW3, hle3⟩ := hrel
        have c1' := hF3.out.cell (by simp) c1
        by_cases hlt : k < N
        · have hkl : k < r.l.length := by rw [HA.out.len, ← HN.out]; exact hlt
          obtain ⟨o, ho⟩ : ∃ o, r.l[k]? = some o := ⟨_, List.getElem?_eq_getElem hkl⟩
          obtain ⟨gl, rfl, hc⟩ := HROW.out k o ho
          have d1 := hF3.out.cell (by simp) hc
          have hfi := HFI.out wr x hF3.out HXB.out
          obtain ⟨hob, hhit⟩ := HHIT.out k o ho
          have HOBJ := Lib.hid hob
          have k0 : (0 : Int) ≤ (k : Int) := by omega
          have k1 : (k : Int) < (N : Int) := by omega
          have hml : k < M3.length := by rw [hI3.out.len, ← HN.out]; exact hlt
          obtain ⟨b, hb⟩ : ∃ b, M3[k]? = some b := ⟨_, List.getElem?_eq_getElem hml⟩
          have d2 := hO3.out.cell hb
          by_cases hxk : x = refI os k
          · rw [(hhit x).2 hxk] at hfi
            have hfi' : Calls Tryz.prog 61 #[.pointer (some ⟨rb, 0, none⟩), .int .u64 x] wr (Gives (.pointer (some ⟨o.b, 0, none⟩)) wr) := hfi
            have hnq := neqRO_same o.b wr
            cases b
            · have HMR := Lib.hid (hI3.out.mark hob hxk)
              have hAT := H.out.objs o (List.mem_of_getElem? ho)
              have hbl : o.b < w.heap.size := lt_of_heap hAT.cells
              have f0 : wr.cell? ⟨o.b, 0, none⟩ = some (.int .u64 o.cls) := cell_of_heap (hF3.out.heap (by simp) hAT.cells) rfl
              have f2 : wr.cell? ⟨o.b, 2, none⟩ = some o.fv := cell_of_heap (hF3.out.heap (by simp) hAT.cells) rfl
              have hbn : o.b ≠ w.heap.size := by omega
              have hfz := frozen_of_heap (o := k) hO3.out
              have hws : w.heap.size < wr.heap.size := lt_of_heap hO3.out
              have hbr : o.b < wr.heap.size := by omega
              have HFR := hAT.row
              have HST := Lib.hid (hO3.out.set k true)
              obtain ⟨fa, fc, hfv⟩ := row_shape hAT.row
              rw [hfv] at f2
              have HFS : Hid (WordsAt w fa o.fs) := Lib.hid (by
                intro j y hj
                obtain ⟨q, c, e, hcc, -, -⟩ := row_at hAT.row (i := j) (List.getElem?_eq_some_iff.1 hj).1
                rw [hfv] at e
                cases e
                exact ⟨q, 0, rfl, by rw [Nat.zero_add, hcc, List.getElem?_map, hj]; rfl⟩)
              have HFS2 := Lib.hid hfv
              have HS1 : Hid (Fr [w.heap.size] wr (wr.setCell ⟨w.heap.size, k, none⟩ (.bool true))) := Lib.hid ((Fr.refl _ _).setCell (fun _ => by simp) _)
              have HQA : Hid (QueW ((wr.setCell ⟨w.heap.size, k, none⟩ (.bool true)).alloc (.cells #[.int .u64 o.cls] 24)) g3 off3 cap3 Q3) := Lib.hid ((hQ3.out.fr HS1.out (by have := hG3.out; simp; omega)).fr ((Fr.refl [] _).alloc _) (by simp))
              have HWA : Hid (WordsAt ((wr.setCell ⟨w.heap.size, k, none⟩ (.bool true)).alloc (.cells #[.int .u64 o.cls] 24)) (some ⟨wr.heap.size, 0, none⟩) [o.cls]) := Lib.hid (by
                intro j y hj
                cases j with
                | zero =>
                  cases hj
                  have hh := heap_new (wr.setCell ⟨w.heap.size, k, none⟩ (.bool true)) (.cells #[.int .u64 o.cls] 24)
                  have e : (wr.setCell ⟨w.heap.size, k, none⟩ (.bool true)).heap.size = wr.heap.size := by simp [World.setCell]
                  rw [e] at hh
                  exact ⟨_, 0, rfl, cell_of_heap hh rfl⟩
                | succ j => simp at hj)
              have HFA : Hid (Fr [] w ((wr.setCell ⟨w.heap.size, k, none⟩ (.bool true)).alloc (.cells #[.int .u64 o.cls] 24))) := Lib.hid ((hF3.out.trans' HS1.out (fun _ _ e => e) (fun q hq e => by simp at e; omega)).alloc _)
              have HOA : Hid (OutAt ((wr.setCell ⟨w.heap.size, k, none⟩ (.bool true)).alloc (.cells #[.int .u64 o.cls] 24)) w.heap.size (M3.set k true)) := Lib.hid (HST.out.fr ((Fr.refl [] _).alloc _) (by simp))
              have HCM := Lib.hid (costM_set hob hb)
              have HBO := Lib.hid (HOB.out _ (List.mem_of_getElem? hob))
              have HB1 : Hid (Q3.length + 1 + o.fs.length ≤ 17592186109953) := Lib.hid (by
                have h1 := hle3.out
                have h2 := HCM.out
                have h3 := hle2.out
                have h4 : o.ob.2.2.length = o.fs.length := rfl
                rw [List.length_cons, ← HL.out] at h3
                omega)
              clear hb hml hxk hfi hhit hob hkl hc ho
              go_wp2_with (first
                | (go_at_call 61; refine hfi'.mono ?_; rintro e w' ⟨rfl, rfl⟩)
                | (at_builtin; refine wpList_append_quew rfl (.tmp 61) (.tmp 66) rfl (ps := Q3) rfl HQA.out [o.cls] (ao := some ⟨wr.heap.size, 0, none⟩) (c := 1) rfl HWA.out (by have := HB1.out; simp; omega) ?_; intro g4 off4 cap4 w4 hq4 hf4 hg4; have HQ4 := Lib.hid hq4; have HF4 : Hid (Fr [] w w4) := Lib.hid (HFA.out.trans' hf4 (fun _ _ e => e) (fun q hq e => by simp at e; have := hG3.out; omega)); have HO4 := Lib.hid (HOA.out.fr hf4 (by have := hG3.out; simp; omega)); have HG4 : Hid (w.heap.size < g4) := Lib.hid (by rcases hg4 with e | e; (rw [e]; exact hG3.out); (simp at e; omega)); have e2 : w4.cell? ⟨o.b, 2, none⟩ = some (.slice fa o.fs.length fc) := HF4.out.cell (by simp) (by rw [← HFS2.out]; exact cell_of_heap hAT.cells rfl); clear hq4 hf4 hg4)
                | (at_builtin; refine wpList_append_quew rfl (.tmp 68) (.tmp 72) rfl (ps := Q3 ++ [o.cls]) (by rw [List.length_append]; rfl) HQ4.out o.fs (ao := fa) (c := fc) rfl (HFS.out.fr HF4.out (fun _ _ => by simp)) (by have := HB1.out; simp; omega) ?_; intro g5 off5 cap5 w5 hq5 hf5 hg5; have HQ5 := Lib.hid hq5; have HF5 : Hid (Fr [] w w5) := Lib.hid (HF4.out.trans' hf5 (fun _ _ e => e) (fun q hq e => by simp at e; have := HG4.out; omega)); have HO5 := Lib.hid (HO4.out.fr hf5 (by have := HG4.out; simp; omega)); have hw4 := lt_of_heap HO4.out; have HG5 : Hid (w.heap.size < g5) := Lib.hid (by rcases hg5 with e | e; (rw [e]; exact HG4.out); omega); clear hq5 hf5 hg5 hw4))
              have HEQ : Hid ((Q3 ++ [o.cls]) ++ o.fs = Q3 ++ o.ob.1 :: o.ob.2.2) := Lib.hid (by simp [RO.ob])
              go_roundw
              case rel => exact ⟨k + 1, g5, off5, cap5, (Q3 ++ [o.cls]) ++ o.fs, M3.set k true, by omega, by go_num, by simp <;> omega, HQ5, HO5, Lib.hid (by rw [HEQ.out]; exact HMR.out), HF5, HG5, Lib.hid (by
                intro y hy
                rw [HEQ.out] at hy
                rcases List.mem_append.1 hy with hy | hy
                · exact hW3.out y hy
                · rcases List.mem_cons.1 hy with rfl | hy
                  · exact HBO.out.1
                  · exact HBO.out.2 y hy), Lib.hid (by
                have h1 := HCM.out
                have h2 := hle3.out
                rw [HEQ.out, List.length_append, List.length_cons]
                omega)⟩
              case measure => simp [intOf]; omega
            · have HSK := Lib.hid (hI3.out.skip (.inr hb))
              clear hb hml hxk hfi hhit hob hkl hc ho
              go_wp2_with (go_at_call 61; refine hfi'.mono ?_; rintro e w' ⟨rfl, rfl⟩)
              go_roundw
              case rel => exact ⟨k + 1, g3, off3, cap3, Q3, M3, by omega, by go_num, rfl, hQ3, hO3, HSK, hF3, hG3, hW3, hle3⟩
              case measure => simp [intOf]; omega
          · have HSK := Lib.hid (hI3.out.skip (.inl hxk))
            have hfn : findR r.l x ≠ some o := fun e => hxk ((hhit x).1 e)
            cases hf : findR r.l x with
            | none =>
              have hfi' : Calls Tryz.prog 61 #[.pointer (some ⟨rb, 0, none⟩), .int .u64 x] wr (Gives (.pointer none) wr) := by rw [hf] at hfi; exact hfi
              have hnq := neqRO_nil o.b wr
              clear hb hml hxk hfi hhit hob hkl hc ho hfn hf
              go_wp2_with (go_at_call 61; refine hfi'.mono ?_; rintro e w' ⟨rfl, rfl⟩)
              go_roundw
              case rel => exact ⟨k + 1, g3, off3, cap3, Q3, M3, by omega, by go_num, rfl, hQ3, hO3, HSK, hF3, hG3, hW3, hle3⟩
              case measure => simp [intOf]; omega
            | some p =>
              have hfi' : Calls Tryz.prog 61 #[.pointer (some ⟨rb, 0, none⟩), .int .u64 x] wr (Gives (.pointer (some ⟨p.b, 0, none⟩)) wr) := by rw [hf] at hfi; exact hfi
              obtain ⟨j, hj⟩ := List.mem_iff_getElem?.1 (findR_mem hf)
              have hpb : p.b ≠ o.b := fun e => hfn (by
                have hjk := HNE.out j k p o hj ho e
                subst hjk
                rw [hj] at ho
                rw [hf, Option.some.inj ho])
              have hnq := neqRO_other hpb (hF3.out.heap (by simp) (H.out.objs p (findR_mem hf)).cells) (hF3.out.heap (by simp) (H.out.objs o (List.mem_of_getElem? ho)).cells)
              clear hb hml hxk hfi hhit hob hkl hc ho hfn hf hj hpb
              go_wp2_with (go_at_call 61; refine hfi'.mono ?_; rintro e w' ⟨rfl, rfl⟩)
              go_roundw
              case rel => exact ⟨k + 1, g3, off3, cap3, Q3, M3, by omega, by go_num, rfl, hQ3, hO3, HSK, hF3, hG3, hW3, hle3⟩
              case measure => simp [intOf]; omega
        · have hke : k = N := by omega
          have hkd : decide ((k : Int) < (N : Int)) = false := by simp; omega
          have HKE := Lib.hid hke
          clear hke
          go_wp2_with fail
          go_roundg (Q3.length + costM os M3)
          case measure =>
            have h1 := hle3.out
            have h2 := HLE.out
            rw [List.length_cons, ← HL.out] at h2
            omega
          case rel => exact ⟨g3, off3, cap3, Q3, M3, rfl, hQ3, hO3, Lib.hid (by have h := hI3.out; rw [HKE.out, HN.out] at h; exact h.done), hF3, hG3, hW3, Nat.le_refl _, Lib.hid (by
            have h1 := hle3.out
            have h2 := hle2.out
            rw [List.length_cons, ← HL.out] at h2
            omega)⟩
end Go.Proofs.YtjjkbdkalnhcbaaGreatDoor
namespace Go.Proofs.YtjjkbdkalnhcbaaGreatDoor
open Go.RowKit

/-- the row of where objects go -/
def ToAt (w : World) (tb : Nat) (T : List Int) : Prop := w.heap[tb]? = some (.cells (T.map (Value.int .i64)).toArray 3 (0, 0))
theorem ToAt.fr {S : List Nat} {w w' : World} {tb : Nat} {T : List Int} (h : ToAt w tb T) (hF : Fr S w w') (hS : tb ∉ S) : ToAt w' tb T := hF.heap hS h
theorem ToAt.cell {w : World} {tb : Nat} {T : List Int} (h : ToAt w tb T) {k : Nat} {x : Int} (hk : T[k]? = some x) : w.cell? ⟨tb, k, none⟩ = some (.int .i64 x) := cell_of_heap h (by simp [hk])
theorem ToAt.set {w : World} {tb : Nat} {T : List Int} (h : ToAt w tb T) (k : Nat) (x : Int) : ToAt (w.setCell ⟨tb, k, none⟩ (.int .i64 x)) tb (T.set k x) := by
  unfold ToAt
  rw [heap_setCell_same h]
  simp [List.map_set]
/-- what leads to what: plain -/
def movedV (os : List Ob) (T : List Int) (x : Int) : Int := match (List.range os.length).find? (fun i => decide (x = refI os i)) with
  | some i => 2 * T.getD i 0
  | none => x
theorem movedV_hit {os : List Ob} {T : List Int} {x : Int} {i : Nat} (hi : i < os.length) (h : x = refI os i) : movedV os T x = 2 * T.getD i 0 := by
  unfold movedV
  cases hf : (List.range os.length).find? (fun i => decide (x = refI os i)) with
  | none =>
    have := List.find?_eq_none.1 hf i (by simpa using hi)
    simp [h] at this
  | some j =>
    have h1 := List.find?_some hf
    have h2 := List.mem_of_find?_eq_some hf
    simp only [decide_eq_true_eq] at h1
    rw [List.mem_range] at h2
    rw [refI_inj hi h2 (h.symm.trans h1)]
theorem movedV_no {os : List Ob} {T : List Int} {x : Int} (h : ∀ i, i < os.length → x ≠ refI os i) : movedV os T x = x := by
  unfold movedV
  rw [List.find?_eq_none.2]
  intro i hi
  simpa using h i (by simpa using hi)
set_option maxRecDepth 100000 in
set_option maxHeartbeats 2000000 in
theorem moved3_at {w : World} {rb tb cap : Nat} {r : RH} {lv : Value} {os : List Ob} {T : List Int} (h : RefAt w rb r lv) (ha : RAgree 1 r.l os) (hT : ToAt w tb T) (hTl : T.length = os.length) (hTb : ∀ x ∈ T, 0 ≤ x ∧ x ≤ 65536) (x : Int) (hx : WB x) :
    Calls Tryz.prog 41 #[.pointer (some ⟨rb, 0, none⟩), .slice (some ⟨tb, 0, none⟩) os.length cap, .int .u64 x] w (Still (.int .u64 (movedV os T x)) w) := by
  obtain ⟨lo, lc, hlv⟩ := row_shape h.row
  have hlen := ha.len
  have HHIT : Hid (∀ (i : Nat) (o : RO), r.l[i]? = some o → ∀ w, findR r.l w = some o ↔ w = refI os i) := Lib.hid fun i o ho => (find_hit ha h.small ho).2.2
  have HFI : Hid (∀ W, Fr [] w W → Calls Tryz.prog 61 #[.pointer (some ⟨rb, 0, none⟩), .int .u64 x] W (Gives (optPtr (findR r.l x)) W)) := Lib.hid fun W hF => rfind (h.fr hF (fun _ _ => by simp)) x hx.1 hx.2
  have HRW := Lib.hid h.row
  have HNE : Hid (∀ (i j : Nat) (o p : RO), r.l[i]? = some o → r.l[j]? = some p → o.b = p.b → i = j) := Lib.hid (by
    intro i j o p hi hj hb
    have hap := h.apart
    rw [List.pairwise_iff_getElem] at hap
    obtain ⟨hil, rfl⟩ := List.getElem?_eq_some_iff.1 hi
    obtain ⟨hjl, rfl⟩ := List.getElem?_eq_some_iff.1 hj
    rcases Nat.lt_trichotomy i j with hij | hij | hij
    · exact absurd hb (hap i j hil hjl hij).1
    · exact hij
    · exact absurd hb.symm (hap j i hjl hil hij).1)
  have HROW : Hid (∀ (k : Nat) (o : RO), r.l[k]? = some o → ∃ gl, lo = some ⟨gl, 0, none⟩ ∧ w.cell? ⟨gl, k, none⟩ = some (.pointer (some ⟨o.b, 0, none⟩))) := Lib.hid (by
    intro k o hk
    obtain ⟨gl, cl, e, hc, -, -⟩ := row_at h.row (i := k) (List.getElem?_eq_some_iff.1 hk).1
    rw [hlv] at e
    cases e
    exact ⟨gl, rfl, by rw [hc, List.getElem?_map, hk]; rfl⟩)
  have H := Lib.hid h
  have c1 : w.cell? ⟨rb, 1, none⟩ = some lv := cell_of_heap h.heap rfl
  rw [hlv, hlen] at c1
  have HT := Lib.hid hT
  have HTL := Lib.hid hTl
  have HTB := Lib.hid hTb
  have HLN := Lib.hid hlen
  have HLV := Lib.hid hlv
  have hN : os.length ≤ 65536 := by rw [← hlen]; exact h.most
  obtain ⟨N, hNN⟩ : ∃ N, N = os.length := ⟨_, rfl⟩
  have HN := Lib.hid hNN
  rw [← hNN] at c1 hN ⊢
  clear h ha hT hTl hTb hlen hNN hlv
  go_enter Tryz.func41, Tryz.ntmps41
  go_wp2_with fail
  go_loopw [7] (fun iv wr => ∃ k : Nat, k ≤ N ∧ iv = .int .i64 k ∧ Hid (Fr [] w wr) ∧ Hid (∀ i, i < k → x ≠ refI os i)) (fun iv _ => N - (intOf iv).toNat)
  case atStart => exact ⟨0, Nat.zero_le _, rfl, Fr.refl _ _, fun i hi => by omega⟩
  case round =>
    obtain ⟨k, hk, rfl, hF, hN0⟩ := hrel
    have c1' := hF.out.cell (by simp) c1
    by_cases hlt : k < N
    · have hkl : k < r.l.length := by rw [HLN.out, ← HN.out]; exact hlt
      obtain ⟨o, ho⟩ : ∃ o, r.l[k]? = some o := ⟨_, List.getElem?_eq_getElem hkl⟩
      obtain ⟨gl, rfl, hc⟩ := HROW.out k o ho
      have d1 := hF.out.cell (by simp) hc
      have hfi : ∀ W, Fr [] w W → Calls Tryz.prog 61 #[.pointer (some ⟨rb, 0, none⟩), .int .u64 x] W (Gives (optPtr (findR r.l x)) W) := HFI.out
      have hhit := HHIT.out k o ho
      have k0 : (0 : Int) ≤ (k : Int) := by omega
      have k1 : (k : Int) < (N : Int) := by omega
      have hml : k < T.length := by rw [HTL.out, ← HN.out]; exact hlt
      obtain ⟨y, hy⟩ : ∃ y, T[k]? = some y := ⟨_, List.getElem?_eq_getElem hml⟩
      have d2 := hF.out.cell (by simp) (HT.out.cell hy)
      obtain ⟨y0, y1⟩ := HTB.out y (List.mem_of_getElem? hy)
      by_cases hxk : x = refI os k
      · rw [(hhit x).2 hxk] at hfi
        have hfi' : ∀ W, Fr [] w W → Calls Tryz.prog 61 #[.pointer (some ⟨rb, 0, none⟩), .int .u64 x] W (Gives (.pointer (some ⟨o.b, 0, none⟩)) W) := hfi
        have heq := eqlRO_same o.b
        have HMV : Hid (movedV os T x = y * 2) := Lib.hid (by
          rw [movedV_hit (by rw [← HN.out]; exact hlt) hxk, List.getD_eq_getElem?_getD, hy]
          simp
          omega)
        clear hml hxk hfi hhit hkl hc ho hy
        go_wp2_with fail
        go_region_law (go_simp; go_at_call 61; refine (hfi' _ (by first | exact hF.out.drew | exact hF.out | exact hF.out.drew.drew)).mono ?_; rintro e w' ⟨rfl, rfl⟩)
        all_goals (go_wp2_with fail)
        all_goals go_ret
        all_goals exact ⟨by rw [HMV.out]; rfl, by first | exact hF.out | exact hF.out.drew⟩
      · have HSK : Hid (∀ i, i < k + 1 → x ≠ refI os i) := Lib.hid (fun i hi => by
          by_cases e : i = k
          · rw [e]; exact hxk
          · exact hN0.out i (by omega))
        have hfn : findR r.l x ≠ some o := fun e => hxk ((hhit x).1 e)
        cases hf : findR r.l x with
        | none =>
          have hfi' : ∀ W, Fr [] w W → Calls Tryz.prog 61 #[.pointer (some ⟨rb, 0, none⟩), .int .u64 x] W (Gives (.pointer none) W) := by rw [hf] at hfi; exact hfi
          have hnq := eqlRO_nil o.b
          clear hml hxk hfi hhit hkl hc ho hfn hf hy
          go_wp2_with fail
          go_region_law (go_simp; go_at_call 61; refine (hfi' _ (by first | exact hF.out.drew | exact hF.out | exact hF.out.drew.drew)).mono ?_; rintro e w' ⟨rfl, rfl⟩)
          all_goals (go_wp2_with fail)
          all_goals go_roundw
          all_goals first
            | exact ⟨k + 1, by omega, by go_num, (by first | exact hF | exact Lib.hid hF.out.drew), HSK⟩
            | (simp [intOf]; omega)
        | some p =>
          have hfi' : ∀ W, Fr [] w W → Calls Tryz.prog 61 #[.pointer (some ⟨rb, 0, none⟩), .int .u64 x] W (Gives (.pointer (some ⟨p.b, 0, none⟩)) W) := by rw [hf] at hfi; exact hfi
          obtain ⟨j, hj⟩ := List.mem_iff_getElem?.1 (findR_mem hf)
          have hpb : p.b ≠ o.b := fun e => hfn (by
            have hjk := HNE.out j k p o hj ho e
            subst hjk
            rw [hj] at ho
            rw [hf, Option.some.inj ho])
          have hnq := eqlRO_other hpb (hF.out.heap (by simp) (H.out.objs p (findR_mem hf)).cells) (hF.out.heap (by simp) (H.out.objs o (List.mem_of_getElem? ho)).cells)
          have hnq2 := eqlRO_other hpb (hF.out.drew.heap (by simp) (H.out.objs p (findR_mem hf)).cells) (hF.out.drew.heap (by simp) (H.out.objs o (List.mem_of_getElem? ho)).cells)
          clear hml hxk hfi hhit hkl hc ho hfn hf hj hpb hy
          go_wp2_with fail
          go_region_law (go_simp; go_at_call 61; refine (hfi' _ (by first | exact hF.out.drew | exact hF.out | exact hF.out.drew.drew)).mono ?_; rintro e w' ⟨rfl, rfl⟩)
          all_goals (go_wp2_with fail)
          all_goals go_roundw
          all_goals first
            | exact ⟨k + 1, by omega, by go_num, (by first | exact hF | exact Lib.hid hF.out.drew), HSK⟩
            | (simp [intOf]; omega)
    · have hke : k = N := by omega
      have hkd : decide ((k : Int) < (N : Int)) = false := by simp; omega
      have HMV : Hid (movedV os T x = x) := Lib.hid (movedV_no (fun i hi => hN0.out i (by rw [hke, HN.out]; exact hi)))
      clear hke
      go_wp2_with fail
      go_ret
      exact ⟨by rw [HMV.out]; rfl, hF.out⟩
end Go.Proofs.YtjjkbdkalnhcbaaGreatDoor
namespace Go.Proofs.YtjjkbdkalnhcbaaGreatDoor

/-- where the first k objects go -/
def toK (keep : Int → Bool) (os : List Ob) (k : Nat) : List Int := (List.range os.length).map fun i => if i < k ∧ keep (refI os i) = true then (endOf (keepL keep 1 (os.take i)) : Int) else 0
theorem toK_len (keep : Int → Bool) (os : List Ob) (k : Nat) : (toK keep os k).length = os.length := by simp [toK]
theorem toK_zero (keep : Int → Bool) (os : List Ob) : toK keep os 0 = List.replicate os.length 0 := by
  apply List.ext_getElem?
  intro i
  simp only [toK, List.getElem?_map, List.getElem?_replicate]
  by_cases h : i < os.length
  · simp [h]
  · simp [h]
theorem toK_at {keep : Int → Bool} {os : List Ob} {k i : Nat} (hi : i < os.length) : (toK keep os k)[i]? = some (if i < k ∧ keep (refI os i) = true then (endOf (keepL keep 1 (os.take i)) : Int) else 0) := by simp [toK, hi]
theorem toK_skip {keep : Int → Bool} {os : List Ob} {k : Nat} (h : keep (refI os k) = false) : toK keep os (k + 1) = toK keep os k := by
  unfold toK
  apply List.map_congr_left
  intro i _
  by_cases e : i = k
  · subst e; simp [h]
  · have : i < k + 1 ↔ i < k := by omega
    simp [this]
theorem toK_set {keep : Int → Bool} {os : List Ob} {k : Nat} (hk : k < os.length) (h : keep (refI os k) = true) : toK keep os (k + 1) = (toK keep os k).set k (endOf (keepL keep 1 (os.take k)) : Int) := by
  apply List.ext_getElem?
  intro i
  rw [List.getElem?_set]
  by_cases hi : i < os.length
  · rw [toK_at hi]
    by_cases e : k = i
    · subst e
      rw [if_pos ⟨by omega, h⟩, if_pos rfl, if_pos (by rw [toK_len]; exact hk)]
    · rw [if_neg e, toK_at hi]
      have : i < k + 1 ↔ i < k := by omega
      simp [this]
  · rw [List.getElem?_eq_none (by rw [toK_len]; omega), if_neg (by omega), List.getElem?_eq_none (by rw [toK_len]; omega)]
theorem keepL_len (keep : Int → Bool) {os : List Ob} {k : Nat} {o : Ob} (h : os[k]? = some o) : endOf (keepL keep 1 (os.take (k + 1))) = endOf (keepL keep 1 (os.take k)) + (if keep (refI os k) = true then 3 + o.2.2.length else 0) := by
  rw [keepL_next h]
  unfold refI
  by_cases hk : keep (2 * (endOf (os.take k) : Int)) = true
  · rw [if_pos hk, if_pos hk, endOf_snoc]
    omega
  · rw [if_neg hk, if_neg hk]
    simp
/-- the document's word is the one that is moved -/
theorem movedV_moveW {keep : Int → Bool} {os : List Ob} (hkk : ∀ x, keep x = true → (lookP 1 os x).isSome = true) {x : Int} (hx : (lookP 1 os x).isSome = true → keep x = true) : movedV os (toK keep os os.length) x = moveW keep os x := by
  rw [moveW_val]
  cases hl : lookP 1 os x with
  | none =>
    have hk : keep x = false := by
      cases h : keep x with
      | false => rfl
      | true => have := hkk x h; rw [hl] at this; cases this
    rw [newP_no hk, movedV_no]
    · rfl
    · intro i hi e
      have h2 : lookP 1 os x = some os[i] := by rw [e]; exact look_of_ref (List.getElem?_eq_getElem hi)
      rw [hl] at h2
      cases h2
  | some o =>
    have hk := hx (by rw [hl]; rfl)
    obtain ⟨i, hi, e, -⟩ := look_ref hl
    have hil := (List.getElem?_eq_some_iff.1 hi).1
    have e' : x = refI os i := e
    rw [movedV_hit hil e', List.getD_eq_getElem?_getD, toK_at hil, if_pos ⟨hil, by rw [← e']; exact hk⟩]
    have h3 := newP_ref (keep := keep) hi (by rw [← e]; exact hk)
    rw [e, h3]
    rfl
end Go.Proofs.YtjjkbdkalnhcbaaGreatDoor
namespace Go.Proofs.YtjjkbdkalnhcbaaGreatDoor
open Go.RowKit

/-- the first k objects, as they are kept -/
structure KeepsL (W : World) (kp : Int → Bool) (f : Int → Int) (os : List Ob) (k : Nat) (v : Value) (ls : List RO) (wr : World) : Prop where
  row : wr.ownsRow 0 81 1 v ls.length (ls.map RO.ptr)
  objs : ∀ o ∈ ls, o.At wr
  new : ∀ o ∈ ls, W.heap.size ≤ o.b ∧ ∀ q, o.fv.ownBlock = some q → W.heap.size ≤ q
  lnew : ∀ q, v.ownBlock = some q → W.heap.size ≤ q
  apart : ls.Pairwise RO.Apart
  agr : RAgree 1 ls ((keepL kp 1 (os.take k)).map (moveOb f))
  fr : Fr [] W wr
theorem KeepsL.start (W : World) (kp : Int → Bool) (f : Int → Int) (os : List Ob) : KeepsL W kp f os 0 (.slice none 0 0) [] W :=
  ⟨World.ownsRow_nil _ _ _ _, (fun _ h => by cases h), (fun _ h => by cases h), (fun _ h => by cases h), List.Pairwise.nil, (by simp [keepL, RAgree]), Fr.refl _ _⟩
theorem KeepsL.skip {W wr : World} {kp : Int → Bool} {f : Int → Int} {os : List Ob} {k : Nat} {v : Value} {ls : List RO} (h : KeepsL W kp f os k v ls wr) {o : Ob} (ho : os[k]? = some o) (hk : kp (refI os k) = false) : KeepsL W kp f os (k + 1) v ls wr := by
  refine ⟨h.row, h.objs, h.new, h.lnew, h.apart, ?_, h.fr⟩
  rw [keepL_next ho]
  unfold refI at hk
  rw [hk]
  simpa using h.agr
theorem KeepsL.step {W Wi W2 Wa w5 : World} {kp : Int → Bool} {f : Int → Int} {os : List Ob} {k : Nat} {v v' : Value} {ls : List RO} (h : KeepsL W kp f os k v ls Wi) {a : Ob} (ha : os[k]? = some a) (hk : kp (refI os k) = true) {o : RO} (hF : Fr [] Wi W2) (hat : o.At W2) (hn : Wi.heap.size ≤ o.b) (hnf : ∀ q, o.fv.ownBlock = some q → Wi.heap.size ≤ q) (hob : o.ob = moveOb f a) (hpos : o.pos = endOf (keepL kp 1 (os.take k)))
    (hA : Fr [] W2 Wa) (ho : Wa.ownsRow 0 81 1 v ls.length (ls.map RO.ptr) → w5.ownsRow 0 81 1 v' (ls.length + 1) (ls.map RO.ptr ++ [o.ptr])) (hg : Wa.grownBy w5 v.ownBlock) (hf : v'.ownBlock = v.ownBlock ∨ v'.ownBlock = some Wa.heap.size) : KeepsL W kp f os (k + 1) v' (ls ++ [o]) w5 := by
  have hrow : Wa.ownsRow 0 81 1 v ls.length (ls.map RO.ptr) := hA.row (hF.row h.row (fun _ _ => by simp)) (fun _ _ => by simp)
  have hFg : Fr v.ownBlock.toList Wa w5 := (Fr.refl _ _).grown hg (fun q hq _ => by simp [hq])
  have hlv : ∀ q, q ∈ v.ownBlock.toList → ∃ c, Wa.heap[q]? = some (.cells c 81 (0, 0)) := fun q hq => row_heap hrow (by simpa using hq)
  have hne : ∀ {q : Nat} {c : Array Value} {t : TypeId} {f : Nat × Nat}, Wa.heap[q]? = some (.cells c t f) → t ≠ 81 → q ∉ v.ownBlock.toList := by
    intro q c t f hq ht hk
    obtain ⟨c', hc'⟩ := hlv q hk
    exact tag_ne hq hc' ht rfl
  have obj : ∀ p : RO, p.At Wa → p.At w5 := fun p hp => hp.fr hFg (hne hp.cells (by decide)) (fun q hq => by obtain ⟨c, hc⟩ := row_heap hp.row hq; exact hne hc (by decide))
  have hW : W.heap.size ≤ Wi.heap.size := h.fr.size
  have hlt : ∀ p ∈ ls, p.b < Wi.heap.size ∧ ∀ q, p.fv.ownBlock = some q → q < Wi.heap.size := fun p hp => ⟨lt_of_heap (h.objs p hp).cells, fun q hq => by obtain ⟨c, hc⟩ := row_heap (h.objs p hp).row hq; exact lt_of_heap hc⟩
  refine ⟨?_, ?_, ?_, ?_, ?_, ?_, ?_⟩
  · rw [List.length_append, List.map_append]
    exact ho hrow
  · intro p hp
    rcases List.mem_append.1 hp with hp | hp
    · exact obj p (((h.objs p hp).fr hF (by simp) (fun _ _ => by simp)).fr hA (by simp) (fun _ _ => by simp))
    · rw [List.mem_singleton] at hp
      subst hp
      exact obj _ (hat.fr hA (by simp) (fun _ _ => by simp))
  · intro p hp
    rcases List.mem_append.1 hp with hp | hp
    · exact h.new p hp
    · rw [List.mem_singleton] at hp
      subst hp
      exact ⟨Nat.le_trans hW hn, fun q hq => Nat.le_trans hW (hnf q hq)⟩
  · intro q hq
    rcases hf with hf | hf
    · exact h.lnew q (hf ▸ hq)
    · have e := hf.symm.trans hq
      cases e
      exact Nat.le_trans hW (Nat.le_trans hF.size hA.size)
  · rw [List.pairwise_append]
    refine ⟨h.apart, List.pairwise_singleton _ _, fun p hp q hq => ?_⟩
    rw [List.mem_singleton] at hq
    subst hq
    obtain ⟨l1, l2⟩ := hlt p hp
    exact ⟨by omega, fun x hx e => by have := l2 x hx; have := hnf x e; omega⟩
  · rw [keepL_next ha]
    unfold refI at hk
    rw [hk, if_pos rfl, List.map_append]
    refine h.agr.snoc hob ?_
    rw [hpos, flatW_map]
    rfl
  · exact ((h.fr.trans hF).trans hA).trans' hFg (fun _ _ e => e) (fun q hq hm => by have := h.lnew q (by simpa using hm); omega)
/-- the fields of one under way -/
structure GFld (W : World) (xb : Nat) (c h : Int) (pos j : Nat) (fv : Value) (ys : List Int) (Wi : World) : Prop where
  box : Wi.heap[xb]? = some (.cells #[.int .u64 c, .int .i64 h, fv, .int .i64 pos] 78 (0, 0))
  row : Wi.ownsRow 0 24 1 fv j (ys.map (Value.int .u64))
  new : ∀ b, fv.ownBlock = some b → W.heap.size ≤ b
  fr : Fr [xb] W Wi
theorem GFld.grown {W Wi W1 w5 : World} {xb : Nat} {c h : Int} {pos j : Nat} {fv : Value} {ys : List Int} (H : GFld W xb c h pos j fv ys Wi) (h2 : xb < W.heap.size) (hA : Fr [] Wi W1) (hg : W1.grownBy w5 fv.ownBlock) :
    Fr [xb] W w5 ∧ w5.heap[xb]? = some (.cells #[.int .u64 c, .int .i64 h, fv, .int .i64 pos] 78 (0, 0)) := by
  refine ⟨(H.fr.trans' hA (fun _ _ e => e) (fun _ _ e => by cases e)).grown hg (fun b hb hl => by have := H.new b hb; omega), ?_⟩
  have hl : xb < W1.heap.size := Nat.lt_of_lt_of_le (lt_of_heap H.box) hA.size
  rw [hg.block xb hl (fun e => by have := H.new xb e.symm; omega)]
  exact hA.heap (by simp) H.box
theorem GFld.step {W Wi W1 w5 : World} {xb : Nat} {c h : Int} {pos j : Nat} {fv v5 : Value} {ys : List Int} {x : Int} (H : GFld W xb c h pos j fv ys Wi) (h2 : xb < W.heap.size) (hA : Fr [] Wi W1)
    (ho : w5.ownsRow 0 24 1 v5 (j + 1) (ys.map (Value.int .u64) ++ [.int .u64 x])) (hg : W1.grownBy w5 fv.ownBlock) (hf : v5.ownBlock = fv.ownBlock ∨ v5.ownBlock = some W1.heap.size) :
    GFld W xb c h pos (j + 1) v5 (ys ++ [x]) (w5.setCell ⟨xb, 2, none⟩ v5) := by
  obtain ⟨g1, g2⟩ := H.grown h2 hA hg
  have hnew : ∀ b, v5.ownBlock = some b → W.heap.size ≤ b := fun b hb' => by
    rcases hf with hf | hf
    · exact H.new b (hf ▸ hb')
    · have e := hf.symm.trans hb'
      cases e
      exact Nat.le_trans H.fr.size hA.size
  have hs : Fr [xb] w5 (w5.setCell ⟨xb, 2, none⟩ v5) := (Fr.refl _ _).setCell (fun _ => by simp) _
  refine ⟨?_, ?_, hnew, ?_⟩
  · rw [heap_setCell_same g2]
    simp
  · rw [List.map_append, List.map_cons, List.map_nil]
    exact hs.row ho (fun b hb' => by have := hnew b hb'; simp; omega)
  · exact g1.setCell (fun _ => by simp) _
end Go.Proofs.YtjjkbdkalnhcbaaGreatDoor
