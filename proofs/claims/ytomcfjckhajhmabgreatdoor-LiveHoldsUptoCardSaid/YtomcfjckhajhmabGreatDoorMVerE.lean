/- The document's examples of depths: plain. tappetlaw05: sameInts, of. The document's examples: awake of tappetlaw05. -/
import Derived.Test.YtomcfjckhajhmabGreatDoorMVerA
import Derived.Test.YtomcfjckhajhmabGreatDoorMVerD
import Derived.Laws.ResultCell
import Derived.Laws.Rows
namespace Go.Proofs.YtomcfjckhajhmabGreatDoor

/-- one depth for each place, kept by each step -/
def Mth.table (m : Mth) (t : List Nat) : Bool := (List.range m.code.length).all fun pc => match t[pc]?, m.code[pc]? with
  | some d, some i => !(m.fine i d) || ((!i.jumps || decide (t[i.a.toNat]? = some (i.after d))) && (!i.goesOn || !decide (pc + 1 < m.code.length) || decide (t[pc + 1]? = some (i.after d))))
  | _, _ => true
theorem Mth.table_at {m : Mth} {t : List Nat} (h : m.table t = true) {pc d : Nat} {i : Ins} (ht : t[pc]? = some d) (hi : m.code[pc]? = some i) (hf : m.fine i d = true) : (i.jumps = true → t[i.a.toNat]? = some (i.after d)) ∧ (i.goesOn = true → pc + 1 < m.code.length → t[pc + 1]? = some (i.after d)) := by
  unfold Mth.table at h
  have := List.all_eq_true.1 h pc (List.mem_range.2 (List.getElem?_eq_some_iff.1 hi).1)
  rw [ht, hi] at this
  simp only [hf, Bool.not_true, Bool.false_or, Bool.and_eq_true, Bool.or_eq_true, Bool.not_eq_true', decide_eq_true_eq, decide_eq_false_iff_not] at this
  refine ⟨fun hj => ?_, fun hg hl => ?_⟩
  · rcases this.1 with h | h
    · rw [hj] at h; cases h
    · exact h
  · rcases this.2 with (h | h) | h
    · rw [hg] at h; cases h
    · exact absurd hl h
    · exact h
theorem Way.table {m : Mth} {t : List Nat} (h0 : t[0]? = some 0) (hc : m.table t = true) {pc d : Nat} (h : Way m pc d) : t[pc]? = some d := by
  induction h with
  | start => exact h0
  | jump _ hi hf hj ih => exact (Mth.table_at hc ih hi hf).1 hj
  | next _ hi hf hg hl ih => exact (Mth.table_at hc ih hi hf).2 hg hl
/-- all is fine at each place -/
def Mth.fits (m : Mth) (t : List Nat) : Bool := (List.range m.code.length).all fun pc => match t[pc]?, m.code[pc]? with
  | some d, some i => m.fine i d && (!i.goesOn || decide (pc + 1 < m.code.length))
  | _, _ => false
theorem Mth.fits_at {m : Mth} {t : List Nat} (h : m.fits t = true) {pc d : Nat} {i : Ins} (ht : t[pc]? = some d) (hi : m.code[pc]? = some i) : m.fine i d = true ∧ (i.goesOn = true → pc + 1 < m.code.length) := by
  unfold Mth.fits at h
  have := List.all_eq_true.1 h pc (List.mem_range.2 (List.getElem?_eq_some_iff.1 hi).1)
  rw [ht, hi] at this
  simp only [Bool.and_eq_true, Bool.or_eq_true, Bool.not_eq_true', decide_eq_true_eq] at this
  refine ⟨this.1, fun hg => ?_⟩
  rcases this.2 with h | h
  · rw [hg] at h; cases h
  · exact h
theorem Mth.good_of {m : Mth} {t : List Nat} (hok : m.ok = true) (hop : ∀ i ∈ m.code, m.opOk i = true) (h0 : t[0]? = some 0) (hc : m.table t = true) (hf : m.fits t = true) : m.good := by
  refine ⟨hok, hop, fun j hj hb => ?_⟩
  rcases hb with ⟨d, e, h1, h2, hne⟩ | ⟨d, i, h1, hi, h3⟩
  · have := (h1.table h0 hc).symm.trans (h2.table h0 hc)
    exact hne (Option.some.inj this)
  · have := Mth.fits_at hf (h1.table h0 hc) hi
    rcases h3 with h3 | ⟨hg, he⟩
    · rw [this.1] at h3; cases h3
    · have := this.2 hg; omega
theorem Mth.depths_of {m : Mth} {t : List Nat} (g : m.good) (hl : t.length = m.code.length) (hw : ∀ pc d, t[pc]? = some d → Way m pc d) : m.depths = t.map (fun d : Nat => (d : Int)) := by
  refine List.ext_getElem? fun k => ?_
  rw [List.getElem?_map]
  by_cases hk : k < m.code.length
  · rw [Mth.depths_at hk]
    have hd := List.getElem?_eq_getElem (l := t) (i := k) (by omega)
    rw [hd]
    rw [Mth.depthAt_way (g.nb k hk) (hw k _ hd)]
    rfl
  · rw [List.getElem?_eq_none (by rw [Mth.depths_len]; omega), List.getElem?_eq_none (by omega)]
    rfl
def exOne : Ins := ⟨8, 2049, 0⟩
def ex1 : Mth := ⟨0, 2, 2, 0, [], [exOne, exOne, ⟨13, 0, 0⟩, ⟨17, 0, 0⟩]⟩
def ex2 : Mth := ⟨0, 2, 1, 0, [], [exOne, exOne, ⟨13, 0, 0⟩, ⟨17, 0, 0⟩]⟩
def ex3 : Mth := ⟨0, 2, 1, 0, [], [exOne]⟩
def ex4 : Mth := ⟨0, 2, 1, 0, [], [exOne, ⟨15, 0, 0⟩, ⟨18, 0, 0⟩]⟩
theorem ex1_good : ex1.good := Mth.good_of (t := [0, 1, 2, 1]) (by decide) (by decide) rfl (by decide) (by decide)
theorem ex4_good : ex4.good := Mth.good_of (t := [0, 1, 0]) (by decide) (by decide) rfl (by decide) (by decide)
theorem ex1_ways : Way ex1 0 0 ∧ Way ex1 1 1 ∧ Way ex1 2 2 ∧ Way ex1 3 1 := by
  have h0 : Way ex1 0 0 := .start
  have h1 : Way ex1 1 1 := .next (i := exOne) h0 rfl (by decide) (by decide) (by decide)
  have h2 : Way ex1 2 2 := .next (i := exOne) h1 rfl (by decide) (by decide) (by decide)
  exact ⟨h0, h1, h2, .next (i := ⟨13, 0, 0⟩) h2 rfl (by decide) (by decide) (by decide)⟩
theorem ex4_ways : Way ex4 0 0 ∧ Way ex4 1 1 ∧ Way ex4 2 0 := by
  have h0 : Way ex4 0 0 := .start
  have h1 : Way ex4 1 1 := .next (i := exOne) h0 rfl (by decide) (by decide) (by decide)
  exact ⟨h0, h1, .next (i := ⟨15, 0, 0⟩) h1 rfl (by decide) (by decide) (by decide)⟩
theorem ex1_depths : ex1.depths = [0, 1, 2, 1] := by
  obtain ⟨h0, h1, h2, h3⟩ := ex1_ways
  refine Mth.depths_of (t := [0, 1, 2, 1]) ex1_good rfl fun pc d h => ?_
  match pc with
  | 0 => cases h; exact h0
  | 1 => cases h; exact h1
  | 2 => cases h; exact h2
  | 3 => cases h; exact h3
  | n + 4 => simp at h
theorem ex4_depths : ex4.depths = [0, 1, 0] := by
  obtain ⟨h0, h1, h2⟩ := ex4_ways
  refine Mth.depths_of (t := [0, 1, 0]) ex4_good rfl fun pc d h => ?_
  match pc with
  | 0 => cases h; exact h0
  | 1 => cases h; exact h1
  | 2 => cases h; exact h2
  | n + 3 => simp at h
theorem ex2_to : DepthsTo ex2 [] 1 4 := by
  have h1 : Way ex2 1 1 := .next (i := exOne) .start rfl (by decide) (by decide) (by decide)
  refine .bad (k := 1) (by decide) (by decide) (by decide) (.inr ⟨1, exOne, h1, rfl, .inl (by decide)⟩) fun j hj hb => ?_
  obtain rfl : j = 0 := by omega
  rcases hb with ⟨d, e, h2, h3, hne⟩ | ⟨d, i, h2, hi, h3⟩
  · exact hne (Option.some.inj ((h2.table (t := [0, 1]) rfl (by decide)).symm.trans (h3.table (t := [0, 1]) rfl (by decide))))
  · have := h2.table (t := [0, 1]) rfl (by decide)
    cases this
    cases hi
    rcases h3 with h3 | ⟨-, h3⟩
    · exact absurd h3 (by decide)
    · exact absurd h3 (by decide)
theorem ex3_to : DepthsTo ex3 [] 0 4 := .bad (k := 0) (by decide) (by decide) (by decide) (.inr ⟨0, exOne, .start, rfl, .inr ⟨by decide, rfl⟩⟩) fun j hj => absurd hj (Nat.not_lt_zero _)
end Go.Proofs.YtomcfjckhajhmabGreatDoor
namespace Go.Proofs.YtomcfjckhajhmabGreatDoor
open Go.RowKit

end Go.Proofs.YtomcfjckhajhmabGreatDoor
namespace Go.Proofs.YtomcfjckhajhmabGreatDoor
open Go.RowKit

/-- what Depths reads of package-level variables -/
structure VG (w : World) : Prop where
  errs : VErrs w
  field : Field w
  db : DbAt w
  et : EType w
theorem VG.fr {w w' : World} (h : VG w) (hF : Fr [] w w') : VG w' := ⟨h.errs.fr hF, h.field.fr hF, h.db.fr hF, h.et.fr hF⟩
theorem ex_at {m : Mth} {l : List Int} {p en : Int} (hto : DepthsTo m l p en) (hlit : m.lits = []) {W : World} (hg : VG W) (b cc : Nat) (hb : W.heap[b]? = some (.cells (flatI m.code).toArray 69 (0, 0))) :
    Calls Tryz.prog 17 #[.agg #[.int .i64 m.args, .int .i64 m.temps, .int .i64 m.stack, .int .i64 m.prim, .slice none 0 0, .slice (some ⟨b, 0, none⟩) m.code.length cc]] W fun e w' => ∃ la lc, e = .returned (.tuple #[.slice la l.length lc, .int .i64 p, .int .i64 en]) ∧ Fr [] W w' ∧ RowAt w' la (l.map (Value.int .i64)) := by
  have hr : RowAt W (some ⟨b, 0, none⟩) (flatI m.code) := fun j u hj => ⟨b, 0, rfl, by rw [Nat.zero_add]; exact cell_of_heap hb (by simpa using hj)⟩
  have h := Depths_at m none (some ⟨b, 0, none⟩) 0 cc W hr hg.errs hg.field hg.db hg.et
  unfold Mth.v at h
  rw [hlit] at h
  refine h.mono ?_
  rintro e w' ⟨l', p', en', la, lc, hto', rfl, hF, hR, -⟩
  obtain ⟨rfl, rfl, rfl⟩ := hto.one hto'
  exact ⟨la, lc, rfl, hF, hR⟩
theorem ex1_at {W : World} (hg : VG W) (b cc : Nat) (hb : W.heap[b]? = some (.cells #[.int .i64 8, .int .i64 2049, .int .i64 0, .int .i64 8, .int .i64 2049, .int .i64 0, .int .i64 13, .int .i64 0, .int .i64 0, .int .i64 17, .int .i64 0, .int .i64 0] 69 (0, 0))) :
    Calls Tryz.prog 17 #[.agg #[.int .i64 0, .int .i64 2, .int .i64 2, .int .i64 0, .slice none 0 0, .slice (some ⟨b, 0, none⟩) 4 cc]] W fun e w' => ∃ la lc, e = .returned (.tuple #[.slice la 4 lc, .int .i64 (-1), .int .i64 0]) ∧ Fr [] W w' ∧ RowAt w' la [Value.int .i64 0, Value.int .i64 1, Value.int .i64 2, Value.int .i64 1] :=
  ex_at (m := ex1) (l := [0, 1, 2, 1]) (by rw [← ex1_depths]; exact .good ex1_good.ok ex1_good.op ex1_good.nb) rfl hg b cc (by rw [hb]; rfl)
theorem ex2_at {W : World} (hg : VG W) (b cc : Nat) (hb : W.heap[b]? = some (.cells #[.int .i64 8, .int .i64 2049, .int .i64 0, .int .i64 8, .int .i64 2049, .int .i64 0, .int .i64 13, .int .i64 0, .int .i64 0, .int .i64 17, .int .i64 0, .int .i64 0] 69 (0, 0))) :
    Calls Tryz.prog 17 #[.agg #[.int .i64 0, .int .i64 2, .int .i64 1, .int .i64 0, .slice none 0 0, .slice (some ⟨b, 0, none⟩) 4 cc]] W fun e w' => ∃ la lc, e = .returned (.tuple #[.slice la 0 lc, .int .i64 (1), .int .i64 4]) ∧ Fr [] W w' ∧ RowAt w' la [] :=
  ex_at (m := ex2) ex2_to rfl hg b cc (by rw [hb]; rfl)
theorem ex3_at {W : World} (hg : VG W) (b cc : Nat) (hb : W.heap[b]? = some (.cells #[.int .i64 8, .int .i64 2049, .int .i64 0] 69 (0, 0))) :
    Calls Tryz.prog 17 #[.agg #[.int .i64 0, .int .i64 2, .int .i64 1, .int .i64 0, .slice none 0 0, .slice (some ⟨b, 0, none⟩) 1 cc]] W fun e w' => ∃ la lc, e = .returned (.tuple #[.slice la 0 lc, .int .i64 (0), .int .i64 4]) ∧ Fr [] W w' ∧ RowAt w' la [] :=
  ex_at (m := ex3) ex3_to rfl hg b cc (by rw [hb]; rfl)
theorem ex4_at {W : World} (hg : VG W) (b cc : Nat) (hb : W.heap[b]? = some (.cells #[.int .i64 8, .int .i64 2049, .int .i64 0, .int .i64 15, .int .i64 0, .int .i64 0, .int .i64 18, .int .i64 0, .int .i64 0] 69 (0, 0))) :
    Calls Tryz.prog 17 #[.agg #[.int .i64 0, .int .i64 2, .int .i64 1, .int .i64 0, .slice none 0 0, .slice (some ⟨b, 0, none⟩) 3 cc]] W fun e w' => ∃ la lc, e = .returned (.tuple #[.slice la 3 lc, .int .i64 (-1), .int .i64 0]) ∧ Fr [] W w' ∧ RowAt w' la [Value.int .i64 0, Value.int .i64 1, Value.int .i64 0] :=
  ex_at (m := ex4) (l := [0, 1, 0]) (by rw [← ex4_depths]; exact .good ex4_good.ok ex4_good.op ex4_good.nb) rfl hg b cc (by rw [hb]; rfl)
end Go.Proofs.YtomcfjckhajhmabGreatDoor
