/- The document's examples of depths: plain. tappetlaw05: sameInts, of. The document's examples: awake of tappetlaw05. -/
import Derived.Test.YtjghgambieflaaaGreatDoorMVerA
import Derived.Test.YtjghgambieflaaaGreatDoorMVerD
import Derived.Laws.ResultCell
import Derived.Laws.Rows
namespace Go.Proofs.YtjghgambieflaaaGreatDoor

/-- one depth for each place, kept by each step -/
def Mth.table (m : Mth) (t : List Nat) : Bool := (List.range m.code.length).all fun pc => match t[pc]?, m.code[pc]? with
  | some d, some i => !(m.fine i d) || ((!i.jumps || decide (t[i.a.toNat]? = some (i.after d))) && (!i.goesOn || !decide (pc + 1 < m.code.length) || decide (t[pc + 1]? = some (i.after d))))
  | _, _ => true
theorem Mth.table_at {m : Mth} {t : List Nat} (h : m.table t = true) {pc d : Nat} {i : Ins} (ht : t[pc]? = some d) (hi : m.code[pc]? = some i) (hf : m.fine i d = true) : (i.jumps = true → t[i.a.toNat]? = some (i.after d)) ∧ (i.goesOn = true → pc + 1 < m.code.length → t[pc + 1]? = some (i.after d)) := by
  unfold Mth.table at h
  have := List.all_eq_true.1 h pc (List.mem_range.2 (List.getElem?_eq_some_iff.1 hi).1)
  rw [ht, hi] at this
  simp only [hf, Bool.not_true, Bool.false_or, Bool.and_eq_true, Bool.or_eq_true, Bool.not_eq_true', decide_eq_true_eq, decide_eq_false_iff_not] at this
  refine ⟨fun hj => ?_, fun hg hl => ?_⟩
  · rcases this.1 with h | h
    · rw [hj] at h; cases h
    · exact h
  · rcases this.2 with (h | h) | h
    · rw [hg] at h; cases h
    · exact absurd hl h
    · exact h
theorem Way.table {m : Mth} {t : List Nat} (h0 : t[0]? = some 0) (hc : m.table t = true) {pc d : Nat} (h : Way m pc d) : t[pc]? = some d := by
  induction h with
  | start => exact h0
  | jump _ hi hf hj ih => exact (Mth.table_at hc ih hi hf).1 hj
  | next _ hi hf hg hl ih => exact (Mth.table_at hc ih hi hf).2 hg hl
/-- all is fine at each place -/
def Mth.fits (m : Mth) (t : List Nat) : Bool := (List.range m.code.length).all fun pc => match t[pc]?, m.code[pc]? with
  | some d, some i => m.fine i d && (!i.goesOn || decide (pc + 1 < m.code.length))
  | _, _ => false
theorem Mth.fits_at {m : Mth} {t : List Nat} (h : m.fits t = true) {pc d : Nat} {i : Ins} (ht : t[pc]? = some d) (hi : m.code[pc]? = some i) : m.fine i d = true ∧ (i.goesOn = true → pc + 1 < m.code.length) := by
  unfold Mth.fits at h
  have := List.all_eq_true.1 h pc (List.mem_range.2 (List.getElem?_eq_some_iff.1 hi).1)
  rw [ht, hi] at this
  simp only [Bool.and_eq_true, Bool.or_eq_true, Bool.not_eq_true', decide_eq_true_eq] at this
  refine ⟨this.1, fun hg => ?_⟩
  rcases this.2 with h | h
  · rw [hg] at h; cases h
  · exact h
theorem Mth.good_of {m : Mth} {t : List Nat} (hok : m.ok = true) (hop : ∀ i ∈ m.code, m.opOk i = true) (h0 : t[0]? = some 0) (hc : m.table t = true) (hf : m.fits t = true) : m.good := by
  refine ⟨hok, hop, fun j hj hb => ?_⟩
  rcases hb with ⟨d, e, h1, h2, hne⟩ | ⟨d, i, h1, hi, h3⟩
  · have := (h1.table h0 hc).symm.trans (h2.table h0 hc)
    exact hne (Option.some.inj this)
  · have := Mth.fits_at hf (h1.table h0 hc) hi
    rcases h3 with h3 | ⟨hg, he⟩
    · rw [this.1] at h3; cases h3
    · have := this.2 hg; omega
theorem Mth.depths_of {m : Mth} {t : List Nat} (g : m.good) (hl : t.length = m.code.length) (hw : ∀ pc d, t[pc]? = some d → Way m pc d) : m.depths = t.map (fun d : Nat => (d : Int)) := by
  refine List.ext_getElem? fun k => ?_
  rw [List.getElem?_map]
  by_cases hk : k < m.code.length
  · rw [Mth.depths_at hk]
    have hd := List.getElem?_eq_getElem (l := t) (i := k) (by omega)
    rw [hd]
    rw [Mth.depthAt_way (g.nb k hk) (hw k _ hd)]
    rfl
  · rw [List.getElem?_eq_none (by rw [Mth.depths_len]; omega), List.getElem?_eq_none (by omega)]
    rfl
def exOne : Ins := ⟨8, 2049, 0⟩
def ex1 : Mth := ⟨0, 2, 2, 0, [], [exOne, exOne, ⟨13, 0, 0⟩, ⟨17, 0, 0⟩]⟩
def ex2 : Mth := ⟨0, 2, 1, 0, [], [exOne, exOne, ⟨13, 0, 0⟩, ⟨17, 0, 0⟩]⟩
def ex3 : Mth := ⟨0, 2, 1, 0, [], [exOne]⟩
def ex4 : Mth := ⟨0, 2, 1, 0, [], [exOne, ⟨15, 0, 0⟩, ⟨18, 0, 0⟩]⟩
theorem ex1_good : ex1.good := Mth.good_of (t := [0, 1, 2, 1]) (by decide) (by decide) rfl (by decide) (by decide)
theorem ex4_good : ex4.good := Mth.good_of (t := [0, 1, 0]) (by decide) (by decide) rfl (by decide) (by decide)
theorem ex1_ways : Way ex1 0 0 ∧ Way ex1 1 1 ∧ Way ex1 2 2 ∧ Way ex1 3 1 := by
  have h0 : Way ex1 0 0 := .start
  have h1 : Way ex1 1 1 := .next (i := exOne) h0 rfl (by decide) (by decide) (by decide)
  have h2 : Way ex1 2 2 := .next (i := exOne) h1 rfl (by decide) (by decide) (by decide)
  exact ⟨h0, h1, h2, .next (i := ⟨13, 0, 0⟩) h2 rfl (by decide) (by decide) (by decide)⟩
theorem ex4_ways : Way ex4 0 0 ∧ Way ex4 1 1 ∧ Way ex4 2 0 := by
  have h0 : Way ex4 0 0 := .start
  have h1 : Way ex4 1 1 := .next (i := exOne) h0 rfl (by decide) (by decide) (by decide)
  exact ⟨h0, h1, .next (i := ⟨15, 0, 0⟩) h1 rfl (by decide) (by decide) (by decide)⟩
theorem ex1_depths : ex1.depths = [0, 1, 2, 1] := by
  obtain ⟨h0, h1, h2, h3⟩ := ex1_ways
  refine Mth.depths_of (t := [0, 1, 2, 1]) ex1_good rfl fun pc d h => ?_
  match pc with
  | 0 => cases h; exact h0
  | 1 => cases h; exact h1
  | 2 => cases h; exact h2
  | 3 => cases h; exact h3
  | n + 4 => simp at h
theorem ex4_depths : ex4.depths = [0, 1, 0] := by
  obtain ⟨h0, h1, h2⟩ := ex4_ways
  refine Mth.depths_of (t := [0, 1, 0]) ex4_good rfl fun pc d h => ?_
  match pc with
  | 0 => cases h; exact h0
  | 1 => cases h; exact h1
  | 2 => cases h; exact h2
  | n + 3 => simp at h
theorem ex2_to : DepthsTo ex2 [] 1 4 := by
  have h1 : Way ex2 1 1 := .next (i := exOne) .start rfl (by decide) (by decide) (by decide)
  refine .bad (k := 1) (by decide) (by decide) (by decide) (.inr ⟨1, exOne, h1, rfl, .inl (by decide)⟩) fun j hj hb => ?_
  obtain rfl : j = 0 := by omega
  rcases hb with ⟨d, e, h2, h3, hne⟩ | ⟨d, i, h2, hi, h3⟩
  · exact hne (Option.some.inj ((h2.table (t := [0, 1]) rfl (by decide)).symm.trans (h3.table (t := [0, 1]) rfl (by decide))))
  · have := h2.table (t := [0, 1]) rfl (by decide)
    cases this
    cases hi
    rcases h3 with h3 | ⟨-, h3⟩
    · exact absurd h3 (by decide)
    · exact absurd h3 (by decide)
theorem ex3_to : DepthsTo ex3 [] 0 4 := .bad (k := 0) (by decide) (by decide) (by decide) (.inr ⟨0, exOne, .start, rfl, .inr ⟨by decide, rfl⟩⟩) fun j hj => absurd hj (Nat.not_lt_zero _)
end Go.Proofs.YtjghgambieflaaaGreatDoor
namespace Go.Proofs.YtjghgambieflaaaGreatDoor
open Go.RowKit

set_option maxRecDepth 100000 in
set_option maxHeartbeats 1600000 in
theorem sameInts_at (xs ys : List Int) (xa ya : Option Addr) (xc yc : Nat) (w : World) (hx : RowAt w xa (xs.map (Value.int .i64))) (hy : RowAt w ya (ys.map (Value.int .i64))) (hl : xs.length ≤ 65536) (hl2 : ys.length ≤ 65536) :
    Calls Tryz.prog 11 #[.slice xa xs.length xc, .slice ya ys.length yc] w (Still (.bool (decide (xs = ys))) w) := by
  obtain ⟨n, hn⟩ : ∃ n, n = xs.length := ⟨_, rfl⟩
  obtain ⟨k, hk⟩ : ∃ n, n = ys.length := ⟨_, rfl⟩
  obtain ⟨B, hB⟩ : ∃ B, B = decide (xs = ys) := ⟨_, rfl⟩
  rw [← hB, ← hn, ← hk]
  rw [← hn] at hl
  rw [← hk] at hl2
  have HX := Lib.hid hx
  have HY := Lib.hid hy
  have HN := Lib.hid hn
  have HK := Lib.hid hk
  have HB := Lib.hid hB
  clear hx hy hB
  by_cases hne : n = k
  · have HL : Hid (xs.length = ys.length) := Lib.hid (by rw [← hn, ← hk, hne])
    subst hne
    clear hn hk
    have hqq : ((n : Int) == (n : Int)) = true := by simp
    have hqn : ((n : Int) != (n : Int)) = false := by simp
    go_enter Tryz.func11, Tryz.ntmps11
    go_wp2_with fail
    go_loopw [5] (fun i wr => ∃ q : Nat, q ≤ n ∧ i = .int .i64 q ∧ Hid (Fr [] w wr) ∧ Hid (∀ j, j < q → xs[j]? = ys[j]?)) (fun i _ => n - (intOf i).toNat)
    case atStart => exact ⟨0, Nat.zero_le _, rfl, Lib.hid (Fr.refl _ _), Lib.hid fun j hj => absurd hj (Nat.not_lt_zero _)⟩
    case round =>
      obtain ⟨q, hq, rfl, hF, hall⟩ := hrel
      by_cases hlt : q < n
      · have hxl : q < xs.length := by rw [← HN.out]; exact hlt
        have hyl : q < ys.length := by rw [← HL.out]; exact hxl
        obtain ⟨x, hxe⟩ : ∃ x, xs[q]? = some x := ⟨_, List.getElem?_eq_getElem hxl⟩
        obtain ⟨y, hye⟩ : ∃ y, ys[q]? = some y := ⟨_, List.getElem?_eq_getElem hyl⟩
        obtain ⟨g, o, rfl, c1⟩ := HX.out q (.int .i64 x) (by rw [List.getElem?_map, hxe]; rfl)
        obtain ⟨g2, o2, rfl, c2⟩ := HY.out q (.int .i64 y) (by rw [List.getElem?_map, hye]; rfl)
        have d1 := hF.out.cell (p := ⟨g, o + q, none⟩) (by simp) c1
        have d2 := hF.out.cell (p := ⟨g2, o2 + q, none⟩) (by simp) c2
        have HXE := Lib.hid hxe
        have HYE := Lib.hid hye
        have z0 : (0 : Int) ≤ (q : Int) := by omega
        have z1 : (q : Int) < (n : Int) := by omega
        clear hxl hyl hxe hye c1 c2
        by_cases e : x = y
        · subst e
          have hne2 : (x != x) = false := by simp
          have HNX : Hid (∀ j, j < q + 1 → xs[j]? = ys[j]?) := Lib.hid fun j hj => by
            by_cases e : j = q
            · subst e; rw [HXE.out, HYE.out]
            · exact hall.out j (by omega)
          go_wp2_with fail
          go_quiet (fail)
          go_wp2_with fail
          go_roundw
          case rel => exact ⟨q + 1, by omega, by go_num, Lib.hid (hF.out.drewN _), HNX⟩
          case measure => simp [intOf]; omega
        · have hne2 : (x != y) = true := by simp [e]
          have HV : Hid (B = false) := Lib.hid (by
            rw [HB.out]
            simp only [decide_eq_false_iff_not]
            rintro rfl
            have := HXE.out.symm.trans HYE.out
            exact e (Option.some.inj this))
          clear e
          go_wp2_with fail
          go_quiet (fail)
          go_wp2_with fail
          go_ret
          exact ⟨ret1 (vb HV.out.symm), hF.out.drewN _⟩
      · have hqn' : q = n := by omega
        subst hqn'
        have hqd : decide (q < q) = false := by simp
        have HV : Hid (B = true) := Lib.hid (by
          rw [HB.out]
          simp only [decide_eq_true_eq]
          refine List.ext_getElem? fun j => ?_
          by_cases hj : j < q
          · exact hall.out j hj
          · rw [List.getElem?_eq_none (by rw [← HN.out]; omega), List.getElem?_eq_none (by rw [← HL.out, ← HN.out]; omega)])
        go_wp2_with fail
        go_ret
        exact ⟨ret1 (vb HV.out.symm), hF.out⟩
  · have e1 : ((n : Int) != (k : Int)) = true := by simp; omega
    have HV : Hid (B = false) := Lib.hid (by
      rw [HB.out]
      simp only [decide_eq_false_iff_not]
      rintro rfl
      exact hne (hn.trans hk.symm))
    clear hn hk hne
    go_enter Tryz.func11, Tryz.ntmps11
    go_wp2_with fail
    go_ret
    exact ⟨ret1 (vb HV.out.symm), Fr.refl _ _⟩
end Go.Proofs.YtjghgambieflaaaGreatDoor
namespace Go.Proofs.YtjghgambieflaaaGreatDoor
open Go.RowKit

/-- what Depths reads of package-level variables -/
structure VG (w : World) : Prop where
  errs : VErrs w
  field : Field w
  db : DbAt w
  et : EType w
theorem VG.fr {w w' : World} (h : VG w) (hF : Fr [] w w') : VG w' := ⟨h.errs.fr hF, h.field.fr hF, h.db.fr hF, h.et.fr hF⟩
set_option maxRecDepth 100000 in
set_option maxHeartbeats 1600000 in
theorem of_at (s : Int) (la : Option Addr) (n c : Nat) (w : World) : Calls Tryz.prog 10 #[.int .i64 s, .int .i64 0, .slice la n c] w (Still (.agg #[.int .i64 0, .int .i64 2, .int .i64 s, .int .i64 0, .slice none 0 0, .slice la n c]) w) := by
  go_enter Tryz.func10, Tryz.ntmps10
  go_wp2_with fail
  refine wp_loop_rounds 1 ?_
  rw [rounds_succ]
  go_wp2_with fail
  (try simp only [Exit.inBlock, Exit.then])
  refine bodyPost_ret (v := .agg #[.int .i64 0, .int .i64 2, .int .i64 s, .int .i64 0, .slice none 0 0, .slice la n c]) ?_ rfl ⟨rfl, ?_⟩
  · exact results_cell_row (P := Tryz.prog) rfl _ _ w.heap.size 25 _ (0, 0) _ rfl (((Fr.refl [] _).alloc _).heap (by simp) (heap_new w _)) Tryz.underlying25 rfl (by kernel_rfl)
  · exact ((Fr.refl _ _).alloc _).alloc _
theorem ex_at {m : Mth} {l : List Int} {p en : Int} (hto : DepthsTo m l p en) (hlit : m.lits = []) {W : World} (hg : VG W) (b cc : Nat) (hb : W.heap[b]? = some (.cells (flatI m.code).toArray 42 (0, 0))) :
    Calls Tryz.prog 9 #[.agg #[.int .i64 m.args, .int .i64 m.temps, .int .i64 m.stack, .int .i64 m.prim, .slice none 0 0, .slice (some ⟨b, 0, none⟩) m.code.length cc]] W fun e w' => ∃ la lc, e = .returned (.tuple #[.slice la l.length lc, .int .i64 p, .int .i64 en]) ∧ Fr [] W w' ∧ RowAt w' la (l.map (Value.int .i64)) := by
  have hr : RowAt W (some ⟨b, 0, none⟩) (flatI m.code) := fun j u hj => ⟨b, 0, rfl, by rw [Nat.zero_add]; exact cell_of_heap hb (by simpa using hj)⟩
  have h := Depths_at m none (some ⟨b, 0, none⟩) 0 cc W hr hg.errs hg.field hg.db hg.et
  unfold Mth.v at h
  rw [hlit] at h
  refine h.mono ?_
  rintro e w' ⟨l', p', en', la, lc, hto', rfl, hF, hR, -⟩
  obtain ⟨rfl, rfl, rfl⟩ := hto.one hto'
  exact ⟨la, lc, rfl, hF, hR⟩
theorem same_new (xs : List Int) (xa : Option Addr) (xc : Nat) (w : World) (hx : RowAt w xa (xs.map (Value.int .i64))) (hl : xs.length ≤ 65536) :
    Calls Tryz.prog 11 #[.slice xa xs.length xc, .slice (some ⟨w.heap.size, 0, none⟩) xs.length xs.length] (w.alloc (.cells (xs.map (Value.int .i64)).toArray 3)) (Still (.bool true) (w.alloc (.cells (xs.map (Value.int .i64)).toArray 3))) := by
  have h := sameInts_at xs xs xa (some ⟨w.heap.size, 0, none⟩) xc xs.length (w.alloc (.cells (xs.map (Value.int .i64)).toArray 3)) (row_fr hx ((Fr.refl _ _).alloc _)) (fun j u hj => ⟨w.heap.size, 0, rfl, by rw [Nat.zero_add]; exact cell_of_heap (heap_new _ _) (by simpa using hj)⟩) hl hl
  simpa using h
theorem ex1_at {W : World} (hg : VG W) (b cc : Nat) (hb : W.heap[b]? = some (.cells #[.int .i64 8, .int .i64 2049, .int .i64 0, .int .i64 8, .int .i64 2049, .int .i64 0, .int .i64 13, .int .i64 0, .int .i64 0, .int .i64 17, .int .i64 0, .int .i64 0] 42 (0, 0))) :
    Calls Tryz.prog 9 #[.agg #[.int .i64 0, .int .i64 2, .int .i64 2, .int .i64 0, .slice none 0 0, .slice (some ⟨b, 0, none⟩) 4 cc]] W fun e w' => ∃ la lc, e = .returned (.tuple #[.slice la 4 lc, .int .i64 (-1), .int .i64 0]) ∧ Fr [] W w' ∧ RowAt w' la [Value.int .i64 0, Value.int .i64 1, Value.int .i64 2, Value.int .i64 1] :=
  ex_at (m := ex1) (l := [0, 1, 2, 1]) (by rw [← ex1_depths]; exact .good ex1_good.ok ex1_good.op ex1_good.nb) rfl hg b cc (by rw [hb]; rfl)
theorem ex2_at {W : World} (hg : VG W) (b cc : Nat) (hb : W.heap[b]? = some (.cells #[.int .i64 8, .int .i64 2049, .int .i64 0, .int .i64 8, .int .i64 2049, .int .i64 0, .int .i64 13, .int .i64 0, .int .i64 0, .int .i64 17, .int .i64 0, .int .i64 0] 42 (0, 0))) :
    Calls Tryz.prog 9 #[.agg #[.int .i64 0, .int .i64 2, .int .i64 1, .int .i64 0, .slice none 0 0, .slice (some ⟨b, 0, none⟩) 4 cc]] W fun e w' => ∃ la lc, e = .returned (.tuple #[.slice la 0 lc, .int .i64 (1), .int .i64 4]) ∧ Fr [] W w' ∧ RowAt w' la [] :=
  ex_at (m := ex2) ex2_to rfl hg b cc (by rw [hb]; rfl)
theorem ex3_at {W : World} (hg : VG W) (b cc : Nat) (hb : W.heap[b]? = some (.cells #[.int .i64 8, .int .i64 2049, .int .i64 0] 42 (0, 0))) :
    Calls Tryz.prog 9 #[.agg #[.int .i64 0, .int .i64 2, .int .i64 1, .int .i64 0, .slice none 0 0, .slice (some ⟨b, 0, none⟩) 1 cc]] W fun e w' => ∃ la lc, e = .returned (.tuple #[.slice la 0 lc, .int .i64 (0), .int .i64 4]) ∧ Fr [] W w' ∧ RowAt w' la [] :=
  ex_at (m := ex3) ex3_to rfl hg b cc (by rw [hb]; rfl)
theorem ex4_at {W : World} (hg : VG W) (b cc : Nat) (hb : W.heap[b]? = some (.cells #[.int .i64 8, .int .i64 2049, .int .i64 0, .int .i64 15, .int .i64 0, .int .i64 0, .int .i64 18, .int .i64 0, .int .i64 0] 42 (0, 0))) :
    Calls Tryz.prog 9 #[.agg #[.int .i64 0, .int .i64 2, .int .i64 1, .int .i64 0, .slice none 0 0, .slice (some ⟨b, 0, none⟩) 3 cc]] W fun e w' => ∃ la lc, e = .returned (.tuple #[.slice la 3 lc, .int .i64 (-1), .int .i64 0]) ∧ Fr [] W w' ∧ RowAt w' la [Value.int .i64 0, Value.int .i64 1, Value.int .i64 0] :=
  ex_at (m := ex4) (l := [0, 1, 0]) (by rw [← ex4_depths]; exact .good ex4_good.ok ex4_good.op ex4_good.nb) rfl hg b cc (by rw [hb]; rfl)
set_option maxRecDepth 100000 in
set_option maxHeartbeats 800000 in
theorem awake5 (w : World) (hg : VG w) : Calls Tryz.prog 5 #[] w (Still (.bool true) w) := by
  have HG := Lib.hid hg
  clear hg
  go_enter Tryz.func5, Tryz.ntmps5
  go_wp2_with fail
  refine (of_at 2 _ 4 4 _).mono ?_
  rintro e w1 ⟨rfl, hF1⟩
  have HR1 : Hid (w1.heap[w.heap.size + 1]? = some (.cells #[.int .i64 8, .int .i64 2049, .int .i64 0, .int .i64 8, .int .i64 2049, .int .i64 0, .int .i64 13, .int .i64 0, .int .i64 0, .int .i64 17, .int .i64 0, .int .i64 0] 42 (0, 0))) := Lib.hid (by
    have hs : (w.alloc (.cells #[.int .i64 8, .int .i64 2049, .int .i64 0] 42)).heap.size = w.heap.size + 1 := by simp
    have h := hF1.heap (by simp) (heap_new (w.alloc (.cells #[.int .i64 8, .int .i64 2049, .int .i64 0] 42)) _)
    rw [hs] at h
    exact h)
  have HF1 : Hid (Fr [] w w1) := (((Fr.refl _ _).alloc _).alloc _).trans hF1
  have HO1 : Hid (w1.heap[w.heap.size]? = some (.cells #[.int .i64 8, .int .i64 2049, .int .i64 0] 42 (0, 0))) := Lib.hid (hF1.heap (by simp) (((Fr.refl [] _).alloc _).heap (by simp) (heap_new w _)))
  clear hF1
  go_wp2_with fail
  refine (ex1_at (HG.out.fr HF1.out) (w.heap.size + 1) 4 HR1.out).mono ?_
  rintro e w2 ⟨a1, c1, rfl, hF2, hR1⟩
  have HF2 : Hid (Fr [] w w2) := HF1.out.trans hF2
  have HO1p : Hid (w2.heap[w.heap.size]? = some (.cells #[.int .i64 8, .int .i64 2049, .int .i64 0] 42 (0, 0))) := Lib.hid (hF2.heap (by simp) HO1.out)
  have HX1 := Lib.hid hR1
  have o0 := cell_of_heap (o := 0) HO1p.out rfl; have o1 := cell_of_heap (o := 1) HO1p.out rfl; have o2 := cell_of_heap (o := 2) HO1p.out rfl
  clear hF2 hR1 
  go_wp2_with fail
  refine (of_at 1 _ 4 4 _).mono ?_
  rintro e w3 ⟨rfl, hF3⟩
  have HR2 : Hid (w3.heap[w2.heap.size]? = some (.cells #[.int .i64 8, .int .i64 2049, .int .i64 0, .int .i64 8, .int .i64 2049, .int .i64 0, .int .i64 13, .int .i64 0, .int .i64 0, .int .i64 17, .int .i64 0, .int .i64 0] 42 (0, 0))) := Lib.hid (hF3.heap (by simp) (heap_new w2 _))
  have HF3 : Hid (Fr [] w w3) := HF2.out.trans (((Fr.refl _ _).alloc _).trans hF3)
  have HO2 : Hid (w3.heap[w.heap.size]? = some (.cells #[.int .i64 8, .int .i64 2049, .int .i64 0] 42 (0, 0))) := Lib.hid ((((Fr.refl [] _).alloc _).trans hF3).heap (by simp) HO1p.out)
  have HY2 : Hid (Fr [] w2 w3) := Lib.hid (((Fr.refl _ _).alloc _).trans hF3)
  clear hF3
  go_wp2_with fail
  refine (ex2_at (HG.out.fr HF3.out) w2.heap.size 4 HR2.out).mono ?_
  rintro e w4 ⟨a2, c2, rfl, hF4, hR2⟩
  have HF4 : Hid (Fr [] w w4) := HF3.out.trans hF4
  have HO2p : Hid (w4.heap[w.heap.size]? = some (.cells #[.int .i64 8, .int .i64 2049, .int .i64 0] 42 (0, 0))) := Lib.hid (hF4.heap (by simp) HO2.out)
  have HX2 := Lib.hid hR2
  have HZ2 : Hid (Fr [] w2 w4) := HY2.out.trans hF4
  have o0 := cell_of_heap (o := 0) HO2p.out rfl; have o1 := cell_of_heap (o := 1) HO2p.out rfl; have o2 := cell_of_heap (o := 2) HO2p.out rfl
  clear hF4 hR2
  go_wp2_with fail
  refine (of_at 1 _ 1 1 _).mono ?_
  rintro e w5 ⟨rfl, hF5⟩
  have HR3 : Hid (w5.heap[w4.heap.size]? = some (.cells #[.int .i64 8, .int .i64 2049, .int .i64 0] 42 (0, 0))) := Lib.hid (hF5.heap (by simp) (heap_new w4 _))
  have HF5 : Hid (Fr [] w w5) := HF4.out.trans (((Fr.refl _ _).alloc _).trans hF5)
  have HO3 : Hid (w5.heap[w.heap.size]? = some (.cells #[.int .i64 8, .int .i64 2049, .int .i64 0] 42 (0, 0))) := Lib.hid ((((Fr.refl [] _).alloc _).trans hF5).heap (by simp) HO2p.out)
  have HY3 : Hid (Fr [] w4 w5) := Lib.hid (((Fr.refl _ _).alloc _).trans hF5)
  clear hF5
  go_wp2_with fail
  refine (ex3_at (HG.out.fr HF5.out) w4.heap.size 1 HR3.out).mono ?_
  rintro e w6 ⟨a3, c3, rfl, hF6, hR3⟩
  have HF6 : Hid (Fr [] w w6) := HF5.out.trans hF6
  have HO3p : Hid (w6.heap[w.heap.size]? = some (.cells #[.int .i64 8, .int .i64 2049, .int .i64 0] 42 (0, 0))) := Lib.hid (hF6.heap (by simp) HO3.out)
  have HX3 := Lib.hid hR3
  have HZ3 : Hid (Fr [] w4 w6) := HY3.out.trans hF6
  have o0 := cell_of_heap (o := 0) HO3p.out rfl; have o1 := cell_of_heap (o := 1) HO3p.out rfl; have o2 := cell_of_heap (o := 2) HO3p.out rfl
  clear hF6 hR3
  go_wp2_with fail
  refine (of_at 1 _ 3 3 _).mono ?_
  rintro e w7 ⟨rfl, hF7⟩
  have HR4 : Hid (w7.heap[w6.heap.size]? = some (.cells #[.int .i64 8, .int .i64 2049, .int .i64 0, .int .i64 15, .int .i64 0, .int .i64 0, .int .i64 18, .int .i64 0, .int .i64 0] 42 (0, 0))) := Lib.hid (hF7.heap (by simp) (heap_new w6 _))
  have HF7 : Hid (Fr [] w w7) := HF6.out.trans (((Fr.refl _ _).alloc _).trans hF7)
  have HO4 : Hid (w7.heap[w.heap.size]? = some (.cells #[.int .i64 8, .int .i64 2049, .int .i64 0] 42 (0, 0))) := Lib.hid ((((Fr.refl [] _).alloc _).trans hF7).heap (by simp) HO3p.out)
  have HY4 : Hid (Fr [] w6 w7) := Lib.hid (((Fr.refl _ _).alloc _).trans hF7)
  clear hF7
  go_wp2_with fail
  refine (ex4_at (HG.out.fr HF7.out) w6.heap.size 3 HR4.out).mono ?_
  rintro e w8 ⟨a4, c4, rfl, hF8, hR4⟩
  have HF8 : Hid (Fr [] w w8) := HF7.out.trans hF8
  have HO4p : Hid (w8.heap[w.heap.size]? = some (.cells #[.int .i64 8, .int .i64 2049, .int .i64 0] 42 (0, 0))) := Lib.hid (hF8.heap (by simp) HO4.out)
  have HX4 := Lib.hid hR4
  have HZ4 : Hid (Fr [] w6 w8) := HY4.out.trans hF8
  have o0 := cell_of_heap (o := 0) HO4p.out rfl; have o1 := cell_of_heap (o := 1) HO4p.out rfl; have o2 := cell_of_heap (o := 2) HO4p.out rfl
  clear hF8 hR4
  have HL : Hid (RowAt w8 a1 (([0, 1, 2, 1] : List Int).map (Value.int .i64))) := Lib.hid (row_fr HX1.out (HZ2.out.trans (HZ3.out.trans HZ4.out)))
  go_wp2_with fail
  refine (same_new [0, 1, 2, 1] a1 c1 w8 HL.out (by simp)).mono ?_
  rintro e w9 ⟨rfl, hF9⟩
  have HF9 : Hid (Fr [] w8 w9) := Lib.hid (((Fr.refl _ _).alloc _).trans hF9)
  have HL9 : Hid (RowAt w9 a4 (([0, 1, 0] : List Int).map (Value.int .i64))) := Lib.hid (row_fr HX4.out HF9.out)
  clear hF9
  go_wp2_with fail
  refine (same_new [0, 1, 0] a4 c4 w9 HL9.out (by simp)).mono ?_
  rintro e w10 ⟨rfl, hF10⟩
  have HF10 : Hid (Fr [] w w10) := Lib.hid (HF8.out.trans (HF9.out.trans (((Fr.refl _ _).alloc _).trans hF10)))
  clear hF10
  go_wp2_with fail
  go_ret
  exact ⟨rfl, HF10.out⟩
end Go.Proofs.YtjghgambieflaaaGreatDoor
