/- What a cache's get, put and New do. -/
import Derived.Test.YtpapjoonnmnnaaaCacTab
namespace Go.Proofs.Ytpapjoonnmnnaaa
open Go.RowKit Go.Lib

theorem vals_at {w : World} {tb lb : Nat} {T : Tab} {dv : Value} (h : TabAt w tb lb T dv) {i : Nat} {l : Ln} (hl : T.L[i]? = some l) :
    w.cell? ⟨lb, i * 4, none⟩ = some (.int .u64 l.c) ∧ w.cell? ⟨lb, i * 4 + 1, none⟩ = some (.int .u64 l.s) ∧ w.cell? ⟨lb, i * 4 + 2, none⟩ = some (.bool l.f) ∧ w.cell? ⟨lb, i * 4 + 3, none⟩ = some (.int .u64 l.m) := by
  have hh := fun j (hj : j < 4) => lnFlat_at hl j hj
  refine ⟨cell_of_heap h.lines ?_, cell_of_heap h.lines ?_, cell_of_heap h.lines ?_, cell_of_heap h.lines ?_⟩
  · have := hh 0 (by omega); simpa [Ln.vals] using this
  · have := hh 1 (by omega); simpa [Ln.vals] using this
  · have := hh 2 (by omega); simpa [Ln.vals] using this
  · have := hh 3 (by omega); simpa [Ln.vals] using this
theorem ln_at (T : Tab) (hn : 1 ≤ T.L.length) (c s : Int) : ∃ l, T.L[ixN T.L.length c s]? = some l := ⟨_, List.getElem?_eq_getElem (ixN_lt hn c s)⟩
theorem get_of {L : List Ln} {c s : Int} {l : Ln} (h : L[ixN L.length c s]? = some l) : getM L c s = (if l.is c s then l.m else 0) ∧ getB L c s = l.is c s := by
  unfold getM getB; rw [h]; exact ⟨rfl, rfl⟩
theorem key_cells {w w1 : World} {c s : Int} {f : Bool} (hF : Fr [] (w.alloc (.cells #[.int .u64 c, .int .u64 s, .bool f] 47)) w1) :
    w1.cell? ⟨w.heap.size, 0, none⟩ = some (.int .u64 c) ∧ w1.cell? ⟨w.heap.size, 1, none⟩ = some (.int .u64 s) ∧ w1.cell? ⟨w.heap.size, 2, none⟩ = some (.bool f) := by
  have h := hF.heap (k := w.heap.size) (by simp) (heap_new w _)
  exact ⟨cell_of_heap h rfl, cell_of_heap h rfl, cell_of_heap h rfl⟩
set_option maxRecDepth 100000 in
set_option maxHeartbeats 1000000 in
theorem tget_at {w : World} {tb lb : Nat} {T : Tab} {dv : Value} (h : TabAt w tb lb T dv) (c s : Int) (c1 : 0 ≤ c) (c2 : c ≤ 18446744073709551615) (s1 : 0 ≤ s) (s2 : s ≤ 18446744073709551615) :
    Calls Try.prog 15 #[.pointer (some ⟨tb, 0, none⟩), .agg #[.int .u64 c, .int .u64 s, .bool true]] w (Still (.tuple #[.int .u64 (getM T.L c s), .bool (getB T.L c s)]) w) := by
  obtain ⟨l, hl⟩ := ln_at T h.n1 c s
  obtain ⟨g1, g2⟩ := get_of hl
  rw [g1, g2]
  have hF0 : Fr [] w (w.alloc (.cells #[.int .u64 c, .int .u64 s, .bool true] 47)) := (Fr.refl _ _).alloc _
  have hp := place_at (h.fr0 hF0) c s true c1 c2 s1 s2
  have H := Lib.hid h
  generalize ixN T.L.length c s = i at *
  obtain ⟨lc, ls, lf, lm⟩ := l
  have hv := fun w' (hF : Fr [] w w') => vals_at (h.fr0 hF) hl
  simp only at hv
  clear g1 g2 h hl hF0
  by_cases he : lc = c ∧ ls = s ∧ lf = true
  · obtain ⟨rfl, rfl, rfl⟩ := he
    have e1 : Ln.is ⟨lc, ls, true, lm⟩ lc ls = true := by simp [Ln.is]
    simp only [e1, if_true]
    clear e1
    go_enter Try.func15, Try.ntmps15
    go_wp2_with (go_at_call 18; refine hp.mono ?_; rintro e w1 ⟨rfl, hF1⟩; obtain ⟨k0, k1, k2⟩ := key_cells hF1; obtain ⟨v0, v1, v2, v3⟩ := hv w1 (((Fr.refl _ _).alloc _).trans hF1); have HF1 := Lib.hid hF1; clear hF1)
    go_quiet (fail)
    go_wp2
    go_ret2
    exact ⟨rfl, (((Fr.refl _ _).alloc _).trans HF1.out).drewN _⟩
  · have e1 : Ln.is ⟨lc, ls, lf, lm⟩ c s = false := by
      unfold Ln.is
      cases lf with
      | false => simp
      | true => simpa using fun h1 h2 => he ⟨h1, h2, rfl⟩
    simp only [e1, Bool.false_eq_true, if_false]
    clear e1
    by_cases h1 : lc = c
    · subst h1
      by_cases h2 : ls = s
      · subst h2
        have h3 : lf = false := by
          cases lf with
          | false => rfl
          | true => exact absurd ⟨rfl, rfl, rfl⟩ he
        subst h3
        clear he
        go_enter Try.func15, Try.ntmps15
        go_wp2_with (go_at_call 18; refine hp.mono ?_; rintro e w1 ⟨rfl, hF1⟩; obtain ⟨k0, k1, k2⟩ := key_cells hF1; obtain ⟨v0, v1, v2, v3⟩ := hv w1 (((Fr.refl _ _).alloc _).trans hF1); have HF1 := Lib.hid hF1; clear hF1)
        go_quiet (fail)
        go_wp2
        go_ret2
        exact ⟨rfl, (((Fr.refl _ _).alloc _).trans HF1.out).drewN _⟩
      · have h2' : (ls == s) = false := by simpa using h2
        clear he h2
        go_enter Try.func15, Try.ntmps15
        go_wp2_with (go_at_call 18; refine hp.mono ?_; rintro e w1 ⟨rfl, hF1⟩; obtain ⟨k0, k1, k2⟩ := key_cells hF1; obtain ⟨v0, v1, v2, v3⟩ := hv w1 (((Fr.refl _ _).alloc _).trans hF1); have HF1 := Lib.hid hF1; clear hF1)
        go_quiet (fail)
        go_wp2
        go_ret2
        exact ⟨rfl, (((Fr.refl _ _).alloc _).trans HF1.out).drewN _⟩
    · have h1' : (lc == c) = false := by simpa using h1
      clear he h1
      go_enter Try.func15, Try.ntmps15
      go_wp2_with (go_at_call 18; refine hp.mono ?_; rintro e w1 ⟨rfl, hF1⟩; obtain ⟨k0, k1, k2⟩ := key_cells hF1; obtain ⟨v0, v1, v2, v3⟩ := hv w1 (((Fr.refl _ _).alloc _).trans hF1); have HF1 := Lib.hid hF1; clear hF1)
      go_quiet (fail)
      go_wp2
      go_ret2
      exact ⟨rfl, (((Fr.refl _ _).alloc _).trans HF1.out).drewN _⟩
/-! put -/
/-- Returned nothing; the lines are L' now, and only their block has changed. -/
def Lines (tb lb : Nat) (T : Tab) (dv : Value) (L' : List Ln) (w : World) (e : Ending) (w' : World) : Prop := e = .returned (.tuple #[]) ∧ TabAt w' tb lb { T with L := L' } dv ∧ Fr [lb] w w'
theorem heap_set4 {w : World} {b i : Nat} {L : List Ln} {t : TypeId} (h : w.heap[b]? = some (.cells (lnFlat L).toArray t (0, 0))) (hi : i < L.length) (l : Ln) :
    ((((w.setCell ⟨b, i * 4, none⟩ (.int .u64 l.c)).setCell ⟨b, i * 4 + 1, none⟩ (.int .u64 l.s)).setCell ⟨b, i * 4 + 2, none⟩ (.bool l.f)).setCell ⟨b, i * 4 + 3, none⟩ (.int .u64 l.m)).heap[b]? = some (.cells (lnFlat (L.set i l)).toArray t (0, 0)) := by
  have h1 := heap_setCell_same h (o := i * 4) (.int .u64 l.c)
  have h2 := heap_setCell_same h1 (o := i * 4 + 1) (.int .u64 l.s)
  have h3 := heap_setCell_same h2 (o := i * 4 + 2) (.bool l.f)
  have h4 := heap_setCell_same h3 (o := i * 4 + 3) (.int .u64 l.m)
  rw [h4, ← lnFlat_set hi l]
  simp only [List.setIfInBounds_toArray]
set_option maxRecDepth 100000 in
set_option maxHeartbeats 1000000 in
theorem tput_at {w : World} {tb lb : Nat} {T : Tab} {dv : Value} (h : TabAt w tb lb T dv) (c s m : Int) (c1 : 0 ≤ c) (c2 : c ≤ 18446744073709551615) (s1 : 0 ≤ s) (s2 : s ≤ 18446744073709551615) :
    Calls Try.prog 13 #[.pointer (some ⟨tb, 0, none⟩), .agg #[.int .u64 c, .int .u64 s, .bool true], .int .u64 m] w (Lines tb lb T dv (putL T.L c s m) w) := by
  obtain ⟨l, hl⟩ := ln_at T h.n1 c s
  have hil := ixN_lt h.n1 c s
  have hF0 : Fr [] w (w.alloc (.cells #[.int .u64 c, .int .u64 s, .bool true] 47)) := (Fr.refl _ _).alloc _
  have hp := place_at (h.fr0 hF0) c s true c1 c2 s1 s2
  have H := Lib.hid h
  unfold putL
  generalize ixN T.L.length c s = i at *
  have hv := fun w' (hF : Fr [] w w') => vals_at (h.fr0 hF) hl
  have hz := fun w' (hF : Fr [] w w') (o : Nat) => frozen_of_heap (o := o) (h.fr0 hF).lines
  have HIL := Lib.hid hil
  clear h hl hF0 hil
  go_enter Try.func13, Try.ntmps13
  go_wp2_with (go_at_call 18; refine hp.mono ?_; rintro e w1 ⟨rfl, hF1⟩; obtain ⟨k0, k1, k2⟩ := key_cells hF1; obtain ⟨v0, v1, v2, v3⟩ := hv w1 (((Fr.refl _ _).alloc _).trans hF1); have z0 := hz w1 (((Fr.refl _ _).alloc _).trans hF1) (i * 4); have z1 := hz w1 (((Fr.refl _ _).alloc _).trans hF1) (i * 4 + 1); have z2 := hz w1 (((Fr.refl _ _).alloc _).trans hF1) (i * 4 + 2); have z3 := hz w1 (((Fr.refl _ _).alloc _).trans hF1) (i * 4 + 3); have HF1 := Lib.hid hF1; clear hF1)
  go_end0
  have hT := H.out.fr0 (((Fr.refl _ _).alloc _).trans HF1.out)
  have hh := heap_set4 hT.lines HIL.out ⟨c, s, true, m⟩
  have hF : Fr [lb] w1 _ := ((((Fr.refl [lb] w1).setCell (p := ⟨lb, i * 4, none⟩) (fun _ => by simp) (.int .u64 c)).setCell (p := ⟨lb, i * 4 + 1, none⟩) (fun _ => by simp) (.int .u64 s)).setCell (p := ⟨lb, i * 4 + 2, none⟩) (fun _ => by simp) (.bool true)).setCell (p := ⟨lb, i * 4 + 3, none⟩) (fun _ => by simp) (.int .u64 m)
  exact ⟨rfl, hT.setLines (by simp) hF hh, ((((Fr.refl [] w).alloc _).trans HF1.out).weak).trans hF⟩
end Go.Proofs.Ytpapjoonnmnnaaa
