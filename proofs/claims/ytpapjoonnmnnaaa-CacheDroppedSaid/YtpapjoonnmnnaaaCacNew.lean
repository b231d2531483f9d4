/- What cache.New, and a cache's Get and Put do. -/
import Derived.Test.YtpapjoonnmnnaaaCacGet
namespace Go.Proofs.Ytpapjoonnmnnaaa
open Go.RowKit Go.Lib

def Tab.fresh (n : Nat) : Tab := ⟨List.replicate n Ln.zero, [], 0, 0⟩
theorem flat_fresh (n : Nat) : madeCells (Value.agg #[.int .u64 0, .int .u64 0, .bool false, .int .u64 0]).cells (n * 4) = (lnFlat (List.replicate n Ln.zero)).toArray := by
  rw [show (Value.agg #[.int .u64 0, .int .u64 0, .bool false, .int .u64 0]).cells = #[.int .u64 0, .int .u64 0, .bool false, .int .u64 0] from rfl]
  apply Array.toList_inj.1
  apply List.ext_getElem?
  intro k
  show _ = (lnFlat (List.replicate n Ln.zero))[k]?
  by_cases hk : k < n * 4
  · have h1 := lnFlat_at (L := List.replicate n Ln.zero) (i := k / 4) (l := Ln.zero) (by rw [List.getElem?_replicate, if_pos (by omega)]) (k % 4) (by omega)
    rw [show k / 4 * 4 + k % 4 = k by omega] at h1
    rw [h1, Array.getElem?_toList, Array.getElem?_eq_getElem (by rw [size_madeCells]; exact hk)]
    unfold madeCells
    simp only [Array.getElem_map, Array.getElem_range, List.size_toArray, List.length_cons, List.length_nil]
    have h4 : k % 4 < 4 := Nat.mod_lt _ (by omega)
    generalize k % 4 = j at *
    match j, h4 with
    | 0, _ => rfl
    | 1, _ => rfl
    | 2, _ => rfl
    | 3, _ => rfl
  · have h1 : (lnFlat (List.replicate n Ln.zero))[k]? = none := List.getElem?_eq_none (by rw [lnFlat_len]; simp; omega)
    have h2 : (madeCells #[Value.int .u64 0, .int .u64 0, .bool false, .int .u64 0] (n * 4))[k]? = none := Array.getElem?_eq_none (by rw [size_madeCells]; omega)
    rw [h1, Array.getElem?_toList, h2]
theorem three_new (w : World) (a b c : Obj) : (((w.alloc a).alloc b).alloc c).heap[w.heap.size]? = some a ∧ (((w.alloc a).alloc b).alloc c).heap[w.heap.size + 1]? = some b ∧ (((w.alloc a).alloc b).alloc c).heap[w.heap.size + 1 + 1]? = some c := by
  refine ⟨?_, ?_, ?_⟩
  · rw [Below.heap_alloc _ _ _ (by simp; omega), Below.heap_alloc _ _ _ (by simp)]; exact heap_new w a
  · rw [Below.heap_alloc _ _ _ (by simp)]
    have := heap_new (w.alloc a) b
    simpa using this
  · have := heap_new ((w.alloc a).alloc b) c
    simpa using this
/-- a cache at block cb -/
structure CacAt (w : World) (cb tb lb : Nat) (T : Tab) (dv : Value) : Prop where
  box : w.heap[cb]? = some (.cells #[.pointer (some ⟨tb, 0, none⟩)] 43 (0, 0))
  tab : TabAt w tb lb T dv
/-- Returned a new cache. -/
def MadeC (T : Tab) (w : World) (e : Ending) (w' : World) : Prop :=
  ∃ cb tb lb dv, e = .returned (.tuple #[.pointer (some ⟨cb, 0, none⟩), .int .i64 0]) ∧ CacAt w' cb tb lb T dv ∧ Fr [] w w' ∧ w.heap.size ≤ cb ∧ ∀ k ∈ tfoot tb lb dv, w.heap.size ≤ k
theorem makeL (n : Nat) (h2 : n ≤ 256) (W : World) : (Instr.makeSlice 39 (.int .i64 (n : Int)) (.int .i64 (n : Int))).run Try.prog W = .ok (.slice (some ⟨W.heap.size, 0, none⟩) n n) (W.alloc (.cells (lnFlat (List.replicate n Ln.zero)).toArray 53)) := by
  obtain ⟨i0, hi, hz0, hz1, hz2⟩ := info_parts infoLine
  have hr := run_make (P := Try.prog) W 39 53 i0 (.agg #[.int .u64 0, .int .u64 0, .bool false, .int .u64 0]) Try.underlying39 hi hz0 .i64 .i64 n n (by omega) (by omega) (by rw [hz2]; omega) (by omega)
  simp only [Int.toNat_natCast, hz1] at hr
  rw [← flat_fresh]
  exact hr
set_option maxRecDepth 100000 in
set_option maxHeartbeats 1000000 in
theorem newYes (w : World) (n : Nat) (h1 : 1 ≤ n) (h2 : n ≤ 256) : Calls Try.prog 6 #[.int .i64 n] w (MadeC (Tab.fresh n) w) := by
  have hm := fun W => makeL n h2 W
  have a1 : ¬ (n : Int) < 1 := by omega
  have a2 : ¬ 256 < (n : Int) := by omega
  go_enter Try.func6, Try.ntmps6
  go_wp2
  go_ret2
  have e1 : ((((w.alloc (.cells (lnFlat (List.replicate n Ln.zero)).toArray 53)).alloc (.cells #[.slice (some ⟨w.heap.size, 0, none⟩) n n, .slice none 0 0, .int .i64 0, .int .i64 0] 41)).alloc (.cells #[.pointer (some ⟨w.heap.size + 1, 0, none⟩)] 43))).heap[w.heap.size]? = _ := (three_new w _ _ _).1
  have e2 := (three_new w (.cells (lnFlat (List.replicate n Ln.zero)).toArray 53) (.cells #[.slice (some ⟨w.heap.size, 0, none⟩) n n, .slice none 0 0, .int .i64 0, .int .i64 0] 41) (.cells #[.pointer (some ⟨w.heap.size + 1, 0, none⟩)] 43)).2
  refine ⟨w.heap.size + 1 + 1, w.heap.size + 1, w.heap.size, .slice none 0 0, rfl, ⟨e2.2, ?_, e1, ⟨rfl, .inl ⟨rfl, rfl⟩⟩, by simpa [Tab.fresh] using h1, by simpa [Tab.fresh] using h2, by simp [Tab.fresh]⟩, (((Fr.refl _ _).alloc _).alloc _).alloc _, by omega, by simp [tfoot, Value.ownBlock]⟩
  simpa [Tab.fresh] using e2.1
/-! Get, Put of a cache -/
section
variable {w : World} {cb tb lb : Nat} {T : Tab} {dv : Value}
theorem CacAt.fr {S : List Nat} {w' : World} (h : CacAt w cb tb lb T dv) (hF : Fr S w w') (hc : cb ∉ S) (hS : ∀ k ∈ tfoot tb lb dv, k ∉ S) : CacAt w' cb tb lb T dv := ⟨hF.heap hc h.box, h.tab.fr hF hS⟩
theorem CacAt.fr0 {w' : World} (h : CacAt w cb tb lb T dv) (hF : Fr [] w w') : CacAt w' cb tb lb T dv := h.fr hF (by simp) (fun _ _ => by simp)
theorem CacAt.cl (h : CacAt w cb tb lb T dv) : cb ≠ lb := tag_ne' h.box h.tab.lines (by decide)
theorem CacAt.ct (h : CacAt w cb tb lb T dv) : cb ≠ tb := tag_ne' h.box h.tab.tab (by decide)
set_option maxRecDepth 100000 in
set_option maxHeartbeats 1000000 in
theorem cget_at (h : CacAt w cb tb lb T dv) (c s : Int) (c1 : 0 ≤ c) (c2 : c ≤ 18446744073709551615) (s1 : 0 ≤ s) (s2 : s ≤ 18446744073709551615) :
    Calls Try.prog 8 #[.pointer (some ⟨cb, 0, none⟩), .int .u64 c, .int .u64 s] w (Still (.tuple #[.int .u64 (getM T.L c s), .bool (getB T.L c s)]) w) := by
  have ht := table_at h.box
  have hk := fun w' => keyOf_at w' c s
  have hg := fun w' (hF : Fr [] w w') => tget_at (h.fr0 hF).tab c s c1 c2 s1 s2
  generalize getM T.L c s = M at *
  generalize getB T.L c s = B at *
  clear h
  go_enter Try.func8, Try.ntmps8
  go_wp2_with (first
    | (go_at_call 12; refine ht.mono ?_; rintro e w1 ⟨rfl, hF1⟩; have HF1 := Lib.hid hF1; clear hF1)
    | (go_at_call 14; refine (hk _).mono ?_; rintro e w2 ⟨rfl, hF2⟩; have HF2 := Lib.hid (HF1.out.trans hF2); clear hF2)
    | (go_at_call 15; refine (hg _ HF2.out).mono ?_; rintro e w3 ⟨rfl, hF3⟩; have HF3 := Lib.hid (HF2.out.trans hF3); clear hF3))
  go_ret2
  exact ⟨rfl, HF3.out⟩
/-- Returned nothing; the cache holds T now, and only blocks of S have changed. -/
def CTurns (cb tb lb : Nat) (T' : Tab) (S : List Nat) (w : World) (e : Ending) (w' : World) : Prop := e = .returned (.tuple #[]) ∧ ∃ dv', CacAt w' cb tb lb T' dv' ∧ Fr S w w' ∧ ∀ k, dv'.ownBlock = some k → k ∈ S ∨ w.heap.size ≤ k
set_option maxRecDepth 100000 in
set_option maxHeartbeats 1000000 in
theorem cput_at (h : CacAt w cb tb lb T dv) (c s m : Int) (c1 : 0 ≤ c) (c2 : c ≤ 18446744073709551615) (s1 : 0 ≤ s) (s2 : s ≤ 18446744073709551615) :
    Calls Try.prog 7 #[.pointer (some ⟨cb, 0, none⟩), .int .u64 c, .int .u64 s, .int .u64 m] w (CTurns cb tb lb { T with L := putL T.L c s m } (tfoot tb lb dv) w) := by
  have ht := table_at h.box
  have hk := fun w' => keyOf_at w' c s
  have hg := fun w' (hF : Fr [] w w') => tput_at (h.fr0 hF).tab c s m c1 c2 s1 s2
  have H := Lib.hid h
  generalize putL T.L c s m = L' at *
  clear h
  go_enter Try.func7, Try.ntmps7
  go_wp2_with (first
    | (go_at_call 12; refine ht.mono ?_; rintro e w1 ⟨rfl, hF1⟩; have HF1 := Lib.hid hF1; clear hF1)
    | (go_at_call 14; refine (hk _).mono ?_; rintro e w2 ⟨rfl, hF2⟩; have HF2 := Lib.hid (HF1.out.trans hF2); clear hF2)
    | (go_at_call 13; refine (hg _ HF2.out).mono ?_; rintro e w3 ⟨rfl, hT3, hF3⟩; have HT3 := Lib.hid hT3; have HF3 := Lib.hid hF3; clear hT3 hF3))
  go_end0
  refine ⟨rfl, dv, ⟨HF3.out.heap (by simpa using H.out.cl) (HF2.out.heap (by simp) H.out.box), HT3.out⟩, HF2.out.weak.trans (HF3.out.mono (fun j _ hj => by rw [List.mem_singleton] at hj; simp [tfoot, hj])), fun k hk => .inl (by simp [tfoot, hk])⟩
/-! Drop -/
set_option maxRecDepth 100000 in
set_option maxHeartbeats 4000000 in
theorem empty_at (h : TabAt w tb lb T dv) (s : Int) : Calls Try.prog 16 #[.pointer (some ⟨tb, 0, none⟩), .int .u64 s] w (Lines tb lb T dv (dropL T.L s) w) := by
  obtain ⟨n, hn⟩ : ∃ n, n = T.L.length := ⟨_, rfl⟩
  have hn2 : n ≤ 256 := by rw [hn]; exact h.n2
  have hc0 : w.cell? ⟨tb, 0, none⟩ = some (.slice (some ⟨lb, 0, none⟩) n n) := by rw [hn]; exact cell_of_heap (o := 0) h.tab rfl
  have HN := Lib.hid hn
  have H := Lib.hid h
  have HS : Hid (TabAt w tb lb { T with L := dropTo T.L s 0 } dv) := by show TabAt _ _ _ _ _; rw [dropTo_zero]; exact h
  clear h hn
  go_enter Try.func16, Try.ntmps16
  go_wp2
  go_loopw [11] (fun i wr => ∃ k : Nat, k ≤ n ∧ i = .int .i64 k ∧ Hid (TabAt wr tb lb { T with L := dropTo T.L s k } dv) ∧ Hid (Fr [lb] w wr)) (fun i _ => n - (intOf i).toNat)
  case atStart => exact ⟨0, Nat.zero_le _, rfl, HS, Fr.refl _ _⟩
  case round =>
    obtain ⟨k, hk, rfl, hT, hF⟩ := hrel
    by_cases hlt : k < n
    · have hkl : k < T.L.length := by rw [← HN.out]; exact hlt
      obtain ⟨l, hl⟩ : ∃ l, T.L[k]? = some l := ⟨_, List.getElem?_eq_getElem hkl⟩
      obtain ⟨v0, v1, v2, v3⟩ := vals_at hT.out (i := k) (l := l) (by exact dropTo_at hl)
      have z := fun o => frozen_of_heap (o := o) hT.out.lines
      have htl := lt_of_heap hT.out.tab
      have hll := lt_of_heap hT.out.lines
      have z0 := z (k * 4)
      have z1 := z (k * 4 + 1)
      have z2 := z (k * 4 + 2)
      have z3 := z (k * 4 + 3)
      have hc1 : wr.cell? ⟨tb, 0, none⟩ = some (.slice (some ⟨lb, 0, none⟩) n n) := by
        rw [hT.out.cell0]
        show some (Value.slice _ (dropTo T.L s k).length (dropTo T.L s k).length) = _
        rw [dropTo_len, ← HN.out]
      have HL := Lib.hid hl
      have k1 : (k : Int) < (n : Int) := by omega
      have k0 : (0 : Int) ≤ (k : Int) := by omega
      clear hl hkl z hc0
      obtain ⟨lc, ls, lf, lm⟩ := l
      simp only at v0 v1 v2 v3
      by_cases hs : ls = s
      · subst hs
        have HKL : Hid (k < (dropTo T.L ls k).length) := by rw [dropTo_len, ← HN.out]; exact hlt
        have HX : Hid (dropTo T.L ls (k + 1) = (dropTo T.L ls k).set k Ln.zero) := by rw [dropTo_next HL.out, dropLn, if_pos rfl]; exact rfl
        go_wp2
        go_roundw
        case rel =>
          have hh := heap_set4 hT.out.lines HKL.out Ln.zero
          have hF2 : Fr [lb] _ _ := ((((Fr.refl [lb] wr).setCell (p := ⟨lb, k * 4, none⟩) (fun _ => by simp) (.int .u64 0)).setCell (p := ⟨lb, k * 4 + 1, none⟩) (fun _ => by simp) (.int .u64 0)).setCell (p := ⟨lb, k * 4 + 2, none⟩) (fun _ => by simp) (.bool false)).setCell (p := ⟨lb, k * 4 + 3, none⟩) (fun _ => by simp) (.int .u64 0)
          refine ⟨k + 1, by omega, by go_num, ?_, ?_⟩
          · show TabAt _ _ _ _ _
            rw [HX.out]
            have hT2 := hT.out.setLines (L' := (dropTo T.L ls k).set k Ln.zero) (by simp) hF2 hh
            exact hT2.fr0 ((Fr.refl _ _).alloc _)
          · exact (hF.out.trans hF2).alloc _
        case measure => simp [intOf]; omega
      · have hs' : (ls == s) = false := by simpa using hs
        have HX : Hid (dropTo T.L s (k + 1) = dropTo T.L s k) := dropTo_keep HL.out hs
        clear hs
        go_wp2
        go_roundw
        case rel =>
          refine ⟨k + 1, by omega, by go_num, ?_, hF.out.alloc _⟩
          show TabAt _ _ _ _ _
          rw [HX.out]
          exact hT.out.fr0 ((Fr.refl _ _).alloc _)
        case measure => simp [intOf]; omega
    · have hkn : k = n := by omega
      subst hkn
      go_wp2
      go_end0
      refine ⟨rfl, ?_, hF.out⟩
      have := hT.out
      rw [HN.out, dropTo_all] at this
      exact this
end
end Go.Proofs.Ytpapjoonnmnnaaa
