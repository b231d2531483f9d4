/- What a cache does that was never made: nil, or one without a table. It has an empty table at each call. -/
import Derived.Test.YtollpgckdldonaaGreatDoorMCacB
namespace Go.Proofs.YtollpgckdldonaaGreatDoor
open Go.RowKit

/-- an empty table -/
def NoTab (w : World) (tb : Nat) : Prop := w.heap[tb]? = some (.cells #[.slice none 0 0, .slice none 0 0, .int .i64 0, .int .i64 0] 74 (0, 0))
/-- a table without lines -/
def NoLines (w : World) (tb : Nat) : Prop := ∃ d r k, w.heap[tb]? = some (.cells #[.slice none 0 0, d, r, k] 74 (0, 0))
/-- a cache that was never made -/
def NoCac (w : World) (v : Value) : Prop := v = .pointer none ∨ ∃ cb, v = .pointer (some ⟨cb, 0, none⟩) ∧ w.heap[cb]? = some (.cells #[.pointer none] 38 (0, 0))
/-- Returned a new empty table. -/
def NewTab (w : World) (e : Ending) (w' : World) : Prop := ∃ tb, e = .returned (.pointer (some ⟨tb, 0, none⟩)) ∧ NoTab w' tb ∧ Fr [] w w' ∧ w.heap.size ≤ tb
section
variable {w w' w0 : World} {v : Value} {tb : Nat}
theorem NoTab.fr0 (h : NoTab w tb) (hF : Fr [] w w') : NoTab w' tb := hF.heap (by simp) h
theorem NoTab.no (h : NoTab w tb) : NoLines w tb := ⟨_, _, _, h⟩
theorem NoLines.fr0 (h : NoLines w tb) (hF : Fr [] w w') : NoLines w' tb := by
  obtain ⟨d, r, k, h⟩ := h
  exact ⟨d, r, k, hF.heap (by simp) h⟩
theorem NoCac.fr0 (h : NoCac w v) (hF : Fr [] w w') : NoCac w' v := by
  rcases h with rfl | ⟨cb, rfl, hb⟩
  · exact .inl rfl
  · exact .inr ⟨cb, rfl, hF.heap (by simp) hb⟩
set_option maxRecDepth 100000 in
set_option maxHeartbeats 1000000 in
theorem notable_at (h : NoCac w v) : Calls Tryz.prog 24 #[v] w (NewTab w) := by
  rcases h with rfl | ⟨cb, rfl, hb⟩
  · go_enter Tryz.func24, Tryz.ntmps24
    go_wp2
    go_ret
    exact ⟨w.heap.size, rfl, heap_new w _, (Fr.refl _ _).alloc _, Nat.le_refl _⟩
  · have hc0 : w.cell? ⟨cb, 0, none⟩ = some (.pointer none) := cell_of_heap (o := 0) hb rfl
    clear hb
    go_enter Tryz.func24, Tryz.ntmps24
    go_wp2
    go_ret
    exact ⟨w.heap.size, rfl, heap_new w _, (Fr.refl _ _).alloc _, Nat.le_refl _⟩
set_option maxRecDepth 100000 in
set_option maxHeartbeats 1000000 in
theorem noplace_at (h : NoLines w tb) (c s : Int) (f : Bool) : Calls Tryz.prog 44 #[.pointer (some ⟨tb, 0, none⟩), .agg #[.int .u64 c, .int .u64 s, .bool f]] w (Still (.pointer none) w) := by
  obtain ⟨d, r, k, h⟩ := h
  have hc0 : w.cell? ⟨tb, 0, none⟩ = some (.slice none 0 0) := cell_of_heap (o := 0) h rfl
  have hlt := lt_of_heap h
  clear h
  go_enter Tryz.func44, Tryz.ntmps44
  go_wp2
  go_ret
  exact ⟨rfl, (Fr.refl _ _).alloc _⟩
set_option maxRecDepth 100000 in
set_option maxHeartbeats 1000000 in
theorem noget_at (h : NoLines w tb) (c s : Int) : Calls Tryz.prog 34 #[.pointer (some ⟨tb, 0, none⟩), .agg #[.int .u64 c, .int .u64 s, .bool true]] w (Still (.tuple #[.int .u64 0, .bool false]) w) := by
  have hF0 : Fr [] w (w.alloc (.cells #[.int .u64 c, .int .u64 s, .bool true] 70)) := (Fr.refl _ _).alloc _
  have hp := noplace_at (h.fr0 hF0) c s true
  clear h hF0
  go_enter Tryz.func34, Tryz.ntmps34
  go_wp2_with (go_at_call 44; refine hp.mono ?_; rintro e w1 ⟨rfl, hF1⟩; obtain ⟨k0, k1, k2⟩ := key_cells hF1; have HF1 := Lib.hid hF1; clear hF1)
  go_quiet (fail)
  go_wp2
  go_ret2
  exact ⟨rfl, (((Fr.refl _ _).alloc _).trans HF1.out).drewN _⟩
set_option maxRecDepth 100000 in
set_option maxHeartbeats 1000000 in
theorem noput_at (h : NoLines w tb) (c s m : Int) : Calls Tryz.prog 25 #[.pointer (some ⟨tb, 0, none⟩), .agg #[.int .u64 c, .int .u64 s, .bool true], .int .u64 m] w (Still (.tuple #[]) w) := by
  have hF0 : Fr [] w (w.alloc (.cells #[.int .u64 c, .int .u64 s, .bool true] 70)) := (Fr.refl _ _).alloc _
  have hp := noplace_at (h.fr0 hF0) c s true
  clear h hF0
  go_enter Tryz.func25, Tryz.ntmps25
  go_wp2_with (go_at_call 44; refine hp.mono ?_; rintro e w1 ⟨rfl, hF1⟩; obtain ⟨k0, k1, k2⟩ := key_cells hF1; have HF1 := Lib.hid hF1; clear hF1)
  go_end0
  exact ⟨rfl, ((Fr.refl _ _).alloc _).trans HF1.out⟩
set_option maxRecDepth 100000 in
set_option maxHeartbeats 1000000 in
theorem noempty_at (h : NoTab w tb) (s : Int) : Calls Tryz.prog 27 #[.pointer (some ⟨tb, 0, none⟩), .int .u64 s] w (Still (.tuple #[]) w) := by
  have hc0 : w.cell? ⟨tb, 0, none⟩ = some (.slice none 0 0) := cell_of_heap (o := 0) h rfl
  clear h
  go_enter Tryz.func27, Tryz.ntmps27
  go_wp2
  go_loopw [11] (fun i wr => i = .int .i64 0 ∧ Hid (Fr [] w wr)) (fun _ _ => 0)
  case atStart => exact ⟨rfl, Fr.refl _ _⟩
  case round =>
    obtain ⟨rfl, hF⟩ := hrel
    go_wp2
    go_end0
    exact ⟨rfl, hF.out⟩
/-- Returned nothing; only block tb has changed. -/
def Notes (tb : Nat) (w : World) (e : Ending) (w' : World) : Prop := e = .returned (.tuple #[]) ∧ Fr [tb] w w'
set_option maxRecDepth 100000 in
set_option maxHeartbeats 1000000 in
theorem nonote_at (h : NoTab w tb) (x : Int) : Calls Tryz.prog 28 #[.pointer (some ⟨tb, 0, none⟩), .int .u64 x] w (Notes tb w) := by
  obtain ⟨i0, hi0, hz0, hz1, hz2⟩ := info_parts infoW
  have hc1 : w.cell? ⟨tb, 1, none⟩ = some (.slice none 0 0) := cell_of_heap (o := 1) h rfl
  have hz := fun o => frozen_of_heap (o := o) h
  have hzz := hz 1
  have htl := lt_of_heap h
  have HK : Hid (∀ v5 w5, (w.alloc (.cells #[.int .u64 x] 24)).grownBy w5 none → w5.cell? ⟨tb, 1, none⟩ = some (.slice none 0 0) ∧ w5.frozen? ⟨tb, 1, none⟩ = false ∧ Fr [tb] w (w5.setCell ⟨tb, 1, none⟩ v5)) := Lib.hid fun v5 w5 hg => by
    have hF : Fr [] w w5 := ((Fr.refl _ _).alloc _).grown hg (fun k hk _ => by cases hk)
    have hh := hF.heap (by simp) h
    exact ⟨cell_of_heap (o := 1) hh rfl, frozen_of_heap hh, hF.weak.setCell (fun _ => by simp) _⟩
  have HR1 : Hid ((w.alloc (.cells #[.int .u64 x] 24)).ownsRow 0 24 1 (.slice none 0 0) 0 []) := World.ownsRow_nil _ _ _ _
  clear h hz
  go_enter Tryz.func28, Tryz.ntmps28
  go_wp2_with (first
    | (at_builtin; refine wpList_append_at _ rfl (.tmp 22) (.tmp 24) 32 rfl 24 i0 (.int .u64 0) 1 8 Tryz.underlying32 hi0 hz0 hz1 hz2 rfl (by decide) (.slice none 0 0) 0 _ rfl HR1.out ⟨w.heap.size, 0, none⟩ 1 1 [.int .u64 x] rfl rfl (one_cell8 w (.int .u64 x) 24) (by simp [Value.oneCell']) (by unfold maxLen; omega) (by omega) ?_; intro v5 w5 ho5 hg5 hf5; obtain ⟨a5, p5, rfl⟩ := row_shp ho5; have hap := HK.out (.slice a5 (0 + 1) p5) w5 hg5; have hc5 := hap.1; have hz5 := hap.2.1; have HP5 := Lib.hid hap.2.2; clear hap ho5 hg5 hf5))
  go_end0
  exact ⟨rfl, HP5.out⟩
end
/-! the cache's own methods -/
section
variable {w w0 : World} {v : Value} {hb mb : Nat} {lim root hashes : Int} {os : List Ob} {wv sv : Value}
theorem Fr.tab {w w1 w2 : World} {tb : Nat} (h1 : Fr [] w w1) (hn : w.heap.size ≤ tb) (h2 : Fr [tb] w1 w2) : Fr [] w w2 := h1.trans' h2 (fun _ _ e => e) (fun j hj hm => by rw [List.mem_singleton] at hm; omega)
set_option maxRecDepth 100000 in
set_option maxHeartbeats 1000000 in
theorem nocget (h : NoCac w v) (c s : Int) : Calls Tryz.prog 13 #[v, .int .u64 c, .int .u64 s] w (Still (.tuple #[.int .u64 0, .bool false]) w) := by
  have ht := notable_at h
  have hk := fun w' => keyOf_at w' c s
  clear h
  go_enter Tryz.func13, Tryz.ntmps13
  go_wp2_with (first
    | (go_at_call 24; refine ht.mono ?_; rintro e w1 ⟨tb, rfl, hT, hF1, hn⟩; have HF1 := Lib.hid hF1; have HT := Lib.hid hT; clear hF1 hT hn)
    | (go_at_call 26; refine (hk _).mono ?_; rintro e w2 ⟨rfl, hF2⟩; have HT2 := Lib.hid (HT.out.fr0 hF2); have HF2 := Lib.hid (HF1.out.trans hF2); clear hF2)
    | (go_at_call 34; refine (noget_at HT2.out.no c s).mono ?_; rintro e w3 ⟨rfl, hF3⟩; have HF3 := Lib.hid (HF2.out.trans hF3); clear hF3))
  go_ret2
  exact ⟨rfl, HF3.out⟩
set_option maxRecDepth 100000 in
set_option maxHeartbeats 1000000 in
theorem nocput (h : NoCac w v) (c s m : Int) : Calls Tryz.prog 8 #[v, .int .u64 c, .int .u64 s, .int .u64 m] w (Still (.tuple #[]) w) := by
  have ht := notable_at h
  have hk := fun w' => keyOf_at w' c s
  clear h
  go_enter Tryz.func8, Tryz.ntmps8
  go_wp2_with (first
    | (go_at_call 24; refine ht.mono ?_; rintro e w1 ⟨tb, rfl, hT, hF1, hn⟩; have HF1 := Lib.hid hF1; have HT := Lib.hid hT; clear hF1 hT hn)
    | (go_at_call 26; refine (hk _).mono ?_; rintro e w2 ⟨rfl, hF2⟩; have HT2 := Lib.hid (HT.out.fr0 hF2); have HF2 := Lib.hid (HF1.out.trans hF2); clear hF2)
    | (go_at_call 25; refine (noput_at HT2.out.no c s m).mono ?_; rintro e w3 ⟨rfl, hF3⟩; have HF3 := Lib.hid (HF2.out.trans hF3); clear hF3))
  go_end0
  exact ⟨rfl, HF3.out⟩
set_option maxRecDepth 100000 in
set_option maxHeartbeats 1000000 in
theorem nocdrop (h : NoCac w v) (s : Int) : Calls Tryz.prog 9 #[v, .int .u64 s] w (Still (.tuple #[]) w) := by
  have ht := notable_at h
  clear h
  go_enter Tryz.func9, Tryz.ntmps9
  go_wp2_with (first
    | (go_at_call 24; refine ht.mono ?_; rintro e w1 ⟨tb, rfl, hT, hF1, hn⟩; have HF1 := Lib.hid hF1; have HT := Lib.hid hT; have HN := Lib.hid hn; clear hF1 hT hn)
    | (go_at_call 27; refine (noempty_at HT.out s).mono ?_; rintro e w2 ⟨rfl, hF2⟩; have HT2 := Lib.hid (HT.out.fr0 hF2); have HF2 := Lib.hid (HF1.out.trans hF2); clear hF2)
    | (go_at_call 28; refine (nonote_at HT2.out s).mono ?_; rintro e w3 ⟨rfl, hF3⟩; have HF3 := Lib.hid (HF2.out.tab HN.out hF3); clear hF3))
  go_end0
  exact ⟨rfl, HF3.out⟩
set_option maxRecDepth 100000 in
set_option maxHeartbeats 1000000 in
theorem nocdrops (h : NoCac w v) : Calls Tryz.prog 15 #[v] w (Still (.slice none 0 0) w) := by
  have ht := notable_at h
  clear h
  go_enter Tryz.func15, Tryz.ntmps15
  go_wp2_with (go_at_call 24; refine ht.mono ?_; rintro e w1 ⟨tb, rfl, hT, hF1, hn⟩; have c1 := cell_of_heap (o := 1) hT rfl; have z1 := frozen_of_heap (o := 1) hT; have HF1 := Lib.hid hF1; have HN := Lib.hid hn; clear hF1 hT hn)
  go_ret
  exact ⟨rfl, HF1.out.tab HN.out ((Fr.refl [tb] _).setCell (fun _ => by simp) _)⟩
set_option maxRecDepth 100000 in
set_option maxHeartbeats 1000000 in
theorem noccounts (h : NoCac w v) : Calls Tryz.prog 14 #[v] w (Still (.tuple #[.int .i64 0, .int .i64 0]) w) := by
  have ht := notable_at h
  clear h
  go_enter Tryz.func14, Tryz.ntmps14
  go_wp2_with (go_at_call 24; refine ht.mono ?_; rintro e w1 ⟨tb, rfl, hT, hF1, hn⟩; have c2 := cell_of_heap (o := 2) hT rfl; have c3 := cell_of_heap (o := 3) hT rfl; have HF1 := Lib.hid hF1; clear hF1 hT hn)
  go_quiet (fail)
  go_wp2
  go_ret2
  exact ⟨rfl, HF1.out.drewN _⟩
theorem clear_none (w : World) : (Builtin.clear_ #[72] 0 #[.slice none 0 0]).run Tryz.prog w = .ok (.tuple #[]) w := by
  simp [Builtin.clear_, run_underlying (P := Tryz.prog) Tryz.underlying72]
set_option maxRecDepth 100000 in
set_option maxHeartbeats 1000000 in
theorem nocclear (h : NoCac w v) : Calls Tryz.prog 10 #[v] w (Still (.tuple #[]) w) := by
  have ht := notable_at h
  have hcl : ∀ w, (Builtin.clear_ #[72] 0 #[.slice none 0 0]).run Tryz.prog w = .ok (.tuple #[]) w := fun w => clear_none w
  clear h
  go_enter Tryz.func10, Tryz.ntmps10
  go_wp2_with (go_at_call 24; refine ht.mono ?_; rintro e w1 ⟨tb, rfl, hT, hF1, hn⟩; have c0 := cell_of_heap (o := 0) hT rfl; have HF1 := Lib.hid hF1; clear hF1 hT hn)
  go_end0
  exact ⟨rfl, HF1.out⟩
set_option maxRecDepth 100000 in
set_option maxHeartbeats 2000000 in
theorem notfind_at {tb : Nat} (h0 : HpAt w0 hb mb lim os root hashes wv sv) (hF0 : Fr [] w0 w) (htb : w0.heap.size ≤ tb) (h : NoTab w tb) (c s : Int) (hc : WB c) (hs : WB s) :
    Calls Tryz.prog 29 #[.pointer (some ⟨tb, 0, none⟩), .pointer (some ⟨hb, 0, none⟩), .agg #[.int .u64 c, .int .u64 s, .bool true]] w (fun e w' => e = .returned (lookV (lookR os root c s)) ∧ Fr [tb] w w') := by
  have H := Lib.hid h
  have hg := fun w' (hF : Fr [] w w') => noget_at (h.fr0 hF).no c s
  have HW : Hid (∀ w1, Fr [] w w1 → ∀ x, Fr [] w0 (w1.setCell ⟨tb, 3, none⟩ x)) := Lib.hid fun w1 hF x => (hF0.trans hF).setCell (fun e => absurd e (by show ¬ tb < _; omega)) x
  have hl := fun w1 (hF : Fr [] w0 w1) => klookup (h0.fr0 hF) c s hc hs
  have HPUT : Hid (∀ w1 m, w1.heap[tb]? = some (.cells #[.slice none 0 0, .slice none 0 0, .int .i64 0, .int .i64 1] 74 (0, 0)) → Calls Tryz.prog 25 #[.pointer (some ⟨tb, 0, none⟩), .agg #[.int .u64 c, .int .u64 s, .bool true], .int .u64 m] w1 (Still (.tuple #[]) w1)) := Lib.hid fun w1 m hT => noput_at ⟨_, _, _, hT⟩ c s m
  have HC : Hid (∀ w1, Fr [] w w1 → (w1.setCell ⟨tb, 3, none⟩ (.int .i64 1)).heap[tb]? = some (.cells #[.slice none 0 0, .slice none 0 0, .int .i64 0, .int .i64 1] 74 (0, 0))) := Lib.hid fun w1 hF => by
    have := heap_setCell_same (h.fr0 hF) (o := 3) (.int .i64 1)
    simpa using this
  clear h hF0 htb h0 hc hs
  cases hlk : lookR os root c s with
  | none =>
    rw [hlk] at hl
    simp only [lookV] at hl ⊢
    clear hlk
    go_enter Tryz.func29, Tryz.ntmps29
    go_wp2_with (first
      | (go_at_call 34; refine (hg _ ((Fr.refl _ _).alloc _)).mono ?_; rintro e w1 ⟨rfl, hF1⟩; have HF1 := Lib.hid (((Fr.refl [] w).alloc _).trans hF1); have c3 := cell_of_heap (o := 3) (H.out.fr0 HF1.out) rfl; have z3 := frozen_of_heap (o := 3) (H.out.fr0 HF1.out); obtain ⟨q0, q1, q2⟩ := key_cells hF1; clear hF1)
      | (go_at_call 12; refine (hl _ (HW.out _ HF1.out _)).mono ?_; rintro e w2 ⟨rfl, hF2⟩; have HF2 := Lib.hid hF2; clear hF2))
    go_ret2
    exact ⟨rfl, ((HF1.out.weak).trans ((Fr.refl [tb] w1).setCell (fun _ => by simp) _)).trans HF2.out.weak⟩
  | some m =>
    rw [hlk] at hl
    simp only [lookV] at hl ⊢
    clear hlk
    go_enter Tryz.func29, Tryz.ntmps29
    go_wp2_with (first
      | (go_at_call 34; refine (hg _ ((Fr.refl _ _).alloc _)).mono ?_; rintro e w1 ⟨rfl, hF1⟩; have HF1 := Lib.hid (((Fr.refl [] w).alloc _).trans hF1); have c3 := cell_of_heap (o := 3) (H.out.fr0 HF1.out) rfl; have z3 := frozen_of_heap (o := 3) (H.out.fr0 HF1.out); obtain ⟨q0, q1, q2⟩ := key_cells hF1; have HK1 : Hid ((w1.setCell ⟨tb, 3, none⟩ (.int .i64 1)).heap[w.heap.size]? = some (.cells #[.int .u64 c, .int .u64 s, .bool true] 70 (0, 0))) := (Below.heap_setCell _ _ _ _ (by have := lt_of_heap H.out; show w.heap.size ≠ tb; omega)).trans (hF1.heap (by simp) (heap_new w _)); clear hF1)
      | (go_at_call 12; refine (hl _ (HW.out _ HF1.out _)).mono ?_; rintro e w2 ⟨rfl, hF2⟩; have HT2 := Lib.hid (hF2.heap (by simp) (HC.out _ HF1.out)); have HF2 := Lib.hid hF2; have HK2 : Hid (w2.heap[w.heap.size]? = some (.cells #[.int .u64 c, .int .u64 s, .bool true] 70 (0, 0))) := hF2.heap (by simp) HK1.out; have p0 := cell_of_heap (o := 0) HK2.out rfl; have p1 := cell_of_heap (o := 1) HK2.out rfl; have p2 := cell_of_heap (o := 2) HK2.out rfl; clear hF2)
      | (go_at_call 25; refine (HPUT.out w2 m HT2.out).mono ?_; rintro e w3 ⟨rfl, hF3⟩; have HF3 := Lib.hid hF3; clear hF3))
    go_ret2
    exact ⟨rfl, (((HF1.out.weak).trans ((Fr.refl [tb] w1).setCell (fun _ => by simp) _)).trans HF2.out.weak).trans HF3.out.weak⟩
set_option maxRecDepth 100000 in
set_option maxHeartbeats 1000000 in
theorem nocfind (h : NoCac w v) (h0 : HpAt w hb mb lim os root hashes wv sv) (c s : Int) (hc : WB c) (hs : WB s) : Calls Tryz.prog 11 #[v, .pointer (some ⟨hb, 0, none⟩), .int .u64 c, .int .u64 s] w (Still (lookV (lookR os root c s)) w) := by
  have ht := notable_at h
  have hk := fun w' => keyOf_at w' c s
  have hg := fun w' tb (hF : Fr [] w w') (hn : w.heap.size ≤ tb) (hT : NoTab w' tb) => notfind_at h0 hF hn hT c s hc hs
  have hv : ∃ x e, lookV (lookR os root c s) = .tuple #[.int .u64 x, .int .i64 e] := by
    cases lookR os root c s with
    | none => exact ⟨_, _, rfl⟩
    | some m => exact ⟨_, _, rfl⟩
  obtain ⟨x, er, hv⟩ := hv
  rw [hv] at hg ⊢
  clear h h0 hv hc hs
  go_enter Tryz.func11, Tryz.ntmps11
  go_wp2_with (first
    | (go_at_call 24; refine ht.mono ?_; rintro e w1 ⟨tb, rfl, hT, hF1, hn⟩; have HF1 := Lib.hid hF1; have HT := Lib.hid hT; have HN := Lib.hid hn; clear hF1 hT hn)
    | (go_at_call 26; refine (hk _).mono ?_; rintro e w2 ⟨rfl, hF2⟩; have HT2 := Lib.hid (HT.out.fr0 hF2); have HF2 := Lib.hid (HF1.out.trans hF2); clear hF2)
    | (go_at_call 29; refine (hg _ _ HF2.out HN.out HT2.out).mono ?_; rintro e w3 ⟨rfl, hF3⟩; have HF3 := Lib.hid (HF2.out.tab HN.out hF3); clear hF3))
  refine bodyPost_ret (v := .tuple #[.int .u64 x, .int .i64 er]) (by simp [results, Tryz.results11, go_sem]) rfl ?_
  exact ⟨rfl, HF3.out⟩
end
end Go.Proofs.YtollpgckdldonaaGreatDoor
