/- A cache's Find: what is remembered, or looked up. loaded: a heap, and the document's, with the same objects (cache). -/
import Derived.Test.YtofhgfgipdokbaaGreatDoorMCacA
import Derived.Test.YtofhgfgipdokbaaGreatDoorMKlsC
import Derived.Test.YtofhgfgipdokbaaGreatDoorMRLoads
namespace Go.Proofs.YtofhgfgipdokbaaGreatDoor
open Go.RowKit

/-- what find answers, and what the table holds then -/
def cfindV (T : Tab) (look : Option Int) (c s : Int) : Value := if getB T.L c s then .tuple #[.int .u64 (getM T.L c s), .int .i64 0] else lookV look
def cfindT (T : Tab) (look : Option Int) (c s : Int) : Tab := if getB T.L c s then { T with r := T.r + 1 } else match look with
  | some m => { T with L := putL T.L c s m, k := T.k + 1 }
  | none => { T with k := T.k + 1 }
section
variable {w w0 : World} {tb lb cb : Nat} {T : Tab} {dv : Value} {hb mb : Nat} {lim root hashes : Int} {os : List Ob} {wv sv : Value}
theorem TabAt.setR (h : TabAt w tb lb T dv) (x : Int) : TabAt (w.setCell ⟨tb, 2, none⟩ (.int .i64 x)) tb lb { T with r := x } dv := by
  have hF : Fr [tb] w (w.setCell ⟨tb, 2, none⟩ (.int .i64 x)) := (Fr.refl _ _).setCell (fun _ => by simp) _
  refine ⟨?_, hF.heap (by simpa using h.tl.symm) h.lines, hF.row h.drops (fun k hk => by rw [List.mem_singleton]; rintro rfl; exact h.dt hk), h.n1, h.n2, h.d64⟩
  have := heap_setCell_same h.tab (o := 2) (.int .i64 x)
  simpa using this
theorem TabAt.setK (h : TabAt w tb lb T dv) (x : Int) : TabAt (w.setCell ⟨tb, 3, none⟩ (.int .i64 x)) tb lb { T with k := x } dv := by
  have hF : Fr [tb] w (w.setCell ⟨tb, 3, none⟩ (.int .i64 x)) := (Fr.refl _ _).setCell (fun _ => by simp) _
  refine ⟨?_, hF.heap (by simpa using h.tl.symm) h.lines, hF.row h.drops (fun k hk => by rw [List.mem_singleton]; rintro rfl; exact h.dt hk), h.n1, h.n2, h.d64⟩
  have := heap_setCell_same h.tab (o := 3) (.int .i64 x)
  simpa using this
/-- Returned v; the table holds T'. -/
def FTurns (v : Value) (tb lb : Nat) (T' : Tab) (dv : Value) (w : World) (e : Ending) (w' : World) : Prop := e = .returned v ∧ TabAt w' tb lb T' dv ∧ Fr [tb, lb] w w'
set_option maxRecDepth 100000 in
set_option maxHeartbeats 2000000 in
theorem tfind_at (h0 : HpAt w0 hb mb lim os root hashes wv sv) (hF0 : Fr [] w0 w) (htb : w0.heap.size ≤ tb) (h : TabAt w tb lb T dv) (c s : Int) (hc : WB c) (hs : WB s) (r0 : 0 ≤ T.r) (r1 : T.r ≤ 1000000) (k0 : 0 ≤ T.k) (k1 : T.k ≤ 1000000) :
    Calls Tryz.prog 37 #[.pointer (some ⟨tb, 0, none⟩), .pointer (some ⟨hb, 0, none⟩), .agg #[.int .u64 c, .int .u64 s, .bool true]] w (FTurns (cfindV T (lookR os root c s) c s) tb lb (cfindT T (lookR os root c s) c s) dv w) := by
  obtain ⟨c1, c2⟩ := hc
  obtain ⟨s1, s2⟩ := hs
  have H := Lib.hid h
  have HF0 := Lib.hid hF0
  have HTB := Lib.hid htb
  have H0 := Lib.hid h0
  have hg := fun w' (hF : Fr [] w w') => tget_at (h.fr0 hF) c s c1 c2 s1 s2
  have HW : Hid (∀ w1, Fr [] w w1 → ∀ x, Fr [] w0 (w1.setCell ⟨tb, 3, none⟩ x)) := Lib.hid fun w1 hF x => (hF0.trans hF).setCell (fun e => absurd e (by show ¬ tb < _; omega)) x
  have hl := fun w1 (hF : Fr [] w0 w1) => klookup (h0.fr0 hF) c s ⟨c1, c2⟩ ⟨s1, s2⟩
  have HPUT : Hid (∀ w1 m, TabAt w1 tb lb { T with k := T.k + 1 } dv → Calls Tryz.prog 32 #[.pointer (some ⟨tb, 0, none⟩), .agg #[.int .u64 c, .int .u64 s, .bool true], .int .u64 m] w1 (Lines tb lb { T with k := T.k + 1 } dv (putL T.L c s m) w1)) := Lib.hid fun w1 m hT => tput_at hT c s m c1 c2 s1 s2
  unfold cfindV cfindT
  cases hgb : getB T.L c s
  · rw [hgb] at hg
    have HGB := Lib.hid hgb
    clear h hF0 htb h0 hgb
    simp only [Bool.false_eq_true, if_false]
    cases hlk : lookR os root c s with
    | none =>
      rw [hlk] at hl
      simp only [lookV] at hl ⊢
      clear hlk
      go_enter Tryz.func37, Tryz.ntmps37
      go_wp2_with (first
        | (go_at_call 39; refine (hg _ ((Fr.refl _ _).alloc _)).mono ?_; rintro e w1 ⟨rfl, hF1⟩; have HF1 := Lib.hid (((Fr.refl [] w).alloc _).trans hF1); have c3 := (H.out.fr0 HF1.out).cell3; have z3 := frozen_of_heap (o := 3) (H.out.fr0 HF1.out).tab; obtain ⟨q0, q1, q2⟩ := key_cells hF1; clear hF1)
        | (go_at_call 51; refine (hl _ (HW.out _ HF1.out _)).mono ?_; rintro e w2 ⟨rfl, hF2⟩; have HF2 := Lib.hid hF2; clear hF2))
      go_ret2
      exact ⟨rfl, ((H.out.fr0 HF1.out).setK _).fr0 HF2.out, ((HF1.out.weak).trans ((Fr.refl [tb, lb] w1).setCell (fun _ => by simp) _)).trans HF2.out.weak⟩
    | some m =>
      rw [hlk] at hl
      simp only [lookV] at hl ⊢
      clear hlk
      go_enter Tryz.func37, Tryz.ntmps37
      go_wp2_with (first
        | (go_at_call 39; refine (hg _ ((Fr.refl _ _).alloc _)).mono ?_; rintro e w1 ⟨rfl, hF1⟩; have HF1 := Lib.hid (((Fr.refl [] w).alloc _).trans hF1); have c3 := (H.out.fr0 HF1.out).cell3; have z3 := frozen_of_heap (o := 3) (H.out.fr0 HF1.out).tab; obtain ⟨q0, q1, q2⟩ := key_cells hF1; have HK1 : Hid ((w1.setCell ⟨tb, 3, none⟩ (.int .i64 (T.k + 1))).heap[w.heap.size]? = some (.cells #[.int .u64 c, .int .u64 s, .bool true] 81 (0, 0))) := (Below.heap_setCell _ _ _ _ (by have := lt_of_heap H.out.tab; show w.heap.size ≠ tb; omega)).trans (hF1.heap (by simp) (heap_new w _)); clear hF1)
        | (go_at_call 51; refine (hl _ (HW.out _ HF1.out _)).mono ?_; rintro e w2 ⟨rfl, hF2⟩; have HT2 := Lib.hid (((H.out.fr0 HF1.out).setK (T.k + 1)).fr0 hF2); have HF2 := Lib.hid hF2; have HK2 : Hid (w2.heap[w.heap.size]? = some (.cells #[.int .u64 c, .int .u64 s, .bool true] 81 (0, 0))) := hF2.heap (by simp) HK1.out; have p0 := cell_of_heap (o := 0) HK2.out rfl; have p1 := cell_of_heap (o := 1) HK2.out rfl; have p2 := cell_of_heap (o := 2) HK2.out rfl; clear hF2)
        | (go_at_call 32; refine (HPUT.out w2 m HT2.out).mono ?_; rintro e w3 ⟨rfl, hT3, hF3⟩; have HT3 := Lib.hid hT3; have HF3 := Lib.hid hF3; clear hT3 hF3))
      go_ret2
      exact ⟨rfl, HT3.out, (((HF1.out.weak).trans ((Fr.refl [tb, lb] w1).setCell (fun _ => by simp) _)).trans HF2.out.weak).trans (HF3.out.mono (fun j _ hj => by rw [List.mem_singleton] at hj; simp [hj]))⟩
  · rw [hgb] at hg
    clear h hF0 htb h0 hgb hl HW HPUT
    simp only [if_true]
    go_enter Tryz.func37, Tryz.ntmps37
    go_wp2_with (go_at_call 39; refine (hg _ ((Fr.refl _ _).alloc _)).mono ?_; rintro e w1 ⟨rfl, hF1⟩; have HF1 := Lib.hid (((Fr.refl [] w).alloc _).trans hF1); have c3 := (H.out.fr0 HF1.out).cell2; have z3 := frozen_of_heap (o := 2) (H.out.fr0 HF1.out).tab; obtain ⟨q0, q1, q2⟩ := key_cells hF1; clear hF1)
    go_ret2
    exact ⟨rfl, (H.out.fr0 HF1.out).setR _, (HF1.out.weak).trans ((Fr.refl [tb, lb] w1).setCell (fun _ => by simp) _)⟩
/-- Returned v; the cache holds T'. -/
def CFinds (v : Value) (cb tb lb : Nat) (T' : Tab) (dv : Value) (w : World) (e : Ending) (w' : World) : Prop := e = .returned v ∧ CacAt w' cb tb lb T' dv ∧ Fr [tb, lb] w w'
set_option maxRecDepth 100000 in
set_option maxHeartbeats 1000000 in
theorem cfind_at (h0 : HpAt w0 hb mb lim os root hashes wv sv) (hF0 : Fr [] w0 w) (htb : w0.heap.size ≤ tb) (h : CacAt w cb tb lb T dv) (c s : Int) (hc : WB c) (hs : WB s) (r0 : 0 ≤ T.r) (r1 : T.r ≤ 1000000) (k0 : 0 ≤ T.k) (k1 : T.k ≤ 1000000) :
    Calls Tryz.prog 19 #[.pointer (some ⟨cb, 0, none⟩), .pointer (some ⟨hb, 0, none⟩), .int .u64 c, .int .u64 s] w (CFinds (cfindV T (lookR os root c s) c s) cb tb lb (cfindT T (lookR os root c s) c s) dv w) := by
  have ht := table_at h.box
  have hk := fun w' => keyOf_at w' c s
  have hg := fun w' (hF : Fr [] w w') => tfind_at h0 (hF0.trans hF) htb (h.fr0 hF).tab c s hc hs r0 r1 k0 k1
  have hv : ∃ x e, cfindV T (lookR os root c s) c s = .tuple #[.int .u64 x, .int .i64 e] := by
    unfold cfindV
    split
    · exact ⟨_, _, rfl⟩
    · cases lookR os root c s with
      | none => exact ⟨_, _, rfl⟩
      | some m => exact ⟨_, _, rfl⟩
  have H := Lib.hid h
  obtain ⟨x, er, hv⟩ := hv
  rw [hv] at hg ⊢
  generalize cfindT T (lookR os root c s) c s = T' at *
  clear h h0 hF0 htb hv hc hs r0 r1 k0 k1
  go_enter Tryz.func19, Tryz.ntmps19
  go_wp2_with (first
    | (go_at_call 31; refine ht.mono ?_; rintro e w1 ⟨rfl, hF1⟩; have HF1 := Lib.hid hF1; clear hF1)
    | (go_at_call 33; refine (hk _).mono ?_; rintro e w2 ⟨rfl, hF2⟩; have HF2 := Lib.hid (HF1.out.trans hF2); clear hF2)
    | (go_at_call 37; refine (hg _ HF2.out).mono ?_; rintro e w3 ⟨rfl, hT3, hF3⟩; have HF3 := Lib.hid hF3; have HT3 := Lib.hid hT3; clear hF3 hT3))
  refine bodyPost_ret (v := .tuple #[.int .u64 x, .int .i64 er]) (by simp [results, Tryz.results19, go_sem]) rfl ?_
  have hn : cb ∉ [tb, lb] := by have := H.out.cl; have := H.out.ct; simp; omega
  exact ⟨rfl, ⟨HF3.out.heap hn (HF2.out.heap (by simp) H.out.box), HT3.out⟩, HF2.out.weak.trans HF3.out⟩
theorem live_cfind (h0 : HpAt w0 hb mb lim os root hashes wv sv) (h : CLive w0 cb T w) (c s : Int) (hc : WB c) (hs : WB s) (r0 : 0 ≤ T.r) (r1 : T.r ≤ 1000000) (k0 : 0 ≤ T.k) (k1 : T.k ≤ 1000000) :
    Calls Tryz.prog 19 #[.pointer (some ⟨cb, 0, none⟩), .pointer (some ⟨hb, 0, none⟩), .int .u64 c, .int .u64 s] w (LTurns (cfindV T (lookR os root c s) c s) w0 cb (cfindT T (lookR os root c s) c s)) := by
  obtain ⟨tb, lb, dv, h1, h2, h3, h4⟩ := h
  exact (cfind_at h0 h2 (h4 tb (by simp [tfoot])) h1 c s hc hs r0 r1 k0 k1).mono fun e w' ⟨he, hC, hF⟩ => ⟨he, CLive.turn h2 h3 h4 hC (hF.mono (fun j _ hj => by simp only [List.mem_cons, List.not_mem_nil, or_false] at hj; rcases hj with rfl | rfl <;> simp [tfoot])) (fun k hk => .inl (by simp [tfoot, hk]))⟩
set_option maxRecDepth 100000 in
theorem ccounts_at (h : CacAt w cb tb lb T dv) : Calls Tryz.prog 23 #[.pointer (some ⟨cb, 0, none⟩)] w (Still (.tuple #[.int .i64 T.r, .int .i64 T.k]) w) := by
  have ht := table_at h.box
  have h2 := fun w' (hF : Fr [] w w') => (h.fr0 hF).tab.cell2
  have h3 := fun w' (hF : Fr [] w w') => (h.fr0 hF).tab.cell3
  clear h
  go_enter Tryz.func23, Tryz.ntmps23
  go_wp2_with (go_at_call 31; refine ht.mono ?_; rintro e w1 ⟨rfl, hF1⟩; have HF1 := Lib.hid hF1; have c2 := h2 _ hF1; have c3 := h3 _ hF1; clear hF1)
  go_quiet (fail)
  go_wp2
  go_ret2
  exact ⟨rfl, HF1.out.drewN _⟩
theorem live_ccounts (h : CLive w0 cb T w) : Calls Tryz.prog 23 #[.pointer (some ⟨cb, 0, none⟩)] w (LTurns (.tuple #[.int .i64 T.r, .int .i64 T.k]) w0 cb T) := by
  have h' := h
  obtain ⟨tb, lb, dv, h1, h2, h3, h4⟩ := h'
  exact (ccounts_at h1).mono fun e w' ⟨he, hF⟩ => ⟨he, h.still hF⟩
end
end Go.Proofs.YtofhgfgipdokbaaGreatDoor
namespace Go.Proofs.YtofhgfgipdokbaaGreatDoor
open Go.RowKit

theorem inv_fresh8 (lim : Int) (h1 : 64 ≤ lim) (h2 : lim ≤ 65536) : OInv lim [] 0 :=
  { l1 := h1, l2 := h2, fit := (by simp [endOf, flatW]; omega), h0 := (by omega), h1 := (by omega), each := (fun o h => by cases h), bd := (fun o h => by cases h), uq := ⟨by omega, by omega, fun i x h => by simp at h⟩ }
/-- two heaps that hold the same -/
def Both8 (os0 : List Ob) (rt hs0 : Int) (w : World) (e : Ending) (W : World) : Prop := ∃ hb mb rb os root hs l, e = .returned (.tuple #[.pointer (some ⟨hb, 0, none⟩), .pointer (some ⟨rb, 0, none⟩)]) ∧ OInv 8192 os hs ∧ RAgree 1 l os ∧ Two w [] hb mb rb (absMem 8192 os root hs) ⟨8192, l, root, hs⟩ W ∧ OLoad 8192 [] 0 0 os0 rt hs0 os root hs
set_option maxRecDepth 100000 in
set_option maxHeartbeats 3200000 in
theorem loaded8 {w : World} (hg : Glob w) {ao : Option Addr} {cap : Nat} (its : List (It × Int)) (hG : G4 w ao its) (hB : B4 its) (rt hs0 : Int) (hrt : WB rt) (hh1 : -9223372036854775808 ≤ hs0) (hh2 : hs0 ≤ 9223372036854775807) : Calls Tryz.prog 5 #[.slice ao its.length cap, .int .u64 rt, .int .i64 hs0] w (Both8 (obsOf (its.map Prod.fst)) rt hs0 w) := by
  have h1 : (64 : Int) ≤ 8192 := by omega
  have h2 : (8192 : Int) ≤ 65536 := by omega
  have HRT := Lib.hid hrt
  obtain ⟨i0, hi, hz0, hz1, hz2⟩ := info_parts infoHO
  have HGL := Lib.hid hg
  have HG := Lib.hid hG
  have HB := Lib.hid hB
  obtain ⟨os', root', hs', hOL, hML⟩ := OLoad.ex 8192 [] 0 0 (obsOf (its.map Prod.fst)) rt hs0
  have HML := Lib.hid hML
  have HOL := Lib.hid hOL
  have HNI := Lib.hid (hOL.inv (inv_fresh8 8192 h1 h2) (fun o ho => by obtain ⟨a, ha, rfl⟩ := List.mem_map.1 ho; obtain ⟨b, hb, rfl⟩ := List.mem_map.1 ha; exact hB.words b hb))
  have hlen := hB.len
  obtain ⟨N, hN⟩ : ∃ N, N = its.length := ⟨_, rfl⟩
  rw [← hN] at hlen ⊢
  have HN := Lib.hid hN
  clear hg hG hB hOL hML hN
  go_enter Tryz.func5, Tryz.ntmps5
  go_wp2_with fail
  refine (live_new 8192 _ h1 h2).mono ?_
  rintro e w1 ⟨hb, mb, rfl, hL⟩
  have HL := Lib.hid hL
  clear hL
  go_wp2_with fail
  refine (rnew 8192 _ h1 h2).mono ?_
  rintro e w2 ⟨rfl, hR, hF2⟩
  have HT2 : Hid (Two w [] hb mb w1.heap.size (absMem 8192 [] 0 0) ⟨8192, [], 0, 0⟩ w2) := two_new HL.out hF2 hR (fun k hk => by simp [rfoot, Value.ownBlock] at hk; omega)
  have HF2 : Hid (Fr [] w w2) := HL.out.fr.trans hF2
  obtain ⟨rb, hrb⟩ : ∃ rb, rb = w1.heap.size := ⟨_, rfl⟩
  rw [← hrb] at HT2
  rw [← hrb]
  clear hR hF2 hrb HL
  go_wp2_with fail
  go_loopw [12, 13] (fun v i wr => ∃ k : Nat, k ≤ N ∧ i = .int .i64 k ∧ Hid (Grows w2 65 3 k (flat3 ((its.take k).map Prod.fst)) v wr)) (fun _ i _ => N - (intOf i).toNat)
  case atStart => exact ⟨0, Nat.zero_le _, rfl, World.ownsRow_nil _ _ _ _, Fr.refl _ _, fun _ h => by cases h⟩
  case round =>
    obtain ⟨k, hk, rfl, hG⟩ := hrel
    obtain ⟨vo, vc, rfl⟩ := row_shape' hG.out.row
    by_cases hlt : k < N
    · have hkl : k < its.length := by rw [← HN.out]; exact hlt
      obtain ⟨o, ho⟩ : ∃ o, o = its[k] := ⟨_, rfl⟩
      have hik : its[k]? = some o := by rw [List.getElem?_eq_getElem hkl, ho]
      obtain ⟨f1, f2, f3, -⟩ := flat4_at hik
      obtain ⟨g, off, rfl, c1⟩ := HG.out.row _ _ f1
      obtain ⟨g2, off2, e2, c2⟩ := HG.out.row _ _ f2
      cases e2
      obtain ⟨g3, off3, e3, c3⟩ := HG.out.row _ _ f3
      cases e3
      have hgw : g < w.heap.size := World.block_lt_of_cell? w _ c1
      obtain ⟨fa, fc, hov, -⟩ := HG.out.ok o (List.mem_of_getElem? hik)
      obtain ⟨z, hz⟩ : ∃ z, z = o.1.fs.length := ⟨_, rfl⟩
      rw [← hz] at hov
      rw [hov] at c3
      have HFW := Lib.hid (HF2.out.trans hG.out.fr)
      have d1 := HFW.out.cell (by simp) c1
      have d2 := HFW.out.cell (by simp) c2
      have d3 := HFW.out.cell (by simp) c3
      rw [← Nat.add_assoc] at d2 d3
      have hs2 := HF2.out.size
      have hov1 : (Value.slice vo k vc).ownBlock ≠ some g := fun e => by have := hG.out.new g e; omega
      have HT : Hid (its.take (k + 1) = its.take k ++ [o]) := by rw [List.take_add_one, hik]; rfl
      have HO := Lib.hid hov
      have hgr : g < wr.heap.size := Nat.lt_of_lt_of_le hgw HFW.out.size
      have hk0 : (0 : Int) ≤ (k : Int) := Int.natCast_nonneg _
      have hk1 : (k : Int) < (N : Int) := by omega
      have HROW : Hid (wr.ownsRow 0 65 3 (.slice vo k vc) k (flat3 ((its.take k).map Prod.fst))) := hG.out.row
      have hmx : k + 1 ≤ maxLen := by unfold maxLen; omega
      clear ho hik f1 f2 f3 c1 c2 c3 hkl hov hz
      go_wp2_with fail
      go_region_held3 (fun w' => w'.cell? ⟨g, off + k * 4, none⟩ = some (.int .u64 o.1.cls) ∧ w'.cell? ⟨g, off + k * 4 + 1, none⟩ = some (.int .i64 o.1.hash) ∧ w'.cell? ⟨g, off + k * 4 + 2, none⟩ = some (.slice fa z fc))
        (first
          | go_keep
          | (go_split_ands
             refine ⟨?_, ?_, ?_⟩
             · (rw [hgrow.cell_far _ (by simp; omega) (Ne.symm hov1)]; assumption)
             · (rw [hgrow.cell_far _ (by simp; omega) (Ne.symm hov1)]; assumption)
             · (rw [hgrow.cell_far _ (by simp; omega) (Ne.symm hov1)]; assumption)))
        ((refine step_append_lies _ (by rfl) _ _ _ (by rfl) 0 65 i0 _ 3 40 Tryz.underlying61 hi hz0 hz1 hz2 rfl (by omega) (.slice vo k vc) k (flat3 ((its.take k).map Prod.fst)) (by rfl) ((HROW.out.alloc _).drew) ⟨wr.heap.size, 0, none⟩ 1 1 [.int .u64 o.1.cls, .int .i64 o.1.hash, .slice fa z fc] (by rfl) (by rfl) (World.news_of_block (cs := #[.int .u64 o.1.cls, .int .i64 o.1.hash, .slice fa z fc]) (t := 65) (fr := (0, 0)) (heap_alloc_new wr _)) (by simp [Value.oneCell']) (by omega) hmx (by omega) (by simp) (wr.heap.size + 1) (by simp) ?_; intro gg cp w1 hown1 hgrow hat hlt1))
      have HGn : Hid (Grows w2 65 3 (k + 1) (flat3 ((its.take (k + 1)).map Prod.fst)) (.slice (some ⟨gg, 0, none⟩) (k + 1) cp) w1) := by
        rw [HT.out, List.map_append, List.map_singleton, flat3_snoc]
        rw [HO.out]
        exact hG.out.step (W1 := (wr.alloc _).drew) (((Fr.refl _ _).alloc _).drew) hown1 hgrow (hat.imp (fun h => h.symm) (fun h => by rw [h]; simp [Value.ownBlock]))
      clear hown1 hgrow hat hlt1 HROW hG
      go_wp2_with fail
      go_roundw
      case rel => exact ⟨k + 1, by omega, by go_num, HGn⟩
      case measure => simp [intOf]; omega
    · have hke : k = N := by omega
      subst hke
      have hkd : decide (k < k) = false := by simp
      have HR : Hid (wr.ownsRow 0 65 3 (.slice vo k vc) k (flat3 (its.map Prod.fst))) := by
        have := hG.out.row
        rw [HN.out, List.take_length, ← HN.out] at this
        exact this
      have HF := Lib.hid hG.out.fr
      have HT3 := Lib.hid (HT2.out.still HF.out)
      have HH3 : Hid (Handed wr vo (its.map Prod.fst)) := by
        have hg := HG.out.fr0 (HF2.out.trans HF.out)
        have hB := HB.out
        exact ⟨row_rowAt HR.out, fun o ho => by obtain ⟨b, hb, rfl⟩ := List.mem_map.1 ho; exact hg.inn b hb, by simpa using hB.len, fun o ho => by obtain ⟨b, hb, rfl⟩ := List.mem_map.1 ho; exact hB.sizes b hb, fun o ho => by obtain ⟨b, hb, rfl⟩ := List.mem_map.1 ho; exact hB.hash b hb, fun o ho => by obtain ⟨b, hb, rfl⟩ := List.mem_map.1 ho; exact hB.words b hb⟩
      have hhl := hload2 (cap := vc) (lo := ao) HGL.out (inv_fresh8 8192 h1 h2) HT3.out (its.map Prod.fst) HH3.out its (fun wv sv W' hHA h2' hF' => HG.out.fr (HF2.out.trans HF.out |>.join hF' h2') (fun _ a _ => by simp) (fun _ _ fa _ _ _ _ => by simp)) rt hs0 HRT.out hh1 hh2 HML.out
      rw [List.length_map, ← HN.out] at hhl
      have HHL := Lib.hid hhl
      clear hG hhl
      go_wp2_with fail
      refine HHL.out.mono ?_
      rintro e w4 ⟨rfl, hT4, hG4⟩
      have hrl := rload2 (cap := cap) (l := []) (inv_fresh8 8192 h1 h2) (show RAgree 1 [] [] from trivial) its HB.out rt hs0 HRT.out hh1 hh2 HOL.out hT4 hG4
      rw [← HN.out] at hrl
      have HRL := Lib.hid hrl
      clear hT4 hG4 hrl
      go_wp2_with fail
      refine HRL.out.mono ?_
      rintro e w5 ⟨rfl, l', ha', hT5⟩
      have HT5 := Lib.hid hT5
      have HA5 := Lib.hid ha'
      clear hT5 ha'
      go_wp2_with fail
      go_ret2
      exact ⟨hb, mb, rb, os', root', hs', l', rfl, HNI.out, HA5.out, HT5.out, HOL.out⟩
theorem chosen8 {w : World} {ao : Option Addr} {cap : Nat} (l : List Int) (hl : WordsAt w ao l) (hn : l.length ≤ 65536) (x i : Int) (i1 : -9223372036854775808 ≤ i) (i2 : i ≤ 9223372036854775807) :
    Calls Tryz.prog 9 #[.slice ao l.length cap, .int .i64 i, .int .u64 x] w (Gives (.int .u64 (chosenI l x i)) w) := by
  by_cases h1 : 0 < i
  · by_cases h2 : 0 < l.length
    · obtain ⟨k, rfl⟩ : ∃ k : Nat, i = k := ⟨i.toNat, by omega⟩
      have hm : k % l.length < l.length := Nat.mod_lt _ h2
      obtain ⟨g, o, rfl, hc⟩ := hl (k % l.length) _ (List.getElem?_eq_getElem hm)
      have he : chosenI l x k = l[k % l.length] := by
        unfold chosenI
        rw [if_pos ⟨h1, fun e => by rw [e] at h2; simp at h2⟩, Int.toNat_natCast, List.getD_eq_getElem?_getD, List.getElem?_eq_getElem hm]
        rfl
      rw [he]
      generalize l[k % l.length] = y at *
      generalize l.length = n at *
      have hmod : (k : Int).tmod (n : Int) = ((k % n : Nat) : Int) := by rw [Int.tmod_eq_emod_of_nonneg (by omega)]; rfl
      clear hl he
      go_enter Tryz.func9, Tryz.ntmps9
      go_wp2
      go_ret
      exact ⟨rfl, rfl⟩
    · have he : chosenI l x i = x := by unfold chosenI; rw [if_neg (fun h => h.2 (List.length_eq_zero_iff.1 (by omega)))]
      rw [he]
      have h0 : l.length = 0 := by omega
      rw [h0]
      clear hl he h0 h2 hn
      go_enter Tryz.func9, Tryz.ntmps9
      go_wp2
      go_ret
      exact ⟨rfl, rfl⟩
  · have he : chosenI l x i = x := by unfold chosenI; rw [if_neg (fun h => h1 h.1)]
    rw [he]
    clear hl he
    generalize l.length = n at *
    go_enter Tryz.func9, Tryz.ntmps9
    go_wp2
    go_ret
    exact ⟨rfl, rfl⟩
theorem Two.hp {w W : World} {X : List (Nat × Obj)} {hb mb rb : Nat} {lim root hs : Int} {os : List Ob} {r : RH} (hg : Glob w) (hI : OInv lim os hs) (hr : WB root) (hT : Two w X hb mb rb (absMem lim os root hs) r W) : ∃ wv sv, HpAt W hb mb lim os root hs wv sv := by
  have hF := hT.fr
  obtain ⟨wv, sv, lv, -, hH, -⟩ := hT
  exact ⟨wv, sv, hg.fr hF, hI, hH, hr⟩
theorem OLoad.root {lim : Int} {os : List Ob} {root n : Int} {os' : List Ob} {root' h' : Int} (h : OLoad lim [] 0 0 os root n os' root' h') (hr : WB root) : WB root' := by
  rcases h with ⟨-, -, rfl, -⟩ | ⟨-, -, rfl, -⟩
  · exact hr
  · exact wb_zero
theorem refsO_WB {lim hs : Int} {os : List Ob} (hI : OInv lim os hs) : ∀ x ∈ refsO os, WB x := by
  intro x hx
  unfold refsO at hx
  obtain ⟨p, hp, rfl⟩ := List.mem_map.1 hx
  obtain ⟨i, hi, rfl⟩ := List.getElem_of_mem hp
  rw [starts_len] at hi
  have h1 := starts_get (q := []) hi
  have h2 : (startsOf 1 os)[i]? = some (endOf ([] ++ os.take i)) := h1
  rw [List.getElem?_eq_getElem (by rw [starts_len]; exact hi)] at h2
  have h3 : (startsOf 1 os)[i]'(by rw [starts_len]; exact hi) = endOf (os.take i) := by simpa using Option.some.inj h2
  rw [h3]
  have h4 := hI.fit
  have h5 := hI.l2
  have h6 : endOf (os.take i) ≤ endOf os := by
    conv => rhs; rw [← List.take_append_drop i os]
    unfold endOf
    rw [flatW_append, List.length_append]
    omega
  unfold WB
  omega
end Go.Proofs.YtofhgfgipdokbaaGreatDoor
