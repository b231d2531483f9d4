/- Both caches since one world: each call on one of them keeps the other. A cache's Clear. The document's cache: Find. Each call on one of the two caches, with both kept. -/
import Derived.Test.YtofhgfgipdokbaaGreatDoorMRcaA
import Derived.Test.YtofhgfgipdokbaaGreatDoorMCacB
import Derived.Test.YtofhgfgipdokbaaGreatDoorMCacA
import Derived.Test.YtofhgfgipdokbaaGreatDoorMRklB
import Derived.Test.YtofhgfgipdokbaaGreatDoorMRcaB
namespace Go.Proofs.YtofhgfgipdokbaaGreatDoor
open Go.RowKit

/-- the program's cache holds T, the document's R; nothing that was there at w0 has changed -/
def Cs (w0 : World) (X : List (Nat × Obj)) (cb rc : Nat) (T R : Tab) (w : World) : Prop := ∃ tb lb dv rl ga gc, CacAt w cb tb lb T dv ∧ RcAt w rc rl R ga gc ∧ Fr [] w0 w ∧ w0.heap.size ≤ cb ∧ (∀ k ∈ tfoot tb lb dv, w0.heap.size ≤ k) ∧ w0.heap.size ≤ rc ∧ w0.heap.size ≤ rl ∧ (∀ a, ga = some a → w0.heap.size ≤ a.block ∧ dv.ownBlock ≠ some a.block) ∧ ∀ p ∈ X, w.heap[p.1]? = some p.2 ∧ p.1 ∉ tfoot tb lb dv ∧ p.1 ≠ rc ∧ p.1 ≠ rl
section
variable {w0 w w' : World} {X : List (Nat × Obj)} {cb rc tb lb rl : Nat} {T R T' R' : Tab} {dv dv' : Value} {ga : Option Addr} {gc : Nat}
theorem Cs.fr (h : Cs w0 X cb rc T R w) : Fr [] w0 w := by obtain ⟨_, _, _, _, _, _, _, _, h, _⟩ := h; exact h
theorem Cs.still (h : Cs w0 X cb rc T R w) (hF : Fr [] w w') : Cs w0 X cb rc T R w' := by
  obtain ⟨tb, lb, dv, rl, ga, gc, h1, h2, h3, h4, h5, h6, h7, h8, h9⟩ := h
  exact ⟨tb, lb, dv, rl, ga, gc, h1.fr0 hF, h2.fr0 hF, h3.trans hF, h4, h5, h6, h7, h8, fun p hp => ⟨hF.heap (by simp) (h9 p hp).1, (h9 p hp).2⟩⟩
/-- a block more that is kept -/
theorem Cs.keep {b : Nat} {o : Obj} (h : Cs w0 [] cb rc T R w) (hF : Fr [] w w') (hb : w'.heap[b]? = some o) (hn : w.heap.size ≤ b) : Cs w0 [(b, o)] cb rc T R w' := by
  obtain ⟨tb, lb, dv, rl, ga, gc, h1, h2, h3, h4, h5, h6, h7, h8, -⟩ := h
  refine ⟨tb, lb, dv, rl, ga, gc, h1.fr0 hF, h2.fr0 hF, h3.trans hF, h4, h5, h6, h7, h8, fun p hp => ?_⟩
  rw [List.mem_singleton] at hp
  subst hp
  have g1 := lt_of_heap h2.box
  have g2 := lt_of_heap h2.lines
  exact ⟨hb, fun hm => by have := h1.tab.lt _ hm; omega, by simp only; omega, by simp only; omega⟩
/-- the program's cache turns -/
theorem cs_cmove (h1 : CacAt w cb tb lb T dv) (h2 : RcAt w rc rl R ga gc) (h3 : Fr [] w0 w) (h4 : w0.heap.size ≤ cb) (h5 : ∀ k ∈ tfoot tb lb dv, w0.heap.size ≤ k) (h6 : w0.heap.size ≤ rc) (h7 : w0.heap.size ≤ rl) (h8 : ∀ a, ga = some a → w0.heap.size ≤ a.block ∧ dv.ownBlock ≠ some a.block) (h9 : ∀ p ∈ X, w.heap[p.1]? = some p.2 ∧ p.1 ∉ tfoot tb lb dv ∧ p.1 ≠ rc ∧ p.1 ≠ rl)
    (hC : CacAt w' cb tb lb T' dv') (hF : Fr (tfoot tb lb dv) w w') (hn : ∀ k, dv'.ownBlock = some k → k ∈ tfoot tb lb dv ∨ w.heap.size ≤ k) : Cs w0 X cb rc T' R w' := by
  have hblk : ∀ {q : Nat} {c : Array Value} {t : TypeId} {f : Nat × Nat}, w.heap[q]? = some (.cells c t f) → t ≠ 71 → t ≠ 113 → t ≠ 24 → q ∉ tfoot tb lb dv := by
    intro q c t f hq t1 t2 t3 hm
    simp only [tfoot, List.mem_cons] at hm
    rcases hm with rfl | rfl | hm
    · exact tag_ne' hq h1.tab.tab t1 rfl
    · exact tag_ne' hq h1.tab.lines t2 rfl
    · obtain ⟨cur, hc⟩ := own_heap h1.tab.drops (own_mem.1 hm)
      exact tag_ne' hq hc t3 rfl
  have hga : ∀ a, ga = some a → a.block ∉ tfoot tb lb dv := by
    intro a ha hm
    obtain ⟨cur, hc⟩ := h2.gblk a ha
    simp only [tfoot, List.mem_cons] at hm
    rcases hm with e | e | hm
    · exact tag_ne' hc h1.tab.tab (by decide) e
    · exact tag_ne' hc h1.tab.lines (by decide) e
    · exact (h8 a ha).2 (own_mem.1 hm)
  have hgl : ∀ a, ga = some a → a.block < w.heap.size := fun a ha => by obtain ⟨cur, hc⟩ := h2.gblk a ha; exact lt_of_heap hc
  refine ⟨tb, lb, dv', rl, ga, gc, hC, h2.fr hF (hblk h2.box (by decide) (by decide) (by decide)) (hblk h2.lines (by decide) (by decide) (by decide)) hga, h3.trans' hF (fun _ _ e => e) (fun j hj hm => absurd (h5 j hm) (by omega)), h4, fun k hk => ?_, h6, h7, fun a ha => ⟨(h8 a ha).1, fun e => ?_⟩, fun p hp => ⟨hF.heap (h9 p hp).2.1 (h9 p hp).1, fun hm => ?_, (h9 p hp).2.2⟩⟩
  · simp only [tfoot, List.mem_cons] at hk
    rcases hk with rfl | rfl | hk
    · exact h5 _ (by simp [tfoot])
    · exact h5 _ (by simp [tfoot])
    · rcases hn k (own_mem.1 hk) with e | e
      · exact h5 k e
      · exact Nat.le_trans h3.size e
  · rcases hn _ e with h | h
    · exact hga a ha h
    · have := hgl a ha; omega
  · have hpl := lt_of_heap (h9 p hp).1
    simp only [tfoot, List.mem_cons] at hm
    have hnt := (h9 p hp).2.1
    simp only [tfoot, List.mem_cons, not_or] at hnt
    rcases hm with e | e | hm
    · exact hnt.1 e
    · exact hnt.2.1 e
    · rcases hn _ (own_mem.1 hm) with h | h
      · exact (h9 p hp).2.1 h
      · omega
/-- the document's cache turns -/
theorem cs_rmove {v : Value} {e : Ending} (h1 : CacAt w cb tb lb T dv) (h3 : Fr [] w0 w) (h4 : w0.heap.size ≤ cb) (h5 : ∀ k ∈ tfoot tb lb dv, w0.heap.size ≤ k) (h6 : w0.heap.size ≤ rc) (h7 : w0.heap.size ≤ rl) (h8 : ∀ a, ga = some a → w0.heap.size ≤ a.block ∧ dv.ownBlock ≠ some a.block) (h9 : ∀ p ∈ X, w.heap[p.1]? = some p.2 ∧ p.1 ∉ tfoot tb lb dv ∧ p.1 ≠ rc ∧ p.1 ≠ rl) (h2 : RcAt w rc rl R ga gc)
    (hR : RTo v rc rl ga R' w e w') : e = .returned v ∧ Cs w0 X cb rc T R' w' := by
  obtain ⟨he, rl', ga', gc', hC, hF, hl, hg⟩ := hR
  have hne : ∀ k ∈ tfoot tb lb dv, k ∉ [rc, rl] := by
    intro k hk hm
    simp only [List.mem_cons, List.not_mem_nil, or_false] at hm
    simp only [tfoot, List.mem_cons] at hk
    rcases hk with rfl | rfl | hk
    · rcases hm with e | e
      · exact tag_ne' h1.tab.tab h2.box (by decide) e
      · exact tag_ne' h1.tab.tab h2.lines (by decide) e
    · rcases hm with e | e
      · exact tag_ne' h1.tab.lines h2.box (by decide) e
      · exact tag_ne' h1.tab.lines h2.lines (by decide) e
    · obtain ⟨cur, hc⟩ := own_heap h1.tab.drops (own_mem.1 hk)
      rcases hm with e | e
      · exact tag_ne' hc h2.box (by decide) e
      · exact tag_ne' hc h2.lines (by decide) e
  have hcb : cb ∉ [rc, rl] := by
    intro hm
    simp only [List.mem_cons, List.not_mem_nil, or_false] at hm
    rcases hm with e | e
    · exact tag_ne' h1.box h2.box (by decide) e
    · exact tag_ne' h1.box h2.lines (by decide) e
  refine ⟨he, tb, lb, dv, rl', ga', gc', h1.fr hF hcb hne, hC, h3.trans' hF (fun _ _ e => e) (fun j hj hm => ?_), h4, h5, h6, ?_, fun a ha => ?_, fun p hp => ⟨hF.heap (by simp [(h9 p hp).2.2.1, (h9 p hp).2.2.2]) (h9 p hp).1, (h9 p hp).2.1, (h9 p hp).2.2.1, ?_⟩⟩
  · simp only [List.mem_cons, List.not_mem_nil, or_false] at hm
    rcases hm with rfl | rfl <;> omega
  · rcases hl with rfl | hl
    · exact h7
    · exact Nat.le_trans h3.size hl
  · rcases hg a ha with ⟨b, hb, e⟩ | hg
    · rw [e]
      exact h8 b hb
    · refine ⟨Nat.le_trans h3.size hg, fun e => ?_⟩
      obtain ⟨cur, hc⟩ := own_heap h1.tab.drops e
      have := lt_of_heap hc
      omega
  · have hpl := lt_of_heap (h9 p hp).1
    rcases hl with rfl | hl
    · exact (h9 p hp).2.2.2
    · omega
end
end Go.Proofs.YtofhgfgipdokbaaGreatDoor
namespace Go.Proofs.YtofhgfgipdokbaaGreatDoor
open Go.RowKit

theorem zeroLine8 (w : World) : (zeroValue 113).run Tryz.prog w = .ok (.agg #[.int .u64 0, .int .u64 0, .bool false, .int .u64 0]) w := by kernel_rfl
theorem zero_lines (n : Nat) : (Builtin.zeroCells (Value.agg #[.int .u64 0, .int .u64 0, .bool false, .int .u64 0]).cells n).toList = lnFlat (List.replicate n Ln.zero) := by
  rw [show (Value.agg #[.int .u64 0, .int .u64 0, .bool false, .int .u64 0]).cells = #[.int .u64 0, .int .u64 0, .bool false, .int .u64 0] from rfl]
  apply List.ext_getElem?
  intro k
  rw [Array.getElem?_toList]
  by_cases hk : k < n * 4
  · have h1 := lnFlat_at (L := List.replicate n Ln.zero) (i := k / 4) (l := Ln.zero) (by rw [List.getElem?_replicate, if_pos (by omega)]) (k % 4) (by omega)
    rw [show k / 4 * 4 + k % 4 = k by omega] at h1
    rw [h1]
    have h2 : (Builtin.zeroCells #[Value.int .u64 0, .int .u64 0, .bool false, .int .u64 0] n)[k]? = some (#[Value.int .u64 0, .int .u64 0, .bool false, .int .u64 0][k % 4]!) := by
      unfold Builtin.zeroCells
      rw [Array.getElem?_map, Array.getElem?_range, if_pos (by simpa using hk)]
      rfl
    rw [h2]
    have h4 : k % 4 < 4 := Nat.mod_lt _ (by omega)
    generalize k % 4 = j at *
    match j, h4 with
    | 0, _ => rfl
    | 1, _ => rfl
    | 2, _ => rfl
    | 3, _ => rfl
  · have h1 : (lnFlat (List.replicate n Ln.zero))[k]? = none := List.getElem?_eq_none (by rw [lnFlat_len]; simp; omega)
    rw [h1]
    unfold Builtin.zeroCells
    rw [Array.getElem?_map, Array.getElem?_range, if_neg (by simpa using hk)]
    rfl
theorem run_clear_lines {w : World} {b n c : Nat} {L : List Ln} (hn : 1 ≤ n) (hl : L.length = n) (hh : w.heap[b]? = some (.cells (lnFlat L).toArray 113 (0, 0))) (ty : TypeId) :
    (Builtin.clear_ #[69] ty #[.slice (some ⟨b, 0, none⟩) n c]).run Tryz.prog w = .ok (.tuple #[]) (w.setCells b 0 (lnFlat (List.replicate n Ln.zero))) := by
  have hlen : (lnFlat (List.replicate n Ln.zero)).length = n * 4 := by rw [lnFlat_len]; simp
  have hst := run_storeCells_cells (P := Tryz.prog) b 0 (lnFlat (List.replicate n Ln.zero)) 0 w (fun j hj => by
      rw [hlen] at hj
      have : j < (lnFlat L).length := by rw [lnFlat_len]; omega
      rw [Nat.zero_add, cell_of_heap hh (v := (lnFlat L)[j]) (by simp [this])]
      rfl) (fun j hj => frozen_of_heap hh) (fun v hv => by
      obtain ⟨l, hl, hv⟩ := List.mem_flatMap.1 hv
      rw [List.eq_of_mem_replicate hl] at hv
      simp only [Ln.vals, List.mem_cons, List.not_mem_nil, or_false] at hv
      rcases hv with rfl | rfl | rfl | rfl <;> rfl)
  simp only [Nat.add_zero] at hst
  obtain ⟨m, rfl⟩ : ∃ m, n = m + 1 := ⟨n - 1, by omega⟩
  simp [Builtin.clear_, run_underlying Tryz.underlying69, zero_lines, hst]
theorem setA_all {c : Array Value} {vs : List Value} (h : c.size = vs.length) : setA c 0 vs = vs.toArray := by
  apply Array.toList_inj.1
  apply List.ext_getElem?
  intro k
  rw [Array.getElem?_toList, setA_get vs c 0 k (by omega)]
  by_cases hk : k < vs.length
  · rw [if_pos ⟨by omega, by omega⟩]
    simp
  · rw [if_neg (by omega), Array.getElem?_eq_none (by omega)]
    simp; omega
section
variable {w : World} {cb tb lb : Nat} {T : Tab} {dv : Value}
set_option maxRecDepth 100000 in
set_option maxHeartbeats 1000000 in
theorem cclear_at (h : CacAt w cb tb lb T dv) : Calls Tryz.prog 14 #[.pointer (some ⟨cb, 0, none⟩)] w (CTurns cb tb lb { T with L := List.replicate T.L.length Ln.zero } (tfoot tb lb dv) w) := by
  have ht := table_at h.box
  have hk := fun w' (hF : Fr [] w w') => (h.fr0 hF)
  have H := Lib.hid h
  obtain ⟨n, hn⟩ : ∃ n, n = T.L.length := ⟨_, rfl⟩
  have hn1 : 1 ≤ n := by rw [hn]; exact h.tab.n1
  have HN := Lib.hid hn
  have hcl := fun w' (hF : Fr [] w w') (c : Nat) (ty : TypeId) => run_clear_lines (c := c) hn1 hn.symm (hk w' hF).tab.lines ty
  have HCL := Lib.hid hcl
  have c0 := fun w' (hF : Fr [] w w') => (hk w' hF).tab.cell0
  rw [← hn] at c0
  have HC0 := Lib.hid c0
  clear h hn hcl hk c0
  go_enter Tryz.func14, Tryz.ntmps14
  go_wp2_with (first
    | (go_at_call 31; refine ht.mono ?_; rintro e w1 ⟨rfl, hF1⟩; have c0 := HC0.out _ hF1; have HF1 := Lib.hid hF1; have hcl := fun ty => HCL.out w1 HF1.out n ty; clear hF1))
  go_end0
  have hC1 := H.out.fr0 HF1.out
  have hF : Fr [lb] w1 (w1.setCells lb 0 (lnFlat (List.replicate n Ln.zero))) := Fr.setCells _ (Fr.refl _ _) lb 0 (by simp)
  have hh := heap_setCells (lnFlat (List.replicate n Ln.zero)) 0 hC1.tab.lines
  rw [setA_all (by simp [lnFlat_len, HN.out])] at hh
  refine ⟨rfl, dv, ⟨hF.heap (by simpa using hC1.cl) hC1.box, ?_⟩, HF1.out.weak.trans (hF.mono (fun j _ hj => by rw [List.mem_singleton] at hj; simp [tfoot, hj])), fun k hk => .inl (by simp [tfoot, hk])⟩
  rw [← HN.out]
  exact hC1.tab.setLines (by simp [HN.out]) hF hh
end
end Go.Proofs.YtofhgfgipdokbaaGreatDoor
namespace Go.Proofs.YtofhgfgipdokbaaGreatDoor
open Go.RowKit

section
variable {w w0 : World} {cb lb : Nat} {T : Tab} {ga : Option Addr} {gc : Nat} {rb : Nat} {lim root hashes : Int} {os : List Ob} {l : List RO} {lv : Value}
theorem RcAt.setR (h : RcAt w cb lb T ga gc) (x : Int) : RcAt (w.setCell ⟨cb, 1, none⟩ (.int .i64 x)) cb lb { T with r := x } ga gc := by
  have hF : Fr [cb] w (w.setCell ⟨cb, 1, none⟩ (.int .i64 x)) := (Fr.refl _ _).setCell (fun _ => by simp) _
  refine ⟨?_, hF.heap (by simpa using h.cl.symm) h.lines, h.gone.fr hF (fun a ha => by simpa using (h.gb ha).1), fun a ha => by obtain ⟨cur, hc⟩ := h.gblk a ha; exact ⟨cur, hF.heap (by simpa using (h.gb ha).1) hc⟩, h.gnil, h.n1, h.n2, h.d64⟩
  have := heap_setCell_same h.box (o := 1) (.int .i64 x)
  simpa using this
theorem RcAt.setK (h : RcAt w cb lb T ga gc) (x : Int) : RcAt (w.setCell ⟨cb, 2, none⟩ (.int .i64 x)) cb lb { T with k := x } ga gc := by
  have hF : Fr [cb] w (w.setCell ⟨cb, 2, none⟩ (.int .i64 x)) := (Fr.refl _ _).setCell (fun _ => by simp) _
  refine ⟨?_, hF.heap (by simpa using h.cl.symm) h.lines, h.gone.fr hF (fun a ha => by simpa using (h.gb ha).1), fun a ha => by obtain ⟨cur, hc⟩ := h.gblk a ha; exact ⟨cur, hF.heap (by simpa using (h.gb ha).1) hc⟩, h.gnil, h.n1, h.n2, h.d64⟩
  have := heap_setCell_same h.box (o := 2) (.int .i64 x)
  simpa using this
set_option maxRecDepth 100000 in
set_option maxHeartbeats 2000000 in
theorem rfind_at (h0 : RpAt w0 rb lim os root hashes l lv) (hF0 : Fr [] w0 w) (hcb : w0.heap.size ≤ cb) (h : RcAt w cb lb T ga gc) (c s : Int) (hc : WB c) (hs : WB s) (r0 : 0 ≤ T.r) (r1 : T.r ≤ 1000000) (k0 : 0 ≤ T.k) (k1 : T.k ≤ 1000000) :
    Calls Tryz.prog 20 #[.pointer (some ⟨cb, 0, none⟩), .pointer (some ⟨rb, 0, none⟩), .int .u64 c, .int .u64 s] w (RTo (cfindV T (lookR os root c s) c s) cb lb ga (cfindT T (lookR os root c s) c s) w) := by
  obtain ⟨c1, c2⟩ := hc
  obtain ⟨s1, s2⟩ := hs
  have H := Lib.hid h
  have HF0 := Lib.hid hF0
  have HCB := Lib.hid hcb
  have hg := rget_at h c s c1 c2 s1 s2
  have HW : Hid (∀ w1, Fr [] w w1 → ∀ x, Fr [] w0 (w1.setCell ⟨cb, 2, none⟩ x)) := Lib.hid fun w1 hF x => (hF0.trans hF).setCell (fun e => absurd e (by show ¬ cb < _; omega)) x
  have hl := fun w1 (hF : Fr [] w0 w1) => r7lookup (h0.fr0 hF) c s ⟨c1, c2⟩ ⟨s1, s2⟩
  have HPUT : Hid (∀ w1 m, RcAt w1 cb lb { T with k := T.k + 1 } ga gc → Calls Tryz.prog 11 #[.pointer (some ⟨cb, 0, none⟩), .int .u64 c, .int .u64 s, .int .u64 m] w1 (RTo (.tuple #[]) cb lb ga { T with L := putL T.L c s m, k := T.k + 1 } w1)) := Lib.hid fun w1 m hT => rput_at hT c s m c1 c2 s1 s2
  unfold cfindV cfindT
  cases hgb : getB T.L c s
  · rw [hgb] at hg
    clear h hF0 hcb h0 hgb
    simp only [Bool.false_eq_true, if_false]
    cases hlk : lookR os root c s with
    | none =>
      rw [hlk] at hl
      simp only [lookV] at hl ⊢
      clear hlk
      go_enter Tryz.func20, Tryz.ntmps20
      go_wp2_with (first
        | (go_at_call 22; refine hg.mono ?_; rintro e w1 ⟨rfl, hF1⟩; have HF1 := Lib.hid hF1; have c3 := (H.out.fr0 hF1).cell2; have z3 := frozen_of_heap (o := 2) (H.out.fr0 hF1).box; clear hF1)
        | (go_at_call 38; refine (hl _ (HW.out _ HF1.out _)).mono ?_; rintro e w2 ⟨rfl, hF2⟩; have HF2 := Lib.hid hF2; clear hF2))
      go_ret2
      exact ⟨rfl, lb, ga, gc, ((H.out.fr0 HF1.out).setK _).fr0 HF2.out, ((HF1.out.weak).trans ((Fr.refl [cb, lb] w1).setCell (fun _ => by simp) _)).trans HF2.out.weak, .inl rfl, fun a ha => .inl ⟨a, ha, rfl⟩⟩
    | some m =>
      rw [hlk] at hl
      simp only [lookV] at hl ⊢
      clear hlk
      go_enter Tryz.func20, Tryz.ntmps20
      go_wp2_with (first
        | (go_at_call 22; refine hg.mono ?_; rintro e w1 ⟨rfl, hF1⟩; have HF1 := Lib.hid hF1; have c3 := (H.out.fr0 hF1).cell2; have z3 := frozen_of_heap (o := 2) (H.out.fr0 hF1).box; clear hF1)
        | (go_at_call 38; refine (hl _ (HW.out _ HF1.out _)).mono ?_; rintro e w2 ⟨rfl, hF2⟩; have HT2 := Lib.hid (((H.out.fr0 HF1.out).setK (T.k + 1)).fr0 hF2); have HF2 := Lib.hid hF2; clear hF2)
        | (go_at_call 11; refine (HPUT.out w2 m HT2.out).mono ?_; rintro e w3 ⟨rfl, rl3, ga3, gc3, hC3, hF3, hl3, hg3⟩; have HC3 := Lib.hid hC3; have HF3 := Lib.hid hF3; have HL3 := Lib.hid hl3; have HG3 := Lib.hid hg3; clear hC3 hF3 hl3 hg3))
      go_ret2
      have hsz : w.heap.size ≤ w2.heap.size := (((HF1.out.weak (S := [cb, lb])).trans ((Fr.refl [cb, lb] w1).setCell (p := ⟨cb, 2, none⟩) (fun _ => by simp) (.int .i64 (T.k + 1)))).trans HF2.out.weak).size
      exact ⟨rfl, rl3, ga3, gc3, HC3.out, (((HF1.out.weak).trans ((Fr.refl [cb, lb] w1).setCell (fun _ => by simp) _)).trans HF2.out.weak).trans HF3.out, HL3.out.imp id (fun h => Nat.le_trans hsz h), fun a ha => (HG3.out a ha).imp id (fun h => Nat.le_trans hsz h)⟩
  · rw [hgb] at hg
    clear h hF0 hcb h0 hgb hl HW HPUT
    simp only [if_true]
    go_enter Tryz.func20, Tryz.ntmps20
    go_wp2_with (go_at_call 22; refine hg.mono ?_; rintro e w1 ⟨rfl, hF1⟩; have HF1 := Lib.hid hF1; have c3 := (H.out.fr0 hF1).cell1; have z3 := frozen_of_heap (o := 1) (H.out.fr0 hF1).box; clear hF1)
    go_ret2
    exact ⟨rfl, lb, ga, gc, (H.out.fr0 HF1.out).setR _, (HF1.out.weak).trans ((Fr.refl [cb, lb] w1).setCell (fun _ => by simp) _), .inl rfl, fun a ha => .inl ⟨a, ha, rfl⟩⟩
end
end Go.Proofs.YtofhgfgipdokbaaGreatDoor
namespace Go.Proofs.YtofhgfgipdokbaaGreatDoor
open Go.RowKit

/-- Returned v; the caches hold T and R. -/
def CsTo (v : Value) (w0 : World) (X : List (Nat × Obj)) (cb rc : Nat) (T R : Tab) (e : Ending) (w' : World) : Prop := e = .returned v ∧ Cs w0 X cb rc T R w'
section
variable {w0 w : World} {X : List (Nat × Obj)} {cb rc : Nat} {T R : Tab}
theorem cs_get (h : Cs w0 X cb rc T R w) (c s : Int) (hc : WB c) (hs : WB s) : Calls Tryz.prog 21 #[.pointer (some ⟨cb, 0, none⟩), .int .u64 c, .int .u64 s] w (CsTo (.tuple #[.int .u64 (getM T.L c s), .bool (getB T.L c s)]) w0 X cb rc T R) := by
  have h' := h
  obtain ⟨tb, lb, dv, rl, ga, gc, h1, -⟩ := h'
  exact (cget_at h1 c s hc.1 hc.2 hs.1 hs.2).mono fun e w' ⟨he, hF⟩ => ⟨he, h.still hF⟩
theorem cs_rget (h : Cs w0 X cb rc T R w) (c s : Int) (hc : WB c) (hs : WB s) : Calls Tryz.prog 22 #[.pointer (some ⟨rc, 0, none⟩), .int .u64 c, .int .u64 s] w (CsTo (.tuple #[.int .u64 (getM R.L c s), .bool (getB R.L c s)]) w0 X cb rc T R) := by
  have h' := h
  obtain ⟨tb, lb, dv, rl, ga, gc, -, h2, -⟩ := h'
  exact (rget_at h2 c s hc.1 hc.2 hs.1 hs.2).mono fun e w' ⟨he, hF⟩ => ⟨he, h.still hF⟩
theorem cs_put (h : Cs w0 X cb rc T R w) (c s m : Int) (hc : WB c) (hs : WB s) : Calls Tryz.prog 10 #[.pointer (some ⟨cb, 0, none⟩), .int .u64 c, .int .u64 s, .int .u64 m] w (CsTo (.tuple #[]) w0 X cb rc { T with L := putL T.L c s m } R) := by
  obtain ⟨tb, lb, dv, rl, ga, gc, h1, h2, h3, h4, h5, h6, h7, h8, h9⟩ := h
  exact (cput_at h1 c s m hc.1 hc.2 hs.1 hs.2).mono fun e w' ⟨he, dv', hC, hF, hn⟩ => ⟨he, cs_cmove h1 h2 h3 h4 h5 h6 h7 h8 h9 hC hF hn⟩
theorem cs_rput (h : Cs w0 X cb rc T R w) (c s m : Int) (hc : WB c) (hs : WB s) : Calls Tryz.prog 11 #[.pointer (some ⟨rc, 0, none⟩), .int .u64 c, .int .u64 s, .int .u64 m] w (CsTo (.tuple #[]) w0 X cb rc T { R with L := putL R.L c s m }) := by
  obtain ⟨tb, lb, dv, rl, ga, gc, h1, h2, h3, h4, h5, h6, h7, h8, h9⟩ := h
  exact (rput_at h2 c s m hc.1 hc.2 hs.1 hs.2).mono fun e w' hR => cs_rmove h1 h3 h4 h5 h6 h7 h8 h9 h2 hR
theorem cs_drop (h : Cs w0 X cb rc T R w) (s : Int) : Calls Tryz.prog 12 #[.pointer (some ⟨cb, 0, none⟩), .int .u64 s] w (CsTo (.tuple #[]) w0 X cb rc { T with L := dropL T.L s, D := noteL T.D s } R) := by
  obtain ⟨tb, lb, dv, rl, ga, gc, h1, h2, h3, h4, h5, h6, h7, h8, h9⟩ := h
  exact (cdrop_at h1 s).mono fun e w' ⟨he, dv', hC, hF, hn⟩ => ⟨he, cs_cmove h1 h2 h3 h4 h5 h6 h7 h8 h9 hC hF hn⟩
theorem cs_rdrop (h : Cs w0 X cb rc T R w) (s : Int) : Calls Tryz.prog 13 #[.pointer (some ⟨rc, 0, none⟩), .int .u64 s] w (CsTo (.tuple #[]) w0 X cb rc T { R with L := dropL R.L s, D := noteL R.D s }) := by
  obtain ⟨tb, lb, dv, rl, ga, gc, h1, h2, h3, h4, h5, h6, h7, h8, h9⟩ := h
  exact (rdrop_at h2 s).mono fun e w' hR => cs_rmove h1 h3 h4 h5 h6 h7 h8 h9 h2 hR
theorem cs_clear (h : Cs w0 X cb rc T R w) : Calls Tryz.prog 14 #[.pointer (some ⟨cb, 0, none⟩)] w (CsTo (.tuple #[]) w0 X cb rc { T with L := List.replicate T.L.length Ln.zero } R) := by
  obtain ⟨tb, lb, dv, rl, ga, gc, h1, h2, h3, h4, h5, h6, h7, h8, h9⟩ := h
  exact (cclear_at h1).mono fun e w' ⟨he, dv', hC, hF, hn⟩ => ⟨he, cs_cmove h1 h2 h3 h4 h5 h6 h7 h8 h9 hC hF hn⟩
theorem cs_rclear (h : Cs w0 X cb rc T R w) : Calls Tryz.prog 15 #[.pointer (some ⟨rc, 0, none⟩)] w (CsTo (.tuple #[]) w0 X cb rc T { R with L := List.replicate R.L.length Ln.zero }) := by
  obtain ⟨tb, lb, dv, rl, ga, gc, h1, h2, h3, h4, h5, h6, h7, h8, h9⟩ := h
  exact (rclear_at h2).mono fun e w' hR => cs_rmove h1 h3 h4 h5 h6 h7 h8 h9 h2 hR
theorem cs_counts (h : Cs w0 X cb rc T R w) : Calls Tryz.prog 23 #[.pointer (some ⟨cb, 0, none⟩)] w (CsTo (.tuple #[.int .i64 T.r, .int .i64 T.k]) w0 X cb rc T R) := by
  have h' := h
  obtain ⟨tb, lb, dv, rl, ga, gc, h1, -⟩ := h'
  exact (ccounts_at h1).mono fun e w' ⟨he, hF⟩ => ⟨he, h.still hF⟩
theorem cs_cells (h : Cs w0 X cb rc T R w) : w.cell? ⟨rc, 1, none⟩ = some (.int .i64 R.r) ∧ w.cell? ⟨rc, 2, none⟩ = some (.int .i64 R.k) := by
  obtain ⟨tb, lb, dv, rl, ga, gc, -, h2, -⟩ := h
  exact ⟨h2.cell1, h2.cell2⟩
theorem cs_find {hb mb : Nat} {lim root hashes : Int} {os : List Ob} {wv sv : Value} (h0 : HpAt w0 hb mb lim os root hashes wv sv) (h : Cs w0 X cb rc T R w) (c s : Int) (hc : WB c) (hs : WB s) (r0 : 0 ≤ T.r) (r1 : T.r ≤ 1000000) (k0 : 0 ≤ T.k) (k1 : T.k ≤ 1000000) :
    Calls Tryz.prog 19 #[.pointer (some ⟨cb, 0, none⟩), .pointer (some ⟨hb, 0, none⟩), .int .u64 c, .int .u64 s] w (CsTo (cfindV T (lookR os root c s) c s) w0 X cb rc (cfindT T (lookR os root c s) c s) R) := by
  obtain ⟨tb, lb, dv, rl, ga, gc, h1, h2, h3, h4, h5, h6, h7, h8, h9⟩ := h
  exact (cfind_at h0 h3 (h5 tb (by simp [tfoot])) h1 c s hc hs r0 r1 k0 k1).mono fun e w' ⟨he, hC, hF⟩ => ⟨he, cs_cmove h1 h2 h3 h4 h5 h6 h7 h8 h9 hC (hF.mono (fun j _ hj => by simp only [List.mem_cons, List.not_mem_nil, or_false] at hj; rcases hj with rfl | rfl <;> simp [tfoot])) (fun k hk => .inl (by simp [tfoot, hk]))⟩
theorem cs_rfind {rb : Nat} {lim root hashes : Int} {os : List Ob} {l : List RO} {lv : Value} (h0 : RpAt w0 rb lim os root hashes l lv) (h : Cs w0 X cb rc T R w) (c s : Int) (hc : WB c) (hs : WB s) (r0 : 0 ≤ R.r) (r1 : R.r ≤ 1000000) (k0 : 0 ≤ R.k) (k1 : R.k ≤ 1000000) :
    Calls Tryz.prog 20 #[.pointer (some ⟨rc, 0, none⟩), .pointer (some ⟨rb, 0, none⟩), .int .u64 c, .int .u64 s] w (CsTo (cfindV R (lookR os root c s) c s) w0 X cb rc T (cfindT R (lookR os root c s) c s)) := by
  obtain ⟨tb, lb, dv, rl, ga, gc, h1, h2, h3, h4, h5, h6, h7, h8, h9⟩ := h
  exact (rfind_at h0 h3 h6 h2 c s hc hs r0 r1 k0 k1).mono fun e w' hR => cs_rmove h1 h3 h4 h5 h6 h7 h8 h9 h2 hR
/-- words that lie in a row of their own -/
def WOwn (w : World) (ao : Option Addr) (xs : List Int) : Prop := WordsAt w ao xs ∧ ∀ a, ao = some a → ∃ cur, w.heap[a.block]? = some (.cells cur 24 (0, 0))
/-- Returned the drops; none are kept now. -/
def CsTells (w0 : World) (X : List (Nat × Obj)) (cb rc : Nat) (_T T' _R R' : Tab) (D : List Int) (e : Ending) (w' : World) : Prop := ∃ ao cap, e = .returned (.slice ao D.length cap) ∧ WOwn w' ao D ∧ Cs w0 X cb rc T' R' w'
theorem cs_drops (h : Cs w0 X cb rc T R w) : Calls Tryz.prog 17 #[.pointer (some ⟨cb, 0, none⟩)] w (CsTells w0 X cb rc T { T with D := [] } R R T.D) := by
  obtain ⟨tb, lb, dv, rl, ga, gc, h1, h2, h3, h4, h5, h6, h7, h8, h9⟩ := h
  refine (cdrops_at h1).mono fun e w' ⟨he, hC, hF⟩ => ?_
  obtain ⟨ao, cap, hdv⟩ := row_shp h1.tab.drops
  have hrow := hF.row h1.tab.drops (fun k hk => by rw [List.mem_singleton]; rintro rfl; exact h1.tab.dt hk)
  refine ⟨ao, cap, by rw [he, hdv], ⟨?_, fun a ha => ?_⟩, cs_cmove h1 h2 h3 h4 h5 h6 h7 h8 h9 hC (hF.mono (fun j _ hj => by simp at hj; simp [tfoot, hj])) (fun k hk => by cases hk)⟩
  · intro i x hx
    rw [hdv] at hrow
    obtain ⟨g, o, e2, hc⟩ := row_rowAt hrow i (.int .u64 x) (by rw [List.getElem?_map, hx]; rfl)
    exact ⟨g, o, e2, hc⟩
  · rw [hdv, ha] at hrow
    exact own_heap hrow rfl
theorem cs_rdrops (h : Cs w0 X cb rc T R w) {ao : Option Addr} {xs : List Int} (hW : WOwn w ao xs) : Calls Tryz.prog 18 #[.pointer (some ⟨rc, 0, none⟩)] w (fun e w' => CsTells w0 X cb rc T T R { R with D := [] } R.D e w' ∧ WOwn w' ao xs) := by
  obtain ⟨tb, lb, dv, rl, ga, gc, h1, h2, h3, h4, h5, h6, h7, h8, h9⟩ := h
  refine (rdrops_at h2).mono fun e w' hR => ?_
  have hR' := hR
  obtain ⟨he, rl', ga', gc', -, hF, -, -⟩ := hR'
  obtain ⟨-, hC⟩ := cs_rmove h1 h3 h4 h5 h6 h7 h8 h9 h2 hR
  have hga : ∀ a, ga = some a → a.block ∉ [rc, rl] := fun a ha => by simp [(h2.gb ha).1, (h2.gb ha).2]
  have hao : ∀ a, ao = some a → a.block ∉ [rc, rl] := fun a ha => by
    obtain ⟨cur, hc⟩ := hW.2 a ha
    simp [tag_ne' hc h2.box (by decide), tag_ne' hc h2.lines (by decide)]
  refine ⟨⟨ga, gc, he, ⟨h2.gone.fr hF hga, fun a ha => ?_⟩, hC⟩, hW.1.fr hF hao, fun a ha => ?_⟩
  · obtain ⟨cur, hc⟩ := h2.gblk a ha
    exact ⟨cur, hF.heap (hga a ha) hc⟩
  · obtain ⟨cur, hc⟩ := hW.2 a ha
    exact ⟨cur, hF.heap (hao a ha) hc⟩
end
end Go.Proofs.YtofhgfgipdokbaaGreatDoor
