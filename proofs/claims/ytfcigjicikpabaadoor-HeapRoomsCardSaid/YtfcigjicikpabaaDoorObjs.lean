/- The heap's Objects: references to all objects, in order, in a new row. -/
import Derived.Test.YtfcigjicikpabaaDoorObjects
namespace Go.Proofs.YtfcigjicikpabaaDoor
open Go.RowKit Go.Shelf
attribute [local go_sem] Oper.semAt_some

/-- the references of places -/
def refsOf (ps : List Nat) : List Value := ps.map fun p : Nat => Value.int .u64 (2 * (p : Int))
/-- Returned a slice of these cells, in new memory. -/
def Lists (e : TypeId) (size : Nat) (k : Nat) (xs : List Value) (w : World) (en : Ending) (w' : World) : Prop :=
  ∃ v, en = .returned v ∧ w'.ownsRow 0 e size v k xs ∧ Fr [] w w' ∧ ∀ b, v.ownBlock = some b → w.heap.size ≤ b
theorem wpListIn_append_at {F : Fence} {n : Nat} {P : Program} (w : World) {ops : Array Oper} {rest : List Oper} {o : Oper} {a : Act} {Q : Exit → Act → World → Prop}
    (hg : o.guard = none) (s x : Operand) (t : TypeId) (hop : o.op = Op.call { callee := Callee.builtin Builtin.append, args := #[s, x], argTypes := #[t, t] })
    (e : TypeId) (i : TypeInfo) (z : Value) (size bytes : Nat) (h1 : P.underlying t = some (.slice e)) (h2 : P.info? e = some i) (h3 : i.zero = some z) (h4 : i.size = size) (h5 : i.bytes = bytes) (h6 : z.cells.size = size) (h7 : 0 < size)
    (v : Value) (k : Nat) (xs : List Value) (hs : a.eval s = v) (hown : w.ownsRow 0 e size v k xs) (ad : Addr) (m c : Nat) (news : List Value) (hx : a.eval x = .slice (some ad) m c) (hn : news.length = m * size)
    (hc : ∀ j u, news[j]? = some u → w.cell? (ad.add j) = some u) (h1c : ∀ u ∈ news, u.oneCell' = true) (b1 : k + m ≤ maxLen) (b2 : (k + m) * bytes ≤ 140737488355328)
    (hK : ∀ v' w', w'.ownsRow 0 e size v' (k + m) (xs ++ news) → w.grownBy w' v.ownBlock → (v'.ownBlock = v.ownBlock ∨ v'.ownBlock = some w.heap.size) → wpListIn F n P ops Q rest (a.put o.dst v') w') :
    wpListIn F n P ops Q (o :: rest) a w := by
  refine wpListIn_plain hg fun K hK' => ?_
  obtain ⟨v', w', hrun, r1, r2, r3⟩ := run_append_at (P := P) w t o.type e i z size bytes h1 h2 h3 h4 h5 h6 h7 v k xs hown ad m c news hn hc h1c b1 b2
  unfold Oper.wpIn
  refine ⟨?_, ?_⟩
  · simp [Oper.about, hop, resolve, Target.leads, Sem.run_pure]
  · rw [Oper.semAt_plain F _ _ (by rw [hop]; intro c hc'; cases hc')]
    simp [execOp, hop, resolve, invoke, builtin, hs, hx, hrun, Result.andThen]
    exact hK' _ _ (hK v' w' r1 r2 r3)
theorem row_cells {w : World} {b size : Nat} {e : TypeId} {v : Value} {n : Nat} {xs : List Value} (h : w.ownsRow b e size v n xs) {g : Nat} (hg : v.ownBlock = some g) : ∃ cur, w.heap[g]? = some (.cells cur e (0, 0)) := by
  rcases h.2 with ⟨rfl, rfl⟩ | ⟨g', cap, cur, rfl, hb, hh, _⟩
  · cases hg
  · cases hg; exact ⟨cur, hh⟩
/-- the row under way: its variable's box, its cells, the memory that is gone through -/
structure Gathers (w : World) (bb mb : Nat) (m : Mem) (wv sv : Value) (t e : TypeId) (size k : Nat) (xs : List Value) (v : Value) (W : World) : Prop where
  box : W.heap[bb]? = some (.cells #[v] t (0, 0))
  row : W.ownsRow 0 e size v k xs
  mem : MemAt W mb m wv sv
  fr : Fr [] w W
  new : ∀ b, v.ownBlock = some b → w.heap.size ≤ b
  apart : ∀ b, v.ownBlock = some b → b ∉ foot mb wv sv
theorem box_apart {W : World} {bb mb : Nat} {m : Mem} {wv sv v : Value} {t : TypeId} (hb : W.heap[bb]? = some (.cells #[v] t (0, 0))) (hM : MemAt W mb m wv sv) (h1 : t ≠ 66) (h2 : t ≠ 23) (h3 : t ≠ 4) : bb ∉ foot mb wv sv := by
  intro hk
  simp only [foot, List.mem_cons, List.mem_append, Option.mem_toList] at hk
  rcases hk with rfl | hk | hk
  · exact tag_ne hb hM.mem h1 rfl
  · obtain ⟨c, hc⟩ := row_heap hM.words hk; exact tag_ne hb hc h2 rfl
  · obtain ⟨c, hc⟩ := row_heap hM.starts hk; exact tag_ne hb hc h3 rfl
theorem Gathers.step {w W w1 : World} {bb mb : Nat} {m : Mem} {wv sv : Value} {t e : TypeId} {size k j : Nat} {xs news : List Value} {v v' : Value} {o : Obj}
    (h : Gathers w bb mb m wv sv t e size k xs v W) (hbb : w.heap.size ≤ bb) (hte : t ≠ e) (h1 : t ≠ 66) (h2 : t ≠ 23) (h3 : t ≠ 4)
    (ho : w1.ownsRow 0 e size v' (k + j) (xs ++ news)) (hg : (W.alloc o).grownBy w1 v.ownBlock) (hf : v'.ownBlock = v.ownBlock ∨ v'.ownBlock = some (W.alloc o).heap.size) (B : Nat) :
    w1.cell? ⟨bb, 0, none⟩ = some v ∧ w1.frozen? ⟨bb, 0, none⟩ = false ∧ Gathers w bb mb m wv sv t e size (k + j) (xs ++ news) v' (w1.setCell ⟨bb, 0, none⟩ v') ∧ KeepsFrom B W (w1.setCell ⟨bb, 0, none⟩ v') := by
  have hvb : ∀ g, v.ownBlock = some g → g ≠ bb := by
    intro g hgv
    obtain ⟨c, hc⟩ := row_cells h.row hgv
    exact fun e' => tag_ne h.box hc hte e'.symm
  have hbox1 : w1.heap[bb]? = some (.cells #[v] t (0, 0)) := by
    rw [hg.block bb (by have := lt_of_heap h.box; simp; omega) (fun e' => hvb bb e'.symm rfl), Below.heap_alloc _ _ _ (lt_of_heap h.box)]
    exact h.box
  have hmem1 : MemAt w1 mb m wv sv := by
    have hM' := h.mem.fr0 ((Fr.refl [] W).alloc o)
    have hF1 : Fr (v.ownBlock.toList) (W.alloc o) w1 := (Fr.refl _ _).grown hg (fun g hgv _ => by simp [hgv])
    exact hM'.fr hF1 (fun g hg1 hg2 => by simp at hg2; exact h.apart g hg2 hg1)
  have hv'b : ∀ g, v'.ownBlock = some g → g ≠ bb := by
    intro g hgv
    obtain ⟨c, hc⟩ := row_cells ho hgv
    exact fun e' => tag_ne hbox1 hc hte e'.symm
  have hF2 : Fr [bb] w1 (w1.setCell ⟨bb, 0, none⟩ v') := (Fr.refl _ _).setCell (fun _ => by simp) _
  have hFw : Fr [] w w1 := (h.fr.alloc o).grown hg (fun g hgv hl => by have := h.new g hgv; omega)
  refine ⟨cell_of_heap hbox1 rfl, frozen_of_heap hbox1, ⟨heap_setCell_same hbox1 _, hF2.row ho (fun g hgv => by simpa using hv'b g hgv), hmem1.fr hF2 (fun g hg1 hg2 => by simp at hg2; subst hg2; exact box_apart hbox1 hmem1 h1 h2 h3 hg1), hFw.setCell (fun hl => by simp only at hl; omega) _, ?_, ?_⟩, ?_⟩
  · intro b hb
    rcases hf with hf | hf
    · exact h.new b (hf ▸ hb)
    · rw [hf] at hb; cases hb; have := h.fr.size; simp; omega
  · intro b hb
    rcases hf with hf | hf
    · exact h.apart b (hf ▸ hb)
    · rw [hf] at hb
      cases hb
      intro hk
      have := h.mem.lt _ hk
      simp at this
      omega
  · refine ⟨by have := hg.size; simp [World.setCell] at this ⊢; omega, fun q ob _ hq hoc => ?_⟩
    have hql := lt_of_heap hq
    rw [Below.heap_setCell _ _ _ _ (fun e' => by subst e'; rw [h.box] at hq; cases hq; cases hoc), hg.block q (by simp; omega) (fun e' => by obtain ⟨c, hc⟩ := row_cells h.row e'.symm; rw [hc] at hq; cases hq; cases hoc), Below.heap_alloc _ _ _ hql]
    exact hq
theorem putObj_fr (W : World) (l : Nat) (o : Obj) : Fr [l] W (W.putObj l o) := ⟨rfl, rfl, rfl, by simp, fun k _ hn => World.putObj_heap_other (by simpa using hn)⟩
theorem foot_cells {W : World} {mb : Nat} {m : Mem} {wv sv : Value} (h : MemAt W mb m wv sv) {k : Nat} (hk : k ∈ foot mb wv sv) : ∃ c t f, W.heap[k]? = some (.cells c t f) := by
  simp only [foot, List.mem_cons, List.mem_append, Option.mem_toList] at hk
  rcases hk with rfl | hk | hk
  · exact ⟨_, _, _, h.mem⟩
  · obtain ⟨c, hc⟩ := row_heap h.words hk; exact ⟨_, _, _, hc⟩
  · obtain ⟨c, hc⟩ := row_heap h.starts hk; exact ⟨_, _, _, hc⟩
theorem not_cells {W : World} {k l : Nat} {o : Obj} {c : Array Value} {t : TypeId} {f : Nat × Nat} (h1 : W.heap[k]? = some (.cells c t f)) (h2 : W.heap[l]? = some o) (ho : o.isCells = false) : k ≠ l := by
  rintro rfl
  rw [h1] at h2
  cases h2
  cases ho
theorem Gathers.put {w W : World} {bb mb : Nat} {m : Mem} {wv sv : Value} {t e : TypeId} {size k : Nat} {xs : List Value} {v : Value} (h : Gathers w bb mb m wv sv t e size k xs v W) {l : Nat} {o : Obj} (o' : Obj) (hl : w.heap.size ≤ l) (hh : W.heap[l]? = some o) (hc : o.isCells = false) :
    Gathers w bb mb m wv sv t e size k xs v (W.putObj l o') := by
  have hF := putObj_fr W l o'
  refine ⟨hF.heap (by simpa using not_cells h.box hh hc) h.box, hF.row h.row (fun g hg => ?_), h.mem.fr hF (fun g hg => ?_), h.fr.trans' hF (fun _ _ e => by cases e) (fun j hj e => by simp at e; omega), h.new, h.apart⟩
  · obtain ⟨c, hcc⟩ := row_cells h.row hg
    simpa using not_cells hcc hh hc
  · obtain ⟨c, t', f, hcc⟩ := foot_cells h.mem hg
    simpa using not_cells hcc hh hc
theorem Gathers.alloc {w W : World} {bb mb : Nat} {m : Mem} {wv sv : Value} {t e : TypeId} {size k : Nat} {xs : List Value} {v : Value} (h : Gathers w bb mb m wv sv t e size k xs v W) (o : Obj) : Gathers w bb mb m wv sv t e size k xs v (W.alloc o) := by
  have hF : Fr [] W (W.alloc o) := (Fr.refl _ _).alloc o
  exact ⟨hF.heap (by simp) h.box, hF.row h.row (fun _ _ => by simp), h.mem.fr0 hF, h.fr.trans hF, h.new, h.apart⟩
theorem chain_mem {W : List Int} : ∀ {ps : List Nat} {p q : Nat}, Chain W p ps → q ∈ ps → p ≤ q ∧ q < W.length
  | [], _, _, _, h => by cases h
  | r :: rest, p, q, hC, h => by
    obtain ⟨rfl, hlt, z, hz, hz2, hr⟩ := hC
    rcases List.mem_cons.1 h with rfl | h
    · exact ⟨Nat.le_refl _, hlt⟩
    · have := chain_mem hr h; omega
theorem chain_len {W : List Int} : ∀ {ps : List Nat} {p : Nat}, Chain W p ps → ps.length ≤ W.length
  | ps, p, hC => by
    have key : ∀ (ps : List Nat) (p : Nat), Chain W p ps → ps = [] ∨ ps.length + p ≤ W.length := by
      intro ps
      induction ps with
      | nil => exact fun _ _ => .inl rfl
      | cons r rest ih =>
        rintro p ⟨rfl, hlt, z, hz, hz2, hr⟩
        right
        rcases ih _ hr with rfl | h
        · simp; omega
        · simp; omega
    rcases key ps p hC with rfl | h
    · simp
    · omega
theorem mem_of_prefix {pre ps : List Nat} {x : Nat} (h : pre ++ [x] <+: ps) : x ∈ ps := h.subset (by simp)
theorem refsOf_snoc (pre : List Nat) (x : Nat) : refsOf (pre ++ [x]) = refsOf pre ++ [.int .u64 (2 * (x : Int))] := by simp [refsOf]
set_option maxRecDepth 100000 in
set_option maxHeartbeats 2000000 in
theorem objects_lists {w : World} {hv : Value} {mb : Nat} {m : Mem} {wv sv : Value} (hO : Opens hv mb m wv sv (w.alloc (.cells #[.slice none 0 0] 44))) (ps : List Nat) (hC : Chain m.W 1 ps) :
    Calls Tryd.prog 20 #[hv] w (Lists 23 1 ps.length (refsOf ps) w) := by
  unfold Opens at hO
  obtain ⟨i0, hi, hz0, hz1, hz2⟩ := info_parts infoWord
  refine (callsIn_wide (n := 6)).1 ?_
  refine callsIn_of_wp_marks Tryd.func20 rfl trivial ?_ rfl
  simp only [Tryd.ntmps20, List.size_toArray, List.length_cons, List.length_nil, Nat.reduceAdd, Nat.reduceSub, Array.replicate_succ, Array.replicate_zero, List.push_toArray, List.append_toArray, List.nil_append, List.cons_append]
  gi_wp2_with (refine ⟨trivial, ?_⟩; gi_at_call 23; refine (callsIn_wide.2 hO).mono ?_; rintro e w1 ⟨rfl, hM, hF⟩; have HM := Lib.hid hM; have HF := Lib.hid hF; clear hM hF)
  have hb0 : w1.heap[w.heap.size]? = some (.cells #[.slice none 0 0] 44 (0, 0)) := HF.out.heap (by simp) (heap_new w _)
  have hF0 : Fr [] w w1 := ((Fr.refl [] w).alloc _).trans HF.out
  refine wpIn_range_bound (xs := ps) rfl (by omega) (gf := 37) (rv := .pointer (some ⟨mb, 0, none⟩)) rfl trivial (enters_of Tryd.func37 (by kernel_rfl) rfl) (objects_yields 5 (by omega) (wv := wv) (sv := sv) ps hC) (fun _ => rfl)
    (fun pre W => ∃ v, Gathers w w.heap.size mb m wv sv 44 23 1 pre.length (refsOf pre) v W) (fun _ _ => False) (fun pre W ⟨v, h⟩ => h.mem) ?_ ?_ ?_ ?_
    (fun x => { tmps := #[hv, undef, .slice none 0 0, .pointer (some ⟨w.heap.size, 0, none⟩), .int .i64 x, undef, undef, hv, .pointer (some ⟨mb, 0, none⟩), .func (.func 37) #[.pointer (some ⟨mb, 0, none⟩)] #[], .int .i64 x, undef, undef, undef, undef, undef, undef, undef, undef, undef, undef], defers := [] }) ?assign ?body ?done ?stop
  · exact fun pre W l o o' hl hh hc ⟨v, h⟩ => ⟨v, h.put o' (Nat.le_trans hF0.size hl) hh hc⟩
  · exact fun _ _ _ _ _ _ _ _ h => h
  · exact fun W o ⟨v, h⟩ => ⟨v, h.alloc o⟩
  · exact ⟨_, hb0, World.ownsRow_nil _ _ _ _, HM.out, hF0, (fun _ h => by cases h), (fun _ h => by cases h)⟩
  case assign =>
    intro l x W K hK
    gi_wp2
    exact hK
  case body =>
    rintro l pre x W ⟨v, hG⟩ hpre -
    have hx := chain_mem hC (mem_of_prefix hpre)
    have hmost := HM.out.most
    have hpl : pre.length ≤ 65536 := by have := hpre.length_le; have := chain_len hC; simp at *; omega
    have hr := wordFromRef x W (by omega) (by omega)
    have hbox := cell_of_heap (o := 0) hG.box rfl
    obtain ⟨ao, cap, rfl⟩ := row_shape hG.row
    have HG := Lib.hid hG
    have HGA := Lib.hid (hG.alloc (.cells #[.int .u64 (2 * (x : Int))] 23))
    have hbox2 := cell_of_heap (o := 0) HGA.out.box rfl
    clear hG hpre hC
    gi_wp2_with (first
      | (refine ⟨trivial, ?_⟩; gi_at_call 26; refine (CallsIn.inRound l (callsIn_wide.2 hr)).mono ?_; rintro e w' ⟨rfl, rfl⟩)
      | (gi_at_builtin; refine wpListIn_append_at _ rfl (.tmp 16) (.tmp 18) 44 rfl 23 i0 (.int .u64 0) 1 8 Tryd.underlying44 hi hz0 hz1 hz2 rfl (by decide) (.slice ao pre.length cap) pre.length _ rfl HGA.out.row ⟨W.heap.size, 0, none⟩ 1 1 [.int .u64 (2 * (x : Int))] rfl rfl (cell1 (by simp)) (by simp [Value.oneCell']) (by unfold maxLen; omega) (by omega) ?_; intro v' w2 ho hg hf; obtain ⟨a2, c2, rfl⟩ := row_shape ho; have hst := HG.out.step (Nat.le_refl _) (by decide) (by decide) (by decide) (by decide) ho hg hf w1.heap.size; have hc1 := hst.1; have hf1 := hst.2.1; have HST := Lib.hid hst.2.2; clear hst ho hg hf))
    exact ⟨HST.out.2, _, by rw [refsOf_snoc, List.length_append]; exact HST.out.1⟩
  case done =>
    rintro D W hD ⟨v, hG⟩ hK
    have hbox := cell_of_heap (o := 0) hG.box rfl
    have HG := Lib.hid hG
    obtain ⟨ao, cap, rfl⟩ := row_shape hG.row
    clear hG
    gi_wp2
    refine ⟨by simp, .inl ⟨_, _, rfl, run_takeDeferred hK, ?_⟩⟩
    have h2 := HG.out.put (.deferred none) (Nat.le_trans hF0.size hD) hK rfl
    exact ⟨_, results_tmp rfl _ _ _, .slice ao ps.length cap, rfl, h2.row, h2.fr, h2.new⟩
  case stop =>
    rintro D pre W _ _ h _
    exact h.elim
end Go.Proofs.YtfcigjicikpabaaDoor
