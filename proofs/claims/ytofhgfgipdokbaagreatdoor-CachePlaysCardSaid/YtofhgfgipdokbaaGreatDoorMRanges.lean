/- A range over a method value whose receiver is bound ('for at := range m.objects'): a law for the walk, over any program: what holds between two rounds, what a round that goes on or returns leaves. The memory's objects, ranged over: it yields the places where objects begin, in order. The heap's Objects: references to all objects, in order, in a new row. The memory's fields; slices.Clone. A region that draws its order inside a round of a range over a function: the laws of the plain walk serve there, too. A region that draws its order and ends with one write: what is read of worlds that meet S may be read first, where only the last operation need not keep S. A heap that the call made, through the calls of its methods: what its memory is, and that nothing older has changed. -/
import Derived.Test.YtofhgfgipdokbaaGreatDoorMBase
import Derived.Test.YtofhgfgipdokbaaGreatDoorMHeaps
import Derived.RangeFuncNested
import Derived.RangeFuncCalls
import Derived.RangeFuncLeaves
import Derived.RangeFuncWrites
import Derived.OwnWalkIn
import Derived.TacticsInMore
import Derived.LoopNIn
import Derived.LoopIn
import Derived.Shelf.Abstract
import Derived.Shelf.RegionOpen
import Derived.Deep.RegionHeld3
import Derived.Deep.AppendLies
namespace Go.Proofs.YtofhgfgipdokbaaGreatDoor
open Go.RowKit
variable {F : Fence} {n : Nat} {P : Program}

/-- how a round may end: it goes on, or it returns out of the function -/
def RoundEnds {α : Type} (B : Nat) (I Ix : List α → World → Prop) (xs : List α) (W : World) : Exit → Act → World → Prop
  | .normal, _, W' => KeepsFrom B W W' ∧ I xs W'
  | .ret, _, W' => KeepsFrom B W W' ∧ Ix xs W'
  | _, _, _ => False
/-- a statement about worlds that does not look at what is no cells, from block B on -/
def Blind {α : Type} (B : Nat) (I : List α → World → Prop) : Prop := ∀ pre W l o o', B ≤ l → W.heap[l]? = some o → o.isCells = false → I pre W → I pre (W.putObj l o')
/-- what a method that is ranged over promises: it yields xs one by one, in worlds of which R holds, till a round says no -/
def Yields {α : Type} (F : Fence) (n : Nat) (P : Program) (gf : Nat) (rv : Value) (encs : α → Array Value) (R : World → Prop) (xs : List α) : Prop :=
  ∀ (l : Nat) (J Jx : List α → World → Prop) (W : World), (∀ pre W1, J pre W1 → R W1) →
    (∀ pre x W1, J pre W1 → pre ++ [x] <+: xs → YieldAt F (n - 1) P l (encs x) W1 fun e W' => (e = .returned (.bool true) ∧ J (pre ++ [x]) W') ∨ (e = .returned (.bool false) ∧ Jx (pre ++ [x]) W')) →
    J [] W → CallsIn F n P gf #[rv, .func (.yield l) #[] #[]] W fun e W' => (∃ v, e = .returned v) ∧ (J xs W' ∨ ∃ pre, pre <+: xs ∧ Jx pre W')

set_option maxHeartbeats 1000000 in
theorem wpIn_range_bound {α : Type} {g : Operand} {ps : Array Tmp} {assign body : Code} {Q : Exit → Act → World → Prop} {a : Act} {w : World}
    (hro : F.round = none) (h1 : 1 ≤ n) {gf : Nat} {rv : Value} (hg : a.eval g = .func (.func gf) #[rv] #[]) (hFg : F.fn gf) (eg : ∀ args w, (callFunc gf args).run P w = .ok (.enter gf args) w)
    {encs : α → Array Value} {R : World → Prop} {xs : List α} (hseq : Yields F (n - 1) P gf rv encs R xs) (hps : ∀ x, (encs x).size = ps.size)
    (I Ix : List α → World → Prop) (hR : ∀ pre W, I pre W → R W) (hI : Blind w.heap.size I) (hIx : Blind w.heap.size Ix) (hal : ∀ W o, I [] W → I [] (W.alloc o)) (h0 : I [] w) (a₁ : α → Act)
    (hassign : ∀ (l : Nat) (x : α) (W : World) (K : Act → World → Prop), K (a₁ x) W →
      assign.wpIn (F.inRound l) (n - 1 - 1) P (Exit.then K (fun _ _ _ => False)) { tmps := (ps.zip (encs x)).foldl (fun t (p, v) => t.setIfInBounds p v) a.tmps, defers := [] } W)
    (hbody : ∀ (l : Nat) (pre : List α) (x : α) (W : World), I pre W → pre ++ [x] <+: xs → w.heap.size + 1 < W.heap.size → body.wpIn (F.inRound l) (n - 1 - 1) P (RoundEnds w.heap.size I Ix (pre ++ [x]) W) (a₁ x) W)
    (hdone : ∀ (D : Nat) (W : World), w.heap.size ≤ D → I xs W → W.heap[D]? = some (.deferred (some [])) → Q .normal { a with defers := { target := .collected D, args := #[] } :: a.defers } W)
    (hstop : ∀ (D : Nat) (pre : List α) (W : World), w.heap.size ≤ D → pre <+: xs → Ix pre W → W.heap[D]? = some (.deferred (some [])) → Code.ret.wpIn F n P Q { a with defers := { target := .collected D, args := #[] } :: a.defers } W) :
    (Code.rangeFunc g ps assign body).wpIn F n P Q a w := by
  refine wpIn_rangeFunc fun fn hfn => ?_
  rw [hro]
  -- the loop's record, in its states; the world in which the method is called
  obtain ⟨rc, hrc⟩ : ∃ rc : LoopState → Option Code → Loop, rc = fun st pe => { state := st, pending := pe, fn, tmps := a.tmps, params := ps, assign, body, defers := w.heap.size } := ⟨_, rfl⟩
  have hD0 : ((w.alloc (.deferred (some []))).alloc (.loop (rc .ready none))).heap[w.heap.size]? = some (.deferred (some [])) :=
    (Below.heap_alloc _ _ _ (by simp)).trans (heap_new w _)
  have hL0 : ((w.alloc (.deferred (some []))).alloc (.loop (rc .ready none))).heap[w.heap.size + 1]? = some (.loop (rc .ready none)) := by
    have := heap_new (w.alloc (.deferred (some []))) (.loop (rc .ready none))
    simpa using this
  have hI0 : I [] ((w.alloc (.deferred (some []))).alloc (.loop (rc .ready none))) := hal _ _ (hal _ _ h0)
  have hin : (Instr.enterLoop fn a.tmps ps assign body none).run P w = .ok (w.heap.size + 1, [{ target := .collected w.heap.size, args := #[] }]) ((w.alloc (.deferred (some []))).alloc (.loop (rc .ready none))) := by
    rw [hrc]; exact run_enterLoop_outer _ _ _ _ _
  generalize (w.alloc (.deferred (some []))).alloc (.loop (rc .ready none)) = W0 at hD0 hL0 hI0 hin
  refine ⟨_, _, W0, { target := .fn (.func gf) #[], args := #[rv, .func (.yield (w.heap.size + 1)) #[] #[]] }, W0, gf, #[rv, .func (.yield (w.heap.size + 1)) #[] #[]], W0, hin, ?_, ?_, ?_, fun _ => h1, ?_⟩
  · simp only [resolve, hg]
    simp [go_sem]
  · intro f' hf'
    simp [Target.leads] at hf'
    subst hf'
    exact hFg
  · simp [invoke, go_sem, eg]
  refine (hseq (w.heap.size + 1)
    (fun pre W => I pre W ∧ W.heap[w.heap.size + 1]? = some (.loop (rc .ready none)) ∧ W.heap[w.heap.size]? = some (.deferred (some [])))
    (fun pre W => Ix pre W ∧ W.heap[w.heap.size + 1]? = some (.loop (rc .done (some .ret))) ∧ W.heap[w.heap.size]? = some (.deferred (some [])))
    W0 (fun pre W1 h => hR pre W1 h.1) ?_ ⟨hI0, hL0, hD0⟩).mono ?_
  · rintro pre x W ⟨hi, hl, hk⟩ hpre
    have hlt : w.heap.size + 1 < W.heap.size := lt_of_heap hl
    have hy := run_yield (P := P) (args := encs x) hl (by rw [hrc]; exact hps x)
    rw [hrc] at hy
    refine ⟨fn, _, assign, body, hy, roundIn_of_wpIn hfn (hassign _ x W _ ⟨_, run_beginRound hl (by rw [hrc]), ?_⟩)⟩
    have hb := hbody (w.heap.size + 1) pre x _ (hI pre W (w.heap.size + 1) _ (.loop { rc .ready none with state := .busy }) (by omega) hl rfl hi) hpre (by simpa [World.putObj] using hlt)
    have hl2 : (W.putObj (w.heap.size + 1) (.loop { rc .ready none with state := .busy })).heap[w.heap.size + 1]? = some (.loop { rc .ready none with state := .busy }) := World.putObj_heap_same hlt
    have hk2 : (W.putObj (w.heap.size + 1) (.loop { rc .ready none with state := .busy })).heap[w.heap.size]? = some (.deferred (some [])) := (World.putObj_heap_other (by omega)).trans hk
    refine wpIn_mono hb ?_
    intro e a3 W3 hp
    have hends : ∀ jump : Option Code, KeepsFrom w.heap.size (W.putObj (w.heap.size + 1) (.loop { rc .ready none with state := .busy })) W3 →
        ∃ W4, (Instr.endRound (w.heap.size + 1) jump).run P W3 = .ok (.bool jump.isNone) W4 ∧ (∀ J : List α → World → Prop, Blind w.heap.size J → ∀ p, J p W3 → J p W4) ∧
          W4.heap[w.heap.size + 1]? = some (.loop (rc (if jump.isNone then .ready else .done) jump)) ∧ W4.heap[w.heap.size]? = some (.deferred (some [])) := by
      intro jump hk3
      have hl3 := hk3.same _ _ (by omega) hl2 rfl
      have hr3 := run_endRound (P := P) jump hl3
      refine ⟨_, hr3, fun J hJ p hj => hJ p W3 _ _ _ (by omega) hl3 rfl hj, ?_, (World.putObj_heap_other (by omega)).trans (hk3.same _ _ (Nat.le_refl _) hk2 rfl)⟩
      rw [World.putObj_heap_same (lt_of_heap hl3), hrc]
    cases e with
    | normal =>
      obtain ⟨hk3, hi3⟩ := hp
      obtain ⟨W4, hr, hJ, hl4, hk4⟩ := hends none hk3
      exact ⟨_, W4, hr, .inl ⟨rfl, hJ I hI _ hi3, hl4, hk4⟩⟩
    | ret =>
      obtain ⟨hk3, hi3⟩ := hp
      obtain ⟨W4, hr, hJ, hl4, hk4⟩ := hends (some .ret) hk3
      exact ⟨_, W4, hr, .inr ⟨rfl, hJ Ix hIx _ hi3, hl4, hk4⟩⟩
    | exit id => exact hp.elim
    | goto t => exact hp.elim
    | panic ch => exact hp.elim
    | outgrown => exact hp.elim
  · rintro e W2 ⟨⟨v, rfl⟩, (⟨hi, hl, hk⟩ | ⟨pre, hpre, hi, hl, hk⟩)⟩
    · have he := run_endLoop (P := P) hl (by rw [hrc]; simp)
      exact ⟨none, _, by rw [he, hrc], hdone _ _ (Nat.le_refl _) (hI _ _ _ _ _ (by omega) hl rfl hi) ((World.putObj_heap_other (by omega)).trans hk)⟩
    · have he := run_endLoop (P := P) hl (by rw [hrc]; simp)
      exact ⟨some .ret, _, by rw [he, hrc], hstop _ pre _ (Nat.le_refl _) hpre (hIx _ _ _ _ _ (by omega) hl rfl hi) ((World.putObj_heap_other (by omega)).trans hk)⟩
end Go.Proofs.YtofhgfgipdokbaaGreatDoor
namespace Go.Proofs.YtofhgfgipdokbaaGreatDoor
open Go.RowKit
attribute [local go_sem] Oper.semAt_some

/-- the places where objects begin, from p on -/
def Chain (W : List Int) : Nat → List Nat → Prop
  | p, [] => W.length ≤ p
  | p, q :: rest => q = p ∧ p < W.length ∧ ∃ z : Nat, W[p + 2]? = some (z : Int) ∧ z ≤ 65536 ∧ Chain W (p + 3 + z) rest

set_option maxRecDepth 100000 in
set_option maxHeartbeats 1000000 in
theorem objects_yields (n : Nat) (hn : 1 ≤ n) {mb : Nat} {m : Mem} {wv sv : Value} (ps : List Nat) (hC : Chain m.W 1 ps) : Yields Fence.wide n Tryz.prog 29 (.pointer (some ⟨mb, 0, none⟩)) (fun p : Nat => #[Value.int .i64 p]) (fun W => MemAt W mb m wv sv) ps := by
  intro l J Jx W hR hY h0
  have HR := Lib.hid hR
  have HY := Lib.hid hY
  clear hR hY
  refine callsIn_of_wp Tryz.func29 rfl trivial ?_ rfl
  simp only [Tryz.ntmps29, List.size_toArray, List.length_cons, List.length_nil, Nat.reduceAdd, Nat.reduceSub, Array.replicate_succ, Array.replicate_zero, List.push_toArray, List.append_toArray, List.nil_append, List.cons_append]
  gi_wp2
  gi_loopw [4] (fun v wr => ∃ (pre rest : List Nat) (p : Nat), v = .int .i64 p ∧ Hid (ps = pre ++ rest) ∧ Hid (Chain m.W p rest) ∧ Hid (J pre wr)) (fun v _ => m.W.length - (intOf v).toNat)
  case atStart => exact ⟨[], ps, 1, rfl, rfl, hC, h0⟩
  case round =>
    obtain ⟨pre, rest, p, rfl, hx, hch, hJ⟩ := hrel
    have hM := HR.out pre wr hJ.out
    obtain ⟨ao, cap, rfl⟩ := row_shape hM.words
    have hw := hM.cell.2.1
    have hmost := hM.most
    cases rest with
    | nil =>
      have hle : m.W.length ≤ p := hch.out
      have HM := Lib.hid hM
      clear hM
      gi_wp2
      go_end0
      exact ⟨⟨_, rfl⟩, .inl (by have := hJ.out; rw [hx.out, List.append_nil]; exact this)⟩
    | cons q rest =>
      obtain ⟨rfl, hlt, z, hz, hz2, hch2⟩ := hch.out
      obtain ⟨fn, tmps, assign, body, hy, hRd⟩ := HY.out pre q wr hJ.out (by rw [hx.out]; exact ⟨rest, by simp⟩)
      have HZ := Lib.hid hz
      have HC2 := Lib.hid hch2
      clear hM hz hch2 hch
      gi_wp2
      refine hRd.mono ?_
      rintro e W3 (⟨rfl, hJ3⟩ | ⟨rfl, hJx3⟩)
      · have hM3 := HR.out (pre ++ [q]) W3 hJ3
        have hs := size_gives hM3 q z HZ.out hz2
        have HJ3 := Lib.hid hJ3
        clear hM3 hJ3
        gi_wp2_with (refine ⟨trivial, ?_⟩; gi_at_call 48; refine (callsIn_wide.2 hs).mono ?_; rintro e w' ⟨rfl, rfl⟩)
        go_roundw
        case rel => exact ⟨pre ++ [q], rest, q + 3 + z, by go_num, by rw [hx.out]; simp [Hid], HC2, HJ3⟩
        case measure => simp [intOf]; omega
      · gi_wp2
        refine bodyPost_ret (results_none rfl _ _ _) rfl ?_
        exact ⟨⟨_, rfl⟩, .inr ⟨pre ++ [q], by rw [hx.out]; exact ⟨rest, by simp⟩, hJx3⟩⟩
end Go.Proofs.YtofhgfgipdokbaaGreatDoor
namespace Go.Proofs.YtofhgfgipdokbaaGreatDoor
open Go.RowKit Go.Shelf
attribute [local go_sem] Oper.semAt_some

/-- the references of places -/
def refsOf (ps : List Nat) : List Value := ps.map fun p : Nat => Value.int .u64 (2 * (p : Int))
/-- Returned a slice of these cells, in new memory. -/
def Lists (e : TypeId) (size : Nat) (k : Nat) (xs : List Value) (w : World) (en : Ending) (w' : World) : Prop :=
  ∃ v, en = .returned v ∧ w'.ownsRow 0 e size v k xs ∧ Fr [] w w' ∧ ∀ b, v.ownBlock = some b → w.heap.size ≤ b
theorem wpListIn_append_at {F : Fence} {n : Nat} {P : Program} (w : World) {ops : Array Oper} {rest : List Oper} {o : Oper} {a : Act} {Q : Exit → Act → World → Prop}
    (hg : o.guard = none) (s x : Operand) (t : TypeId) (hop : o.op = Op.call { callee := Callee.builtin Builtin.append, args := #[s, x], argTypes := #[t, t] })
    (e : TypeId) (i : TypeInfo) (z : Value) (size bytes : Nat) (h1 : P.underlying t = some (.slice e)) (h2 : P.info? e = some i) (h3 : i.zero = some z) (h4 : i.size = size) (h5 : i.bytes = bytes) (h6 : z.cells.size = size) (h7 : 0 < size)
    (v : Value) (k : Nat) (xs : List Value) (hs : a.eval s = v) (hown : w.ownsRow 0 e size v k xs) (ad : Addr) (m c : Nat) (news : List Value) (hx : a.eval x = .slice (some ad) m c) (hn : news.length = m * size)
    (hc : ∀ j u, news[j]? = some u → w.cell? (ad.add j) = some u) (h1c : ∀ u ∈ news, u.oneCell' = true) (b1 : k + m ≤ maxLen) (b2 : (k + m) * bytes ≤ 140737488355328)
    (hK : ∀ v' w', w'.ownsRow 0 e size v' (k + m) (xs ++ news) → w.grownBy w' v.ownBlock → (v'.ownBlock = v.ownBlock ∨ v'.ownBlock = some w.heap.size) → wpListIn F n P ops Q rest (a.put o.dst v') w') :
    wpListIn F n P ops Q (o :: rest) a w := by
  refine wpListIn_plain hg fun K hK' => ?_
  obtain ⟨v', w', hrun, r1, r2, r3⟩ := run_append_at (P := P) w t o.type e i z size bytes h1 h2 h3 h4 h5 h6 h7 v k xs hown ad m c news hn hc h1c b1 b2
  unfold Oper.wpIn
  refine ⟨?_, ?_⟩
  · simp [Oper.about, hop, resolve, Target.leads, Sem.run_pure]
  · rw [Oper.semAt_plain F _ _ (by rw [hop]; intro c hc'; cases hc')]
    simp [execOp, hop, resolve, invoke, builtin, hs, hx, hrun, Result.andThen]
    exact hK' _ _ (hK v' w' r1 r2 r3)
theorem row_cells {w : World} {b size : Nat} {e : TypeId} {v : Value} {n : Nat} {xs : List Value} (h : w.ownsRow b e size v n xs) {g : Nat} (hg : v.ownBlock = some g) : ∃ cur, w.heap[g]? = some (.cells cur e (0, 0)) := by
  rcases h.2 with ⟨rfl, rfl⟩ | ⟨g', cap, cur, rfl, hb, hh, _⟩
  · cases hg
  · cases hg; exact ⟨cur, hh⟩
/-- the row under way: its variable's box, its cells, the memory that is gone through -/
structure Gathers (w : World) (bb mb : Nat) (m : Mem) (wv sv : Value) (t e : TypeId) (size k : Nat) (xs : List Value) (v : Value) (W : World) : Prop where
  box : W.heap[bb]? = some (.cells #[v] t (0, 0))
  row : W.ownsRow 0 e size v k xs
  mem : MemAt W mb m wv sv
  fr : Fr [] w W
  new : ∀ b, v.ownBlock = some b → w.heap.size ≤ b
  apart : ∀ b, v.ownBlock = some b → b ∉ foot mb wv sv
theorem box_apart {W : World} {bb mb : Nat} {m : Mem} {wv sv v : Value} {t : TypeId} (hb : W.heap[bb]? = some (.cells #[v] t (0, 0))) (hM : MemAt W mb m wv sv) (h1 : t ≠ 101) (h2 : t ≠ 24) (h3 : t ≠ 4) : bb ∉ foot mb wv sv := by
  intro hk
  simp only [foot, List.mem_cons, List.mem_append, Option.mem_toList] at hk
  rcases hk with rfl | hk | hk
  · exact tag_ne hb hM.mem h1 rfl
  · obtain ⟨c, hc⟩ := row_heap hM.words hk; exact tag_ne hb hc h2 rfl
  · obtain ⟨c, hc⟩ := row_heap hM.starts hk; exact tag_ne hb hc h3 rfl
theorem Gathers.step {w W w1 : World} {bb mb : Nat} {m : Mem} {wv sv : Value} {t e : TypeId} {size k j : Nat} {xs news : List Value} {v v' : Value} {o : Obj}
    (h : Gathers w bb mb m wv sv t e size k xs v W) (hbb : w.heap.size ≤ bb) (hte : t ≠ e) (h1 : t ≠ 101) (h2 : t ≠ 24) (h3 : t ≠ 4)
    (ho : w1.ownsRow 0 e size v' (k + j) (xs ++ news)) (hg : (W.alloc o).grownBy w1 v.ownBlock) (hf : v'.ownBlock = v.ownBlock ∨ v'.ownBlock = some (W.alloc o).heap.size) (B : Nat) :
    w1.cell? ⟨bb, 0, none⟩ = some v ∧ w1.frozen? ⟨bb, 0, none⟩ = false ∧ Gathers w bb mb m wv sv t e size (k + j) (xs ++ news) v' (w1.setCell ⟨bb, 0, none⟩ v') ∧ KeepsFrom B W (w1.setCell ⟨bb, 0, none⟩ v') := by
  have hvb : ∀ g, v.ownBlock = some g → g ≠ bb := by
    intro g hgv
    obtain ⟨c, hc⟩ := row_cells h.row hgv
    exact fun e' => tag_ne h.box hc hte e'.symm
  have hbox1 : w1.heap[bb]? = some (.cells #[v] t (0, 0)) := by
    rw [hg.block bb (by have := lt_of_heap h.box; simp; omega) (fun e' => hvb bb e'.symm rfl), Below.heap_alloc _ _ _ (lt_of_heap h.box)]
    exact h.box
  have hmem1 : MemAt w1 mb m wv sv := by
    have hM' := h.mem.fr0 ((Fr.refl [] W).alloc o)
    have hF1 : Fr (v.ownBlock.toList) (W.alloc o) w1 := (Fr.refl _ _).grown hg (fun g hgv _ => by simp [hgv])
    exact hM'.fr hF1 (fun g hg1 hg2 => by simp at hg2; exact h.apart g hg2 hg1)
  have hv'b : ∀ g, v'.ownBlock = some g → g ≠ bb := by
    intro g hgv
    obtain ⟨c, hc⟩ := row_cells ho hgv
    exact fun e' => tag_ne hbox1 hc hte e'.symm
  have hF2 : Fr [bb] w1 (w1.setCell ⟨bb, 0, none⟩ v') := (Fr.refl _ _).setCell (fun _ => by simp) _
  have hFw : Fr [] w w1 := (h.fr.alloc o).grown hg (fun g hgv hl => by have := h.new g hgv; omega)
  refine ⟨cell_of_heap hbox1 rfl, frozen_of_heap hbox1, ⟨heap_setCell_same hbox1 _, hF2.row ho (fun g hgv => by simpa using hv'b g hgv), hmem1.fr hF2 (fun g hg1 hg2 => by simp at hg2; subst hg2; exact box_apart hbox1 hmem1 h1 h2 h3 hg1), hFw.setCell (fun hl => by simp only at hl; omega) _, ?_, ?_⟩, ?_⟩
  · intro b hb
    rcases hf with hf | hf
    · exact h.new b (hf ▸ hb)
    · rw [hf] at hb; cases hb; have := h.fr.size; simp; omega
  · intro b hb
    rcases hf with hf | hf
    · exact h.apart b (hf ▸ hb)
    · rw [hf] at hb
      cases hb
      intro hk
      have := h.mem.lt _ hk
      simp at this
      omega
  · refine ⟨by have := hg.size; simp [World.setCell] at this ⊢; omega, fun q ob _ hq hoc => ?_⟩
    have hql := lt_of_heap hq
    rw [Below.heap_setCell _ _ _ _ (fun e' => by subst e'; rw [h.box] at hq; cases hq; cases hoc), hg.block q (by simp; omega) (fun e' => by obtain ⟨c, hc⟩ := row_cells h.row e'.symm; rw [hc] at hq; cases hq; cases hoc), Below.heap_alloc _ _ _ hql]
    exact hq
theorem putObj_fr (W : World) (l : Nat) (o : Obj) : Fr [l] W (W.putObj l o) := ⟨rfl, rfl, rfl, by simp, fun k _ hn => World.putObj_heap_other (by simpa using hn)⟩
theorem foot_cells {W : World} {mb : Nat} {m : Mem} {wv sv : Value} (h : MemAt W mb m wv sv) {k : Nat} (hk : k ∈ foot mb wv sv) : ∃ c t f, W.heap[k]? = some (.cells c t f) := by
  simp only [foot, List.mem_cons, List.mem_append, Option.mem_toList] at hk
  rcases hk with rfl | hk | hk
  · exact ⟨_, _, _, h.mem⟩
  · obtain ⟨c, hc⟩ := row_heap h.words hk; exact ⟨_, _, _, hc⟩
  · obtain ⟨c, hc⟩ := row_heap h.starts hk; exact ⟨_, _, _, hc⟩
theorem not_cells {W : World} {k l : Nat} {o : Obj} {c : Array Value} {t : TypeId} {f : Nat × Nat} (h1 : W.heap[k]? = some (.cells c t f)) (h2 : W.heap[l]? = some o) (ho : o.isCells = false) : k ≠ l := by
  rintro rfl
  rw [h1] at h2
  cases h2
  cases ho
theorem Gathers.put {w W : World} {bb mb : Nat} {m : Mem} {wv sv : Value} {t e : TypeId} {size k : Nat} {xs : List Value} {v : Value} (h : Gathers w bb mb m wv sv t e size k xs v W) {l : Nat} {o : Obj} (o' : Obj) (hl : w.heap.size ≤ l) (hh : W.heap[l]? = some o) (hc : o.isCells = false) :
    Gathers w bb mb m wv sv t e size k xs v (W.putObj l o') := by
  have hF := putObj_fr W l o'
  refine ⟨hF.heap (by simpa using not_cells h.box hh hc) h.box, hF.row h.row (fun g hg => ?_), h.mem.fr hF (fun g hg => ?_), h.fr.trans' hF (fun _ _ e => by cases e) (fun j hj e => by simp at e; omega), h.new, h.apart⟩
  · obtain ⟨c, hcc⟩ := row_cells h.row hg
    simpa using not_cells hcc hh hc
  · obtain ⟨c, t', f, hcc⟩ := foot_cells h.mem hg
    simpa using not_cells hcc hh hc
theorem Gathers.alloc {w W : World} {bb mb : Nat} {m : Mem} {wv sv : Value} {t e : TypeId} {size k : Nat} {xs : List Value} {v : Value} (h : Gathers w bb mb m wv sv t e size k xs v W) (o : Obj) : Gathers w bb mb m wv sv t e size k xs v (W.alloc o) := by
  have hF : Fr [] W (W.alloc o) := (Fr.refl _ _).alloc o
  exact ⟨hF.heap (by simp) h.box, hF.row h.row (fun _ _ => by simp), h.mem.fr0 hF, h.fr.trans hF, h.new, h.apart⟩
theorem chain_mem {W : List Int} : ∀ {ps : List Nat} {p q : Nat}, Chain W p ps → q ∈ ps → p ≤ q ∧ q < W.length
  | [], _, _, _, h => by cases h
  | r :: rest, p, q, hC, h => by
    obtain ⟨rfl, hlt, z, hz, hz2, hr⟩ := hC
    rcases List.mem_cons.1 h with rfl | h
    · exact ⟨Nat.le_refl _, hlt⟩
    · have := chain_mem hr h; omega
theorem chain_len {W : List Int} : ∀ {ps : List Nat} {p : Nat}, Chain W p ps → ps.length ≤ W.length
  | ps, p, hC => by
    have key : ∀ (ps : List Nat) (p : Nat), Chain W p ps → ps = [] ∨ ps.length + p ≤ W.length := by
      intro ps
      induction ps with
      | nil => exact fun _ _ => .inl rfl
      | cons r rest ih =>
        rintro p ⟨rfl, hlt, z, hz, hz2, hr⟩
        right
        rcases ih _ hr with rfl | h
        · simp; omega
        · simp; omega
    rcases key ps p hC with rfl | h
    · simp
    · omega
theorem mem_of_prefix {pre ps : List Nat} {x : Nat} (h : pre ++ [x] <+: ps) : x ∈ ps := h.subset (by simp)
theorem refsOf_snoc (pre : List Nat) (x : Nat) : refsOf (pre ++ [x]) = refsOf pre ++ [.int .u64 (2 * (x : Int))] := by simp [refsOf]
set_option maxRecDepth 100000 in
set_option maxHeartbeats 2000000 in
theorem objects_lists {w : World} {hv : Value} {mb : Nat} {m : Mem} {wv sv : Value} (hO : Opens hv mb m wv sv (w.alloc (.cells #[.slice none 0 0] 38))) (ps : List Nat) (hC : Chain m.W 1 ps) :
    Calls Tryz.prog 8 #[hv] w (Lists 24 1 ps.length (refsOf ps) w) := by
  unfold Opens at hO
  obtain ⟨i0, hi, hz0, hz1, hz2⟩ := info_parts infoWord
  refine (callsIn_wide (n := 6)).1 ?_
  refine callsIn_of_wp_marks Tryz.func8 rfl trivial ?_ rfl
  simp only [Tryz.ntmps8, List.size_toArray, List.length_cons, List.length_nil, Nat.reduceAdd, Nat.reduceSub, Array.replicate_succ, Array.replicate_zero, List.push_toArray, List.append_toArray, List.nil_append, List.cons_append]
  gi_wp2_with (refine ⟨trivial, ?_⟩; gi_at_call 28; refine (callsIn_wide.2 hO).mono ?_; rintro e w1 ⟨rfl, hM, hF⟩; have HM := Lib.hid hM; have HF := Lib.hid hF; clear hM hF)
  have hb0 : w1.heap[w.heap.size]? = some (.cells #[.slice none 0 0] 38 (0, 0)) := HF.out.heap (by simp) (heap_new w _)
  have hF0 : Fr [] w w1 := ((Fr.refl [] w).alloc _).trans HF.out
  refine wpIn_range_bound (xs := ps) rfl (by omega) (gf := 29) (rv := .pointer (some ⟨mb, 0, none⟩)) rfl trivial (enters_of Tryz.func29 (by kernel_rfl) rfl) (objects_yields 5 (by omega) (wv := wv) (sv := sv) ps hC) (fun _ => rfl)
    (fun pre W => ∃ v, Gathers w w.heap.size mb m wv sv 38 24 1 pre.length (refsOf pre) v W) (fun _ _ => False) (fun pre W ⟨v, h⟩ => h.mem) ?_ ?_ ?_ ?_
    (fun x => { tmps := #[hv, undef, .slice none 0 0, .pointer (some ⟨w.heap.size, 0, none⟩), .int .i64 x, undef, undef, hv, .pointer (some ⟨mb, 0, none⟩), .func (.func 29) #[.pointer (some ⟨mb, 0, none⟩)] #[], .int .i64 x, undef, undef, undef, undef, undef, undef, undef, undef, undef, undef], defers := [] }) ?assign ?body ?done ?stop
  · exact fun pre W l o o' hl hh hc ⟨v, h⟩ => ⟨v, h.put o' (Nat.le_trans hF0.size hl) hh hc⟩
  · exact fun _ _ _ _ _ _ _ _ h => h
  · exact fun W o ⟨v, h⟩ => ⟨v, h.alloc o⟩
  · exact ⟨_, hb0, World.ownsRow_nil _ _ _ _, HM.out, hF0, (fun _ h => by cases h), (fun _ h => by cases h)⟩
  case assign =>
    intro l x W K hK
    gi_wp2
    exact hK
  case body =>
    rintro l pre x W ⟨v, hG⟩ hpre -
    have hx := chain_mem hC (mem_of_prefix hpre)
    have hmost := HM.out.most
    have hpl : pre.length ≤ 65536 := by have := hpre.length_le; have := chain_len hC; simp at *; omega
    have hr := wordFromRef x W (by omega) (by omega)
    have hbox := cell_of_heap (o := 0) hG.box rfl
    obtain ⟨ao, cap, rfl⟩ := row_shape hG.row
    have HG := Lib.hid hG
    have HGA := Lib.hid (hG.alloc (.cells #[.int .u64 (2 * (x : Int))] 24))
    have hbox2 := cell_of_heap (o := 0) HGA.out.box rfl
    clear hG hpre hC
    gi_wp2_with (first
      | (refine ⟨trivial, ?_⟩; gi_at_call 30; refine (CallsIn.inRound l (callsIn_wide.2 hr)).mono ?_; rintro e w' ⟨rfl, rfl⟩)
      | (gi_at_builtin; refine wpListIn_append_at _ rfl (.tmp 16) (.tmp 18) 38 rfl 24 i0 (.int .u64 0) 1 8 Tryz.underlying38 hi hz0 hz1 hz2 rfl (by decide) (.slice ao pre.length cap) pre.length _ rfl HGA.out.row ⟨W.heap.size, 0, none⟩ 1 1 [.int .u64 (2 * (x : Int))] rfl rfl (cell1 (by simp)) (by simp [Value.oneCell']) (by unfold maxLen; omega) (by omega) ?_; intro v' w2 ho hg hf; obtain ⟨a2, c2, rfl⟩ := row_shape ho; have hst := HG.out.step (Nat.le_refl _) (by decide) (by decide) (by decide) (by decide) ho hg hf w1.heap.size; have hc1 := hst.1; have hf1 := hst.2.1; have HST := Lib.hid hst.2.2; clear hst ho hg hf))
    exact ⟨HST.out.2, _, by rw [refsOf_snoc, List.length_append]; exact HST.out.1⟩
  case done =>
    rintro D W hD ⟨v, hG⟩ hK
    have hbox := cell_of_heap (o := 0) hG.box rfl
    have HG := Lib.hid hG
    obtain ⟨ao, cap, rfl⟩ := row_shape hG.row
    clear hG
    gi_wp2
    refine ⟨by simp, .inl ⟨_, _, rfl, run_takeDeferred hK, ?_⟩⟩
    have h2 := HG.out.put (.deferred none) (Nat.le_trans hF0.size hD) hK rfl
    exact ⟨_, results_tmp rfl _ _ _, .slice ao ps.length cap, rfl, h2.row, h2.fr, h2.new⟩
  case stop =>
    rintro D pre W _ _ h _
    exact h.elim
end Go.Proofs.YtofhgfgipdokbaaGreatDoor
namespace Go.Proofs.YtofhgfgipdokbaaGreatDoor
open Go.RowKit

/-- Returned the slice of z words of block g from p on, and only draws. -/
def Cuts (g p z : Nat) (w : World) (e : Ending) (w' : World) : Prop := ∃ o c, e = .returned (.slice (some ⟨g, o, none⟩) z c) ∧ (z ≠ 0 → o = p) ∧ ∃ m, w' = w.drewN m
theorem MemAt.drewN {w : World} {mb : Nat} {m : Mem} {wv sv : Value} (h : MemAt w mb m wv sv) (n : Nat) : MemAt (w.drewN n) mb m wv sv := h.fr0 ((Fr.refl _ _).drewN n)
set_option maxRecDepth 100000 in
set_option maxHeartbeats 1000000 in
theorem fields_draws {w : World} {mb g cap : Nat} {m : Mem} {sv : Value} (h : MemAt w mb m (.slice (some ⟨g, 0, none⟩) m.W.length cap) sv) (hcap : m.W.length ≤ cap) (hcm : cap ≤ 9223372036854775807) (k z : Nat) (hz : m.W[k + 2]? = some (z : Int)) (hin : k + 3 + z ≤ m.W.length) :
    Calls Tryz.prog 74 #[.pointer (some ⟨mb, 0, none⟩), .int .i64 k] w (Cuts g (k + 3) z w) := by
  have hm := h.most
  have hs := fun j => size_gives (h.drewN j) k z hz (by omega)
  have c1 := h.cell.2.1
  clear h hz
  generalize m.W.length = n at *
  have e1 : IntKind.i64.wrap ((k : Int) + 3) = (k : Int) + 3 := by rw [IntKind.wrap_i64]; omega
  have e2 : IntKind.i64.wrap ((k : Int) + 3 + z) = (k : Int) + 3 + z := by rw [IntKind.wrap_i64]; omega
  have b0 : (0 : Int) ≤ (k : Int) + 3 := by omega
  have b1 : (k : Int) + 3 ≤ (k : Int) + 3 + z := by omega
  have b2 : (k : Int) + 3 + z ≤ (cap : Int) := by omega
  have b3 : (0 : Int) ≤ (k : Int) + 3 + z := by omega
  go_enter Tryz.func74, Tryz.ntmps74
  go_wp2_with fail
  go_quiet ((go_at_call 48; exact Calls.quiet_of_same ((hs _).mono (fun _ _ h => ⟨h.1, h.2.symm⟩))))
  go_wp2
  all_goals go_ret
  · exact ⟨_, _, rfl, fun _ => by omega, _, rfl⟩
  · exact ⟨_, _, rfl, fun _ => rfl, _, rfl⟩
end Go.Proofs.YtofhgfgipdokbaaGreatDoor
namespace Go.Proofs.YtofhgfgipdokbaaGreatDoor
open Go.RowKit

/-- Q where the region comes to its end; nothing else is let by. -/
def Norm (Q : Exit → Act → World → Prop) : Exit → Act → World → Prop
  | .normal, a, w => Q .normal a w
  | _, _, _ => False
theorem Norm.imp {Q : Exit → Act → World → Prop} : ∀ (e : Exit) (a : Act) (w : World), Norm Q e a w → Q e a w := fun e a w h => by
  cases e <;> first | exact h | exact (h : False).elim
theorem Norm.mk {Q : Exit → Act → World → Prop} {a : Act} {w : World} (h : Q .normal a w) : Norm Q .normal a w := h
theorem rowsIn_wide {n : Nat} {P : Program} {row : String} {args : Array Value} {w : World} {R : Value → World → Prop} (h : Rows P row args w R) : RowsIn Fence.wide n P row args w R :=
  fun c cs _ => let ⟨v, w', r, s⟩ := h c cs; ⟨v, w', r, stepsIn_wide.2 s⟩
theorem wpOp_round {P : Program} {ops : Array Oper} {Q : Exit → Act → World → Prop} {l n i : Nat} {K K' : Act → World → Prop} {a : Act} {w : World} (hnd : ∀ (i : Nat) (o : Oper), ops[i]? = some o → ∀ c, o.op ≠ Op.defer c) (hK : ∀ a w, K a w → K' a w)
    (h : wpOp P ops (Norm Q) i K a w) : wpOpIn (Fence.wide.inRound l) n P ops (Norm Q) i K' a w := by
  unfold wpOp at h
  unfold wpOpIn
  cases ho : ops[i]? with
  | none => simp only [ho] at h; exact hK _ _ h
  | some o =>
    simp only [ho] at h
    simp only
    by_cases hw : Region.wanted o (yielded ops a.tmps) = true
    · rw [if_pos hw] at h ⊢
      rcases h with h | ⟨-, a', w', h⟩
      · refine ⟨fun _ _ => trivial, ?_⟩
        rw [Fence.inRound_round, Oper.semAt_some l a.eval o (hnd i o ho)]
        unfold Oper.wp at h
        generalize (execOp a.eval o).run P w = r at *
        cases r with
        | ok x w' =>
          cases x <;> simp only [Oper.upon] at h <;> simp only [Oper.uponIn]
          case value u => exact hK _ _ h
          case skip => exact hK _ _ h
          case defer d => exact hK _ _ h
          case enter f args =>
            refine ⟨fun h0 => by simp [Fence.wide] at h0, CallsIn.inRound l (callsIn_wide.2 (h.mono fun e w'' he => ?_))⟩
            cases e with
            | returned u => exact hK _ _ he
            | panicked c => exact he
            | outgrown => exact he
          case row row args =>
            exact ⟨fun h0 => by simp [Fence.wide] at h0, rowsIn_wide (h.mono fun u w'' he => hK _ _ he)⟩
        | halt x w' => cases x <;> simp only [Oper.upon] at h <;> simp only [Oper.uponIn] <;> exact h
      · exact (h : False).elim
    · rw [if_neg hw] at h ⊢
      exact ⟨fun _ _ => trivial, hK _ _ h⟩
theorem wpAny_round {P : Program} {ops : Array Oper} {Q : Exit → Act → World → Prop} {md : Region.Mode} {l n : Nat} (hnd : ∀ (i : Nat) (o : Oper), ops[i]? = some o → ∀ c, o.op ≠ Op.defer c) : ∀ (fuel : Nat) (listed : Array Bool) (a : Act) (w : World),
    wpAny P md ops (Norm Q) fuel listed a w → wpAnyIn (Fence.wide.inRound l) n P md ops (Norm Q) fuel listed a w
  | 0, _, _, _, h => h
  | fuel + 1, _, _, _, h => ⟨h.1, fun i hi => wpOp_round hnd (fun a' w' h' => wpAny_round hnd fuel _ a' w' h') (h.2 i hi)⟩
/-- A region that draws, in a round, by the laws of held worlds. -/
theorem region_round {P : Program} {ops : List Oper} {Q : Exit → Act → World → Prop} {S : World → Prop} {l n id : Nat} {a : Act} {w : World} (hm : P.follows .mixedOrders = true) (hnd : ops.all (fun o : Oper => match o.op with | Op.defer _ => false | _ => true) = true) (hS : S w.drew)
    (h : S w.drew → wpAnyH P .any ops.toArray (Norm Q) S ops.toArray.size (Array.replicate ops.toArray.size false) a w.drew) : (Code.region id ops.toArray true).wpIn (Fence.wide.inRound l) n P Q a w := by
  refine wpIn_mono (wpIn_region_any hm (wpAny_round ?_ _ _ _ _ (wpAny_of_held _ _ _ _ (h hS)))) Norm.imp
  intro i o ho c hc
  have hm : o ∈ ops := by
    have := List.mem_of_getElem? (l := ops) (i := i) (a := o) (by simpa using ho)
    exact this
  have := List.all_eq_true.1 hnd o hm
  rw [hc] at this
  cases this
/-- The same where the frame is a function's own. -/
theorem region_plain {P : Program} {ops : List Oper} {Q : Exit → Act → World → Prop} {S : World → Prop} {n id : Nat} {a : Act} {w : World} (hm : P.follows .mixedOrders = true) (hS : S w.drew)
    (h : S w.drew → wpAnyH P .any ops.toArray (Norm Q) S ops.toArray.size (Array.replicate ops.toArray.size false) a w.drew) : (Code.region id ops.toArray true).wpIn Fence.wide n P Q a w :=
  wpIn_wide.2 (Code.wp_mono Norm.imp (wp_region_held_drew hm hS h))
end Go.Proofs.YtofhgfgipdokbaaGreatDoor
namespace Go.Proofs.YtofhgfgipdokbaaGreatDoor
open Go.RowKit
section
variable {P : Program} {ops : Array Oper} {Q : Exit → Act → World → Prop} {md : Region.Mode} {S : World → Prop} {z : Nat}

/-- whatever order is picked: behind each operation but z the world meets S -/
def Walk (P : Program) (md : Region.Mode) (ops : Array Oper) (Q : Exit → Act → World → Prop) (S : World → Prop) (z : Nat) : Nat → Array Bool → Act → World → Prop
  | 0, listed, a, w => Region.ready md ops listed = [] ∧ Q .normal a w
  | fuel + 1, listed, a, w => (Region.ready md ops listed = [] → Q .normal a w) ∧ ∀ i ∈ Region.ready md ops listed, wpOp P ops Q i (fun a' w' => (i ≠ z → S w') ∧ Walk P md ops Q S z fuel (listed.setIfInBounds i true) a' w') a w
theorem Walk.any : ∀ (fuel : Nat) (listed : Array Bool) (a : Act) (w : World), Walk P md ops Q S z fuel listed a w → wpAny P md ops Q fuel listed a w
  | 0, _, _, _, h => h
  | fuel + 1, _, _, _, h => ⟨h.1, fun i hi => wpOp_mono (fun a' w' h' => Walk.any fuel _ a' w' h'.2) (h.2 i hi)⟩
/-- operation z waits for operation i -/
def waits (md : Region.Mode) (ops : Array Oper) (z i : Nat) : Bool := match ops[z]? with | some o => o.after.any (fun e => Region.binds md e && e.on == i) | none => false
theorem Walk.first {i : Nat} {oi : Oper} {v : Value} (hi : ops[i]? = some oi) (hsel : ∀ (j : Nat) (o : Oper) cs b, ops[j]? = some o → o.op ≠ .select cs b) (hQ : ∀ c a w, Q (.panic c) (a.put oi.dst v) w → Q (.panic c) a w) (hz : waits md ops z i = true) :
    ∀ (fuel : Nat) (listed : Array Bool) (a : Act) (w : World), (∀ j oj, ops[j]? = some oj → j ≠ i → listed.getD j true = false → (∀ e ∈ oj.after, Region.binds md e = true → e.on ≠ i) → oi.apart ops oj = true) →
      i ∈ Region.ready md ops listed → YieldsIf P ops S oi v a → S w → Walk P md ops Q S z fuel (listed.setIfInBounds i true) (a.put oi.dst v) w → Walk P md ops Q S z (fuel + 1) listed a w := by
  -- what comes up while i has not does not wait for i
  have free : ∀ {listed : Array Bool} {j : Nat}, i ∈ Region.ready md ops listed → j ∈ Region.ready md ops listed → listed.getD j true = false ∧ ∃ oj, ops[j]? = some oj ∧ ∀ e ∈ oj.after, Region.binds md e = true → e.on ≠ i := by
    intro listed j hr hj
    obtain ⟨hun, oj, hoj, hall⟩ := mem_ready.1 hj
    refine ⟨hun, oj, hoj, fun e he hb heq => ?_⟩
    have h1 := hall e he hb
    have h0 := (mem_ready.1 hr).1
    rw [heq] at h1
    by_cases h' : i < listed.size
    · simp [h'] at h0 h1
      rw [h0] at h1
      cases h1
    · simp [Array.getElem?_eq_none (Nat.le_of_not_lt h')] at h1
  have notz : ∀ {listed : Array Bool} {j : Nat}, i ∈ Region.ready md ops listed → j ∈ Region.ready md ops listed → j ≠ z := by
    rintro listed j hr hj rfl
    obtain ⟨-, oj, hoj, hno⟩ := free hr hj
    unfold waits at hz
    rw [hoj] at hz
    obtain ⟨e, he, hb⟩ := Array.any_eq_true'.1 hz
    simp only [Bool.and_eq_true, beq_iff_eq] at hb
    exact hno e he hb.1 hb.2
  have self : ∀ {fuel : Nat} {listed : Array Bool} {a : Act} {w : World}, YieldsIf P ops S oi v a → S w → Walk P md ops Q S z fuel (listed.setIfInBounds i true) (a.put oi.dst v) w → wpOp P ops Q i (fun a' w' => (i ≠ z → S w') ∧ Walk P md ops Q S z fuel (listed.setIfInBounds i true) a' w') a w :=
    fun hy hS H => hy.wpOp hi hS ⟨fun _ => hS, H⟩
  intro fuel
  induction fuel with
  | zero =>
    intro listed a w _ hr hy hS H
    refine ⟨fun h => (by rw [h] at hr; cases hr), fun j hj => ?_⟩
    by_cases hji : j = i
    · subst hji
      exact self hy hS H
    · have := ready_mono hj hji
      rw [H.1] at this
      cases this
  | succ fuel ih =>
    intro listed a w hfree hr hy hS H
    refine ⟨fun h => (by rw [h] at hr; cases hr), fun j hj => ?_⟩
    by_cases hji : j = i
    · subst hji
      exact self hy hS H
    · obtain ⟨hun, oj, hoj, hno⟩ := free hr hj
      have hjz := notz hr hj
      refine wpOp_mono (fun a' w' h3 => ⟨fun _ => h3.2.1 hjz, ?_⟩) (wpOp_putIf hoj (hfree j oj hoj hji hun hno) (fun cs b => hsel i oi cs b hi) (fun cs b => hsel j oj cs b hoj) hQ hy (H.2 j (ready_mono hj hji)))
      refine ih _ a' w' (fun k ok hk hki hunk hnok => hfree k ok hk hki ?_ hnok) (ready_mono hr (Ne.symm hji)) h3.1 (h3.2.1 hjz) ?_
      · by_cases hjk : j = k
        · subst hjk; exact hun
        · rw [getD_set_ne true hjk] at hunk; exact hunk
      · rw [Array.setIfInBounds_comm _ _ hji]
        exact h3.2.2
theorem Walk.take {i : Nat} {oi : Oper} {v : Value} {fuel : Nat} {listed : Array Bool} {a : Act} {w : World} (hi : ops[i]? = some oi) (hs : Region.noSelect ops = true) (hf : Region.free md ops listed i = true) (hr : (Region.ready md ops listed).contains i = true) (hz : waits md ops z i = true)
    (hQ : ∀ c a w, Q (.panic c) (a.put oi.dst v) w → Q (.panic c) a w) (hy : YieldsIf P ops S oi v a) (hS : S w) (h : Walk P md ops Q S z fuel (listed.setIfInBounds i true) (a.put oi.dst v) w) : Walk P md ops Q S z (fuel + 1) listed a w :=
  Walk.first hi (Region.noSelect_spec hs) hQ hz fuel listed a w (Region.free_spec hi hf) (by simpa using hr) hy hS h
/-- one operation alone may come up -/
theorem Walk.one {i : Nat} {o : Oper} {fuel : Nat} {listed : Array Bool} {a : Act} {w : World} (ho : ops[i]? = some o) (hr : Region.ready md ops listed = [i]) (hw : Region.wanted o (yielded ops a.tmps) = true)
    (h : ∀ K : Act → World → Prop, Shut (∀ a w, (i ≠ z → S w) → ((i ≠ z → S w) → Walk P md ops Q S z fuel (listed.setIfInBounds i true) a w) → K a w) → Oper.wp P o a w K Q) : Walk P md ops Q S z (fuel + 1) listed a w := by
  refine ⟨fun h0 => (by rw [hr] at h0; cases h0), fun j hj => ?_⟩
  rw [hr] at hj
  simp at hj
  subst hj
  unfold wpOp
  simp only [ho]
  rw [if_pos hw]
  exact .inl (h _ (fun a w hS hW => ⟨hS, hW hS⟩))
theorem Walk.done {listed : Array Bool} {a : Act} {w : World} (hr : Region.ready md ops listed = []) (h : Q .normal a w) : ∀ fuel, Walk P md ops Q S z fuel listed a w
  | 0 => ⟨hr, h⟩
  | _ + 1 => ⟨fun _ => h, by rw [hr]; simp⟩
end
/-- A region that draws, in a round. -/
theorem walk_round {P : Program} {ops : List Oper} {Q : Exit → Act → World → Prop} (S : World → Prop) (z : Nat) {l n id : Nat} {a : Act} {w : World} (hm : P.follows .mixedOrders = true) (hnd : ops.all (fun o : Oper => match o.op with | Op.defer _ => false | _ => true) = true) (hS : S w.drew)
    (h : S w.drew → Walk P .any ops.toArray (Norm Q) S z ops.toArray.size (Array.replicate ops.toArray.size false) a w.drew) : (Code.region id ops.toArray true).wpIn (Fence.wide.inRound l) n P Q a w := by
  refine wpIn_mono (wpIn_region_any hm (wpAny_round ?_ _ _ _ _ (Walk.any _ _ _ _ (h hS)))) Norm.imp
  intro i o ho c hc
  have hm : o ∈ ops := List.mem_of_getElem? (l := ops) (i := i) (by simpa using ho)
  have := List.all_eq_true.1 hnd o hm
  rw [hc] at this
  cases this
/-- A region that draws, in a function's own frame. -/
theorem walk_plain {P : Program} {ops : List Oper} {Q : Exit → Act → World → Prop} (S : World → Prop) (z : Nat) {id : Nat} {a : Act} {w : World} (hm : P.follows .mixedOrders = true) (hS : S w.drew)
    (h : S w.drew → Walk P .any ops.toArray (Norm Q) S z ops.toArray.size (Array.replicate ops.toArray.size false) a w.drew) : (Code.region id ops.toArray true).wp P Q a w :=
  Code.wp_mono Norm.imp (wp_region_any hm (Walk.any _ _ _ _ (h hS)))
end Go.Proofs.YtofhgfgipdokbaaGreatDoor
namespace Go.Proofs.YtofhgfgipdokbaaGreatDoor
open Go.RowKit

/-- a heap made since the world w0, whose memory is m -/
def Live (w0 : World) (hb mb : Nat) (m : Mem) (w : World) : Prop :=
  ∃ wv sv, HeapAt w hb mb m wv sv ∧ Fr [] w0 w ∧ w0.heap.size ≤ hb ∧ ∀ k ∈ foot mb wv sv, w0.heap.size ≤ k
theorem HeapAt.fr {S : List Nat} {w w' : World} {hb mb : Nat} {m : Mem} {wv sv : Value} (h : HeapAt w hb mb m wv sv) (hF : Fr S w w') (h1 : hb ∉ S) (h2 : ∀ k ∈ foot mb wv sv, k ∉ S) : HeapAt w' hb mb m wv sv :=
  ⟨hF.heap h1 h.heap, h.mem.fr hF h2⟩
theorem HeapAt.apart {w : World} {hb mb : Nat} {m : Mem} {wv sv : Value} (h : HeapAt w hb mb m wv sv) : hb ∉ foot mb wv sv := box_apart h.heap h.mem (by decide) (by decide) (by decide)
theorem Fr.join {S : List Nat} {a b c : World} (h : Fr [] a b) (k : Fr S b c) (hS : ∀ j ∈ S, a.heap.size ≤ j) : Fr [] a c :=
  h.trans' k (fun _ _ e => by cases e) (fun j hj e => by have := hS j e; omega)
theorem Live.still {w0 w w' : World} {hb mb : Nat} {m : Mem} (h : Live w0 hb mb m w) (hF : Fr [] w w') : Live w0 hb mb m w' := by
  obtain ⟨wv, sv, hH, hF0, h1, h2⟩ := h
  exact ⟨wv, sv, hH.fr hF (by simp) (fun _ _ => by simp), hF0.trans hF, h1, h2⟩
theorem Live.turn {w0 w w' : World} {hb mb : Nat} {m m' : Mem} {wv sv wv' sv' : Value} (hH : HeapAt w hb mb m wv sv) (hF0 : Fr [] w0 w) (h1 : w0.heap.size ≤ hb) (h2 : ∀ k ∈ foot mb wv sv, w0.heap.size ≤ k)
    (hM : MemAt w' mb m' wv' sv') (hF : Fr (foot mb wv sv) w w') (hfr : ∀ k ∈ foot mb wv' sv', k ∈ foot mb wv sv ∨ w.heap.size ≤ k) : Live w0 hb mb m' w' := by
  refine ⟨wv', sv', ⟨hF.heap hH.apart hH.heap, hM⟩, hF0.join hF h2, h1, fun k hk => ?_⟩
  rcases hfr k hk with h | h
  · exact h2 k h
  · exact Nat.le_trans hF0.size h
theorem Live.fr {w0 w : World} {hb mb : Nat} {m : Mem} (h : Live w0 hb mb m w) : Fr [] w0 w := by obtain ⟨_, _, _, h, _⟩ := h; exact h
theorem Live.lim {w0 w : World} {hb mb : Nat} {m : Mem} (h : Live w0 hb mb m w) : m.W.length ≤ 65536 ∧ m.M.length = m.W.length := by obtain ⟨_, _, h, _⟩ := h; exact ⟨h.mem.most, h.mem.alike⟩
/-- Returned v; the heap is as it was. -/
def LStill (v : Value) (w0 : World) (hb mb : Nat) (m : Mem) (e : Ending) (w' : World) : Prop := e = .returned v ∧ Live w0 hb mb m w'
theorem live_new (n : Int) (w : World) (h1 : 64 ≤ n) (h2 : n ≤ 65536) : Calls Tryz.prog 24 #[.int .i64 n] w fun e w' => ∃ hb mb, e = .returned (.tuple #[.pointer (some ⟨hb, 0, none⟩), .int .i64 0]) ∧ Live w hb mb (Mem.fresh n) w' := by
  refine (new_made n w h1 h2).mono ?_
  rintro e w' ⟨hb, mb, wv, sv, rfl, hH, hF, h3, h4⟩
  exact ⟨hb, mb, rfl, wv, sv, hH, hF, h3, h4⟩
section
variable {w0 w : World} {hb mb : Nat} {m : Mem}
theorem live_of_still {f : Nat} {args : Array Value} {v : Value} (h : Live w0 hb mb m w) (hc : ∀ wv sv, Opens (.pointer (some ⟨hb, 0, none⟩)) mb m wv sv w → Calls Tryz.prog f args w (Still v w)) : Calls Tryz.prog f args w (LStill v w0 hb mb m) := by
  obtain ⟨wv, sv, hH, hF0, h1, h2⟩ := h
  refine (hc wv sv (memory_at hH)).mono ?_
  rintro e w' ⟨rfl, hF⟩
  exact ⟨rfl, Live.still ⟨wv, sv, hH, hF0, h1, h2⟩ hF⟩
theorem live_of_turns {f : Nat} {args : Array Value} {v : Value} {m' : Mem} (h : Live w0 hb mb m w) (hc : ∀ wv sv, Opens (.pointer (some ⟨hb, 0, none⟩)) mb m wv sv w → Calls Tryz.prog f args w (Turns v mb m' (foot mb wv sv) w)) : Calls Tryz.prog f args w (LStill v w0 hb mb m') := by
  obtain ⟨wv, sv, hH, hF0, h1, h2⟩ := h
  refine (hc wv sv (memory_at hH)).mono ?_
  rintro e w' ⟨rfl, wv', sv', hM, hF, hfr⟩
  exact ⟨rfl, Live.turn hH hF0 h1 h2 hM hF hfr⟩
theorem live_glob (hg : Glob w0) (h : Live w0 hb mb m w) : Glob w := hg.fr h.fr
theorem live_used (h : Live w0 hb mb m w) : Calls Tryz.prog 85 #[.pointer (some ⟨hb, 0, none⟩)] w (LStill (.int .i64 m.W.length) w0 hb mb m) := live_of_still h fun _ _ hO => used_still hO
theorem live_has (h : Live w0 hb mb m w) (x : Int) (h1 : 0 ≤ x) (h2 : x ≤ 18446744073709551615) : Calls Tryz.prog 82 #[.pointer (some ⟨hb, 0, none⟩), .int .u64 x] w (LStill (.bool (stB m.M x)) w0 hb mb m) := live_of_still h fun _ _ hO => has_still hO x h1 h2
theorem live_fetch_far (h : Live w0 hb mb m w) (hg : Glob w0) (k z : Nat) (j : Int) (hk : m.M[k]? = some true) (h1 : 1 ≤ k) (hz : m.W[k + 2]? = some (z : Int)) (hz2 : z ≤ 65536) (hj : j < 0 ∨ (z : Int) ≤ j) (j1 : -9223372036854775808 ≤ j) (j2 : j ≤ 9223372036854775807) :
    Calls Tryz.prog 88 #[.pointer (some ⟨hb, 0, none⟩), .int .u64 (2 * k), .int .i64 j] w (LStill (.tuple #[.int .u64 0, .int .i64 1]) w0 hb mb m) := live_of_still h fun _ _ hO => fetch_far hO (live_glob hg h) k z j hk h1 hz hz2 hj j1 j2
/-- Objects, behind which the heap is as it was -/
theorem live_objects (h : Live w0 hb mb m w) (ps : List Nat) (hC : Chain m.W 1 ps) : Calls Tryz.prog 8 #[.pointer (some ⟨hb, 0, none⟩)] w fun e w' => ∃ ao cap, e = .returned (.slice ao ps.length cap) ∧ Live w0 hb mb m w' := by
  obtain ⟨wv, sv, hH, hF0, h1, h2⟩ := h
  have hF : Fr [] w (w.alloc (.cells #[.slice none 0 0] 38)) := (Fr.refl _ _).alloc _
  refine (objects_lists (memory_at (hH.fr hF (by simp) (fun _ _ => by simp))) ps hC).mono ?_
  rintro e w' ⟨v, rfl, hr, hF', hn⟩
  obtain ⟨ao, cap, rfl⟩ := row_shape hr
  exact ⟨ao, cap, rfl, Live.still ⟨wv, sv, hH, hF0, h1, h2⟩ hF'⟩
end
end Go.Proofs.YtofhgfgipdokbaaGreatDoor
