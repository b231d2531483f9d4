/- A range over a method value whose receiver is bound ('for at := range m.objects'): a law for the walk, over any program: what holds between two rounds, what a round that goes on or returns leaves. The memory's objects, ranged over: it yields the places where objects begin, in order. The heap's Objects: references to all objects, in order, in a new row. The memory's fields; slices.Clone. A region that draws its order inside a round of a range over a function: the laws of the plain walk serve there, too. A region that draws its order and ends with one write: what is read of worlds that meet S may be read first, where only the last operation need not keep S. A heap that the call made, through the calls of its methods: what its memory is, and that nothing older has changed. -/
import Derived.Test.YtomcfjckhajhmabGreatDoorMBase
import Derived.Test.YtomcfjckhajhmabGreatDoorMHeaps
import Derived.RangeFuncNested
import Derived.RangeFuncCalls
import Derived.RangeFuncLeaves
import Derived.RangeFuncWrites
import Derived.OwnWalkIn
import Derived.TacticsInMore
import Derived.LoopNIn
import Derived.LoopIn
import Derived.Shelf.Abstract
import Derived.Shelf.RegionOpen
import Derived.Deep.RegionHeld3
import Derived.Deep.AppendLies
namespace Go.Proofs.YtomcfjckhajhmabGreatDoor
open Go.RowKit
variable {F : Fence} {n : Nat} {P : Program}

/-- how a round may end: it goes on, or it returns out of the function -/
def RoundEnds {α : Type} (B : Nat) (I Ix : List α → World → Prop) (xs : List α) (W : World) : Exit → Act → World → Prop
  | .normal, _, W' => KeepsFrom B W W' ∧ I xs W'
  | .ret, _, W' => KeepsFrom B W W' ∧ Ix xs W'
  | _, _, _ => False
/-- a statement about worlds that does not look at what is no cells, from block B on -/
def Blind {α : Type} (B : Nat) (I : List α → World → Prop) : Prop := ∀ pre W l o o', B ≤ l → W.heap[l]? = some o → o.isCells = false → I pre W → I pre (W.putObj l o')
/-- what a method that is ranged over promises: it yields xs one by one, in worlds of which R holds, till a round says no -/
def Yields {α : Type} (F : Fence) (n : Nat) (P : Program) (gf : Nat) (rv : Value) (encs : α → Array Value) (R : World → Prop) (xs : List α) : Prop :=
  ∀ (l : Nat) (J Jx : List α → World → Prop) (W : World), (∀ pre W1, J pre W1 → R W1) →
    (∀ pre x W1, J pre W1 → pre ++ [x] <+: xs → YieldAt F (n - 1) P l (encs x) W1 fun e W' => (e = .returned (.bool true) ∧ J (pre ++ [x]) W') ∨ (e = .returned (.bool false) ∧ Jx (pre ++ [x]) W')) →
    J [] W → CallsIn F n P gf #[rv, .func (.yield l) #[] #[]] W fun e W' => (∃ v, e = .returned v) ∧ (J xs W' ∨ ∃ pre, pre <+: xs ∧ Jx pre W')

set_option maxHeartbeats 1000000 in
theorem wpIn_range_bound {α : Type} {g : Operand} {ps : Array Tmp} {assign body : Code} {Q : Exit → Act → World → Prop} {a : Act} {w : World}
    (hro : F.round = none) (h1 : 1 ≤ n) {gf : Nat} {rv : Value} (hg : a.eval g = .func (.func gf) #[rv] #[]) (hFg : F.fn gf) (eg : ∀ args w, (callFunc gf args).run P w = .ok (.enter gf args) w)
    {encs : α → Array Value} {R : World → Prop} {xs : List α} (hseq : Yields F (n - 1) P gf rv encs R xs) (hps : ∀ x, (encs x).size = ps.size)
    (I Ix : List α → World → Prop) (hR : ∀ pre W, I pre W → R W) (hI : Blind w.heap.size I) (hIx : Blind w.heap.size Ix) (hal : ∀ W o, I [] W → I [] (W.alloc o)) (h0 : I [] w) (a₁ : α → Act)
    (hassign : ∀ (l : Nat) (x : α) (W : World) (K : Act → World → Prop), K (a₁ x) W →
      assign.wpIn (F.inRound l) (n - 1 - 1) P (Exit.then K (fun _ _ _ => False)) { tmps := (ps.zip (encs x)).foldl (fun t (p, v) => t.setIfInBounds p v) a.tmps, defers := [] } W)
    (hbody : ∀ (l : Nat) (pre : List α) (x : α) (W : World), I pre W → pre ++ [x] <+: xs → w.heap.size + 1 < W.heap.size → body.wpIn (F.inRound l) (n - 1 - 1) P (RoundEnds w.heap.size I Ix (pre ++ [x]) W) (a₁ x) W)
    (hdone : ∀ (D : Nat) (W : World), w.heap.size ≤ D → I xs W → W.heap[D]? = some (.deferred (some [])) → Q .normal { a with defers := { target := .collected D, args := #[] } :: a.defers } W)
    (hstop : ∀ (D : Nat) (pre : List α) (W : World), w.heap.size ≤ D → pre <+: xs → Ix pre W → W.heap[D]? = some (.deferred (some [])) → Code.ret.wpIn F n P Q { a with defers := { target := .collected D, args := #[] } :: a.defers } W) :
    (Code.rangeFunc g ps assign body).wpIn F n P Q a w := by
  refine wpIn_rangeFunc fun fn hfn => ?_
  rw [hro]
  -- the loop's record, in its states; the world in which the method is called
  obtain ⟨rc, hrc⟩ : ∃ rc : LoopState → Option Code → Loop, rc = fun st pe => { state := st, pending := pe, fn, tmps := a.tmps, params := ps, assign, body, defers := w.heap.size } := ⟨_, rfl⟩
  have hD0 : ((w.alloc (.deferred (some []))).alloc (.loop (rc .ready none))).heap[w.heap.size]? = some (.deferred (some [])) :=
    (Below.heap_alloc _ _ _ (by simp)).trans (heap_new w _)
  have hL0 : ((w.alloc (.deferred (some []))).alloc (.loop (rc .ready none))).heap[w.heap.size + 1]? = some (.loop (rc .ready none)) := by
    have := heap_new (w.alloc (.deferred (some []))) (.loop (rc .ready none))
    simpa using this
  have hI0 : I [] ((w.alloc (.deferred (some []))).alloc (.loop (rc .ready none))) := hal _ _ (hal _ _ h0)
  have hin : (Instr.enterLoop fn a.tmps ps assign body none).run P w = .ok (w.heap.size + 1, [{ target := .collected w.heap.size, args := #[] }]) ((w.alloc (.deferred (some []))).alloc (.loop (rc .ready none))) := by
    rw [hrc]; exact run_enterLoop_outer _ _ _ _ _
  generalize (w.alloc (.deferred (some []))).alloc (.loop (rc .ready none)) = W0 at hD0 hL0 hI0 hin
  refine ⟨_, _, W0, { target := .fn (.func gf) #[], args := #[rv, .func (.yield (w.heap.size + 1)) #[] #[]] }, W0, gf, #[rv, .func (.yield (w.heap.size + 1)) #[] #[]], W0, hin, ?_, ?_, ?_, fun _ => h1, ?_⟩
  · simp only [resolve, hg]
    simp [go_sem]
  · intro f' hf'
    simp [Target.leads] at hf'
    subst hf'
    exact hFg
  · simp [invoke, go_sem, eg]
  refine (hseq (w.heap.size + 1)
    (fun pre W => I pre W ∧ W.heap[w.heap.size + 1]? = some (.loop (rc .ready none)) ∧ W.heap[w.heap.size]? = some (.deferred (some [])))
    (fun pre W => Ix pre W ∧ W.heap[w.heap.size + 1]? = some (.loop (rc .done (some .ret))) ∧ W.heap[w.heap.size]? = some (.deferred (some [])))
    W0 (fun pre W1 h => hR pre W1 h.1) ?_ ⟨hI0, hL0, hD0⟩).mono ?_
  · rintro pre x W ⟨hi, hl, hk⟩ hpre
    have hlt : w.heap.size + 1 < W.heap.size := lt_of_heap hl
    have hy := run_yield (P := P) (args := encs x) hl (by rw [hrc]; exact hps x)
    rw [hrc] at hy
    refine ⟨fn, _, assign, body, hy, roundIn_of_wpIn hfn (hassign _ x W _ ⟨_, run_beginRound hl (by rw [hrc]), ?_⟩)⟩
    have hb := hbody (w.heap.size + 1) pre x _ (hI pre W (w.heap.size + 1) _ (.loop { rc .ready none with state := .busy }) (by omega) hl rfl hi) hpre (by simpa [World.putObj] using hlt)
    have hl2 : (W.putObj (w.heap.size + 1) (.loop { rc .ready none with state := .busy })).heap[w.heap.size + 1]? = some (.loop { rc .ready none with state := .busy }) := World.putObj_heap_same hlt
    have hk2 : (W.putObj (w.heap.size + 1) (.loop { rc .ready none with state := .busy })).heap[w.heap.size]? = some (.deferred (some [])) := (World.putObj_heap_other (by omega)).trans hk
    refine wpIn_mono hb ?_
    intro e a3 W3 hp
    have hends : ∀ jump : Option Code, KeepsFrom w.heap.size (W.putObj (w.heap.size + 1) (.loop { rc .ready none with state := .busy })) W3 →
        ∃ W4, (Instr.endRound (w.heap.size + 1) jump).run P W3 = .ok (.bool jump.isNone) W4 ∧ (∀ J : List α → World → Prop, Blind w.heap.size J → ∀ p, J p W3 → J p W4) ∧
          W4.heap[w.heap.size + 1]? = some (.loop (rc (if jump.isNone then .ready else .done) jump)) ∧ W4.heap[w.heap.size]? = some (.deferred (some [])) := by
      intro jump hk3
      have hl3 := hk3.same _ _ (by omega) hl2 rfl
      have hr3 := run_endRound (P := P) jump hl3
      refine ⟨_, hr3, fun J hJ p hj => hJ p W3 _ _ _ (by omega) hl3 rfl hj, ?_, (World.putObj_heap_other (by omega)).trans (hk3.same _ _ (Nat.le_refl _) hk2 rfl)⟩
      rw [World.putObj_heap_same (lt_of_heap hl3), hrc]
    cases e with
    | normal =>
      obtain ⟨hk3, hi3⟩ := hp
      obtain ⟨W4, hr, hJ, hl4, hk4⟩ := hends none hk3
      exact ⟨_, W4, hr, .inl ⟨rfl, hJ I hI _ hi3, hl4, hk4⟩⟩
    | ret =>
      obtain ⟨hk3, hi3⟩ := hp
      obtain ⟨W4, hr, hJ, hl4, hk4⟩ := hends (some .ret) hk3
      exact ⟨_, W4, hr, .inr ⟨rfl, hJ Ix hIx _ hi3, hl4, hk4⟩⟩
    | exit id => exact hp.elim
    | goto t => exact hp.elim
    | panic ch => exact hp.elim
    | outgrown => exact hp.elim
  · rintro e W2 ⟨⟨v, rfl⟩, (⟨hi, hl, hk⟩ | ⟨pre, hpre, hi, hl, hk⟩)⟩
    · have he := run_endLoop (P := P) hl (by rw [hrc]; simp)
      exact ⟨none, _, by rw [he, hrc], hdone _ _ (Nat.le_refl _) (hI _ _ _ _ _ (by omega) hl rfl hi) ((World.putObj_heap_other (by omega)).trans hk)⟩
    · have he := run_endLoop (P := P) hl (by rw [hrc]; simp)
      exact ⟨some .ret, _, by rw [he, hrc], hstop _ pre _ (Nat.le_refl _) hpre (hIx _ _ _ _ _ (by omega) hl rfl hi) ((World.putObj_heap_other (by omega)).trans hk)⟩
end Go.Proofs.YtomcfjckhajhmabGreatDoor
namespace Go.Proofs.YtomcfjckhajhmabGreatDoor
open Go.RowKit
attribute [local go_sem] Oper.semAt_some

/-- the places where objects begin, from p on -/
def Chain (W : List Int) : Nat → List Nat → Prop
  | p, [] => W.length ≤ p
  | p, q :: rest => q = p ∧ p < W.length ∧ ∃ z : Nat, W[p + 2]? = some (z : Int) ∧ z ≤ 65536 ∧ Chain W (p + 3 + z) rest

end Go.Proofs.YtomcfjckhajhmabGreatDoor
namespace Go.Proofs.YtomcfjckhajhmabGreatDoor
open Go.RowKit Go.Shelf
attribute [local go_sem] Oper.semAt_some

/-- the references of places -/
def refsOf (ps : List Nat) : List Value := ps.map fun p : Nat => Value.int .u64 (2 * (p : Int))
/-- Returned a slice of these cells, in new memory. -/
def Lists (e : TypeId) (size : Nat) (k : Nat) (xs : List Value) (w : World) (en : Ending) (w' : World) : Prop :=
  ∃ v, en = .returned v ∧ w'.ownsRow 0 e size v k xs ∧ Fr [] w w' ∧ ∀ b, v.ownBlock = some b → w.heap.size ≤ b
theorem wpListIn_append_at {F : Fence} {n : Nat} {P : Program} (w : World) {ops : Array Oper} {rest : List Oper} {o : Oper} {a : Act} {Q : Exit → Act → World → Prop}
    (hg : o.guard = none) (s x : Operand) (t : TypeId) (hop : o.op = Op.call { callee := Callee.builtin Builtin.append, args := #[s, x], argTypes := #[t, t] })
    (e : TypeId) (i : TypeInfo) (z : Value) (size bytes : Nat) (h1 : P.underlying t = some (.slice e)) (h2 : P.info? e = some i) (h3 : i.zero = some z) (h4 : i.size = size) (h5 : i.bytes = bytes) (h6 : z.cells.size = size) (h7 : 0 < size)
    (v : Value) (k : Nat) (xs : List Value) (hs : a.eval s = v) (hown : w.ownsRow 0 e size v k xs) (ad : Addr) (m c : Nat) (news : List Value) (hx : a.eval x = .slice (some ad) m c) (hn : news.length = m * size)
    (hc : ∀ j u, news[j]? = some u → w.cell? (ad.add j) = some u) (h1c : ∀ u ∈ news, u.oneCell' = true) (b1 : k + m ≤ maxLen) (b2 : (k + m) * bytes ≤ 140737488355328)
    (hK : ∀ v' w', w'.ownsRow 0 e size v' (k + m) (xs ++ news) → w.grownBy w' v.ownBlock → (v'.ownBlock = v.ownBlock ∨ v'.ownBlock = some w.heap.size) → wpListIn F n P ops Q rest (a.put o.dst v') w') :
    wpListIn F n P ops Q (o :: rest) a w := by
  refine wpListIn_plain hg fun K hK' => ?_
  obtain ⟨v', w', hrun, r1, r2, r3⟩ := run_append_at (P := P) w t o.type e i z size bytes h1 h2 h3 h4 h5 h6 h7 v k xs hown ad m c news hn hc h1c b1 b2
  unfold Oper.wpIn
  refine ⟨?_, ?_⟩
  · simp [Oper.about, hop, resolve, Target.leads, Sem.run_pure]
  · rw [Oper.semAt_plain F _ _ (by rw [hop]; intro c hc'; cases hc')]
    simp [execOp, hop, resolve, invoke, builtin, hs, hx, hrun, Result.andThen]
    exact hK' _ _ (hK v' w' r1 r2 r3)
theorem row_cells {w : World} {b size : Nat} {e : TypeId} {v : Value} {n : Nat} {xs : List Value} (h : w.ownsRow b e size v n xs) {g : Nat} (hg : v.ownBlock = some g) : ∃ cur, w.heap[g]? = some (.cells cur e (0, 0)) := by
  rcases h.2 with ⟨rfl, rfl⟩ | ⟨g', cap, cur, rfl, hb, hh, _⟩
  · cases hg
  · cases hg; exact ⟨cur, hh⟩
theorem putObj_fr (W : World) (l : Nat) (o : Obj) : Fr [l] W (W.putObj l o) := ⟨rfl, rfl, rfl, by simp, fun k _ hn => World.putObj_heap_other (by simpa using hn)⟩
theorem not_cells {W : World} {k l : Nat} {o : Obj} {c : Array Value} {t : TypeId} {f : Nat × Nat} (h1 : W.heap[k]? = some (.cells c t f)) (h2 : W.heap[l]? = some o) (ho : o.isCells = false) : k ≠ l := by
  rintro rfl
  rw [h1] at h2
  cases h2
  cases ho
theorem chain_mem {W : List Int} : ∀ {ps : List Nat} {p q : Nat}, Chain W p ps → q ∈ ps → p ≤ q ∧ q < W.length
  | [], _, _, _, h => by cases h
  | r :: rest, p, q, hC, h => by
    obtain ⟨rfl, hlt, z, hz, hz2, hr⟩ := hC
    rcases List.mem_cons.1 h with rfl | h
    · exact ⟨Nat.le_refl _, hlt⟩
    · have := chain_mem hr h; omega
theorem chain_len {W : List Int} : ∀ {ps : List Nat} {p : Nat}, Chain W p ps → ps.length ≤ W.length
  | ps, p, hC => by
    have key : ∀ (ps : List Nat) (p : Nat), Chain W p ps → ps = [] ∨ ps.length + p ≤ W.length := by
      intro ps
      induction ps with
      | nil => exact fun _ _ => .inl rfl
      | cons r rest ih =>
        rintro p ⟨rfl, hlt, z, hz, hz2, hr⟩
        right
        rcases ih _ hr with rfl | h
        · simp; omega
        · simp; omega
    rcases key ps p hC with rfl | h
    · simp
    · omega
theorem mem_of_prefix {pre ps : List Nat} {x : Nat} (h : pre ++ [x] <+: ps) : x ∈ ps := h.subset (by simp)
theorem refsOf_snoc (pre : List Nat) (x : Nat) : refsOf (pre ++ [x]) = refsOf pre ++ [.int .u64 (2 * (x : Int))] := by simp [refsOf]
end Go.Proofs.YtomcfjckhajhmabGreatDoor
namespace Go.Proofs.YtomcfjckhajhmabGreatDoor
open Go.RowKit

/-- Returned the slice of z words of block g from p on, and only draws. -/
def Cuts (g p z : Nat) (w : World) (e : Ending) (w' : World) : Prop := ∃ o c, e = .returned (.slice (some ⟨g, o, none⟩) z c) ∧ (z ≠ 0 → o = p) ∧ ∃ m, w' = w.drewN m
end Go.Proofs.YtomcfjckhajhmabGreatDoor
namespace Go.Proofs.YtomcfjckhajhmabGreatDoor
open Go.RowKit

/-- Q where the region comes to its end; nothing else is let by. -/
def Norm (Q : Exit → Act → World → Prop) : Exit → Act → World → Prop
  | .normal, a, w => Q .normal a w
  | _, _, _ => False
theorem Norm.imp {Q : Exit → Act → World → Prop} : ∀ (e : Exit) (a : Act) (w : World), Norm Q e a w → Q e a w := fun e a w h => by
  cases e <;> first | exact h | exact (h : False).elim
theorem Norm.mk {Q : Exit → Act → World → Prop} {a : Act} {w : World} (h : Q .normal a w) : Norm Q .normal a w := h
theorem rowsIn_wide {n : Nat} {P : Program} {row : String} {args : Array Value} {w : World} {R : Value → World → Prop} (h : Rows P row args w R) : RowsIn Fence.wide n P row args w R :=
  fun c cs _ => let ⟨v, w', r, s⟩ := h c cs; ⟨v, w', r, stepsIn_wide.2 s⟩
theorem wpOp_round {P : Program} {ops : Array Oper} {Q : Exit → Act → World → Prop} {l n i : Nat} {K K' : Act → World → Prop} {a : Act} {w : World} (hnd : ∀ (i : Nat) (o : Oper), ops[i]? = some o → ∀ c, o.op ≠ Op.defer c) (hK : ∀ a w, K a w → K' a w)
    (h : wpOp P ops (Norm Q) i K a w) : wpOpIn (Fence.wide.inRound l) n P ops (Norm Q) i K' a w := by
  unfold wpOp at h
  unfold wpOpIn
  cases ho : ops[i]? with
  | none => simp only [ho] at h; exact hK _ _ h
  | some o =>
    simp only [ho] at h
    simp only
    by_cases hw : Region.wanted o (yielded ops a.tmps) = true
    · rw [if_pos hw] at h ⊢
      rcases h with h | ⟨-, a', w', h⟩
      · refine ⟨fun _ _ => trivial, ?_⟩
        rw [Fence.inRound_round, Oper.semAt_some l a.eval o (hnd i o ho)]
        unfold Oper.wp at h
        generalize (execOp a.eval o).run P w = r at *
        cases r with
        | ok x w' =>
          cases x <;> simp only [Oper.upon] at h <;> simp only [Oper.uponIn]
          case value u => exact hK _ _ h
          case skip => exact hK _ _ h
          case defer d => exact hK _ _ h
          case enter f args =>
            refine ⟨fun h0 => by simp [Fence.wide] at h0, CallsIn.inRound l (callsIn_wide.2 (h.mono fun e w'' he => ?_))⟩
            cases e with
            | returned u => exact hK _ _ he
            | panicked c => exact he
            | outgrown => exact he
          case row row args =>
            exact ⟨fun h0 => by simp [Fence.wide] at h0, rowsIn_wide (h.mono fun u w'' he => hK _ _ he)⟩
        | halt x w' => cases x <;> simp only [Oper.upon] at h <;> simp only [Oper.uponIn] <;> exact h
      · exact (h : False).elim
    · rw [if_neg hw] at h ⊢
      exact ⟨fun _ _ => trivial, hK _ _ h⟩
theorem wpAny_round {P : Program} {ops : Array Oper} {Q : Exit → Act → World → Prop} {md : Region.Mode} {l n : Nat} (hnd : ∀ (i : Nat) (o : Oper), ops[i]? = some o → ∀ c, o.op ≠ Op.defer c) : ∀ (fuel : Nat) (listed : Array Bool) (a : Act) (w : World),
    wpAny P md ops (Norm Q) fuel listed a w → wpAnyIn (Fence.wide.inRound l) n P md ops (Norm Q) fuel listed a w
  | 0, _, _, _, h => h
  | fuel + 1, _, _, _, h => ⟨h.1, fun i hi => wpOp_round hnd (fun a' w' h' => wpAny_round hnd fuel _ a' w' h') (h.2 i hi)⟩
/-- A region that draws, in a round, by the laws of held worlds. -/
theorem region_round {P : Program} {ops : List Oper} {Q : Exit → Act → World → Prop} {S : World → Prop} {l n id : Nat} {a : Act} {w : World} (hm : P.follows .mixedOrders = true) (hnd : ops.all (fun o : Oper => match o.op with | Op.defer _ => false | _ => true) = true) (hS : S w.drew)
    (h : S w.drew → wpAnyH P .any ops.toArray (Norm Q) S ops.toArray.size (Array.replicate ops.toArray.size false) a w.drew) : (Code.region id ops.toArray true).wpIn (Fence.wide.inRound l) n P Q a w := by
  refine wpIn_mono (wpIn_region_any hm (wpAny_round ?_ _ _ _ _ (wpAny_of_held _ _ _ _ (h hS)))) Norm.imp
  intro i o ho c hc
  have hm : o ∈ ops := by
    have := List.mem_of_getElem? (l := ops) (i := i) (a := o) (by simpa using ho)
    exact this
  have := List.all_eq_true.1 hnd o hm
  rw [hc] at this
  cases this
/-- The same where the frame is a function's own. -/
theorem region_plain {P : Program} {ops : List Oper} {Q : Exit → Act → World → Prop} {S : World → Prop} {n id : Nat} {a : Act} {w : World} (hm : P.follows .mixedOrders = true) (hS : S w.drew)
    (h : S w.drew → wpAnyH P .any ops.toArray (Norm Q) S ops.toArray.size (Array.replicate ops.toArray.size false) a w.drew) : (Code.region id ops.toArray true).wpIn Fence.wide n P Q a w :=
  wpIn_wide.2 (Code.wp_mono Norm.imp (wp_region_held_drew hm hS h))
end Go.Proofs.YtomcfjckhajhmabGreatDoor
namespace Go.Proofs.YtomcfjckhajhmabGreatDoor
open Go.RowKit
section
variable {P : Program} {ops : Array Oper} {Q : Exit → Act → World → Prop} {md : Region.Mode} {S : World → Prop} {z : Nat}

/-- whatever order is picked: behind each operation but z the world meets S -/
def Walk (P : Program) (md : Region.Mode) (ops : Array Oper) (Q : Exit → Act → World → Prop) (S : World → Prop) (z : Nat) : Nat → Array Bool → Act → World → Prop
  | 0, listed, a, w => Region.ready md ops listed = [] ∧ Q .normal a w
  | fuel + 1, listed, a, w => (Region.ready md ops listed = [] → Q .normal a w) ∧ ∀ i ∈ Region.ready md ops listed, wpOp P ops Q i (fun a' w' => (i ≠ z → S w') ∧ Walk P md ops Q S z fuel (listed.setIfInBounds i true) a' w') a w
theorem Walk.any : ∀ (fuel : Nat) (listed : Array Bool) (a : Act) (w : World), Walk P md ops Q S z fuel listed a w → wpAny P md ops Q fuel listed a w
  | 0, _, _, _, h => h
  | fuel + 1, _, _, _, h => ⟨h.1, fun i hi => wpOp_mono (fun a' w' h' => Walk.any fuel _ a' w' h'.2) (h.2 i hi)⟩
/-- operation z waits for operation i -/
def waits (md : Region.Mode) (ops : Array Oper) (z i : Nat) : Bool := match ops[z]? with | some o => o.after.any (fun e => Region.binds md e && e.on == i) | none => false
theorem Walk.first {i : Nat} {oi : Oper} {v : Value} (hi : ops[i]? = some oi) (hsel : ∀ (j : Nat) (o : Oper) cs b, ops[j]? = some o → o.op ≠ .select cs b) (hQ : ∀ c a w, Q (.panic c) (a.put oi.dst v) w → Q (.panic c) a w) (hz : waits md ops z i = true) :
    ∀ (fuel : Nat) (listed : Array Bool) (a : Act) (w : World), (∀ j oj, ops[j]? = some oj → j ≠ i → listed.getD j true = false → (∀ e ∈ oj.after, Region.binds md e = true → e.on ≠ i) → oi.apart ops oj = true) →
      i ∈ Region.ready md ops listed → YieldsIf P ops S oi v a → S w → Walk P md ops Q S z fuel (listed.setIfInBounds i true) (a.put oi.dst v) w → Walk P md ops Q S z (fuel + 1) listed a w := by
  -- what comes up while i has not does not wait for i
  have free : ∀ {listed : Array Bool} {j : Nat}, i ∈ Region.ready md ops listed → j ∈ Region.ready md ops listed → listed.getD j true = false ∧ ∃ oj, ops[j]? = some oj ∧ ∀ e ∈ oj.after, Region.binds md e = true → e.on ≠ i := by
    intro listed j hr hj
    obtain ⟨hun, oj, hoj, hall⟩ := mem_ready.1 hj
    refine ⟨hun, oj, hoj, fun e he hb heq => ?_⟩
    have h1 := hall e he hb
    have h0 := (mem_ready.1 hr).1
    rw [heq] at h1
    by_cases h' : i < listed.size
    · simp [h'] at h0 h1
      rw [h0] at h1
      cases h1
    · simp [Array.getElem?_eq_none (Nat.le_of_not_lt h')] at h1
  have notz : ∀ {listed : Array Bool} {j : Nat}, i ∈ Region.ready md ops listed → j ∈ Region.ready md ops listed → j ≠ z := by
    rintro listed j hr hj rfl
    obtain ⟨-, oj, hoj, hno⟩ := free hr hj
    unfold waits at hz
    rw [hoj] at hz
    obtain ⟨e, he, hb⟩ := Array.any_eq_true'.1 hz
    simp only [Bool.and_eq_true, beq_iff_eq] at hb
    exact hno e he hb.1 hb.2
  have self : ∀ {fuel : Nat} {listed : Array Bool} {a : Act} {w : World}, YieldsIf P ops S oi v a → S w → Walk P md ops Q S z fuel (listed.setIfInBounds i true) (a.put oi.dst v) w → wpOp P ops Q i (fun a' w' => (i ≠ z → S w') ∧ Walk P md ops Q S z fuel (listed.setIfInBounds i true) a' w') a w :=
    fun hy hS H => hy.wpOp hi hS ⟨fun _ => hS, H⟩
  intro fuel
  induction fuel with
  | zero =>
    intro listed a w _ hr hy hS H
    refine ⟨fun h => (by rw [h] at hr; cases hr), fun j hj => ?_⟩
    by_cases hji : j = i
    · subst hji
      exact self hy hS H
    · have := ready_mono hj hji
      rw [H.1] at this
      cases this
  | succ fuel ih =>
    intro listed a w hfree hr hy hS H
    refine ⟨fun h => (by rw [h] at hr; cases hr), fun j hj => ?_⟩
    by_cases hji : j = i
    · subst hji
      exact self hy hS H
    · obtain ⟨hun, oj, hoj, hno⟩ := free hr hj
      have hjz := notz hr hj
      refine wpOp_mono (fun a' w' h3 => ⟨fun _ => h3.2.1 hjz, ?_⟩) (wpOp_putIf hoj (hfree j oj hoj hji hun hno) (fun cs b => hsel i oi cs b hi) (fun cs b => hsel j oj cs b hoj) hQ hy (H.2 j (ready_mono hj hji)))
      refine ih _ a' w' (fun k ok hk hki hunk hnok => hfree k ok hk hki ?_ hnok) (ready_mono hr (Ne.symm hji)) h3.1 (h3.2.1 hjz) ?_
      · by_cases hjk : j = k
        · subst hjk; exact hun
        · rw [getD_set_ne true hjk] at hunk; exact hunk
      · rw [Array.setIfInBounds_comm _ _ hji]
        exact h3.2.2
theorem Walk.take {i : Nat} {oi : Oper} {v : Value} {fuel : Nat} {listed : Array Bool} {a : Act} {w : World} (hi : ops[i]? = some oi) (hs : Region.noSelect ops = true) (hf : Region.free md ops listed i = true) (hr : (Region.ready md ops listed).contains i = true) (hz : waits md ops z i = true)
    (hQ : ∀ c a w, Q (.panic c) (a.put oi.dst v) w → Q (.panic c) a w) (hy : YieldsIf P ops S oi v a) (hS : S w) (h : Walk P md ops Q S z fuel (listed.setIfInBounds i true) (a.put oi.dst v) w) : Walk P md ops Q S z (fuel + 1) listed a w :=
  Walk.first hi (Region.noSelect_spec hs) hQ hz fuel listed a w (Region.free_spec hi hf) (by simpa using hr) hy hS h
/-- one operation alone may come up -/
theorem Walk.one {i : Nat} {o : Oper} {fuel : Nat} {listed : Array Bool} {a : Act} {w : World} (ho : ops[i]? = some o) (hr : Region.ready md ops listed = [i]) (hw : Region.wanted o (yielded ops a.tmps) = true)
    (h : ∀ K : Act → World → Prop, Shut (∀ a w, (i ≠ z → S w) → ((i ≠ z → S w) → Walk P md ops Q S z fuel (listed.setIfInBounds i true) a w) → K a w) → Oper.wp P o a w K Q) : Walk P md ops Q S z (fuel + 1) listed a w := by
  refine ⟨fun h0 => (by rw [hr] at h0; cases h0), fun j hj => ?_⟩
  rw [hr] at hj
  simp at hj
  subst hj
  unfold wpOp
  simp only [ho]
  rw [if_pos hw]
  exact .inl (h _ (fun a w hS hW => ⟨hS, hW hS⟩))
theorem Walk.done {listed : Array Bool} {a : Act} {w : World} (hr : Region.ready md ops listed = []) (h : Q .normal a w) : ∀ fuel, Walk P md ops Q S z fuel listed a w
  | 0 => ⟨hr, h⟩
  | _ + 1 => ⟨fun _ => h, by rw [hr]; simp⟩
end
/-- A region that draws, in a round. -/
theorem walk_round {P : Program} {ops : List Oper} {Q : Exit → Act → World → Prop} (S : World → Prop) (z : Nat) {l n id : Nat} {a : Act} {w : World} (hm : P.follows .mixedOrders = true) (hnd : ops.all (fun o : Oper => match o.op with | Op.defer _ => false | _ => true) = true) (hS : S w.drew)
    (h : S w.drew → Walk P .any ops.toArray (Norm Q) S z ops.toArray.size (Array.replicate ops.toArray.size false) a w.drew) : (Code.region id ops.toArray true).wpIn (Fence.wide.inRound l) n P Q a w := by
  refine wpIn_mono (wpIn_region_any hm (wpAny_round ?_ _ _ _ _ (Walk.any _ _ _ _ (h hS)))) Norm.imp
  intro i o ho c hc
  have hm : o ∈ ops := List.mem_of_getElem? (l := ops) (i := i) (by simpa using ho)
  have := List.all_eq_true.1 hnd o hm
  rw [hc] at this
  cases this
/-- A region that draws, in a function's own frame. -/
theorem walk_plain {P : Program} {ops : List Oper} {Q : Exit → Act → World → Prop} (S : World → Prop) (z : Nat) {id : Nat} {a : Act} {w : World} (hm : P.follows .mixedOrders = true) (hS : S w.drew)
    (h : S w.drew → Walk P .any ops.toArray (Norm Q) S z ops.toArray.size (Array.replicate ops.toArray.size false) a w.drew) : (Code.region id ops.toArray true).wp P Q a w :=
  Code.wp_mono Norm.imp (wp_region_any hm (Walk.any _ _ _ _ (h hS)))
end Go.Proofs.YtomcfjckhajhmabGreatDoor
namespace Go.Proofs.YtomcfjckhajhmabGreatDoor
open Go.RowKit

theorem Fr.join {S : List Nat} {a b c : World} (h : Fr [] a b) (k : Fr S b c) (hS : ∀ j ∈ S, a.heap.size ≤ j) : Fr [] a c :=
  h.trans' k (fun _ _ e => by cases e) (fun j hj e => by have := hS j e; omega)
section
variable {w0 w : World} {hb mb : Nat} {m : Mem}
end
end Go.Proofs.YtomcfjckhajhmabGreatDoor
