/- A range over a closure: a law for the walk, over any program: what holds between two rounds, what a round that goes on or returns leaves. Package class's pairAt, pairs, find: a selector in a dictionary. Package class's find: where the first pair with a selector begins. A range over a closure that writes one of its own boxes between two rounds: a law for the walk, over any program. Package class's lineage: a class and its superclasses, ranged over. Package class's Lookup: the method that understands a selector. -/
import Derived.Test.YtofhgfgipdokbaaGreatDoorMRanges
import Derived.Test.YtofhgfgipdokbaaGreatDoorMKlsB
import Derived.OwnWalkIn
import Derived.TacticsInMore
import Derived.LoopNIn
import Derived.LoopIn
import Derived.Shelf.Abstract
namespace Go.Proofs.YtofhgfgipdokbaaGreatDoor
open Go.RowKit
variable {F : Fence} {n : Nat} {P : Program}

/-- what a closure that is ranged over promises: it yields xs one by one, in worlds of which R holds, till a round says no -/
def YieldsC {α : Type} (F : Fence) (n : Nat) (P : Program) (gf : Nat) (caps : Array Value) (encs : α → Array Value) (R : World → Prop) (xs : List α) : Prop :=
  ∀ (l : Nat) (J Jx : List α → World → Prop) (W : World), (∀ pre W1, J pre W1 → R W1) → (∀ pre W1 W2, J pre W1 → Fr [] W1 W2 → J pre W2) →
    (∀ pre x W1, J pre W1 → pre ++ [x] <+: xs → YieldAt F (n - 1) P l (encs x) W1 fun e W' => (e = .returned (.bool true) ∧ J (pre ++ [x]) W') ∨ (e = .returned (.bool false) ∧ Jx (pre ++ [x]) W')) →
    J [] W → CallsIn F n P gf (#[.func (.yield l) #[] #[]] ++ caps) W fun e W' => (∃ v, e = .returned v) ∧ (J xs W' ∨ ∃ pre, pre <+: xs ∧ Jx pre W')

set_option maxHeartbeats 1000000 in
theorem wpIn_range_cap {α : Type} {g : Operand} {ps : Array Tmp} {assign body : Code} {Q : Exit → Act → World → Prop} {a : Act} {w : World}
    (hro : F.round = none) (h1 : 1 ≤ n) {gf : Nat} {caps : Array Value} (hg : a.eval g = .func (.func gf) #[] caps) (hFg : F.fn gf) (eg : ∀ args w, (callFunc gf args).run P w = .ok (.enter gf args) w)
    {encs : α → Array Value} {R : World → Prop} {xs : List α} (hseq : YieldsC F (n - 1) P gf caps encs R xs) (hps : ∀ x, (encs x).size = ps.size)
    (I Ix : List α → World → Prop) (hR : ∀ pre W, I pre W → R W) (hIst : ∀ pre W1 W2, I pre W1 → Fr [] W1 W2 → I pre W2) (hI : Blind w.heap.size I) (hIx : Blind w.heap.size Ix) (hal : ∀ W o, I [] W → I [] (W.alloc o)) (h0 : I [] w) (a₁ : α → World → Act) (W₁ : α → World → World) (hW₁ : ∀ x W, Fr [] W (W₁ x W))
    (hassign : ∀ (l : Nat) (x : α) (W : World) (K : Act → World → Prop), K (a₁ x W) (W₁ x W) →
      assign.wpIn (F.inRound l) (n - 1 - 1) P (Exit.then K (fun _ _ _ => False)) { tmps := (ps.zip (encs x)).foldl (fun t (p, v) => t.setIfInBounds p v) a.tmps, defers := [] } W)
    (hbody : ∀ (l : Nat) (pre : List α) (x : α) (V W : World), I pre V → I pre W → pre ++ [x] <+: xs → l < V.heap.size → w.heap.size ≤ l → (∀ k, k ≠ l → W.heap[k]? = (W₁ x V).heap[k]?) → W.heap.size = (W₁ x V).heap.size → body.wpIn (F.inRound l) (n - 1 - 1) P (RoundEnds w.heap.size I Ix (pre ++ [x]) W) (a₁ x V) W)
    (hdone : ∀ (D : Nat) (W : World), w.heap.size ≤ D → I xs W → W.heap[D]? = some (.deferred (some [])) → Q .normal { a with defers := { target := .collected D, args := #[] } :: a.defers } W)
    (hstop : ∀ (D : Nat) (pre : List α) (W : World), w.heap.size ≤ D → pre <+: xs → Ix pre W → W.heap[D]? = some (.deferred (some [])) → Code.ret.wpIn F n P Q { a with defers := { target := .collected D, args := #[] } :: a.defers } W) :
    (Code.rangeFunc g ps assign body).wpIn F n P Q a w := by
  refine wpIn_rangeFunc fun fn hfn => ?_
  rw [hro]
  -- the loop's record, in its states; the world in which the method is called
  obtain ⟨rc, hrc⟩ : ∃ rc : LoopState → Option Code → Loop, rc = fun st pe => { state := st, pending := pe, fn, tmps := a.tmps, params := ps, assign, body, defers := w.heap.size } := ⟨_, rfl⟩
  have hD0 : ((w.alloc (.deferred (some []))).alloc (.loop (rc .ready none))).heap[w.heap.size]? = some (.deferred (some [])) :=
    (Below.heap_alloc _ _ _ (by simp)).trans (heap_new w _)
  have hL0 : ((w.alloc (.deferred (some []))).alloc (.loop (rc .ready none))).heap[w.heap.size + 1]? = some (.loop (rc .ready none)) := by
    have := heap_new (w.alloc (.deferred (some []))) (.loop (rc .ready none))
    simpa using this
  have hI0 : I [] ((w.alloc (.deferred (some []))).alloc (.loop (rc .ready none))) := hal _ _ (hal _ _ h0)
  have hin : (Instr.enterLoop fn a.tmps ps assign body none).run P w = .ok (w.heap.size + 1, [{ target := .collected w.heap.size, args := #[] }]) ((w.alloc (.deferred (some []))).alloc (.loop (rc .ready none))) := by
    rw [hrc]; exact run_enterLoop_outer _ _ _ _ _
  generalize (w.alloc (.deferred (some []))).alloc (.loop (rc .ready none)) = W0 at hD0 hL0 hI0 hin
  refine ⟨_, _, W0, { target := .fn (.func gf) caps, args := #[.func (.yield (w.heap.size + 1)) #[] #[]] }, W0, gf, #[.func (.yield (w.heap.size + 1)) #[] #[]] ++ caps, W0, hin, ?_, ?_, ?_, fun _ => h1, ?_⟩
  · simp only [resolve, hg]
    simp [go_sem]
  · intro f' hf'
    simp [Target.leads] at hf'
    subst hf'
    exact hFg
  · simp [invoke, go_sem, eg]
  refine (hseq (w.heap.size + 1)
    (fun pre W => I pre W ∧ W.heap[w.heap.size + 1]? = some (.loop (rc .ready none)) ∧ W.heap[w.heap.size]? = some (.deferred (some [])))
    (fun pre W => Ix pre W ∧ W.heap[w.heap.size + 1]? = some (.loop (rc .done (some .ret))) ∧ W.heap[w.heap.size]? = some (.deferred (some [])))
    W0 (fun pre W1 h => hR pre W1 h.1) (fun pre W1 W2 h hF => ⟨hIst pre W1 W2 h.1 hF, hF.heap (by simp) h.2.1, hF.heap (by simp) h.2.2⟩) ?_ ⟨hI0, hL0, hD0⟩).mono ?_
  · rintro pre x W ⟨hi, hl, hk⟩ hpre
    have hlt : w.heap.size + 1 < W.heap.size := lt_of_heap hl
    have hy := run_yield (P := P) (args := encs x) hl (by rw [hrc]; exact hps x)
    rw [hrc] at hy
    have hF1 := hW₁ x W
    have hl1 := hF1.heap (by simp) hl
    have hk1 := hF1.heap (by simp) hk
    have hi1 := hIst pre W _ hi hF1
    have hlt1 : w.heap.size + 1 < (W₁ x W).heap.size := lt_of_heap hl1
    refine ⟨fn, _, assign, body, hy, roundIn_of_wpIn hfn (hassign _ x W _ ⟨_, run_beginRound hl1 (by rw [hrc]), ?_⟩)⟩
    have hb := hbody (w.heap.size + 1) pre x W _ hi (hI pre (W₁ x W) (w.heap.size + 1) _ (.loop { rc .ready none with state := .busy }) (by omega) hl1 rfl hi1) hpre hlt (by omega) (fun k hk => World.putObj_heap_other hk) (by simp [World.putObj])
    have hl2 : ((W₁ x W).putObj (w.heap.size + 1) (.loop { rc .ready none with state := .busy })).heap[w.heap.size + 1]? = some (.loop { rc .ready none with state := .busy }) := World.putObj_heap_same hlt1
    have hk2 : ((W₁ x W).putObj (w.heap.size + 1) (.loop { rc .ready none with state := .busy })).heap[w.heap.size]? = some (.deferred (some [])) := (World.putObj_heap_other (by omega)).trans hk1
    refine wpIn_mono hb ?_
    intro e a3 W3 hp
    have hends : ∀ jump : Option Code, KeepsFrom w.heap.size ((W₁ x W).putObj (w.heap.size + 1) (.loop { rc .ready none with state := .busy })) W3 →
        ∃ W4, (Instr.endRound (w.heap.size + 1) jump).run P W3 = .ok (.bool jump.isNone) W4 ∧ (∀ J : List α → World → Prop, Blind w.heap.size J → ∀ p, J p W3 → J p W4) ∧
          W4.heap[w.heap.size + 1]? = some (.loop (rc (if jump.isNone then .ready else .done) jump)) ∧ W4.heap[w.heap.size]? = some (.deferred (some [])) := by
      intro jump hk3
      have hl3 := hk3.same _ _ (by omega) hl2 rfl
      have hr3 := run_endRound (P := P) jump hl3
      refine ⟨_, hr3, fun J hJ p hj => hJ p W3 _ _ _ (by omega) hl3 rfl hj, ?_, (World.putObj_heap_other (by omega)).trans (hk3.same _ _ (Nat.le_refl _) hk2 rfl)⟩
      rw [World.putObj_heap_same (lt_of_heap hl3), hrc]
    cases e with
    | normal =>
      obtain ⟨hk3, hi3⟩ := hp
      obtain ⟨W4, hr, hJ, hl4, hk4⟩ := hends none hk3
      exact ⟨_, W4, hr, .inl ⟨rfl, hJ I hI _ hi3, hl4, hk4⟩⟩
    | ret =>
      obtain ⟨hk3, hi3⟩ := hp
      obtain ⟨W4, hr, hJ, hl4, hk4⟩ := hends (some .ret) hk3
      exact ⟨_, W4, hr, .inr ⟨rfl, hJ Ix hIx _ hi3, hl4, hk4⟩⟩
    | exit id => exact hp.elim
    | goto t => exact hp.elim
    | panic ch => exact hp.elim
    | outgrown => exact hp.elim
  · rintro e W2 ⟨⟨v, rfl⟩, (⟨hi, hl, hk⟩ | ⟨pre, hpre, hi, hl, hk⟩)⟩
    · have he := run_endLoop (P := P) hl (by rw [hrc]; simp)
      exact ⟨none, _, by rw [he, hrc], hdone _ _ (Nat.le_refl _) (hI _ _ _ _ _ (by omega) hl rfl hi) ((World.putObj_heap_other (by omega)).trans hk)⟩
    · have he := run_endLoop (P := P) hl (by rw [hrc]; simp)
      exact ⟨some .ret, _, by rw [he, hrc], hstop _ pre _ (Nat.le_refl _) hpre (hIx _ _ _ _ _ (by omega) hl rfl hi) ((World.putObj_heap_other (by omega)).trans hk)⟩
end Go.Proofs.YtofhgfgipdokbaaGreatDoor
namespace Go.Proofs.YtofhgfgipdokbaaGreatDoor
open Go.RowKit
attribute [local go_sem] Oper.semAt_some

section
variable {W : World} {hb mb : Nat} {lim root hashes : Int} {os : List Ob} {wv sv : Value}
theorem kread (h : HpAt W hb mb lim os root hashes wv sv) (x : Int) (hx : WB x) : Calls Tryz.prog 86 #[.pointer (some ⟨hb, 0, none⟩), .int .u64 x] W (Still (.tuple #[(readF os root x).val, .bool (isClsB os root x)]) W) := by
  cases hn : (sizeAt os x == 4 && isOfB os root x 7)
  · have hc : isClsB os root x = false := by unfold isClsB; rw [hn]; simp
    have hf : readF os root x = Frm.zero := by unfold readF; rw [hc]; rfl
    rw [hc, hf]
    exact kread_no h x hx hn
  · exact kread_yes h x hx hn
theorem kpairAt (h : HpAt W hb mb lim os root hashes wv sv) (x : Int) (k : Nat) (hx : WB x) (hk : k ≤ 70000) : Calls Tryz.prog 69 #[.pointer (some ⟨hb, 0, none⟩), .int .u64 x, .int .i64 k] W (Still (.agg #[.int .u64 (fieldV os x k), .int .u64 (fieldV os x (k + 1))]) W) := by
  have h1 := fun w' (hF : Fr [] W w') => kfetch (h.fr0 hF) x k hx (by omega) (by omega)
  have h2 := fun w' (hF : Fr [] W w') => kfetch (h.fr0 hF) x (k + 1) hx (by omega) (by omega)
  generalize fieldV os x (k + 1) = V2 at *
  generalize fieldE os x (k + 1) = E2 at *
  generalize fieldV os x k = V1 at *
  generalize fieldE os x k = E1 at *
  have k0 : (0 : Int) ≤ (k : Int) := by omega
  have k1 : (k : Int) ≤ 70000 := by omega
  clear h
  go_enter Tryz.func69, Tryz.ntmps69
  go_wp2_with fail
  refine (h1 _ (by first | exact Fr.refl _ _ | exact (Fr.refl _ _).alloc _)).mono ?_
  rintro e w1 ⟨rfl, hF1⟩
  have HF1 : Hid (Fr [] W w1) := by first | exact hF1 | exact ((Fr.refl _ _).alloc _).trans hF1
  clear h1
  go_wp2_with fail
  have HB1 := Lib.hid (hF1.heap (k := W.heap.size) (by simp) (heap_new _ _))
  clear hF1
  refine (h2 _ HF1.out).mono ?_
  rintro e w2 ⟨rfl, hF2⟩
  have hB2 := hF2.heap (k := W.heap.size) (by simp) HB1.out
  have HF2 := Lib.hid (HF1.out.trans hF2)
  have HB2 := Lib.hid hB2
  have r0 := cell_of_heap (o := 0) hB2 rfl
  have r1 := cell_of_heap (o := 1) hB2 rfl
  have f0 := frozen_of_heap (o := 0) hB2
  have f1 := frozen_of_heap (o := 1) hB2
  have hlt : W.heap.size < w2.heap.size := lt_of_heap hB2
  clear h2 hF2 hB2
  go_wp2_with fail
  (try simp only [Exit.inBlock, Exit.then])
  refine bodyPost_ret (v := .agg #[.int .u64 V1, .int .u64 V2]) ?_ rfl ⟨rfl, ?_⟩
  · simp [results, Tryz.results69, go_sem]
    go_simp
  · (repeat (first | (with_reducible refine Fr.setCell ?_ (fun h => absurd h (Nat.lt_irrefl _)) _) | (with_reducible refine Fr.alloc ?_ _) | (with_reducible refine Fr.drew ?_) | (with_reducible exact HF2.out)))
/-- the pair number i of a dictionary: where it begins, its selector, its method -/
def prAt (os : List Ob) (x : Int) (i : Nat) : Nat × Int × Int := (2 * i, fieldV os x ((2 * i : Nat) : Int), fieldV os x (((2 * i : Nat) : Int) + 1))
def prN (os : List Ob) (x : Int) : Nat := (sizeAt os x + 1) / 2
def prs (os : List Ob) (x : Int) : List (Nat × Int × Int) := (List.range (prN os x)).map (prAt os x)
def prEnc (p : Nat × Int × Int) : Array Value := #[.int .i64 p.1, .agg #[.int .u64 p.2.1, .int .u64 p.2.2]]
theorem prs_split (os : List Ob) (x : Int) {i : Nat} (hi : i < prN os x) : (prs os x).take i ++ [prAt os x i] = (prs os x).take (i + 1) := by
  have h : (prs os x)[i]? = some (prAt os x i) := by unfold prs; rw [List.getElem?_map, List.getElem?_range hi]; rfl
  rw [List.take_add_one, h]; rfl
theorem prs_len (os : List Ob) (x : Int) : (prs os x).length = prN os x := by simp [prs]
/-- the heap and the dictionary that the closure holds; nothing that was there at W0 has changed -/
def PairW (W0 : World) (hb : Nat) (x : Int) (b1 b2 : Nat) (W : World) : Prop :=
  W.heap[b1]? = some (.cells #[.pointer (some ⟨hb, 0, none⟩)] 27 (0, 0)) ∧ W.heap[b2]? = some (.cells #[.int .u64 x] 24 (0, 0)) ∧ Fr [] W0 W
set_option maxRecDepth 100000 in
set_option maxHeartbeats 1000000 in
theorem pairs_yields {W0 : World} (hH0 : HpAt W0 hb mb lim os root hashes wv sv) (n : Nat) (_hn : 1 ≤ n) (x : Int) (hx : WB x) (b1 b2 : Nat) (hle : sizeAt os x ≤ 65536) : YieldsC Fence.wide n Tryz.prog 103 #[.pointer (some ⟨b1, 0, none⟩), .pointer (some ⟨b2, 0, none⟩)] prEnc (PairW W0 hb x b1 b2) (prs os x) := by
  intro l J Jx W hR hst hY h0
  have hW := hR [] W h0
  have HR := Lib.hid hR
  have HY := Lib.hid hY
  have HST := Lib.hid hst
  have H0 := Lib.hid h0
  obtain ⟨hb1, hb2, hF0⟩ := hW
  have hH := hH0.fr0 hF0
  have HH0 := Lib.hid hH0
  have hs := ksize hH x hx
  have c1 := cell_of_heap (o := 0) hb1 rfl
  have c2 := cell_of_heap (o := 0) hb2 rfl
  obtain ⟨Z, hZ⟩ : ∃ Z, Z = sizeAt os x := ⟨_, rfl⟩
  rw [← hZ] at hs hle
  have HZ := Lib.hid hZ
  clear hR hY h0 hH hb1 hb2 hF0 hst hZ hH0
  generalize sizeE os x = E at *
  refine callsIn_of_wp Tryz.func103 rfl trivial ?_ rfl
  simp only [Tryz.ntmps103, List.size_toArray, List.length_cons, List.length_nil, Nat.reduceAdd, Nat.reduceSub, Array.replicate_succ, Array.replicate_zero, List.push_toArray, List.append_toArray, List.nil_append, List.cons_append]
  gi_wp2_with (refine ⟨trivial, ?_⟩; gi_at_call 98; refine (callsIn_wide.2 hs).mono ?_; rintro e w1 ⟨rfl, hF1⟩; have HF1 := Lib.hid hF1; clear hF1)
  have HJ1 : Hid (J [] w1) := HST.out [] W w1 H0.out HF1.out
  clear hs c1 c2
  gi_loopw [6] (fun v wr => ∃ i : Nat, i ≤ prN os x ∧ v = .int .i64 ((2 * i : Nat) : Int) ∧ Hid (J ((prs os x).take i) wr)) (fun v _ => Z + 2 - (intOf v).toNat)
  case atStart => exact ⟨0, Nat.zero_le _, rfl, HJ1⟩
  case round =>
    obtain ⟨i, hi, rfl, hJ⟩ := hrel
    obtain ⟨hb1, hb2, hF0⟩ := HR.out _ wr hJ.out
    have hH := HH0.out.fr0 hF0
    have c1 := cell_of_heap (o := 0) hb1 rfl
    have c2 := cell_of_heap (o := 0) hb2 rfl
    have hN : prN os x = (Z + 1) / 2 := by unfold prN; rw [← HZ.out]
    obtain ⟨K, hK⟩ : ∃ K, K = 2 * i := ⟨_, rfl⟩
    rw [← hK]
    by_cases hlt : K < Z
    · have hiN : i < prN os x := by omega
      have hp := kpairAt hH x K hx (by omega)
      have hK0 : (0 : Int) ≤ (K : Int) := by omega
      have hK1 : (K : Int) < (Z : Int) := by omega
      have hK2 : (K : Int) ≤ 70000 := by omega
      have HSP := Lib.hid (prs_split os x hiN)
      have HPRE : Hid ((prs os x).take i ++ [prAt os x i] <+: prs os x) := by rw [HSP.out]; exact List.take_prefix _ _
      have HENC : Hid (prEnc (prAt os x i) = #[.int .i64 K, .agg #[.int .u64 (fieldV os x K), .int .u64 (fieldV os x (K + 1))]]) := by rw [hK]; exact rfl
      have HJ := Lib.hid hJ.out
      have HKI := Lib.hid hK
      have HINN := Lib.hid hiN
      clear hH hb1 hb2 hF0 hJ hN hK hiN
      generalize fieldV os x (K + 1) = V2 at *
      generalize fieldV os x K = V1 at *
      gi_wp2_with (refine ⟨trivial, ?_⟩; gi_at_call 69; refine (callsIn_wide.2 hp).mono ?_; rintro e w2 ⟨rfl, hF2⟩; have HJ2 := Lib.hid (HST.out _ _ _ HJ.out hF2); obtain ⟨fn, tmps, assign, body, hy, hRd⟩ := HY.out _ _ w2 HJ2.out HPRE.out; rw [HENC.out] at hy; clear hF2)
      refine hRd.mono ?_
      rintro e W3 (⟨rfl, hJ3⟩ | ⟨rfl, hJx3⟩)
      · have HJ3 : Hid (J ((prs os x).take (i + 1)) W3) := by rw [← HSP.out]; exact hJ3
        have hin := HINN.out
        have hki := HKI.out
        clear hJ3 HKI
        gi_wp2
        go_roundw
        case rel => exact ⟨i + 1, by omega, vi (by omega), HJ3⟩
        case measure => simp [intOf]; omega
      · gi_wp2
        refine bodyPost_ret (results_none rfl _ _ _) rfl ?_
        exact ⟨⟨_, rfl⟩, .inr ⟨_, HPRE.out, hJx3⟩⟩
    · have hi2 : i = prN os x := by omega
      have HJE : Hid (J (prs os x) wr) := by
        have := hJ.out
        rw [hi2, ← prs_len, List.take_length] at this
        exact this
      clear hH hb1 hb2 hF0 hN hi2 hK
      gi_wp2
      go_end0
      exact ⟨⟨_, rfl⟩, .inl HJE.out⟩
end
end Go.Proofs.YtofhgfgipdokbaaGreatDoor
namespace Go.Proofs.YtofhgfgipdokbaaGreatDoor
open Go.RowKit
attribute [local go_sem] Oper.semAt_some

/-- the place of the first pair with a selector -/
def findI (os : List Ob) (x s : Int) : Option (Nat × Int × Int) := (prs os x).find? fun p => p.2.1 == s
def findV (os : List Ob) (x s : Int) : Int := match findI os x s with | some p => (p.1 : Int) | none => 0
def findB (os : List Ob) (x s : Int) : Bool := (findI os x s).isSome
section
variable {W : World} {hb mb : Nat} {lim root hashes : Int} {os : List Ob} {wv sv : Value}
theorem PairW.put {W0 V : World} {x : Int} {b1 b2 l : Nat} {o : Obj} (o' : Obj) (h : PairW W0 hb x b1 b2 V) (hl : W0.heap.size ≤ l) (hh : V.heap[l]? = some o) (hc : o.isCells = false) : PairW W0 hb x b1 b2 (V.putObj l o') := by
  have hF := putObj_fr V l o'
  exact ⟨hF.heap (by simpa using not_cells h.1 hh hc) h.1, hF.heap (by simpa using not_cells h.2.1 hh hc) h.2.1, h.2.2.trans' hF (fun _ _ e => by cases e) (fun j hj e => by simp at e; omega)⟩
theorem PairW.go {W0 V V' : World} {x : Int} {b1 b2 : Nat} (h : PairW W0 hb x b1 b2 V) (hF : Fr [] V V') : PairW W0 hb x b1 b2 V' := ⟨hF.heap (by simp) h.1, hF.heap (by simp) h.2.1, h.2.2.trans hF⟩
/-- the boxes of find: selector and results, at bs, bs + 1, bs + 1 + 1 -/
structure FBox (W0 : World) (hb : Nat) (x s : Int) (b1 b2 bs : Nat) (k : Int) (f : Bool) (V : World) : Prop where
  pw : PairW W0 hb x b1 b2 V
  sel : V.heap[bs]? = some (.cells #[.int .u64 s] 24 (0, 0))
  at' : V.heap[bs + 1]? = some (.cells #[.int .i64 k] 3 (0, 0))
  ok : V.heap[bs + 1 + 1]? = some (.cells #[.bool f] 4 (0, 0))
  new : W0.heap.size ≤ bs
theorem FBox.go {W0 V V' : World} {x s k : Int} {b1 b2 bs : Nat} {f : Bool} (h : FBox W0 hb x s b1 b2 bs k f V) (hF : Fr [] V V') : FBox W0 hb x s b1 b2 bs k f V' :=
  ⟨h.pw.go hF, hF.heap (by simp) h.sel, hF.heap (by simp) h.at', hF.heap (by simp) h.ok, h.new⟩
theorem FBox.put {W0 V : World} {x s k : Int} {b1 b2 bs l : Nat} {f : Bool} {o : Obj} (o' : Obj) (h : FBox W0 hb x s b1 b2 bs k f V) (hl : W0.heap.size ≤ l) (hh : V.heap[l]? = some o) (hc : o.isCells = false) : FBox W0 hb x s b1 b2 bs k f (V.putObj l o') := by
  have hF := putObj_fr V l o'
  exact ⟨h.pw.put o' hl hh hc, hF.heap (by simpa using not_cells h.sel hh hc) h.sel, hF.heap (by simpa using not_cells h.at' hh hc) h.at', hF.heap (by simpa using not_cells h.ok hh hc) h.ok, h.new⟩
theorem keeps_set {V : World} {b o : Nat} {c : Array Value} {t : TypeId} {f : Nat × Nat} (h : V.heap[b]? = some (.cells c t f)) (B : Nat) (u : Value) : KeepsFrom B V (V.setCell ⟨b, o, none⟩ u) :=
  ⟨by simp [World.setCell], fun q ob _ hq hoc => by
    rw [Below.heap_setCell _ _ _ _ (fun e' => by subst e'; rw [h] at hq; cases hq; cases hoc)]; exact hq⟩
theorem FBox.set {W0 V : World} {x s k : Int} {b1 b2 bs : Nat} {f : Bool} (h : FBox W0 hb x s b1 b2 bs k f V) (k' : Int) (f' : Bool) (h1 : b1 ≠ bs + 1 ∧ b1 ≠ bs + 1 + 1) : FBox W0 hb x s b1 b2 bs k' f' ((V.setCell ⟨bs + 1, 0, none⟩ (.int .i64 k')).setCell ⟨bs + 1 + 1, 0, none⟩ (.bool f')) := by
  have n1 : bs ≠ bs + 1 := by omega
  have n2 : bs + 1 ≠ bs + 1 + 1 := by omega
  have n3 : bs ≠ bs + 1 + 1 := by omega
  have hb2a : b2 ≠ bs + 1 := fun e => tag_ne h.pw.2.1 h.at' (by decide) e
  have hb2b : b2 ≠ bs + 1 + 1 := fun e => tag_ne h.pw.2.1 h.ok (by decide) e
  have hat : (V.setCell ⟨bs + 1, 0, none⟩ (.int .i64 k')).heap[bs + 1]? = some (.cells #[.int .i64 k'] 3 (0, 0)) := by
    have := heap_setCell_same h.at' (o := 0) (.int .i64 k'); simpa using this
  have hok : (V.setCell ⟨bs + 1, 0, none⟩ (.int .i64 k')).heap[bs + 1 + 1]? = some (.cells #[.bool f] 4 (0, 0)) := by
    rw [Below.heap_setCell _ _ _ _ (fun e => n2 e.symm)]; exact h.ok
  refine ⟨⟨?_, ?_, ?_⟩, ?_, ?_, ?_, h.new⟩
  · rw [Below.heap_setCell _ _ _ _ h1.2, Below.heap_setCell _ _ _ _ h1.1]; exact h.pw.1
  · rw [Below.heap_setCell _ _ _ _ hb2b, Below.heap_setCell _ _ _ _ hb2a]; exact h.pw.2.1
  · exact (h.pw.2.2.setCell (fun e => absurd e (by have := h.new; show ¬ bs + 1 < _; omega)) _).setCell (fun e => absurd e (by have := h.new; show ¬ bs + 1 + 1 < _; omega)) _
  · rw [Below.heap_setCell _ _ _ _ n3, Below.heap_setCell _ _ _ _ n1]; exact h.sel
  · rw [Below.heap_setCell _ _ _ _ n2]; exact hat
  · have := heap_setCell_same hok (o := 0) (.bool f'); simpa using this
/-- Returned the closure over the pairs. -/
def PairsTo (W : World) (hb : Nat) (x : Int) (e : Ending) (w' : World) : Prop := ∃ b1 b2, e = .returned (.func (.func 103) #[] #[.pointer (some ⟨b1, 0, none⟩), .pointer (some ⟨b2, 0, none⟩)]) ∧ PairW W hb x b1 b2 w'
set_option maxRecDepth 100000 in
theorem kpairs (W : World) (hb : Nat) (x : Int) : Calls Tryz.prog 87 #[.pointer (some ⟨hb, 0, none⟩), .int .u64 x] W (PairsTo W hb x) := by
  have hP : Hid (PairW W hb x W.heap.size (W.heap.size + 1) ((W.alloc (.cells #[.pointer (some ⟨hb, 0, none⟩)] 27)).alloc (.cells #[.int .u64 x] 24))) := by
    refine ⟨?_, ?_, ((Fr.refl _ _).alloc _).alloc _⟩
    · exact ((Fr.refl [] _).alloc _).heap (by simp) (heap_new W _)
    · have := heap_new (W.alloc (.cells #[.pointer (some ⟨hb, 0, none⟩)] 27)) (.cells #[.int .u64 x] 24)
      simpa using this
  go_enter Tryz.func87, Tryz.ntmps87
  go_wp2
  go_ret
  exact ⟨_, _, rfl, hP.out⟩
theorem find_of {os : List Ob} {x s : Int} {pre : List (Nat × Int × Int)} {pk : Nat} {pb : Int} (hall : ∀ p ∈ pre, p.2.1 ≠ s) (hpre : pre ++ [(pk, s, pb)] <+: prs os x) : findI os x s = some (pk, s, pb) := by
  obtain ⟨r, hr⟩ := hpre
  unfold findI
  rw [← hr, List.append_assoc, List.find?_append, List.find?_eq_none.2 (fun p hp => by simpa using hall p hp)]
  simp
theorem find_none {os : List Ob} {x s : Int} (hall : ∀ p ∈ prs os x, p.2.1 ≠ s) : findI os x s = none := by
  unfold findI
  exact List.find?_eq_none.2 (fun p hp => by simpa using hall p hp)
theorem wide_mono {n f : Nat} {args : Array Value} {w : World} {R R' : Ending → World → Prop} (h : CallsIn Fence.wide n Tryz.prog f args w R) (k : ∀ e w', R e w' → R' e w') : CallsIn Fence.wide n Tryz.prog f args w R' := h.mono k
set_option maxRecDepth 100000 in
set_option maxHeartbeats 4000000 in
theorem kfind (h : HpAt W hb mb lim os root hashes wv sv) (x s : Int) (hx : WB x) (hle : sizeAt os x ≤ 65536) : Calls Tryz.prog 68 #[.pointer (some ⟨hb, 0, none⟩), .int .u64 x, .int .u64 s] W (Still (.tuple #[.int .i64 (findV os x s), .bool (findB os x s)]) W) := by
  refine (callsIn_wide (n := 6)).1 ?_
  refine callsIn_of_wp_marks Tryz.func68 rfl trivial ?_ rfl
  simp only [Tryz.ntmps68, List.size_toArray, List.length_cons, List.length_nil, Nat.reduceAdd, Nat.reduceSub, Array.replicate_succ, Array.replicate_zero, List.push_toArray, List.append_toArray, List.nil_append, List.cons_append]
  have H := Lib.hid h
  clear h
  gi_wp2_with (refine ⟨trivial, ?_⟩; gi_at_call 87; refine (callsIn_wide.2 (kpairs _ hb x)).mono ?_; rintro e w1 ⟨b1, b2, rfl, hP⟩; have HP := Lib.hid hP; clear hP)
  have hV0 : Fr [] W (((W.alloc (.cells #[.int .u64 s] 24)).alloc (.cells #[.int .i64 0] 3)).alloc (.cells #[.bool false] 4)) := (((Fr.refl _ _).alloc _).alloc _).alloc _
  have h3 := three_new W (.cells #[.int .u64 s] 24) (.cells #[.int .i64 0] 3) (.cells #[.bool false] 4)
  have hB : FBox W hb x s b1 b2 W.heap.size 0 false w1 := by
    obtain ⟨p1, p2, p3⟩ := HP.out
    exact ⟨⟨p1, p2, hV0.trans p3⟩, p3.heap (by simp) h3.1, p3.heap (by simp) h3.2.1, p3.heap (by simp) h3.2.2, Nat.le_refl _⟩
  have hws : W.heap.size ≤ w1.heap.size := hB.pw.2.2.size
  clear hV0 h3 HP
  refine wpIn_range_cap (xs := prs os x) rfl (by omega) (gf := 103) (caps := #[.pointer (some ⟨b1, 0, none⟩), .pointer (some ⟨b2, 0, none⟩)]) rfl trivial (enters_of Tryz.func103 (by kernel_rfl) rfl) (pairs_yields H.out 5 (by omega) x hx b1 b2 hle) (fun _ => rfl)
    (fun pre V => FBox W hb x s b1 b2 W.heap.size 0 false V ∧ ∀ p ∈ pre, p.2.1 ≠ s)
    (fun _ V => ∃ p, FBox W hb x s b1 b2 W.heap.size (p.1 : Int) true V ∧ findI os x s = some p) (fun pre V h => h.1.pw) (fun pre V1 V2 h hF => ⟨h.1.go hF, h.2⟩) ?_ ?_ (fun V o h => ⟨h.1.go ((Fr.refl _ _).alloc _), h.2⟩) ⟨hB, fun p hp => by cases hp⟩
    (fun p V => { tmps := #[.pointer (some ⟨hb, 0, none⟩), .int .u64 x, .int .u64 s, undef, undef, .pointer (some ⟨W.heap.size, 0, none⟩), .pointer (some ⟨W.heap.size + 1, 0, none⟩), .pointer (some ⟨W.heap.size + 1 + 1, 0, none⟩), .int .i64 p.1, .pointer (some ⟨V.heap.size, 0, none⟩), .pointer (some ⟨hb, 0, none⟩), .int .u64 x, .func (.func 103) #[] #[.pointer (some ⟨b1, 0, none⟩), .pointer (some ⟨b2, 0, none⟩)], .int .i64 p.1, .agg #[.int .u64 p.2.1, .int .u64 p.2.2], undef, undef, undef, undef, undef], defers := [] })
    (fun p V => V.alloc (.cells #[.int .u64 p.2.1, .int .u64 p.2.2] 138)) (fun p V => (Fr.refl _ _).alloc _) ?assign ?body ?done ?stop
  · exact fun pre V l o o' hl hh hc h => ⟨h.1.put o' (Nat.le_trans hws hl) hh hc, h.2⟩
  · exact fun pre V l o o' hl hh hc ⟨p, h, e⟩ => ⟨p, h.put o' (Nat.le_trans hws hl) hh hc, e⟩
  case assign =>
    intro l p V K hK
    obtain ⟨pk, pa, pb⟩ := p
    simp only [prEnc]
    gi_wp2
    exact hK
  case body =>
    rintro l pre p V V' - ⟨hI, hall⟩ hpre hl hwl hk hsz
    have hbox : V'.heap[V.heap.size]? = some (.cells #[.int .u64 p.2.1, .int .u64 p.2.2] 138 (0, 0)) := by rw [hk _ (by omega)]; exact heap_new V _
    have c0 := cell_of_heap (o := 0) hbox rfl
    have c1 := cell_of_heap (o := 1) hbox rfl
    have cs := cell_of_heap (o := 0) hI.sel rfl
    have ck := cell_of_heap (o := 0) hI.at' rfl
    have cb := cell_of_heap (o := 0) hI.ok rfl
    have zk := frozen_of_heap (o := 0) hI.at'
    have zb := frozen_of_heap (o := 0) hI.ok
    have HI := Lib.hid hI
    have HALL := Lib.hid hall
    have HPRE := Lib.hid hpre
    obtain ⟨pk, pa, pb⟩ := p
    simp only at c0 c1 hbox ⊢
    clear hI hall hpre hk hsz hbox
    by_cases hs : pa = s
    · subst hs
      have hf : findI os x pa = some (pk, pa, pb) := find_of HALL.out HPRE.out
      gi_wp2
      have hn1 : b1 ≠ W.heap.size + 1 ∧ b1 ≠ W.heap.size + 1 + 1 := ⟨fun e => tag_ne HI.out.pw.1 HI.out.at' (by decide) e, fun e => tag_ne HI.out.pw.1 HI.out.ok (by decide) e⟩
      refine ⟨⟨by simp [World.setCell], fun q ob hq hqo hoc => ?_⟩, _, HI.out.set _ _ hn1, hf⟩
      have hk1 := keeps_set (o := 0) HI.out.at' w1.heap.size (.int .i64 pk)
      have hok2 : (V'.setCell ⟨W.heap.size + 1, 0, none⟩ (.int .i64 pk)).heap[W.heap.size + 1 + 1]? = some (.cells #[.bool false] 4 (0, 0)) := by
        rw [Below.heap_setCell _ _ _ _ (by show W.heap.size + 1 + 1 ≠ W.heap.size + 1; omega)]; exact HI.out.ok
      exact (keeps_set (o := 0) hok2 w1.heap.size (.bool true)).same q ob hq (hk1.same q ob hq hqo hoc) hoc
    · have hs' : (pa == s) = false := by simpa using hs
      have HS := Lib.hid hs
      clear hs
      gi_wp2
      refine ⟨KeepsFrom.refl _ _, HI.out, fun p hp => ?_⟩
      rcases List.mem_append.1 hp with hp | hp
      · exact HALL.out p hp
      · rw [List.mem_singleton] at hp
        rw [hp]
        exact HS.out
  case done =>
    rintro D V hD ⟨hI, hall⟩ hDK
    have ck := cell_of_heap (o := 0) hI.at' rfl
    have cb := cell_of_heap (o := 0) hI.ok rfl
    have zk := frozen_of_heap (o := 0) hI.at'
    have zb := frozen_of_heap (o := 0) hI.ok
    have hfn := find_none hall
    have HI := Lib.hid hI
    have HFN := Lib.hid hfn
    have HDK := Lib.hid hDK
    clear hI hall hDK hfn
    gi_wp2
    have hn1 : b1 ≠ W.heap.size + 1 ∧ b1 ≠ W.heap.size + 1 + 1 := ⟨fun e => tag_ne HI.out.pw.1 HI.out.at' (by decide) e, fun e => tag_ne HI.out.pw.1 HI.out.ok (by decide) e⟩
    have hset := HI.out.set 0 false hn1
    have hdk : ((V.setCell ⟨W.heap.size + 1, 0, none⟩ (.int .i64 0)).setCell ⟨W.heap.size + 1 + 1, 0, none⟩ (.bool false)).heap[D]? = some (.deferred (some [])) := by
      have e1 : D ≠ W.heap.size + 1 := fun e => by have h1 := HI.out.at'; rw [← e, HDK.out] at h1; cases h1
      have e2 : D ≠ W.heap.size + 1 + 1 := fun e => by have h1 := HI.out.ok; rw [← e, HDK.out] at h1; cases h1
      rw [Below.heap_setCell _ _ _ _ e2, Below.heap_setCell _ _ _ _ e1]; exact HDK.out
    refine ⟨by simp, .inl ⟨_, _, rfl, run_takeDeferred hdk, ?_⟩⟩
    have hL2 := hset.put (.deferred none) (Nat.le_trans hws hD) hdk rfl
    have r1 := cell_of_heap (o := 0) hL2.at' rfl
    have r2 := cell_of_heap (o := 0) hL2.ok rfl
    refine ⟨.tuple #[.int .i64 0, .bool false], ?_, ?_, hL2.pw.2.2⟩
    · simp [results, Tryz.results68, go_sem, r1, r2]
    · unfold findV findB; rw [HFN.out]; exact rfl
  case stop =>
    rintro D pre V hD hpre ⟨p, hI, hf⟩ hDK
    have HI := Lib.hid hI
    have HFN := Lib.hid hf
    have HDK := Lib.hid hDK
    clear hI hDK hf
    gi_wp2
    refine ⟨by simp, .inl ⟨_, _, rfl, run_takeDeferred HDK.out, ?_⟩⟩
    have hL2 := HI.out.put (.deferred none) (Nat.le_trans hws hD) HDK.out rfl
    have r1 := cell_of_heap (o := 0) hL2.at' rfl
    have r2 := cell_of_heap (o := 0) hL2.ok rfl
    refine ⟨.tuple #[.int .i64 p.1, .bool true], ?_, ?_, hL2.pw.2.2⟩
    · simp [results, Tryz.results68, go_sem, r1, r2]
    · unfold findV findB; rw [HFN.out]; exact rfl
end
end Go.Proofs.YtofhgfgipdokbaaGreatDoor
namespace Go.Proofs.YtofhgfgipdokbaaGreatDoor
open Go.RowKit
variable {F : Fence} {n : Nat} {P : Program}

/-- how a round may end that makes memory alone if it goes on -/
def RoundEndsN {α : Type} (B : Nat) (I Ix : List α → World → Prop) (xs : List α) (W : World) : Exit → Act → World → Prop
  | .normal, _, W' => KeepsFrom B W W' ∧ I xs W' ∧ Fr [] W W'
  | .ret, _, W' => KeepsFrom B W W' ∧ Ix xs W'
  | _, _, _ => False
/-- what a closure that is ranged over promises which writes its own box b2 between two rounds: it yields xs one by one, in worlds of which R holds, till a round says no -/
def YieldsL {α : Type} (F : Fence) (n : Nat) (P : Program) (gf : Nat) (caps : Array Value) (b2 : Nat) (R0 : World → Prop) (encs : α → Array Value) (R : World → Prop) (xs : List α) : Prop :=
  ∀ (l : Nat) (J Jx : List α → World → Prop) (W : World), (∀ pre W1, J pre W1 → R W1) → (∀ pre W1 W2, J pre W1 → Fr [] W1 W2 → J pre W2) → (∀ pre W1 u, J pre W1 → J pre (W1.setCell ⟨b2, 0, none⟩ u)) → (∃ st, W.heap[l]? = some (.loop st)) →
    (∀ pre x W1, J pre W1 → pre ++ [x] <+: xs → YieldAt F (n - 1) P l (encs x) W1 fun e W' => (e = .returned (.bool true) ∧ J (pre ++ [x]) W' ∧ Fr [l] W1 W') ∨ (e = .returned (.bool false) ∧ Jx (pre ++ [x]) W')) →
    J [] W → R0 W → CallsIn F n P gf (#[.func (.yield l) #[] #[]] ++ caps) W fun e W' => (∃ v, e = .returned v) ∧ (J xs W' ∨ ∃ pre, pre <+: xs ∧ Jx pre W')

set_option maxHeartbeats 1000000 in
theorem wpIn_range_line {α : Type} {g : Operand} {ps : Array Tmp} {assign body : Code} {Q : Exit → Act → World → Prop} {a : Act} {w : World}
    (hro : F.round = none) (h1 : 1 ≤ n) {gf : Nat} {caps : Array Value} (hg : a.eval g = .func (.func gf) #[] caps) (hFg : F.fn gf) (eg : ∀ args w, (callFunc gf args).run P w = .ok (.enter gf args) w)
    {encs : α → Array Value} {b2 : Nat} {R0 R : World → Prop} {xs : List α} (hseq : YieldsL F (n - 1) P gf caps b2 R0 encs R xs) (hps : ∀ x, (encs x).size = ps.size)
    (I Ix : List α → World → Prop) (hR : ∀ pre W, I pre W → R W) (hIst : ∀ pre W1 W2, I pre W1 → Fr [] W1 W2 → I pre W2) (hIset : ∀ pre W u, I pre W → I pre (W.setCell ⟨b2, 0, none⟩ u)) (hIb2 : ∀ pre W, I pre W → ∃ c t f, W.heap[b2]? = some (.cells c t f)) (hr0 : ∀ W, Fr [] w W → R0 W) (hI : Blind w.heap.size I) (hIx : Blind w.heap.size Ix) (hal : ∀ W o, I [] W → I [] (W.alloc o)) (h0 : I [] w) (a₁ : α → World → Act) (W₁ : α → World → World) (hW₁ : ∀ x W, Fr [] W (W₁ x W))
    (hassign : ∀ (l : Nat) (x : α) (W : World) (K : Act → World → Prop), K (a₁ x W) (W₁ x W) →
      assign.wpIn (F.inRound l) (n - 1 - 1) P (Exit.then K (fun _ _ _ => False)) { tmps := (ps.zip (encs x)).foldl (fun t (p, v) => t.setIfInBounds p v) a.tmps, defers := [] } W)
    (hbody : ∀ (l : Nat) (pre : List α) (x : α) (V W : World), I pre V → I pre W → pre ++ [x] <+: xs → l < V.heap.size → w.heap.size ≤ l → (∀ k, k ≠ l → W.heap[k]? = (W₁ x V).heap[k]?) → W.heap.size = (W₁ x V).heap.size → body.wpIn (F.inRound l) (n - 1 - 1) P (RoundEndsN w.heap.size I Ix (pre ++ [x]) W) (a₁ x V) W)
    (hdone : ∀ (D : Nat) (W : World), w.heap.size ≤ D → I xs W → W.heap[D]? = some (.deferred (some [])) → Q .normal { a with defers := { target := .collected D, args := #[] } :: a.defers } W)
    (hstop : ∀ (D : Nat) (pre : List α) (W : World), w.heap.size ≤ D → pre <+: xs → Ix pre W → W.heap[D]? = some (.deferred (some [])) → Code.ret.wpIn F n P Q { a with defers := { target := .collected D, args := #[] } :: a.defers } W) :
    (Code.rangeFunc g ps assign body).wpIn F n P Q a w := by
  refine wpIn_rangeFunc fun fn hfn => ?_
  rw [hro]
  -- the loop's record, in its states; the world in which the method is called
  obtain ⟨rc, hrc⟩ : ∃ rc : LoopState → Option Code → Loop, rc = fun st pe => { state := st, pending := pe, fn, tmps := a.tmps, params := ps, assign, body, defers := w.heap.size } := ⟨_, rfl⟩
  have hD0 : ((w.alloc (.deferred (some []))).alloc (.loop (rc .ready none))).heap[w.heap.size]? = some (.deferred (some [])) :=
    (Below.heap_alloc _ _ _ (by simp)).trans (heap_new w _)
  have hL0 : ((w.alloc (.deferred (some []))).alloc (.loop (rc .ready none))).heap[w.heap.size + 1]? = some (.loop (rc .ready none)) := by
    have := heap_new (w.alloc (.deferred (some []))) (.loop (rc .ready none))
    simpa using this
  have hI0 : I [] ((w.alloc (.deferred (some []))).alloc (.loop (rc .ready none))) := hal _ _ (hal _ _ h0)
  have hin : (Instr.enterLoop fn a.tmps ps assign body none).run P w = .ok (w.heap.size + 1, [{ target := .collected w.heap.size, args := #[] }]) ((w.alloc (.deferred (some []))).alloc (.loop (rc .ready none))) := by
    rw [hrc]; exact run_enterLoop_outer _ _ _ _ _
  have hR00 : R0 ((w.alloc (.deferred (some []))).alloc (.loop (rc .ready none))) := hr0 _ (((Fr.refl _ _).alloc _).alloc _)
  generalize (w.alloc (.deferred (some []))).alloc (.loop (rc .ready none)) = W0 at hD0 hL0 hI0 hin hR00
  refine ⟨_, _, W0, { target := .fn (.func gf) caps, args := #[.func (.yield (w.heap.size + 1)) #[] #[]] }, W0, gf, #[.func (.yield (w.heap.size + 1)) #[] #[]] ++ caps, W0, hin, ?_, ?_, ?_, fun _ => h1, ?_⟩
  · simp only [resolve, hg]
    simp [go_sem]
  · intro f' hf'
    simp [Target.leads] at hf'
    subst hf'
    exact hFg
  · simp [invoke, go_sem, eg]
  refine (hseq (w.heap.size + 1)
    (fun pre W => I pre W ∧ W.heap[w.heap.size + 1]? = some (.loop (rc .ready none)) ∧ W.heap[w.heap.size]? = some (.deferred (some [])))
    (fun pre W => Ix pre W ∧ W.heap[w.heap.size + 1]? = some (.loop (rc .done (some .ret))) ∧ W.heap[w.heap.size]? = some (.deferred (some [])))
    W0 (fun pre W1 h => hR pre W1 h.1) (fun pre W1 W2 h hF => ⟨hIst pre W1 W2 h.1 hF, hF.heap (by simp) h.2.1, hF.heap (by simp) h.2.2⟩) (fun pre W1 u h => ⟨hIset pre W1 u h.1, ?_, ?_⟩) ⟨_, hL0⟩ ?_ ⟨hI0, hL0, hD0⟩ hR00).mono ?_
  · obtain ⟨c, t, f, hc⟩ := hIb2 pre W1 h.1
    rw [Below.heap_setCell _ _ _ _ (fun e => by have e' : w.heap.size + 1 = b2 := e; rw [← e', h.2.1] at hc; cases hc)]; exact h.2.1
  · obtain ⟨c, t, f, hc⟩ := hIb2 pre W1 h.1
    rw [Below.heap_setCell _ _ _ _ (fun e => by have e' : w.heap.size = b2 := e; rw [← e', h.2.2] at hc; cases hc)]; exact h.2.2
  · rintro pre x W ⟨hi, hl, hk⟩ hpre
    have hlt : w.heap.size + 1 < W.heap.size := lt_of_heap hl
    have hy := run_yield (P := P) (args := encs x) hl (by rw [hrc]; exact hps x)
    rw [hrc] at hy
    have hF1 := hW₁ x W
    have hl1 := hF1.heap (by simp) hl
    have hk1 := hF1.heap (by simp) hk
    have hi1 := hIst pre W _ hi hF1
    have hlt1 : w.heap.size + 1 < (W₁ x W).heap.size := lt_of_heap hl1
    refine ⟨fn, _, assign, body, hy, roundIn_of_wpIn hfn (hassign _ x W _ ⟨_, run_beginRound hl1 (by rw [hrc]), ?_⟩)⟩
    have hb := hbody (w.heap.size + 1) pre x W _ hi (hI pre (W₁ x W) (w.heap.size + 1) _ (.loop { rc .ready none with state := .busy }) (by omega) hl1 rfl hi1) hpre hlt (by omega) (fun k hk => World.putObj_heap_other hk) (by simp [World.putObj])
    have hl2 : ((W₁ x W).putObj (w.heap.size + 1) (.loop { rc .ready none with state := .busy })).heap[w.heap.size + 1]? = some (.loop { rc .ready none with state := .busy }) := World.putObj_heap_same hlt1
    have hk2 : ((W₁ x W).putObj (w.heap.size + 1) (.loop { rc .ready none with state := .busy })).heap[w.heap.size]? = some (.deferred (some [])) := (World.putObj_heap_other (by omega)).trans hk1
    refine wpIn_mono hb ?_
    intro e a3 W3 hp
    have hends : ∀ jump : Option Code, KeepsFrom w.heap.size ((W₁ x W).putObj (w.heap.size + 1) (.loop { rc .ready none with state := .busy })) W3 →
        ∃ W4, (Instr.endRound (w.heap.size + 1) jump).run P W3 = .ok (.bool jump.isNone) W4 ∧ (∀ J : List α → World → Prop, Blind w.heap.size J → ∀ p, J p W3 → J p W4) ∧
          W4.heap[w.heap.size + 1]? = some (.loop (rc (if jump.isNone then .ready else .done) jump)) ∧ W4.heap[w.heap.size]? = some (.deferred (some [])) ∧ Fr [w.heap.size + 1] W3 W4 := by
      intro jump hk3
      have hl3 := hk3.same _ _ (by omega) hl2 rfl
      have hr3 := run_endRound (P := P) jump hl3
      refine ⟨_, hr3, fun J hJ p hj => hJ p W3 _ _ _ (by omega) hl3 rfl hj, ?_, (World.putObj_heap_other (by omega)).trans (hk3.same _ _ (Nat.le_refl _) hk2 rfl), putObj_fr _ _ _⟩
      rw [World.putObj_heap_same (lt_of_heap hl3), hrc]
    cases e with
    | normal =>
      obtain ⟨hk3, hi3, hf3⟩ := hp
      obtain ⟨W4, hr, hJ, hl4, hk4, hf4⟩ := hends none hk3
      exact ⟨_, W4, hr, .inl ⟨rfl, ⟨hJ I hI _ hi3, hl4, hk4⟩, ((hF1.weak.trans (putObj_fr _ _ _)).trans hf3.weak).trans hf4⟩⟩
    | ret =>
      obtain ⟨hk3, hi3⟩ := hp
      obtain ⟨W4, hr, hJ, hl4, hk4, -⟩ := hends (some .ret) hk3
      exact ⟨_, W4, hr, .inr ⟨rfl, hJ Ix hIx _ hi3, hl4, hk4⟩⟩
    | exit id => exact hp.elim
    | goto t => exact hp.elim
    | panic ch => exact hp.elim
    | outgrown => exact hp.elim
  · rintro e W2 ⟨⟨v, rfl⟩, (⟨hi, hl, hk⟩ | ⟨pre, hpre, hi, hl, hk⟩)⟩
    · have he := run_endLoop (P := P) hl (by rw [hrc]; simp)
      exact ⟨none, _, by rw [he, hrc], hdone _ _ (Nat.le_refl _) (hI _ _ _ _ _ (by omega) hl rfl hi) ((World.putObj_heap_other (by omega)).trans hk)⟩
    · have he := run_endLoop (P := P) hl (by rw [hrc]; simp)
      exact ⟨some .ret, _, by rw [he, hrc], hstop _ pre _ (Nat.le_refl _) hpre (hIx _ _ _ _ _ (by omega) hl rfl hi) ((World.putObj_heap_other (by omega)).trans hk)⟩
end Go.Proofs.YtofhgfgipdokbaaGreatDoor
namespace Go.Proofs.YtofhgfgipdokbaaGreatDoor
open Go.RowKit
attribute [local go_sem] Oper.semAt_some

/-- a class and its superclasses, at most n of them, with what they say -/
def lineN (os : List Ob) (root : Int) : Nat → Int → List (Int × Frm)
  | 0, _ => []
  | n + 1, c => if isClsB os root c then (c, readF os root c) :: lineN os root n (readF os root c).super else []
def lineK (os : List Ob) (root c : Int) : List (Int × Frm) := lineN os root (endOf os) c
def lnEnc (p : Int × Frm) : Array Value := #[.int .u64 p.1, p.2.val]
/-- the class that stands after k steps -/
def lineC (os : List Ob) (root : Int) : Nat → Int → Int
  | 0, c => c
  | n + 1, c => lineC os root n (readF os root c).super
section
variable {W : World} {hb mb : Nat} {lim root hashes : Int} {os : List Ob} {wv sv : Value}
theorem HpAt.frm (h : HpAt W hb mb lim os root hashes wv sv) (x : Int) : WB (readF os root x).super ∧ WB (readF os root x).dict := by
  unfold readF
  split
  · refine ⟨h.field x 0, ?_⟩
    show WB (dictV os root (fieldAt os x 1))
    unfold dictV
    split
    · exact wb_zero
    · split
      · exact h.field x 1
      · exact wb_zero
  · exact ⟨wb_zero, wb_zero⟩
/-- the heap and the class that the closure holds; nothing that was there at W0 has changed -/
def LineW (W0 : World) (hb : Nat) (c : Int) (b1 b2 : Nat) (W : World) : Prop :=
  W.heap[b1]? = some (.cells #[.pointer (some ⟨hb, 0, none⟩)] 27 (0, 0)) ∧ W.heap[b2]? = some (.cells #[.int .u64 c] 24 (0, 0)) ∧ Fr [] W0 W ∧ W0.heap.size ≤ b2
/-- Returned the closure over the superclasses. -/
def LineTo (W : World) (hb : Nat) (c : Int) (e : Ending) (w' : World) : Prop := ∃ b1 b2, e = .returned (.func (.func 84) #[] #[.pointer (some ⟨b1, 0, none⟩), .pointer (some ⟨b2, 0, none⟩)]) ∧ LineW W hb c b1 b2 w'
set_option maxRecDepth 100000 in
theorem klineage (W : World) (hb : Nat) (c : Int) : Calls Tryz.prog 67 #[.pointer (some ⟨hb, 0, none⟩), .int .u64 c] W (LineTo W hb c) := by
  have hP : Hid (LineW W hb c W.heap.size (W.heap.size + 1) ((W.alloc (.cells #[.pointer (some ⟨hb, 0, none⟩)] 27)).alloc (.cells #[.int .u64 c] 24))) := by
    refine ⟨?_, ?_, ((Fr.refl _ _).alloc _).alloc _, by omega⟩
    · exact ((Fr.refl [] _).alloc _).heap (by simp) (heap_new W _)
    · have := heap_new (W.alloc (.cells #[.pointer (some ⟨hb, 0, none⟩)] 27)) (.cells #[.int .u64 c] 24)
      simpa using this
  go_enter Tryz.func67, Tryz.ntmps67
  go_wp2
  go_ret
  exact ⟨_, _, rfl, hP.out⟩
/-- the heap that the closure holds, and its box for the class; nothing that was there at W0 has changed -/
def LineR (W0 : World) (hb b1 b2 : Nat) (W : World) : Prop :=
  W.heap[b1]? = some (.cells #[.pointer (some ⟨hb, 0, none⟩)] 27 (0, 0)) ∧ (∃ u, W.heap[b2]? = some (.cells #[u] 24 (0, 0))) ∧ Fr [] W0 W ∧ W0.heap.size ≤ b2
theorem LineW.r {W0 V : World} {c : Int} {b1 b2 : Nat} (h : LineW W0 hb c b1 b2 V) : LineR W0 hb b1 b2 V := ⟨h.1, ⟨_, h.2.1⟩, h.2.2.1, h.2.2.2⟩
theorem LineW.go {W0 V V' : World} {c : Int} {b1 b2 : Nat} (h : LineW W0 hb c b1 b2 V) (hF : Fr [] V V') : LineW W0 hb c b1 b2 V' := ⟨hF.heap (by simp) h.1, hF.heap (by simp) h.2.1, h.2.2.1.trans hF, h.2.2.2⟩
theorem LineR.go {W0 V V' : World} {b1 b2 : Nat} (h : LineR W0 hb b1 b2 V) (hF : Fr [] V V') : LineR W0 hb b1 b2 V' := by
  obtain ⟨u, hu⟩ := h.2.1
  exact ⟨hF.heap (by simp) h.1, ⟨u, hF.heap (by simp) hu⟩, h.2.2.1.trans hF, h.2.2.2⟩
theorem LineR.set {W0 V : World} {b1 b2 : Nat} (h : LineR W0 hb b1 b2 V) (v : Value) : LineR W0 hb b1 b2 (V.setCell ⟨b2, 0, none⟩ v) := by
  obtain ⟨u, hu⟩ := h.2.1
  refine ⟨?_, ⟨v, ?_⟩, h.2.2.1.setCell (fun e => absurd e (by have := h.2.2.2; show ¬ b2 < _; omega)) _, h.2.2.2⟩
  · rw [Below.heap_setCell _ _ _ _ (tag_ne h.1 hu (by decide))]; exact h.1
  · have := heap_setCell_same hu (o := 0) v; simpa using this
theorem LineR.put {W0 V : World} {b1 b2 l : Nat} {o : Obj} (o' : Obj) (h : LineR W0 hb b1 b2 V) (hl : W0.heap.size ≤ l) (hh : V.heap[l]? = some o) (hc : o.isCells = false) : LineR W0 hb b1 b2 (V.putObj l o') := by
  have hF := putObj_fr V l o'
  obtain ⟨u, hu⟩ := h.2.1
  exact ⟨hF.heap (by simpa using not_cells h.1 hh hc) h.1, ⟨u, hF.heap (by simpa using not_cells hu hh hc) hu⟩, h.2.2.1.trans' hF (fun _ _ e => by cases e) (fun j hj e => by simp at e; omega), h.2.2.2⟩
theorem lineN_no {c : Int} (n : Nat) (h : isClsB os root c = false) : lineN os root n c = [] := by
  cases n with
  | zero => rfl
  | succ n => simp [lineN, h]
theorem lineN_yes {c : Int} {n i : Nat} (hi : i < n) (h : isClsB os root c = true) : lineN os root (n - i) c = (c, readF os root c) :: lineN os root (n - (i + 1)) (readF os root c).super := by
  have e : n - i = (n - (i + 1)) + 1 := by omega
  rw [e]; simp [lineN, h]
set_option maxRecDepth 100000 in
set_option maxHeartbeats 1000000 in
theorem line_yields {W0 : World} (hH0 : HpAt W0 hb mb lim os root hashes wv sv) (n : Nat) (_hn : 1 ≤ n) (c : Int) (hc : WB c) (b1 b2 : Nat) : YieldsL Fence.wide n Tryz.prog 84 #[.pointer (some ⟨b1, 0, none⟩), .pointer (some ⟨b2, 0, none⟩)] b2 (LineW W0 hb c b1 b2) lnEnc (LineR W0 hb b1 b2) (lineK os root c) := by
  intro l J Jx W hR hst hset hl hY h0 hr0
  obtain ⟨st, hl0⟩ := hl
  have hlW := lt_of_heap hl0
  have HR := Lib.hid hR
  have HY := Lib.hid hY
  have HST := Lib.hid hst
  have HSET := Lib.hid hset
  have H0 := Lib.hid h0
  have HL := Lib.hid hlW
  have HR0 := Lib.hid hr0
  have HC := Lib.hid hc
  obtain ⟨hb1, hb2, hF0, hsz⟩ := hr0
  have hu := kused (hH0.fr0 hF0)
  have HH0 := Lib.hid hH0
  have c1 := cell_of_heap (o := 0) hb1 rfl
  obtain ⟨N, hN⟩ : ∃ N, N = endOf os := ⟨_, rfl⟩
  rw [← hN] at hu
  have HXS : Hid (lineK os root c = lineN os root N c) := by unfold lineK; rw [hN]; exact rfl
  have HNB : Hid (N ≤ 65536) := by rw [hN]; exact HH0.out.le
  have hnb := HNB.out
  clear hR hY h0 hb1 hb2 hF0 hst hset hl0 hlW hH0 hsz hc hN
  refine callsIn_of_wp Tryz.func84 rfl trivial ?_ rfl
  simp only [Tryz.ntmps84, List.size_toArray, List.length_cons, List.length_nil, Nat.reduceAdd, Nat.reduceSub, Array.replicate_succ, Array.replicate_zero, List.push_toArray, List.append_toArray, List.nil_append, List.cons_append]
  gi_wp2_with (refine ⟨trivial, ?_⟩; gi_at_call 85; refine (callsIn_wide.2 hu).mono ?_; rintro e w1 ⟨rfl, hF1⟩; have HF1 := Lib.hid hF1; clear hF1)
  have HJ1 : Hid (J [] w1) := HST.out [] W w1 H0.out HF1.out
  have HB1 : Hid (w1.heap[b2]? = some (.cells #[.int .u64 c] 24 (0, 0))) := HF1.out.heap (by simp) HR0.out.2.1
  have HL1 : Hid (l < w1.heap.size) := Nat.lt_of_lt_of_le HL.out HF1.out.size
  clear hu c1
  gi_loopw [8] (fun v wr => ∃ (i : Nat) (pre : List (Int × Frm)) (d : Int), i ≤ N ∧ v = .int .i64 (i : Int) ∧ Hid (lineN os root N c = pre ++ lineN os root (N - i) d) ∧ Hid (J pre wr) ∧ Hid (wr.heap[b2]? = some (.cells #[.int .u64 d] 24 (0, 0))) ∧ Hid (WB d) ∧ Hid (l < wr.heap.size)) (fun v _ => N - (intOf v).toNat)
  case atStart => exact ⟨0, [], c, Nat.zero_le _, rfl, rfl, HJ1, HB1, HC, HL1⟩
  case round =>
    obtain ⟨i, pre, d, hi, rfl, hX, hJ, hB, hD, hL⟩ := hrel
    clear HJ1 HB1 HL1
    have hR1 := HR.out _ wr hJ.out
    have hH := HH0.out.fr0 hR1.2.2.1
    have c1 := cell_of_heap (o := 0) hR1.1 rfl
    have c2 := cell_of_heap (o := 0) hB.out rfl
    have hk := kread hH d hD.out
    have HWB := Lib.hid (hH.frm d)
    by_cases hlt : i < N
    · have hlt' : (i : Int) < (N : Int) := by omega
      cases hcls : isClsB os root d
      · have HXE : Hid (J (lineK os root c) wr) := by
          rw [HXS.out, hX.out, lineN_no _ hcls, List.append_nil]; exact hJ.out
        rw [hcls] at hk
        unfold Frm.val at hk
        clear hR1 hH hX hJ hB hD hcls hL
        gi_wp2_with (refine ⟨trivial, ?_⟩; gi_at_call 86; refine (callsIn_wide.2 hk).mono ?_; rintro e w2 ⟨rfl, hF2⟩; have HJ2 := Lib.hid (HST.out _ _ _ HXE.out hF2); clear hF2)
        refine ⟨(fun f hf => by cases hf), ?_⟩
        gi_wp2
        refine bodyPost_ret (results_none rfl _ _ _) rfl ?_
        exact ⟨⟨_, rfl⟩, .inl (HST.out _ _ _ HJ2.out (by first | exact Fr.refl _ _ | exact (Fr.refl _ _).alloc _))⟩
      · have hXn := hX.out
        rw [lineN_yes hlt hcls] at hXn
        have HPRE : Hid (pre ++ [(d, readF os root d)] <+: lineK os root c) := by
          rw [HXS.out, hXn]; exact ⟨lineN os root (N - (i + 1)) (readF os root d).super, by simp⟩
        have HXN : Hid (lineN os root N c = (pre ++ [(d, readF os root d)]) ++ lineN os root (N - (i + 1)) (readF os root d).super) := by rw [hXn, List.append_assoc]; rfl
        have HENC : Hid (lnEnc (d, readF os root d) = #[.int .u64 d, .agg #[.int .u64 (readF os root d).super, .int .u64 (readF os root d).dict, .int .i64 (readF os root d).fields, .bool (readF os root d).more]]) := rfl
        rw [hcls] at hk
        unfold Frm.val at hk
        have HJ := Lib.hid hJ.out
        have HLR := Lib.hid hL.out
        have HSUP : Hid (WB (readF os root d).super) := HWB.out.1
        have HB := Lib.hid hB.out
        have HLT := Lib.hid hlt
        clear hR1 hH hX hJ hB hD hcls hL hXn HWB
        generalize readF os root d = FR at *
        obtain ⟨fs, fd, ff, fm⟩ := FR
        simp only at hk HENC HXN HSUP
        gi_wp2_with (refine ⟨trivial, ?_⟩; gi_at_call 86; refine (callsIn_wide.2 hk).mono ?_; rintro e w2 ⟨rfl, hF2⟩; have hFb := hF2.alloc (.cells #[.int .u64 fs, .int .u64 fd, .int .i64 ff, .bool fm] 134 (0, 0)); have HJ2 := Lib.hid (HST.out _ _ _ HJ.out hFb); have HF2 := Lib.hid hF2; have c3 := cell_of_heap (o := 0) (hFb.heap (k := b2) (by simp) HB.out) rfl; obtain ⟨fn, tmps, assign, body, hy, hRd⟩ := HY.out _ _ _ HJ2.out HPRE.out; rw [HENC.out] at hy; clear hF2 hFb)
        refine hRd.mono ?_
        rintro e W3 (⟨rfl, hJ3, hF3⟩ | ⟨rfl, hJx3⟩)
        · have hbx := hF3.heap (k := w2.heap.size) (by simp; have := HLR.out; have := HF2.out.size; omega) (heap_new w2 _)
          have d0 := cell_of_heap (o := 0) hbx rfl
          obtain ⟨u, hu3⟩ := (HR.out _ W3 hJ3).2.1
          have d1 := cell_of_heap (o := 0) hu3 rfl
          have z1 := frozen_of_heap (o := 0) hu3
          have HU3 := Lib.hid hu3
          have HJ3 := Lib.hid hJ3
          have HL3 : Hid (l < W3.heap.size) := by
            have h1 := HLR.out; have h2 := HF2.out.size; have h3 := hF3.size; simp at h3; exact (by omega : l < W3.heap.size)
          clear hu3 hJ3 hF3 hbx
          gi_wp2
          go_roundw
          case rel =>
            refine ⟨i + 1, pre ++ [(d, ⟨fs, fd, ff, fm⟩)], fs, by have := HLT.out; omega, by go_num, HXN, Lib.hid (HSET.out _ _ _ HJ3.out), ?_, HSUP, ?_⟩
            · have := heap_setCell_same HU3.out (o := 0) (.int .u64 fs); exact Lib.hid (by simpa using this)
            · have := HL3.out; exact Lib.hid (by simpa [World.setCell] using this)
          case measure => simp [intOf]; omega
        · gi_wp2
          refine bodyPost_ret (results_none rfl _ _ _) rfl ?_
          exact ⟨⟨_, rfl⟩, .inr ⟨_, HPRE.out, hJx3⟩⟩
    · have hi2 : i = N := by omega
      have HXE : Hid (J (lineK os root c) wr) := by
        rw [HXS.out, hX.out, hi2, Nat.sub_self]
        simp only [lineN, List.append_nil]; exact hJ.out
      have hlt' : ¬ (i : Int) < (N : Int) := by omega
      clear hR1 hH hX hJ hB hD hL hi2
      gi_wp2
      go_end0
      exact ⟨⟨_, rfl⟩, .inl HXE.out⟩
end
end Go.Proofs.YtofhgfgipdokbaaGreatDoor
namespace Go.Proofs.YtofhgfgipdokbaaGreatDoor
open Go.RowKit
attribute [local go_sem] Oper.semAt_some

/-- the method that the first class of a lineage has for a selector -/
def lookL (os : List Ob) (s : Int) (l : List (Int × Frm)) : Option Int := l.findSome? fun p => (findI os p.2.dict s).map fun q => q.2.2
def lookR (os : List Ob) (root c s : Int) : Option Int := if isSelB os root s then lookL os s (lineK os root c) else none
/-- what Lookup answers -/
def lookV : Option Int → Value
  | some m => .tuple #[.int .u64 m, .int .i64 0]
  | none => .tuple #[.int .u64 0, .int .i64 5]
theorem lookL_none {os : List Ob} {s : Int} {l : List (Int × Frm)} (h : ∀ p ∈ l, findI os p.2.dict s = none) : lookL os s l = none := by
  unfold lookL
  rw [List.findSome?_eq_none_iff]
  intro p hp
  rw [h p hp]; rfl
theorem lookL_some {os : List Ob} {s : Int} {l pre : List (Int × Frm)} {p : Int × Frm} {q : Nat × Int × Int} (hall : ∀ p ∈ pre, findI os p.2.dict s = none) (hpre : pre ++ [p] <+: l) (hq : findI os p.2.dict s = some q) : lookL os s l = some q.2.2 := by
  obtain ⟨r, hr⟩ := hpre
  have h0 := lookL_none hall
  unfold lookL at h0 ⊢
  rw [← hr, List.append_assoc, List.findSome?_append, h0]
  simp [hq]
theorem findI_at {os : List Ob} {x s : Int} {q : Nat × Int × Int} (h : findI os x s = some q) : q.1 < sizeAt os x + 1 ∧ q.2.2 = fieldV os x ((q.1 : Int) + 1) := by
  unfold findI at h
  have hm := List.mem_of_find?_eq_some h
  unfold prs at hm
  obtain ⟨i, hi, rfl⟩ := List.mem_map.1 hm
  rw [List.mem_range] at hi
  unfold prN at hi
  refine ⟨?_, rfl⟩
  show 2 * i < _
  omega
section
variable {W : World} {hb mb : Nat} {lim root hashes : Int} {os : List Ob} {wv sv : Value}
theorem HpAt.sz (h : HpAt W hb mb lim os root hashes wv sv) (x : Int) : sizeAt os x ≤ 65536 := by
  unfold sizeAt
  split
  · next o ho =>
    have hle := h.le
    obtain ⟨pre, post, rfl, rfl⟩ := lookP_split ho
    have := endOf_lt pre post o
    omega
  · omega
theorem lineN_frm {n : Nat} {p : Int × Frm} : ∀ {c : Int}, p ∈ lineN os root n c → p.2 = readF os root p.1 := by
  induction n with
  | zero => intro c h; cases h
  | succ n ih =>
    intro c h
    unfold lineN at h
    split at h
    · rcases List.mem_cons.1 h with rfl | h
      · rfl
      · exact ih h
    · cases h
theorem line_dict (h : HpAt W hb mb lim os root hashes wv sv) {c : Int} {p : Int × Frm} (hp : p ∈ lineK os root c) : WB p.2.dict := by
  rw [lineN_frm hp]
  exact (h.frm p.1).2
/-- the boxes of Lookup -/
structure LBox (W0 : World) (hb : Nat) (s : Int) (b1 b2 bs : Nat) (r e : Int) (V : World) : Prop where
  line : LineR W0 hb b1 b2 V
  hp : V.heap[bs]? = some (.cells #[.pointer (some ⟨hb, 0, none⟩)] 27 (0, 0))
  sel : V.heap[bs + 1]? = some (.cells #[.int .u64 s] 24 (0, 0))
  res : V.heap[bs + 1 + 1]? = some (.cells #[.int .u64 r] 24 (0, 0))
  err : V.heap[bs + 1 + 1 + 1]? = some (.cells #[.int .i64 e] 32 (0, 0))
  new : W0.heap.size ≤ bs
  far : bs + 1 + 1 + 1 < b2
theorem LBox.go {W0 V V' : World} {s r e : Int} {b1 b2 bs : Nat} (h : LBox W0 hb s b1 b2 bs r e V) (hF : Fr [] V V') : LBox W0 hb s b1 b2 bs r e V' :=
  ⟨h.line.go hF, hF.heap (by simp) h.hp, hF.heap (by simp) h.sel, hF.heap (by simp) h.res, hF.heap (by simp) h.err, h.new, h.far⟩
theorem LBox.put {W0 V : World} {s r e : Int} {b1 b2 bs l : Nat} {o : Obj} (o' : Obj) (h : LBox W0 hb s b1 b2 bs r e V) (hl : W0.heap.size ≤ l) (hh : V.heap[l]? = some o) (hc : o.isCells = false) : LBox W0 hb s b1 b2 bs r e (V.putObj l o') := by
  have hF := putObj_fr V l o'
  exact ⟨h.line.put o' hl hh hc, hF.heap (by simpa using not_cells h.hp hh hc) h.hp, hF.heap (by simpa using not_cells h.sel hh hc) h.sel, hF.heap (by simpa using not_cells h.res hh hc) h.res, hF.heap (by simpa using not_cells h.err hh hc) h.err, h.new, h.far⟩
theorem LBox.setLine {W0 V : World} {s r e : Int} {b1 b2 bs : Nat} (h : LBox W0 hb s b1 b2 bs r e V) (u : Value) : LBox W0 hb s b1 b2 bs r e (V.setCell ⟨b2, 0, none⟩ u) := by
  have hf := h.far
  refine ⟨h.line.set u, ?_, ?_, ?_, ?_, h.new, h.far⟩
  · rw [Below.heap_setCell _ _ _ _ (by show bs ≠ b2; omega)]; exact h.hp
  · rw [Below.heap_setCell _ _ _ _ (by show bs + 1 ≠ b2; omega)]; exact h.sel
  · rw [Below.heap_setCell _ _ _ _ (by show bs + 1 + 1 ≠ b2; omega)]; exact h.res
  · rw [Below.heap_setCell _ _ _ _ (by show bs + 1 + 1 + 1 ≠ b2; omega)]; exact h.err
theorem LBox.set {W0 V : World} {s r e : Int} {b1 b2 bs : Nat} (h : LBox W0 hb s b1 b2 bs r e V) (r' e' : Int) : LBox W0 hb s b1 b2 bs r' e' ((V.setCell ⟨bs + 1 + 1, 0, none⟩ (.int .u64 r')).setCell ⟨bs + 1 + 1 + 1, 0, none⟩ (.int .i64 e')) := by
  have hf := h.far
  have hn := h.new
  have h1 : b1 ≠ bs + 1 + 1 := tag_ne h.line.1 h.res (by decide)
  have h2 : b1 ≠ bs + 1 + 1 + 1 := tag_ne h.line.1 h.err (by decide)
  obtain ⟨u, hu⟩ := h.line.2.1
  have hres : (V.setCell ⟨bs + 1 + 1, 0, none⟩ (.int .u64 r')).heap[bs + 1 + 1]? = some (.cells #[.int .u64 r'] 24 (0, 0)) := by
    have := heap_setCell_same h.res (o := 0) (.int .u64 r'); simpa using this
  have herr : (V.setCell ⟨bs + 1 + 1, 0, none⟩ (.int .u64 r')).heap[bs + 1 + 1 + 1]? = some (.cells #[.int .i64 e] 32 (0, 0)) := by
    rw [Below.heap_setCell _ _ _ _ (by show bs + 1 + 1 + 1 ≠ bs + 1 + 1; omega)]; exact h.err
  refine ⟨⟨?_, ⟨u, ?_⟩, ?_, h.line.2.2.2⟩, ?_, ?_, ?_, ?_, h.new, h.far⟩
  · rw [Below.heap_setCell _ _ _ _ h2, Below.heap_setCell _ _ _ _ h1]; exact h.line.1
  · rw [Below.heap_setCell _ _ _ _ (by show b2 ≠ bs + 1 + 1 + 1; omega), Below.heap_setCell _ _ _ _ (by show b2 ≠ bs + 1 + 1; omega)]; exact hu
  · exact (h.line.2.2.1.setCell (fun e => absurd e (by show ¬ bs + 1 + 1 < _; omega)) _).setCell (fun e => absurd e (by show ¬ bs + 1 + 1 + 1 < _; omega)) _
  · rw [Below.heap_setCell _ _ _ _ (by show bs ≠ bs + 1 + 1 + 1; omega), Below.heap_setCell _ _ _ _ (by show bs ≠ bs + 1 + 1; omega)]; exact h.hp
  · rw [Below.heap_setCell _ _ _ _ (by show bs + 1 ≠ bs + 1 + 1 + 1; omega), Below.heap_setCell _ _ _ _ (by show bs + 1 ≠ bs + 1 + 1; omega)]; exact h.sel
  · rw [Below.heap_setCell _ _ _ _ (by show bs + 1 + 1 ≠ bs + 1 + 1 + 1; omega)]; exact hres
  · have := heap_setCell_same herr (o := 0) (.int .i64 e'); simpa using this
theorem four_new (w : World) (a b c d : Obj) : ((((w.alloc a).alloc b).alloc c).alloc d).heap[w.heap.size]? = some a ∧ ((((w.alloc a).alloc b).alloc c).alloc d).heap[w.heap.size + 1]? = some b ∧ ((((w.alloc a).alloc b).alloc c).alloc d).heap[w.heap.size + 1 + 1]? = some c ∧ ((((w.alloc a).alloc b).alloc c).alloc d).heap[w.heap.size + 1 + 1 + 1]? = some d := by
  obtain ⟨h1, h2, h3⟩ := three_new w a b c
  have hF := (Fr.refl [] (((w.alloc a).alloc b).alloc c)).alloc d
  refine ⟨hF.heap (by simp) h1, hF.heap (by simp) h2, hF.heap (by simp) h3, ?_⟩
  have := heap_new (((w.alloc a).alloc b).alloc c) d
  simpa using this
set_option maxRecDepth 100000 in
set_option maxHeartbeats 4000000 in
theorem klookup (h : HpAt W hb mb lim os root hashes wv sv) (c s : Int) (hc : WB c) (hs : WB s) : Calls Tryz.prog 51 #[.pointer (some ⟨hb, 0, none⟩), .int .u64 c, .int .u64 s] W (Still (lookV (lookR os root c s)) W) := by
  refine (callsIn_wide (n := 8)).1 ?_
  refine callsIn_of_wp_marks Tryz.func51 rfl trivial ?_ rfl
  simp only [Tryz.ntmps51, List.size_toArray, List.length_cons, List.length_nil, Nat.reduceAdd, Nat.reduceSub, Array.replicate_succ, Array.replicate_zero, List.push_toArray, List.append_toArray, List.nil_append, List.cons_append]
  have hsel := fun w' (hF : Fr [] W w') => kisSel (h.fr0 hF) s hs
  have H := Lib.hid h
  clear h
  have hV0 : Fr [] W ((((W.alloc (.cells #[.pointer (some ⟨hb, 0, none⟩)] 27)).alloc (.cells #[.int .u64 s] 24)).alloc (.cells #[.int .u64 0] 24)).alloc (.cells #[.int .i64 0] 32)) := ((((Fr.refl _ _).alloc _).alloc _).alloc _).alloc _
  have h4 := four_new W (.cells #[.pointer (some ⟨hb, 0, none⟩)] 27) (.cells #[.int .u64 s] 24) (.cells #[.int .u64 0] 24) (.cells #[.int .i64 0] 32)
  have HV0 := Lib.hid hV0
  have H4 := Lib.hid h4
  clear hV0 h4
  cases hsb : isSelB os root s
  · rw [hsb] at hsel
    have HSB := Lib.hid hsb
    clear hsb
    gi_wp2_with (refine ⟨trivial, ?_⟩; gi_at_call 66; refine (callsIn_wide.2 (hsel _ HV0.out)).mono ?_; rintro e w1 ⟨rfl, hF1⟩; have HF1 := Lib.hid hF1; have g1 := hF1.heap (k := W.heap.size + 1 + 1) (by simp) H4.out.2.2.1; have g2 := hF1.heap (k := W.heap.size + 1 + 1 + 1) (by simp) H4.out.2.2.2; have r1 := cell_of_heap (o := 0) g1 rfl; have r2 := cell_of_heap (o := 0) g2 rfl; have z1 := frozen_of_heap (o := 0) g1; have z2 := frozen_of_heap (o := 0) g2; clear hF1)
    have q1 := heap_setCell_same g1 (o := 0) (.int .u64 0)
    have q2 : (w1.setCell ⟨W.heap.size + 1 + 1, 0, none⟩ (.int .u64 0)).heap[W.heap.size + 1 + 1 + 1]? = _ := (Below.heap_setCell _ _ _ _ (by show W.heap.size + 1 + 1 + 1 ≠ W.heap.size + 1 + 1; omega)).trans g2
    have q3 := heap_setCell_same q2 (o := 0) (.int .i64 5)
    have q4 : ((w1.setCell ⟨W.heap.size + 1 + 1, 0, none⟩ (.int .u64 0)).setCell ⟨W.heap.size + 1 + 1 + 1, 0, none⟩ (.int .i64 5)).heap[W.heap.size + 1 + 1]? = _ := (Below.heap_setCell _ _ _ _ (by show W.heap.size + 1 + 1 ≠ W.heap.size + 1 + 1 + 1; omega)).trans q1
    have r3 := cell_of_heap (o := 0) q3 rfl
    have r4 := cell_of_heap (o := 0) q4 rfl
    refine ⟨.tuple #[.int .u64 0, .int .i64 5], ?_, ?_, ?_⟩
    · simp [results, Tryz.results51, go_sem, r3, r4]
    · unfold lookR; rw [HSB.out]; exact rfl
    · exact (((HV0.out.trans HF1.out).setCell (fun e => absurd e (by show ¬ W.heap.size + 1 + 1 < _; omega)) _).setCell (fun e => absurd e (by show ¬ W.heap.size + 1 + 1 + 1 < _; omega)) _)
  · rw [hsb] at hsel
    have HSB := Lib.hid hsb
    clear hsb
    gi_wp2_with (first
      | (refine ⟨trivial, ?_⟩; gi_at_call 66; refine (callsIn_wide.2 (hsel _ HV0.out)).mono ?_; rintro e w1 ⟨rfl, hF1⟩; have HF1 := Lib.hid hF1; have c0 := cell_of_heap (o := 0) (hF1.heap (k := W.heap.size) (by simp) H4.out.1) rfl; clear hF1)
      | (refine ⟨trivial, ?_⟩; gi_at_call 67; refine (callsIn_wide.2 (klineage _ hb c)).mono ?_; rintro e w2 ⟨b1, b2, rfl, hP⟩; have HP := Lib.hid hP; clear hP))
    have hF2 : Fr [] W w2 := (HV0.out.trans HF1.out).trans HP.out.2.2.1
    have hF12 : Fr [] w1 w2 := HP.out.2.2.1
    have hs1 := HF1.out.size
    simp at hs1
    have hB : LBox W hb s b1 b2 W.heap.size 0 0 w2 := by
      have q := H4.out
      have hF := HF1.out.trans hF12
      exact ⟨⟨HP.out.1, ⟨_, HP.out.2.1⟩, hF2, by have := HP.out.2.2.2; omega⟩, hF.heap (by simp) q.1, hF.heap (by simp) q.2.1, hF.heap (by simp) q.2.2.1, hF.heap (by simp) q.2.2.2, Nat.le_refl _, by have := HP.out.2.2.2; omega⟩
    have hLW : LineW W hb c b1 b2 w2 := ⟨HP.out.1, HP.out.2.1, hF2, by have := HP.out.2.2.2; omega⟩
    have hws : W.heap.size ≤ w2.heap.size := hF2.size
    clear hF2 hF12 hs1 HP H4 HV0 HF1 c0
    refine wpIn_range_line (xs := lineK os root c) rfl (by omega) (gf := 84) (caps := #[.pointer (some ⟨b1, 0, none⟩), .pointer (some ⟨b2, 0, none⟩)]) rfl trivial (enters_of Tryz.func84 (by kernel_rfl) rfl) (b2 := b2) (line_yields H.out 7 (by omega) c hc b1 b2) (fun _ => rfl)
      (fun pre V => LBox W hb s b1 b2 W.heap.size 0 0 V ∧ ∀ p ∈ pre, findI os p.2.dict s = none)
      (fun _ V => ∃ m, LBox W hb s b1 b2 W.heap.size m 0 V ∧ lookL os s (lineK os root c) = some m) (fun pre V h => h.1.line) (fun pre V1 V2 h hF => ⟨h.1.go hF, h.2⟩) (fun pre V u h => ⟨h.1.setLine u, h.2⟩) (fun pre V h => by obtain ⟨u, hu⟩ := h.1.line.2.1; exact ⟨_, _, _, hu⟩) (fun V hF => hLW.go hF) ?_ ?_ (fun V o h => ⟨h.1.go ((Fr.refl _ _).alloc _), h.2⟩) ⟨hB, fun p hp => by cases hp⟩
      (fun p V => { tmps := #[.pointer (some ⟨hb, 0, none⟩), .int .u64 c, .int .u64 s, .pointer (some ⟨W.heap.size, 0, none⟩), undef, .pointer (some ⟨W.heap.size + 1, 0, none⟩), .pointer (some ⟨W.heap.size + 1 + 1, 0, none⟩), .pointer (some ⟨W.heap.size + 1 + 1 + 1, 0, none⟩), undef, .pointer (some ⟨V.heap.size, 0, none⟩), undef, undef, .pointer (some ⟨hb, 0, none⟩), .int .u64 s, .bool true, .bool false, .pointer (some ⟨hb, 0, none⟩), .int .u64 c, .func (.func 84) #[] #[.pointer (some ⟨b1, 0, none⟩), .pointer (some ⟨b2, 0, none⟩)], .int .u64 p.1, .agg #[.int .u64 p.2.super, .int .u64 p.2.dict, .int .i64 p.2.fields, .bool p.2.more], undef, undef, undef, undef, undef, undef, undef, undef, undef, undef, undef, undef, undef, undef, undef], defers := [] })
      (fun p V => V.alloc (.cells #[.int .u64 p.2.super, .int .u64 p.2.dict, .int .i64 p.2.fields, .bool p.2.more] 134)) (fun p V => (Fr.refl _ _).alloc _) ?assign ?body ?done ?stop
    · exact fun pre V l o o' hl hh hc h => ⟨h.1.put o' (Nat.le_trans hws hl) hh hc, h.2⟩
    · exact fun pre V l o o' hl hh hc ⟨m, h, e⟩ => ⟨m, h.put o' (Nat.le_trans hws hl) hh hc, e⟩
    case assign =>
      intro l p V K hK
      obtain ⟨pc, fs, fd, ff, fm⟩ := p
      simp only [lnEnc, Frm.val]
      gi_wp2
      exact hK
    case body =>
      rintro l pre p V V' - ⟨hI, hall⟩ hpre hl hwl hk hsz
      have hbox : V'.heap[V.heap.size]? = some (.cells #[.int .u64 p.2.super, .int .u64 p.2.dict, .int .i64 p.2.fields, .bool p.2.more] 134 (0, 0)) := by rw [hk _ (by omega)]; exact heap_new V _
      have hmem : p ∈ lineK os root c := by obtain ⟨r, hr⟩ := hpre; rw [← hr]; simp
      have hwd : WB p.2.dict := line_dict H.out hmem
      have hszd := H.out.sz p.2.dict
      have hf := kfind (H.out.fr0 hI.line.2.2.1) p.2.dict s hwd hszd
      have hpa := fun (k : Nat) w' (hF : Fr [] V' w') (hk : k ≤ 70000) => kpairAt (H.out.fr0 (hI.line.2.2.1.trans hF)) p.2.dict k hwd hk
      have HI := Lib.hid hI
      have HALL := Lib.hid hall
      have HPRE := Lib.hid hpre
      have HBOX := Lib.hid hbox
      obtain ⟨pc, fs, fd, ff, fm⟩ := p
      simp only at hf hpa hbox hszd ⊢
      have c0 := cell_of_heap (o := 0) hI.hp rfl
      have c1 := cell_of_heap (o := 0) hI.sel rfl
      have c2 := cell_of_heap (o := 1) hbox rfl
      clear hI hall hpre hk hsz hbox hmem hwd
      cases hfi : findI os fd s with
      | none =>
        have e1 : findV os fd s = 0 := by unfold findV; rw [hfi]
        have e2 : findB os fd s = false := by unfold findB; rw [hfi]; rfl
        rw [e1, e2] at hf
        have HFI := Lib.hid hfi
        clear e1 e2 hfi hpa
        gi_wp2_with (refine ⟨trivial, ?_⟩; gi_at_call 68; refine (CallsIn.inRound l (callsIn_wide.2 hf)).mono ?_; rintro e w3 ⟨rfl, hF3⟩; have HF3 := Lib.hid hF3; clear hF3)
        refine ⟨⟨HF3.out.size, fun q ob _ hqo _ => HF3.out.heap (by simp) hqo⟩, ⟨HI.out.go HF3.out, fun p hp => ?_⟩, HF3.out⟩
        rcases List.mem_append.1 hp with hp | hp
        · exact HALL.out p hp
        · rw [List.mem_singleton] at hp
          rw [hp]
          exact HFI.out
      | some q =>
        have e1 : findV os fd s = (q.1 : Int) := by unfold findV; rw [hfi]
        have e2 : findB os fd s = true := by unfold findB; rw [hfi]; rfl
        rw [e1, e2] at hf
        have hq := findI_at hfi
        have hpq := fun w' hF => hpa q.1 w' hF (by omega)
        have HLK : Hid (lookL os s (lineK os root c) = some q.2.2) := lookL_some HALL.out HPRE.out hfi
        rw [← hq.2] at hpq
        obtain ⟨qk, qa, qm⟩ := q
        simp only at hf hpq HLK
        clear e1 e2 hfi hpa hq
        generalize fieldV os fd qk = QV at *
        gi_wp2_with (first
          | (refine ⟨trivial, ?_⟩; gi_at_call 68; refine (CallsIn.inRound l (callsIn_wide.2 hf)).mono ?_; rintro e w3 ⟨rfl, hF3⟩; have HF3 := Lib.hid hF3; clear c0 c1 c2; have c0 := cell_of_heap (o := 0) (HI.out.go hF3).hp rfl; have c2 := cell_of_heap (o := 1) (hF3.heap (by simp) HBOX.out) rfl; clear hF3)
          | (refine ⟨trivial, ?_⟩; gi_at_call 69; refine (CallsIn.inRound l (callsIn_wide.2 (hpq _ HF3.out))).mono ?_; rintro e w4 ⟨rfl, hF4⟩; have HF4 := Lib.hid (HF3.out.trans hF4); clear c0 c2; have c3 := cell_of_heap (o := 0) (HI.out.go HF4.out).res rfl; have c4 := cell_of_heap (o := 0) (HI.out.go HF4.out).err rfl; have z3 := frozen_of_heap (o := 0) (HI.out.go HF4.out).res; have z4 := frozen_of_heap (o := 0) (HI.out.go HF4.out).err; clear hF4))
        have hfd : (Instr.field 138 (.agg #[.int .u64 QV, .int .u64 qm]) 1).run Tryz.prog w4 = .ok (.int .u64 qm) w4 := by first | rfl | kernel_rfl
        rw [hfd]
        clear hfd
        gi_wp2
        have hI4 := HI.out.go HF4.out
        refine ⟨⟨by simp [World.setCell]; exact HF4.out.size, fun p ob hp hpo hoc => ?_⟩, qm, hI4.set _ _, HLK.out⟩
        have hk1 := keeps_set (o := 0) hI4.res w2.heap.size (.int .u64 qm)
        have hok2 : (w4.setCell ⟨W.heap.size + 1 + 1, 0, none⟩ (.int .u64 qm)).heap[W.heap.size + 1 + 1 + 1]? = some (.cells #[.int .i64 0] 32 (0, 0)) := by
          rw [Below.heap_setCell _ _ _ _ (by show W.heap.size + 1 + 1 + 1 ≠ W.heap.size + 1 + 1; omega)]; exact hI4.err
        exact (keeps_set (o := 0) hok2 w2.heap.size (.int .i64 0)).same p ob hp (hk1.same p ob hp (HF4.out.heap (by simp) hpo) hoc) hoc
    case done =>
      rintro D V hD ⟨hI, hall⟩ hDK
      have ck := cell_of_heap (o := 0) hI.res rfl
      have cb := cell_of_heap (o := 0) hI.err rfl
      have zk := frozen_of_heap (o := 0) hI.res
      have zb := frozen_of_heap (o := 0) hI.err
      have hfn := lookL_none hall
      have HI := Lib.hid hI
      have HFN := Lib.hid hfn
      have HDK := Lib.hid hDK
      clear hI hall hDK hfn
      gi_wp2
      have hset := HI.out.set 0 5
      have hdk : ((V.setCell ⟨W.heap.size + 1 + 1, 0, none⟩ (.int .u64 0)).setCell ⟨W.heap.size + 1 + 1 + 1, 0, none⟩ (.int .i64 5)).heap[D]? = some (.deferred (some [])) := by
        have e1 : D ≠ W.heap.size + 1 + 1 := fun e => by have h1 := HI.out.res; rw [← e, HDK.out] at h1; cases h1
        have e2 : D ≠ W.heap.size + 1 + 1 + 1 := fun e => by have h1 := HI.out.err; rw [← e, HDK.out] at h1; cases h1
        rw [Below.heap_setCell _ _ _ _ e2, Below.heap_setCell _ _ _ _ e1]; exact HDK.out
      refine ⟨by simp, .inl ⟨_, _, rfl, run_takeDeferred hdk, ?_⟩⟩
      have hL2 := hset.put (.deferred none) (Nat.le_trans hws hD) hdk rfl
      have r1 := cell_of_heap (o := 0) hL2.res rfl
      have r2 := cell_of_heap (o := 0) hL2.err rfl
      refine ⟨.tuple #[.int .u64 0, .int .i64 5], ?_, ?_, hL2.line.2.2.1⟩
      · simp [results, Tryz.results51, go_sem, r1, r2]
      · unfold lookR; rw [HSB.out, if_pos rfl, HFN.out]; exact rfl
    case stop =>
      rintro D pre V hD hpre ⟨m, hI, hf⟩ hDK
      have HI := Lib.hid hI
      have HFN := Lib.hid hf
      have HDK := Lib.hid hDK
      clear hI hDK hf
      gi_wp2
      refine ⟨by simp, .inl ⟨_, _, rfl, run_takeDeferred HDK.out, ?_⟩⟩
      have hL2 := HI.out.put (.deferred none) (Nat.le_trans hws hD) HDK.out rfl
      have r1 := cell_of_heap (o := 0) hL2.res rfl
      have r2 := cell_of_heap (o := 0) hL2.err rfl
      refine ⟨.tuple #[.int .u64 m, .int .i64 0], ?_, ?_, hL2.line.2.2.1⟩
      · simp [results, Tryz.results51, go_sem, r1, r2]
      · unfold lookR; rw [HSB.out, if_pos rfl, HFN.out]; exact rfl
end
end Go.Proofs.YtofhgfgipdokbaaGreatDoor
