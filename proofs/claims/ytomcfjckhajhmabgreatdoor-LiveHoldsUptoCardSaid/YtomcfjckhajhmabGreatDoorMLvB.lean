/- live: the keys of the map, sorted. live: the intervals in the order of their registers. live.Intervals. live: a part of a unit's code. live.Intervals: what it answers. -/
import Derived.Test.YtomcfjckhajhmabGreatDoorMLvA
import Derived.Test.YtomcfjckhajhmabGreatDoorMLivLay
import Derived.Test.YtomcfjckhajhmabGreatDoorMIrB
import Derived.Test.YtomcfjckhajhmabGreatDoorMIrA
import Derived.Lib.ItoaMem
namespace Go.Proofs.YtomcfjckhajhmabGreatDoor
open Go.RowKit Go.Maps Go.Sort Go.Shelf

theorem lv_sortsIn (m : Nat) : AnyZI.SortsIn Tryz.prog Tryz.lvSorted_ren Fence.wide m :=
  ⟨fun blk off cap ss W hH hblk hsz => callsIn_wide.2 (AnyM.slices_Sort_int Tryz.lvSort blk off cap ss W hH hblk hsz),
   fun p cap W => callsIn_wide.2 (AnyM.slices_Sort_int_none Tryz.lvSort p cap W)⟩
/-- maps.Keys: the map in a box -/
theorem lv_keys (b : Nat) (w : World) : Calls Tryz.prog 50 #[.map (some b)] w fun e w' => e = .returned (.func (.func 73) #[] #[.pointer (some ⟨w.heap.size, 0, none⟩)]) ∧ w' = w.alloc (.cells #[.map (some b)] 85) :=
  (callsIn_wide (n := 5)).1 (AnyZI.keys_in Tryz.lvKeys Fence.wide 5 trivial rfl (some b) w)
/-- slices.Sorted of that -/
theorem lv_sorted (bm b : Nat) (D : DataW Unit) (w : World) (hm : w.heap[bm]? = some (.cells #[.map (some b)] 85 (0, 0))) (hD : w.ownsMap Tryz.prog 3 ivE b 4096 D) :
    Calls Tryz.prog 49 #[.func (.func 73) #[] #[.pointer (some ⟨bm, 0, none⟩)]] w fun e w' => ∃ (v : Value) (ss : List Int), e = .returned v ∧ ss.Perm (intKeys D) ∧
      w'.ownsRow w.heap.size 3 1 v ss.length ((ss.mergeSort (fun x y => decide (x ≤ y))).map encZ) ∧ (v = .slice none 0 0 ↔ ss = []) ∧ Below w.heap.size w w' := by
  have hz := hD.size_le
  have hbl : bm < w.heap.size := lt_of_heap hm
  have hc : w.cell? ⟨bm, 0, none⟩ = some (.map (some b)) := cell_of_heap hm rfl
  have hseq : SeqGives Fence.wide 2 Tryz.prog 73 #[.pointer (some ⟨bm, 0, none⟩)] encZ (fun ss => ss.Perm (intKeys D)) (Maps.size D) w :=
    AnyZI.keys_gives (ρ := Tryz.lvKeys_ren) { Tryz.lvKeys with } Fence.wide _ trivial rfl (by omega) bm b 4096 D _ hbl hc hD
  have cS := AnyZI.sorted_in Tryz.lvSorted Fence.wide 5 trivial trivial trivial trivial rfl (by omega) (lv_sortsIn _) (enters_of Tryz.func72 (by kernel_rfl) rfl) 73 #[.pointer (some ⟨bm, 0, none⟩)] trivial (enters_of Tryz.func73 (by kernel_rfl) rfl) _ _ (by unfold maxLen; omega) (by omega) _ hseq
  exact (callsIn_wide (n := 5)).1 cS
/-- .. as the registers that have intervals, rising, in a new row -/
theorem lv_sorted_at (bm b R : Nat) (val : Int → Option (Nat × Nat)) (hR : ∀ x, (val x).isSome = true → 0 ≤ x ∧ x < R) (w : World) (hm : w.heap[bm]? = some (.cells #[.map (some b)] 85 (0, 0))) (hM : MI w b val) :
    Calls Tryz.prog 49 #[.func (.func 73) #[] #[.pointer (some ⟨bm, 0, none⟩)]] w fun e w' => ∃ a c, e = .returned (.slice a (ivKeys val R).length c) ∧ Fr [] w w' ∧ IntsAt w' a (ivKeys val R) ∧ ∀ g o, a = some ⟨g, o, none⟩ → w.heap.size ≤ g := by
  obtain ⟨D, hD, hh⟩ := hM.map
  refine (lv_sorted bm b D w hm hD).mono ?_
  rintro e w' ⟨v, ss, rfl, hp, hrow, -, hb⟩
  have hk := ivD_keys hD (fun x => (hh x).1) hR
  have hs : ss.mergeSort (fun x y => decide (x ≤ y)) = ivKeys val R := (mergeSort_of_perm_i (hp.trans hk.symm)).trans (ivKeys_sorted val R)
  have hl : ss.length = (ivKeys val R).length := by rw [← hs, List.length_mergeSort]
  rw [hs, hl] at hrow
  obtain ⟨a, c, rfl⟩ := irow_shape hrow
  have hnew : ∀ g o, a = some ⟨g, o, none⟩ → w.heap.size ≤ g := fun g o e => by
    rcases hrow.2 with ⟨hv, hn⟩ | ⟨g', cap, cur, hv, hg, -⟩
    · have h9 := (Value.slice.inj hv).1
      rw [e] at h9
      cases h9
    · have h9 := (Value.slice.inj hv).1
      rw [e] at h9
      cases h9
      exact hg
  refine ⟨a, c, rfl, Fr.below hb, fun k x hk => ?_, hnew⟩
  have hkl := (List.getElem?_eq_some_iff.1 hk).1
  rcases hrow.2 with ⟨hv, hn⟩ | ⟨g, cap, cur, hv, -⟩
  · omega
  · cases hv
    refine ⟨g, 0, rfl, ?_⟩
    have hc := hrow.cells (g := g) rfl k (.int .i64 x) (by simp [hk])
    rw [Lib.add_plain] at hc
    exact hc
end Go.Proofs.YtomcfjckhajhmabGreatDoor
namespace Go.Proofs.YtomcfjckhajhmabGreatDoor
open Go.RowKit

/-- intervals, cell by cell -/
def flatIv (l : List (Int × Nat × Nat)) : List Value := l.flatMap fun p => [.int .i64 p.1, .int .i64 p.2.1, .int .i64 p.2.2]
theorem flatIv_len (l : List (Int × Nat × Nat)) : (flatIv l).length = l.length * 3 := by
  induction l with
  | nil => rfl
  | cons a l ih => rw [show flatIv (a :: l) = .int .i64 a.1 :: .int .i64 a.2.1 :: .int .i64 a.2.2 :: flatIv l from rfl]; simp [ih]; omega
theorem flatIv_snoc (l : List (Int × Nat × Nat)) (v : Int) (f t : Nat) : flatIv (l ++ [(v, f, t)]) = flatIv l ++ [.int .i64 v, .int .i64 f, .int .i64 t] := by simp [flatIv]
theorem infoIv : (Tryz.prog.info? 63).map (fun i => (i.zero, i.size, i.bytes)) = some (some (.agg #[.int .i64 0, .int .i64 0, .int .i64 0]), 3, 24) := by kernel_rfl
theorem makeIv (n : Nat) (h2 : n ≤ 4096) : ∃ Z : Array Value, Hid (Z.size = n * 3) ∧ ∀ W : World, (Instr.makeSlice 51 (.int .i64 0) (.int .i64 (n : Int))).run Tryz.prog W = .ok (.slice (some ⟨W.heap.size, 0, none⟩) 0 n) (W.alloc (.cells Z 63)) := by
  obtain ⟨i0, hi, hz0, hz1, hz2⟩ := info_parts infoIv
  refine ⟨madeCells (Value.agg #[.int .i64 0, .int .i64 0, .int .i64 0]).cells (n * 3), Lib.hid (size_madeCells _ _), fun W => ?_⟩
  have hr := run_make (P := Tryz.prog) W 51 63 i0 (.agg #[.int .i64 0, .int .i64 0, .int .i64 0]) Tryz.underlying51 hi hz0 .i64 .i64 0 n (by omega) (by omega) (by rw [hz2]; omega) (by omega)
  simp only [Int.toNat_natCast, Int.toNat_zero, hz1] at hr
  exact hr
theorem heap_new2 (w : World) (a b : Obj) : ((w.alloc a).alloc b).heap[w.heap.size + 1]? = some b := by
  have h := heap_new (w.alloc a) b
  simpa using h
/-- Returned: intervals, in a new row. -/
def IvsTo (l : List (Int × Nat × Nat)) (w : World) (v : Value) (w' : World) : Prop := IGrows w 63 3 l.length (flatIv l) v w'
set_option maxRecDepth 100000 in
set_option maxHeartbeats 4000000 in
theorem lv_list (b R : Nat) (E : List (Int × Nat)) (w : World) (hM : MI w b (ivV E)) (hR : R ≤ 4096) (hd : ∀ x, (ivV E x).isSome = true → 0 ≤ x ∧ x < R) : Calls Tryz.prog 35 #[.map (some b)] w (fun e w' => ∃ v, e = .returned v ∧ IvsTo (ivs E R) w v w') := by
  obtain ⟨i0, hi, hz0, hz1, hz2⟩ := info_parts infoIv
  obtain ⟨D, hD, hh⟩ := hM.map
  have hsz := hD.size_le
  obtain ⟨N, hN⟩ : ∃ N, N = Maps.size D := ⟨_, rfl⟩
  rw [← hN] at hsz
  obtain ⟨Z, HZ, hmk⟩ := makeIv N hsz
  have hlen : ∀ ty, (Builtin.len_ #[85] ty #[.map (some b)]).run Tryz.prog w = .ok (.int .i64 (N : Int)) w := fun ty => by rw [hN]; exact hD.len Tryz.underlying85 ty
  have HSO : Hid (∀ W bm, Fr [] w W → W.heap[bm]? = some (.cells #[.map (some b)] 85 (0, 0)) → Calls Tryz.prog 49 #[.func (.func 73) #[] #[.pointer (some ⟨bm, 0, none⟩)]] W fun e w' => ∃ a c, e = .returned (.slice a (ivKeys (ivV E) R).length c) ∧ Fr [] W w' ∧ IntsAt w' a (ivKeys (ivV E) R) ∧ ∀ g o, a = some ⟨g, o, none⟩ → W.heap.size ≤ g) := Lib.hid fun W bm hF hb => lv_sorted_at bm b R _ hd W hb (hM.fr hF (by simp))
  have HLK : Hid (∀ W, Fr [] w W → ∀ x f t, ivV E x = some (f, t) → (Instr.lookup 85 (.map (some b)) (.int .i64 x) false).run Tryz.prog W = .ok (ivA x f t) W) := Lib.hid fun W hF x f t hx => by
    have h9 := hd x (by rw [hx]; rfl)
    exact lv_fetch (owns_fr hD hF (by simp)) (by omega) ((hh x).2 f t hx _)
  have hkl : (ivKeys (ivV E) R).length ≤ 4096 := Nat.le_trans (ivKeys_len _ _) hR
  have hil : (ivs E R).length = (ivKeys (ivV E) R).length := by rw [← ivs_keys, List.length_map]
  obtain ⟨L, hL⟩ : ∃ L, L = (ivKeys (ivV E) R).length := ⟨_, rfl⟩
  unfold IvsTo
  rw [hil, ← hL]
  rw [← hL] at hkl HSO
  have HIL : Hid (L = (ivs E R).length) := Lib.hid (by rw [hil, hL])
  have HKL := Lib.hid hL
  have HNB := Lib.hid hsz
  clear hM hD hh hd hL hN hR hil hsz
  go_enter Tryz.func35, Tryz.ntmps35
  go_wp2_with (first
    | (go_at_call 50; refine (lv_keys b _).mono ?_; rintro e w1 ⟨rfl, rfl⟩)
    | (go_at_call 49; (with_reducible refine (HSO.out _ (w.heap.size + 1) (by (repeat (first | (with_reducible refine Fr.setCell ?_ (fun h => absurd h (Nat.lt_irrefl _)) _) | (with_reducible refine Fr.setCell ?_ (fun h => absurd h (by first | omega | (simp; done) | (simp; omega) | (dsimp only; omega))) _) | (with_reducible refine Fr.alloc ?_ _) | (with_reducible refine Fr.drew ?_) | (with_reducible refine Fr.drewN ?_ _) | (with_reducible exact Fr.refl _ _)))) (heap_new2 w _ _)).mono ?_); rintro e w2 ⟨sa, sc, rfl, hF2, hI2, hn2⟩; have HN2 : Hid (∀ g o, sa = some ⟨g, o, none⟩ → w.heap.size + 1 < g) := Lib.hid (fun g o e => by have := hn2 g o e; simp at this; omega); have HF2 : Hid (Fr [] w w2) := Lib.hid (Fr.trans (by (repeat (first | (with_reducible refine Fr.setCell ?_ (fun h => absurd h (Nat.lt_irrefl _)) _) | (with_reducible refine Fr.setCell ?_ (fun h => absurd h (by first | omega | (simp; done) | (simp; omega) | (dsimp only; omega))) _) | (with_reducible refine Fr.alloc ?_ _) | (with_reducible refine Fr.drew ?_) | (with_reducible refine Fr.drewN ?_ _) | (with_reducible exact Fr.refl _ _)))) hF2); have HB2 : Hid (w2.heap[w.heap.size]? = some (.cells Z 63 (0, 0))) := Lib.hid (hF2.heap (by simp) ((Below.heap_alloc _ _ _ (by simp)).trans (heap_new w _))); have HS2 := Lib.hid hI2; have HG2 : Hid (∀ g o, sa = some ⟨g, o, none⟩ → 0 < L → g < w2.heap.size) := Lib.hid (fun g o e h0 => by obtain ⟨g', o', e', c'⟩ := hI2 0 ((ivKeys (ivV E) R)[0]'(by rw [← HKL.out]; exact h0)) (List.getElem?_eq_getElem _); rw [e] at e'; cases e'; exact World.block_lt_of_cell? _ _ c'); clear hF2 hI2 hn2))
  go_loopw [3, 13] (fun v i wr => ∃ k : Nat, k ≤ L ∧ i = .int .i64 k ∧ Hid (IGrows w 63 3 k (flatIv ((ivs E R).take k)) v wr) ∧ Hid (IntsAt wr sa (ivKeys (ivV E) R)) ∧ Hid ((∀ q, v.ownBlock = some q → q = w.heap.size ∨ w2.heap.size ≤ q) ∧ w2.heap.size ≤ wr.heap.size)) (fun _ i _ => L - (RowKit.intOf i).toNat)
  case atStart => exact ⟨0, Nat.zero_le _, rfl, Lib.hid ⟨⟨by simp [flatIv], .inr ⟨w.heap.size, N, Z, rfl, Nat.zero_le _, HB2.out, Nat.zero_le _, by have := HNB.out; unfold maxLen; omega, HZ.out, by simp [flatIv]⟩⟩, HF2.out, fun q hq => by cases hq; exact Nat.le_refl _⟩, HS2, Lib.hid ⟨fun q hq => by cases hq; exact .inl rfl, Nat.le_refl _⟩⟩
  case round =>
    obtain ⟨k, hk, rfl, HG, HS, HQ⟩ := hrel
    obtain ⟨ao, cap, rfl⟩ := irow_shape HG.out.row
    by_cases hlt : k < L
    · obtain ⟨x, hx⟩ : ∃ x, (ivKeys (ivV E) R)[k]? = some x := ⟨_, List.getElem?_eq_getElem (by rw [← HKL.out]; exact hlt)⟩
      obtain ⟨g, o, rfl, c0⟩ := HS.out k x hx
      have hsa : Hid (∀ w5, Fr (Value.slice ao k cap).ownBlock.toList wr w5 → IntsAt w5 (some ⟨g, o, none⟩) (ivKeys (ivV E) R)) := Lib.hid fun w5 hF => by
        have h1 := HN2.out g o rfl
        have h2 := HG2.out g o rfl (by omega)
        exact HS.out.frL (fun g' o' e => by cases e; intro hm; have h3 := HQ.out.1 g (by simpa using hm); omega) hF
      obtain ⟨f, t, hi2, hft⟩ := ivs_at hx
      have hlk := HLK.out wr HG.out.fr x f t hft
      unfold ivA at hlk
      have HTq : Hid (flatIv ((ivs E R).take (k + 1)) = flatIv ((ivs E R).take k) ++ [.int .i64 x, .int .i64 f, .int .i64 t]) := Lib.hid (by rw [take_snoc hi2, flatIv_snoc])
      have hg : g < wr.heap.size := World.block_lt_of_cell? wr _ c0
      have k0 : (0 : Int) ≤ (k : Int) := by omega
      have k1 : (k : Int) < (L : Int) := by omega
      have HRW : Hid ((wr.alloc (.cells #[.int .i64 x, .int .i64 f, .int .i64 t] 63)).ownsRow 0 63 3 (.slice ao k cap) k (flatIv ((ivs E R).take k))) := Lib.hid ((HG.out.fr' ((Fr.refl _ _).alloc _)).row)
      have HNW := Lib.hid (heap_new wr (.cells #[.int .i64 x, .int .i64 f, .int .i64 t] 63))
      generalize flatIv ((ivs E R).take k) = fl at *
      clear hx hi2 hft hlt
      go_wp2_with (at_builtin; refine wpList_append_at _ rfl (.tmp 17) (.tmp 21) 51 rfl 63 i0 _ 3 24 Tryz.underlying51 hi hz0 hz1 hz2 rfl (by decide) (.slice ao k cap) k _ rfl HRW.out ⟨wr.heap.size, 0, none⟩ 1 1 [.int .i64 x, .int .i64 f, .int .i64 t] rfl rfl (by
            intro j u hj
            rw [Lib.add_plain, Nat.zero_add]
            exact cell_of_heap HNW.out (by simpa using hj)) (by simp [Value.oneCell']) (by unfold maxLen; omega) (by omega) ?_; intro v5 w5 ho5 hg5 hf5; obtain ⟨a5, p5, rfl⟩ := irow_shape ho5; have HGn := Lib.hid (HG.out.step ((Fr.refl [] _).alloc _) ho5 hg5 hf5); have HS5 : Hid (IntsAt w5 (some ⟨g, o, none⟩) (ivKeys (ivV E) R)) := Lib.hid (hsa.out w5 (Fr.grown ((Fr.refl _ wr).alloc _) hg5 (fun q hq _ => by simp [hq]))); have HQ5 : Hid ((∀ q, (Value.slice a5 (k + 1) p5).ownBlock = some q → q = w.heap.size ∨ w2.heap.size ≤ q) ∧ w2.heap.size ≤ w5.heap.size) := Lib.hid ⟨fun q hq => by rcases hf5 with h | h; exact HQ.out.1 q (h ▸ hq); rw [h] at hq; cases hq; have := HQ.out.2; right; simp; omega, by have h1 := HQ.out.2; have h2 := hg5.size; simp at h2; omega⟩; clear ho5 hg5 hf5)
      go_roundw
      case rel => exact ⟨k + 1, by omega, by go_num, Lib.hid (by rw [HTq.out]; exact HGn.out), HS5, HQ5⟩
      case measure => simp [RowKit.intOf]; omega
    · have hkn : k = L := by omega
      have HTq : Hid ((ivs E R).take k = ivs E R) := Lib.hid (by rw [hkn, HIL.out, List.take_length])
      have HKN := Lib.hid hkn
      have hkd : ¬ (k : Int) < (L : Int) := by omega
      clear hkn hlt
      go_wp2_with fail
      go_ret
      exact ⟨_, rfl, by have h9 := HG.out; rw [HTq.out] at h9; rw [← HKN.out]; exact h9⟩
end Go.Proofs.YtomcfjckhajhmabGreatDoor
namespace Go.Proofs.YtomcfjckhajhmabGreatDoor
open Go.RowKit

theorem ivV_ins (i : Ii) (k : Nat) (E : List (Int × Nat)) : notesV (ivV E) (insSrcs i) k = ivV (E ++ stamp k (insRegs i)) := by rw [ivV_notes, insSrcs_regs]
theorem ivV_VB {E : List (Int × Nat)} {n : Nat} (hn : n ≤ 1000) (h : ∀ v k, (v, k) ∈ E → k ≤ n) : VB (ivV E) := fun x f t hx => by
  unfold ivV at hx
  cases hF : E.filter (fun e => decide (e.1 = x)) with
  | nil => rw [hF] at hx; cases hx
  | cons a r =>
    rw [hF] at hx
    have hm : ∀ e ∈ a :: r, e.2 ≤ n := fun e he => by
      have h9 : e ∈ E.filter (fun e => decide (e.1 = x)) := by rw [hF]; exact he
      exact h e.1 e.2 (List.mem_filter.1 h9).1
    simp only [Option.some.injEq, Prod.mk.injEq] at hx
    obtain ⟨rfl, rfl⟩ := hx
    refine ⟨Nat.le_trans (hm a (by simp)) hn, ?_⟩
    have hl : r.getLastD a ∈ a :: r := by
      cases r with
      | nil => simp
      | cons b s =>
        rw [List.getLastD_cons]
        refine List.mem_cons_of_mem _ ?_
        have h9 : (b :: s).getLast (by simp) ∈ b :: s := List.getLast_mem _
        rwa [List.getLast_eq_getLastD] at h9
    exact Nat.le_trans (hm _ hl) hn
/-- what sources may be, in a unit that may be -/
theorem regs_src {R P : Int} (hR : R ≤ 4096) {s : Sr} (h : srcOk R P s = true) : s.kind = 0 → 0 ≤ s.n ∧ s.n < R ∧ s.w = 0 := by
  unfold srcOk at h
  simp only [decide_eq_true_eq] at h
  omega
structure UOk (u : Un) : Prop where
  regs : 0 ≤ u.regs ∧ u.regs ≤ 4096
  maps : ∀ m ∈ u.maps, ∀ s ∈ m.l, srcOk u.regs u.spills s = true
  code : ∀ i ∈ u.code, insOkU u.regs u.spills u.sites u.maps.length i = true
  starts : u.maps.length + 1 = u.starts.length ∧ u.starts.length ≤ 129 ∧ 2 ≤ u.starts.length
  st : ∀ k, k < u.maps.length → ∃ a b : Nat, u.starts[k]? = some (a : Int) ∧ u.starts[k + 1]? = some (b : Int) ∧ a ≤ b ∧ b ≤ u.code.length
theorem rising_leL {l : List Int} (h : rising l) : ∀ (d k : Nat) (a b : Int), l[k]? = some a → l[k + d]? = some b → a ≤ b
  | 0, k, a, b, ha, hb => by rw [Nat.add_zero, ha] at hb; cases hb; exact Int.le_refl _
  | d + 1, k, a, b, ha, hb => by
    have hlt := (List.getElem?_eq_some_iff.1 hb).1
    have hc : l[k + d]? = some (l[k + d]'(by omega)) := List.getElem?_eq_getElem (by omega)
    exact Int.le_trans (rising_leL h d k a _ ha hc) (h (k + d) _ b hc (by rw [Nat.add_assoc]; exact hb))
theorem uok_of {u : Un} (h : okU u = true) : UOk u := by
  unfold okU at h
  simp only [Bool.and_eq_true] at h
  obtain ⟨⟨⟨h1, h2⟩, h3⟩, h4⟩ := h
  have hn := (numsOk_iff u).1 h1
  obtain ⟨s2, s129, sm, s0, sL, sr⟩ := (startsOk_iff u).1 h2
  refine ⟨hn.2.2.2.1, fun m hm s hs => ?_, fun i hi => List.all_eq_true.1 ((codeOk_iff u).1 h4).2.2.1 i hi, ⟨sm, s129, s2⟩, fun k hk => ?_⟩
  · have h9 := List.all_eq_true.1 h3 m hm
    unfold mapOk at h9
    rw [Bool.and_eq_true] at h9
    exact List.all_eq_true.1 h9.2 s hs
  · have ha : u.starts[k]? = some (u.starts[k]'(by omega)) := List.getElem?_eq_getElem (by omega)
    have hb : u.starts[k + 1]? = some (u.starts[k + 1]'(by omega)) := List.getElem?_eq_getElem (by omega)
    have h0 := rising_leL sr k 0 _ _ s0 (by rw [Nat.zero_add]; exact ha)
    have h1 := sr k _ _ ha hb
    have h2 := rising_leL sr (u.starts.length - 1 - (k + 1)) (k + 1) _ _ hb (by rw [show k + 1 + (u.starts.length - 1 - (k + 1)) = u.starts.length - 1 by omega]; exact sL)
    generalize u.starts[k]'(by omega) = a at *
    generalize u.starts[k + 1]'(by omega) = b at *
    exact ⟨a.toNat, b.toNat, by rw [ha]; congr 1; omega, by rw [hb]; congr 1; omega, by omega, by omega⟩
theorem ins_regsIn {R P S M : Int} (hR : R ≤ 4096) {i : Ii} (h : insOkU R P S M i = true) : ∀ s ∈ insSrcs i, s.kind = 0 → 0 ≤ s.n ∧ s.n < R := by
  intro s hs h0
  unfold insOkU at h
  simp only [Bool.and_eq_true] at h
  unfold insSrcs at hs
  rcases List.mem_append.1 hs with hs | hs
  · have := regs_src hR (List.all_eq_true.1 h.1.1.1.2 s (List.mem_filter.1 hs).1) h0
    omega
  · split at hs
    · next hl =>
      simp only [List.mem_singleton] at hs
      subst hs
      have h2 := h.1.1.2
      unfold resOk at h2
      rw [if_pos hl, Bool.and_eq_true] at h2
      have := regs_src hR h2.2 h0
      omega
    · simp at hs
theorem regL_mem {l : List Sr} {v : Int} (h : v ∈ regL l) : ∃ s ∈ l, s.kind = 0 ∧ s.n = v := by
  unfold regL at h
  obtain ⟨s, hs, rfl⟩ := List.mem_map.1 h
  have := List.mem_filter.1 hs
  exact ⟨s, this.1, by simpa using this.2, rfl⟩
/-- whatever is used is a register that there is -/
theorem uses_in {u : Un} (h : UOk u) {k : Nat} {v : Int} (hv : v ∈ usesAt u k) : 0 ≤ v ∧ v < u.regs := by
  unfold usesAt at hv
  rcases List.mem_append.1 hv with hv | hv
  · obtain ⟨s, hs, h0, rfl⟩ := regL_mem hv
    unfold mapU at hs
    split at hs
    · next m hm =>
      have := regs_src h.regs.2 (h.maps m (List.mem_of_getElem? hm) s hs) h0
      omega
    · simp at hs
  · obtain ⟨i, hi, hv⟩ := List.mem_flatMap.1 hv
    rw [← insSrcs_regs] at hv
    obtain ⟨s, hs, h0, rfl⟩ := regL_mem hv
    exact ins_regsIn h.regs.2 (h.code i (by unfold partU at hi; exact (List.drop_sublist _ _).mem ((List.take_sublist _ _).mem hi))) s hs h0
theorem part_at {u : Un} {k a b : Nat} (ha : u.starts[k]? = some (a : Int)) (hb : u.starts[k + 1]? = some (b : Int)) : partU u k = (u.code.drop a).take (b - a) := by
  unfold partU
  rw [List.getD_eq_getElem?_getD, List.getD_eq_getElem?_getD, ha, hb]
  rfl
/-- the intervals of a unit that may be -/
def ivsU (u : Un) : List (Int × Nat × Nat) := ivs (evs u u.maps.length) u.regs.toNat
end Go.Proofs.YtomcfjckhajhmabGreatDoor
namespace Go.Proofs.YtomcfjckhajhmabGreatDoor
open Go.RowKit

theorem elemIns : Tryz.prog.elem 30 = 59 := by kernel_rfl
set_option maxRecDepth 100000 in
theorem code_cut (ca : Option Addr) (cl cc a b : Nat) (hab : a ≤ b) (hbc : b ≤ cc) : ∃ ca' cc', (∀ W, (Instr.slice 30 (.slice ca cl cc) (some (.int .i64 (a : Int))) (some (.int .i64 (b : Int))) none).run Tryz.prog W = .ok (.slice ca' (b - a) cc') W) ∧ ∀ g o, ca = some ⟨g, o, none⟩ → a < b → ca' = some ⟨g, o + a * 7, none⟩ := by
  have h := fun W => run_slice_lh (P := Tryz.prog) (w := W) 30 ca cl cc Tryz.underlying30 .i64 .i64 (a : Int) (b : Int) (by omega) (by omega) (by omega)
  refine ⟨if cc = a then ca else ca.map (·.add (a * 7)), cc - a, fun W => ?_, fun g o e hlt => ?_⟩
  · rw [h W, elemIns, Tryz.sizeOf59 W]
    simp [Result.andThen, sliced]
  · rw [if_neg (by omega), e, Option.map_some, Lib.add_plain]
end Go.Proofs.YtomcfjckhajhmabGreatDoor
namespace Go.Proofs.YtomcfjckhajhmabGreatDoor
open Go.RowKit

/-- Returned: the intervals of the unit, or that it may not be. -/
def IntTo (u : Un) (w : World) (e : Ending) (w' : World) : Prop := Fr [] w w' ∧ ((okU u = true ∧ ∃ a c, e = .returned (.tuple #[.slice a (ivsU u).length c, .int .i64 0]) ∧ IGrows w 63 3 (ivsU u).length (flatIv (ivsU u)) (.slice a (ivsU u).length c) w') ∨ (okU u = false ∧ e = .returned (.tuple #[.slice none 0 0, .int .i64 1])))
theorem evs_max {u : Un} {n : Nat} {v : Int} {k : Nat} (h : (v, k) ∈ evs u n) : k ≤ n := Nat.le_of_lt (mem_evs.1 h).1
theorem evs_dom {u : Un} (h : UOk u) {n : Nat} {x : Int} (hx : (ivV (evs u n) x).isSome = true) : 0 ≤ x ∧ x < u.regs := by
  obtain ⟨k, hk⟩ := ivV_is.1 hx
  exact uses_in h (mem_evs.1 hk).2
set_option maxRecDepth 100000 in
set_option maxHeartbeats 8000000 in
theorem lv_Intervals (u : Un) (w : World) (hA : UAt w u) (hB : UB u) : Calls Tryz.prog 12 #[u.v] w (IntTo u w) := by
  have h1 : Hid (∀ W, Fr [] w W → Calls Tryz.prog 7 #[u.v] W (Still (.int .i64 (errU u)) W)) := Lib.hid fun W hF => ir_Check u W (hA.fr hF) hB
  have he : errU u = 1 ∧ okU u = false ∨ errU u = 0 ∧ okU u = true := by
    unfold errU
    cases okU u
    · exact .inl ⟨rfl, rfl⟩
    · exact .inr ⟨rfl, rfl⟩
  rcases he with ⟨he, hok⟩ | ⟨he, hok⟩
  · rw [he] at h1
    have HNO : Hid (∀ w', Fr [] w w' → IntTo u w (.returned (.tuple #[.slice none 0 0, .int .i64 1])) w') := Lib.hid fun w' hF => ⟨hF, .inr ⟨hok, rfl⟩⟩
    generalize IntTo u w = Q at *
    obtain ⟨method, args, T, R, P, S, ea, en, ec, ca, co, cc, sa, st, sc, ma, mp, mc⟩ := u
    unfold Un.v at h1 ⊢
    simp only at h1 ⊢
    clear hA hB he hok
    generalize en.length = el at *
    generalize co.length = cl at *
    generalize st.length = sl at *
    generalize mp.length = ml at *
    go_enter Tryz.func12, Tryz.ntmps12
    go_wp2_with (go_at_call 7; refine (h1.out _ (by (repeat (first | (with_reducible refine Fr.setCell ?_ (fun h => absurd h (Nat.lt_irrefl _)) _) | (with_reducible refine Fr.setCell ?_ (fun h => absurd h (by first | omega | (simp; done) | (simp; omega) | (dsimp only; omega))) _) | (with_reducible refine Fr.alloc ?_ _) | (with_reducible refine Fr.drew ?_) | (with_reducible refine Fr.drewN ?_ _) | (with_reducible exact Fr.refl _ _))))).mono ?_; rintro e w2 ⟨rfl, hF⟩; have HF2 : Hid (Fr [] w w2) := Lib.hid (Fr.trans (by (repeat (first | (with_reducible refine Fr.setCell ?_ (fun h => absurd h (Nat.lt_irrefl _)) _) | (with_reducible refine Fr.setCell ?_ (fun h => absurd h (by first | omega | (simp; done) | (simp; omega) | (dsimp only; omega))) _) | (with_reducible refine Fr.alloc ?_ _) | (with_reducible refine Fr.drew ?_) | (with_reducible refine Fr.drewN ?_ _) | (with_reducible exact Fr.refl _ _)))) hF); clear hF)
    exact HNO.out _ HF2.out
  · rw [he] at h1
    have hU := uok_of hok
    have hk9 : ∀ k, k < u.maps.length → k ≤ 1000 := fun k hk => by have := hU.starts; omega
    have HNA : Hid (∀ W b (k : Nat) m, u.maps[k]? = some m → LM w b (ivV (evs u k)) W → Calls Tryz.prog 33 #[.map (some b), .slice m.a m.l.length m.c, .int .i64 k] W (LvNoteTo w b (ivV (evs u k ++ stamp k (regL (mapU u k)))) W)) := Lib.hid fun W b k m hm hW => by
      have hk := (List.getElem?_eq_some_iff.1 hm).1
      have hmu : mapU u k = m.l := by unfold mapU; rw [hm]
      have hmm := List.mem_of_getElem? hm
      have hS := (hA.maps k m hm).2
      have hne : m.l = [] ∨ ∀ g o, m.a = some ⟨g, o, none⟩ → g ≠ b := by
        cases hl : m.l with
        | nil => exact .inl rfl
        | cons s r =>
          refine .inr fun g o e => ?_
          obtain ⟨g', o', e', c', -⟩ := hS 0 s (by rw [hl]; rfl)
          rw [e] at e'
          cases e'
          have hgl : g < w.heap.size := World.block_lt_of_cell? w _ c'
          have := hW.new
          omega
      rw [hmu, ← ivV_notes]
      exact lv_noteAll w b (ivV (evs u k)) m.l m.a m.c k W hW (hS.fr hW.fr) (hB.maps m hmm).1 (fun s hs h0 => by have := regs_src hU.regs.2 (hU.maps m hmm s hs) h0; have := hU.regs; omega) (hk9 k hk) (ivV_VB (hk9 k hk) (fun v j hj => evs_max hj)) hne
    have HNI : Hid (∀ W b (k : Nat) (E : List (Int × Nat)) i, k < u.maps.length → i ∈ u.code → SrcsAt w i.la i.l → (∀ v j, (v, j) ∈ E → j ≤ k) → LM w b (ivV E) W → Calls Tryz.prog 34 #[.map (some b), i.v, .int .i64 k] W (LvNoteTo w b (ivV (E ++ stamp k (insRegs i))) W)) := Lib.hid fun W b k E i hk hi hS hE hW => by
      rw [← ivV_ins]
      exact lv_noteIns w b (ivV E) i k W hW (hB.code i hi) (hS.fr hW.fr) (fun s hs h0 => by have := ins_regsIn hU.regs.2 (hU.code i hi) s hs h0; have := hU.regs; omega) (hk9 k hk) (ivV_VB (hk9 k hk) hE)
    have HLI : Hid (∀ W b, LM w b (ivV (evs u u.maps.length)) W → Calls Tryz.prog 35 #[.map (some b)] W (fun e w' => ∃ v, e = .returned v ∧ IvsTo (ivsU u) W v w')) := Lib.hid fun W b hW => lv_list b u.regs.toNat _ W hW.map (by have := hU.regs; omega) (fun x hx => by have := evs_dom hU hx; have := hU.regs; omega)
    have HSP := Lib.hid hU.st
    have HPA : Hid (∀ (k a b : Nat), u.starts[k]? = some (a : Int) → u.starts[k + 1]? = some (b : Int) → evs u (k + 1) = evs u k ++ stamp k (regL (mapU u k)) ++ stamp k (((u.code.drop a).take (b - a)).flatMap insRegs)) := Lib.hid fun k a b ha hb => by rw [evs_succ, usesAt, stamp_append, part_at ha hb, List.append_assoc]
    have HEV : Hid (∀ k, ∀ v j, (v, j) ∈ evs u k → j ≤ k) := Lib.hid fun k v j h => evs_max h
    have HIT : Hid (∀ w' a c, IGrows w 63 3 (ivsU u).length (flatIv (ivsU u)) (.slice a (ivsU u).length c) w' → IntTo u w (.returned (.tuple #[.slice a (ivsU u).length c, .int .i64 0])) w') := Lib.hid fun w' a c h => ⟨h.fr, .inl ⟨hok, a, c, rfl, h⟩⟩
    have HAS := Lib.hid hA.starts
    have HAC := Lib.hid hA.code
    have HAM := Lib.hid hA.maps
    have hml : u.maps.length ≤ 128 := by have := hU.starts; omega
    have hsl : u.starts.length = u.maps.length + 1 := by have := hU.starts; omega
    have hcn := hB.cn
    have hcs := hB.cs
    have HMU : Hid (∀ k, mapU u k = match u.maps[k]? with | some m => m.l | none => []) := Lib.hid fun k => rfl
    generalize IntTo u w = Q at *
    generalize ivsU u = iv at *
    have HE0 : Hid (evs u 0 = []) := Lib.hid rfl
    generalize hev : evs u = ev at *
    generalize hmpu : mapU u = mu at *
    clear hev hmpu he hok hU hB hA hk9
    obtain ⟨method, args, T, R, P, S, ea, en, ec, ca, co, cc, sa, st, sc, ma, mp, mc⟩ := u
    unfold Un.v at h1 ⊢
    simp only at h1 HNA HNI HLI HSP HPA HEV HAS HAC HAM hml hsl hcn hcs ⊢
    generalize en.length = el at *
    obtain ⟨cl, hcl⟩ : ∃ z, z = co.length := ⟨_, rfl⟩
    obtain ⟨sl, hsle⟩ : ∃ z, z = st.length := ⟨_, rfl⟩
    obtain ⟨ml, hmle⟩ : ∃ z, z = mp.length := ⟨_, rfl⟩
    simp only [← hcl, ← hsle, ← hmle] at h1 HNA HNI HLI HSP HPA HEV hml hsl hcn hcs ⊢
    have HCL := Lib.hid hcl
    have HSL := Lib.hid hsl
    have HML := Lib.hid hmle
    have HSLE := Lib.hid hsl
    have HMB := Lib.hid hml
    have hmk := @run_makeMap Tryz.prog
    have HCN := Lib.hid hcn
    have HCS := Lib.hid hcs
    clear hcl hsle hmle hsl hml hcn hcs
    go_enter Tryz.func12, Tryz.ntmps12
    go_wp2_with (go_at_call 7; refine (h1.out _ (by (repeat (first | (with_reducible refine Fr.setCell ?_ (fun h => absurd h (Nat.lt_irrefl _)) _) | (with_reducible refine Fr.setCell ?_ (fun h => absurd h (by first | omega | (simp; done) | (simp; omega) | (dsimp only; omega))) _) | (with_reducible refine Fr.alloc ?_ _) | (with_reducible refine Fr.drew ?_) | (with_reducible refine Fr.drewN ?_ _) | (with_reducible exact Fr.refl _ _))))).mono ?_; rintro e w2 ⟨rfl, hF⟩; have HF2 : Hid (Fr [] w w2) := Lib.hid (Fr.trans (by (repeat (first | (with_reducible refine Fr.setCell ?_ (fun h => absurd h (Nat.lt_irrefl _)) _) | (with_reducible refine Fr.setCell ?_ (fun h => absurd h (by first | omega | (simp; done) | (simp; omega) | (dsimp only; omega))) _) | (with_reducible refine Fr.alloc ?_ _) | (with_reducible refine Fr.drew ?_) | (with_reducible refine Fr.drewN ?_ _) | (with_reducible exact Fr.refl _ _)))) hF); have HB2 := Lib.hid (hF.heap (by simp) (heap_new w _)); have b0 := cell_of_heap (o := 0) HB2.out rfl; have b1 := cell_of_heap (o := 1) HB2.out rfl; have b2 := cell_of_heap (o := 2) HB2.out rfl; have b3 := cell_of_heap (o := 3) HB2.out rfl; have b4 := cell_of_heap (o := 4) HB2.out rfl; have b5 := cell_of_heap (o := 5) HB2.out rfl; have b6 := cell_of_heap (o := 6) HB2.out rfl; have b7 := cell_of_heap (o := 7) HB2.out rfl; have b8 := cell_of_heap (o := 8) HB2.out rfl; have b9 := cell_of_heap (o := 9) HB2.out rfl; have hl2 := lt_of_heap HB2.out; clear hF)
    have HM2 : Hid (LM w w2.heap.size (ivV (ev 0)) (w2.alloc (.map #[] 0))) := Lib.hid ⟨HF2.out.alloc _, HF2.out.size, by rw [HE0.out]; exact (MI.made w2).congr fun x => rfl⟩
    obtain ⟨b, hb⟩ : ∃ b, b = w2.heap.size := ⟨_, rfl⟩
    have HBW : Hid (w.heap.size < b) := Lib.hid (by rw [hb]; exact hl2)
    have HBM : Hid ((w2.alloc (.map #[] 0)).heap[w.heap.size]? = some (.cells #[.int .u64 method, .int .i64 args, .int .i64 T, .int .i64 R, .int .i64 P, .int .i64 S, .slice ea el ec, .slice ca cl cc, .slice sa sl sc, .slice ma ml mc] 34 (0, 0))) := Lib.hid (((Fr.refl [] w2).alloc _).heap (by simp) HB2.out)
    rw [← hb] at HM2 ⊢
    clear hb b0 b1 b2 b3 b4 b5 b6 b7 b8 b9 hl2
    go_loopw [16] (fun i wr => ∃ k : Nat, k ≤ ml ∧ i = .int .i64 k ∧ Hid (LM w b (ivV (ev k)) wr) ∧ Hid (wr.heap[w.heap.size]? = some (.cells #[.int .u64 method, .int .i64 args, .int .i64 T, .int .i64 R, .int .i64 P, .int .i64 S, .slice ea el ec, .slice ca cl cc, .slice sa sl sc, .slice ma ml mc] 34 (0, 0)))) (fun i _ => ml - (RowKit.intOf i).toNat)
    case atStart => exact ⟨0, Nat.zero_le _, rfl, HM2, HBM⟩
    case round =>
      obtain ⟨k, hk, rfl, HM, HB⟩ := hrel
      by_cases hlt : k < ml
      · obtain ⟨m, hm⟩ : ∃ m, mp[k]? = some m := ⟨_, List.getElem?_eq_getElem (by rw [← HML.out]; exact hlt)⟩
        obtain ⟨⟨gm, om, rfl, c0⟩, -⟩ := (HAM.out.fr HM.out.fr) k m hm
        have hna := HNA.out wr b k m hm HM.out
        obtain ⟨a, bb, ha, hb, hab, hbc⟩ := HSP.out k hlt
        obtain ⟨gs, os, rfl, d0⟩ := (HAS.out.fr HM.out.fr) k (a : Int) ha
        obtain ⟨gs', os', es, d1⟩ := (HAS.out.fr HM.out.fr) (k + 1) (bb : Int) hb
        cases es
        have HD : Hid (∀ W, Fr [] w W → W.cell? ⟨gs, os + k, none⟩ = some (.int .i64 (a : Int)) ∧ W.cell? ⟨gs, os + (k + 1), none⟩ = some (.int .i64 (bb : Int))) := Lib.hid fun W hF => by
          obtain ⟨g9, o9, e9, x9⟩ := (HAS.out.fr hF) k (a : Int) ha
          cases e9
          obtain ⟨g9, o9, e9, y9⟩ := (HAS.out.fr hF) (k + 1) (bb : Int) hb
          cases e9
          exact ⟨x9, y9⟩
        obtain ⟨ca', cc', hcut, hce⟩ := code_cut ca cl cc a bb hab (by have := HCS.out.le; omega)
        have HCE := Lib.hid hce
        have HPK := Lib.hid (HPA.out k a bb ha hb)
        have HAB : Hid (a ≤ bb ∧ bb ≤ cl) := Lib.hid ⟨hab, hbc⟩
        have hgm : gm < wr.heap.size := World.block_lt_of_cell? wr _ c0
        have k0 : (0 : Int) ≤ (k : Int) := by omega
        have k1 : (k : Int) < (ml : Int) := by omega
        have hmb := HMB.out
        have hse := HSLE.out
        have s0 : (0 : Int) ≤ (k : Int) + 1 := by omega
        have s1 : (k : Int) < (sl : Int) := by omega
        have s2 : (k : Int) + 1 < (sl : Int) := by omega
        have e1 : IntKind.i64.wrap ((k : Int) + 1) = (k : Int) + 1 := IntWalk.i64_in _ (by omega)
        have hwl : w.heap.size < wr.heap.size := lt_of_heap HB.out
        clear hm ha hb hab hbc hce hmb hse hlt
        go_wp2_with (go_at_call 33; refine hna.mono ?_; rintro e w3 ⟨rfl, hM3, hF3⟩; have HM3 := Lib.hid hM3; have hb3 := hF3.heap (by have := HBW.out; simp; omega) HB.out; have HB3 := Lib.hid hb3; have t7 := cell_of_heap (o := 7) hb3 rfl; have t8 := cell_of_heap (o := 8) hb3 rfl; have hl3 := lt_of_heap hb3; obtain ⟨x0, x1⟩ := HD.out w3 hM3.fr; have hgs3 := World.block_lt_of_cell? w3 _ x0; clear hM3 hF3 hb3)
        clear d0 d1
        go_quiet (fail)
        go_wp2_with fail
        obtain ⟨n, hn⟩ : ∃ n, n = bb - a := ⟨_, rfl⟩
        obtain ⟨Ek, hEk⟩ : ∃ Ek, Ek = ev k ++ stamp k (regL (mu k)) := ⟨_, rfl⟩
        obtain ⟨pt, hpt⟩ : ∃ pt, pt = (co.drop a).take (bb - a) := ⟨_, rfl⟩
        rw [← hEk, ← hpt] at HPK
        rw [← hEk] at HM3
        rw [← hn] at hpt ⊢
        have HPT := Lib.hid hpt
        have HNN := Lib.hid hn
        have HEK := Lib.hid hEk
        have hne : n ≤ 5864062014805 := by have h1 := HAB.out; have h2 := HCN.out; omega
        have hEb : Hid (∀ l, ∀ v j, (v, j) ∈ Ek ++ stamp k l → j ≤ k) := Lib.hid fun l v j hj => by
          rw [HEK.out, List.append_assoc, ← stamp_append] at hj
          rcases List.mem_append.1 hj with h9 | h9
          · exact HEV.out k v j h9
          · unfold stamp at h9
            obtain ⟨x, -, e⟩ := List.mem_map.1 h9
            cases e
            exact Nat.le_refl _
        have HKM : Hid (k < ml) := Lib.hid (by omega)
        clear hn hEk hpt t7 t8 x0 x1 hl3 hgs3 hna e1 s0 s1 s2 k0 k1 c0 hgm hwl
        go_loopw [40] (fun i wr => ∃ j : Nat, j ≤ n ∧ i = .int .i64 j ∧ Hid (LM w b (ivV (Ek ++ stamp k ((pt.take j).flatMap insRegs))) wr) ∧ Hid (wr.heap[w.heap.size]? = some (.cells #[.int .u64 method, .int .i64 args, .int .i64 T, .int .i64 R, .int .i64 P, .int .i64 S, .slice ea el ec, .slice ca cl cc, .slice (some ⟨gs, os, none⟩) sl sc, .slice (some ⟨gm, om, none⟩) ml mc] 34 (0, 0)))) (fun i _ => n - (RowKit.intOf i).toNat)
        case atStart => exact ⟨0, Nat.zero_le _, rfl, Lib.hid (by simp only [List.take_zero, List.flatMap_nil, stamp, List.map_nil, List.append_nil]; exact HM3.out.still ((Fr.refl _ _).drewN _)), Lib.hid (by exact HB3.out)⟩
        case round =>
          obtain ⟨j, hj, rfl, HM4, HB4⟩ := hrel
          by_cases hlj : j < n
          · obtain ⟨i, hi⟩ : ∃ i, co[a + j]? = some i := ⟨_, List.getElem?_eq_getElem (by have h1 := HAB.out; have h2 := HNN.out; have h3 := HCL.out; omega)⟩
            have hpi : pt[j]? = some i := by rw [HPT.out, List.getElem?_take_of_lt hlj, List.getElem?_drop]; exact hi
            obtain ⟨⟨g, o, ec', c0, c1, c2, c3, c4, c5, c6⟩, hS⟩ := (HAC.out.fr HM4.out.fr) (a + j) i hi
            have hce := HCE.out g o ec' (by have h2 := HNN.out; omega)
            have hS0 := ((HAC.out) (a + j) i hi).2
            have HNI2 : Hid (∀ W, LM w b (ivV (Ek ++ stamp k ((pt.take j).flatMap insRegs))) W → Calls Tryz.prog 34 #[.map (some b), i.v, .int .i64 k] W (LvNoteTo w b (ivV (Ek ++ stamp k ((pt.take (j + 1)).flatMap insRegs))) W)) := Lib.hid fun W hW => by
              have h9 := HNI.out W b k (Ek ++ stamp k ((pt.take j).flatMap insRegs)) i HKM.out (List.mem_of_getElem? hi) hS0 (hEb.out _) hW
              rw [take_snoc hpi, List.flatMap_append, stamp_append, ← List.append_assoc]
              simpa using h9
            have hx : o + (a + j) * 7 = o + a * 7 + j * 7 := by omega
            rw [hx] at c0 c1 c2 c3 c4 c5 c6
            subst hce
            have hg : g < wr.heap.size := World.block_lt_of_cell? wr _ c0
            have k0 : (0 : Int) ≤ (j : Int) := by omega
            have k1 : (j : Int) < (n : Int) := by omega
            obtain ⟨op, nn, ⟨dk, dn, dw⟩, la, l, lc, x⟩ := i
            unfold Ii.v at HNI2
            dsimp only at HNI2 c0 c1 c2 c3 c4 c5 c6
            generalize l.length = ll at *
            clear hi hpi hS hS0 hx ec' hlj
            go_wp2_with (go_at_call 34; refine (HNI2.out _ (HM4.out.still (by (repeat (first | (with_reducible refine Fr.setCell ?_ (fun h => absurd h (Nat.lt_irrefl _)) _) | (with_reducible refine Fr.setCell ?_ (fun h => absurd h (by first | omega | (simp; done) | (simp; omega) | (dsimp only; omega))) _) | (with_reducible refine Fr.alloc ?_ _) | (with_reducible refine Fr.drew ?_) | (with_reducible refine Fr.drewN ?_ _) | (with_reducible exact Fr.refl _ _)))))).mono ?_; rintro e w5 ⟨rfl, hM5, hF5⟩; have HM5 := Lib.hid hM5; have HB5 := Lib.hid (hF5.heap (by have := HBW.out; simp; omega) (((Fr.refl [] wr).alloc _).heap (by simp) HB4.out)); clear hM5 hF5)
            go_roundw
            case rel => exact ⟨j + 1, by omega, by go_num, HM5, HB5⟩
            case measure => simp [RowKit.intOf]; omega
          · have hkn : j = n := by omega
            have HTq : Hid (Ek ++ stamp k ((pt.take j).flatMap insRegs) = ev (k + 1)) := Lib.hid (by rw [HPK.out, hkn, List.take_of_length_le]; rw [HPT.out]; exact List.length_take_le _ _)
            have hkd : ¬ (j : Int) < (n : Int) := by omega
            have HM6 : Hid (LM w b (ivV (ev (k + 1))) wr) := Lib.hid (by rw [← HTq.out]; exact HM4.out)
            clear hkn hlj
            have hkm := HKM.out
            have hmb := HMB.out
            go_wp2_with fail
            go_roundw
            case rel => exact ⟨k + 1, by omega, by go_num, HM6, HB4⟩
            case measure => simp [RowKit.intOf]; omega
      · have hkn : k = ml := by omega
        have hkd : ¬ (k : Int) < (ml : Int) := by omega
        have HM6 : Hid (LM w b (ivV (ev ml)) wr) := Lib.hid (by rw [← hkn]; exact HM.out)
        clear hkn hlt
        go_wp2_with (go_at_call 35; refine (HLI.out _ b HM6.out).mono ?_; rintro e w7 ⟨v, rfl, hG⟩; obtain ⟨a9, c9, rfl⟩ := irow_shape hG.row; have HG := Lib.hid hG; clear hG)
        exact HIT.out _ _ _ ⟨HG.out.row, HM6.out.fr.trans HG.out.fr, fun q hq => Nat.le_trans HM6.out.fr.size (HG.out.new q hq)⟩
end Go.Proofs.YtomcfjckhajhmabGreatDoor
