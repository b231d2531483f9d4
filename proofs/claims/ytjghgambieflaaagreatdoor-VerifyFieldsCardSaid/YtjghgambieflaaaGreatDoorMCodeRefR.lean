/- The document's Read. -/
import Derived.Test.YtjghgambieflaaaGreatDoorMCodeF
import Derived.Test.YtjghgambieflaaaGreatDoorMCodeC
import Derived.Deep.QuietTactic
namespace Go.Proofs.YtjghgambieflaaaGreatDoor
open Go.RowKit

theorem infoInt : (Tryz.prog.info? 3).map (fun i => (i.zero, i.size, i.bytes)) = some (some (.int .i64 0), 1, 8) := by kernel_rfl
theorem lt_cell {w : World} {b o : Nat} {v : Value} (h : w.cell? ⟨b, o, none⟩ = some v) : b < w.heap.size := by
  refine Classical.byContradiction fun hn => ?_
  have e : w.heap[b]? = none := Array.getElem?_eq_none (Nat.le_of_not_lt hn)
  simp [World.cell?, e] at h
/-- the five numbers, read from the front -/
structure RNums (w : World) (xs : List Int) (k : Nat) (v : Value) (wr : World) : Prop where
  grow : Grows w 3 1 k (((xs.take k).map intOfW).map (Value.int .i64)) v wr
  odds : ∀ j, j < k → odd (xs.getD j 0) = true
set_option maxRecDepth 100000 in
set_option maxHeartbeats 1600000 in
theorem rread_no {W : World} {rb : Nat} {r : RH} {lv : Value} (hR : RefAt W rb r lv) (x : Int) (hx : WB x) (hf : findR r.l x = none) (m' : Mth) : Calls Tryz.prog 20 #[.pointer (some ⟨rb, 0, none⟩), .int .u64 x] W (ReadTo false m' W) := by
  have HFD : Hid (∀ W', Fr [] W W' → Calls Tryz.prog 36 #[.pointer (some ⟨rb, 0, none⟩), .int .u64 x] W' (Gives (.pointer none) W')) := Lib.hid fun W' hF => by
    have := rfind (hR.fr0 hF) x hx.1 hx.2
    rw [hf] at this
    exact this
  clear hR hf
  go_enter Tryz.func20, Tryz.ntmps20
  go_wp2_with fail
  refine (HFD.out _ ((Fr.refl _ _).alloc _)).mono ?_
  rintro e w2 ⟨rfl, rfl⟩
  go_wp2_with fail
  (try simp only [Exit.inBlock, Exit.then])
  refine bodyPost_ret (v := .tuple #[.agg #[.int .i64 0, .int .i64 0, .int .i64 0, .int .i64 0, .slice none 0 0, .slice none 0 0], .int .i64 4]) ?_ rfl ⟨?_, .inr ⟨rfl, rfl⟩⟩
  · rw [results_cell_tmp rfl]
    go_simp
  · (repeat (first | (with_reducible refine Fr.setCell ?_ (fun h => absurd h (Nat.lt_irrefl _)) _) | (with_reducible refine Fr.alloc ?_ _) | (with_reducible refine Fr.drew ?_) | (with_reducible exact Fr.refl _ _)))
/-- the method that is made: its instructions grow in its own cell -/
structure RCode (w5 : World) (b3 : Nat) (n0 n1 n2 n3 : Int) (lv : Value) (ys : List Int) (k : Nat) (ca : Option Addr) (cc : Nat) (wr : World) : Prop where
  fr : Fr [b3] w5 wr
  box : wr.heap[b3]? = some (.cells #[.int .i64 n0, .int .i64 n1, .int .i64 n2, .int .i64 n3, lv, .slice ca k cc] 25 (0, 0))
  row : wr.ownsRow 0 42 3 (.slice ca k cc) k (flatI ((ys.take k).map fun x => insOf (intOfW x)))
  new : ∀ b, (Value.slice ca k cc).ownBlock = some b → w5.heap.size ≤ b
  good : (ys.take k).all insOk = true
theorem RCode.grown {w5 wr W1 w6 : World} {b3 : Nat} {n0 n1 n2 n3 : Int} {lv : Value} {ys : List Int} {k : Nat} {ca : Option Addr} {cc : Nat} (h : RCode w5 b3 n0 n1 n2 n3 lv ys k ca cc wr) (hb : b3 < w5.heap.size) (hW : Fr [] wr W1) (hg : W1.grownBy w6 (Value.slice ca k cc).ownBlock) :
    Fr [b3] w5 w6 ∧ w6.heap[b3]? = some (.cells #[.int .i64 n0, .int .i64 n1, .int .i64 n2, .int .i64 n3, lv, .slice ca k cc] 25 (0, 0)) := by
  refine ⟨(h.fr.trans' hW (fun _ _ e => e) (fun _ _ e => by cases e)).grown hg (fun b hb hl => by have := h.new b hb; omega), ?_⟩
  have hl : b3 < W1.heap.size := Nat.lt_of_lt_of_le (lt_of_heap h.box) hW.size
  rw [hg.block b3 hl (fun e => by have := h.new b3 e.symm; omega)]
  exact hW.heap (by simp) h.box
theorem RCode.step {w5 wr W1 w6 : World} {b3 : Nat} {n0 n1 n2 n3 : Int} {lv : Value} {ys : List Int} {k : Nat} {ca a5 : Option Addr} {cc p5 : Nat} (h : RCode w5 b3 n0 n1 n2 n3 lv ys k ca cc wr) (hb : b3 < w5.heap.size) (hW : Fr [] wr W1) {y : Int} (hy : ys[k]? = some y) (ho : insOk y = true) (hi : w6.ownsRow 0 42 3 (.slice a5 (k + 1) p5) (k + 1) (flatI ((ys.take k).map fun x => insOf (intOfW x)) ++ [.int .i64 (insOf (intOfW y)).op, .int .i64 (insOf (intOfW y)).a, .int .i64 (insOf (intOfW y)).b])) (hg : W1.grownBy w6 (Value.slice ca k cc).ownBlock) (hf : (Value.slice a5 (k + 1) p5).ownBlock = (Value.slice ca k cc).ownBlock ∨ (Value.slice a5 (k + 1) p5).ownBlock = some W1.heap.size) :
    RCode w5 b3 n0 n1 n2 n3 lv ys (k + 1) a5 p5 (w6.setCell ⟨b3, 5, none⟩ (.slice a5 (k + 1) p5)) := by
  obtain ⟨g1, g2⟩ := h.grown hb hW hg
  have htk : ys.take (k + 1) = ys.take k ++ [y] := by rw [List.take_add_one, hy]; rfl
  have hnew : ∀ b, (Value.slice a5 (k + 1) p5).ownBlock = some b → w5.heap.size ≤ b := fun b hb' => by
    rcases hf with hf | hf
    · exact h.new b (hf ▸ hb')
    · have e := hf.symm.trans hb'
      cases e
      exact Nat.le_trans h.fr.size hW.size
  refine ⟨g1.setCell (fun _ => by simp) _, ?_, ?_, hnew, ?_⟩
  · rw [heap_setCell_same g2]
    simp
  · rw [htk, List.map_append, List.map_cons, List.map_nil, flatI_snoc]
    exact ((Fr.refl [b3] w6).setCell (fun _ => by simp) _).row hi (fun b hb' => by have := hnew b hb'; simp; omega)
  · rw [htk, List.all_append, h.good]
    simp [ho]
set_option maxRecDepth 100000 in
set_option maxHeartbeats 1600000 in
theorem rread_at {W : World} {rb : Nat} {r : RH} {lv : Value} (hR : RefAt W rb r lv) (x : Int) (hx : WB x) {o : RO} (hf : findR r.l x = some o) (hW : ∀ y ∈ o.fs, WB y) (hl : o.fs.length ≤ 65536) : Calls Tryz.prog 20 #[.pointer (some ⟨rb, 0, none⟩), .int .u64 x] W (ReadTo (decOk o.fs) (decM o.fs) W) := by
  obtain ⟨i0, hi, hz0, hz1, hz2⟩ := info_parts infoInt
  obtain ⟨i1, hi1, hy0, hy1, hy2⟩ := info_parts infoInstr
  have HFD : Hid (∀ W', Fr [] W W' → Calls Tryz.prog 36 #[.pointer (some ⟨rb, 0, none⟩), .int .u64 x] W' (Gives (.pointer (some ⟨o.b, 0, none⟩)) W')) := Lib.hid fun W' hF => by
    have := rfind (hR.fr0 hF) x hx.1 hx.2
    rw [hf] at this
    exact this
  have hA := hR.objs o (findR_mem hf)
  have hcell := hA.cells
  obtain ⟨fa, fc, hfv⟩ := row_shape hA.row
  have HROW := Lib.hid hA.row
  rw [hfv] at hcell HROW
  have HCL := Lib.hid hcell
  obtain ⟨xs, hxs⟩ : ∃ xs, xs = o.fs := ⟨_, rfl⟩
  rw [← hxs] at HCL HROW hW hl ⊢
  have HX : Hid (WordsAt W fa xs) := words_row (row_rowAt HROW.out)
  have HW := Lib.hid hW
  obtain ⟨n, hn⟩ : ∃ n, n = xs.length := ⟨_, rfl⟩
  rw [← hn] at HCL HROW hl
  have HN := Lib.hid hn
  have hlt : o.b < W.heap.size := lt_of_heap HCL.out
  obtain ⟨ob, hob⟩ : ∃ b, b = o.b := ⟨_, rfl⟩
  rw [← hob] at HCL HFD hlt
  obtain ⟨oc, hoc⟩ : ∃ b, b = o.cls := ⟨_, rfl⟩
  obtain ⟨oh, hoh⟩ : ∃ b, b = o.hash := ⟨_, rfl⟩
  obtain ⟨op, hop⟩ : ∃ b : Int, b = o.pos := ⟨_, rfl⟩
  rw [← hoc, ← hoh, ← hop] at HCL
  clear hR hf hA hcell hfv hxs hW hn hob hoc hoh hop
  by_cases h5 : n < 5
  · have HNO : Hid (decOk xs = false) := Lib.hid (dec_head (by unfold headOk; rw [← HN.out]; simp; omega))
    have hc2 : (W.alloc (.cells #[.int .i64 0, .int .i64 0, .int .i64 0, .int .i64 0, .slice none 0 0, .slice none 0 0] 25)).cell? ⟨ob, 2, none⟩ = some (.slice fa n fc) := ((Fr.refl [] W).alloc _).cell (by simp) (cell_of_heap (o := 2) HCL.out rfl)
    go_enter Tryz.func20, Tryz.ntmps20
    go_wp2_with fail
    refine (HFD.out _ ((Fr.refl _ _).alloc _)).mono ?_
    rintro e w2 ⟨rfl, rfl⟩
    go_wp2_with fail
    (try simp only [Exit.inBlock, Exit.then])
    refine bodyPost_ret (v := .tuple #[.agg #[.int .i64 0, .int .i64 0, .int .i64 0, .int .i64 0, .slice none 0 0, .slice none 0 0], .int .i64 4]) ?_ rfl ⟨?_, .inr ⟨HNO.out, rfl⟩⟩
    · rw [results_cell_tmp rfl]
      go_simp
    · (repeat (first | (with_reducible refine Fr.setCell ?_ (fun h => absurd h (Nat.lt_irrefl _)) _) | (with_reducible refine Fr.alloc ?_ _) | (with_reducible refine Fr.drew ?_) | (with_reducible exact Fr.refl _ _)))
  · have h5' : ¬ (n : Int) < 5 := by omega
    obtain ⟨W1, hW1⟩ : ∃ W1, W1 = W.alloc (.cells #[.int .i64 0, .int .i64 0, .int .i64 0, .int .i64 0, .slice none 0 0, .slice none 0 0] 25) := ⟨_, rfl⟩
    have HF1 : Hid (Fr [] W W1) := by rw [hW1]; exact (Fr.refl _ _).alloc _
    have HRB : Hid (W1.heap[W.heap.size]? = some (.cells #[.int .i64 0, .int .i64 0, .int .i64 0, .int .i64 0, .slice none 0 0, .slice none 0 0] 25 (0, 0))) := by rw [hW1]; exact heap_new _ _
    have HC1 := Lib.hid (HF1.out.heap (by simp) HCL.out)
    have HFD1 := Lib.hid (HFD.out W1 HF1.out)
    have c2 := cell_of_heap (o := 2) HC1.out rfl
    have HW1 := Lib.hid hW1
    have HX1 : Hid (WordsAt W1 fa xs) := HX.out.fr HF1.out (fun _ _ => by simp)
    clear hW1
    go_enter Tryz.func20, Tryz.ntmps20
    go_wp2_with fail
    rw [← HW1.out]
    refine HFD1.out.mono ?_
    rintro e w2 ⟨rfl, rfl⟩
    go_wp2_with fail
    go_loopw [7, 8] (fun v i wr => ∃ k : Nat, k ≤ 5 ∧ i = .int .i64 k ∧ Hid (RNums W1 xs k v wr)) (fun _ i _ => 5 - (intOf i).toNat)
    case atStart => exact ⟨0, Nat.zero_le _, rfl, ⟨World.ownsRow_nil _ _ _ _, Fr.refl _ _, fun _ h => by cases h⟩, fun j hj => by omega⟩
    case round =>
      obtain ⟨k, hk, rfl, hG⟩ := hrel
      obtain ⟨vo, vc, rfl⟩ := row_shape hG.out.grow.row
      by_cases hk5 : k < 5
      · have hkl : k < xs.length := by rw [← HN.out]; omega
        obtain ⟨y, hy⟩ : ∃ y, y = xs.getD k 0 := ⟨_, rfl⟩
        have hyk : xs[k]? = some y := by rw [hy, List.getD_eq_getElem?_getD, List.getElem?_eq_getElem hkl]; rfl
        obtain ⟨g, off, rfl, hc⟩ := HX1.out k y hyk
        have hc' := hG.out.grow.fr.cell (by simp) hc
        have HCW := Lib.hid (hG.out.grow.fr.heap (by simp) HC1.out)
        have d2 := cell_of_heap (o := 2) HCW.out rfl
        have hin := rInt y wr (HW.out y (List.mem_of_getElem? hyk))
        have k0 : (0 : Int) ≤ (k : Int) := by omega
        have k1 : (k : Int) < (n : Int) := by omega
        have k2 : (k : Int) < 5 := by omega
        cases ho : odd y
        · rw [ho] at hin
          simp only [Bool.false_eq_true, if_false] at hin
          have HNO : Hid (decOk xs = false) := Lib.hid (dec_head (odd_head hk5 (by rw [← HN.out]; omega) (by rw [← hy]; exact ho)))
          have HRW := Lib.hid (hG.out.grow.fr.heap (by simp) HRB.out)
          have HFW : Hid (Fr [] W wr) := HF1.out.trans hG.out.grow.fr
          have r0 := cell_of_heap (o := 0) HRW.out rfl; have r1 := cell_of_heap (o := 1) HRW.out rfl; have r2 := cell_of_heap (o := 2) HRW.out rfl; have r3 := cell_of_heap (o := 3) HRW.out rfl; have r4 := cell_of_heap (o := 4) HRW.out rfl; have r5 := cell_of_heap (o := 5) HRW.out rfl
          have f0 := frozen_of_heap (o := 0) HRW.out; have f1 := frozen_of_heap (o := 1) HRW.out; have f2 := frozen_of_heap (o := 2) HRW.out; have f3 := frozen_of_heap (o := 3) HRW.out; have f4 := frozen_of_heap (o := 4) HRW.out; have f5 := frozen_of_heap (o := 5) HRW.out
          clear hy hyk hkl hc ho
          go_wp2_with (first | (go_at_call 42; refine hin.mono ?_; rintro e w' ⟨rfl, rfl⟩))
          (try simp only [Exit.inBlock, Exit.then])
          refine bodyPost_ret (v := .tuple #[.agg #[.int .i64 0, .int .i64 0, .int .i64 0, .int .i64 0, .slice none 0 0, .slice none 0 0], .int .i64 4]) ?_ rfl ⟨?_, .inr ⟨HNO.out, rfl⟩⟩
          · rw [results_cell_tmp rfl]
            go_simp
          · (repeat (first | (with_reducible refine Fr.setCell ?_ (fun h => absurd h (Nat.lt_irrefl _)) _) | (with_reducible refine Fr.alloc ?_ _) | (with_reducible refine Fr.drew ?_) | (with_reducible exact HFW.out)))
        · rw [ho] at hin
          simp only [if_true] at hin
          have HT : Hid (((xs.take (k + 1)).map intOfW).map (Value.int .i64) = ((xs.take k).map intOfW).map (Value.int .i64) ++ [.int .i64 (intOfW y)]) := by
            rw [List.take_add_one, hyk]
            exact Lib.hid (by simp)
          have HOD : Hid (∀ j, j < k + 1 → odd (xs.getD j 0) = true) := Lib.hid fun j hj => by
            by_cases e : j = k
            · rw [e, ← hy]; exact ho
            · exact hG.out.odds j (by omega)
          obtain ⟨z, hz⟩ : ∃ z, z = intOfW y := ⟨_, rfl⟩
          rw [← hz] at hin HT
          have HR1 : Hid ((wr.alloc (.cells #[.int .i64 z] 3)).ownsRow 0 3 1 (.slice vo k vc) k _) := ((Fr.refl [] _).alloc _).row hG.out.grow.row (fun _ _ => by simp)
          clear hy hyk hkl hc ho hz
          go_wp2_with (first
            | (go_at_call 42; refine hin.mono ?_; rintro e w' ⟨rfl, rfl⟩)
            | (at_builtin; refine wpList_append_at _ rfl (.tmp 47) (.tmp 49) 27 rfl 3 i0 (.int .i64 0) 1 8 Tryz.underlying27 hi hz0 hz1 hz2 rfl (by decide) (.slice vo k vc) k _ rfl HR1.out ⟨wr.heap.size, 0, none⟩ 1 1 [.int .i64 z] rfl rfl (cell1 (by simp)) (by simp [Value.oneCell']) (by unfold maxLen; omega) (by omega) ?_; intro v5 w5 ho5 hg5 hf5; obtain ⟨a5, p5, rfl⟩ := row_shape ho5; have HGn := Lib.hid (hG.out.grow.step ((Fr.refl _ _).alloc _) ho5 hg5 hf5); clear ho5 hg5 hf5))
          go_roundw
          case rel => exact ⟨k + 1, by omega, by go_num, ⟨by rw [HT.out]; exact HGn.out, HOD.out⟩⟩
          case measure => simp [intOf]; omega
      · have hk5' : k = 5 := by omega
        subst hk5'
        obtain ⟨g5, c5, hv5, -, -, hc5⟩ := row_at hG.out.grow.row (i := 0) (by omega)
        cases hv5
        have HCI : Hid (∀ j, j < 5 → wr.cell? ⟨g5, j, none⟩ = some (.int .i64 (intOfW (xs.getD j 0)))) := Lib.hid fun j hj => by
          obtain ⟨g', c', e', hcc, -, -⟩ := row_at hG.out.grow.row (i := j) (by omega)
          cases e'
          rw [hcc, List.getElem?_map, List.getElem?_map, List.getElem?_take_of_lt hj, List.getElem?_eq_getElem (by rw [← HN.out]; omega), List.getD_eq_getElem?_getD, List.getElem?_eq_getElem (by rw [← HN.out]; omega)]
          rfl
        have q0 := HCI.out 0 (by omega)
        have q1 := HCI.out 1 (by omega)
        have q2 := HCI.out 2 (by omega)
        have q3 := HCI.out 3 (by omega)
        have q4 := HCI.out 4 (by omega)
        have HHD : Hid (headOk xs = decide (0 ≤ nLits xs ∧ nLits xs ≤ (n : Int) - 5)) := by
          rw [head_of (by rw [← HN.out]; omega) (fun j hj => hG.out.odds j hj), ← HN.out]
          exact Lib.hid rfl
        have HFW : Hid (Fr [] W1 wr) := hG.out.grow.fr
        have HCW := Lib.hid (HFW.out.heap (by simp) HC1.out)
        have HRW := Lib.hid (HFW.out.heap (by simp) HRB.out)
        have d2 := cell_of_heap (o := 2) HCW.out rfl
        have HNG : Hid (W1.heap.size ≤ g5) := Lib.hid (hG.out.grow.new g5 rfl)
        have HL4 : Hid (intOfW (xs.getD 4 0) = nLits xs) := Lib.hid rfl
        have HFI := Lib.hid ((fit_iff _).1 (intOfW_fit (xs.getD 4 0)))
        obtain ⟨n0, hn0⟩ : ∃ v, v = intOfW (xs.getD 0 0) := ⟨_, rfl⟩
        obtain ⟨n1, hn1⟩ : ∃ v, v = intOfW (xs.getD 1 0) := ⟨_, rfl⟩
        obtain ⟨n2, hn2⟩ : ∃ v, v = intOfW (xs.getD 2 0) := ⟨_, rfl⟩
        obtain ⟨n3, hn3⟩ : ∃ v, v = intOfW (xs.getD 3 0) := ⟨_, rfl⟩
        obtain ⟨n4, hn4⟩ : ∃ v, v = intOfW (xs.getD 4 0) := ⟨_, rfl⟩
        rw [← hn0] at q0
        rw [← hn1] at q1
        rw [← hn2] at q2
        rw [← hn3] at q3
        rw [← hn4] at q4 HL4 HFI
        rw [← HL4.out] at HHD
        have HN0 := Lib.hid hn0
        have HN1 := Lib.hid hn1
        have HN2 := Lib.hid hn2
        have HN3 := Lib.hid hn3
        clear hG hn0 hn1 hn2 hn3 hn4
        have hwi := fun W => rwithin n4 0 ((n : Int) - 5) W
        obtain ⟨hb1, hb2⟩ := HFI.out
        obtain ⟨B, hB⟩ : ∃ B, B = decide (0 ≤ n4 ∧ n4 ≤ (n : Int) - 5) := ⟨_, rfl⟩
        rw [← hB] at hwi HHD
        have HBB := Lib.hid hB
        clear hB
        have e5 : IntKind.i64.wrap ((n : Int) - 5) = (n : Int) - 5 := by rw [IntKind.wrap_i64]; omega
        have hmx : Tryz.prog.follows .mixedOrders = true := by kernel_rfl
        cases B
        · have HNO : Hid (decOk xs = false) := Lib.hid (dec_head HHD.out)
          go_wp2_with fail
          go_quiet ((go_at_call 43; exact Calls.quiet_of_same ((hwi _).mono (fun _ _ h => ⟨h.1, h.2.symm⟩))))
          clear e5
          rename_i nq
          obtain ⟨W2, hW2⟩ : ∃ W2, W2 = wr.drewN nq := ⟨_, rfl⟩
          rw [← hW2]
          have HF2 : Hid (Fr [] W W2) := by rw [hW2]; exact (HF1.out.trans HFW.out).drewN _
          have HFQ : Hid (Fr [] wr W2) := by rw [hW2]; exact (Fr.refl _ _).drewN _
          have HR2 := Lib.hid (HFQ.out.heap (by simp) HRW.out)
          have r0 := cell_of_heap (o := 0) HR2.out rfl; have r1 := cell_of_heap (o := 1) HR2.out rfl; have r2 := cell_of_heap (o := 2) HR2.out rfl; have r3 := cell_of_heap (o := 3) HR2.out rfl; have r4 := cell_of_heap (o := 4) HR2.out rfl; have r5 := cell_of_heap (o := 5) HR2.out rfl
          have f0 := frozen_of_heap (o := 0) HR2.out; have f1 := frozen_of_heap (o := 1) HR2.out; have f2 := frozen_of_heap (o := 2) HR2.out; have f3 := frozen_of_heap (o := 3) HR2.out; have f4 := frozen_of_heap (o := 4) HR2.out; have f5 := frozen_of_heap (o := 5) HR2.out
          clear hW2 q0 q1 q2 q3 q4 d2 hwi HRW HCW
          go_wp2_with fail
          (try simp only [Exit.inBlock, Exit.then])
          refine bodyPost_ret (v := .tuple #[.agg #[.int .i64 0, .int .i64 0, .int .i64 0, .int .i64 0, .slice none 0 0, .slice none 0 0], .int .i64 4]) ?_ rfl ⟨?_, .inr ⟨HNO.out, rfl⟩⟩
          · rw [results_cell_tmp rfl]
            go_simp
          · (repeat (first | (with_reducible refine Fr.setCell ?_ (fun h => absurd h (Nat.lt_irrefl _)) _) | (with_reducible refine Fr.alloc ?_ _) | (with_reducible refine Fr.drew ?_) | (with_reducible exact HF2.out)))
        · have hbb := of_decide_eq_true HBB.out.symm
          obtain ⟨L, hL⟩ : ∃ L : Nat, n4 = L := ⟨n4.toNat, by omega⟩
          subst hL
          obtain ⟨g, hga, hcap, hfmx⟩ : ∃ g, fa = some ⟨g, 0, none⟩ ∧ n ≤ fc ∧ fc ≤ maxLen := by
            rcases HROW.out.2 with ⟨h0, h1⟩ | ⟨g, cap, cur, h0, h1, h2, h3, h4, -⟩
            · omega
            · cases h0; exact ⟨g, rfl, h3, h4⟩
          subst hga
          unfold maxLen at hfmx
          obtain ⟨o2, p2, HO2, hs2⟩ := slice_part (g := g) (lo := 5) (hi := 5 + L) (by omega) (by omega) hcap
          have ei : ((5 + L : Nat) : Int) = 5 + (L : Int) := by omega
          have ei5 : ((5 : Nat) : Int) = 5 := rfl
          have el1 : 5 + L - 5 = L := by omega
          rw [ei, ei5, el1] at hs2
          have HLV : Hid (nLits xs = L) := HL4.out.symm
          have e6 : IntKind.i64.wrap (5 + (L : Int)) = 5 + (L : Int) := by rw [IntKind.wrap_i64]; omega
          go_wp2_with fail
          go_quiet ((go_at_call 43; exact Calls.quiet_of_same ((hwi _).mono (fun _ _ h => ⟨h.1, h.2.symm⟩))))
          clear e5
          rename_i nq
          obtain ⟨W2, hW2⟩ : ∃ W2, W2 = wr.drewN nq := ⟨_, rfl⟩
          rw [← hW2]
          have HF2 : Hid (Fr [] W1 W2) := by rw [hW2]; exact HFW.out.drewN _
          have HFQ : Hid (Fr [] wr W2) := by rw [hW2]; exact (Fr.refl _ _).drewN _
          have HR2 := Lib.hid (HFQ.out.heap (by simp) HRW.out)
          have HC2 := Lib.hid (HFQ.out.heap (by simp) HCW.out)
          have u0 := HFQ.out.cell (by simp) q0
          have u1 := HFQ.out.cell (by simp) q1
          have u2 := HFQ.out.cell (by simp) q2
          have u3 := HFQ.out.cell (by simp) q3
          have u4 := HFQ.out.cell (by simp) q4
          clear hW2 q0 q1 q2 q3 q4 d2 hwi HRW HCW HFW ei ei5 el1 HBB HCI
          obtain ⟨W3, hW3⟩ : ∃ W3, W3 = (W2.alloc (.cells #[.int .i64 n0, .int .i64 n1, .int .i64 n2, .int .i64 n3, .slice none 0 0, .slice none 0 0] 25)).drew := ⟨_, rfl⟩
          have HW3 := Lib.hid hW3
          have HF3 : Hid (Fr [] W2 W3) := by rw [hW3]; exact ((Fr.refl [] W2).alloc _).drew
          have HB3 : Hid (W3.heap[W2.heap.size]? = some (.cells #[.int .i64 n0, .int .i64 n1, .int .i64 n2, .int .i64 n3, .slice none 0 0, .slice none 0 0] 25 (0, 0))) := by rw [hW3]; exact heap_new W2 _
          clear hW3
          go_wp2_with fail
          refine region_own' (S := fun w' => w'.cell? ⟨g5, 0, none⟩ = some (.int .i64 n0) ∧ w'.cell? ⟨g5, 1, none⟩ = some (.int .i64 n1) ∧ w'.cell? ⟨g5, 2, none⟩ = some (.int .i64 n2) ∧ w'.cell? ⟨g5, 3, none⟩ = some (.int .i64 n3)) hmx ⟨u0, u1, u2, u3⟩ (fun hHeld => ?_)
          (refine wpAnyH_take (i := 0) (oi := ⟨some 63, _, _, _, _, _⟩) (v := ?_) rfl (by kernel_rfl) (by kernel_rfl) (by kernel_rfl) (fun _ _ _ h => h) (Or.inl ⟨by rfl, ?_⟩) (by assumption) ?_); rotate_left; focus (intro w hSw; (try dsimp only at hSw); go_split_ands; go_simp; try with_reducible rfl); (try simp only [Act.put, List.setIfInBounds_toArray, List.set_cons_zero, List.set_cons_succ])
          (refine wpAnyH_take (i := 1) (oi := ⟨some 64, _, _, _, _, _⟩) (v := ?_) rfl (by kernel_rfl) (by kernel_rfl) (by kernel_rfl) (fun _ _ _ h => h) (Or.inl ⟨by rfl, ?_⟩) (by assumption) ?_); rotate_left; focus (intro w hSw; (try dsimp only at hSw); go_split_ands; go_simp; try with_reducible rfl); (try simp only [Act.put, List.setIfInBounds_toArray, List.set_cons_zero, List.set_cons_succ])
          (refine wpAnyH_take (i := 2) (oi := ⟨some 65, _, _, _, _, _⟩) (v := ?_) rfl (by kernel_rfl) (by kernel_rfl) (by kernel_rfl) (fun _ _ _ h => h) (Or.inl ⟨by rfl, ?_⟩) (by assumption) ?_); rotate_left; focus (intro w hSw; (try dsimp only at hSw); go_split_ands; go_simp; try with_reducible rfl); (try simp only [Act.put, List.setIfInBounds_toArray, List.set_cons_zero, List.set_cons_succ])
          (refine wpAnyH_take (i := 3) (oi := ⟨some 66, _, _, _, _, _⟩) (v := ?_) rfl (by kernel_rfl) (by kernel_rfl) (by kernel_rfl) (fun _ _ _ h => h) (Or.inl ⟨by rfl, ?_⟩) (by assumption) ?_); rotate_left; focus (intro w hSw; (try dsimp only at hSw); go_split_ands; go_simp; try with_reducible rfl); (try simp only [Act.put, List.setIfInBounds_toArray, List.set_cons_zero, List.set_cons_succ])
          (refine wpAnyH_take (i := 4) (oi := ⟨some 67, _, _, _, _, _⟩) (v := ?_) rfl (by kernel_rfl) (by kernel_rfl) (by kernel_rfl) (fun _ _ _ h => h) (Or.inl ⟨by rfl, ?_⟩) (by assumption) ?_); rotate_left; focus (intro w hSw; (try dsimp only at hSw); go_split_ands; go_simp; try with_reducible rfl); (try simp only [Act.put, List.setIfInBounds_toArray, List.set_cons_zero, List.set_cons_succ])
          (refine wpAnyH_take (i := 5) (oi := ⟨some 68, _, _, _, _, _⟩) (v := ?_) rfl (by kernel_rfl) (by kernel_rfl) (by kernel_rfl) (fun _ _ _ h => h) (Or.inl ⟨by rfl, ?_⟩) (by assumption) ?_); rotate_left; focus (intro w hSw; (try dsimp only at hSw); go_split_ands; go_simp; try with_reducible rfl); (try simp only [Act.put, List.setIfInBounds_toArray, List.set_cons_zero, List.set_cons_succ])
          (refine wpAnyH_take (i := 6) (oi := ⟨some 69, _, _, _, _, _⟩) (v := ?_) rfl (by kernel_rfl) (by kernel_rfl) (by kernel_rfl) (fun _ _ _ h => h) (Or.inl ⟨by rfl, ?_⟩) (by assumption) ?_); rotate_left; focus (intro w hSw; (try dsimp only at hSw); go_split_ands; go_simp; try with_reducible rfl); (try simp only [Act.put, List.setIfInBounds_toArray, List.set_cons_zero, List.set_cons_succ])
          (refine wpAnyH_take (i := 7) (oi := ⟨some 70, _, _, _, _, _⟩) (v := ?_) rfl (by kernel_rfl) (by kernel_rfl) (by kernel_rfl) (fun _ _ _ h => h) (Or.inl ⟨by rfl, ?_⟩) (by assumption) ?_); rotate_left; focus (intro w hSw; (try dsimp only at hSw); go_split_ands; go_simp; try with_reducible rfl); (try simp only [Act.put, List.setIfInBounds_toArray, List.set_cons_zero, List.set_cons_succ])
          (refine wpAnyH_take (i := 8) (oi := ⟨some 71, _, _, _, _, _⟩) (v := ?_) rfl (by kernel_rfl) (by kernel_rfl) (by kernel_rfl) (fun _ _ _ h => h) (Or.inl ⟨by rfl, ?_⟩) (by assumption) ?_); rotate_left; focus (intro w hSw; (try dsimp only at hSw); go_split_ands; go_simp; try with_reducible rfl); (try simp only [Act.put, List.setIfInBounds_toArray, List.set_cons_zero, List.set_cons_succ])
          (refine wpAnyH_take (i := 9) (oi := ⟨some 72, _, _, _, _, _⟩) (v := ?_) rfl (by kernel_rfl) (by kernel_rfl) (by kernel_rfl) (fun _ _ _ h => h) (Or.inl ⟨by rfl, ?_⟩) (by assumption) ?_); rotate_left; focus (intro w hSw; (try dsimp only at hSw); go_split_ands; go_simp; try with_reducible rfl); (try simp only [Act.put, List.setIfInBounds_toArray, List.set_cons_zero, List.set_cons_succ])
          (refine wpAnyH_take (i := 10) (oi := ⟨some 73, _, _, _, _, _⟩) (v := ?_) rfl (by kernel_rfl) (by kernel_rfl) (by kernel_rfl) (fun _ _ _ h => h) (Or.inl ⟨by rfl, ?_⟩) (by assumption) ?_); rotate_left; focus (intro w hSw; (try dsimp only at hSw); go_split_ands; go_simp; try with_reducible rfl); (try simp only [Act.put, List.setIfInBounds_toArray, List.set_cons_zero, List.set_cons_succ])
          (refine wpAnyH_take (i := 11) (oi := ⟨some 74, _, _, _, _, _⟩) (v := ?_) rfl (by kernel_rfl) (by kernel_rfl) (by kernel_rfl) (fun _ _ _ h => h) (Or.inl ⟨by rfl, ?_⟩) (by assumption) ?_); rotate_left; focus (intro w hSw; (try dsimp only at hSw); go_split_ands; go_simp; try with_reducible rfl); (try simp only [Act.put, List.setIfInBounds_toArray, List.set_cons_zero, List.set_cons_succ])
          (refine wpAnyH_take (i := 12) (oi := ⟨some 75, _, _, _, _, _⟩) (v := ?_) rfl (by kernel_rfl) (by kernel_rfl) (by kernel_rfl) (fun _ _ _ h => h) (Or.inl ⟨by rfl, ?_⟩) (by assumption) ?_); rotate_left; focus (intro w hSw; (try dsimp only at hSw); go_split_ands; go_simp; try with_reducible rfl); (try simp only [Act.put, List.setIfInBounds_toArray, List.set_cons_zero, List.set_cons_succ])
          (refine wpAnyH_ready (rs := [13]) (by kernel_rfl) (by simp) ?_; refine AllReadyH.cons rfl (fun K hK => ?_) AllReadyH.nil); go_simp
          refine hK.out _ _ ⟨((Fr.refl [] W2).drew.alloc _).cell (by simp) u0, ((Fr.refl [] W2).drew.alloc _).cell (by simp) u1, ((Fr.refl [] W2).drew.alloc _).cell (by simp) u2, ((Fr.refl [] W2).drew.alloc _).cell (by simp) u3⟩ (fun hHeld2 => ?_)
          clear hK
          (refine wpAnyH_ready (rs := [14]) (by kernel_rfl) (by simp) ?_; refine AllReadyH.cons rfl (fun K hK => ?_) AllReadyH.nil); go_simp
          refine hK.out _ _ ⟨((Fr.refl [] W2).drew.alloc _).cell (by simp) u0, ((Fr.refl [] W2).drew.alloc _).cell (by simp) u1, ((Fr.refl [] W2).drew.alloc _).cell (by simp) u2, ((Fr.refl [] W2).drew.alloc _).cell (by simp) u3⟩ (fun hHeld3 => ?_)
          clear hK
          refine wpAnyH_done (by kernel_rfl) (Norm.mk ?_) _
          clear hHeld hHeld2 hHeld3
          rw [← HW3.out]
          have v4 := HF3.out.cell (by simp) u4
          have HC3 := Lib.hid (HF3.out.heap (by simp) HC2.out)
          have d3 := cell_of_heap (o := 2) HC3.out rfl
          have m4 := cell_of_heap (o := 4) HB3.out rfl
          obtain ⟨b3, hb3⟩ : ∃ b, b = W2.heap.size := ⟨_, rfl⟩
          rw [← hb3] at HB3 m4 ⊢
          have hg5l : g5 < b3 := by rw [hb3]; exact lt_cell u4
          have hobl : ob < b3 := by rw [hb3]; exact lt_of_heap HC2.out
          have hb3' : b3 < W3.heap.size := lt_of_heap HB3.out
          have HBB3 := Lib.hid hb3
          clear hb3 HW3 u0 u1 u2 u3 u4
          have hX3 : WordsAt W3.drew (some ⟨g, o2, none⟩) ((xs.drop 5).take L) := words_cut (lo := 5) (m := L) (o := o2) (HX1.out.fr ((HF2.out.trans HF3.out).drew) (fun _ _ => by simp)) (fun h => HO2.out (by omega))
          have hD2 : ((xs.drop 5).take L).length = L := by simp; rw [← HN.out]; omega
          obtain ⟨v1, w4, hrun, ho4, hg4, hf4⟩ := append_words_run (w := W3.drew) 22 (.slice none 0 0) 0 [] (World.ownsRow_nil _ _ _ _) (rc := p2) ((xs.drop 5).take L) hX3 (fun h => by cases h) (by rw [hD2]; omega)
          rw [hD2] at hrun ho4
          have HG4 : Hid (Grows W3 32 1 (0 + L) ([] ++ ((xs.drop 5).take L).map (Value.int .u64)) v1 w4) := Grows.step (w := W3) (W := W3) (v := .slice none 0 0) ⟨World.ownsRow_nil _ _ _ _, Fr.refl _ _, fun _ h => by cases h⟩ (Fr.refl [] W3).drew ho4 hg4 hf4
          rw [Nat.zero_add, List.nil_append] at HG4
          obtain ⟨la, lc, rfl⟩ := row_shape HG4.out.row
          have HB4 := Lib.hid (HG4.out.fr.heap (by simp) HB3.out)
          have v4' := HG4.out.fr.cell (by simp) v4
          have d3' := HG4.out.fr.cell (by simp) d3
          have n4' := cell_of_heap (o := 4) HB4.out rfl
          have z4' := frozen_of_heap (o := 4) HB4.out
          clear hX3 ho4 hg4 hf4
          go_wp2_with fail
          refine region_own' (S := fun w' => w'.cell? ⟨ob, 2, none⟩ = some (.slice (some ⟨g, 0, none⟩) n fc) ∧ w'.cell? ⟨g5, 4, none⟩ = some (.int .i64 (L : Int))) hmx ⟨d3, v4⟩ (fun hHeld => ?_)
          (refine wpAnyH_take (i := 0) (oi := ⟨some 76, _, _, _, _, _⟩) (v := ?_) rfl (by kernel_rfl) (by kernel_rfl) (by kernel_rfl) (fun _ _ _ h => h) (Or.inl ⟨by rfl, ?_⟩) (by assumption) ?_); rotate_left; focus (intro w hSw; (try dsimp only at hSw); go_split_ands; go_simp; try with_reducible rfl); (try simp only [Act.put, List.setIfInBounds_toArray, List.set_cons_zero, List.set_cons_succ])
          (refine wpAnyH_take (i := 2) (oi := ⟨some 78, _, _, _, _, _⟩) (v := ?_) rfl (by kernel_rfl) (by kernel_rfl) (by kernel_rfl) (fun _ _ _ h => h) (Or.inl ⟨by rfl, ?_⟩) (by assumption) ?_); rotate_left; focus (intro w hSw; (try dsimp only at hSw); go_split_ands; go_simp; try with_reducible rfl); (try simp only [Act.put, List.setIfInBounds_toArray, List.set_cons_zero, List.set_cons_succ])
          (refine wpAnyH_take (i := 3) (oi := ⟨some 79, _, _, _, _, _⟩) (v := ?_) rfl (by kernel_rfl) (by kernel_rfl) (by kernel_rfl) (fun _ _ _ h => h) (Or.inl ⟨by rfl, ?_⟩) (by assumption) ?_); rotate_left; focus (intro w hSw; (try dsimp only at hSw); go_split_ands; go_simp; try with_reducible rfl); (try simp only [Act.put, List.setIfInBounds_toArray, List.set_cons_zero, List.set_cons_succ])
          (refine wpAnyH_take (i := 4) (oi := ⟨some 80, _, _, _, _, _⟩) (v := ?_) rfl (by kernel_rfl) (by kernel_rfl) (by kernel_rfl) (fun _ _ _ h => h) (Or.inl ⟨by rfl, ?_⟩) (by assumption) ?_); rotate_left; focus (intro w hSw; (try dsimp only at hSw); go_split_ands; go_simp; try with_reducible rfl); (try simp only [Act.put, List.setIfInBounds_toArray, List.set_cons_zero, List.set_cons_succ])
          (refine wpAnyH_take (i := 5) (oi := ⟨some 81, _, _, _, _, _⟩) (v := ?_) rfl (by kernel_rfl) (by kernel_rfl) (by kernel_rfl) (fun _ _ _ h => h) (Or.inl ⟨by rfl, ?_⟩) (by assumption) ?_); rotate_left; focus (intro w hSw; (try dsimp only at hSw); go_split_ands; go_simp; try with_reducible rfl); (try simp only [Act.put, List.setIfInBounds_toArray, List.set_cons_zero, List.set_cons_succ])
          (refine wpAnyH_take (i := 6) (oi := ⟨some 82, _, _, _, _, _⟩) (v := ?_) rfl (by kernel_rfl) (by kernel_rfl) (by kernel_rfl) (fun _ _ _ h => h) (Or.inl ⟨by rfl, ?_⟩) (by assumption) ?_); rotate_left; focus (intro w hSw; (try dsimp only at hSw); go_split_ands; go_simp; try with_reducible rfl); (try simp only [Act.put, List.setIfInBounds_toArray, List.set_cons_zero, List.set_cons_succ])
          (refine wpAnyH_take (i := 7) (oi := ⟨some 83, _, _, _, _, _⟩) (v := ?_) rfl (by kernel_rfl) (by kernel_rfl) (by kernel_rfl) (fun _ _ _ h => h) (Or.inl ⟨by rfl, ?_⟩) (by assumption) ?_); rotate_left; focus (intro w hSw; (try dsimp only at hSw); go_split_ands; go_simp; try with_reducible rfl); (try simp only [Act.put, List.setIfInBounds_toArray, List.set_cons_zero, List.set_cons_succ])
          (refine wpAnyH_take (i := 8) (oi := ⟨some 84, _, _, _, _, _⟩) (v := ?_) rfl (by kernel_rfl) (by kernel_rfl) (by kernel_rfl) (fun _ _ _ h => h) (Or.inl ⟨by rfl, ?_⟩) (by assumption) ?_); rotate_left; focus (intro w hSw; (try dsimp only at hSw); go_split_ands; go_simp; try with_reducible rfl); (try simp only [Act.put, List.setIfInBounds_toArray, List.set_cons_zero, List.set_cons_succ])
          (refine wpAnyH_take (i := 9) (oi := ⟨some 85, _, _, _, _, _⟩) (v := ?_) rfl (by kernel_rfl) (by kernel_rfl) (by kernel_rfl) (fun _ _ _ h => h) (Or.inl ⟨by rfl, ?_⟩) (by assumption) ?_); rotate_left; focus (intro w hSw; (try dsimp only at hSw); go_split_ands; go_simp; try with_reducible rfl); (try simp only [Act.put, List.setIfInBounds_toArray, List.set_cons_zero, List.set_cons_succ])
          (refine wpAnyH_take (i := 10) (oi := ⟨some 86, _, _, _, _, _⟩) (v := ?_) rfl (by kernel_rfl) (by kernel_rfl) (by kernel_rfl) (fun _ _ _ h => h) (Or.inl ⟨by rfl, ?_⟩) (by assumption) ?_); rotate_left; focus (intro w hSw; (try dsimp only at hSw); go_split_ands; go_simp; try with_reducible rfl); (try simp only [Act.put, List.setIfInBounds_toArray, List.set_cons_zero, List.set_cons_succ])
          (refine wpAnyH_ready (rs := [1]) (by kernel_rfl) (by simp) ?_; refine AllReadyH.cons rfl (fun K hK => ?_) AllReadyH.nil); go_simp
          refine hK.out _ _ ⟨d3, v4⟩ (fun hHeld2 => ?_)
          clear hK
          (refine wpAnyH_ready (rs := [11]) (by kernel_rfl) (by simp) ?_; refine AllReadyH.cons rfl (fun K hK => ?_) AllReadyH.nil)
          refine Lib.wp_append_run _ (.tmp 77) (.tmp 86) 22 22 rfl _ _ rfl rfl _ _ hrun ?_
          refine hK.out _ _ ⟨d3', v4'⟩ (fun hHeld3 => ?_)
          clear hK
          (refine wpAnyH_take (i := 12) (oi := ⟨some 88, _, _, _, _, _⟩) (v := ?_) rfl (by kernel_rfl) (by kernel_rfl) (by kernel_rfl) (fun _ _ _ h => h) (Or.inl ⟨by rfl, ?_⟩) (by assumption) ?_); rotate_left; focus (intro w hSw; (try dsimp only at hSw); go_split_ands; go_simp; try with_reducible rfl); (try simp only [Act.put, List.setIfInBounds_toArray, List.set_cons_zero, List.set_cons_succ])
          (refine wpAnyH_ready (rs := [13]) (by kernel_rfl) (by simp) ?_; refine AllReadyH.cons rfl (fun K hK => ?_) AllReadyH.nil); go_simp
          refine hK.out _ _ ⟨(Fr.setCell (S := [b3]) (a := w4) (Fr.refl _ _) (fun _ => by simp) _).cell (by simp; omega) d3', (Fr.setCell (S := [b3]) (a := w4) (Fr.refl _ _) (fun _ => by simp) _).cell (by simp; omega) v4'⟩ (fun hHeld4 => ?_)
          clear hK
          refine wpAnyH_done (by kernel_rfl) (Norm.mk ?_) _
          clear hHeld hHeld2 hHeld3 hHeld4
          obtain ⟨w5, hw5⟩ : ∃ w5, w5 = w4.setCell ⟨b3, 4, none⟩ (.slice la L lc) := ⟨_, rfl⟩
          rw [← hw5]
          have HLN : Hid (∀ a, la = some a → W3.heap.size ≤ a.block) := own_new HG4.out.row HG4.out.new
          have HF45 : Hid (Fr [b3] w4 w5) := by rw [hw5]; exact (Fr.refl [b3] w4).setCell (fun _ => by simp) _
          have HF5 : Hid (Fr [] W2 w5) := by rw [hw5]; exact (HF3.out.trans HG4.out.fr).setCell (fun h => absurd h (by have := HBB3.out; show ¬ b3 < W2.heap.size; omega)) _
          have HB5 : Hid (w5.heap[b3]? = some (.cells #[.int .i64 n0, .int .i64 n1, .int .i64 n2, .int .i64 n3, .slice la L lc, .slice none 0 0] 25 (0, 0))) := by
            rw [hw5, heap_setCell_same HB4.out]
            exact Lib.hid (by simp)
          have HLI : Hid (WordsAt w5 la ((xs.drop 5).take L)) := (words_row (row_rowAt HG4.out.row)).fr HF45.out (fun a ha => by
            have := HLN.out a ha
            simp
            omega)
          have HL0 : Hid (la = none → lc = 0 ∧ (xs.drop 5).take L = []) := Lib.hid fun h => by
            subst h
            obtain ⟨h1, h2⟩ := own_none HG4.out.row
            refine ⟨h1, ?_⟩
            rw [h2]
            simp
          have w4' := HF45.out.cell (by simp; omega) v4'
          have hb5 : b3 < w5.heap.size := lt_of_heap HB5.out
          clear hw5 v4' d3' n4' z4' v4 d3 m4 hrun HB4 HB3 HF45
          obtain ⟨J, hJ⟩ : ∃ J : Nat, J = 5 + L := ⟨_, rfl⟩
          have hJi : 5 + (L : Int) = (J : Int) := by omega
          have hJn : J ≤ n := by omega
          obtain ⟨ys, hys⟩ : ∃ ys, ys = xs.drop J := ⟨_, rfl⟩
          obtain ⟨N1, hN1⟩ : ∃ N1, N1 = n - J := ⟨_, rfl⟩
          have HYL : Hid (ys.length = N1) := Lib.hid (by rw [hys, hN1, HN.out]; simp)
          have HYS := Lib.hid hys
          have HDM : Hid (decM xs = ⟨n0, n1, n2, n3, (xs.drop 5).take L, ys.map (fun x => insOf (intOfW x))⟩) := Lib.hid (by unfold decM; rw [HLV.out, Int.toNat_natCast, HN0.out, HN1.out, HN2.out, HN3.out, hys, hJ])
          have HCO : Hid (codeOk xs = ys.all insOk) := Lib.hid (by unfold codeOk; rw [HLV.out, Int.toNat_natCast, hys, hJ])
          have HGL : Hid (g < b3) := Lib.hid (by
            have h1 : g < W.heap.size := by
              rcases HROW.out.2 with ⟨h0, -⟩ | ⟨g', cap, cur, h0, h1, h2, -⟩
              · cases h0
              · cases h0; exact lt_of_heap h2
            have := HF1.out.size
            have := HF2.out.size
            have := HBB3.out
            omega)
          have HRL : Hid (W.heap.size < b3) := Lib.hid (by have := lt_of_heap HR2.out; have := HBB3.out; omega)
          have HXR : Hid (∀ wr, Fr [b3] w5 wr → WordsAt wr (some ⟨g, 0, none⟩) xs) := Lib.hid fun wr hF => (HX1.out.fr (HF2.out.trans HF5.out) (fun _ _ => by simp)).fr hF (fun a ha => by cases ha; have := HGL.out; simp; omega)
          have HOR := Lib.hid (fun wr (hF : Fr [b3] w5 wr) => hF.heap (k := ob) (by simp; omega) (HF5.out.heap (by simp) HC2.out))
          have HRR := Lib.hid (fun wr (hF : Fr [b3] w5 wr) => hF.heap (k := W.heap.size) (by have := HRL.out; simp; omega) (HF5.out.heap (by simp) HR2.out))
          have HFR : Hid (∀ wr, Fr [b3] w5 wr → Fr [] W wr) := Lib.hid fun wr hF => (HF1.out.trans (HF2.out.trans HF5.out)).cons' hF (by have := HRL.out; omega)
          rw [hJi] at e6
          have HE6 := Lib.hid hJi
          have hN1' : (N1 : Int) = n - J := by omega
          have HD2 := Lib.hid hD2
          clear hys hN1 hJ hD2
          clear HX HX1 HFD HFD1 HRB HC1 HC2 HR2 HN0 HN1 HN2 HN3 HROW
          go_wp2_with fail
          go_loopw [12] (fun i wr => ∃ j k : Nat, Hid (j = J + k) ∧ j ≤ n ∧ i = .int .i64 (j : Int) ∧ ∃ ca cc, Hid (RCode w5 b3 n0 n1 n2 n3 (.slice la L lc) ys k ca cc wr)) (fun i _ => n - (intOf i).toNat)
          case atStart => exact ⟨J, 0, rfl, hJn, rfl, none, 0, ⟨Fr.refl _ _, HB5.out, World.ownsRow_nil _ _ _ _, (fun _ h => by cases h), rfl⟩⟩
          case round =>
            obtain ⟨j, k, HJ, hjn, rfl, ca, cc, hG⟩ := hrel
            have HOW := Lib.hid (HOR.out _ hG.out.fr)
            have o2' := cell_of_heap (o := 2) HOW.out rfl
            have HRW := Lib.hid (HRR.out _ hG.out.fr)
            by_cases hlt' : j < n
            · have hkl : k < ys.length := by rw [HYL.out]; have := HJ.out; omega
              obtain ⟨y, hy⟩ : ∃ y, ys[k]? = some y := ⟨_, List.getElem?_eq_getElem hkl⟩
              have hxj : xs[j]? = some y := by rw [HYS.out, List.getElem?_drop] at hy; rw [HJ.out]; exact hy
              obtain ⟨g', off, eg, hc⟩ := HXR.out _ hG.out.fr j y hxj
              cases eg
              rw [Nat.zero_add] at hc
              have HUP := Lib.hid (fun W' => runpack_at y (HW.out y (List.mem_of_getElem? hxj)) W')
              have k0 : (0 : Int) ≤ (j : Int) := by omega
              have k1 : (j : Int) < (n : Int) := by omega
              have hkb : k ≤ 65536 := by have := HJ.out; omega
              have HY := Lib.hid hy
              cases ho : insOk y
              · rw [ho] at HUP
                simp only [Bool.false_eq_true, if_false] at HUP
                have HNO : Hid (decOk xs = false) := Lib.hid (by unfold decOk; rw [HCO.out, show ys.all insOk = false from List.all_eq_false.2 ⟨y, List.mem_of_getElem? hy, by rw [ho]; simp⟩]; simp)
                have HFW := Lib.hid (HFR.out _ hG.out.fr)
                clear hkl hy hxj ho
                go_wp2_with fail
                refine (HUP.out _).mono ?_
                rintro e w2 ⟨rfl, hF2⟩
                have HFX := Lib.hid (HFW.out.trans hF2)
                have HRX := Lib.hid (hF2.heap (by simp) HRW.out)
                have r0 := cell_of_heap (o := 0) HRX.out rfl; have r1 := cell_of_heap (o := 1) HRX.out rfl; have r2 := cell_of_heap (o := 2) HRX.out rfl; have r3 := cell_of_heap (o := 3) HRX.out rfl; have r4 := cell_of_heap (o := 4) HRX.out rfl; have r5 := cell_of_heap (o := 5) HRX.out rfl
                have f0 := frozen_of_heap (o := 0) HRX.out; have f1 := frozen_of_heap (o := 1) HRX.out; have f2 := frozen_of_heap (o := 2) HRX.out; have f3 := frozen_of_heap (o := 3) HRX.out; have f4 := frozen_of_heap (o := 4) HRX.out; have f5 := frozen_of_heap (o := 5) HRX.out
                have hltz : W.heap.size < w2.heap.size := lt_of_heap HRX.out
                clear hF2
                go_wp2_with fail
                (try simp only [Exit.inBlock, Exit.then])
                refine bodyPost_ret (v := .tuple #[.agg #[.int .i64 0, .int .i64 0, .int .i64 0, .int .i64 0, .slice none 0 0, .slice none 0 0], .int .i64 4]) ?_ rfl ⟨?_, .inr ⟨HNO.out, rfl⟩⟩
                · rw [results_cell_tmp rfl]
                  go_simp
                · (repeat (first | (with_reducible refine Fr.setCell ?_ (fun h => absurd h (Nat.lt_irrefl _)) _) | (with_reducible refine Fr.alloc ?_ _) | (with_reducible refine Fr.drew ?_) | (with_reducible exact HFX.out)))
              · rw [ho] at HUP
                simp only [if_true] at HUP
                have HOK := Lib.hid ho
                obtain ⟨i, hi'⟩ : ∃ i, i = insOf (intOfW y) := ⟨_, rfl⟩
                rw [← hi'] at HUP
                have HI := Lib.hid hi'
                unfold Ins.v at HUP
                clear hkl hy hxj ho hi'
                go_wp2_with fail
                refine (HUP.out _).mono ?_
                rintro e w2 ⟨rfl, hF2⟩
                have HF2' := Lib.hid hF2
                have HBX := Lib.hid (hF2.heap (by simp) hG.out.box)
                have hlt2 : b3 < w2.heap.size := lt_of_heap HBX.out
                have m5 := cell_of_heap (o := 5) HBX.out rfl
                clear hF2
                obtain ⟨op', a', b'⟩ := i
                simp only
                have HRW' : Hid (((w2.alloc (.cells #[.int .i64 op', .int .i64 a', .int .i64 b'] 42)).alloc (.cells #[.int .i64 op', .int .i64 a', .int .i64 b'] 42)).ownsRow 0 42 3 (.slice ca k cc) k _) := ((HF2'.out.alloc _).alloc _).row hG.out.row (fun _ _ => by simp)
                have HN3 := Lib.hid (three_cells (w2.alloc (.cells #[.int .i64 op', .int .i64 a', .int .i64 b'] 42)) (.int .i64 op') (.int .i64 a') (.int .i64 b') 42)
                go_wp2_with (at_builtin; refine wpList_append_at _ rfl (.tmp 117) (.tmp 119) 23 rfl 42 i1 _ 3 24 Tryz.underlying23 hi1 hy0 hy1 hy2 rfl (by decide) (.slice ca k cc) k _ rfl HRW'.out _ 1 1 [.int .i64 op', .int .i64 a', .int .i64 b'] rfl rfl (by simpa using HN3.out) (by simp [Value.oneCell']) (by unfold maxLen; omega) (by omega) ?_; intro v5 w6 ho5 hg5 hf5; obtain ⟨a5, p5, rfl⟩ := row_shape' ho5; have HG6 := Lib.hid (hG.out.grown hb5 ((HF2'.out.alloc _).alloc _) hg5); have s5 := cell_of_heap (o := 5) HG6.out.2 rfl; have t5 := frozen_of_heap (o := 5) HG6.out.2; have HGn := Lib.hid (hG.out.step hb5 ((HF2'.out.alloc _).alloc _) HY.out HOK.out (by rw [← HI.out]; exact ho5) hg5 hf5); clear ho5 hg5 hf5)
                go_roundw
                case rel => exact ⟨j + 1, k + 1, Lib.hid (by rw [HJ.out]; rfl), by omega, by go_num, a5, p5, HGn⟩
                case measure => simp [intOf]; omega
            · have hjn' : j = n := by omega
              subst hjn'
              have hk1 : k = N1 := by have := HJ.out; omega
              subst hk1
              have hkd : decide (j < j) = false := by simp
              have HTK : Hid (ys.take k = ys) := List.take_of_length_le (by rw [HYL.out]; omega)
              have hrow := hG.out.row
              have hall := hG.out.good
              rw [HTK.out] at hrow hall
              have HROW := Lib.hid hrow
              have HALL := Lib.hid hall
              clear hrow hall
              have HBW := Lib.hid hG.out.box
              have m0 := cell_of_heap (o := 0) HBW.out rfl; have m1 := cell_of_heap (o := 1) HBW.out rfl; have m2 := cell_of_heap (o := 2) HBW.out rfl; have m3 := cell_of_heap (o := 3) HBW.out rfl; have m4 := cell_of_heap (o := 4) HBW.out rfl; have m5 := cell_of_heap (o := 5) HBW.out rfl
              have hmt : (decM xs).v = fun la lc ca cc => .agg #[.int .i64 n0, .int .i64 n1, .int .i64 n2, .int .i64 n3, .slice la L lc, .slice ca k cc] := by
                funext la lc ca cc
                unfold Mth.v
                rw [HDM.out]
                simp only [List.length_map]
                rw [HYL.out, HD2.out]
              have HCM : Hid (Calls Tryz.prog 29 #[.agg #[.int .i64 n0, .int .i64 n1, .int .i64 n2, .int .i64 n3, .slice la L lc, .slice ca k cc]] wr (Still (.int .i64 (if (decM xs).ok = true then 0 else 4)) wr)) := Lib.hid (by
                have := rcheck_at (decM xs) la ca lc cc wr (by rw [HDM.out]; exact row_rowAt HROW.out) (by rw [HDM.out]; simp only [List.length_map]; rw [HYL.out]; omega)
                rw [hmt] at this
                exact this)
              have HMT := Lib.hid hmt
              clear hmt
              have HFW := Lib.hid (HFR.out _ hG.out.fr)
              cases hok : (decM xs).ok
              · rw [hok] at HCM
                simp only [Bool.false_eq_true, if_false] at HCM
                have HNO : Hid (decOk xs = false) := Lib.hid (by unfold decOk; rw [hok]; simp)
                clear hok
                go_wp2_with fail
                refine HCM.out.mono ?_
                rintro e w2 ⟨rfl, hF2⟩
                have HFX := Lib.hid (HFW.out.trans hF2)
                have HRX := Lib.hid (hF2.heap (by simp) HRW.out)
                have r0 := cell_of_heap (o := 0) HRX.out rfl; have r1 := cell_of_heap (o := 1) HRX.out rfl; have r2 := cell_of_heap (o := 2) HRX.out rfl; have r3 := cell_of_heap (o := 3) HRX.out rfl; have r4 := cell_of_heap (o := 4) HRX.out rfl; have r5 := cell_of_heap (o := 5) HRX.out rfl
                have f0 := frozen_of_heap (o := 0) HRX.out; have f1 := frozen_of_heap (o := 1) HRX.out; have f2 := frozen_of_heap (o := 2) HRX.out; have f3 := frozen_of_heap (o := 3) HRX.out; have f4 := frozen_of_heap (o := 4) HRX.out; have f5 := frozen_of_heap (o := 5) HRX.out
                clear hF2
                go_wp2_with fail
                (try simp only [Exit.inBlock, Exit.then])
                refine bodyPost_ret (v := .tuple #[.agg #[.int .i64 0, .int .i64 0, .int .i64 0, .int .i64 0, .slice none 0 0, .slice none 0 0], .int .i64 4]) ?_ rfl ⟨?_, .inr ⟨HNO.out, rfl⟩⟩
                · rw [results_cell_tmp rfl]
                  go_simp
                · (repeat (first | (with_reducible refine Fr.setCell ?_ (fun h => absurd h (Nat.lt_irrefl _)) _) | (with_reducible refine Fr.alloc ?_ _) | (with_reducible refine Fr.drew ?_) | (with_reducible exact HFX.out)))
              · rw [hok] at HCM
                simp only [if_true] at HCM
                have HEND : Hid (∀ w2 W7, Fr [] wr w2 → Fr [W.heap.size] w2 W7 → ReadTo (decOk xs) (decM xs) W (.returned (.tuple #[.agg #[.int .i64 n0, .int .i64 n1, .int .i64 n2, .int .i64 n3, .slice la L lc, .slice ca k cc], .int .i64 0])) W7) := Lib.hid fun w2 W7 hF2 hF7 => by
                  have hrl := HRL.out
                  have hla' : ∀ a, la = some a → b3 < a.block := fun a ha => by have := HLN.out a ha; omega
                  have hca' : ∀ a, ca = some a → b3 < a.block := fun a ha => by have := own_new HROW.out hG.out.new a ha; omega
                  refine ⟨(HFW.out.trans hF2).cons' hF7 (Nat.le_refl _), .inl ⟨?_, la, lc, ca, cc, by rw [HMT.out], ?_, fun a ha => ?_, fun a ha => ?_⟩⟩
                  · unfold decOk
                    rw [HHD.out, hok, HCO.out, HALL.out]
                    rfl
                  · refine MAt.fr (w := w2) ⟨?_, fun h => ?_, ?_⟩ hF7 (fun a ha => ?_) (fun a ha => ?_)
                    · rw [HDM.out]
                      exact (HLI.out.fr hG.out.fr (fun a ha => by have := hla' a ha; simp; omega)).fr hF2 (fun _ _ => by simp)
                    · rw [HDM.out]
                      exact HL0.out h
                    · rw [HDM.out]
                      exact row_fr (row_rowAt HROW.out) hF2
                    · have := hla' a ha; simp; omega
                    · have := hca' a ha; simp; omega
                  · have := hla' a ha; omega
                  · have := hca' a ha; omega
                clear hok
                go_wp2_with fail
                refine HCM.out.mono ?_
                rintro e w2 ⟨rfl, hF2⟩
                have HF2' := Lib.hid hF2
                have HRX := Lib.hid (hF2.heap (by simp) HRW.out)
                have HBX := Lib.hid (hF2.heap (by simp) HBW.out)
                have hne : W.heap.size ≠ b3 := by have := HRL.out; omega
                have r0 := cell_of_heap (o := 0) HRX.out rfl; have r1 := cell_of_heap (o := 1) HRX.out rfl; have r2 := cell_of_heap (o := 2) HRX.out rfl; have r3 := cell_of_heap (o := 3) HRX.out rfl; have r4 := cell_of_heap (o := 4) HRX.out rfl; have r5 := cell_of_heap (o := 5) HRX.out rfl
                have f0 := frozen_of_heap (o := 0) HRX.out; have f1 := frozen_of_heap (o := 1) HRX.out; have f2 := frozen_of_heap (o := 2) HRX.out; have f3 := frozen_of_heap (o := 3) HRX.out; have f4 := frozen_of_heap (o := 4) HRX.out; have f5 := frozen_of_heap (o := 5) HRX.out
                clear m0 m1 m2 m3 m4 m5
                have m0 := cell_of_heap (o := 0) HBX.out rfl; have m1 := cell_of_heap (o := 1) HBX.out rfl; have m2 := cell_of_heap (o := 2) HBX.out rfl; have m3 := cell_of_heap (o := 3) HBX.out rfl; have m4 := cell_of_heap (o := 4) HBX.out rfl; have m5 := cell_of_heap (o := 5) HBX.out rfl
                clear hF2
                go_wp2_with fail
                (try simp only [Exit.inBlock, Exit.then])
                refine bodyPost_ret (v := .tuple #[.agg #[.int .i64 n0, .int .i64 n1, .int .i64 n2, .int .i64 n3, .slice la L lc, .slice ca k cc], .int .i64 0]) ?_ rfl (HEND.out w2 _ HF2'.out ?_)
                · rw [results_cell_tmp rfl]
                  go_simp
                · (repeat (first | (with_reducible refine Fr.setCell ?_ (fun _ => by simp) _) | (with_reducible exact Fr.refl _ _)))
end Go.Proofs.YtjghgambieflaaaGreatDoor
