/- ir: the places that an instruction reads. -/
import Derived.Test.YtcdpgchkdjjfgaaIrMem
import Derived.Test.YtcdpgchkdjjfgaaIrSmall
import Derived.Test.YtcdpgchkdjjfgaaAppend
import Derived.Lib.ItoaMem
namespace Go.Proofs.Ytcdpgchkdjjfgaa
open Go.RowKit

/-- sources, cell by cell -/
def flatS (l : List Sr) : List Value := l.flatMap fun s => [.int .i64 s.kind, .int .i64 s.n, .int .u64 s.w]
theorem flatS_len (l : List Sr) : (flatS l).length = l.length * 3 := by
  induction l with
  | nil => rfl
  | cons a l ih => rw [show flatS (a :: l) = .int .i64 a.kind :: .int .i64 a.n :: .int .u64 a.w :: flatS l from rfl]; simp [ih]; omega
theorem flatS_snoc (l : List Sr) (s : Sr) : flatS (l ++ [s]) = flatS l ++ [.int .i64 s.kind, .int .i64 s.n, .int .u64 s.w] := by simp [flatS]
theorem flatS_at {l : List Sr} {k : Nat} {s : Sr} (h : l[k]? = some s) : (flatS l)[k * 3]? = some (.int .i64 s.kind) ∧ (flatS l)[k * 3 + 1]? = some (.int .i64 s.n) ∧ (flatS l)[k * 3 + 2]? = some (.int .u64 s.w) := by
  induction l generalizing k with
  | nil => cases h
  | cons a l ih =>
    have e : flatS (a :: l) = .int .i64 a.kind :: .int .i64 a.n :: .int .u64 a.w :: flatS l := rfl
    rw [e]
    cases k with
    | zero => cases h; exact ⟨rfl, rfl, rfl⟩
    | succ k =>
      have := ih (by simpa using h)
      rw [show (k + 1) * 3 = k * 3 + 1 + 1 + 1 by omega]
      simpa [Nat.add_assoc] using this
/-- a row that grows, all in new memory -/
structure IGrows (w : World) (e : TypeId) (size k : Nat) (xs : List Value) (v : Value) (W : World) : Prop where
  row : W.ownsRow 0 e size v k xs
  fr : Fr [] w W
  new : ∀ b, v.ownBlock = some b → w.heap.size ≤ b
theorem IGrows.step {w W W1 w1 : World} {e : TypeId} {size k j : Nat} {xs news : List Value} {v v' : Value} (h : IGrows w e size k xs v W) (hW : Fr [] W W1) (ho : w1.ownsRow 0 e size v' (k + j) (xs ++ news)) (hg : W1.grownBy w1 v.ownBlock) (hf : v'.ownBlock = v.ownBlock ∨ v'.ownBlock = some W1.heap.size) : IGrows w e size (k + j) (xs ++ news) v' w1 := by
  refine ⟨ho, (h.fr.trans hW).grown hg (fun b hb hl => by have := h.new b hb; omega), fun b hb => ?_⟩
  rcases hf with hf | hf
  · exact h.new b (hf ▸ hb)
  · have e := hf.symm.trans hb
    cases e
    exact Nat.le_trans h.fr.size hW.size
theorem IGrows.fr' {w W W1 : World} {e : TypeId} {size k : Nat} {xs : List Value} {v : Value} (h : IGrows w e size k xs v W) (hW : Fr [] W W1) : IGrows w e size k xs v W1 := ⟨hW.row h.row (fun _ _ => by simp), h.fr.trans hW, h.new⟩
theorem irow_shape {w : World} {b size : Nat} {e : TypeId} {v : Value} {n : Nat} {xs : List Value} (h : w.ownsRow b e size v n xs) : ∃ ao cap, v = .slice ao n cap := by
  rcases h.2 with ⟨rfl, rfl⟩ | ⟨g, cap, cur, rfl, _⟩
  · exact ⟨_, _, rfl⟩
  · exact ⟨_, _, rfl⟩
/-- the sources of an owned row -/
theorem srcs_of_row {w : World} {a : Option Addr} {n c : Nat} {l : List Sr} (h : w.ownsRow 0 25 3 (.slice a n c) n (flatS l)) : SrcsAt w a l := by
  intro k s hk
  obtain ⟨f0, f1, f2⟩ := flatS_at hk
  rcases h.2 with ⟨hv, hn⟩ | ⟨g, cap, cur, hv, -⟩
  · have h1 := h.1
    rw [hn, flatS_len] at h1
    have h2 := (List.getElem?_eq_some_iff.1 hk).1
    omega
  · cases hv
    have hc := h.cells (g := g) rfl
    have d0 := hc _ _ f0
    have d1 := hc _ _ f1
    have d2 := hc _ _ f2
    rw [Lib.add_plain] at d0 d1 d2
    refine ⟨g, 0, rfl, d0, ?_, ?_⟩
    · rw [Nat.add_assoc]; exact d1
    · rw [Nat.add_assoc]; exact d2
/-- Returned: the sources, in a new row. -/
def ReadsTo (l : List Sr) (w : World) (e : Ending) (w' : World) : Prop := ∃ v, e = .returned v ∧ IGrows w 25 3 l.length (flatS l) v w'
theorem infoSrc : (Try.prog.info? 25).map (fun i => (i.zero, i.size, i.bytes)) = some (some (.agg #[.int .i64 0, .int .i64 0, .int .u64 0]), 3, 24) := by kernel_rfl
theorem filter_snoc {l : List Sr} {k : Nat} {s : Sr} (h : l[k]? = some s) (p : Sr → Bool) : (l.take (k + 1)).filter p = (l.take k).filter p ++ (if p s = true then [s] else []) := by
  rw [take_snoc h, List.filter_append]
  cases hp : p s <;> simp [hp]
set_option maxRecDepth 100000 in
set_option maxHeartbeats 4000000 in
theorem ir_Reads (i : Ii) (w : World) (hI : IB i) (h : SrcsAt w i.la i.l) : Calls Try.prog 19 #[i.v] w (ReadsTo (i.l.filter plc) w) := by
  obtain ⟨i0, hi, hz0, hz1, hz2⟩ := info_parts infoSrc
  have HC := Lib.hid (fun s W => ir_Place s W)
  have hll := hI.n
  obtain ⟨op, n, ⟨dk, dn, dw⟩, la, l, lc, x⟩ := i
  unfold Ii.v
  simp only at h hll ⊢
  obtain ⟨ll, hlen⟩ : ∃ n, n = l.length := ⟨_, rfl⟩
  rw [← hlen] at hll ⊢
  have HL := Lib.hid hlen
  have HA := Lib.hid h
  clear h hlen hI
  go_enter Try.func19, Try.ntmps19
  go_wp2_with fail
  go_loopw [3, 9] (fun v i wr => ∃ k : Nat, k ≤ ll ∧ i = .int .i64 k ∧ Hid (IGrows w 25 3 ((l.take k).filter plc).length (flatS ((l.take k).filter plc)) v wr)) (fun _ i _ => ll - (intOf i).toNat)
  case atStart => exact ⟨0, Nat.zero_le _, rfl, ⟨by simpa [flatS] using World.ownsRow_nil _ _ _ _, (Fr.refl [] w).alloc _, fun b hb => by cases hb⟩⟩
  case round =>
    obtain ⟨k, hk, rfl, HG⟩ := hrel
    obtain ⟨ao, cap, rfl⟩ := irow_shape HG.out.row
    by_cases hlt : k < ll
    · have hkl : k < l.length := by rw [← HL.out]; exact hlt
      obtain ⟨s, hs⟩ : ∃ s, l[k]? = some s := ⟨_, List.getElem?_eq_getElem hkl⟩
      obtain ⟨g, o, rfl, c0, c1, c2⟩ := (HA.out.fr HG.out.fr) k s hs
      have hc := HC.out s
      unfold Sr.v at hc
      have HT := Lib.hid (filter_snoc hs plc)
      have hm : ((l.take k).filter plc).length ≤ k := Nat.le_trans (List.length_filter_le _ _) (by simp; omega)
      have k0 : (0 : Int) ≤ (k : Int) := by omega
      have k1 : (k : Int) < (ll : Int) := by omega
      have hg : g < wr.heap.size := World.block_lt_of_cell? wr _ c0
      obtain ⟨m, hmm⟩ : ∃ m, m = ((l.take k).filter plc).length := ⟨_, rfl⟩
      rw [← hmm] at HG hm ⊢
      have HM := Lib.hid hmm
      generalize (l.take k).filter plc = fl at *
      obtain ⟨b, hb⟩ : ∃ b, b = plc s := ⟨_, rfl⟩
      simp only [← hb] at hc HT
      clear hb hkl hs hmm
      cases b
      · have HT2 : Hid ((l.take (k + 1)).filter plc = fl) := Lib.hid (by rw [HT.out]; simp)
        clear HT
        go_wp2_with (go_at_call 16; refine (hc _).mono ?_; rintro e w1 ⟨rfl, hF⟩; have HF1 : Hid (Fr [] wr w1) := Lib.hid (((Fr.refl [] wr).alloc _).trans hF); clear hF)
        go_roundw
        case rel => exact ⟨k + 1, by omega, by go_num, Lib.hid (by rw [HT2.out, ← HM.out]; exact HG.out.fr' HF1.out)⟩
        case measure => simp [intOf]; omega
      · have HT2 : Hid ((l.take (k + 1)).filter plc = fl ++ [s]) := Lib.hid (by rw [HT.out]; simp)
        clear HT
        go_wp2_with (first
          | (go_at_call 16; refine (hc _).mono ?_; rintro e w1 ⟨rfl, hF⟩; have HF1 : Hid (Fr [] wr w1) := Lib.hid (((Fr.refl [] wr).alloc _).trans hF); have hb1 := hF.heap (by simp) (heap_new wr _); have q0 := cell_of_heap (o := 0) hb1 rfl; have q1 := cell_of_heap (o := 1) hb1 rfl; have q2 := cell_of_heap (o := 2) hb1 rfl; have hw1 := lt_of_heap hb1; have HRW : Hid ((w1.alloc (.cells #[.int .i64 s.kind, .int .i64 s.n, .int .u64 s.w] 25)).ownsRow 0 25 3 (.slice ao m cap) m (flatS fl)) := Lib.hid ((HG.out.fr' (HF1.out.alloc _)).row); have HNW := Lib.hid (heap_new w1 (.cells #[.int .i64 s.kind, .int .i64 s.n, .int .u64 s.w] 25)); clear hF hb1)
          | (at_builtin; refine wpList_append_at _ rfl (.tmp 15) (.tmp 17) 26 rfl 25 i0 _ 3 24 Try.underlying26 hi hz0 hz1 hz2 rfl (by decide) (.slice ao m cap) m _ rfl HRW.out ⟨w1.heap.size, 0, none⟩ 1 1 [.int .i64 s.kind, .int .i64 s.n, .int .u64 s.w] rfl rfl (by
              intro j u hj
              rw [Lib.add_plain, Nat.zero_add]
              exact cell_of_heap HNW.out (by simpa using hj)) (by simp [Value.oneCell']) (by unfold maxLen; omega) (by omega) ?_; intro v5 w5 ho5 hg5 hf5; obtain ⟨a5, p5, rfl⟩ := irow_shape ho5; have HGn := Lib.hid (HG.out.step (HF1.out.alloc _) ho5 hg5 hf5); clear ho5 hg5 hf5))
        go_roundw
        case rel => exact ⟨k + 1, by omega, by go_num, Lib.hid (by rw [HT2.out, flatS_snoc, List.length_append, List.length_singleton, ← HM.out]; exact HGn.out)⟩
        case measure => simp [intOf]; omega
    · have hkn : k = ll := by omega
      have HT : Hid ((l.take k).filter plc = l.filter plc) := Lib.hid (by rw [hkn, HL.out, List.take_length])
      have hkd : ¬ (k : Int) < (ll : Int) := by omega
      clear hkn hlt
      go_wp2_with fail
      go_ret
      exact ⟨_, rfl, by rw [← HT.out]; exact HG.out⟩
set_option maxRecDepth 100000 in
set_option maxHeartbeats 4000000 in
theorem r11_Reads (i : Ii) (w : World) (hI : IB i) (h : SrcsAt w i.la i.l) : Calls Try.prog 20 #[i.v] w (ReadsTo (i.l.filter plc) w) := by
  obtain ⟨i0, hi, hz0, hz1, hz2⟩ := info_parts infoSrc
  have HC := Lib.hid (fun s W => r11_Place s W)
  have hll := hI.n
  obtain ⟨op, n, ⟨dk, dn, dw⟩, la, l, lc, x⟩ := i
  unfold Ii.v
  simp only at h hll ⊢
  obtain ⟨ll, hlen⟩ : ∃ n, n = l.length := ⟨_, rfl⟩
  rw [← hlen] at hll ⊢
  have HL := Lib.hid hlen
  have HA := Lib.hid h
  clear h hlen hI
  have hwb : Fr [] w (w.alloc (.cells #[.int .i64 op, .int .i64 n, .int .i64 dk, .int .i64 dn, .int .u64 dw, .slice la ll lc, .int .u64 x] 28)) := (Fr.refl [] w).alloc _
  have hbb := heap_new w (.cells #[.int .i64 op, .int .i64 n, .int .i64 dk, .int .i64 dn, .int .u64 dw, .slice la ll lc, .int .u64 x] 28)
  have HWB := Lib.hid hwb
  have HBB := Lib.hid hbb
  clear hwb hbb
  go_enter Try.func20, Try.ntmps20
  go_wp2_with fail
  generalize hwg : w.alloc (.cells #[.int .i64 op, .int .i64 n, .int .i64 dk, .int .i64 dn, .int .u64 dw, .slice la ll lc, .int .u64 x] 28) = wb at *
  have HWG := Lib.hid hwg
  clear hwg
  go_loopw [3, 4] (fun v i wr => ∃ k : Nat, k ≤ ll ∧ i = .int .i64 k ∧ Hid (IGrows wb 25 3 ((l.take k).filter plc).length (flatS ((l.take k).filter plc)) v wr)) (fun _ i _ => ll - (intOf i).toNat)
  case atStart => exact ⟨0, Nat.zero_le _, rfl, ⟨by simpa [flatS] using World.ownsRow_nil _ _ _ _, Fr.refl _ _, fun b hb => by cases hb⟩⟩
  case round =>
    obtain ⟨k, hk, rfl, HG⟩ := hrel
    have HB := Lib.hid (HG.out.fr.heap (by simp) HBB.out)
    have hw0 : w.heap.size < wr.heap.size := lt_of_heap HB.out
    have b0 := cell_of_heap (o := 0) HB.out rfl; have b1 := cell_of_heap (o := 1) HB.out rfl; have b2 := cell_of_heap (o := 2) HB.out rfl; have b3 := cell_of_heap (o := 3) HB.out rfl; have b4 := cell_of_heap (o := 4) HB.out rfl; have b5 := cell_of_heap (o := 5) HB.out rfl; have b6 := cell_of_heap (o := 6) HB.out rfl
    obtain ⟨ao, cap, rfl⟩ := irow_shape HG.out.row
    by_cases hlt : k < ll
    · have hkl : k < l.length := by rw [← HL.out]; exact hlt
      obtain ⟨s, hs⟩ : ∃ s, l[k]? = some s := ⟨_, List.getElem?_eq_getElem hkl⟩
      obtain ⟨g, o, rfl, c0, c1, c2⟩ := (HA.out.fr (HWB.out.trans HG.out.fr)) k s hs
      have hc := HC.out s
      unfold Sr.v at hc
      have HT := Lib.hid (filter_snoc hs plc)
      have hm : ((l.take k).filter plc).length ≤ k := Nat.le_trans (List.length_filter_le _ _) (by simp; omega)
      have k0 : (0 : Int) ≤ (k : Int) := by omega
      have k1 : (k : Int) < (ll : Int) := by omega
      have hg : g < wr.heap.size := World.block_lt_of_cell? wr _ c0
      obtain ⟨m, hmm⟩ : ∃ m, m = ((l.take k).filter plc).length := ⟨_, rfl⟩
      rw [← hmm] at HG hm ⊢
      have HM := Lib.hid hmm
      generalize (l.take k).filter plc = fl at *
      obtain ⟨b, hb⟩ : ∃ b, b = plc s := ⟨_, rfl⟩
      simp only [← hb] at hc HT
      clear hb hkl hs hmm
      cases b
      · have HT2 : Hid ((l.take (k + 1)).filter plc = fl) := Lib.hid (by rw [HT.out]; simp)
        clear HT
        go_wp2_with (go_at_call 17; refine (hc _).mono ?_; rintro e w1 ⟨rfl, hF⟩; have HF1 : Hid (Fr [] wr w1) := Lib.hid hF; clear hF)
        go_roundw
        case rel => exact ⟨k + 1, by omega, by go_num, Lib.hid (by rw [HT2.out, ← HM.out]; exact HG.out.fr' HF1.out)⟩
        case measure => simp [intOf]; omega
      · have HT2 : Hid ((l.take (k + 1)).filter plc = fl ++ [s]) := Lib.hid (by rw [HT.out]; simp)
        clear HT
        go_wp2_with (first
          | (go_at_call 17; refine (hc _).mono ?_; rintro e w1 ⟨rfl, hF⟩; have HF1 : Hid (Fr [] wr w1) := Lib.hid hF; have hb1 := hF.heap (by simp) HB.out; have q0 := cell_of_heap (o := 0) hb1 rfl; have q1 := cell_of_heap (o := 1) hb1 rfl; have q2 := cell_of_heap (o := 2) hb1 rfl; have q3 := cell_of_heap (o := 3) hb1 rfl; have q4 := cell_of_heap (o := 4) hb1 rfl; have q5 := cell_of_heap (o := 5) hb1 rfl; have q6 := cell_of_heap (o := 6) hb1 rfl; have hw1 := lt_of_heap hb1; have e0 := HF1.out.cell (by simp) c0; have e1 := HF1.out.cell (by simp) c1; have e2 := HF1.out.cell (by simp) c2; have hg1 : g < w1.heap.size := World.block_lt_of_cell? w1 _ e0; have HRW : Hid ((w1.alloc (.cells #[.int .i64 s.kind, .int .i64 s.n, .int .u64 s.w] 25)).ownsRow 0 25 3 (.slice ao m cap) m (flatS fl)) := Lib.hid ((HG.out.fr' (HF1.out.alloc _)).row); have HNW := Lib.hid (heap_new w1 (.cells #[.int .i64 s.kind, .int .i64 s.n, .int .u64 s.w] 25)); clear hF hb1)
          | (at_builtin; refine wpList_append_at _ rfl (.tmp 18) (.tmp 24) 26 rfl 25 i0 _ 3 24 Try.underlying26 hi hz0 hz1 hz2 rfl (by decide) (.slice ao m cap) m _ rfl HRW.out ⟨w1.heap.size, 0, none⟩ 1 1 [.int .i64 s.kind, .int .i64 s.n, .int .u64 s.w] rfl rfl (by
              intro j u hj
              rw [Lib.add_plain, Nat.zero_add]
              exact cell_of_heap HNW.out (by simpa using hj)) (by simp [Value.oneCell']) (by unfold maxLen; omega) (by omega) ?_; intro v5 w5 ho5 hg5 hf5; obtain ⟨a5, p5, rfl⟩ := irow_shape ho5; have HGn := Lib.hid (HG.out.step (HF1.out.alloc _) ho5 hg5 hf5); clear ho5 hg5 hf5))
        go_roundw
        case rel => exact ⟨k + 1, by omega, by go_num, Lib.hid (by rw [HT2.out, flatS_snoc, List.length_append, List.length_singleton, ← HM.out]; exact HGn.out)⟩
        case measure => simp [intOf]; omega
    · have hkn : k = ll := by omega
      have HT : Hid ((l.take k).filter plc = l.filter plc) := Lib.hid (by rw [hkn, HL.out, List.take_length])
      have hkd : ¬ (k : Int) < (ll : Int) := by omega
      clear hkn hlt
      go_wp2_with fail
      go_ret
      exact ⟨_, rfl, by rw [← HT.out]; exact ⟨HG.out.row, HWB.out.trans HG.out.fr, fun b hb => Nat.le_trans HWB.out.size (HG.out.new b hb)⟩⟩
end Go.Proofs.Ytcdpgchkdjjfgaa
