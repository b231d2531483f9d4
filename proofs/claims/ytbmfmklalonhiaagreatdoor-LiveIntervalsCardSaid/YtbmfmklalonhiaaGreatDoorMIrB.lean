/- ir: the places that an instruction reads. ir: slices.Clone over numbers, sources, maps and instructions. ir.copied: instructions in new memory, with their operands. ir: may a source be? ir: the numbers of a unit, and its ranges. ir.Copy: a unit in new memory. (written by gencopy.py) -/
import Derived.Test.YtbmfmklalonhiaaGreatDoorMIrA
import Derived.Test.YtbmfmklalonhiaaGreatDoorMPlaces
import Derived.Lib.ItoaMem
import Derived.Deep.RegionHeld3
namespace Go.Proofs.YtbmfmklalonhiaaGreatDoor
open Go.RowKit

/-- sources, cell by cell -/
def flatS (l : List Sr) : List Value := l.flatMap fun s => [.int .i64 s.kind, .int .i64 s.n, .int .u64 s.w]
theorem flatS_len (l : List Sr) : (flatS l).length = l.length * 3 := by
  induction l with
  | nil => rfl
  | cons a l ih => rw [show flatS (a :: l) = .int .i64 a.kind :: .int .i64 a.n :: .int .u64 a.w :: flatS l from rfl]; simp [ih]; omega
theorem flatS_snoc (l : List Sr) (s : Sr) : flatS (l ++ [s]) = flatS l ++ [.int .i64 s.kind, .int .i64 s.n, .int .u64 s.w] := by simp [flatS]
theorem flatS_at {l : List Sr} {k : Nat} {s : Sr} (h : l[k]? = some s) : (flatS l)[k * 3]? = some (.int .i64 s.kind) ∧ (flatS l)[k * 3 + 1]? = some (.int .i64 s.n) ∧ (flatS l)[k * 3 + 2]? = some (.int .u64 s.w) := by
  induction l generalizing k with
  | nil => cases h
  | cons a l ih =>
    have e : flatS (a :: l) = .int .i64 a.kind :: .int .i64 a.n :: .int .u64 a.w :: flatS l := rfl
    rw [e]
    cases k with
    | zero => cases h; exact ⟨rfl, rfl, rfl⟩
    | succ k =>
      have := ih (by simpa using h)
      rw [show (k + 1) * 3 = k * 3 + 1 + 1 + 1 by omega]
      simpa [Nat.add_assoc] using this
/-- a row that grows, all in new memory -/
structure IGrows (w : World) (e : TypeId) (size k : Nat) (xs : List Value) (v : Value) (W : World) : Prop where
  row : W.ownsRow 0 e size v k xs
  fr : Fr [] w W
  new : ∀ b, v.ownBlock = some b → w.heap.size ≤ b
theorem IGrows.step {w W W1 w1 : World} {e : TypeId} {size k j : Nat} {xs news : List Value} {v v' : Value} (h : IGrows w e size k xs v W) (hW : Fr [] W W1) (ho : w1.ownsRow 0 e size v' (k + j) (xs ++ news)) (hg : W1.grownBy w1 v.ownBlock) (hf : v'.ownBlock = v.ownBlock ∨ v'.ownBlock = some W1.heap.size) : IGrows w e size (k + j) (xs ++ news) v' w1 := by
  refine ⟨ho, (h.fr.trans hW).grown hg (fun b hb hl => by have := h.new b hb; omega), fun b hb => ?_⟩
  rcases hf with hf | hf
  · exact h.new b (hf ▸ hb)
  · have e := hf.symm.trans hb
    cases e
    exact Nat.le_trans h.fr.size hW.size
theorem IGrows.fr' {w W W1 : World} {e : TypeId} {size k : Nat} {xs : List Value} {v : Value} (h : IGrows w e size k xs v W) (hW : Fr [] W W1) : IGrows w e size k xs v W1 := ⟨hW.row h.row (fun _ _ => by simp), h.fr.trans hW, h.new⟩
theorem irow_shape {w : World} {b size : Nat} {e : TypeId} {v : Value} {n : Nat} {xs : List Value} (h : w.ownsRow b e size v n xs) : ∃ ao cap, v = .slice ao n cap := by
  rcases h.2 with ⟨rfl, rfl⟩ | ⟨g, cap, cur, rfl, _⟩
  · exact ⟨_, _, rfl⟩
  · exact ⟨_, _, rfl⟩
/-- the sources of an owned row -/
theorem srcs_of_row {w : World} {a : Option Addr} {n c : Nat} {l : List Sr} (h : w.ownsRow 0 62 3 (.slice a n c) n (flatS l)) : SrcsAt w a l := by
  intro k s hk
  obtain ⟨f0, f1, f2⟩ := flatS_at hk
  rcases h.2 with ⟨hv, hn⟩ | ⟨g, cap, cur, hv, -⟩
  · have h1 := h.1
    rw [hn, flatS_len] at h1
    have h2 := (List.getElem?_eq_some_iff.1 hk).1
    omega
  · cases hv
    have hc := h.cells (g := g) rfl
    have d0 := hc _ _ f0
    have d1 := hc _ _ f1
    have d2 := hc _ _ f2
    rw [Lib.add_plain] at d0 d1 d2
    refine ⟨g, 0, rfl, d0, ?_, ?_⟩
    · rw [Nat.add_assoc]; exact d1
    · rw [Nat.add_assoc]; exact d2
/-- Returned: the sources, in a new row. -/
def ReadsTo (l : List Sr) (w : World) (e : Ending) (w' : World) : Prop := ∃ v, e = .returned v ∧ IGrows w 62 3 l.length (flatS l) v w'
theorem infoSrc : (Tryz.prog.info? 62).map (fun i => (i.zero, i.size, i.bytes)) = some (some (.agg #[.int .i64 0, .int .i64 0, .int .u64 0]), 3, 24) := by kernel_rfl
theorem filter_snoc {l : List Sr} {k : Nat} {s : Sr} (h : l[k]? = some s) (p : Sr → Bool) : (l.take (k + 1)).filter p = (l.take k).filter p ++ (if p s = true then [s] else []) := by
  rw [take_snoc h, List.filter_append]
  cases hp : p s <;> simp [hp]
set_option maxRecDepth 100000 in
set_option maxHeartbeats 4000000 in
theorem ir_Reads (i : Ii) (w : World) (hI : IB i) (h : SrcsAt w i.la i.l) : Calls Tryz.prog 21 #[i.v] w (ReadsTo (i.l.filter plc) w) := by
  obtain ⟨i0, hi, hz0, hz1, hz2⟩ := info_parts infoSrc
  have HC := Lib.hid (fun s W => ir_Place s W)
  have hll := hI.n
  obtain ⟨op, n, ⟨dk, dn, dw⟩, la, l, lc, x⟩ := i
  unfold Ii.v
  simp only at h hll ⊢
  obtain ⟨ll, hlen⟩ : ∃ n, n = l.length := ⟨_, rfl⟩
  rw [← hlen] at hll ⊢
  have HL := Lib.hid hlen
  have HA := Lib.hid h
  clear h hlen hI
  go_enter Tryz.func21, Tryz.ntmps21
  go_wp2_with fail
  go_loopw [3, 9] (fun v i wr => ∃ k : Nat, k ≤ ll ∧ i = .int .i64 k ∧ Hid (IGrows w 62 3 ((l.take k).filter plc).length (flatS ((l.take k).filter plc)) v wr)) (fun _ i _ => ll - (intOf i).toNat)
  case atStart => exact ⟨0, Nat.zero_le _, rfl, ⟨by simpa [flatS] using World.ownsRow_nil _ _ _ _, (Fr.refl [] w).alloc _, fun b hb => by cases hb⟩⟩
  case round =>
    obtain ⟨k, hk, rfl, HG⟩ := hrel
    obtain ⟨ao, cap, rfl⟩ := irow_shape HG.out.row
    by_cases hlt : k < ll
    · have hkl : k < l.length := by rw [← HL.out]; exact hlt
      obtain ⟨s, hs⟩ : ∃ s, l[k]? = some s := ⟨_, List.getElem?_eq_getElem hkl⟩
      obtain ⟨g, o, rfl, c0, c1, c2⟩ := (HA.out.fr HG.out.fr) k s hs
      have hc := HC.out s
      unfold Sr.v at hc
      have HTq := Lib.hid (filter_snoc hs plc)
      have hm : ((l.take k).filter plc).length ≤ k := Nat.le_trans (List.length_filter_le _ _) (by simp; omega)
      have k0 : (0 : Int) ≤ (k : Int) := by omega
      have k1 : (k : Int) < (ll : Int) := by omega
      have hg : g < wr.heap.size := World.block_lt_of_cell? wr _ c0
      obtain ⟨m, hmm⟩ : ∃ m, m = ((l.take k).filter plc).length := ⟨_, rfl⟩
      rw [← hmm] at HG hm ⊢
      have HM := Lib.hid hmm
      generalize (l.take k).filter plc = fl at *
      obtain ⟨b, hb⟩ : ∃ b, b = plc s := ⟨_, rfl⟩
      simp only [← hb] at hc HTq
      clear hb hkl hs hmm
      cases b
      · have HT2 : Hid ((l.take (k + 1)).filter plc = fl) := Lib.hid (by rw [HTq.out]; simp)
        clear HTq
        go_wp2_with (go_at_call 46; refine (hc _).mono ?_; rintro e w1 ⟨rfl, hF⟩; have HF1 : Hid (Fr [] wr w1) := Lib.hid (((Fr.refl [] wr).alloc _).trans hF); clear hF)
        go_roundw
        case rel => exact ⟨k + 1, by omega, by go_num, Lib.hid (by rw [HT2.out, ← HM.out]; exact HG.out.fr' HF1.out)⟩
        case measure => simp [intOf]; omega
      · have HT2 : Hid ((l.take (k + 1)).filter plc = fl ++ [s]) := Lib.hid (by rw [HTq.out]; simp)
        clear HTq
        go_wp2_with (first
          | (go_at_call 46; refine (hc _).mono ?_; rintro e w1 ⟨rfl, hF⟩; have HF1 : Hid (Fr [] wr w1) := Lib.hid (((Fr.refl [] wr).alloc _).trans hF); have hb1 := hF.heap (by simp) (heap_new wr _); have q0 := cell_of_heap (o := 0) hb1 rfl; have q1 := cell_of_heap (o := 1) hb1 rfl; have q2 := cell_of_heap (o := 2) hb1 rfl; have hw1 := lt_of_heap hb1; have HRW : Hid ((w1.alloc (.cells #[.int .i64 s.kind, .int .i64 s.n, .int .u64 s.w] 62)).ownsRow 0 62 3 (.slice ao m cap) m (flatS fl)) := Lib.hid ((HG.out.fr' (HF1.out.alloc _)).row); have HNW := Lib.hid (heap_new w1 (.cells #[.int .i64 s.kind, .int .i64 s.n, .int .u64 s.w] 62)); clear hF hb1)
          | (at_builtin; refine wpList_append_at _ rfl (.tmp 15) (.tmp 17) 59 rfl 62 i0 _ 3 24 Tryz.underlying59 hi hz0 hz1 hz2 rfl (by decide) (.slice ao m cap) m _ rfl HRW.out ⟨w1.heap.size, 0, none⟩ 1 1 [.int .i64 s.kind, .int .i64 s.n, .int .u64 s.w] rfl rfl (by
              intro j u hj
              rw [Lib.add_plain, Nat.zero_add]
              exact cell_of_heap HNW.out (by simpa using hj)) (by simp [Value.oneCell']) (by unfold maxLen; omega) (by omega) ?_; intro v5 w5 ho5 hg5 hf5; obtain ⟨a5, p5, rfl⟩ := irow_shape ho5; have HGn := Lib.hid (HG.out.step (HF1.out.alloc _) ho5 hg5 hf5); clear ho5 hg5 hf5))
        go_roundw
        case rel => exact ⟨k + 1, by omega, by go_num, Lib.hid (by rw [HT2.out, flatS_snoc, List.length_append, List.length_singleton, ← HM.out]; exact HGn.out)⟩
        case measure => simp [intOf]; omega
    · have hkn : k = ll := by omega
      have HTq : Hid ((l.take k).filter plc = l.filter plc) := Lib.hid (by rw [hkn, HL.out, List.take_length])
      have hkd : ¬ (k : Int) < (ll : Int) := by omega
      clear hkn hlt
      go_wp2_with fail
      go_ret
      exact ⟨_, rfl, by rw [← HTq.out]; exact HG.out⟩
end Go.Proofs.YtbmfmklalonhiaaGreatDoor
namespace Go.Proofs.YtbmfmklalonhiaaGreatDoor
open Go.RowKit

/-- Returned: these cells, in a new row. -/
def ClonesTo (e' : TypeId) (size n : Nat) (xs : List Value) (w : World) (e : Ending) (w' : World) : Prop := ∃ v, e = .returned v ∧ IGrows w e' size n xs v w'
theorem owns_empty (w : World) (e : TypeId) (size : Nat) : (w.alloc (.cells #[] e)).ownsRow 0 e size (.slice (some ⟨w.heap.size, 0, none⟩) 0 0) 0 [] :=
  ⟨by simp, .inr ⟨w.heap.size, 0, #[], rfl, Nat.zero_le _, heap_new _ _, Nat.le_refl _, Nat.zero_le _, by simp, by simp⟩⟩
theorem grows_empty (w : World) (e : TypeId) (size : Nat) : IGrows w e size 0 [] (.slice (some ⟨w.heap.size, 0, none⟩) 0 0) (w.alloc (.cells #[] e)) :=
  ⟨owns_empty w e size, (Fr.refl [] w).alloc _, fun b hb => by cases hb; exact Nat.le_refl _⟩
theorem clone_grows {w w' : World} {e : TypeId} {size n : Nat} {xs : List Value} {v : Value} (h : w'.ownsRow 0 e size v (0 + n) ([] ++ xs)) (hg : (w.alloc (.cells #[] e)).grownBy w' (Value.slice (some ⟨w.heap.size, 0, none⟩) 0 0).ownBlock) (hf : v.ownBlock = (Value.slice (some ⟨w.heap.size, 0, none⟩) 0 0).ownBlock ∨ v.ownBlock = some (w.alloc (.cells #[] e)).heap.size) : IGrows w e size n xs v w' := by
  have := (grows_empty w e size).step (Fr.refl [] _) h hg hf
  simpa using this
theorem srcs_news {w : World} {a : Addr} {l : List Sr} (h : SrcsAt w (some a) l) : ∀ j u, (flatS l)[j]? = some u → w.cell? (a.add j) = some u := by
  intro j u hj
  have hjl := (List.getElem?_eq_some_iff.1 hj).1
  rw [flatS_len] at hjl
  have hk : j / 3 < l.length := by omega
  have hs : l[j / 3]? = some l[j / 3] := List.getElem?_eq_getElem hk
  obtain ⟨g, o, e, c0, c1, c2⟩ := h _ _ hs
  cases e
  obtain ⟨f0, f1, f2⟩ := flatS_at hs
  rw [Lib.add_plain]
  have hr : j = j / 3 * 3 + j % 3 := by omega
  have h4 : j % 3 = 0 ∨ j % 3 = 1 ∨ j % 3 = 2 := by omega
  rcases h4 with h4 | h4 | h4
  · rw [h4, Nat.add_zero] at hr
    rw [hr] at hj ⊢
    rw [hj] at f0
    rw [Option.some.inj f0]
    exact c0
  · rw [h4] at hr
    rw [hr] at hj ⊢
    rw [hj] at f1
    rw [Option.some.inj f1, ← Nat.add_assoc]
    exact c1
  · rw [h4] at hr
    rw [hr] at hj ⊢
    rw [hj] at f2
    rw [Option.some.inj f2, ← Nat.add_assoc]
    exact c2
theorem flatS_one (l : List Sr) : ∀ u ∈ flatS l, u.oneCell' = true := by
  intro u hu
  simp only [flatS, List.mem_flatMap] at hu
  obtain ⟨s, -, hs⟩ := hu
  simp at hs
  rcases hs with rfl | rfl | rfl <;> rfl
set_option maxHeartbeats 1000000 in
set_option maxRecDepth 100000 in
theorem clone_srcs {w : World} {a : Option Addr} {l : List Sr} {c : Nat} (h : SrcsAt w a l) (hs : SlOk a l.length c) (hl : l.length ≤ 5864062014805) : Calls Tryz.prog 51 #[.slice a l.length c] w (ClonesTo 62 3 l.length (flatS l) w) := by
  cases a with
  | none =>
    obtain ⟨h1, rfl⟩ := hs.nil0 rfl
    have h2 : l = [] := List.length_eq_zero_iff.1 h1
    subst h2
    clear h hs h1 hl
    simp only [List.length_nil]
    have hn : (binOp .eql 59 (.slice none 0 0) (.slice none 0 0)).run Tryz.prog w = .ok (.bool true) w := by rfl
    go_enter Tryz.func51, Tryz.ntmps51
    go_wp2_with fail
    go_ret
    exact ⟨_, rfl, ⟨World.ownsRow_nil _ _ _ _, Fr.refl _ _, fun b hb => by cases hb⟩⟩
  | some ad =>
    obtain ⟨i0, hi, hz0, hz1, hz2⟩ := info_parts infoSrc
    have hn : (binOp .eql 59 (.slice (some ad) l.length c) (.slice none 0 0)).run Tryz.prog w = .ok (.bool false) w := by rfl
    obtain ⟨n, hnl⟩ : ∃ n, n = l.length := ⟨_, rfl⟩
    have HFL := Lib.hid (flatS_len l)
    rw [← hnl] at hn hl HFL ⊢
    have HA := Lib.hid h
    have HN := Lib.hid hn
    clear h hs hnl
    go_enter Tryz.func51, Tryz.ntmps51
    go_wp2_with (at_builtin; refine wpList_append_at _ rfl (.tmp 5) (.tmp 6) 59 rfl 62 i0 _ 3 24 Tryz.underlying59 hi hz0 hz1 hz2 rfl (by decide) (.slice (some ⟨w.heap.size, 0, none⟩) 0 0) 0 _ rfl (owns_empty w 62 3) ad n c (flatS l) rfl HFL.out (srcs_news (HA.out.fr ((Fr.refl [] w).alloc _))) (flatS_one l) (by unfold maxLen; omega) (by omega) ?_; intro v5 w5 ho5 hg5 hf5; obtain ⟨a5, p5, rfl⟩ := irow_shape ho5; have HGn : Hid (IGrows w 62 3 n (flatS l) (.slice a5 n p5) w5) := Lib.hid (by have h9 := clone_grows ho5 hg5 hf5; rwa [Nat.zero_add] at h9); clear ho5 hg5 hf5)
    go_ret
    exact ⟨_, rfl, HGn.out⟩
theorem infoInt : (Tryz.prog.info? 3).map (fun i => (i.zero, i.size, i.bytes)) = some (some (.int .i64 0), 1, 8) := by kernel_rfl
theorem infoSrcs : (Tryz.prog.info? 59).map (fun i => (i.zero, i.size, i.bytes)) = some (some (.slice none 0 0), 1, 24) := by kernel_rfl
theorem infoIns7 : (Tryz.prog.info? 64).map (fun i => (i.zero, i.size, i.bytes)) = some (some (.agg #[.int .i64 0, .int .i64 0, .int .i64 0, .int .i64 0, .int .u64 0, .slice none 0 0, .int .u64 0]), 7, 72) := by kernel_rfl
def flatN (l : List Int) : List Value := l.map (Value.int .i64)
def Mp.v (m : Mp) : Value := .slice m.a m.l.length m.c
def flatMp (l : List Mp) : List Value := l.map Mp.v
def flat7 (l : List Ii) : List Value := l.flatMap fun i => [.int .i64 i.op, .int .i64 i.n, .int .i64 i.d.kind, .int .i64 i.d.n, .int .u64 i.d.w, .slice i.la i.l.length i.lc, .int .u64 i.w]
theorem flatN_len (l : List Int) : (flatN l).length = l.length * 1 := by simp [flatN]
theorem flatM_len (l : List Mp) : (flatMp l).length = l.length * 1 := by simp [flatMp]
theorem flatN_one (l : List Int) : ∀ u ∈ flatN l, u.oneCell' = true := by
  intro u hu
  simp only [flatN, List.mem_map] at hu
  obtain ⟨s, -, rfl⟩ := hu
  rfl
theorem flatM_one (l : List Mp) : ∀ u ∈ flatMp l, u.oneCell' = true := by
  intro u hu
  simp only [flatMp, List.mem_map] at hu
  obtain ⟨s, -, rfl⟩ := hu
  rfl
theorem ints_news {w : World} {a : Addr} {l : List Int} (h : IntsAt w (some a) l) : ∀ j u, (flatN l)[j]? = some u → w.cell? (a.add j) = some u := by
  intro j u hj
  simp only [flatN, List.getElem?_map, Option.map_eq_some_iff] at hj
  obtain ⟨s, hs, rfl⟩ := hj
  obtain ⟨g, o, e, c0⟩ := h _ _ hs
  cases e
  rw [Lib.add_plain]
  exact c0
theorem maps_news {w : World} {a : Addr} {l : List Mp} (h : MapsAt w (some a) l) : ∀ j u, (flatMp l)[j]? = some u → w.cell? (a.add j) = some u := by
  intro j u hj
  simp only [flatMp, List.getElem?_map, Option.map_eq_some_iff] at hj
  obtain ⟨s, hs, rfl⟩ := hj
  obtain ⟨⟨g, o, e, c0⟩, -⟩ := h _ _ hs
  cases e
  rw [Lib.add_plain]
  exact c0
theorem flat7_len (l : List Ii) : (flat7 l).length = l.length * 7 := by
  induction l with
  | nil => rfl
  | cons a l ih => rw [show flat7 (a :: l) = .int .i64 a.op :: .int .i64 a.n :: .int .i64 a.d.kind :: .int .i64 a.d.n :: .int .u64 a.d.w :: .slice a.la a.l.length a.lc :: .int .u64 a.w :: flat7 l from rfl]; simp [ih]; omega
theorem flat7_one (l : List Ii) : ∀ u ∈ flat7 l, u.oneCell' = true := by
  intro u hu
  simp only [flat7, List.mem_flatMap] at hu
  obtain ⟨s, -, hs⟩ := hu
  simp at hs
  rcases hs with rfl | rfl | rfl | rfl | rfl | rfl | rfl <;> rfl
theorem flat7_at {l : List Ii} {k : Nat} {i : Ii} (h : l[k]? = some i) (d : Nat) (hd : d < 7) : (flat7 l)[k * 7 + d]? = [Value.int .i64 i.op, .int .i64 i.n, .int .i64 i.d.kind, .int .i64 i.d.n, .int .u64 i.d.w, .slice i.la i.l.length i.lc, .int .u64 i.w][d]? := by
  induction l generalizing k with
  | nil => cases h
  | cons a l ih =>
    have e : flat7 (a :: l) = [Value.int .i64 a.op, .int .i64 a.n, .int .i64 a.d.kind, .int .i64 a.d.n, .int .u64 a.d.w, .slice a.la a.l.length a.lc, .int .u64 a.w] ++ flat7 l := rfl
    rw [e]
    cases k with
    | zero =>
      cases h
      rw [Nat.zero_mul, Nat.zero_add, List.getElem?_append_left (by simp; omega)]
    | succ k =>
      have := ih (by simpa using h)
      rw [List.getElem?_append_right (by simp; omega)]
      rw [← this]
      congr 1
      simp
      omega
theorem inss_news {w : World} {a : Addr} {l : List Ii} (h : InsAt w (some a) l) : ∀ j u, (flat7 l)[j]? = some u → w.cell? (a.add j) = some u := by
  intro j u hj
  have hjl := (List.getElem?_eq_some_iff.1 hj).1
  rw [flat7_len] at hjl
  have hk : j / 7 < l.length := by omega
  have hs : l[j / 7]? = some l[j / 7] := List.getElem?_eq_getElem hk
  obtain ⟨⟨g, o, e, c0, c1, c2, c3, c4, c5, c6⟩, -⟩ := h _ _ hs
  cases e
  have hf := flat7_at hs (j % 7) (by omega)
  have hr : j / 7 * 7 + j % 7 = j := by omega
  rw [hr, hj] at hf
  rw [Lib.add_plain, ← hr]
  have h4 : j % 7 = 0 ∨ j % 7 = 1 ∨ j % 7 = 2 ∨ j % 7 = 3 ∨ j % 7 = 4 ∨ j % 7 = 5 ∨ j % 7 = 6 := by omega
  rcases h4 with h4 | h4 | h4 | h4 | h4 | h4 | h4
  all_goals
    rw [h4] at hf ⊢
    simp at hf
    subst hf
    first | exact c0 | (rw [← Nat.add_assoc]; first | exact c1 | exact c2 | exact c3 | exact c4 | exact c5 | exact c6)
set_option maxHeartbeats 1000000 in
set_option maxRecDepth 100000 in
theorem clone_ints {w : World} {a : Option Addr} {l : List Int} {c : Nat} (h : IntsAt w a l) (hs : SlOk a l.length c) (hl : l.length ≤ 17592186043904) : Calls Tryz.prog 49 #[.slice a l.length c] w (ClonesTo 3 1 l.length (flatN l) w) := by
  cases a with
  | none =>
    obtain ⟨h1, rfl⟩ := hs.nil0 rfl
    have h2 : l = [] := List.length_eq_zero_iff.1 h1
    subst h2
    clear h hs h1 hl
    simp only [List.length_nil]
    have hn : (binOp .eql 31 (.slice none 0 0) (.slice none 0 0)).run Tryz.prog w = .ok (.bool true) w := by rfl
    go_enter Tryz.func49, Tryz.ntmps49
    go_wp2_with fail
    go_ret
    exact ⟨_, rfl, ⟨World.ownsRow_nil _ _ _ _, Fr.refl _ _, fun b hb => by cases hb⟩⟩
  | some ad =>
    obtain ⟨i0, hi, hz0, hz1, hz2⟩ := info_parts infoInt
    have hn : (binOp .eql 31 (.slice (some ad) l.length c) (.slice none 0 0)).run Tryz.prog w = .ok (.bool false) w := by rfl
    obtain ⟨n, hnl⟩ : ∃ n, n = l.length := ⟨_, rfl⟩
    have HFL := Lib.hid (flatN_len l)
    rw [← hnl] at hn hl HFL ⊢
    have HA := Lib.hid h
    have HN := Lib.hid hn
    clear h hs hnl
    go_enter Tryz.func49, Tryz.ntmps49
    go_wp2_with (at_builtin; refine wpList_append_at _ rfl (.tmp 5) (.tmp 6) 31 rfl 3 i0 _ 1 8 Tryz.underlying31 hi hz0 hz1 hz2 rfl (by decide) (.slice (some ⟨w.heap.size, 0, none⟩) 0 0) 0 _ rfl (owns_empty w 3 1) ad n c (flatN l) rfl HFL.out (ints_news (HA.out.fr ((Fr.refl [] w).alloc _))) (flatN_one l) (by unfold maxLen; omega) (by omega) ?_; intro v5 w5 ho5 hg5 hf5; obtain ⟨a5, p5, rfl⟩ := irow_shape ho5; have HGn : Hid (IGrows w 3 1 n (flatN l) (.slice a5 n p5) w5) := Lib.hid (by have h9 := clone_grows ho5 hg5 hf5; rwa [Nat.zero_add] at h9); clear ho5 hg5 hf5)
    go_ret
    exact ⟨_, rfl, HGn.out⟩
set_option maxHeartbeats 1000000 in
set_option maxRecDepth 100000 in
theorem clone_maps {w : World} {a : Option Addr} {l : List Mp} {c : Nat} (h : MapsAt w a l) (hs : SlOk a l.length c) (hl : l.length ≤ 5864062014805) : Calls Tryz.prog 50 #[.slice a l.length c] w (ClonesTo 59 1 l.length (flatMp l) w) := by
  cases a with
  | none =>
    obtain ⟨h1, rfl⟩ := hs.nil0 rfl
    have h2 : l = [] := List.length_eq_zero_iff.1 h1
    subst h2
    clear h hs h1 hl
    simp only [List.length_nil]
    have hn : (binOp .eql 32 (.slice none 0 0) (.slice none 0 0)).run Tryz.prog w = .ok (.bool true) w := by rfl
    go_enter Tryz.func50, Tryz.ntmps50
    go_wp2_with fail
    go_ret
    exact ⟨_, rfl, ⟨World.ownsRow_nil _ _ _ _, Fr.refl _ _, fun b hb => by cases hb⟩⟩
  | some ad =>
    obtain ⟨i0, hi, hz0, hz1, hz2⟩ := info_parts infoSrcs
    have hn : (binOp .eql 32 (.slice (some ad) l.length c) (.slice none 0 0)).run Tryz.prog w = .ok (.bool false) w := by rfl
    obtain ⟨n, hnl⟩ : ∃ n, n = l.length := ⟨_, rfl⟩
    have HFL := Lib.hid (flatM_len l)
    rw [← hnl] at hn hl HFL ⊢
    have HA := Lib.hid h
    have HN := Lib.hid hn
    clear h hs hnl
    go_enter Tryz.func50, Tryz.ntmps50
    go_wp2_with (at_builtin; refine wpList_append_at _ rfl (.tmp 5) (.tmp 6) 32 rfl 59 i0 _ 1 24 Tryz.underlying32 hi hz0 hz1 hz2 rfl (by decide) (.slice (some ⟨w.heap.size, 0, none⟩) 0 0) 0 _ rfl (owns_empty w 59 1) ad n c (flatMp l) rfl HFL.out (maps_news (HA.out.fr ((Fr.refl [] w).alloc _))) (flatM_one l) (by unfold maxLen; omega) (by omega) ?_; intro v5 w5 ho5 hg5 hf5; obtain ⟨a5, p5, rfl⟩ := irow_shape ho5; have HGn : Hid (IGrows w 59 1 n (flatMp l) (.slice a5 n p5) w5) := Lib.hid (by have h9 := clone_grows ho5 hg5 hf5; rwa [Nat.zero_add] at h9); clear ho5 hg5 hf5)
    go_ret
    exact ⟨_, rfl, HGn.out⟩
set_option maxHeartbeats 1000000 in
set_option maxRecDepth 100000 in
theorem clone_inss {w : World} {a : Option Addr} {l : List Ii} {c : Nat} (h : InsAt w a l) (hs : SlOk a l.length c) (hl : l.length ≤ 1954687338211) : Calls Tryz.prog 72 #[.slice a l.length c] w (ClonesTo 64 7 l.length (flat7 l) w) := by
  cases a with
  | none =>
    obtain ⟨h1, rfl⟩ := hs.nil0 rfl
    have h2 : l = [] := List.length_eq_zero_iff.1 h1
    subst h2
    clear h hs h1 hl
    simp only [List.length_nil]
    have hn : (binOp .eql 30 (.slice none 0 0) (.slice none 0 0)).run Tryz.prog w = .ok (.bool true) w := by rfl
    go_enter Tryz.func72, Tryz.ntmps72
    go_wp2_with fail
    go_ret
    exact ⟨_, rfl, ⟨World.ownsRow_nil _ _ _ _, Fr.refl _ _, fun b hb => by cases hb⟩⟩
  | some ad =>
    obtain ⟨i0, hi, hz0, hz1, hz2⟩ := info_parts infoIns7
    have hn : (binOp .eql 30 (.slice (some ad) l.length c) (.slice none 0 0)).run Tryz.prog w = .ok (.bool false) w := by rfl
    obtain ⟨n, hnl⟩ : ∃ n, n = l.length := ⟨_, rfl⟩
    have HFL := Lib.hid (flat7_len l)
    rw [← hnl] at hn hl HFL ⊢
    have HA := Lib.hid h
    have HN := Lib.hid hn
    clear h hs hnl
    go_enter Tryz.func72, Tryz.ntmps72
    go_wp2_with (at_builtin; refine wpList_append_at _ rfl (.tmp 5) (.tmp 6) 30 rfl 64 i0 _ 7 72 Tryz.underlying30 hi hz0 hz1 hz2 rfl (by decide) (.slice (some ⟨w.heap.size, 0, none⟩) 0 0) 0 _ rfl (owns_empty w 64 7) ad n c (flat7 l) rfl HFL.out (inss_news (HA.out.fr ((Fr.refl [] w).alloc _))) (flat7_one l) (by unfold maxLen; omega) (by omega) ?_; intro v5 w5 ho5 hg5 hf5; obtain ⟨a5, p5, rfl⟩ := irow_shape ho5; have HGn : Hid (IGrows w 64 7 n (flat7 l) (.slice a5 n p5) w5) := Lib.hid (by have h9 := clone_grows ho5 hg5 hf5; rwa [Nat.zero_add] at h9); clear ho5 hg5 hf5)
    go_ret
    exact ⟨_, rfl, HGn.out⟩
end Go.Proofs.YtbmfmklalonhiaaGreatDoor
namespace Go.Proofs.YtbmfmklalonhiaaGreatDoor
open Go.RowKit

/-- The same instructions, in other places. -/
structure SameI (i j : Ii) : Prop where
  op : j.op = i.op
  n : j.n = i.n
  d : j.d = i.d
  l : j.l = i.l
  w : j.w = i.w
theorem SameI.refl (i : Ii) : SameI i i := ⟨rfl, rfl, rfl, rfl, rfl⟩
/-- a block that begins with these cells -/
def RowB (w : World) (g : Nat) (T : TypeId) (vals : List Value) : Prop := ∃ cur : Array Value, w.heap[g]? = some (.cells cur T (0, 0)) ∧ ∃ rest, cur.toList = vals ++ rest
theorem RowB.fr {w w' : World} {g : Nat} {T : TypeId} {vals : List Value} (h : RowB w g T vals) (hF : Fr [] w w') : RowB w' g T vals :=
  let ⟨cur, hc, hr⟩ := h
  ⟨cur, hF.heap (by simp) hc, hr⟩
theorem RowB.cell {w : World} {g : Nat} {T : TypeId} {vals : List Value} (h : RowB w g T vals) {k : Nat} {v : Value} (hk : vals[k]? = some v) : w.cell? ⟨g, k, none⟩ = some v := by
  obtain ⟨cur, hc, rest, hr⟩ := h
  refine cell_of_heap hc ?_
  rw [← Array.getElem?_toList, hr, List.getElem?_append_left (List.getElem?_eq_some_iff.1 hk).1]
  exact hk
theorem RowB.frozen {w : World} {g : Nat} {T : TypeId} {vals : List Value} (h : RowB w g T vals) (k : Nat) : w.frozen? ⟨g, k, none⟩ = false := by
  obtain ⟨cur, hc, -⟩ := h
  exact frozen_of_heap hc
theorem RowB.lt {w : World} {g : Nat} {T : TypeId} {vals : List Value} (h : RowB w g T vals) : g < w.heap.size := by
  obtain ⟨cur, hc, -⟩ := h
  exact lt_of_heap hc
theorem RowB.set {w : World} {g : Nat} {T : TypeId} {vals : List Value} (h : RowB w g T vals) {k : Nat} (hk : k < vals.length) (v : Value) : RowB (w.setCell ⟨g, k, none⟩ v) g T (vals.set k v) := by
  obtain ⟨cur, hc, rest, hr⟩ := h
  refine ⟨_, heap_setCell_same hc v, rest, ?_⟩
  rw [Array.toList_setIfInBounds, hr, List.set_append_left _ _ hk]
theorem RowB.other {w : World} {g g2 : Nat} {T : TypeId} {vals : List Value} (h : RowB w g T vals) (hne : g ≠ g2) (k : Nat) (v : Value) : RowB (w.setCell ⟨g2, k, none⟩ v) g T vals := by
  obtain ⟨cur, hc, hr⟩ := h
  exact ⟨cur, by rw [Below.heap_setCell _ _ _ _ hne]; exact hc, hr⟩
theorem RowB.ne {w : World} {g g2 : Nat} {T T2 : TypeId} {vals vals2 : List Value} (h : RowB w g T vals) (h2 : RowB w g2 T2 vals2) (hT : T ≠ T2) : g ≠ g2 := by
  rintro rfl
  obtain ⟨cur, hc, -⟩ := h
  obtain ⟨cur2, hc2, -⟩ := h2
  rw [hc] at hc2
  cases hc2
  exact hT rfl
/-- a row of one's own, out of a row that grew -/
theorem rowB_of {w w' : World} {e : TypeId} {size n : Nat} {xs : List Value} {a : Option Addr} {c : Nat} (h : IGrows w e size n xs (.slice a n c) w') (h0 : 0 < n) : ∃ g, a = some ⟨g, 0, none⟩ ∧ w.heap.size ≤ g ∧ RowB w' g e xs := by
  have hl := h.row.1
  rcases h.row.2 with ⟨hv, hn⟩ | ⟨g, cap, cur, hv, -, hg, -, -, -, ht⟩
  · omega
  · cases hv
    refine ⟨g, rfl, h.new g rfl, cur, hg, cur.toList.drop (n * size), ?_⟩
    rw [← ht, List.take_append_drop]
/-- sources of one's own -/
def OwnS (lo : Nat) (w : World) (a : Option Addr) (l : List Sr) (c : Nat) : Prop := SlOk a l.length c ∧ (l = [] ∨ ∃ g, a = some ⟨g, 0, none⟩ ∧ lo ≤ g ∧ RowB w g 62 (flatS l))
theorem OwnS.fr {lo : Nat} {w w' : World} {a : Option Addr} {l : List Sr} {c : Nat} (h : OwnS lo w a l c) (hF : Fr [] w w') : OwnS lo w' a l c :=
  ⟨h.1, h.2.imp id fun ⟨g, e, hl, hr⟩ => ⟨g, e, hl, hr.fr hF⟩⟩
theorem OwnS.at {lo : Nat} {w : World} {a : Option Addr} {l : List Sr} {c : Nat} (h : OwnS lo w a l c) : SrcsAt w a l := by
  intro k s hk
  rcases h.2 with rfl | ⟨g, rfl, -, hr⟩
  · simp at hk
  · obtain ⟨f0, f1, f2⟩ := flatS_at hk
    refine ⟨g, 0, rfl, ?_, ?_, ?_⟩
    · rw [Nat.zero_add]; exact hr.cell f0
    · rw [Nat.zero_add]; exact hr.cell f1
    · rw [Nat.zero_add]; exact hr.cell f2
theorem OwnS.other {lo : Nat} {w : World} {a : Option Addr} {l : List Sr} {c : Nat} (h : OwnS lo w a l c) {g2 : Nat} {T2 : TypeId} {vals2 : List Value} (h2 : RowB w g2 T2 vals2) (hT : (62 : TypeId) ≠ T2) (k : Nat) (v : Value) : OwnS lo (w.setCell ⟨g2, k, none⟩ v) a l c :=
  ⟨h.1, h.2.imp id fun ⟨g, e, hl, hr⟩ => ⟨g, e, hl, hr.other (hr.ne h2 hT) k v⟩⟩
/-- a row that grew is a slice as slices are -/
theorem slok_of {w w' : World} {e : TypeId} {size n : Nat} {xs : List Value} {a : Option Addr} {c : Nat} (h : IGrows w e size n xs (.slice a n c) w') : SlOk a n c := by
  rcases h.row.2 with ⟨hv, hn⟩ | ⟨g, cap, cur, hv, -, -, hle, hmx, -⟩
  · cases hv
    exact ⟨fun _ => ⟨hn, rfl⟩, by omega, Nat.zero_le _⟩
  · cases hv
    exact ⟨fun h => (by cases h), hle, hmx⟩
theorem ownS_of {w w' : World} {l : List Sr} {a : Option Addr} {c : Nat} (h : IGrows w 62 3 l.length (flatS l) (.slice a l.length c) w') {lo : Nat} (hlo : lo ≤ w.heap.size) : OwnS lo w' a l c := by
  refine ⟨slok_of h, ?_⟩
  by_cases h0 : l = []
  · exact .inl h0
  · obtain ⟨g, e, hg, hr⟩ := rowB_of h (List.length_pos_iff.2 h0)
    exact .inr ⟨g, e, by omega, hr⟩
/-- a block of so many cells -/
def CapB (w : World) (g N : Nat) : Prop := ∃ (cur : Array Value) (T : TypeId) (f : Nat × Nat), w.heap[g]? = some (.cells cur T f) ∧ cur.size = N
theorem CapB.fr {w w' : World} {g N : Nat} (h : CapB w g N) (hF : Fr [] w w') : CapB w' g N :=
  let ⟨cur, T, f, hc, hs⟩ := h
  ⟨cur, T, f, hF.heap (by simp) hc, hs⟩
theorem CapB.frx {w w' : World} {g g2 N : Nat} (h : CapB w g N) (hne : g ≠ g2) (hF : Fr [g2] w w') : CapB w' g N :=
  let ⟨cur, T, f, hc, hs⟩ := h
  ⟨cur, T, f, hF.heap (by simp [hne]) hc, hs⟩
theorem CapB.set {w : World} {g N : Nat} (h : CapB w g N) (b o : Nat) (v : Value) : CapB (w.setCell ⟨b, o, none⟩ v) g N := by
  obtain ⟨cur, T, f, hc, hs⟩ := h
  by_cases hb : g = b
  · subst hb
    exact ⟨cur.setIfInBounds o v, T, f, heap_setCell_same hc v, by simp [hs]⟩
  · exact ⟨cur, T, f, by rw [Below.heap_setCell _ _ _ _ hb]; exact hc, hs⟩
theorem capB_of {w w' : World} {e : TypeId} {size n : Nat} {xs : List Value} {g c : Nat} (h : IGrows w e size n xs (.slice (some ⟨g, 0, none⟩) n c) w') : CapB w' g (c * size) := by
  rcases h.row.2 with ⟨hv, hn⟩ | ⟨g', cap, cur, hv, -, hg, -, -, hsz, -⟩
  · cases hv
  · cases hv
    exact ⟨cur, e, (0, 0), hg, hsz⟩
theorem rowB_any {w w' : World} {e : TypeId} {size n : Nat} {xs : List Value} {a : Option Addr} {c : Nat} (h : IGrows w e size n xs (.slice a n c) w') : (a = none ∧ c = 0 ∧ n = 0) ∨ ∃ g, a = some ⟨g, 0, none⟩ ∧ w.heap.size ≤ g ∧ RowB w' g e xs ∧ CapB w' g (c * size) := by
  rcases h.row.2 with ⟨hv, hn⟩ | ⟨g, cap, cur, hv, -, hg, -, -, hsz, ht⟩
  · cases hv
    exact .inl ⟨rfl, rfl, hn⟩
  · cases hv
    refine .inr ⟨g, rfl, h.new g rfl, ⟨cur, hg, cur.toList.drop (n * size), ?_⟩, cur, e, (0, 0), hg, hsz⟩
    rw [← ht, List.take_append_drop]
/-- instructions of one's own, with their operands -/
def OwnI (lo : Nat) (w : World) (a : Option Addr) (l : List Ii) (c : Nat) : Prop := SlOk a l.length c ∧ ((a = none ∧ c = 0 ∧ l = []) ∨ ∃ g, a = some ⟨g, 0, none⟩ ∧ lo ≤ g ∧ RowB w g 64 (flat7 l) ∧ CapB w g (c * 7)) ∧ ∀ i ∈ l, OwnS lo w i.la i.l i.lc
theorem OwnI.fr {lo : Nat} {w w' : World} {a : Option Addr} {l : List Ii} {c : Nat} (h : OwnI lo w a l c) (hF : Fr [] w w') : OwnI lo w' a l c :=
  ⟨h.1, h.2.1.imp id fun ⟨g, e, hl, hr, hc⟩ => ⟨g, e, hl, hr.fr hF, hc.fr hF⟩, fun i hi => (h.2.2 i hi).fr hF⟩
theorem OwnI.at {lo : Nat} {w : World} {a : Option Addr} {l : List Ii} {c : Nat} (h : OwnI lo w a l c) : InsAt w a l := by
  intro k i hk
  refine ⟨?_, (h.2.2 i (List.mem_of_getElem? hk)).at⟩
  rcases h.2.1 with ⟨-, -, rfl⟩ | ⟨g, rfl, -, hr, -⟩
  · simp at hk
  · have hf := fun d hd => flat7_at hk d hd
    refine ⟨g, 0, rfl, ?_, ?_, ?_, ?_, ?_, ?_, ?_⟩
    · rw [Nat.zero_add]; exact hr.cell (hf 0 (by omega))
    · rw [Nat.zero_add]; exact hr.cell (hf 1 (by omega))
    · rw [Nat.zero_add]; exact hr.cell (hf 2 (by omega))
    · rw [Nat.zero_add]; exact hr.cell (hf 3 (by omega))
    · rw [Nat.zero_add]; exact hr.cell (hf 4 (by omega))
    · rw [Nat.zero_add]; exact hr.cell (hf 5 (by omega))
    · rw [Nat.zero_add]; exact hr.cell (hf 6 (by omega))
theorem flat7_set : ∀ (l : List Ii) (k : Nat) (i : Ii) (la : Option Addr) (lc : Nat), l[k]? = some i → flat7 (l.set k ⟨i.op, i.n, i.d, la, i.l, lc, i.w⟩) = (flat7 l).set (k * 7 + 5) (.slice la i.l.length lc)
  | [], k, i, la, lc, h => by simp at h
  | a :: l, 0, i, la, lc, h => by
    simp at h
    subst h
    rfl
  | a :: l, k + 1, i, la, lc, h => by
    have e : flat7 (a :: l) = [Value.int .i64 a.op, .int .i64 a.n, .int .i64 a.d.kind, .int .i64 a.d.n, .int .u64 a.d.w, .slice a.la a.l.length a.lc, .int .u64 a.w] ++ flat7 l := rfl
    rw [List.set_cons_succ, e, List.set_append_right _ _ (by simp; omega)]
    rw [show (k + 1) * 7 + 5 - [Value.int .i64 a.op, .int .i64 a.n, .int .i64 a.d.kind, .int .i64 a.d.n, .int .u64 a.d.w, .slice a.la a.l.length a.lc, .int .u64 a.w].length = k * 7 + 5 by simp; omega]
    rw [← flat7_set l k i la lc (by simpa using h)]
    rfl
/-- how far the operands were copied -/
def Half (lo : Nat) (w : World) (l ls : List Ii) (k : Nat) : Prop := ls.length = l.length ∧ ∀ j i, l[j]? = some i → ∃ i', ls[j]? = some i' ∧ SameI i i' ∧ (j < k → OwnS lo w i'.la i'.l i'.lc) ∧ (k ≤ j → i' = i)
theorem Half.start (lo : Nat) (w : World) (l : List Ii) : Half lo w l l 0 := ⟨rfl, fun j i h => ⟨i, h, SameI.refl i, fun hj => absurd hj (by omega), fun _ => rfl⟩⟩
theorem Half.step {lo : Nat} {w w' : World} {l ls : List Ii} {k : Nat} {i : Ii} {la : Option Addr} {lc : Nat} (h : Half lo w l ls k) (hi : l[k]? = some i) (hO : OwnS lo w' la i.l lc) (hk : ∀ a m c, OwnS lo w a m c → OwnS lo w' a m c) : Half lo w' l (ls.set k ⟨i.op, i.n, i.d, la, i.l, lc, i.w⟩) (k + 1) := by
  refine ⟨by rw [List.length_set]; exact h.1, fun j q hj => ?_⟩
  have hkl := (List.getElem?_eq_some_iff.1 hi).1
  by_cases hjk : j = k
  · subst hjk
    rw [hi] at hj
    cases hj
    exact ⟨_, List.getElem?_set_self (by rw [h.1]; exact hkl), ⟨rfl, rfl, rfl, rfl, rfl⟩, fun _ => hO, fun h => absurd h (by omega)⟩
  · obtain ⟨i', h1, h2, h3, h4⟩ := h.2 j q hj
    exact ⟨i', by rw [List.getElem?_set_ne (fun e => hjk e.symm)]; exact h1, h2, fun hl => hk _ _ _ (h3 (by omega)), fun hl => h4 (by omega)⟩
/-- Returned: the same instructions, in new memory. -/
def CopiesI (l : List Ii) (w : World) (e : Ending) (w' : World) : Prop := ∃ a c ls, e = .returned (.slice a l.length c) ∧ Half w.heap.size w' l ls l.length ∧ OwnI w.heap.size w' a ls c ∧ Fr [] w w'
theorem Half.all {lo : Nat} {w : World} {l ls : List Ii} (h : Half lo w l ls l.length) : ∀ i ∈ ls, OwnS lo w i.la i.l i.lc := by
  intro i hi
  obtain ⟨j, hj⟩ := List.getElem?_of_mem hi
  have hjl := (List.getElem?_eq_some_iff.1 hj).1
  rw [h.1] at hjl
  obtain ⟨i', h1, -, h3, -⟩ := h.2 j _ (List.getElem?_eq_getElem hjl)
  rw [hj] at h1
  cases h1
  exact h3 hjl
set_option maxRecDepth 100000 in
set_option maxHeartbeats 4000000 in
theorem ir_copied (l : List Ii) (a : Option Addr) (c : Nat) (w : World) (hA : InsAt w a l) (hs : SlOk a l.length c) (hl : l.length ≤ 1954687338211) (hI : ∀ i ∈ l, IB i) : Calls Tryz.prog 48 #[.slice a l.length c] w (CopiesI l w) := by
  have hc := clone_inss hA hs hl
  have HA := Lib.hid hA
  have HI := Lib.hid hI
  by_cases h0 : l = []
  · subst h0
    clear hA hs hl hI
    simp only [List.length_nil] at hc ⊢
    go_enter Tryz.func48, Tryz.ntmps48
    go_wp2_with (go_at_call 72; refine hc.mono ?_; rintro e w1 ⟨v, rfl, hG⟩; obtain ⟨a1, c1, rfl⟩ := irow_shape hG.row; have HF := Lib.hid hG.fr; have HSK := Lib.hid (slok_of hG); have HRA := Lib.hid (rowB_any hG); clear hG)
    go_loopw [8] (fun i wr => i = .int .i64 0 ∧ wr = w1) (fun i _ => 0)
    case atStart => exact ⟨rfl, rfl⟩
    case round =>
      obtain ⟨rfl, rfl⟩ := hrel
      go_wp2_with fail
      go_ret
      exact ⟨a1, c1, [], rfl, ⟨rfl, fun j i h => by simp at h⟩, ⟨HSK.out, HRA.out.imp (fun h => ⟨h.1, h.2.1, rfl⟩) id, fun i hi => by simp at hi⟩, HF.out⟩
  · have hn0 := List.length_pos_iff.2 h0
    obtain ⟨n, hn⟩ : ∃ n, n = l.length := ⟨_, rfl⟩
    rw [← hn] at hc hl hn0 ⊢
    have HN := Lib.hid hn
    clear hA hs hI hn h0
    go_enter Tryz.func48, Tryz.ntmps48
    go_wp2_with (go_at_call 72; refine hc.mono ?_; rintro e w1 ⟨v, rfl, hG⟩; obtain ⟨a1, c1, rfl⟩ := irow_shape hG.row; have hF1 := hG.fr; have HSK := Lib.hid (slok_of hG); obtain ⟨g, rfl, hlo, hR⟩ := rowB_of hG hn0; have HCP := Lib.hid (capB_of hG); have HF1 := Lib.hid hF1; have HLO := Lib.hid hlo; have HR1 := Lib.hid hR; clear hG hF1 hlo hR)
    go_loopw [8] (fun i wr => ∃ k : Nat, k ≤ n ∧ i = .int .i64 k ∧ Hid (Fr [] w wr) ∧ Hid (CapB wr g (c1 * 7)) ∧ ∃ ls, Hid (RowB wr g 64 (flat7 ls)) ∧ Hid (Half w.heap.size wr l ls k)) (fun i _ => n - (intOf i).toNat)
    case atStart => exact ⟨0, Nat.zero_le _, rfl, HF1, HCP, l, HR1, Half.start _ _ _⟩
    case round =>
      clear HCP
      obtain ⟨k, hk, rfl, HF, HCP, ls, HR, HH⟩ := hrel
      by_cases hlt : k < n
      · obtain ⟨i, hi⟩ : ∃ i, l[k]? = some i := ⟨_, List.getElem?_eq_getElem (by rw [← HN.out]; exact hlt)⟩
        obtain ⟨i', hi', -, -, he⟩ := HH.out.2 k i hi
        obtain rfl : i' = i := he (Nat.le_refl _)
        have hib := HI.out i' (List.mem_of_getElem? hi)
        have hsr := ((HA.out.fr HF.out) k i' hi).2
        have HCL : Hid (Calls Tryz.prog 51 #[.slice i'.la i'.l.length i'.lc] wr (ClonesTo 62 3 i'.l.length (flatS i'.l) wr)) := Lib.hid (clone_srcs hsr hib.sl hib.n)
        have c5 := HR.out.cell (flat7_at hi' 5 (by omega))
        have hg : g < wr.heap.size := HR.out.lt
        have k0 : (0 : Int) ≤ (k : Int) := by omega
        have k1 : (k : Int) < (n : Int) := by omega
        have HI2 := Lib.hid hi
        have HI3 := Lib.hid hi'
        clear hi hi' hsr hib he
        obtain ⟨op, nn, d, la, lw, lc, x⟩ := i'
        simp only at c5 HCL
        obtain ⟨lwn, hlw⟩ : ∃ z, z = lw.length := ⟨_, rfl⟩
        have HLW := Lib.hid hlw
        rw [← hlw] at HCL
        rw [← hlw] at c5
        clear hlw
        go_wp2_with (go_at_call 51; refine HCL.out.mono ?_; rintro e w2 ⟨v, rfl, hG⟩; obtain ⟨a2, c2, rfl⟩ := irow_shape hG.row; have HG2 := Lib.hid hG; have d5 := hG.fr.cell (by simp) c5; have z5 := (HR.out.fr hG.fr).frozen (k * 7 + 5); have hg2 := (HR.out.fr hG.fr).lt; clear hG)
        go_roundw
        case rel =>
          have hR2 := HR.out.fr HG2.out.fr
          have hO : OwnS w.heap.size w2 a2 lw c2 := ownS_of (c := c2) (by rw [← HLW.out]; exact HG2.out) HF.out.size
          have hkl : k * 7 + 5 < (flat7 ls).length := by rw [flat7_len, HH.out.1, ← HN.out]; omega
          refine ⟨k + 1, by omega, by go_num, (HF.out.trans HG2.out.fr).setCell (fun h => absurd h (by have := HLO.out; show ¬ g < w.heap.size; omega)) _, (HCP.out.fr HG2.out.fr).set _ _ _, ls.set k ⟨op, nn, d, a2, lw, c2, x⟩, ?_, ?_⟩
          · have h9 := flat7_set ls k _ a2 c2 HI3.out
            rw [h9, HLW.out]
            exact hR2.set hkl _
          · exact (HH.out).step HI2.out (hO.other hR2 (by decide) _ _) (fun b m c hb => (hb.fr HG2.out.fr).other hR2 (by decide) _ _)
        case measure => simp [intOf]; omega
      · have hkn : k = n := by omega
        have HH2 : Hid (Half w.heap.size wr l ls l.length) := Lib.hid (by rw [← HN.out, ← hkn]; exact HH.out)
        have hkd : ¬ (k : Int) < (n : Int) := by omega
        clear hkn hlt
        go_wp2_with fail
        go_ret
        exact ⟨some ⟨g, 0, none⟩, c1, ls, by rw [← HN.out]; rfl, HH2.out, ⟨by rw [HH2.out.1, ← HN.out]; exact HSK.out, .inr ⟨g, rfl, HLO.out, HR.out, HCP.out⟩, HH2.out.all⟩, HF.out⟩
end Go.Proofs.YtbmfmklalonhiaaGreatDoor
namespace Go.Proofs.YtbmfmklalonhiaaGreatDoor
open Go.RowKit

/-- how many there are of what is named by a number -/
def rgV (R P S M : Int) : Value := .agg #[.int .i64 R, .int .i64 P, .int .i64 S, .int .i64 M]
set_option maxHeartbeats 1000000 in
theorem ir_isSource (R P S M : Int) (s : Sr) (w : World) : Calls Tryz.prog 87 #[rgV R P S M, s.v] w (Still (.bool (srcOk R P s)) w) := by
  have hc := fun W => ir_Place s W
  obtain ⟨k, n, x⟩ := s
  unfold rgV Sr.v
  simp only [Sr.v] at hc ⊢
  obtain ⟨b, hb⟩ : ∃ b, b = plc ⟨k, n, x⟩ := ⟨_, rfl⟩
  obtain ⟨c, hd⟩ : ∃ c, c = srcOk R P ⟨k, n, x⟩ := ⟨_, rfl⟩
  simp only [← hb] at hc
  simp only [← hd]
  have HB : Hid (b = true ↔ (k = 0 ∨ k = 3) ∧ 0 ≤ n ∧ x = 0) := Lib.hid (by rw [hb]; simp [plc])
  have HC : Hid (c = true ↔ ((k = 0 ∧ 0 ≤ n ∧ n < R ∧ x = 0) ∨ (k = 1 ∧ n = 0 ∧ x ≠ 0) ∨ (k = 2 ∧ n = 0 ∧ x = 0) ∨ (k = 3 ∧ 0 ≤ n ∧ n < P ∧ x = 0))) := Lib.hid (by rw [hd]; simp [srcOk])
  clear hb hd
  have hk : k = 0 ∨ k = 3 ∨ k = 1 ∨ k = 2 ∨ (k ≠ 0 ∧ k ≠ 3 ∧ k ≠ 1 ∧ k ≠ 2) := by omega
  rcases hk with rfl | rfl | rfl | rfl | ⟨h0, h1, h2, h3⟩
  · cases b
    all_goals
      go_enter Tryz.func87, Tryz.ntmps87
      go_wp2_with (go_at_call 46; refine (hc _).mono ?_; rintro e w1 ⟨rfl, hF⟩; have hb1 := hF.heap (by simp) (hp1 _ _ _); have hb2 := hF.heap (by simp) (hp2 _ _ _); have k0 := cell_of_heap (o := 0) hb1 rfl; have k1 := cell_of_heap (o := 1) hb1 rfl; have k2 := cell_of_heap (o := 2) hb1 rfl; have k3 := cell_of_heap (o := 3) hb1 rfl; have r0 := cell_of_heap (o := 0) hb2 rfl; have r1 := cell_of_heap (o := 1) hb2 rfl; have r2 := cell_of_heap (o := 2) hb2 rfl; have HF := Lib.hid hF; clear hF hb1 hb2)
      all_goals (go_ret; exact ⟨ret1 (vb (by have h1 := HC.out; have h2 := HB.out; rw [Bool.eq_iff_iff, h1]; simp at *; omega)), by (repeat (first | (with_reducible refine Fr.setCell ?_ (fun h => absurd h (Nat.lt_irrefl _)) _) | (with_reducible refine Fr.setCell ?_ (fun h => absurd h (by first | omega | (simp; done) | (simp; omega) | (dsimp only; omega))) _) | (with_reducible refine Fr.alloc ?_ _) | (with_reducible refine Fr.drew ?_) | (with_reducible refine Fr.drewN ?_ _) | (with_reducible exact (((Fr.refl [] w).alloc _).alloc _).trans HF.out)))⟩)
  · cases b
    all_goals
      go_enter Tryz.func87, Tryz.ntmps87
      go_wp2_with (go_at_call 46; refine (hc _).mono ?_; rintro e w1 ⟨rfl, hF⟩; have hb1 := hF.heap (by simp) (hp1 _ _ _); have hb2 := hF.heap (by simp) (hp2 _ _ _); have k0 := cell_of_heap (o := 0) hb1 rfl; have k1 := cell_of_heap (o := 1) hb1 rfl; have k2 := cell_of_heap (o := 2) hb1 rfl; have k3 := cell_of_heap (o := 3) hb1 rfl; have r0 := cell_of_heap (o := 0) hb2 rfl; have r1 := cell_of_heap (o := 1) hb2 rfl; have r2 := cell_of_heap (o := 2) hb2 rfl; have HF := Lib.hid hF; clear hF hb1 hb2)
      all_goals (go_ret; exact ⟨ret1 (vb (by have h1 := HC.out; have h2 := HB.out; rw [Bool.eq_iff_iff, h1]; simp at *; omega)), by (repeat (first | (with_reducible refine Fr.setCell ?_ (fun h => absurd h (Nat.lt_irrefl _)) _) | (with_reducible refine Fr.setCell ?_ (fun h => absurd h (by first | omega | (simp; done) | (simp; omega) | (dsimp only; omega))) _) | (with_reducible refine Fr.alloc ?_ _) | (with_reducible refine Fr.drew ?_) | (with_reducible refine Fr.drewN ?_ _) | (with_reducible exact (((Fr.refl [] w).alloc _).alloc _).trans HF.out)))⟩)
  · go_enter Tryz.func87, Tryz.ntmps87
    go_wp2
    all_goals (go_ret; exact ⟨ret1 (vb (by have h1 := HC.out; rw [Bool.eq_iff_iff, h1]; simp; try omega)), by (repeat (first | (with_reducible refine Fr.setCell ?_ (fun h => absurd h (Nat.lt_irrefl _)) _) | (with_reducible refine Fr.setCell ?_ (fun h => absurd h (by first | omega | (simp; done) | (simp; omega) | (dsimp only; omega))) _) | (with_reducible refine Fr.alloc ?_ _) | (with_reducible refine Fr.drew ?_) | (with_reducible refine Fr.drewN ?_ _) | (with_reducible exact Fr.refl [] w)))⟩)
  · go_enter Tryz.func87, Tryz.ntmps87
    go_wp2
    all_goals (go_ret; exact ⟨ret1 (vb (by have h1 := HC.out; rw [Bool.eq_iff_iff, h1]; simp; try omega)), by (repeat (first | (with_reducible refine Fr.setCell ?_ (fun h => absurd h (Nat.lt_irrefl _)) _) | (with_reducible refine Fr.setCell ?_ (fun h => absurd h (by first | omega | (simp; done) | (simp; omega) | (dsimp only; omega))) _) | (with_reducible refine Fr.alloc ?_ _) | (with_reducible refine Fr.drew ?_) | (with_reducible refine Fr.drewN ?_ _) | (with_reducible exact Fr.refl [] w)))⟩)
  · have HN : Hid (c = false) := Lib.hid (by
      cases c
      · rfl
      · have := HC.out.1 rfl; omega)
    go_enter Tryz.func87, Tryz.ntmps87
    go_wp2
    go_ret
    exact ⟨ret1 (vb HN.out.symm), by (repeat (first | (with_reducible refine Fr.setCell ?_ (fun h => absurd h (Nat.lt_irrefl _)) _) | (with_reducible refine Fr.setCell ?_ (fun h => absurd h (by first | omega | (simp; done) | (simp; omega) | (dsimp only; omega))) _) | (with_reducible refine Fr.alloc ?_ _) | (with_reducible refine Fr.drew ?_) | (with_reducible refine Fr.drewN ?_ _) | (with_reducible exact Fr.refl [] w)))⟩
set_option maxRecDepth 100000 in
set_option maxHeartbeats 1000000 in
theorem r11_source (u : Un) (s : Sr) (w : World) : Calls Tryz.prog 67 #[u.v, s.v] w (Still (.bool (srcOk u.regs u.spills s)) w) := by
  obtain ⟨method, args, temps, R, P, sites, ea, en, ec, ca, co, cc, sa, st, sc, ma, mp, mc⟩ := u
  obtain ⟨k, n, x⟩ := s
  unfold Un.v Sr.v
  simp only
  obtain ⟨c, hd⟩ : ∃ c, c = srcOk R P ⟨k, n, x⟩ := ⟨_, rfl⟩
  simp only [← hd]
  have HC : Hid (c = true ↔ ((k = 0 ∧ 0 ≤ n ∧ n < R ∧ x = 0) ∨ (k = 1 ∧ n = 0 ∧ x ≠ 0) ∨ (k = 2 ∧ n = 0 ∧ x = 0) ∨ (k = 3 ∧ 0 ≤ n ∧ n < P ∧ x = 0))) := Lib.hid (by rw [hd]; simp [srcOk])
  clear hd
  have hk : k = 0 ∨ k = 3 ∨ k = 1 ∨ k = 2 ∨ (k ≠ 0 ∧ k ≠ 3 ∧ k ≠ 1 ∧ k ≠ 2) := by omega
  rcases hk with rfl | rfl | rfl | rfl | ⟨h0, h1, h2, h3⟩
  all_goals
    go_enter Tryz.func67, Tryz.ntmps67
    go_wp2
    all_goals (go_ret; exact ⟨ret1 (vb (by have h1 := HC.out; rw [Bool.eq_iff_iff, h1]; simp; try omega)), by (repeat (first | (with_reducible refine Fr.setCell ?_ (fun h => absurd h (Nat.lt_irrefl _)) _) | (with_reducible refine Fr.setCell ?_ (fun h => absurd h (by first | omega | (simp; done) | (simp; omega) | (dsimp only; omega))) _) | (with_reducible refine Fr.alloc ?_ _) | (with_reducible refine Fr.drew ?_) | (with_reducible refine Fr.drewN ?_ _) | (with_reducible exact Fr.refl [] w)))⟩)
end Go.Proofs.YtbmfmklalonhiaaGreatDoor
namespace Go.Proofs.YtbmfmklalonhiaaGreatDoor
open Go.RowKit

theorem six (a b c d e : Bool) : a = false ∨ (a = true ∧ b = false) ∨ (a = true ∧ b = true ∧ c = false) ∨ (a = true ∧ b = true ∧ c = true ∧ d = false) ∨ (a = true ∧ b = true ∧ c = true ∧ d = true ∧ e = false) ∨ (a = true ∧ b = true ∧ c = true ∧ d = true ∧ e = true) := by
  cases a <;> cases b <;> cases c <;> cases d <;> cases e <;> simp
set_option maxRecDepth 100000 in
set_option maxHeartbeats 1000000 in
theorem ir_rangesOf (u : Un) (w : World) : Calls Tryz.prog 59 #[u.v] w (Still (rgV u.regs u.spills u.sites u.maps.length) w) := by
  obtain ⟨method, args, temps, R, P, S, ea, en, ec, ca, co, cc, sa, st, sc, ma, mp, mc⟩ := u
  unfold Un.v rgV
  simp only
  generalize en.length = el at *
  generalize co.length = cl at *
  generalize st.length = sl at *
  generalize mp.length = ml at *
  go_enter Tryz.func59, Tryz.ntmps59
  go_wp2
  exact bodyPost_ret (v := .agg #[.int .i64 R, .int .i64 P, .int .i64 S, .int .i64 ml]) (by simp [results, Tryz.results59, go_sem]) rfl ⟨rfl, by (repeat (first | (with_reducible refine Fr.setCell ?_ (fun h => absurd h (Nat.lt_irrefl _)) _) | (with_reducible refine Fr.setCell ?_ (fun h => absurd h (by first | omega | (simp; done) | (simp; omega) | (dsimp only; omega))) _) | (with_reducible refine Fr.alloc ?_ _) | (with_reducible refine Fr.drew ?_) | (with_reducible refine Fr.drewN ?_ _) | (with_reducible exact Fr.refl [] w)))⟩
set_option maxRecDepth 100000 in
set_option maxHeartbeats 1000000 in
theorem ir_areNumbers (u : Un) (w : World) : Calls Tryz.prog 30 #[u.v] w (Still (.bool (numsOk u)) w) := by
  have h1 := fun W => ir_within u.args 0 4 W
  have h2 := fun W => ir_within u.temps u.args 16 W
  have h3 := fun W => ir_within u.regs 0 4096 W
  have h4 := fun W => ir_within u.spills 0 4096 W
  have h5 := fun W => ir_within u.sites 0 128 W
  unfold numsOk
  obtain ⟨b1, hb1⟩ : ∃ b, b = wtn u.args 0 4 := ⟨_, rfl⟩
  obtain ⟨b2, hb2⟩ : ∃ b, b = wtn u.temps u.args 16 := ⟨_, rfl⟩
  obtain ⟨b3, hb3⟩ : ∃ b, b = wtn u.regs 0 4096 := ⟨_, rfl⟩
  obtain ⟨b4, hb4⟩ : ∃ b, b = wtn u.spills 0 4096 := ⟨_, rfl⟩
  obtain ⟨b5, hb5⟩ : ∃ b, b = wtn u.sites 0 128 := ⟨_, rfl⟩
  simp only [← hb1, ← hb2, ← hb3, ← hb4, ← hb5] at h1 h2 h3 h4 h5 ⊢
  clear hb1 hb2 hb3 hb4 hb5
  obtain ⟨method, args, temps, R, P, S, ea, en, ec, ca, co, cc, sa, st, sc, ma, mp, mc⟩ := u
  unfold Un.v
  simp only at h1 h2 h3 h4 h5 ⊢
  generalize en.length = el at *
  generalize co.length = cl at *
  generalize st.length = sl at *
  generalize mp.length = ml at *
  have hm : decide (method ≠ 0) = false ∧ method = 0 ∨ decide (method ≠ 0) = true ∧ (method == 0) = false ∧ (method != 0) = true := by
    by_cases h : method = 0
    · exact .inl (by simp [h])
    · exact .inr (by simp [h])
  rcases hm with ⟨hm, rfl⟩ | ⟨hm, hm1, hm2⟩
  · rw [hm]
    clear hm
    simp only [Bool.false_and]
    go_enter Tryz.func30, Tryz.ntmps30
    go_wp2_with fail
    go_ret
    exact ⟨rfl, by (repeat (first | (with_reducible refine Fr.setCell ?_ (fun h => absurd h (Nat.lt_irrefl _)) _) | (with_reducible refine Fr.setCell ?_ (fun h => absurd h (by first | omega | (simp; done) | (simp; omega) | (dsimp only; omega))) _) | (with_reducible refine Fr.alloc ?_ _) | (with_reducible refine Fr.drew ?_) | (with_reducible refine Fr.drewN ?_ _) | (with_reducible exact Fr.refl [] w)))⟩
  · rw [hm]
    clear hm
    rcases six b1 b2 b3 b4 b5 with rfl | ⟨rfl, rfl⟩ | ⟨rfl, rfl, rfl⟩ | ⟨rfl, rfl, rfl, rfl⟩ | ⟨rfl, rfl, rfl, rfl, rfl⟩ | ⟨rfl, rfl, rfl, rfl, rfl⟩
    case inr.inr.inr.inr.inr =>
      simp only [Bool.true_and]
      go_enter Tryz.func30, Tryz.ntmps30
      go_wp2_with (first
        | (go_at_call 58; (with_reducible refine (h1 _).mono ?_); rintro e w' ⟨rfl, rfl⟩)
        | (go_at_call 58; (with_reducible refine (h2 _).mono ?_); rintro e w' ⟨rfl, rfl⟩)
        | (go_at_call 58; (with_reducible refine (h3 _).mono ?_); rintro e w' ⟨rfl, rfl⟩)
        | (go_at_call 58; (with_reducible refine (h4 _).mono ?_); rintro e w' ⟨rfl, rfl⟩)
        | (go_at_call 58; (with_reducible refine (h5 _).mono ?_); rintro e w' ⟨rfl, rfl⟩))
      go_ret
      exact ⟨rfl, by (repeat (first | (with_reducible refine Fr.setCell ?_ (fun h => absurd h (Nat.lt_irrefl _)) _) | (with_reducible refine Fr.setCell ?_ (fun h => absurd h (by first | omega | (simp; done) | (simp; omega) | (dsimp only; omega))) _) | (with_reducible refine Fr.alloc ?_ _) | (with_reducible refine Fr.drew ?_) | (with_reducible refine Fr.drewN ?_ _) | (with_reducible exact Fr.refl [] w)))⟩
    all_goals
      simp only [Bool.true_and, Bool.false_and, Bool.and_false]
      go_enter Tryz.func30, Tryz.ntmps30
      go_wp2_with (first
        | (go_at_call 58; (with_reducible refine (h1 _).mono ?_); rintro e w' ⟨rfl, rfl⟩)
        | (go_at_call 58; (with_reducible refine (h2 _).mono ?_); rintro e w' ⟨rfl, rfl⟩)
        | (go_at_call 58; (with_reducible refine (h3 _).mono ?_); rintro e w' ⟨rfl, rfl⟩)
        | (go_at_call 58; (with_reducible refine (h4 _).mono ?_); rintro e w' ⟨rfl, rfl⟩)
        | (go_at_call 58; (with_reducible refine (h5 _).mono ?_); rintro e w' ⟨rfl, rfl⟩))
      go_ret
      exact ⟨rfl, by (repeat (first | (with_reducible refine Fr.setCell ?_ (fun h => absurd h (Nat.lt_irrefl _)) _) | (with_reducible refine Fr.setCell ?_ (fun h => absurd h (by first | omega | (simp; done) | (simp; omega) | (dsimp only; omega))) _) | (with_reducible refine Fr.alloc ?_ _) | (with_reducible refine Fr.drew ?_) | (with_reducible refine Fr.drewN ?_ _) | (with_reducible exact Fr.refl [] w)))⟩
end Go.Proofs.YtbmfmklalonhiaaGreatDoor
namespace Go.Proofs.YtbmfmklalonhiaaGreatDoor
open Go.RowKit

/-- numbers of one's own -/
def OwnN (lo : Nat) (w : World) (a : Option Addr) (l : List Int) (c : Nat) : Prop := SlOk a l.length c ∧ (l = [] ∨ ∃ g, a = some ⟨g, 0, none⟩ ∧ lo ≤ g ∧ RowB w g 3 (flatN l))
theorem OwnN.fr {lo : Nat} {w w' : World} {a : Option Addr} {l : List Int} {c : Nat} (h : OwnN lo w a l c) (hF : Fr [] w w') : OwnN lo w' a l c := ⟨h.1, h.2.imp id fun ⟨g, e, hl, hr⟩ => ⟨g, e, hl, hr.fr hF⟩⟩
theorem OwnN.at {lo : Nat} {w : World} {a : Option Addr} {l : List Int} {c : Nat} (h : OwnN lo w a l c) : IntsAt w a l := by
  intro k s hk
  rcases h.2 with rfl | ⟨g, rfl, -, hr⟩
  · simp at hk
  · exact ⟨g, 0, rfl, by rw [Nat.zero_add]; exact hr.cell (by simp [flatN, hk])⟩
theorem OwnN.other {lo : Nat} {w : World} {a : Option Addr} {l : List Int} {c : Nat} (h : OwnN lo w a l c) {g2 : Nat} {T2 : TypeId} {vals2 : List Value} (h2 : RowB w g2 T2 vals2) (hT : (3 : TypeId) ≠ T2) (k : Nat) (v : Value) : OwnN lo (w.setCell ⟨g2, k, none⟩ v) a l c :=
  ⟨h.1, h.2.imp id fun ⟨g, e, hl, hr⟩ => ⟨g, e, hl, hr.other (hr.ne h2 hT) k v⟩⟩
theorem OwnI.other {lo : Nat} {w : World} {a : Option Addr} {l : List Ii} {c : Nat} (h : OwnI lo w a l c) {g2 : Nat} {T2 : TypeId} {vals2 : List Value} (h2 : RowB w g2 T2 vals2) (hT : (64 : TypeId) ≠ T2) (hT2 : (62 : TypeId) ≠ T2) (k : Nat) (v : Value) : OwnI lo (w.setCell ⟨g2, k, none⟩ v) a l c :=
  ⟨h.1, h.2.1.imp id fun ⟨g, e, hl, hr, hc⟩ => ⟨g, e, hl, hr.other (hr.ne h2 hT) k v, hc.set _ _ _⟩, fun i hi => (h.2.2 i hi).other h2 hT2 k v⟩
/-- maps of one's own -/
def OwnM (lo : Nat) (w : World) (a : Option Addr) (l : List Mp) (c : Nat) : Prop := SlOk a l.length c ∧ (l = [] ∨ ∃ g, a = some ⟨g, 0, none⟩ ∧ lo ≤ g ∧ RowB w g 59 (flatMp l)) ∧ ∀ m ∈ l, OwnS lo w m.a m.l m.c
theorem OwnM.fr {lo : Nat} {w w' : World} {a : Option Addr} {l : List Mp} {c : Nat} (h : OwnM lo w a l c) (hF : Fr [] w w') : OwnM lo w' a l c :=
  ⟨h.1, h.2.1.imp id fun ⟨g, e, hl, hr⟩ => ⟨g, e, hl, hr.fr hF⟩, fun i hi => (h.2.2 i hi).fr hF⟩
theorem OwnM.at {lo : Nat} {w : World} {a : Option Addr} {l : List Mp} {c : Nat} (h : OwnM lo w a l c) : MapsAt w a l := by
  intro k i hk
  refine ⟨?_, (h.2.2 i (List.mem_of_getElem? hk)).at⟩
  rcases h.2.1 with rfl | ⟨g, rfl, -, hr⟩
  · simp at hk
  · exact ⟨g, 0, rfl, by rw [Nat.zero_add]; exact hr.cell (by simp [flatMp, hk, Mp.v])⟩
theorem OwnM.other {lo : Nat} {w : World} {a : Option Addr} {l : List Mp} {c : Nat} (h : OwnM lo w a l c) {g2 : Nat} {T2 : TypeId} {vals2 : List Value} (h2 : RowB w g2 T2 vals2) (hT : (59 : TypeId) ≠ T2) (hT2 : (62 : TypeId) ≠ T2) (k : Nat) (v : Value) : OwnM lo (w.setCell ⟨g2, k, none⟩ v) a l c :=
  ⟨h.1, h.2.1.imp id fun ⟨g, e, hl, hr⟩ => ⟨g, e, hl, hr.other (hr.ne h2 hT) k v⟩, fun i hi => (h.2.2 i hi).other h2 hT2 k v⟩
theorem RowB.frx {w w' : World} {g g2 : Nat} {T : TypeId} {vals : List Value} (h : RowB w g T vals) (hne : g ≠ g2) (hF : Fr [g2] w w') : RowB w' g T vals :=
  let ⟨cur, hc, hr⟩ := h
  ⟨cur, hF.heap (by simp [hne]) hc, hr⟩
theorem OwnS.frx {lo : Nat} {w w' : World} {a : Option Addr} {l : List Sr} {c : Nat} (h : OwnS lo w a l c) {g2 : Nat} {T2 : TypeId} {vals2 : List Value} (h2 : RowB w g2 T2 vals2) (hT : (62 : TypeId) ≠ T2) (hF : Fr [g2] w w') : OwnS lo w' a l c :=
  ⟨h.1, h.2.imp id fun ⟨g, e, hl, hr⟩ => ⟨g, e, hl, hr.frx (hr.ne h2 hT) hF⟩⟩
theorem OwnN.frx {lo : Nat} {w w' : World} {a : Option Addr} {l : List Int} {c : Nat} (h : OwnN lo w a l c) {g2 : Nat} {T2 : TypeId} {vals2 : List Value} (h2 : RowB w g2 T2 vals2) (hT : (3 : TypeId) ≠ T2) (hF : Fr [g2] w w') : OwnN lo w' a l c :=
  ⟨h.1, h.2.imp id fun ⟨g, e, hl, hr⟩ => ⟨g, e, hl, hr.frx (hr.ne h2 hT) hF⟩⟩
theorem OwnI.frx {lo : Nat} {w w' : World} {a : Option Addr} {l : List Ii} {c : Nat} (h : OwnI lo w a l c) {g2 : Nat} {T2 : TypeId} {vals2 : List Value} (h2 : RowB w g2 T2 vals2) (hT : (64 : TypeId) ≠ T2) (hT2 : (62 : TypeId) ≠ T2) (hF : Fr [g2] w w') : OwnI lo w' a l c :=
  ⟨h.1, h.2.1.imp id fun ⟨g, e, hl, hr, hc⟩ => ⟨g, e, hl, hr.frx (hr.ne h2 hT) hF, hc.frx (hr.ne h2 hT) hF⟩, fun i hi => (h.2.2 i hi).frx h2 hT2 hF⟩
theorem OwnM.frx {lo : Nat} {w w' : World} {a : Option Addr} {l : List Mp} {c : Nat} (h : OwnM lo w a l c) {g2 : Nat} {T2 : TypeId} {vals2 : List Value} (h2 : RowB w g2 T2 vals2) (hT : (59 : TypeId) ≠ T2) (hT2 : (62 : TypeId) ≠ T2) (hF : Fr [g2] w w') : OwnM lo w' a l c :=
  ⟨h.1, h.2.1.imp id fun ⟨g, e, hl, hr⟩ => ⟨g, e, hl, hr.frx (hr.ne h2 hT) hF⟩, fun i hi => (h.2.2 i hi).frx h2 hT2 hF⟩
/-- how far the maps were copied -/
def HalfM (lo : Nat) (w : World) (l ls : List Mp) (k : Nat) : Prop := ls.length = l.length ∧ ∀ j i, l[j]? = some i → ∃ i', ls[j]? = some i' ∧ i'.l = i.l ∧ (j < k → OwnS lo w i'.a i'.l i'.c) ∧ (k ≤ j → i' = i)
theorem HalfM.start (lo : Nat) (w : World) (l : List Mp) : HalfM lo w l l 0 := ⟨rfl, fun j i h => ⟨i, h, rfl, fun hj => absurd hj (by omega), fun _ => rfl⟩⟩
theorem HalfM.step {lo : Nat} {w w' : World} {l ls : List Mp} {k : Nat} {i : Mp} {a : Option Addr} {c : Nat} (h : HalfM lo w l ls k) (hi : l[k]? = some i) (hO : OwnS lo w' a i.l c) (hk : ∀ a m c, OwnS lo w a m c → OwnS lo w' a m c) : HalfM lo w' l (ls.set k ⟨a, i.l, c⟩) (k + 1) := by
  refine ⟨by rw [List.length_set]; exact h.1, fun j q hj => ?_⟩
  have hkl := (List.getElem?_eq_some_iff.1 hi).1
  by_cases hjk : j = k
  · subst hjk
    rw [hi] at hj
    cases hj
    exact ⟨_, List.getElem?_set_self (by rw [h.1]; exact hkl), rfl, fun _ => hO, fun h => absurd h (by omega)⟩
  · obtain ⟨i', h1, h2, h3, h4⟩ := h.2 j q hj
    exact ⟨i', by rw [List.getElem?_set_ne (fun e => hjk e.symm)]; exact h1, h2, fun hl => hk _ _ _ (h3 (by omega)), fun hl => h4 (by omega)⟩
theorem HalfM.all {lo : Nat} {w : World} {l ls : List Mp} (h : HalfM lo w l ls l.length) : ∀ i ∈ ls, OwnS lo w i.a i.l i.c := by
  intro i hi
  obtain ⟨j, hj⟩ := List.getElem?_of_mem hi
  have hjl := (List.getElem?_eq_some_iff.1 hj).1
  rw [h.1] at hjl
  obtain ⟨i', h1, -, h3, -⟩ := h.2 j _ (List.getElem?_eq_getElem hjl)
  rw [hj] at h1
  cases h1
  exact h3 hjl
/-- an instruction without its place -/
def Ii.er (i : Ii) : Ii := ⟨i.op, i.n, i.d, none, i.l, 0, i.w⟩
theorem Half.er {lo : Nat} {w : World} {l ls : List Ii} {k : Nat} (h : Half lo w l ls k) : ls.map Ii.er = l.map Ii.er := by
  refine List.ext_getElem? fun j => ?_
  rw [List.getElem?_map, List.getElem?_map]
  cases hj : l[j]? with
  | none =>
    have : ls[j]? = none := by rw [List.getElem?_eq_none_iff] at hj ⊢; rw [h.1]; exact hj
    rw [this]
  | some i =>
    obtain ⟨i', h1, h2, -⟩ := h.2 j i hj
    rw [h1]
    simp only [Option.map_some, Ii.er, h2.op, h2.n, h2.d, h2.l, h2.w]
theorem HalfM.er {lo : Nat} {w : World} {l ls : List Mp} {k : Nat} (h : HalfM lo w l ls k) : ls.map Mp.l = l.map Mp.l := by
  refine List.ext_getElem? fun j => ?_
  rw [List.getElem?_map, List.getElem?_map]
  cases hj : l[j]? with
  | none =>
    have : ls[j]? = none := by rw [List.getElem?_eq_none_iff] at hj ⊢; rw [h.1]; exact hj
    rw [this]
  | some i =>
    obtain ⟨i', h1, h2, -⟩ := h.2 j i hj
    rw [h1]
    simp only [Option.map_some, h2]
/-- the same unit in other places -/
structure SameU (u v : Un) : Prop where
  method : v.method = u.method
  args : v.args = u.args
  temps : v.temps = u.temps
  regs : v.regs = u.regs
  spills : v.spills = u.spills
  sites : v.sites = u.sites
  enter : v.enter.map Ii.er = u.enter.map Ii.er
  code : v.code.map Ii.er = u.code.map Ii.er
  starts : v.starts = u.starts
  maps : v.maps.map Mp.l = u.maps.map Mp.l
/-- a unit of one's own -/
structure OwnU (lo : Nat) (w : World) (u : Un) : Prop where
  enter : OwnI lo w u.ea u.enter u.ec
  code : OwnI lo w u.ca u.code u.cc
  starts : OwnN lo w u.sa u.starts u.sc
  maps : OwnM lo w u.ma u.maps u.mc
theorem OwnU.fr {lo : Nat} {w w' : World} {u : Un} (h : OwnU lo w u) (hF : Fr [] w w') : OwnU lo w' u := ⟨h.enter.fr hF, h.code.fr hF, h.starts.fr hF, h.maps.fr hF⟩
theorem OwnU.at {lo : Nat} {w : World} {u : Un} (h : OwnU lo w u) : UAt w u := ⟨h.enter.at, h.code.at, h.starts.at, h.maps.at⟩
/-- Returned: the same unit, in new memory. -/
def CopyTo (u : Un) (w : World) (e : Ending) (w' : World) : Prop := ∃ v : Un, e = .returned v.v ∧ SameU u v ∧ OwnU w.heap.size w' v ∧ (∀ g, v.ea = some ⟨g, 0, none⟩ → v.ca ≠ some ⟨g, 0, none⟩) ∧ Fr [] w w'
theorem ownN_of {w w' : World} {l : List Int} {a : Option Addr} {c : Nat} (h : IGrows w 3 1 l.length (flatN l) (.slice a l.length c) w') {lo : Nat} (hlo : lo ≤ w.heap.size) : OwnN lo w' a l c := by
  refine ⟨slok_of h, ?_⟩
  by_cases h0 : l = []
  · exact .inl h0
  · obtain ⟨g, e, hg, hr⟩ := rowB_of h (List.length_pos_iff.2 h0)
    exact .inr ⟨g, e, by omega, hr⟩
theorem OwnI.lo {lo lo' : Nat} {w : World} {a : Option Addr} {l : List Ii} {c : Nat} (h : OwnI lo' w a l c) (hl : lo ≤ lo') : OwnI lo w a l c :=
  ⟨h.1, h.2.1.imp id fun ⟨g, e, h1, h2⟩ => ⟨g, e, by omega, h2⟩, fun i hi => ⟨(h.2.2 i hi).1, (h.2.2 i hi).2.imp id fun ⟨g, e, h1, h2⟩ => ⟨g, e, by omega, h2⟩⟩⟩
set_option maxRecDepth 100000 in
set_option maxHeartbeats 8000000 in
theorem ir_Copy (u : Un) (w : World) (hA : UAt w u) (hB : UB u) (hN : u.enter.length ≤ 1954687338211 ∧ u.code.length ≤ 1954687338211) : Calls Tryz.prog 24 #[u.v] w (CopyTo u w) := by
  have h1 : Hid (∀ W, Fr [] w W → Calls Tryz.prog 48 #[.slice u.ea u.enter.length u.ec] W (CopiesI u.enter W)) := Lib.hid fun W hF => ir_copied u.enter u.ea u.ec W (hA.enter.fr hF) hB.es hN.1 hB.enter
  have h2 : Hid (∀ W, Fr [] w W → Calls Tryz.prog 48 #[.slice u.ca u.code.length u.cc] W (CopiesI u.code W)) := Lib.hid fun W hF => ir_copied u.code u.ca u.cc W (hA.code.fr hF) hB.cs hN.2 hB.code
  have h3 : Hid (∀ W, Fr [] w W → Calls Tryz.prog 49 #[.slice u.sa u.starts.length u.sc] W (ClonesTo 3 1 u.starts.length (flatN u.starts) W)) := Lib.hid fun W hF => clone_ints (hA.starts.fr hF) hB.ss hB.sn
  have h4 : Hid (∀ W, Fr [] w W → Calls Tryz.prog 50 #[.slice u.ma u.maps.length u.mc] W (ClonesTo 59 1 u.maps.length (flatMp u.maps) W)) := Lib.hid fun W hF => clone_maps (hA.maps.fr hF) hB.ms hB.mn
  have HAM := Lib.hid hA.maps
  have HBM := Lib.hid hB.maps
  have hmn := hB.mn
  obtain ⟨method, args, T, R, P, S, ea, en, ec, ca, co, cc, sa, st, sc, ma, mp, mc⟩ := u
  unfold Un.v
  simp only at h1 h2 h3 h4 HAM HBM hmn ⊢
  clear hA hB hN
  obtain ⟨el, hel⟩ : ∃ z, z = en.length := ⟨_, rfl⟩
  obtain ⟨cl, hcl⟩ : ∃ z, z = co.length := ⟨_, rfl⟩
  obtain ⟨sl, hsl⟩ : ∃ z, z = st.length := ⟨_, rfl⟩
  obtain ⟨ml, hml⟩ : ∃ z, z = mp.length := ⟨_, rfl⟩
  simp only [← hel, ← hcl, ← hsl, ← hml] at h1 h2 h3 h4 hmn ⊢
  have HEL := Lib.hid hel
  have HCL := Lib.hid hcl
  have HSL := Lib.hid hsl
  have HML := Lib.hid hml
  clear hel hcl hsl hml
  go_enter Tryz.func24, Tryz.ntmps24
  go_wp2_with fail
  refine (h1.out _ (((Fr.refl [] w).alloc _).alloc _)).mono ?_
  rintro e w1 ⟨a1, c1, l1, rfl, hH1, hO1, hF1⟩
  rw [← HEL.out]
  have HB1 := Lib.hid (hF1.heap (by simp) (hp1 w _ _))
  have HZ1 := Lib.hid (hF1.heap (by simp) (hp2 w _ _))
  have HF1 : Hid (Fr [] w w1) := Lib.hid ((((Fr.refl [] w).alloc _).alloc _).trans hF1)
  have HH1 := Lib.hid hH1
  have HO1 : Hid (OwnI w.heap.size w1 a1 l1 c1) := Lib.hid (hO1.lo (by simp; omega))
  clear hH1 hO1 hF1
  have HOe1 := HO1
  clear HO1
  have HR1 : Hid (RowB w1 w.heap.size 34 [.int .u64 method, .int .i64 args, .int .i64 T, .int .i64 R, .int .i64 P, .int .i64 S, .slice ea el ec, .slice ca cl cc, .slice sa sl sc, .slice ma ml mc]) := Lib.hid ⟨_, HB1.out, [], by simp⟩
  have b0 := cell_of_heap (o := 0) HB1.out rfl; have b1 := cell_of_heap (o := 1) HB1.out rfl; have b2 := cell_of_heap (o := 2) HB1.out rfl; have b3 := cell_of_heap (o := 3) HB1.out rfl; have b4 := cell_of_heap (o := 4) HB1.out rfl; have b5 := cell_of_heap (o := 5) HB1.out rfl; have b6 := cell_of_heap (o := 6) HB1.out rfl; have b7 := cell_of_heap (o := 7) HB1.out rfl; have b8 := cell_of_heap (o := 8) HB1.out rfl; have b9 := cell_of_heap (o := 9) HB1.out rfl
  have z0 := frozen_of_heap (o := 0) HB1.out; have z1 := frozen_of_heap (o := 1) HB1.out; have z2 := frozen_of_heap (o := 2) HB1.out; have z3 := frozen_of_heap (o := 3) HB1.out; have z4 := frozen_of_heap (o := 4) HB1.out; have z5 := frozen_of_heap (o := 5) HB1.out; have z6 := frozen_of_heap (o := 6) HB1.out; have z7 := frozen_of_heap (o := 7) HB1.out; have z8 := frozen_of_heap (o := 8) HB1.out; have z9 := frozen_of_heap (o := 9) HB1.out
  have hz1 := lt_of_heap HB1.out
  go_wp2_with fail
  clear b0 b1 b2 b3 b4 b5 b6 b7 b8 b9 z0 z1 z2 z3 z4 z5 z6 z7 z8 z9
  have HFx1 : Hid (Fr [] w (w1.setCell ⟨w.heap.size, 6, none⟩ (.slice a1 el c1))) := Lib.hid (HF1.out.setCell (fun h => absurd h (by show ¬ w.heap.size < w.heap.size; omega)) _)
  have HBx1 : Hid ((w1.setCell ⟨w.heap.size, 6, none⟩ (.slice a1 el c1)).heap[w.heap.size]? = some (.cells #[.int .u64 method, .int .i64 args, .int .i64 T, .int .i64 R, .int .i64 P, .int .i64 S, .slice a1 el c1, .slice ca cl cc, .slice sa sl sc, .slice ma ml mc] 34 (0, 0))) := Lib.hid (by
    have h9 := heap_setCell_same (o := 6) HB1.out (.slice a1 el c1)
    simpa using h9)
  have HZx1 : Hid ((w1.setCell ⟨w.heap.size, 6, none⟩ (.slice a1 el c1)).heap[w.heap.size + 1]? = some (.cells #[.int .u64 0, .int .i64 0, .int .i64 0, .int .i64 0, .int .i64 0, .int .i64 0, .slice none 0 0, .slice none 0 0, .slice none 0 0, .slice none 0 0] 34 (0, 0))) := Lib.hid (by rw [Below.heap_setCell _ _ _ _ (by simp)]; exact HZ1.out)
  have HXe1 := Lib.hid (HOe1.out.other HR1.out (by decide) (by decide) 6 (.slice a1 el c1))
  generalize (w1.setCell ⟨w.heap.size, 6, none⟩ (.slice a1 el c1)) = x1 at *
  clear HB1 HZ1 HF1 HR1 hz1 HOe1
  refine (h2.out _ HFx1.out).mono ?_
  rintro e w2 ⟨a2, c2, l2, rfl, hH2, hO2, hF⟩
  rw [← HCL.out]
  have HH2i := Lib.hid hH2
  have HAP : Hid (∀ g, a1 = some ⟨g, 0, none⟩ → a2 ≠ some ⟨g, 0, none⟩) := Lib.hid (fun g h1 h2 => by
    rcases HXe1.out.2.1 with ⟨h, -⟩ | ⟨g1, e1, -, hr, -⟩
    · rw [h] at h1; cases h1
    · rcases hO2.2.1 with ⟨h, -⟩ | ⟨g2, e2, hl, -⟩
      · rw [h] at h2; cases h2
      · rw [h1] at e1; rw [h2] at e2; cases e1; cases e2
        have := hr.lt
        omega)
  have HOc2 : Hid (OwnI w.heap.size w2 a2 l2 c2) := Lib.hid (hO2.lo HFx1.out.size)
  have HB2 := Lib.hid (hF.heap (by simp) HBx1.out)
  have HZ2 := Lib.hid (hF.heap (by simp) HZx1.out)
  have HF2 := Lib.hid (HFx1.out.trans hF)
  have HOe2 := Lib.hid (HXe1.out.fr hF)
  clear HBx1 HZx1 HXe1
  clear hH2 hO2 hF HFx1
  have HR2 : Hid (RowB w2 w.heap.size 34 [.int .u64 method, .int .i64 args, .int .i64 T, .int .i64 R, .int .i64 P, .int .i64 S, .slice a1 el c1, .slice ca cl cc, .slice sa sl sc, .slice ma ml mc]) := Lib.hid ⟨_, HB2.out, [], by simp⟩
  have b0 := cell_of_heap (o := 0) HB2.out rfl; have b1 := cell_of_heap (o := 1) HB2.out rfl; have b2 := cell_of_heap (o := 2) HB2.out rfl; have b3 := cell_of_heap (o := 3) HB2.out rfl; have b4 := cell_of_heap (o := 4) HB2.out rfl; have b5 := cell_of_heap (o := 5) HB2.out rfl; have b6 := cell_of_heap (o := 6) HB2.out rfl; have b7 := cell_of_heap (o := 7) HB2.out rfl; have b8 := cell_of_heap (o := 8) HB2.out rfl; have b9 := cell_of_heap (o := 9) HB2.out rfl
  have z0 := frozen_of_heap (o := 0) HB2.out; have z1 := frozen_of_heap (o := 1) HB2.out; have z2 := frozen_of_heap (o := 2) HB2.out; have z3 := frozen_of_heap (o := 3) HB2.out; have z4 := frozen_of_heap (o := 4) HB2.out; have z5 := frozen_of_heap (o := 5) HB2.out; have z6 := frozen_of_heap (o := 6) HB2.out; have z7 := frozen_of_heap (o := 7) HB2.out; have z8 := frozen_of_heap (o := 8) HB2.out; have z9 := frozen_of_heap (o := 9) HB2.out
  have hz2 := lt_of_heap HB2.out
  go_wp2_with fail
  clear b0 b1 b2 b3 b4 b5 b6 b7 b8 b9 z0 z1 z2 z3 z4 z5 z6 z7 z8 z9
  have HFx2 : Hid (Fr [] w (w2.setCell ⟨w.heap.size, 7, none⟩ (.slice a2 cl c2))) := Lib.hid (HF2.out.setCell (fun h => absurd h (by show ¬ w.heap.size < w.heap.size; omega)) _)
  have HBx2 : Hid ((w2.setCell ⟨w.heap.size, 7, none⟩ (.slice a2 cl c2)).heap[w.heap.size]? = some (.cells #[.int .u64 method, .int .i64 args, .int .i64 T, .int .i64 R, .int .i64 P, .int .i64 S, .slice a1 el c1, .slice a2 cl c2, .slice sa sl sc, .slice ma ml mc] 34 (0, 0))) := Lib.hid (by
    have h9 := heap_setCell_same (o := 7) HB2.out (.slice a2 cl c2)
    simpa using h9)
  have HZx2 : Hid ((w2.setCell ⟨w.heap.size, 7, none⟩ (.slice a2 cl c2)).heap[w.heap.size + 1]? = some (.cells #[.int .u64 0, .int .i64 0, .int .i64 0, .int .i64 0, .int .i64 0, .int .i64 0, .slice none 0 0, .slice none 0 0, .slice none 0 0, .slice none 0 0] 34 (0, 0))) := Lib.hid (by rw [Below.heap_setCell _ _ _ _ (by simp)]; exact HZ2.out)
  have HXe2 := Lib.hid (HOe2.out.other HR2.out (by decide) (by decide) 7 (.slice a2 cl c2))
  have HXc2 := Lib.hid (HOc2.out.other HR2.out (by decide) (by decide) 7 (.slice a2 cl c2))
  generalize (w2.setCell ⟨w.heap.size, 7, none⟩ (.slice a2 cl c2)) = x2 at *
  clear HB2 HZ2 HF2 HR2 hz2 HOe2 HOc2
  refine (h3.out _ HFx2.out).mono ?_
  rintro e w3 ⟨v3, rfl, hG⟩
  obtain ⟨a3, c3, rfl⟩ := irow_shape hG.row
  have hF := hG.fr
  have HOs3 : Hid (OwnN w.heap.size w3 a3 st c3) := Lib.hid (ownN_of (c := c3) (by rw [← HSL.out]; exact hG) HFx2.out.size)
  have HB3 := Lib.hid (hF.heap (by simp) HBx2.out)
  have HZ3 := Lib.hid (hF.heap (by simp) HZx2.out)
  have HF3 := Lib.hid (HFx2.out.trans hF)
  have HOe3 := Lib.hid (HXe2.out.fr hF)
  have HOc3 := Lib.hid (HXc2.out.fr hF)
  clear HBx2 HZx2 HXe2 HXc2
  clear hG hF HFx2
  have HR3 : Hid (RowB w3 w.heap.size 34 [.int .u64 method, .int .i64 args, .int .i64 T, .int .i64 R, .int .i64 P, .int .i64 S, .slice a1 el c1, .slice a2 cl c2, .slice sa sl sc, .slice ma ml mc]) := Lib.hid ⟨_, HB3.out, [], by simp⟩
  have b0 := cell_of_heap (o := 0) HB3.out rfl; have b1 := cell_of_heap (o := 1) HB3.out rfl; have b2 := cell_of_heap (o := 2) HB3.out rfl; have b3 := cell_of_heap (o := 3) HB3.out rfl; have b4 := cell_of_heap (o := 4) HB3.out rfl; have b5 := cell_of_heap (o := 5) HB3.out rfl; have b6 := cell_of_heap (o := 6) HB3.out rfl; have b7 := cell_of_heap (o := 7) HB3.out rfl; have b8 := cell_of_heap (o := 8) HB3.out rfl; have b9 := cell_of_heap (o := 9) HB3.out rfl
  have z0 := frozen_of_heap (o := 0) HB3.out; have z1 := frozen_of_heap (o := 1) HB3.out; have z2 := frozen_of_heap (o := 2) HB3.out; have z3 := frozen_of_heap (o := 3) HB3.out; have z4 := frozen_of_heap (o := 4) HB3.out; have z5 := frozen_of_heap (o := 5) HB3.out; have z6 := frozen_of_heap (o := 6) HB3.out; have z7 := frozen_of_heap (o := 7) HB3.out; have z8 := frozen_of_heap (o := 8) HB3.out; have z9 := frozen_of_heap (o := 9) HB3.out
  have hz3 := lt_of_heap HB3.out
  go_wp2_with fail
  clear b0 b1 b2 b3 b4 b5 b6 b7 b8 b9 z0 z1 z2 z3 z4 z5 z6 z7 z8 z9
  have HFx3 : Hid (Fr [] w (w3.setCell ⟨w.heap.size, 8, none⟩ (.slice a3 sl c3))) := Lib.hid (HF3.out.setCell (fun h => absurd h (by show ¬ w.heap.size < w.heap.size; omega)) _)
  have HBx3 : Hid ((w3.setCell ⟨w.heap.size, 8, none⟩ (.slice a3 sl c3)).heap[w.heap.size]? = some (.cells #[.int .u64 method, .int .i64 args, .int .i64 T, .int .i64 R, .int .i64 P, .int .i64 S, .slice a1 el c1, .slice a2 cl c2, .slice a3 sl c3, .slice ma ml mc] 34 (0, 0))) := Lib.hid (by
    have h9 := heap_setCell_same (o := 8) HB3.out (.slice a3 sl c3)
    simpa using h9)
  have HZx3 : Hid ((w3.setCell ⟨w.heap.size, 8, none⟩ (.slice a3 sl c3)).heap[w.heap.size + 1]? = some (.cells #[.int .u64 0, .int .i64 0, .int .i64 0, .int .i64 0, .int .i64 0, .int .i64 0, .slice none 0 0, .slice none 0 0, .slice none 0 0, .slice none 0 0] 34 (0, 0))) := Lib.hid (by rw [Below.heap_setCell _ _ _ _ (by simp)]; exact HZ3.out)
  have HXe3 := Lib.hid (HOe3.out.other HR3.out (by decide) (by decide) 8 (.slice a3 sl c3))
  have HXc3 := Lib.hid (HOc3.out.other HR3.out (by decide) (by decide) 8 (.slice a3 sl c3))
  have HXs3 := Lib.hid (HOs3.out.other HR3.out (by decide) 8 (.slice a3 sl c3))
  generalize (w3.setCell ⟨w.heap.size, 8, none⟩ (.slice a3 sl c3)) = x3 at *
  clear HB3 HZ3 HF3 HR3 hz3 HOe3 HOc3 HOs3
  refine (h4.out _ HFx3.out).mono ?_
  rintro e w4 ⟨v4, rfl, hG⟩
  obtain ⟨a4, c4, rfl⟩ := irow_shape hG.row
  have hF := hG.fr
  have HSK := Lib.hid (slok_of hG)
  have HQ4 : Hid (mp = [] ∨ ∃ ga, a4 = some ⟨ga, 0, none⟩ ∧ w.heap.size ≤ ga ∧ RowB w4 ga 59 (flatMp mp)) := Lib.hid (by
    by_cases h0 : mp = []
    · exact .inl h0
    · obtain ⟨ga, e, hg, hr⟩ := rowB_of hG (by rw [HML.out]; exact List.length_pos_iff.2 h0)
      exact .inr ⟨ga, e, Nat.le_trans HFx3.out.size hg, hr⟩)
  have HB4 := Lib.hid (hF.heap (by simp) HBx3.out)
  have HZ4 := Lib.hid (hF.heap (by simp) HZx3.out)
  have HF4 := Lib.hid (HFx3.out.trans hF)
  have HOe4 := Lib.hid (HXe3.out.fr hF)
  have HOc4 := Lib.hid (HXc3.out.fr hF)
  have HOs4 := Lib.hid (HXs3.out.fr hF)
  clear HBx3 HZx3 HXe3 HXc3 HXs3
  clear hG hF HFx3
  have HR4 : Hid (RowB w4 w.heap.size 34 [.int .u64 method, .int .i64 args, .int .i64 T, .int .i64 R, .int .i64 P, .int .i64 S, .slice a1 el c1, .slice a2 cl c2, .slice a3 sl c3, .slice ma ml mc]) := Lib.hid ⟨_, HB4.out, [], by simp⟩
  have b0 := cell_of_heap (o := 0) HB4.out rfl; have b1 := cell_of_heap (o := 1) HB4.out rfl; have b2 := cell_of_heap (o := 2) HB4.out rfl; have b3 := cell_of_heap (o := 3) HB4.out rfl; have b4 := cell_of_heap (o := 4) HB4.out rfl; have b5 := cell_of_heap (o := 5) HB4.out rfl; have b6 := cell_of_heap (o := 6) HB4.out rfl; have b7 := cell_of_heap (o := 7) HB4.out rfl; have b8 := cell_of_heap (o := 8) HB4.out rfl; have b9 := cell_of_heap (o := 9) HB4.out rfl
  have z0 := frozen_of_heap (o := 0) HB4.out; have z1 := frozen_of_heap (o := 1) HB4.out; have z2 := frozen_of_heap (o := 2) HB4.out; have z3 := frozen_of_heap (o := 3) HB4.out; have z4 := frozen_of_heap (o := 4) HB4.out; have z5 := frozen_of_heap (o := 5) HB4.out; have z6 := frozen_of_heap (o := 6) HB4.out; have z7 := frozen_of_heap (o := 7) HB4.out; have z8 := frozen_of_heap (o := 8) HB4.out; have z9 := frozen_of_heap (o := 9) HB4.out
  have hz4 := lt_of_heap HB4.out
  go_wp2_with fail
  clear b0 b1 b2 b3 b4 b5 b6 b7 b8 b9 z0 z1 z2 z3 z4 z5 z6 z7 z8 z9
  have HFx4 : Hid (Fr [] w (w4.setCell ⟨w.heap.size, 9, none⟩ (.slice a4 ml c4))) := Lib.hid (HF4.out.setCell (fun h => absurd h (by show ¬ w.heap.size < w.heap.size; omega)) _)
  have HBx4 : Hid ((w4.setCell ⟨w.heap.size, 9, none⟩ (.slice a4 ml c4)).heap[w.heap.size]? = some (.cells #[.int .u64 method, .int .i64 args, .int .i64 T, .int .i64 R, .int .i64 P, .int .i64 S, .slice a1 el c1, .slice a2 cl c2, .slice a3 sl c3, .slice a4 ml c4] 34 (0, 0))) := Lib.hid (by
    have h9 := heap_setCell_same (o := 9) HB4.out (.slice a4 ml c4)
    simpa using h9)
  have HZx4 : Hid ((w4.setCell ⟨w.heap.size, 9, none⟩ (.slice a4 ml c4)).heap[w.heap.size + 1]? = some (.cells #[.int .u64 0, .int .i64 0, .int .i64 0, .int .i64 0, .int .i64 0, .int .i64 0, .slice none 0 0, .slice none 0 0, .slice none 0 0, .slice none 0 0] 34 (0, 0))) := Lib.hid (by rw [Below.heap_setCell _ _ _ _ (by simp)]; exact HZ4.out)
  have HXe4 := Lib.hid (HOe4.out.other HR4.out (by decide) (by decide) 9 (.slice a4 ml c4))
  have HXc4 := Lib.hid (HOc4.out.other HR4.out (by decide) (by decide) 9 (.slice a4 ml c4))
  have HXs4 := Lib.hid (HOs4.out.other HR4.out (by decide) 9 (.slice a4 ml c4))
  have HQx4 : Hid (mp = [] ∨ ∃ ga, a4 = some ⟨ga, 0, none⟩ ∧ w.heap.size ≤ ga ∧ RowB (w4.setCell ⟨w.heap.size, 9, none⟩ (.slice a4 ml c4)) ga 59 (flatMp mp)) := Lib.hid (HQ4.out.imp id fun ⟨ga, e, hg, hr⟩ => ⟨ga, e, hg, hr.other (hr.ne HR4.out (by decide)) _ _⟩)
  generalize (w4.setCell ⟨w.heap.size, 9, none⟩ (.slice a4 ml c4)) = x4 at *
  clear HB4 HZ4 HF4 HR4 hz4 HOe4 HOc4 HOs4
  go_loopw [24] (fun i wr => ∃ k : Nat, k ≤ ml ∧ i = .int .i64 k ∧ Hid (Fr [] w wr) ∧ Hid (wr.heap[w.heap.size]? = some (.cells #[.int .u64 method, .int .i64 args, .int .i64 T, .int .i64 R, .int .i64 P, .int .i64 S, .slice a1 el c1, .slice a2 cl c2, .slice a3 sl c3, .slice a4 ml c4] 34 (0, 0))) ∧ Hid (wr.heap[w.heap.size + 1]? = some (.cells #[.int .u64 0, .int .i64 0, .int .i64 0, .int .i64 0, .int .i64 0, .int .i64 0, .slice none 0 0, .slice none 0 0, .slice none 0 0, .slice none 0 0] 34 (0, 0))) ∧ Hid (OwnI w.heap.size wr a1 l1 c1) ∧ Hid (OwnI w.heap.size wr a2 l2 c2) ∧ Hid (OwnN w.heap.size wr a3 st c3) ∧ ∃ ls, Hid (mp = [] ∨ ∃ ga, a4 = some ⟨ga, 0, none⟩ ∧ w.heap.size ≤ ga ∧ RowB wr ga 59 (flatMp ls)) ∧ Hid (HalfM w.heap.size wr mp ls k)) (fun i _ => ml - (intOf i).toNat)
  case atStart => exact ⟨0, Nat.zero_le _, rfl, HFx4, HBx4, HZx4, HXe4, HXc4, HXs4, mp, HQx4, HalfM.start _ _ _⟩
  case round =>
    clear HFx4 HBx4 HZx4 HXe4 HXc4 HXs4 HQx4 HQ4
    obtain ⟨k, hk, rfl, HF, HB, HZ, HE, HC, HS, ls, HQ, HH⟩ := hrel
    have hw0 : w.heap.size < wr.heap.size := lt_of_heap HB.out
    by_cases hlt : k < ml
    · obtain ⟨m, hm⟩ : ∃ m, mp[k]? = some m := ⟨_, List.getElem?_eq_getElem (by rw [← HML.out]; exact hlt)⟩
      obtain ⟨m', hm', -, -, he⟩ := HH.out.2 k m hm
      obtain rfl : m' = m := he (Nat.le_refl _)
      have hq := HQ.out
      rcases hq with rfl | ⟨ga, rfl, hlo, hR⟩
      · simp at hm
      have hmb := HBM.out m' (List.mem_of_getElem? hm)
      have hsr := ((HAM.out.fr HF.out) k m' hm).2
      have HCLN : Hid (∀ W, Fr [] wr W → Calls Tryz.prog 51 #[.slice m'.a m'.l.length m'.c] W (ClonesTo 62 3 m'.l.length (flatS m'.l) W)) := Lib.hid (fun W hF => clone_srcs (hsr.fr hF) hmb.2.2 hmb.1)
      have c0 := hR.cell (k := k) (v := m'.v) (by simp [flatMp, hm'])
      have hg : ga < wr.heap.size := hR.lt
      have HR := Lib.hid hR
      have HLO := Lib.hid hlo
      have hRU : RowB wr w.heap.size 34 [.int .u64 method, .int .i64 args, .int .i64 T, .int .i64 R, .int .i64 P, .int .i64 S, .slice a1 el c1, .slice a2 cl c2, .slice a3 sl c3, .slice (some ⟨ga, 0, none⟩) ml c4] := ⟨_, HB.out, [], by simp⟩
      have hgne : w.heap.size ≠ ga := hRU.ne hR (by decide)
      have HRU := Lib.hid hRU
      have k0 : (0 : Int) ≤ (k : Int) := by omega
      have k1 : (k : Int) < (ml : Int) := by omega
      have b9 := hRU.cell (k := 9) rfl
      have HI2 := Lib.hid hm
      have HI3 := Lib.hid hm'
      clear hm hm' hsr hmb he hR hRU hlo HQ
      obtain ⟨ma', lw, mc'⟩ := m'
      unfold Mp.v at c0
      simp only at c0 HCLN
      obtain ⟨lwn, hlw⟩ : ∃ z, z = lw.length := ⟨_, rfl⟩
      have HLW := Lib.hid hlw
      simp only [← hlw] at HCLN c0
      clear hlw
      go_wp2_with fail
      go_region_held3 (fun w' => w'.cell? ⟨w.heap.size, 9, none⟩ = some (.slice (some ⟨ga, 0, none⟩) ml c4))
        (first | exact ((Fr.refl [ga] w2).setCell (fun _ => by simp) _).cell (by simp; omega) (HG2.out.fr.cell (by simp) b9) | exact HG2.out.fr.cell (by simp) b9 | go_keep)
        ((go_at_call 51; refine (HCLN.out _ (Fr.refl [] wr).drew).mono ?_; rintro e w2 ⟨v, rfl, hG⟩; obtain ⟨a5, c5, rfl⟩ := irow_shape hG.row; have HG2 : Hid (IGrows wr 62 3 lwn (flatS lw) (.slice a5 lwn c5) w2) := Lib.hid ⟨hG.row, (Fr.refl [] wr).drew.trans hG.fr, hG.new⟩; have d5 := HG2.out.fr.cell (by simp) c0; have z5 := (HR.out.fr HG2.out.fr).frozen k; have hg2 := (HR.out.fr HG2.out.fr).lt; clear hG))
      go_wp2_with fail
      go_roundw
      case rel =>
        have hR2 := HR.out.fr HG2.out.fr
        have hO : OwnS w.heap.size w2 a5 lw c5 := ownS_of (c := c5) (by rw [← HLW.out]; exact HG2.out) HF.out.size
        have hkl : k < (flatMp ls).length := by rw [flatM_len, HH.out.1, ← HML.out]; omega
        refine ⟨k + 1, by omega, by go_num, (HF.out.trans HG2.out.fr).setCell (fun h => absurd h (by have := HLO.out; show ¬ ga < w.heap.size; omega)) _, ?_, ?_, (HE.out.fr HG2.out.fr).other hR2 (by decide) (by decide) _ _, (HC.out.fr HG2.out.fr).other hR2 (by decide) (by decide) _ _, (HS.out.fr HG2.out.fr).other hR2 (by decide) _ _, ls.set k ⟨a5, lw, c5⟩, .inr ⟨ga, rfl, HLO.out, ?_⟩, ?_⟩
        · exact ((Fr.refl [ga] w2).setCell (fun _ => by simp) _).heap (by simp; omega) (HG2.out.fr.heap (by simp) HB.out)
        · have hgz : w.heap.size + 1 ≠ ga := by
            have hz : RowB wr (w.heap.size + 1) 34 [.int .u64 0, .int .i64 0, .int .i64 0, .int .i64 0, .int .i64 0, .int .i64 0, .slice none 0 0, .slice none 0 0, .slice none 0 0, .slice none 0 0] := ⟨_, HZ.out, [], by simp⟩
            exact hz.ne HR.out (by decide)
          exact ((Fr.refl [ga] w2).setCell (fun _ => by simp) _).heap (by simp; omega) (HG2.out.fr.heap (by simp) HZ.out)
        · have h9 := hR2.set hkl (Mp.v ⟨a5, lw, c5⟩)
          rw [show flatMp (ls.set k ⟨a5, lw, c5⟩) = (flatMp ls).set k (Mp.v ⟨a5, lw, c5⟩) from List.map_set]
          unfold Mp.v at h9
          simp only [← HLW.out] at h9
          unfold Mp.v
          simp only [← HLW.out]
          exact h9
        · exact (HH.out).step HI2.out (hO.other hR2 (by decide) _ _) (fun b m c hb => (hb.fr HG2.out.fr).other hR2 (by decide) _ _)
      case measure => simp [intOf]; omega
    · have hkn : k = ml := by omega
      have HH2 : Hid (HalfM w.heap.size wr mp ls mp.length) := Lib.hid (by rw [← HML.out, ← hkn]; exact HH.out)
      have HOM : Hid (OwnM w.heap.size wr a4 ls c4) := Lib.hid ⟨by rw [HH2.out.1, ← HML.out]; exact HSK.out, by
        rcases HQ.out with h | ⟨ga, e, hlo, hr⟩
        · refine .inl (List.length_eq_zero_iff.1 ?_)
          rw [HH.out.1, h]
          rfl
        · exact .inr ⟨ga, e, hlo, hr⟩, HH2.out.all⟩
      have hkd : ¬ (k : Int) < (ml : Int) := by omega
      have HRZ : Hid (RowB wr (w.heap.size + 1) 34 [.int .u64 0, .int .i64 0, .int .i64 0, .int .i64 0, .int .i64 0, .int .i64 0, .slice none 0 0, .slice none 0 0, .slice none 0 0, .slice none 0 0]) := Lib.hid ⟨_, HZ.out, [], by simp⟩
      have b0 := cell_of_heap (o := 0) HB.out rfl; have b1 := cell_of_heap (o := 1) HB.out rfl; have b2 := cell_of_heap (o := 2) HB.out rfl; have b3 := cell_of_heap (o := 3) HB.out rfl; have b4 := cell_of_heap (o := 4) HB.out rfl; have b5 := cell_of_heap (o := 5) HB.out rfl; have b6 := cell_of_heap (o := 6) HB.out rfl; have b7 := cell_of_heap (o := 7) HB.out rfl; have b8 := cell_of_heap (o := 8) HB.out rfl; have b9 := cell_of_heap (o := 9) HB.out rfl
      have y0 := cell_of_heap (o := 0) HZ.out rfl; have y1 := cell_of_heap (o := 1) HZ.out rfl; have y2 := cell_of_heap (o := 2) HZ.out rfl; have y3 := cell_of_heap (o := 3) HZ.out rfl; have y4 := cell_of_heap (o := 4) HZ.out rfl; have y5 := cell_of_heap (o := 5) HZ.out rfl; have y6 := cell_of_heap (o := 6) HZ.out rfl; have y7 := cell_of_heap (o := 7) HZ.out rfl; have y8 := cell_of_heap (o := 8) HZ.out rfl; have y9 := cell_of_heap (o := 9) HZ.out rfl
      have z0 := frozen_of_heap (o := 0) HZ.out; have z1 := frozen_of_heap (o := 1) HZ.out; have z2 := frozen_of_heap (o := 2) HZ.out; have z3 := frozen_of_heap (o := 3) HZ.out; have z4 := frozen_of_heap (o := 4) HZ.out; have z5 := frozen_of_heap (o := 5) HZ.out; have z6 := frozen_of_heap (o := 6) HZ.out; have z7 := frozen_of_heap (o := 7) HZ.out; have z8 := frozen_of_heap (o := 8) HZ.out; have z9 := frozen_of_heap (o := 9) HZ.out
      have hw1 := lt_of_heap HZ.out
      clear hkn hlt
      go_wp2_with fail
      refine bodyPost_ret (v := .agg #[.int .u64 method, .int .i64 args, .int .i64 T, .int .i64 R, .int .i64 P, .int .i64 S, .slice a1 el c1, .slice a2 cl c2, .slice a3 sl c3, .slice a4 ml c4]) (by simp [results, Tryz.results24, go_sem]; go_simp) rfl ?_
      refine ⟨⟨method, args, T, R, P, S, a1, l1, c1, a2, l2, c2, a3, st, c3, a4, ls, c4⟩, ?_, ⟨rfl, rfl, rfl, rfl, rfl, rfl, HH1.out.er, HH2i.out.er, rfl, HH2.out.er⟩, ?_, HAP.out, ?_⟩
      · unfold Un.v
        simp only [HH1.out.1, HH2i.out.1, HH2.out.1, ← HEL.out, ← HCL.out, ← HSL.out, ← HML.out]
      · refine (fun (hFZ : Fr [w.heap.size + 1] wr _) => OwnU.mk (HE.out.frx HRZ.out (by decide) (by decide) hFZ) (HC.out.frx HRZ.out (by decide) (by decide) hFZ) (HS.out.frx HRZ.out (by decide) hFZ) (HOM.out.frx HRZ.out (by decide) (by decide) hFZ)) ?_
        iterate 10 (refine Fr.setCell ?_ (fun _ => by simp) _)
        exact Fr.refl _ _
      · iterate 10 (refine Fr.setCell ?_ (fun h => absurd h (by first | (simp; done) | (simp; omega))) _)
        exact HF.out
end Go.Proofs.YtbmfmklalonhiaaGreatDoor
