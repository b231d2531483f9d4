/- ir: the places that an instruction reads. ir: slices.Clone over numbers, sources, maps and instructions. ir.copied: instructions in new memory, with their operands. ir: may a source be? ir: the numbers of a unit, and its ranges. ir.Copy: a unit in new memory. (written by gencopy.py) -/
import Derived.Test.YtomcfjckhajhmabGreatDoorMIrA
import Derived.Test.YtomcfjckhajhmabGreatDoorMPlaces
import Derived.Lib.ItoaMem
import Derived.Deep.RegionHeld3
namespace Go.Proofs.YtomcfjckhajhmabGreatDoor
open Go.RowKit

/-- sources, cell by cell -/
def flatS (l : List Sr) : List Value := l.flatMap fun s => [.int .i64 s.kind, .int .i64 s.n, .int .u64 s.w]
theorem flatS_len (l : List Sr) : (flatS l).length = l.length * 3 := by
  induction l with
  | nil => rfl
  | cons a l ih => rw [show flatS (a :: l) = .int .i64 a.kind :: .int .i64 a.n :: .int .u64 a.w :: flatS l from rfl]; simp [ih]; omega
theorem flatS_snoc (l : List Sr) (s : Sr) : flatS (l ++ [s]) = flatS l ++ [.int .i64 s.kind, .int .i64 s.n, .int .u64 s.w] := by simp [flatS]
theorem flatS_at {l : List Sr} {k : Nat} {s : Sr} (h : l[k]? = some s) : (flatS l)[k * 3]? = some (.int .i64 s.kind) ∧ (flatS l)[k * 3 + 1]? = some (.int .i64 s.n) ∧ (flatS l)[k * 3 + 2]? = some (.int .u64 s.w) := by
  induction l generalizing k with
  | nil => cases h
  | cons a l ih =>
    have e : flatS (a :: l) = .int .i64 a.kind :: .int .i64 a.n :: .int .u64 a.w :: flatS l := rfl
    rw [e]
    cases k with
    | zero => cases h; exact ⟨rfl, rfl, rfl⟩
    | succ k =>
      have := ih (by simpa using h)
      rw [show (k + 1) * 3 = k * 3 + 1 + 1 + 1 by omega]
      simpa [Nat.add_assoc] using this
/-- a row that grows, all in new memory -/
structure IGrows (w : World) (e : TypeId) (size k : Nat) (xs : List Value) (v : Value) (W : World) : Prop where
  row : W.ownsRow 0 e size v k xs
  fr : Fr [] w W
  new : ∀ b, v.ownBlock = some b → w.heap.size ≤ b
theorem IGrows.step {w W W1 w1 : World} {e : TypeId} {size k j : Nat} {xs news : List Value} {v v' : Value} (h : IGrows w e size k xs v W) (hW : Fr [] W W1) (ho : w1.ownsRow 0 e size v' (k + j) (xs ++ news)) (hg : W1.grownBy w1 v.ownBlock) (hf : v'.ownBlock = v.ownBlock ∨ v'.ownBlock = some W1.heap.size) : IGrows w e size (k + j) (xs ++ news) v' w1 := by
  refine ⟨ho, (h.fr.trans hW).grown hg (fun b hb hl => by have := h.new b hb; omega), fun b hb => ?_⟩
  rcases hf with hf | hf
  · exact h.new b (hf ▸ hb)
  · have e := hf.symm.trans hb
    cases e
    exact Nat.le_trans h.fr.size hW.size
theorem IGrows.fr' {w W W1 : World} {e : TypeId} {size k : Nat} {xs : List Value} {v : Value} (h : IGrows w e size k xs v W) (hW : Fr [] W W1) : IGrows w e size k xs v W1 := ⟨hW.row h.row (fun _ _ => by simp), h.fr.trans hW, h.new⟩
theorem irow_shape {w : World} {b size : Nat} {e : TypeId} {v : Value} {n : Nat} {xs : List Value} (h : w.ownsRow b e size v n xs) : ∃ ao cap, v = .slice ao n cap := by
  rcases h.2 with ⟨rfl, rfl⟩ | ⟨g, cap, cur, rfl, _⟩
  · exact ⟨_, _, rfl⟩
  · exact ⟨_, _, rfl⟩
/-- the sources of an owned row -/
theorem srcs_of_row {w : World} {a : Option Addr} {n c : Nat} {l : List Sr} (h : w.ownsRow 0 57 3 (.slice a n c) n (flatS l)) : SrcsAt w a l := by
  intro k s hk
  obtain ⟨f0, f1, f2⟩ := flatS_at hk
  rcases h.2 with ⟨hv, hn⟩ | ⟨g, cap, cur, hv, -⟩
  · have h1 := h.1
    rw [hn, flatS_len] at h1
    have h2 := (List.getElem?_eq_some_iff.1 hk).1
    omega
  · cases hv
    have hc := h.cells (g := g) rfl
    have d0 := hc _ _ f0
    have d1 := hc _ _ f1
    have d2 := hc _ _ f2
    rw [Lib.add_plain] at d0 d1 d2
    refine ⟨g, 0, rfl, d0, ?_, ?_⟩
    · rw [Nat.add_assoc]; exact d1
    · rw [Nat.add_assoc]; exact d2
/-- Returned: the sources, in a new row. -/
def ReadsTo (l : List Sr) (w : World) (e : Ending) (w' : World) : Prop := ∃ v, e = .returned v ∧ IGrows w 57 3 l.length (flatS l) v w'
theorem infoSrc : (Tryz.prog.info? 57).map (fun i => (i.zero, i.size, i.bytes)) = some (some (.agg #[.int .i64 0, .int .i64 0, .int .u64 0]), 3, 24) := by kernel_rfl
theorem filter_snoc {l : List Sr} {k : Nat} {s : Sr} (h : l[k]? = some s) (p : Sr → Bool) : (l.take (k + 1)).filter p = (l.take k).filter p ++ (if p s = true then [s] else []) := by
  rw [take_snoc h, List.filter_append]
  cases hp : p s <;> simp [hp]
set_option maxRecDepth 100000 in
set_option maxHeartbeats 4000000 in
theorem ir_Reads (i : Ii) (w : World) (hI : IB i) (h : SrcsAt w i.la i.l) : Calls Tryz.prog 13 #[i.v] w (ReadsTo (i.l.filter plc) w) := by
  obtain ⟨i0, hi, hz0, hz1, hz2⟩ := info_parts infoSrc
  have HC := Lib.hid (fun s W => ir_Place s W)
  have hll := hI.n
  obtain ⟨op, n, ⟨dk, dn, dw⟩, la, l, lc, x⟩ := i
  unfold Ii.v
  simp only at h hll ⊢
  obtain ⟨ll, hlen⟩ : ∃ n, n = l.length := ⟨_, rfl⟩
  rw [← hlen] at hll ⊢
  have HL := Lib.hid hlen
  have HA := Lib.hid h
  clear h hlen hI
  go_enter Tryz.func13, Tryz.ntmps13
  go_wp2_with fail
  go_loopw [3, 9] (fun v i wr => ∃ k : Nat, k ≤ ll ∧ i = .int .i64 k ∧ Hid (IGrows w 57 3 ((l.take k).filter plc).length (flatS ((l.take k).filter plc)) v wr)) (fun _ i _ => ll - (intOf i).toNat)
  case atStart => exact ⟨0, Nat.zero_le _, rfl, ⟨by simpa [flatS] using World.ownsRow_nil _ _ _ _, (Fr.refl [] w).alloc _, fun b hb => by cases hb⟩⟩
  case round =>
    obtain ⟨k, hk, rfl, HG⟩ := hrel
    obtain ⟨ao, cap, rfl⟩ := irow_shape HG.out.row
    by_cases hlt : k < ll
    · have hkl : k < l.length := by rw [← HL.out]; exact hlt
      obtain ⟨s, hs⟩ : ∃ s, l[k]? = some s := ⟨_, List.getElem?_eq_getElem hkl⟩
      obtain ⟨g, o, rfl, c0, c1, c2⟩ := (HA.out.fr HG.out.fr) k s hs
      have hc := HC.out s
      unfold Sr.v at hc
      have HTq := Lib.hid (filter_snoc hs plc)
      have hm : ((l.take k).filter plc).length ≤ k := Nat.le_trans (List.length_filter_le _ _) (by simp; omega)
      have k0 : (0 : Int) ≤ (k : Int) := by omega
      have k1 : (k : Int) < (ll : Int) := by omega
      have hg : g < wr.heap.size := World.block_lt_of_cell? wr _ c0
      obtain ⟨m, hmm⟩ : ∃ m, m = ((l.take k).filter plc).length := ⟨_, rfl⟩
      rw [← hmm] at HG hm ⊢
      have HM := Lib.hid hmm
      generalize (l.take k).filter plc = fl at *
      obtain ⟨b, hb⟩ : ∃ b, b = plc s := ⟨_, rfl⟩
      simp only [← hb] at hc HTq
      clear hb hkl hs hmm
      cases b
      · have HT2 : Hid ((l.take (k + 1)).filter plc = fl) := Lib.hid (by rw [HTq.out]; simp)
        clear HTq
        go_wp2_with (go_at_call 36; refine (hc _).mono ?_; rintro e w1 ⟨rfl, hF⟩; have HF1 : Hid (Fr [] wr w1) := Lib.hid (((Fr.refl [] wr).alloc _).trans hF); clear hF)
        go_roundw
        case rel => exact ⟨k + 1, by omega, by go_num, Lib.hid (by rw [HT2.out, ← HM.out]; exact HG.out.fr' HF1.out)⟩
        case measure => simp [intOf]; omega
      · have HT2 : Hid ((l.take (k + 1)).filter plc = fl ++ [s]) := Lib.hid (by rw [HTq.out]; simp)
        clear HTq
        go_wp2_with (first
          | (go_at_call 36; refine (hc _).mono ?_; rintro e w1 ⟨rfl, hF⟩; have HF1 : Hid (Fr [] wr w1) := Lib.hid (((Fr.refl [] wr).alloc _).trans hF); have hb1 := hF.heap (by simp) (heap_new wr _); have q0 := cell_of_heap (o := 0) hb1 rfl; have q1 := cell_of_heap (o := 1) hb1 rfl; have q2 := cell_of_heap (o := 2) hb1 rfl; have hw1 := lt_of_heap hb1; have HRW : Hid ((w1.alloc (.cells #[.int .i64 s.kind, .int .i64 s.n, .int .u64 s.w] 57)).ownsRow 0 57 3 (.slice ao m cap) m (flatS fl)) := Lib.hid ((HG.out.fr' (HF1.out.alloc _)).row); have HNW := Lib.hid (heap_new w1 (.cells #[.int .i64 s.kind, .int .i64 s.n, .int .u64 s.w] 57)); clear hF hb1)
          | (at_builtin; refine wpList_append_at _ rfl (.tmp 15) (.tmp 17) 54 rfl 57 i0 _ 3 24 Tryz.underlying54 hi hz0 hz1 hz2 rfl (by decide) (.slice ao m cap) m _ rfl HRW.out ⟨w1.heap.size, 0, none⟩ 1 1 [.int .i64 s.kind, .int .i64 s.n, .int .u64 s.w] rfl rfl (by
              intro j u hj
              rw [Lib.add_plain, Nat.zero_add]
              exact cell_of_heap HNW.out (by simpa using hj)) (by simp [Value.oneCell']) (by unfold maxLen; omega) (by omega) ?_; intro v5 w5 ho5 hg5 hf5; obtain ⟨a5, p5, rfl⟩ := irow_shape ho5; have HGn := Lib.hid (HG.out.step (HF1.out.alloc _) ho5 hg5 hf5); clear ho5 hg5 hf5))
        go_roundw
        case rel => exact ⟨k + 1, by omega, by go_num, Lib.hid (by rw [HT2.out, flatS_snoc, List.length_append, List.length_singleton, ← HM.out]; exact HGn.out)⟩
        case measure => simp [intOf]; omega
    · have hkn : k = ll := by omega
      have HTq : Hid ((l.take k).filter plc = l.filter plc) := Lib.hid (by rw [hkn, HL.out, List.take_length])
      have hkd : ¬ (k : Int) < (ll : Int) := by omega
      clear hkn hlt
      go_wp2_with fail
      go_ret
      exact ⟨_, rfl, by rw [← HTq.out]; exact HG.out⟩
end Go.Proofs.YtomcfjckhajhmabGreatDoor
namespace Go.Proofs.YtomcfjckhajhmabGreatDoor
open Go.RowKit

/-- Returned: these cells, in a new row. -/
def ClonesTo (e' : TypeId) (size n : Nat) (xs : List Value) (w : World) (e : Ending) (w' : World) : Prop := ∃ v, e = .returned v ∧ IGrows w e' size n xs v w'
theorem owns_empty (w : World) (e : TypeId) (size : Nat) : (w.alloc (.cells #[] e)).ownsRow 0 e size (.slice (some ⟨w.heap.size, 0, none⟩) 0 0) 0 [] :=
  ⟨by simp, .inr ⟨w.heap.size, 0, #[], rfl, Nat.zero_le _, heap_new _ _, Nat.le_refl _, Nat.zero_le _, by simp, by simp⟩⟩
theorem grows_empty (w : World) (e : TypeId) (size : Nat) : IGrows w e size 0 [] (.slice (some ⟨w.heap.size, 0, none⟩) 0 0) (w.alloc (.cells #[] e)) :=
  ⟨owns_empty w e size, (Fr.refl [] w).alloc _, fun b hb => by cases hb; exact Nat.le_refl _⟩
theorem clone_grows {w w' : World} {e : TypeId} {size n : Nat} {xs : List Value} {v : Value} (h : w'.ownsRow 0 e size v (0 + n) ([] ++ xs)) (hg : (w.alloc (.cells #[] e)).grownBy w' (Value.slice (some ⟨w.heap.size, 0, none⟩) 0 0).ownBlock) (hf : v.ownBlock = (Value.slice (some ⟨w.heap.size, 0, none⟩) 0 0).ownBlock ∨ v.ownBlock = some (w.alloc (.cells #[] e)).heap.size) : IGrows w e size n xs v w' := by
  have := (grows_empty w e size).step (Fr.refl [] _) h hg hf
  simpa using this
theorem srcs_news {w : World} {a : Addr} {l : List Sr} (h : SrcsAt w (some a) l) : ∀ j u, (flatS l)[j]? = some u → w.cell? (a.add j) = some u := by
  intro j u hj
  have hjl := (List.getElem?_eq_some_iff.1 hj).1
  rw [flatS_len] at hjl
  have hk : j / 3 < l.length := by omega
  have hs : l[j / 3]? = some l[j / 3] := List.getElem?_eq_getElem hk
  obtain ⟨g, o, e, c0, c1, c2⟩ := h _ _ hs
  cases e
  obtain ⟨f0, f1, f2⟩ := flatS_at hs
  rw [Lib.add_plain]
  have hr : j = j / 3 * 3 + j % 3 := by omega
  have h4 : j % 3 = 0 ∨ j % 3 = 1 ∨ j % 3 = 2 := by omega
  rcases h4 with h4 | h4 | h4
  · rw [h4, Nat.add_zero] at hr
    rw [hr] at hj ⊢
    rw [hj] at f0
    rw [Option.some.inj f0]
    exact c0
  · rw [h4] at hr
    rw [hr] at hj ⊢
    rw [hj] at f1
    rw [Option.some.inj f1, ← Nat.add_assoc]
    exact c1
  · rw [h4] at hr
    rw [hr] at hj ⊢
    rw [hj] at f2
    rw [Option.some.inj f2, ← Nat.add_assoc]
    exact c2
theorem flatS_one (l : List Sr) : ∀ u ∈ flatS l, u.oneCell' = true := by
  intro u hu
  simp only [flatS, List.mem_flatMap] at hu
  obtain ⟨s, -, hs⟩ := hu
  simp at hs
  rcases hs with rfl | rfl | rfl <;> rfl
theorem infoInt : (Tryz.prog.info? 3).map (fun i => (i.zero, i.size, i.bytes)) = some (some (.int .i64 0), 1, 8) := by kernel_rfl
theorem infoSrcs : (Tryz.prog.info? 54).map (fun i => (i.zero, i.size, i.bytes)) = some (some (.slice none 0 0), 1, 24) := by kernel_rfl
theorem infoIns7 : (Tryz.prog.info? 59).map (fun i => (i.zero, i.size, i.bytes)) = some (some (.agg #[.int .i64 0, .int .i64 0, .int .i64 0, .int .i64 0, .int .u64 0, .slice none 0 0, .int .u64 0]), 7, 72) := by kernel_rfl
def flatN (l : List Int) : List Value := l.map (Value.int .i64)
def Mp.v (m : Mp) : Value := .slice m.a m.l.length m.c
def flatMp (l : List Mp) : List Value := l.map Mp.v
def flat7 (l : List Ii) : List Value := l.flatMap fun i => [.int .i64 i.op, .int .i64 i.n, .int .i64 i.d.kind, .int .i64 i.d.n, .int .u64 i.d.w, .slice i.la i.l.length i.lc, .int .u64 i.w]
theorem flatN_len (l : List Int) : (flatN l).length = l.length * 1 := by simp [flatN]
theorem flatM_len (l : List Mp) : (flatMp l).length = l.length * 1 := by simp [flatMp]
theorem flatN_one (l : List Int) : ∀ u ∈ flatN l, u.oneCell' = true := by
  intro u hu
  simp only [flatN, List.mem_map] at hu
  obtain ⟨s, -, rfl⟩ := hu
  rfl
theorem flatM_one (l : List Mp) : ∀ u ∈ flatMp l, u.oneCell' = true := by
  intro u hu
  simp only [flatMp, List.mem_map] at hu
  obtain ⟨s, -, rfl⟩ := hu
  rfl
theorem ints_news {w : World} {a : Addr} {l : List Int} (h : IntsAt w (some a) l) : ∀ j u, (flatN l)[j]? = some u → w.cell? (a.add j) = some u := by
  intro j u hj
  simp only [flatN, List.getElem?_map, Option.map_eq_some_iff] at hj
  obtain ⟨s, hs, rfl⟩ := hj
  obtain ⟨g, o, e, c0⟩ := h _ _ hs
  cases e
  rw [Lib.add_plain]
  exact c0
theorem maps_news {w : World} {a : Addr} {l : List Mp} (h : MapsAt w (some a) l) : ∀ j u, (flatMp l)[j]? = some u → w.cell? (a.add j) = some u := by
  intro j u hj
  simp only [flatMp, List.getElem?_map, Option.map_eq_some_iff] at hj
  obtain ⟨s, hs, rfl⟩ := hj
  obtain ⟨⟨g, o, e, c0⟩, -⟩ := h _ _ hs
  cases e
  rw [Lib.add_plain]
  exact c0
theorem flat7_len (l : List Ii) : (flat7 l).length = l.length * 7 := by
  induction l with
  | nil => rfl
  | cons a l ih => rw [show flat7 (a :: l) = .int .i64 a.op :: .int .i64 a.n :: .int .i64 a.d.kind :: .int .i64 a.d.n :: .int .u64 a.d.w :: .slice a.la a.l.length a.lc :: .int .u64 a.w :: flat7 l from rfl]; simp [ih]; omega
theorem flat7_one (l : List Ii) : ∀ u ∈ flat7 l, u.oneCell' = true := by
  intro u hu
  simp only [flat7, List.mem_flatMap] at hu
  obtain ⟨s, -, hs⟩ := hu
  simp at hs
  rcases hs with rfl | rfl | rfl | rfl | rfl | rfl | rfl <;> rfl
theorem flat7_at {l : List Ii} {k : Nat} {i : Ii} (h : l[k]? = some i) (d : Nat) (hd : d < 7) : (flat7 l)[k * 7 + d]? = [Value.int .i64 i.op, .int .i64 i.n, .int .i64 i.d.kind, .int .i64 i.d.n, .int .u64 i.d.w, .slice i.la i.l.length i.lc, .int .u64 i.w][d]? := by
  induction l generalizing k with
  | nil => cases h
  | cons a l ih =>
    have e : flat7 (a :: l) = [Value.int .i64 a.op, .int .i64 a.n, .int .i64 a.d.kind, .int .i64 a.d.n, .int .u64 a.d.w, .slice a.la a.l.length a.lc, .int .u64 a.w] ++ flat7 l := rfl
    rw [e]
    cases k with
    | zero =>
      cases h
      rw [Nat.zero_mul, Nat.zero_add, List.getElem?_append_left (by simp; omega)]
    | succ k =>
      have := ih (by simpa using h)
      rw [List.getElem?_append_right (by simp; omega)]
      rw [← this]
      congr 1
      simp
      omega
theorem inss_news {w : World} {a : Addr} {l : List Ii} (h : InsAt w (some a) l) : ∀ j u, (flat7 l)[j]? = some u → w.cell? (a.add j) = some u := by
  intro j u hj
  have hjl := (List.getElem?_eq_some_iff.1 hj).1
  rw [flat7_len] at hjl
  have hk : j / 7 < l.length := by omega
  have hs : l[j / 7]? = some l[j / 7] := List.getElem?_eq_getElem hk
  obtain ⟨⟨g, o, e, c0, c1, c2, c3, c4, c5, c6⟩, -⟩ := h _ _ hs
  cases e
  have hf := flat7_at hs (j % 7) (by omega)
  have hr : j / 7 * 7 + j % 7 = j := by omega
  rw [hr, hj] at hf
  rw [Lib.add_plain, ← hr]
  have h4 : j % 7 = 0 ∨ j % 7 = 1 ∨ j % 7 = 2 ∨ j % 7 = 3 ∨ j % 7 = 4 ∨ j % 7 = 5 ∨ j % 7 = 6 := by omega
  rcases h4 with h4 | h4 | h4 | h4 | h4 | h4 | h4
  all_goals
    rw [h4] at hf ⊢
    simp at hf
    subst hf
    first | exact c0 | (rw [← Nat.add_assoc]; first | exact c1 | exact c2 | exact c3 | exact c4 | exact c5 | exact c6)
end Go.Proofs.YtomcfjckhajhmabGreatDoor
namespace Go.Proofs.YtomcfjckhajhmabGreatDoor
open Go.RowKit

/-- The same instructions, in other places. -/
structure SameI (i j : Ii) : Prop where
  op : j.op = i.op
  n : j.n = i.n
  d : j.d = i.d
  l : j.l = i.l
  w : j.w = i.w
theorem SameI.refl (i : Ii) : SameI i i := ⟨rfl, rfl, rfl, rfl, rfl⟩
/-- a block that begins with these cells -/
def RowB (w : World) (g : Nat) (T : TypeId) (vals : List Value) : Prop := ∃ cur : Array Value, w.heap[g]? = some (.cells cur T (0, 0)) ∧ ∃ rest, cur.toList = vals ++ rest
theorem RowB.fr {w w' : World} {g : Nat} {T : TypeId} {vals : List Value} (h : RowB w g T vals) (hF : Fr [] w w') : RowB w' g T vals :=
  let ⟨cur, hc, hr⟩ := h
  ⟨cur, hF.heap (by simp) hc, hr⟩
theorem RowB.cell {w : World} {g : Nat} {T : TypeId} {vals : List Value} (h : RowB w g T vals) {k : Nat} {v : Value} (hk : vals[k]? = some v) : w.cell? ⟨g, k, none⟩ = some v := by
  obtain ⟨cur, hc, rest, hr⟩ := h
  refine cell_of_heap hc ?_
  rw [← Array.getElem?_toList, hr, List.getElem?_append_left (List.getElem?_eq_some_iff.1 hk).1]
  exact hk
theorem RowB.frozen {w : World} {g : Nat} {T : TypeId} {vals : List Value} (h : RowB w g T vals) (k : Nat) : w.frozen? ⟨g, k, none⟩ = false := by
  obtain ⟨cur, hc, -⟩ := h
  exact frozen_of_heap hc
theorem RowB.lt {w : World} {g : Nat} {T : TypeId} {vals : List Value} (h : RowB w g T vals) : g < w.heap.size := by
  obtain ⟨cur, hc, -⟩ := h
  exact lt_of_heap hc
theorem RowB.set {w : World} {g : Nat} {T : TypeId} {vals : List Value} (h : RowB w g T vals) {k : Nat} (hk : k < vals.length) (v : Value) : RowB (w.setCell ⟨g, k, none⟩ v) g T (vals.set k v) := by
  obtain ⟨cur, hc, rest, hr⟩ := h
  refine ⟨_, heap_setCell_same hc v, rest, ?_⟩
  rw [Array.toList_setIfInBounds, hr, List.set_append_left _ _ hk]
theorem RowB.other {w : World} {g g2 : Nat} {T : TypeId} {vals : List Value} (h : RowB w g T vals) (hne : g ≠ g2) (k : Nat) (v : Value) : RowB (w.setCell ⟨g2, k, none⟩ v) g T vals := by
  obtain ⟨cur, hc, hr⟩ := h
  exact ⟨cur, by rw [Below.heap_setCell _ _ _ _ hne]; exact hc, hr⟩
theorem RowB.ne {w : World} {g g2 : Nat} {T T2 : TypeId} {vals vals2 : List Value} (h : RowB w g T vals) (h2 : RowB w g2 T2 vals2) (hT : T ≠ T2) : g ≠ g2 := by
  rintro rfl
  obtain ⟨cur, hc, -⟩ := h
  obtain ⟨cur2, hc2, -⟩ := h2
  rw [hc] at hc2
  cases hc2
  exact hT rfl
/-- a row of one's own, out of a row that grew -/
theorem rowB_of {w w' : World} {e : TypeId} {size n : Nat} {xs : List Value} {a : Option Addr} {c : Nat} (h : IGrows w e size n xs (.slice a n c) w') (h0 : 0 < n) : ∃ g, a = some ⟨g, 0, none⟩ ∧ w.heap.size ≤ g ∧ RowB w' g e xs := by
  have hl := h.row.1
  rcases h.row.2 with ⟨hv, hn⟩ | ⟨g, cap, cur, hv, -, hg, -, -, -, ht⟩
  · omega
  · cases hv
    refine ⟨g, rfl, h.new g rfl, cur, hg, cur.toList.drop (n * size), ?_⟩
    rw [← ht, List.take_append_drop]
/-- sources of one's own -/
def OwnS (lo : Nat) (w : World) (a : Option Addr) (l : List Sr) (c : Nat) : Prop := SlOk a l.length c ∧ (l = [] ∨ ∃ g, a = some ⟨g, 0, none⟩ ∧ lo ≤ g ∧ RowB w g 57 (flatS l))
theorem OwnS.fr {lo : Nat} {w w' : World} {a : Option Addr} {l : List Sr} {c : Nat} (h : OwnS lo w a l c) (hF : Fr [] w w') : OwnS lo w' a l c :=
  ⟨h.1, h.2.imp id fun ⟨g, e, hl, hr⟩ => ⟨g, e, hl, hr.fr hF⟩⟩
theorem OwnS.at {lo : Nat} {w : World} {a : Option Addr} {l : List Sr} {c : Nat} (h : OwnS lo w a l c) : SrcsAt w a l := by
  intro k s hk
  rcases h.2 with rfl | ⟨g, rfl, -, hr⟩
  · simp at hk
  · obtain ⟨f0, f1, f2⟩ := flatS_at hk
    refine ⟨g, 0, rfl, ?_, ?_, ?_⟩
    · rw [Nat.zero_add]; exact hr.cell f0
    · rw [Nat.zero_add]; exact hr.cell f1
    · rw [Nat.zero_add]; exact hr.cell f2
theorem OwnS.other {lo : Nat} {w : World} {a : Option Addr} {l : List Sr} {c : Nat} (h : OwnS lo w a l c) {g2 : Nat} {T2 : TypeId} {vals2 : List Value} (h2 : RowB w g2 T2 vals2) (hT : (57 : TypeId) ≠ T2) (k : Nat) (v : Value) : OwnS lo (w.setCell ⟨g2, k, none⟩ v) a l c :=
  ⟨h.1, h.2.imp id fun ⟨g, e, hl, hr⟩ => ⟨g, e, hl, hr.other (hr.ne h2 hT) k v⟩⟩
/-- a row that grew is a slice as slices are -/
theorem slok_of {w w' : World} {e : TypeId} {size n : Nat} {xs : List Value} {a : Option Addr} {c : Nat} (h : IGrows w e size n xs (.slice a n c) w') : SlOk a n c := by
  rcases h.row.2 with ⟨hv, hn⟩ | ⟨g, cap, cur, hv, -, -, hle, hmx, -⟩
  · cases hv
    exact ⟨fun _ => ⟨hn, rfl⟩, by omega, Nat.zero_le _⟩
  · cases hv
    exact ⟨fun h => (by cases h), hle, hmx⟩
theorem ownS_of {w w' : World} {l : List Sr} {a : Option Addr} {c : Nat} (h : IGrows w 57 3 l.length (flatS l) (.slice a l.length c) w') {lo : Nat} (hlo : lo ≤ w.heap.size) : OwnS lo w' a l c := by
  refine ⟨slok_of h, ?_⟩
  by_cases h0 : l = []
  · exact .inl h0
  · obtain ⟨g, e, hg, hr⟩ := rowB_of h (List.length_pos_iff.2 h0)
    exact .inr ⟨g, e, by omega, hr⟩
/-- a block of so many cells -/
def CapB (w : World) (g N : Nat) : Prop := ∃ (cur : Array Value) (T : TypeId) (f : Nat × Nat), w.heap[g]? = some (.cells cur T f) ∧ cur.size = N
theorem CapB.fr {w w' : World} {g N : Nat} (h : CapB w g N) (hF : Fr [] w w') : CapB w' g N :=
  let ⟨cur, T, f, hc, hs⟩ := h
  ⟨cur, T, f, hF.heap (by simp) hc, hs⟩
theorem CapB.frx {w w' : World} {g g2 N : Nat} (h : CapB w g N) (hne : g ≠ g2) (hF : Fr [g2] w w') : CapB w' g N :=
  let ⟨cur, T, f, hc, hs⟩ := h
  ⟨cur, T, f, hF.heap (by simp [hne]) hc, hs⟩
theorem CapB.set {w : World} {g N : Nat} (h : CapB w g N) (b o : Nat) (v : Value) : CapB (w.setCell ⟨b, o, none⟩ v) g N := by
  obtain ⟨cur, T, f, hc, hs⟩ := h
  by_cases hb : g = b
  · subst hb
    exact ⟨cur.setIfInBounds o v, T, f, heap_setCell_same hc v, by simp [hs]⟩
  · exact ⟨cur, T, f, by rw [Below.heap_setCell _ _ _ _ hb]; exact hc, hs⟩
theorem capB_of {w w' : World} {e : TypeId} {size n : Nat} {xs : List Value} {g c : Nat} (h : IGrows w e size n xs (.slice (some ⟨g, 0, none⟩) n c) w') : CapB w' g (c * size) := by
  rcases h.row.2 with ⟨hv, hn⟩ | ⟨g', cap, cur, hv, -, hg, -, -, hsz, -⟩
  · cases hv
  · cases hv
    exact ⟨cur, e, (0, 0), hg, hsz⟩
theorem rowB_any {w w' : World} {e : TypeId} {size n : Nat} {xs : List Value} {a : Option Addr} {c : Nat} (h : IGrows w e size n xs (.slice a n c) w') : (a = none ∧ c = 0 ∧ n = 0) ∨ ∃ g, a = some ⟨g, 0, none⟩ ∧ w.heap.size ≤ g ∧ RowB w' g e xs ∧ CapB w' g (c * size) := by
  rcases h.row.2 with ⟨hv, hn⟩ | ⟨g, cap, cur, hv, -, hg, -, -, hsz, ht⟩
  · cases hv
    exact .inl ⟨rfl, rfl, hn⟩
  · cases hv
    refine .inr ⟨g, rfl, h.new g rfl, ⟨cur, hg, cur.toList.drop (n * size), ?_⟩, cur, e, (0, 0), hg, hsz⟩
    rw [← ht, List.take_append_drop]
/-- instructions of one's own, with their operands -/
def OwnI (lo : Nat) (w : World) (a : Option Addr) (l : List Ii) (c : Nat) : Prop := SlOk a l.length c ∧ ((a = none ∧ c = 0 ∧ l = []) ∨ ∃ g, a = some ⟨g, 0, none⟩ ∧ lo ≤ g ∧ RowB w g 59 (flat7 l) ∧ CapB w g (c * 7)) ∧ ∀ i ∈ l, OwnS lo w i.la i.l i.lc
theorem OwnI.fr {lo : Nat} {w w' : World} {a : Option Addr} {l : List Ii} {c : Nat} (h : OwnI lo w a l c) (hF : Fr [] w w') : OwnI lo w' a l c :=
  ⟨h.1, h.2.1.imp id fun ⟨g, e, hl, hr, hc⟩ => ⟨g, e, hl, hr.fr hF, hc.fr hF⟩, fun i hi => (h.2.2 i hi).fr hF⟩
theorem OwnI.at {lo : Nat} {w : World} {a : Option Addr} {l : List Ii} {c : Nat} (h : OwnI lo w a l c) : InsAt w a l := by
  intro k i hk
  refine ⟨?_, (h.2.2 i (List.mem_of_getElem? hk)).at⟩
  rcases h.2.1 with ⟨-, -, rfl⟩ | ⟨g, rfl, -, hr, -⟩
  · simp at hk
  · have hf := fun d hd => flat7_at hk d hd
    refine ⟨g, 0, rfl, ?_, ?_, ?_, ?_, ?_, ?_, ?_⟩
    · rw [Nat.zero_add]; exact hr.cell (hf 0 (by omega))
    · rw [Nat.zero_add]; exact hr.cell (hf 1 (by omega))
    · rw [Nat.zero_add]; exact hr.cell (hf 2 (by omega))
    · rw [Nat.zero_add]; exact hr.cell (hf 3 (by omega))
    · rw [Nat.zero_add]; exact hr.cell (hf 4 (by omega))
    · rw [Nat.zero_add]; exact hr.cell (hf 5 (by omega))
    · rw [Nat.zero_add]; exact hr.cell (hf 6 (by omega))
theorem flat7_set : ∀ (l : List Ii) (k : Nat) (i : Ii) (la : Option Addr) (lc : Nat), l[k]? = some i → flat7 (l.set k ⟨i.op, i.n, i.d, la, i.l, lc, i.w⟩) = (flat7 l).set (k * 7 + 5) (.slice la i.l.length lc)
  | [], k, i, la, lc, h => by simp at h
  | a :: l, 0, i, la, lc, h => by
    simp at h
    subst h
    rfl
  | a :: l, k + 1, i, la, lc, h => by
    have e : flat7 (a :: l) = [Value.int .i64 a.op, .int .i64 a.n, .int .i64 a.d.kind, .int .i64 a.d.n, .int .u64 a.d.w, .slice a.la a.l.length a.lc, .int .u64 a.w] ++ flat7 l := rfl
    rw [List.set_cons_succ, e, List.set_append_right _ _ (by simp; omega)]
    rw [show (k + 1) * 7 + 5 - [Value.int .i64 a.op, .int .i64 a.n, .int .i64 a.d.kind, .int .i64 a.d.n, .int .u64 a.d.w, .slice a.la a.l.length a.lc, .int .u64 a.w].length = k * 7 + 5 by simp; omega]
    rw [← flat7_set l k i la lc (by simpa using h)]
    rfl
/-- how far the operands were copied -/
def Half (lo : Nat) (w : World) (l ls : List Ii) (k : Nat) : Prop := ls.length = l.length ∧ ∀ j i, l[j]? = some i → ∃ i', ls[j]? = some i' ∧ SameI i i' ∧ (j < k → OwnS lo w i'.la i'.l i'.lc) ∧ (k ≤ j → i' = i)
theorem Half.start (lo : Nat) (w : World) (l : List Ii) : Half lo w l l 0 := ⟨rfl, fun j i h => ⟨i, h, SameI.refl i, fun hj => absurd hj (by omega), fun _ => rfl⟩⟩
theorem Half.step {lo : Nat} {w w' : World} {l ls : List Ii} {k : Nat} {i : Ii} {la : Option Addr} {lc : Nat} (h : Half lo w l ls k) (hi : l[k]? = some i) (hO : OwnS lo w' la i.l lc) (hk : ∀ a m c, OwnS lo w a m c → OwnS lo w' a m c) : Half lo w' l (ls.set k ⟨i.op, i.n, i.d, la, i.l, lc, i.w⟩) (k + 1) := by
  refine ⟨by rw [List.length_set]; exact h.1, fun j q hj => ?_⟩
  have hkl := (List.getElem?_eq_some_iff.1 hi).1
  by_cases hjk : j = k
  · subst hjk
    rw [hi] at hj
    cases hj
    exact ⟨_, List.getElem?_set_self (by rw [h.1]; exact hkl), ⟨rfl, rfl, rfl, rfl, rfl⟩, fun _ => hO, fun h => absurd h (by omega)⟩
  · obtain ⟨i', h1, h2, h3, h4⟩ := h.2 j q hj
    exact ⟨i', by rw [List.getElem?_set_ne (fun e => hjk e.symm)]; exact h1, h2, fun hl => hk _ _ _ (h3 (by omega)), fun hl => h4 (by omega)⟩
/-- Returned: the same instructions, in new memory. -/
def CopiesI (l : List Ii) (w : World) (e : Ending) (w' : World) : Prop := ∃ a c ls, e = .returned (.slice a l.length c) ∧ Half w.heap.size w' l ls l.length ∧ OwnI w.heap.size w' a ls c ∧ Fr [] w w'
theorem Half.all {lo : Nat} {w : World} {l ls : List Ii} (h : Half lo w l ls l.length) : ∀ i ∈ ls, OwnS lo w i.la i.l i.lc := by
  intro i hi
  obtain ⟨j, hj⟩ := List.getElem?_of_mem hi
  have hjl := (List.getElem?_eq_some_iff.1 hj).1
  rw [h.1] at hjl
  obtain ⟨i', h1, -, h3, -⟩ := h.2 j _ (List.getElem?_eq_getElem hjl)
  rw [hj] at h1
  cases h1
  exact h3 hjl
end Go.Proofs.YtomcfjckhajhmabGreatDoor
namespace Go.Proofs.YtomcfjckhajhmabGreatDoor
open Go.RowKit

/-- how many there are of what is named by a number -/
def rgV (R P S M : Int) : Value := .agg #[.int .i64 R, .int .i64 P, .int .i64 S, .int .i64 M]
set_option maxHeartbeats 1000000 in
theorem ir_isSource (R P S M : Int) (s : Sr) (w : World) : Calls Tryz.prog 66 #[rgV R P S M, s.v] w (Still (.bool (srcOk R P s)) w) := by
  have hc := fun W => ir_Place s W
  obtain ⟨k, n, x⟩ := s
  unfold rgV Sr.v
  simp only [Sr.v] at hc ⊢
  obtain ⟨b, hb⟩ : ∃ b, b = plc ⟨k, n, x⟩ := ⟨_, rfl⟩
  obtain ⟨c, hd⟩ : ∃ c, c = srcOk R P ⟨k, n, x⟩ := ⟨_, rfl⟩
  simp only [← hb] at hc
  simp only [← hd]
  have HB : Hid (b = true ↔ (k = 0 ∨ k = 3) ∧ 0 ≤ n ∧ x = 0) := Lib.hid (by rw [hb]; simp [plc])
  have HC : Hid (c = true ↔ ((k = 0 ∧ 0 ≤ n ∧ n < R ∧ x = 0) ∨ (k = 1 ∧ n = 0 ∧ x ≠ 0) ∨ (k = 2 ∧ n = 0 ∧ x = 0) ∨ (k = 3 ∧ 0 ≤ n ∧ n < P ∧ x = 0))) := Lib.hid (by rw [hd]; simp [srcOk])
  clear hb hd
  have hk : k = 0 ∨ k = 3 ∨ k = 1 ∨ k = 2 ∨ (k ≠ 0 ∧ k ≠ 3 ∧ k ≠ 1 ∧ k ≠ 2) := by omega
  rcases hk with rfl | rfl | rfl | rfl | ⟨h0, h1, h2, h3⟩
  · cases b
    all_goals
      go_enter Tryz.func66, Tryz.ntmps66
      go_wp2_with (go_at_call 36; refine (hc _).mono ?_; rintro e w1 ⟨rfl, hF⟩; have hb1 := hF.heap (by simp) (hp1 _ _ _); have hb2 := hF.heap (by simp) (hp2 _ _ _); have k0 := cell_of_heap (o := 0) hb1 rfl; have k1 := cell_of_heap (o := 1) hb1 rfl; have k2 := cell_of_heap (o := 2) hb1 rfl; have k3 := cell_of_heap (o := 3) hb1 rfl; have r0 := cell_of_heap (o := 0) hb2 rfl; have r1 := cell_of_heap (o := 1) hb2 rfl; have r2 := cell_of_heap (o := 2) hb2 rfl; have HF := Lib.hid hF; clear hF hb1 hb2)
      all_goals (go_ret; exact ⟨ret1 (vb (by have h1 := HC.out; have h2 := HB.out; rw [Bool.eq_iff_iff, h1]; simp at *; omega)), by (repeat (first | (with_reducible refine Fr.setCell ?_ (fun h => absurd h (Nat.lt_irrefl _)) _) | (with_reducible refine Fr.setCell ?_ (fun h => absurd h (by first | omega | (simp; done) | (simp; omega) | (dsimp only; omega))) _) | (with_reducible refine Fr.alloc ?_ _) | (with_reducible refine Fr.drew ?_) | (with_reducible refine Fr.drewN ?_ _) | (with_reducible exact (((Fr.refl [] w).alloc _).alloc _).trans HF.out)))⟩)
  · cases b
    all_goals
      go_enter Tryz.func66, Tryz.ntmps66
      go_wp2_with (go_at_call 36; refine (hc _).mono ?_; rintro e w1 ⟨rfl, hF⟩; have hb1 := hF.heap (by simp) (hp1 _ _ _); have hb2 := hF.heap (by simp) (hp2 _ _ _); have k0 := cell_of_heap (o := 0) hb1 rfl; have k1 := cell_of_heap (o := 1) hb1 rfl; have k2 := cell_of_heap (o := 2) hb1 rfl; have k3 := cell_of_heap (o := 3) hb1 rfl; have r0 := cell_of_heap (o := 0) hb2 rfl; have r1 := cell_of_heap (o := 1) hb2 rfl; have r2 := cell_of_heap (o := 2) hb2 rfl; have HF := Lib.hid hF; clear hF hb1 hb2)
      all_goals (go_ret; exact ⟨ret1 (vb (by have h1 := HC.out; have h2 := HB.out; rw [Bool.eq_iff_iff, h1]; simp at *; omega)), by (repeat (first | (with_reducible refine Fr.setCell ?_ (fun h => absurd h (Nat.lt_irrefl _)) _) | (with_reducible refine Fr.setCell ?_ (fun h => absurd h (by first | omega | (simp; done) | (simp; omega) | (dsimp only; omega))) _) | (with_reducible refine Fr.alloc ?_ _) | (with_reducible refine Fr.drew ?_) | (with_reducible refine Fr.drewN ?_ _) | (with_reducible exact (((Fr.refl [] w).alloc _).alloc _).trans HF.out)))⟩)
  · go_enter Tryz.func66, Tryz.ntmps66
    go_wp2
    all_goals (go_ret; exact ⟨ret1 (vb (by have h1 := HC.out; rw [Bool.eq_iff_iff, h1]; simp; try omega)), by (repeat (first | (with_reducible refine Fr.setCell ?_ (fun h => absurd h (Nat.lt_irrefl _)) _) | (with_reducible refine Fr.setCell ?_ (fun h => absurd h (by first | omega | (simp; done) | (simp; omega) | (dsimp only; omega))) _) | (with_reducible refine Fr.alloc ?_ _) | (with_reducible refine Fr.drew ?_) | (with_reducible refine Fr.drewN ?_ _) | (with_reducible exact Fr.refl [] w)))⟩)
  · go_enter Tryz.func66, Tryz.ntmps66
    go_wp2
    all_goals (go_ret; exact ⟨ret1 (vb (by have h1 := HC.out; rw [Bool.eq_iff_iff, h1]; simp; try omega)), by (repeat (first | (with_reducible refine Fr.setCell ?_ (fun h => absurd h (Nat.lt_irrefl _)) _) | (with_reducible refine Fr.setCell ?_ (fun h => absurd h (by first | omega | (simp; done) | (simp; omega) | (dsimp only; omega))) _) | (with_reducible refine Fr.alloc ?_ _) | (with_reducible refine Fr.drew ?_) | (with_reducible refine Fr.drewN ?_ _) | (with_reducible exact Fr.refl [] w)))⟩)
  · have HN : Hid (c = false) := Lib.hid (by
      cases c
      · rfl
      · have := HC.out.1 rfl; omega)
    go_enter Tryz.func66, Tryz.ntmps66
    go_wp2
    go_ret
    exact ⟨ret1 (vb HN.out.symm), by (repeat (first | (with_reducible refine Fr.setCell ?_ (fun h => absurd h (Nat.lt_irrefl _)) _) | (with_reducible refine Fr.setCell ?_ (fun h => absurd h (by first | omega | (simp; done) | (simp; omega) | (dsimp only; omega))) _) | (with_reducible refine Fr.alloc ?_ _) | (with_reducible refine Fr.drew ?_) | (with_reducible refine Fr.drewN ?_ _) | (with_reducible exact Fr.refl [] w)))⟩
end Go.Proofs.YtomcfjckhajhmabGreatDoor
namespace Go.Proofs.YtomcfjckhajhmabGreatDoor
open Go.RowKit

theorem six (a b c d e : Bool) : a = false ∨ (a = true ∧ b = false) ∨ (a = true ∧ b = true ∧ c = false) ∨ (a = true ∧ b = true ∧ c = true ∧ d = false) ∨ (a = true ∧ b = true ∧ c = true ∧ d = true ∧ e = false) ∨ (a = true ∧ b = true ∧ c = true ∧ d = true ∧ e = true) := by
  cases a <;> cases b <;> cases c <;> cases d <;> cases e <;> simp
set_option maxRecDepth 100000 in
set_option maxHeartbeats 1000000 in
theorem ir_rangesOf (u : Un) (w : World) : Calls Tryz.prog 45 #[u.v] w (Still (rgV u.regs u.spills u.sites u.maps.length) w) := by
  obtain ⟨method, args, temps, R, P, S, ea, en, ec, ca, co, cc, sa, st, sc, ma, mp, mc⟩ := u
  unfold Un.v rgV
  simp only
  generalize en.length = el at *
  generalize co.length = cl at *
  generalize st.length = sl at *
  generalize mp.length = ml at *
  go_enter Tryz.func45, Tryz.ntmps45
  go_wp2
  exact bodyPost_ret (v := .agg #[.int .i64 R, .int .i64 P, .int .i64 S, .int .i64 ml]) (by simp [results, Tryz.results45, go_sem]) rfl ⟨rfl, by (repeat (first | (with_reducible refine Fr.setCell ?_ (fun h => absurd h (Nat.lt_irrefl _)) _) | (with_reducible refine Fr.setCell ?_ (fun h => absurd h (by first | omega | (simp; done) | (simp; omega) | (dsimp only; omega))) _) | (with_reducible refine Fr.alloc ?_ _) | (with_reducible refine Fr.drew ?_) | (with_reducible refine Fr.drewN ?_ _) | (with_reducible exact Fr.refl [] w)))⟩
set_option maxRecDepth 100000 in
set_option maxHeartbeats 1000000 in
theorem ir_areNumbers (u : Un) (w : World) : Calls Tryz.prog 22 #[u.v] w (Still (.bool (numsOk u)) w) := by
  have h1 := fun W => ir_within u.args 0 4 W
  have h2 := fun W => ir_within u.temps u.args 16 W
  have h3 := fun W => ir_within u.regs 0 4096 W
  have h4 := fun W => ir_within u.spills 0 4096 W
  have h5 := fun W => ir_within u.sites 0 128 W
  unfold numsOk
  obtain ⟨b1, hb1⟩ : ∃ b, b = wtn u.args 0 4 := ⟨_, rfl⟩
  obtain ⟨b2, hb2⟩ : ∃ b, b = wtn u.temps u.args 16 := ⟨_, rfl⟩
  obtain ⟨b3, hb3⟩ : ∃ b, b = wtn u.regs 0 4096 := ⟨_, rfl⟩
  obtain ⟨b4, hb4⟩ : ∃ b, b = wtn u.spills 0 4096 := ⟨_, rfl⟩
  obtain ⟨b5, hb5⟩ : ∃ b, b = wtn u.sites 0 128 := ⟨_, rfl⟩
  simp only [← hb1, ← hb2, ← hb3, ← hb4, ← hb5] at h1 h2 h3 h4 h5 ⊢
  clear hb1 hb2 hb3 hb4 hb5
  obtain ⟨method, args, temps, R, P, S, ea, en, ec, ca, co, cc, sa, st, sc, ma, mp, mc⟩ := u
  unfold Un.v
  simp only at h1 h2 h3 h4 h5 ⊢
  generalize en.length = el at *
  generalize co.length = cl at *
  generalize st.length = sl at *
  generalize mp.length = ml at *
  have hm : decide (method ≠ 0) = false ∧ method = 0 ∨ decide (method ≠ 0) = true ∧ (method == 0) = false ∧ (method != 0) = true := by
    by_cases h : method = 0
    · exact .inl (by simp [h])
    · exact .inr (by simp [h])
  rcases hm with ⟨hm, rfl⟩ | ⟨hm, hm1, hm2⟩
  · rw [hm]
    clear hm
    simp only [Bool.false_and]
    go_enter Tryz.func22, Tryz.ntmps22
    go_wp2_with fail
    go_ret
    exact ⟨rfl, by (repeat (first | (with_reducible refine Fr.setCell ?_ (fun h => absurd h (Nat.lt_irrefl _)) _) | (with_reducible refine Fr.setCell ?_ (fun h => absurd h (by first | omega | (simp; done) | (simp; omega) | (dsimp only; omega))) _) | (with_reducible refine Fr.alloc ?_ _) | (with_reducible refine Fr.drew ?_) | (with_reducible refine Fr.drewN ?_ _) | (with_reducible exact Fr.refl [] w)))⟩
  · rw [hm]
    clear hm
    rcases six b1 b2 b3 b4 b5 with rfl | ⟨rfl, rfl⟩ | ⟨rfl, rfl, rfl⟩ | ⟨rfl, rfl, rfl, rfl⟩ | ⟨rfl, rfl, rfl, rfl, rfl⟩ | ⟨rfl, rfl, rfl, rfl, rfl⟩
    case inr.inr.inr.inr.inr =>
      simp only [Bool.true_and]
      go_enter Tryz.func22, Tryz.ntmps22
      go_wp2_with (first
        | (go_at_call 44; (with_reducible refine (h1 _).mono ?_); rintro e w' ⟨rfl, rfl⟩)
        | (go_at_call 44; (with_reducible refine (h2 _).mono ?_); rintro e w' ⟨rfl, rfl⟩)
        | (go_at_call 44; (with_reducible refine (h3 _).mono ?_); rintro e w' ⟨rfl, rfl⟩)
        | (go_at_call 44; (with_reducible refine (h4 _).mono ?_); rintro e w' ⟨rfl, rfl⟩)
        | (go_at_call 44; (with_reducible refine (h5 _).mono ?_); rintro e w' ⟨rfl, rfl⟩))
      go_ret
      exact ⟨rfl, by (repeat (first | (with_reducible refine Fr.setCell ?_ (fun h => absurd h (Nat.lt_irrefl _)) _) | (with_reducible refine Fr.setCell ?_ (fun h => absurd h (by first | omega | (simp; done) | (simp; omega) | (dsimp only; omega))) _) | (with_reducible refine Fr.alloc ?_ _) | (with_reducible refine Fr.drew ?_) | (with_reducible refine Fr.drewN ?_ _) | (with_reducible exact Fr.refl [] w)))⟩
    all_goals
      simp only [Bool.true_and, Bool.false_and, Bool.and_false]
      go_enter Tryz.func22, Tryz.ntmps22
      go_wp2_with (first
        | (go_at_call 44; (with_reducible refine (h1 _).mono ?_); rintro e w' ⟨rfl, rfl⟩)
        | (go_at_call 44; (with_reducible refine (h2 _).mono ?_); rintro e w' ⟨rfl, rfl⟩)
        | (go_at_call 44; (with_reducible refine (h3 _).mono ?_); rintro e w' ⟨rfl, rfl⟩)
        | (go_at_call 44; (with_reducible refine (h4 _).mono ?_); rintro e w' ⟨rfl, rfl⟩)
        | (go_at_call 44; (with_reducible refine (h5 _).mono ?_); rintro e w' ⟨rfl, rfl⟩))
      go_ret
      exact ⟨rfl, by (repeat (first | (with_reducible refine Fr.setCell ?_ (fun h => absurd h (Nat.lt_irrefl _)) _) | (with_reducible refine Fr.setCell ?_ (fun h => absurd h (by first | omega | (simp; done) | (simp; omega) | (dsimp only; omega))) _) | (with_reducible refine Fr.alloc ?_ _) | (with_reducible refine Fr.drew ?_) | (with_reducible refine Fr.drewN ?_ _) | (with_reducible exact Fr.refl [] w)))⟩
end Go.Proofs.YtomcfjckhajhmabGreatDoor
namespace Go.Proofs.YtomcfjckhajhmabGreatDoor
open Go.RowKit

/-- numbers of one's own -/
def OwnN (lo : Nat) (w : World) (a : Option Addr) (l : List Int) (c : Nat) : Prop := SlOk a l.length c ∧ (l = [] ∨ ∃ g, a = some ⟨g, 0, none⟩ ∧ lo ≤ g ∧ RowB w g 3 (flatN l))
theorem OwnN.fr {lo : Nat} {w w' : World} {a : Option Addr} {l : List Int} {c : Nat} (h : OwnN lo w a l c) (hF : Fr [] w w') : OwnN lo w' a l c := ⟨h.1, h.2.imp id fun ⟨g, e, hl, hr⟩ => ⟨g, e, hl, hr.fr hF⟩⟩
theorem OwnN.at {lo : Nat} {w : World} {a : Option Addr} {l : List Int} {c : Nat} (h : OwnN lo w a l c) : IntsAt w a l := by
  intro k s hk
  rcases h.2 with rfl | ⟨g, rfl, -, hr⟩
  · simp at hk
  · exact ⟨g, 0, rfl, by rw [Nat.zero_add]; exact hr.cell (by simp [flatN, hk])⟩
theorem OwnN.other {lo : Nat} {w : World} {a : Option Addr} {l : List Int} {c : Nat} (h : OwnN lo w a l c) {g2 : Nat} {T2 : TypeId} {vals2 : List Value} (h2 : RowB w g2 T2 vals2) (hT : (3 : TypeId) ≠ T2) (k : Nat) (v : Value) : OwnN lo (w.setCell ⟨g2, k, none⟩ v) a l c :=
  ⟨h.1, h.2.imp id fun ⟨g, e, hl, hr⟩ => ⟨g, e, hl, hr.other (hr.ne h2 hT) k v⟩⟩
theorem OwnI.other {lo : Nat} {w : World} {a : Option Addr} {l : List Ii} {c : Nat} (h : OwnI lo w a l c) {g2 : Nat} {T2 : TypeId} {vals2 : List Value} (h2 : RowB w g2 T2 vals2) (hT : (59 : TypeId) ≠ T2) (hT2 : (57 : TypeId) ≠ T2) (k : Nat) (v : Value) : OwnI lo (w.setCell ⟨g2, k, none⟩ v) a l c :=
  ⟨h.1, h.2.1.imp id fun ⟨g, e, hl, hr, hc⟩ => ⟨g, e, hl, hr.other (hr.ne h2 hT) k v, hc.set _ _ _⟩, fun i hi => (h.2.2 i hi).other h2 hT2 k v⟩
/-- maps of one's own -/
def OwnM (lo : Nat) (w : World) (a : Option Addr) (l : List Mp) (c : Nat) : Prop := SlOk a l.length c ∧ (l = [] ∨ ∃ g, a = some ⟨g, 0, none⟩ ∧ lo ≤ g ∧ RowB w g 54 (flatMp l)) ∧ ∀ m ∈ l, OwnS lo w m.a m.l m.c
theorem OwnM.fr {lo : Nat} {w w' : World} {a : Option Addr} {l : List Mp} {c : Nat} (h : OwnM lo w a l c) (hF : Fr [] w w') : OwnM lo w' a l c :=
  ⟨h.1, h.2.1.imp id fun ⟨g, e, hl, hr⟩ => ⟨g, e, hl, hr.fr hF⟩, fun i hi => (h.2.2 i hi).fr hF⟩
theorem OwnM.at {lo : Nat} {w : World} {a : Option Addr} {l : List Mp} {c : Nat} (h : OwnM lo w a l c) : MapsAt w a l := by
  intro k i hk
  refine ⟨?_, (h.2.2 i (List.mem_of_getElem? hk)).at⟩
  rcases h.2.1 with rfl | ⟨g, rfl, -, hr⟩
  · simp at hk
  · exact ⟨g, 0, rfl, by rw [Nat.zero_add]; exact hr.cell (by simp [flatMp, hk, Mp.v])⟩
theorem OwnM.other {lo : Nat} {w : World} {a : Option Addr} {l : List Mp} {c : Nat} (h : OwnM lo w a l c) {g2 : Nat} {T2 : TypeId} {vals2 : List Value} (h2 : RowB w g2 T2 vals2) (hT : (54 : TypeId) ≠ T2) (hT2 : (57 : TypeId) ≠ T2) (k : Nat) (v : Value) : OwnM lo (w.setCell ⟨g2, k, none⟩ v) a l c :=
  ⟨h.1, h.2.1.imp id fun ⟨g, e, hl, hr⟩ => ⟨g, e, hl, hr.other (hr.ne h2 hT) k v⟩, fun i hi => (h.2.2 i hi).other h2 hT2 k v⟩
theorem RowB.frx {w w' : World} {g g2 : Nat} {T : TypeId} {vals : List Value} (h : RowB w g T vals) (hne : g ≠ g2) (hF : Fr [g2] w w') : RowB w' g T vals :=
  let ⟨cur, hc, hr⟩ := h
  ⟨cur, hF.heap (by simp [hne]) hc, hr⟩
theorem OwnS.frx {lo : Nat} {w w' : World} {a : Option Addr} {l : List Sr} {c : Nat} (h : OwnS lo w a l c) {g2 : Nat} {T2 : TypeId} {vals2 : List Value} (h2 : RowB w g2 T2 vals2) (hT : (57 : TypeId) ≠ T2) (hF : Fr [g2] w w') : OwnS lo w' a l c :=
  ⟨h.1, h.2.imp id fun ⟨g, e, hl, hr⟩ => ⟨g, e, hl, hr.frx (hr.ne h2 hT) hF⟩⟩
theorem OwnN.frx {lo : Nat} {w w' : World} {a : Option Addr} {l : List Int} {c : Nat} (h : OwnN lo w a l c) {g2 : Nat} {T2 : TypeId} {vals2 : List Value} (h2 : RowB w g2 T2 vals2) (hT : (3 : TypeId) ≠ T2) (hF : Fr [g2] w w') : OwnN lo w' a l c :=
  ⟨h.1, h.2.imp id fun ⟨g, e, hl, hr⟩ => ⟨g, e, hl, hr.frx (hr.ne h2 hT) hF⟩⟩
theorem OwnI.frx {lo : Nat} {w w' : World} {a : Option Addr} {l : List Ii} {c : Nat} (h : OwnI lo w a l c) {g2 : Nat} {T2 : TypeId} {vals2 : List Value} (h2 : RowB w g2 T2 vals2) (hT : (59 : TypeId) ≠ T2) (hT2 : (57 : TypeId) ≠ T2) (hF : Fr [g2] w w') : OwnI lo w' a l c :=
  ⟨h.1, h.2.1.imp id fun ⟨g, e, hl, hr, hc⟩ => ⟨g, e, hl, hr.frx (hr.ne h2 hT) hF, hc.frx (hr.ne h2 hT) hF⟩, fun i hi => (h.2.2 i hi).frx h2 hT2 hF⟩
theorem OwnM.frx {lo : Nat} {w w' : World} {a : Option Addr} {l : List Mp} {c : Nat} (h : OwnM lo w a l c) {g2 : Nat} {T2 : TypeId} {vals2 : List Value} (h2 : RowB w g2 T2 vals2) (hT : (54 : TypeId) ≠ T2) (hT2 : (57 : TypeId) ≠ T2) (hF : Fr [g2] w w') : OwnM lo w' a l c :=
  ⟨h.1, h.2.1.imp id fun ⟨g, e, hl, hr⟩ => ⟨g, e, hl, hr.frx (hr.ne h2 hT) hF⟩, fun i hi => (h.2.2 i hi).frx h2 hT2 hF⟩
/-- how far the maps were copied -/
def HalfM (lo : Nat) (w : World) (l ls : List Mp) (k : Nat) : Prop := ls.length = l.length ∧ ∀ j i, l[j]? = some i → ∃ i', ls[j]? = some i' ∧ i'.l = i.l ∧ (j < k → OwnS lo w i'.a i'.l i'.c) ∧ (k ≤ j → i' = i)
theorem HalfM.start (lo : Nat) (w : World) (l : List Mp) : HalfM lo w l l 0 := ⟨rfl, fun j i h => ⟨i, h, rfl, fun hj => absurd hj (by omega), fun _ => rfl⟩⟩
theorem HalfM.step {lo : Nat} {w w' : World} {l ls : List Mp} {k : Nat} {i : Mp} {a : Option Addr} {c : Nat} (h : HalfM lo w l ls k) (hi : l[k]? = some i) (hO : OwnS lo w' a i.l c) (hk : ∀ a m c, OwnS lo w a m c → OwnS lo w' a m c) : HalfM lo w' l (ls.set k ⟨a, i.l, c⟩) (k + 1) := by
  refine ⟨by rw [List.length_set]; exact h.1, fun j q hj => ?_⟩
  have hkl := (List.getElem?_eq_some_iff.1 hi).1
  by_cases hjk : j = k
  · subst hjk
    rw [hi] at hj
    cases hj
    exact ⟨_, List.getElem?_set_self (by rw [h.1]; exact hkl), rfl, fun _ => hO, fun h => absurd h (by omega)⟩
  · obtain ⟨i', h1, h2, h3, h4⟩ := h.2 j q hj
    exact ⟨i', by rw [List.getElem?_set_ne (fun e => hjk e.symm)]; exact h1, h2, fun hl => hk _ _ _ (h3 (by omega)), fun hl => h4 (by omega)⟩
theorem HalfM.all {lo : Nat} {w : World} {l ls : List Mp} (h : HalfM lo w l ls l.length) : ∀ i ∈ ls, OwnS lo w i.a i.l i.c := by
  intro i hi
  obtain ⟨j, hj⟩ := List.getElem?_of_mem hi
  have hjl := (List.getElem?_eq_some_iff.1 hj).1
  rw [h.1] at hjl
  obtain ⟨i', h1, -, h3, -⟩ := h.2 j _ (List.getElem?_eq_getElem hjl)
  rw [hj] at h1
  cases h1
  exact h3 hjl
/-- an instruction without its place -/
def Ii.er (i : Ii) : Ii := ⟨i.op, i.n, i.d, none, i.l, 0, i.w⟩
theorem Half.er {lo : Nat} {w : World} {l ls : List Ii} {k : Nat} (h : Half lo w l ls k) : ls.map Ii.er = l.map Ii.er := by
  refine List.ext_getElem? fun j => ?_
  rw [List.getElem?_map, List.getElem?_map]
  cases hj : l[j]? with
  | none =>
    have : ls[j]? = none := by rw [List.getElem?_eq_none_iff] at hj ⊢; rw [h.1]; exact hj
    rw [this]
  | some i =>
    obtain ⟨i', h1, h2, -⟩ := h.2 j i hj
    rw [h1]
    simp only [Option.map_some, Ii.er, h2.op, h2.n, h2.d, h2.l, h2.w]
theorem HalfM.er {lo : Nat} {w : World} {l ls : List Mp} {k : Nat} (h : HalfM lo w l ls k) : ls.map Mp.l = l.map Mp.l := by
  refine List.ext_getElem? fun j => ?_
  rw [List.getElem?_map, List.getElem?_map]
  cases hj : l[j]? with
  | none =>
    have : ls[j]? = none := by rw [List.getElem?_eq_none_iff] at hj ⊢; rw [h.1]; exact hj
    rw [this]
  | some i =>
    obtain ⟨i', h1, h2, -⟩ := h.2 j i hj
    rw [h1]
    simp only [Option.map_some, h2]
/-- the same unit in other places -/
structure SameU (u v : Un) : Prop where
  method : v.method = u.method
  args : v.args = u.args
  temps : v.temps = u.temps
  regs : v.regs = u.regs
  spills : v.spills = u.spills
  sites : v.sites = u.sites
  enter : v.enter.map Ii.er = u.enter.map Ii.er
  code : v.code.map Ii.er = u.code.map Ii.er
  starts : v.starts = u.starts
  maps : v.maps.map Mp.l = u.maps.map Mp.l
/-- a unit of one's own -/
structure OwnU (lo : Nat) (w : World) (u : Un) : Prop where
  enter : OwnI lo w u.ea u.enter u.ec
  code : OwnI lo w u.ca u.code u.cc
  starts : OwnN lo w u.sa u.starts u.sc
  maps : OwnM lo w u.ma u.maps u.mc
theorem OwnU.fr {lo : Nat} {w w' : World} {u : Un} (h : OwnU lo w u) (hF : Fr [] w w') : OwnU lo w' u := ⟨h.enter.fr hF, h.code.fr hF, h.starts.fr hF, h.maps.fr hF⟩
theorem OwnU.at {lo : Nat} {w : World} {u : Un} (h : OwnU lo w u) : UAt w u := ⟨h.enter.at, h.code.at, h.starts.at, h.maps.at⟩
/-- Returned: the same unit, in new memory. -/
def CopyTo (u : Un) (w : World) (e : Ending) (w' : World) : Prop := ∃ v : Un, e = .returned v.v ∧ SameU u v ∧ OwnU w.heap.size w' v ∧ (∀ g, v.ea = some ⟨g, 0, none⟩ → v.ca ≠ some ⟨g, 0, none⟩) ∧ Fr [] w w'
theorem ownN_of {w w' : World} {l : List Int} {a : Option Addr} {c : Nat} (h : IGrows w 3 1 l.length (flatN l) (.slice a l.length c) w') {lo : Nat} (hlo : lo ≤ w.heap.size) : OwnN lo w' a l c := by
  refine ⟨slok_of h, ?_⟩
  by_cases h0 : l = []
  · exact .inl h0
  · obtain ⟨g, e, hg, hr⟩ := rowB_of h (List.length_pos_iff.2 h0)
    exact .inr ⟨g, e, by omega, hr⟩
theorem OwnI.lo {lo lo' : Nat} {w : World} {a : Option Addr} {l : List Ii} {c : Nat} (h : OwnI lo' w a l c) (hl : lo ≤ lo') : OwnI lo w a l c :=
  ⟨h.1, h.2.1.imp id fun ⟨g, e, h1, h2⟩ => ⟨g, e, by omega, h2⟩, fun i hi => ⟨(h.2.2 i hi).1, (h.2.2 i hi).2.imp id fun ⟨g, e, h1, h2⟩ => ⟨g, e, by omega, h2⟩⟩⟩
end Go.Proofs.YtomcfjckhajhmabGreatDoor
