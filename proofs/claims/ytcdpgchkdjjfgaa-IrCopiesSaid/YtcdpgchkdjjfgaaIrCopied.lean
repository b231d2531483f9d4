/- ir.copied: instructions in new memory, with their operands. -/
import Derived.Test.YtcdpgchkdjjfgaaIrClone
namespace Go.Proofs.Ytcdpgchkdjjfgaa
open Go.RowKit

/-- The same instructions, in other places. -/
structure SameI (i j : Ii) : Prop where
  op : j.op = i.op
  n : j.n = i.n
  d : j.d = i.d
  l : j.l = i.l
  w : j.w = i.w
theorem SameI.refl (i : Ii) : SameI i i := ⟨rfl, rfl, rfl, rfl, rfl⟩
/-- a block that begins with these cells -/
def RowB (w : World) (g : Nat) (T : TypeId) (vals : List Value) : Prop := ∃ cur : Array Value, w.heap[g]? = some (.cells cur T (0, 0)) ∧ ∃ rest, cur.toList = vals ++ rest
theorem RowB.fr {w w' : World} {g : Nat} {T : TypeId} {vals : List Value} (h : RowB w g T vals) (hF : Fr [] w w') : RowB w' g T vals :=
  let ⟨cur, hc, hr⟩ := h
  ⟨cur, hF.heap (by simp) hc, hr⟩
theorem RowB.cell {w : World} {g : Nat} {T : TypeId} {vals : List Value} (h : RowB w g T vals) {k : Nat} {v : Value} (hk : vals[k]? = some v) : w.cell? ⟨g, k, none⟩ = some v := by
  obtain ⟨cur, hc, rest, hr⟩ := h
  refine cell_of_heap hc ?_
  rw [← Array.getElem?_toList, hr, List.getElem?_append_left (List.getElem?_eq_some_iff.1 hk).1]
  exact hk
theorem RowB.frozen {w : World} {g : Nat} {T : TypeId} {vals : List Value} (h : RowB w g T vals) (k : Nat) : w.frozen? ⟨g, k, none⟩ = false := by
  obtain ⟨cur, hc, -⟩ := h
  exact frozen_of_heap hc
theorem RowB.lt {w : World} {g : Nat} {T : TypeId} {vals : List Value} (h : RowB w g T vals) : g < w.heap.size := by
  obtain ⟨cur, hc, -⟩ := h
  exact lt_of_heap hc
theorem RowB.set {w : World} {g : Nat} {T : TypeId} {vals : List Value} (h : RowB w g T vals) {k : Nat} (hk : k < vals.length) (v : Value) : RowB (w.setCell ⟨g, k, none⟩ v) g T (vals.set k v) := by
  obtain ⟨cur, hc, rest, hr⟩ := h
  refine ⟨_, heap_setCell_same hc v, rest, ?_⟩
  rw [Array.toList_setIfInBounds, hr, List.set_append_left _ _ hk]
theorem RowB.other {w : World} {g g2 : Nat} {T : TypeId} {vals : List Value} (h : RowB w g T vals) (hne : g ≠ g2) (k : Nat) (v : Value) : RowB (w.setCell ⟨g2, k, none⟩ v) g T vals := by
  obtain ⟨cur, hc, hr⟩ := h
  exact ⟨cur, by rw [Below.heap_setCell _ _ _ _ hne]; exact hc, hr⟩
theorem RowB.ne {w : World} {g g2 : Nat} {T T2 : TypeId} {vals vals2 : List Value} (h : RowB w g T vals) (h2 : RowB w g2 T2 vals2) (hT : T ≠ T2) : g ≠ g2 := by
  rintro rfl
  obtain ⟨cur, hc, -⟩ := h
  obtain ⟨cur2, hc2, -⟩ := h2
  rw [hc] at hc2
  cases hc2
  exact hT rfl
/-- a row of one's own, out of a row that grew -/
theorem rowB_of {w w' : World} {e : TypeId} {size n : Nat} {xs : List Value} {a : Option Addr} {c : Nat} (h : IGrows w e size n xs (.slice a n c) w') (h0 : 0 < n) : ∃ g, a = some ⟨g, 0, none⟩ ∧ w.heap.size ≤ g ∧ RowB w' g e xs := by
  have hl := h.row.1
  rcases h.row.2 with ⟨hv, hn⟩ | ⟨g, cap, cur, hv, -, hg, -, -, -, ht⟩
  · omega
  · cases hv
    refine ⟨g, rfl, h.new g rfl, cur, hg, cur.toList.drop (n * size), ?_⟩
    rw [← ht, List.take_append_drop]
/-- sources of one's own -/
def OwnS (lo : Nat) (w : World) (a : Option Addr) (l : List Sr) (c : Nat) : Prop := SlOk a l.length c ∧ (l = [] ∨ ∃ g, a = some ⟨g, 0, none⟩ ∧ lo ≤ g ∧ RowB w g 25 (flatS l))
theorem OwnS.fr {lo : Nat} {w w' : World} {a : Option Addr} {l : List Sr} {c : Nat} (h : OwnS lo w a l c) (hF : Fr [] w w') : OwnS lo w' a l c :=
  ⟨h.1, h.2.imp id fun ⟨g, e, hl, hr⟩ => ⟨g, e, hl, hr.fr hF⟩⟩
theorem OwnS.at {lo : Nat} {w : World} {a : Option Addr} {l : List Sr} {c : Nat} (h : OwnS lo w a l c) : SrcsAt w a l := by
  intro k s hk
  rcases h.2 with rfl | ⟨g, rfl, -, hr⟩
  · simp at hk
  · obtain ⟨f0, f1, f2⟩ := flatS_at hk
    refine ⟨g, 0, rfl, ?_, ?_, ?_⟩
    · rw [Nat.zero_add]; exact hr.cell f0
    · rw [Nat.zero_add]; exact hr.cell f1
    · rw [Nat.zero_add]; exact hr.cell f2
theorem OwnS.other {lo : Nat} {w : World} {a : Option Addr} {l : List Sr} {c : Nat} (h : OwnS lo w a l c) {g2 : Nat} {T2 : TypeId} {vals2 : List Value} (h2 : RowB w g2 T2 vals2) (hT : (25 : TypeId) ≠ T2) (k : Nat) (v : Value) : OwnS lo (w.setCell ⟨g2, k, none⟩ v) a l c :=
  ⟨h.1, h.2.imp id fun ⟨g, e, hl, hr⟩ => ⟨g, e, hl, hr.other (hr.ne h2 hT) k v⟩⟩
/-- a row that grew is a slice as slices are -/
theorem slok_of {w w' : World} {e : TypeId} {size n : Nat} {xs : List Value} {a : Option Addr} {c : Nat} (h : IGrows w e size n xs (.slice a n c) w') : SlOk a n c := by
  rcases h.row.2 with ⟨hv, hn⟩ | ⟨g, cap, cur, hv, -, -, hle, hmx, -⟩
  · cases hv
    exact ⟨fun _ => ⟨hn, rfl⟩, by omega, Nat.zero_le _⟩
  · cases hv
    exact ⟨fun h => (by cases h), hle, hmx⟩
theorem ownS_of {w w' : World} {l : List Sr} {a : Option Addr} {c : Nat} (h : IGrows w 25 3 l.length (flatS l) (.slice a l.length c) w') {lo : Nat} (hlo : lo ≤ w.heap.size) : OwnS lo w' a l c := by
  refine ⟨slok_of h, ?_⟩
  by_cases h0 : l = []
  · exact .inl h0
  · obtain ⟨g, e, hg, hr⟩ := rowB_of h (List.length_pos_iff.2 h0)
    exact .inr ⟨g, e, by omega, hr⟩
/-- a block of so many cells -/
def CapB (w : World) (g N : Nat) : Prop := ∃ (cur : Array Value) (T : TypeId) (f : Nat × Nat), w.heap[g]? = some (.cells cur T f) ∧ cur.size = N
theorem CapB.fr {w w' : World} {g N : Nat} (h : CapB w g N) (hF : Fr [] w w') : CapB w' g N :=
  let ⟨cur, T, f, hc, hs⟩ := h
  ⟨cur, T, f, hF.heap (by simp) hc, hs⟩
theorem CapB.frx {w w' : World} {g g2 N : Nat} (h : CapB w g N) (hne : g ≠ g2) (hF : Fr [g2] w w') : CapB w' g N :=
  let ⟨cur, T, f, hc, hs⟩ := h
  ⟨cur, T, f, hF.heap (by simp [hne]) hc, hs⟩
theorem CapB.set {w : World} {g N : Nat} (h : CapB w g N) (b o : Nat) (v : Value) : CapB (w.setCell ⟨b, o, none⟩ v) g N := by
  obtain ⟨cur, T, f, hc, hs⟩ := h
  by_cases hb : g = b
  · subst hb
    exact ⟨cur.setIfInBounds o v, T, f, heap_setCell_same hc v, by simp [hs]⟩
  · exact ⟨cur, T, f, by rw [Below.heap_setCell _ _ _ _ hb]; exact hc, hs⟩
theorem capB_of {w w' : World} {e : TypeId} {size n : Nat} {xs : List Value} {g c : Nat} (h : IGrows w e size n xs (.slice (some ⟨g, 0, none⟩) n c) w') : CapB w' g (c * size) := by
  rcases h.row.2 with ⟨hv, hn⟩ | ⟨g', cap, cur, hv, -, hg, -, -, hsz, -⟩
  · cases hv
  · cases hv
    exact ⟨cur, e, (0, 0), hg, hsz⟩
theorem rowB_any {w w' : World} {e : TypeId} {size n : Nat} {xs : List Value} {a : Option Addr} {c : Nat} (h : IGrows w e size n xs (.slice a n c) w') : (a = none ∧ c = 0 ∧ n = 0) ∨ ∃ g, a = some ⟨g, 0, none⟩ ∧ w.heap.size ≤ g ∧ RowB w' g e xs ∧ CapB w' g (c * size) := by
  rcases h.row.2 with ⟨hv, hn⟩ | ⟨g, cap, cur, hv, -, hg, -, -, hsz, ht⟩
  · cases hv
    exact .inl ⟨rfl, rfl, hn⟩
  · cases hv
    refine .inr ⟨g, rfl, h.new g rfl, ⟨cur, hg, cur.toList.drop (n * size), ?_⟩, cur, e, (0, 0), hg, hsz⟩
    rw [← ht, List.take_append_drop]
/-- instructions of one's own, with their operands -/
def OwnI (lo : Nat) (w : World) (a : Option Addr) (l : List Ii) (c : Nat) : Prop := SlOk a l.length c ∧ ((a = none ∧ c = 0 ∧ l = []) ∨ ∃ g, a = some ⟨g, 0, none⟩ ∧ lo ≤ g ∧ RowB w g 28 (flat7 l) ∧ CapB w g (c * 7)) ∧ ∀ i ∈ l, OwnS lo w i.la i.l i.lc
theorem OwnI.fr {lo : Nat} {w w' : World} {a : Option Addr} {l : List Ii} {c : Nat} (h : OwnI lo w a l c) (hF : Fr [] w w') : OwnI lo w' a l c :=
  ⟨h.1, h.2.1.imp id fun ⟨g, e, hl, hr, hc⟩ => ⟨g, e, hl, hr.fr hF, hc.fr hF⟩, fun i hi => (h.2.2 i hi).fr hF⟩
theorem OwnI.at {lo : Nat} {w : World} {a : Option Addr} {l : List Ii} {c : Nat} (h : OwnI lo w a l c) : InsAt w a l := by
  intro k i hk
  refine ⟨?_, (h.2.2 i (List.mem_of_getElem? hk)).at⟩
  rcases h.2.1 with ⟨-, -, rfl⟩ | ⟨g, rfl, -, hr, -⟩
  · simp at hk
  · have hf := fun d hd => flat7_at hk d hd
    refine ⟨g, 0, rfl, ?_, ?_, ?_, ?_, ?_, ?_, ?_⟩
    · rw [Nat.zero_add]; exact hr.cell (hf 0 (by omega))
    · rw [Nat.zero_add]; exact hr.cell (hf 1 (by omega))
    · rw [Nat.zero_add]; exact hr.cell (hf 2 (by omega))
    · rw [Nat.zero_add]; exact hr.cell (hf 3 (by omega))
    · rw [Nat.zero_add]; exact hr.cell (hf 4 (by omega))
    · rw [Nat.zero_add]; exact hr.cell (hf 5 (by omega))
    · rw [Nat.zero_add]; exact hr.cell (hf 6 (by omega))
theorem flat7_set : ∀ (l : List Ii) (k : Nat) (i : Ii) (la : Option Addr) (lc : Nat), l[k]? = some i → flat7 (l.set k ⟨i.op, i.n, i.d, la, i.l, lc, i.w⟩) = (flat7 l).set (k * 7 + 5) (.slice la i.l.length lc)
  | [], k, i, la, lc, h => by simp at h
  | a :: l, 0, i, la, lc, h => by
    simp at h
    subst h
    rfl
  | a :: l, k + 1, i, la, lc, h => by
    have e : flat7 (a :: l) = [Value.int .i64 a.op, .int .i64 a.n, .int .i64 a.d.kind, .int .i64 a.d.n, .int .u64 a.d.w, .slice a.la a.l.length a.lc, .int .u64 a.w] ++ flat7 l := rfl
    rw [List.set_cons_succ, e, List.set_append_right _ _ (by simp; omega)]
    rw [show (k + 1) * 7 + 5 - [Value.int .i64 a.op, .int .i64 a.n, .int .i64 a.d.kind, .int .i64 a.d.n, .int .u64 a.d.w, .slice a.la a.l.length a.lc, .int .u64 a.w].length = k * 7 + 5 by simp; omega]
    rw [← flat7_set l k i la lc (by simpa using h)]
    rfl
/-- how far the operands were copied -/
def Half (lo : Nat) (w : World) (l ls : List Ii) (k : Nat) : Prop := ls.length = l.length ∧ ∀ j i, l[j]? = some i → ∃ i', ls[j]? = some i' ∧ SameI i i' ∧ (j < k → OwnS lo w i'.la i'.l i'.lc) ∧ (k ≤ j → i' = i)
theorem Half.start (lo : Nat) (w : World) (l : List Ii) : Half lo w l l 0 := ⟨rfl, fun j i h => ⟨i, h, SameI.refl i, fun hj => absurd hj (by omega), fun _ => rfl⟩⟩
theorem Half.step {lo : Nat} {w w' : World} {l ls : List Ii} {k : Nat} {i : Ii} {la : Option Addr} {lc : Nat} (h : Half lo w l ls k) (hi : l[k]? = some i) (hO : OwnS lo w' la i.l lc) (hk : ∀ a m c, OwnS lo w a m c → OwnS lo w' a m c) : Half lo w' l (ls.set k ⟨i.op, i.n, i.d, la, i.l, lc, i.w⟩) (k + 1) := by
  refine ⟨by rw [List.length_set]; exact h.1, fun j q hj => ?_⟩
  have hkl := (List.getElem?_eq_some_iff.1 hi).1
  by_cases hjk : j = k
  · subst hjk
    rw [hi] at hj
    cases hj
    exact ⟨_, List.getElem?_set_self (by rw [h.1]; exact hkl), ⟨rfl, rfl, rfl, rfl, rfl⟩, fun _ => hO, fun h => absurd h (by omega)⟩
  · obtain ⟨i', h1, h2, h3, h4⟩ := h.2 j q hj
    exact ⟨i', by rw [List.getElem?_set_ne (fun e => hjk e.symm)]; exact h1, h2, fun hl => hk _ _ _ (h3 (by omega)), fun hl => h4 (by omega)⟩
/-- Returned: the same instructions, in new memory. -/
def CopiesI (l : List Ii) (w : World) (e : Ending) (w' : World) : Prop := ∃ a c ls, e = .returned (.slice a l.length c) ∧ Half w.heap.size w' l ls l.length ∧ OwnI w.heap.size w' a ls c ∧ Fr [] w w'
theorem Half.all {lo : Nat} {w : World} {l ls : List Ii} (h : Half lo w l ls l.length) : ∀ i ∈ ls, OwnS lo w i.la i.l i.lc := by
  intro i hi
  obtain ⟨j, hj⟩ := List.getElem?_of_mem hi
  have hjl := (List.getElem?_eq_some_iff.1 hj).1
  rw [h.1] at hjl
  obtain ⟨i', h1, -, h3, -⟩ := h.2 j _ (List.getElem?_eq_getElem hjl)
  rw [hj] at h1
  cases h1
  exact h3 hjl
set_option maxRecDepth 100000 in
set_option maxHeartbeats 4000000 in
theorem ir_copied (l : List Ii) (a : Option Addr) (c : Nat) (w : World) (hA : InsAt w a l) (hs : SlOk a l.length c) (hl : l.length ≤ 1954687338211) (hI : ∀ i ∈ l, IB i) : Calls Try.prog 34 #[.slice a l.length c] w (CopiesI l w) := by
  have hc := clone_inss hA hs hl
  have HA := Lib.hid hA
  have HI := Lib.hid hI
  by_cases h0 : l = []
  · subst h0
    clear hA hs hl hI
    simp only [List.length_nil] at hc ⊢
    go_enter Try.func34, Try.ntmps34
    go_wp2_with (go_at_call 44; refine hc.mono ?_; rintro e w1 ⟨v, rfl, hG⟩; obtain ⟨a1, c1, rfl⟩ := irow_shape hG.row; have HF := Lib.hid hG.fr; have HSK := Lib.hid (slok_of hG); have HRA := Lib.hid (rowB_any hG); clear hG)
    go_loopw [8] (fun i wr => i = .int .i64 0 ∧ wr = w1) (fun i _ => 0)
    case atStart => exact ⟨rfl, rfl⟩
    case round =>
      obtain ⟨rfl, rfl⟩ := hrel
      go_wp2_with fail
      go_ret
      exact ⟨a1, c1, [], rfl, ⟨rfl, fun j i h => by simp at h⟩, ⟨HSK.out, HRA.out.imp (fun h => ⟨h.1, h.2.1, rfl⟩) id, fun i hi => by simp at hi⟩, HF.out⟩
  · have hn0 := List.length_pos_iff.2 h0
    obtain ⟨n, hn⟩ : ∃ n, n = l.length := ⟨_, rfl⟩
    rw [← hn] at hc hl hn0 ⊢
    have HN := Lib.hid hn
    clear hA hs hI hn h0
    go_enter Try.func34, Try.ntmps34
    go_wp2_with (go_at_call 44; refine hc.mono ?_; rintro e w1 ⟨v, rfl, hG⟩; obtain ⟨a1, c1, rfl⟩ := irow_shape hG.row; have hF1 := hG.fr; have HSK := Lib.hid (slok_of hG); obtain ⟨g, rfl, hlo, hR⟩ := rowB_of hG hn0; have HCP := Lib.hid (capB_of hG); have HF1 := Lib.hid hF1; have HLO := Lib.hid hlo; have HR1 := Lib.hid hR; clear hG hF1 hlo hR)
    go_loopw [8] (fun i wr => ∃ k : Nat, k ≤ n ∧ i = .int .i64 k ∧ Hid (Fr [] w wr) ∧ Hid (CapB wr g (c1 * 7)) ∧ ∃ ls, Hid (RowB wr g 28 (flat7 ls)) ∧ Hid (Half w.heap.size wr l ls k)) (fun i _ => n - (intOf i).toNat)
    case atStart => exact ⟨0, Nat.zero_le _, rfl, HF1, HCP, l, HR1, Half.start _ _ _⟩
    case round =>
      clear HCP
      obtain ⟨k, hk, rfl, HF, HCP, ls, HR, HH⟩ := hrel
      by_cases hlt : k < n
      · obtain ⟨i, hi⟩ : ∃ i, l[k]? = some i := ⟨_, List.getElem?_eq_getElem (by rw [← HN.out]; exact hlt)⟩
        obtain ⟨i', hi', -, -, he⟩ := HH.out.2 k i hi
        obtain rfl : i' = i := he (Nat.le_refl _)
        have hib := HI.out i' (List.mem_of_getElem? hi)
        have hsr := ((HA.out.fr HF.out) k i' hi).2
        have HCL : Hid (Calls Try.prog 37 #[.slice i'.la i'.l.length i'.lc] wr (ClonesTo 25 3 i'.l.length (flatS i'.l) wr)) := Lib.hid (clone_srcs hsr hib.sl hib.n)
        have c5 := HR.out.cell (flat7_at hi' 5 (by omega))
        have hg : g < wr.heap.size := HR.out.lt
        have k0 : (0 : Int) ≤ (k : Int) := by omega
        have k1 : (k : Int) < (n : Int) := by omega
        have HI2 := Lib.hid hi
        have HI3 := Lib.hid hi'
        clear hi hi' hsr hib he
        obtain ⟨op, nn, d, la, lw, lc, x⟩ := i'
        simp only at c5 HCL
        obtain ⟨lwn, hlw⟩ : ∃ z, z = lw.length := ⟨_, rfl⟩
        have HLW := Lib.hid hlw
        rw [← hlw] at HCL
        rw [← hlw] at c5
        clear hlw
        go_wp2_with (go_at_call 37; refine HCL.out.mono ?_; rintro e w2 ⟨v, rfl, hG⟩; obtain ⟨a2, c2, rfl⟩ := irow_shape hG.row; have HG2 := Lib.hid hG; have d5 := hG.fr.cell (by simp) c5; have z5 := (HR.out.fr hG.fr).frozen (k * 7 + 5); have hg2 := (HR.out.fr hG.fr).lt; clear hG)
        go_roundw
        case rel =>
          have hR2 := HR.out.fr HG2.out.fr
          have hO : OwnS w.heap.size w2 a2 lw c2 := ownS_of (c := c2) (by rw [← HLW.out]; exact HG2.out) HF.out.size
          have hkl : k * 7 + 5 < (flat7 ls).length := by rw [flat7_len, HH.out.1, ← HN.out]; omega
          refine ⟨k + 1, by omega, by go_num, (HF.out.trans HG2.out.fr).setCell (fun h => absurd h (by have := HLO.out; show ¬ g < w.heap.size; omega)) _, (HCP.out.fr HG2.out.fr).set _ _ _, ls.set k ⟨op, nn, d, a2, lw, c2, x⟩, ?_, ?_⟩
          · have h9 := flat7_set ls k _ a2 c2 HI3.out
            rw [h9, HLW.out]
            exact hR2.set hkl _
          · exact (HH.out).step HI2.out (hO.other hR2 (by decide) _ _) (fun b m c hb => (hb.fr HG2.out.fr).other hR2 (by decide) _ _)
        case measure => simp [intOf]; omega
      · have hkn : k = n := by omega
        have HH2 : Hid (Half w.heap.size wr l ls l.length) := Lib.hid (by rw [← HN.out, ← hkn]; exact HH.out)
        have hkd : ¬ (k : Int) < (n : Int) := by omega
        clear hkn hlt
        go_wp2_with fail
        go_ret
        exact ⟨some ⟨g, 0, none⟩, c1, ls, by rw [← HN.out]; rfl, HH2.out, ⟨by rw [HH2.out.1, ← HN.out]; exact HSK.out, .inr ⟨g, rfl, HLO.out, HR.out, HCP.out⟩, HH2.out.all⟩, HF.out⟩
end Go.Proofs.Ytcdpgchkdjjfgaa
