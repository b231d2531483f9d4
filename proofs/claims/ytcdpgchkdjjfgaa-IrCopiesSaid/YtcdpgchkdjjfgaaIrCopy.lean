/- ir.Copy: a unit in new memory. (written by gencopy.py) -/
import Derived.Test.YtcdpgchkdjjfgaaIrCopied
import Derived.Test.YtcdpgchkdjjfgaaIrNums
import Derived.Deep.RegionHeld3
namespace Go.Proofs.Ytcdpgchkdjjfgaa
open Go.RowKit

/-- numbers of one's own -/
def OwnN (lo : Nat) (w : World) (a : Option Addr) (l : List Int) (c : Nat) : Prop := SlOk a l.length c ∧ (l = [] ∨ ∃ g, a = some ⟨g, 0, none⟩ ∧ lo ≤ g ∧ RowB w g 3 (flatN l))
theorem OwnN.fr {lo : Nat} {w w' : World} {a : Option Addr} {l : List Int} {c : Nat} (h : OwnN lo w a l c) (hF : Fr [] w w') : OwnN lo w' a l c := ⟨h.1, h.2.imp id fun ⟨g, e, hl, hr⟩ => ⟨g, e, hl, hr.fr hF⟩⟩
theorem OwnN.at {lo : Nat} {w : World} {a : Option Addr} {l : List Int} {c : Nat} (h : OwnN lo w a l c) : IntsAt w a l := by
  intro k s hk
  rcases h.2 with rfl | ⟨g, rfl, -, hr⟩
  · simp at hk
  · exact ⟨g, 0, rfl, by rw [Nat.zero_add]; exact hr.cell (by simp [flatN, hk])⟩
theorem OwnN.other {lo : Nat} {w : World} {a : Option Addr} {l : List Int} {c : Nat} (h : OwnN lo w a l c) {g2 : Nat} {T2 : TypeId} {vals2 : List Value} (h2 : RowB w g2 T2 vals2) (hT : (3 : TypeId) ≠ T2) (k : Nat) (v : Value) : OwnN lo (w.setCell ⟨g2, k, none⟩ v) a l c :=
  ⟨h.1, h.2.imp id fun ⟨g, e, hl, hr⟩ => ⟨g, e, hl, hr.other (hr.ne h2 hT) k v⟩⟩
theorem OwnI.other {lo : Nat} {w : World} {a : Option Addr} {l : List Ii} {c : Nat} (h : OwnI lo w a l c) {g2 : Nat} {T2 : TypeId} {vals2 : List Value} (h2 : RowB w g2 T2 vals2) (hT : (28 : TypeId) ≠ T2) (hT2 : (25 : TypeId) ≠ T2) (k : Nat) (v : Value) : OwnI lo (w.setCell ⟨g2, k, none⟩ v) a l c :=
  ⟨h.1, h.2.1.imp id fun ⟨g, e, hl, hr, hc⟩ => ⟨g, e, hl, hr.other (hr.ne h2 hT) k v, hc.set _ _ _⟩, fun i hi => (h.2.2 i hi).other h2 hT2 k v⟩
/-- maps of one's own -/
def OwnM (lo : Nat) (w : World) (a : Option Addr) (l : List Mp) (c : Nat) : Prop := SlOk a l.length c ∧ (l = [] ∨ ∃ g, a = some ⟨g, 0, none⟩ ∧ lo ≤ g ∧ RowB w g 26 (flatM l)) ∧ ∀ m ∈ l, OwnS lo w m.a m.l m.c
theorem OwnM.fr {lo : Nat} {w w' : World} {a : Option Addr} {l : List Mp} {c : Nat} (h : OwnM lo w a l c) (hF : Fr [] w w') : OwnM lo w' a l c :=
  ⟨h.1, h.2.1.imp id fun ⟨g, e, hl, hr⟩ => ⟨g, e, hl, hr.fr hF⟩, fun i hi => (h.2.2 i hi).fr hF⟩
theorem OwnM.at {lo : Nat} {w : World} {a : Option Addr} {l : List Mp} {c : Nat} (h : OwnM lo w a l c) : MapsAt w a l := by
  intro k i hk
  refine ⟨?_, (h.2.2 i (List.mem_of_getElem? hk)).at⟩
  rcases h.2.1 with rfl | ⟨g, rfl, -, hr⟩
  · simp at hk
  · exact ⟨g, 0, rfl, by rw [Nat.zero_add]; exact hr.cell (by simp [flatM, hk, Mp.v])⟩
theorem OwnM.other {lo : Nat} {w : World} {a : Option Addr} {l : List Mp} {c : Nat} (h : OwnM lo w a l c) {g2 : Nat} {T2 : TypeId} {vals2 : List Value} (h2 : RowB w g2 T2 vals2) (hT : (26 : TypeId) ≠ T2) (hT2 : (25 : TypeId) ≠ T2) (k : Nat) (v : Value) : OwnM lo (w.setCell ⟨g2, k, none⟩ v) a l c :=
  ⟨h.1, h.2.1.imp id fun ⟨g, e, hl, hr⟩ => ⟨g, e, hl, hr.other (hr.ne h2 hT) k v⟩, fun i hi => (h.2.2 i hi).other h2 hT2 k v⟩
theorem RowB.frx {w w' : World} {g g2 : Nat} {T : TypeId} {vals : List Value} (h : RowB w g T vals) (hne : g ≠ g2) (hF : Fr [g2] w w') : RowB w' g T vals :=
  let ⟨cur, hc, hr⟩ := h
  ⟨cur, hF.heap (by simp [hne]) hc, hr⟩
theorem OwnS.frx {lo : Nat} {w w' : World} {a : Option Addr} {l : List Sr} {c : Nat} (h : OwnS lo w a l c) {g2 : Nat} {T2 : TypeId} {vals2 : List Value} (h2 : RowB w g2 T2 vals2) (hT : (25 : TypeId) ≠ T2) (hF : Fr [g2] w w') : OwnS lo w' a l c :=
  ⟨h.1, h.2.imp id fun ⟨g, e, hl, hr⟩ => ⟨g, e, hl, hr.frx (hr.ne h2 hT) hF⟩⟩
theorem OwnN.frx {lo : Nat} {w w' : World} {a : Option Addr} {l : List Int} {c : Nat} (h : OwnN lo w a l c) {g2 : Nat} {T2 : TypeId} {vals2 : List Value} (h2 : RowB w g2 T2 vals2) (hT : (3 : TypeId) ≠ T2) (hF : Fr [g2] w w') : OwnN lo w' a l c :=
  ⟨h.1, h.2.imp id fun ⟨g, e, hl, hr⟩ => ⟨g, e, hl, hr.frx (hr.ne h2 hT) hF⟩⟩
theorem OwnI.frx {lo : Nat} {w w' : World} {a : Option Addr} {l : List Ii} {c : Nat} (h : OwnI lo w a l c) {g2 : Nat} {T2 : TypeId} {vals2 : List Value} (h2 : RowB w g2 T2 vals2) (hT : (28 : TypeId) ≠ T2) (hT2 : (25 : TypeId) ≠ T2) (hF : Fr [g2] w w') : OwnI lo w' a l c :=
  ⟨h.1, h.2.1.imp id fun ⟨g, e, hl, hr, hc⟩ => ⟨g, e, hl, hr.frx (hr.ne h2 hT) hF, hc.frx (hr.ne h2 hT) hF⟩, fun i hi => (h.2.2 i hi).frx h2 hT2 hF⟩
theorem OwnM.frx {lo : Nat} {w w' : World} {a : Option Addr} {l : List Mp} {c : Nat} (h : OwnM lo w a l c) {g2 : Nat} {T2 : TypeId} {vals2 : List Value} (h2 : RowB w g2 T2 vals2) (hT : (26 : TypeId) ≠ T2) (hT2 : (25 : TypeId) ≠ T2) (hF : Fr [g2] w w') : OwnM lo w' a l c :=
  ⟨h.1, h.2.1.imp id fun ⟨g, e, hl, hr⟩ => ⟨g, e, hl, hr.frx (hr.ne h2 hT) hF⟩, fun i hi => (h.2.2 i hi).frx h2 hT2 hF⟩
/-- how far the maps were copied -/
def HalfM (lo : Nat) (w : World) (l ls : List Mp) (k : Nat) : Prop := ls.length = l.length ∧ ∀ j i, l[j]? = some i → ∃ i', ls[j]? = some i' ∧ i'.l = i.l ∧ (j < k → OwnS lo w i'.a i'.l i'.c) ∧ (k ≤ j → i' = i)
theorem HalfM.start (lo : Nat) (w : World) (l : List Mp) : HalfM lo w l l 0 := ⟨rfl, fun j i h => ⟨i, h, rfl, fun hj => absurd hj (by omega), fun _ => rfl⟩⟩
theorem HalfM.step {lo : Nat} {w w' : World} {l ls : List Mp} {k : Nat} {i : Mp} {a : Option Addr} {c : Nat} (h : HalfM lo w l ls k) (hi : l[k]? = some i) (hO : OwnS lo w' a i.l c) (hk : ∀ a m c, OwnS lo w a m c → OwnS lo w' a m c) : HalfM lo w' l (ls.set k ⟨a, i.l, c⟩) (k + 1) := by
  refine ⟨by rw [List.length_set]; exact h.1, fun j q hj => ?_⟩
  have hkl := (List.getElem?_eq_some_iff.1 hi).1
  by_cases hjk : j = k
  · subst hjk
    rw [hi] at hj
    cases hj
    exact ⟨_, List.getElem?_set_self (by rw [h.1]; exact hkl), rfl, fun _ => hO, fun h => absurd h (by omega)⟩
  · obtain ⟨i', h1, h2, h3, h4⟩ := h.2 j q hj
    exact ⟨i', by rw [List.getElem?_set_ne (fun e => hjk e.symm)]; exact h1, h2, fun hl => hk _ _ _ (h3 (by omega)), fun hl => h4 (by omega)⟩
theorem HalfM.all {lo : Nat} {w : World} {l ls : List Mp} (h : HalfM lo w l ls l.length) : ∀ i ∈ ls, OwnS lo w i.a i.l i.c := by
  intro i hi
  obtain ⟨j, hj⟩ := List.getElem?_of_mem hi
  have hjl := (List.getElem?_eq_some_iff.1 hj).1
  rw [h.1] at hjl
  obtain ⟨i', h1, -, h3, -⟩ := h.2 j _ (List.getElem?_eq_getElem hjl)
  rw [hj] at h1
  cases h1
  exact h3 hjl
/-- an instruction without its place -/
def Ii.er (i : Ii) : Ii := ⟨i.op, i.n, i.d, none, i.l, 0, i.w⟩
theorem Half.er {lo : Nat} {w : World} {l ls : List Ii} {k : Nat} (h : Half lo w l ls k) : ls.map Ii.er = l.map Ii.er := by
  refine List.ext_getElem? fun j => ?_
  rw [List.getElem?_map, List.getElem?_map]
  cases hj : l[j]? with
  | none =>
    have : ls[j]? = none := by rw [List.getElem?_eq_none_iff] at hj ⊢; rw [h.1]; exact hj
    rw [this]
  | some i =>
    obtain ⟨i', h1, h2, -⟩ := h.2 j i hj
    rw [h1]
    simp only [Option.map_some, Ii.er, h2.op, h2.n, h2.d, h2.l, h2.w]
theorem HalfM.er {lo : Nat} {w : World} {l ls : List Mp} {k : Nat} (h : HalfM lo w l ls k) : ls.map Mp.l = l.map Mp.l := by
  refine List.ext_getElem? fun j => ?_
  rw [List.getElem?_map, List.getElem?_map]
  cases hj : l[j]? with
  | none =>
    have : ls[j]? = none := by rw [List.getElem?_eq_none_iff] at hj ⊢; rw [h.1]; exact hj
    rw [this]
  | some i =>
    obtain ⟨i', h1, h2, -⟩ := h.2 j i hj
    rw [h1]
    simp only [Option.map_some, h2]
/-- the same unit in other places -/
structure SameU (u v : Un) : Prop where
  method : v.method = u.method
  args : v.args = u.args
  temps : v.temps = u.temps
  regs : v.regs = u.regs
  spills : v.spills = u.spills
  sites : v.sites = u.sites
  enter : v.enter.map Ii.er = u.enter.map Ii.er
  code : v.code.map Ii.er = u.code.map Ii.er
  starts : v.starts = u.starts
  maps : v.maps.map Mp.l = u.maps.map Mp.l
/-- a unit of one's own -/
structure OwnU (lo : Nat) (w : World) (u : Un) : Prop where
  enter : OwnI lo w u.ea u.enter u.ec
  code : OwnI lo w u.ca u.code u.cc
  starts : OwnN lo w u.sa u.starts u.sc
  maps : OwnM lo w u.ma u.maps u.mc
theorem OwnU.fr {lo : Nat} {w w' : World} {u : Un} (h : OwnU lo w u) (hF : Fr [] w w') : OwnU lo w' u := ⟨h.enter.fr hF, h.code.fr hF, h.starts.fr hF, h.maps.fr hF⟩
theorem OwnU.at {lo : Nat} {w : World} {u : Un} (h : OwnU lo w u) : UAt w u := ⟨h.enter.at, h.code.at, h.starts.at, h.maps.at⟩
/-- Returned: the same unit, in new memory. -/
def CopyTo (u : Un) (w : World) (e : Ending) (w' : World) : Prop := ∃ v : Un, e = .returned v.v ∧ SameU u v ∧ OwnU w.heap.size w' v ∧ (∀ g, v.ea = some ⟨g, 0, none⟩ → v.ca ≠ some ⟨g, 0, none⟩) ∧ Fr [] w w'
theorem ownN_of {w w' : World} {l : List Int} {a : Option Addr} {c : Nat} (h : IGrows w 3 1 l.length (flatN l) (.slice a l.length c) w') {lo : Nat} (hlo : lo ≤ w.heap.size) : OwnN lo w' a l c := by
  refine ⟨slok_of h, ?_⟩
  by_cases h0 : l = []
  · exact .inl h0
  · obtain ⟨g, e, hg, hr⟩ := rowB_of h (List.length_pos_iff.2 h0)
    exact .inr ⟨g, e, by omega, hr⟩
theorem OwnI.lo {lo lo' : Nat} {w : World} {a : Option Addr} {l : List Ii} {c : Nat} (h : OwnI lo' w a l c) (hl : lo ≤ lo') : OwnI lo w a l c :=
  ⟨h.1, h.2.1.imp id fun ⟨g, e, h1, h2⟩ => ⟨g, e, by omega, h2⟩, fun i hi => ⟨(h.2.2 i hi).1, (h.2.2 i hi).2.imp id fun ⟨g, e, h1, h2⟩ => ⟨g, e, by omega, h2⟩⟩⟩
set_option maxRecDepth 100000 in
set_option maxHeartbeats 8000000 in
theorem ir_Copy (u : Un) (w : World) (hA : UAt w u) (hB : UB u) (hN : u.enter.length ≤ 1954687338211 ∧ u.code.length ≤ 1954687338211) : Calls Try.prog 23 #[u.v] w (CopyTo u w) := by
  have h1 : Hid (∀ W, Fr [] w W → Calls Try.prog 34 #[.slice u.ea u.enter.length u.ec] W (CopiesI u.enter W)) := Lib.hid fun W hF => ir_copied u.enter u.ea u.ec W (hA.enter.fr hF) hB.es hN.1 hB.enter
  have h2 : Hid (∀ W, Fr [] w W → Calls Try.prog 34 #[.slice u.ca u.code.length u.cc] W (CopiesI u.code W)) := Lib.hid fun W hF => ir_copied u.code u.ca u.cc W (hA.code.fr hF) hB.cs hN.2 hB.code
  have h3 : Hid (∀ W, Fr [] w W → Calls Try.prog 35 #[.slice u.sa u.starts.length u.sc] W (ClonesTo 3 1 u.starts.length (flatN u.starts) W)) := Lib.hid fun W hF => clone_ints (hA.starts.fr hF) hB.ss hB.sn
  have h4 : Hid (∀ W, Fr [] w W → Calls Try.prog 36 #[.slice u.ma u.maps.length u.mc] W (ClonesTo 26 1 u.maps.length (flatM u.maps) W)) := Lib.hid fun W hF => clone_maps (hA.maps.fr hF) hB.ms hB.mn
  have HAM := Lib.hid hA.maps
  have HBM := Lib.hid hB.maps
  have hmn := hB.mn
  obtain ⟨method, args, T, R, P, S, ea, en, ec, ca, co, cc, sa, st, sc, ma, mp, mc⟩ := u
  unfold Un.v
  simp only at h1 h2 h3 h4 HAM HBM hmn ⊢
  clear hA hB hN
  obtain ⟨el, hel⟩ : ∃ z, z = en.length := ⟨_, rfl⟩
  obtain ⟨cl, hcl⟩ : ∃ z, z = co.length := ⟨_, rfl⟩
  obtain ⟨sl, hsl⟩ : ∃ z, z = st.length := ⟨_, rfl⟩
  obtain ⟨ml, hml⟩ : ∃ z, z = mp.length := ⟨_, rfl⟩
  simp only [← hel, ← hcl, ← hsl, ← hml] at h1 h2 h3 h4 hmn ⊢
  have HEL := Lib.hid hel
  have HCL := Lib.hid hcl
  have HSL := Lib.hid hsl
  have HML := Lib.hid hml
  clear hel hcl hsl hml
  go_enter Try.func23, Try.ntmps23
  go_wp2_with fail
  refine (h1.out _ (((Fr.refl [] w).alloc _).alloc _)).mono ?_
  rintro e w1 ⟨a1, c1, l1, rfl, hH1, hO1, hF1⟩
  rw [← HEL.out]
  have HB1 := Lib.hid (hF1.heap (by simp) (hp1 w _ _))
  have HZ1 := Lib.hid (hF1.heap (by simp) (hp2 w _ _))
  have HF1 : Hid (Fr [] w w1) := Lib.hid ((((Fr.refl [] w).alloc _).alloc _).trans hF1)
  have HH1 := Lib.hid hH1
  have HO1 : Hid (OwnI w.heap.size w1 a1 l1 c1) := Lib.hid (hO1.lo (by simp; omega))
  clear hH1 hO1 hF1
  have HOe1 := HO1
  clear HO1
  have HR1 : Hid (RowB w1 w.heap.size 43 [.int .u64 method, .int .i64 args, .int .i64 T, .int .i64 R, .int .i64 P, .int .i64 S, .slice ea el ec, .slice ca cl cc, .slice sa sl sc, .slice ma ml mc]) := Lib.hid ⟨_, HB1.out, [], by simp⟩
  have b0 := cell_of_heap (o := 0) HB1.out rfl; have b1 := cell_of_heap (o := 1) HB1.out rfl; have b2 := cell_of_heap (o := 2) HB1.out rfl; have b3 := cell_of_heap (o := 3) HB1.out rfl; have b4 := cell_of_heap (o := 4) HB1.out rfl; have b5 := cell_of_heap (o := 5) HB1.out rfl; have b6 := cell_of_heap (o := 6) HB1.out rfl; have b7 := cell_of_heap (o := 7) HB1.out rfl; have b8 := cell_of_heap (o := 8) HB1.out rfl; have b9 := cell_of_heap (o := 9) HB1.out rfl
  have z0 := frozen_of_heap (o := 0) HB1.out; have z1 := frozen_of_heap (o := 1) HB1.out; have z2 := frozen_of_heap (o := 2) HB1.out; have z3 := frozen_of_heap (o := 3) HB1.out; have z4 := frozen_of_heap (o := 4) HB1.out; have z5 := frozen_of_heap (o := 5) HB1.out; have z6 := frozen_of_heap (o := 6) HB1.out; have z7 := frozen_of_heap (o := 7) HB1.out; have z8 := frozen_of_heap (o := 8) HB1.out; have z9 := frozen_of_heap (o := 9) HB1.out
  have hz1 := lt_of_heap HB1.out
  go_wp2_with fail
  clear b0 b1 b2 b3 b4 b5 b6 b7 b8 b9 z0 z1 z2 z3 z4 z5 z6 z7 z8 z9
  have HFx1 : Hid (Fr [] w (w1.setCell ⟨w.heap.size, 6, none⟩ (.slice a1 el c1))) := Lib.hid (HF1.out.setCell (fun h => absurd h (by show ¬ w.heap.size < w.heap.size; omega)) _)
  have HBx1 : Hid ((w1.setCell ⟨w.heap.size, 6, none⟩ (.slice a1 el c1)).heap[w.heap.size]? = some (.cells #[.int .u64 method, .int .i64 args, .int .i64 T, .int .i64 R, .int .i64 P, .int .i64 S, .slice a1 el c1, .slice ca cl cc, .slice sa sl sc, .slice ma ml mc] 43 (0, 0))) := Lib.hid (by
    have h9 := heap_setCell_same (o := 6) HB1.out (.slice a1 el c1)
    simpa using h9)
  have HZx1 : Hid ((w1.setCell ⟨w.heap.size, 6, none⟩ (.slice a1 el c1)).heap[w.heap.size + 1]? = some (.cells #[.int .u64 0, .int .i64 0, .int .i64 0, .int .i64 0, .int .i64 0, .int .i64 0, .slice none 0 0, .slice none 0 0, .slice none 0 0, .slice none 0 0] 43 (0, 0))) := Lib.hid (by rw [Below.heap_setCell _ _ _ _ (by simp)]; exact HZ1.out)
  have HXe1 := Lib.hid (HOe1.out.other HR1.out (by decide) (by decide) 6 (.slice a1 el c1))
  generalize (w1.setCell ⟨w.heap.size, 6, none⟩ (.slice a1 el c1)) = x1 at *
  clear HB1 HZ1 HF1 HR1 hz1 HOe1
  refine (h2.out _ HFx1.out).mono ?_
  rintro e w2 ⟨a2, c2, l2, rfl, hH2, hO2, hF⟩
  rw [← HCL.out]
  have HH2i := Lib.hid hH2
  have HAP : Hid (∀ g, a1 = some ⟨g, 0, none⟩ → a2 ≠ some ⟨g, 0, none⟩) := Lib.hid (fun g h1 h2 => by
    rcases HXe1.out.2.1 with ⟨h, -⟩ | ⟨g1, e1, -, hr, -⟩
    · rw [h] at h1; cases h1
    · rcases hO2.2.1 with ⟨h, -⟩ | ⟨g2, e2, hl, -⟩
      · rw [h] at h2; cases h2
      · rw [h1] at e1; rw [h2] at e2; cases e1; cases e2
        have := hr.lt
        omega)
  have HOc2 : Hid (OwnI w.heap.size w2 a2 l2 c2) := Lib.hid (hO2.lo HFx1.out.size)
  have HB2 := Lib.hid (hF.heap (by simp) HBx1.out)
  have HZ2 := Lib.hid (hF.heap (by simp) HZx1.out)
  have HF2 := Lib.hid (HFx1.out.trans hF)
  have HOe2 := Lib.hid (HXe1.out.fr hF)
  clear HBx1 HZx1 HXe1
  clear hH2 hO2 hF HFx1
  have HR2 : Hid (RowB w2 w.heap.size 43 [.int .u64 method, .int .i64 args, .int .i64 T, .int .i64 R, .int .i64 P, .int .i64 S, .slice a1 el c1, .slice ca cl cc, .slice sa sl sc, .slice ma ml mc]) := Lib.hid ⟨_, HB2.out, [], by simp⟩
  have b0 := cell_of_heap (o := 0) HB2.out rfl; have b1 := cell_of_heap (o := 1) HB2.out rfl; have b2 := cell_of_heap (o := 2) HB2.out rfl; have b3 := cell_of_heap (o := 3) HB2.out rfl; have b4 := cell_of_heap (o := 4) HB2.out rfl; have b5 := cell_of_heap (o := 5) HB2.out rfl; have b6 := cell_of_heap (o := 6) HB2.out rfl; have b7 := cell_of_heap (o := 7) HB2.out rfl; have b8 := cell_of_heap (o := 8) HB2.out rfl; have b9 := cell_of_heap (o := 9) HB2.out rfl
  have z0 := frozen_of_heap (o := 0) HB2.out; have z1 := frozen_of_heap (o := 1) HB2.out; have z2 := frozen_of_heap (o := 2) HB2.out; have z3 := frozen_of_heap (o := 3) HB2.out; have z4 := frozen_of_heap (o := 4) HB2.out; have z5 := frozen_of_heap (o := 5) HB2.out; have z6 := frozen_of_heap (o := 6) HB2.out; have z7 := frozen_of_heap (o := 7) HB2.out; have z8 := frozen_of_heap (o := 8) HB2.out; have z9 := frozen_of_heap (o := 9) HB2.out
  have hz2 := lt_of_heap HB2.out
  go_wp2_with fail
  clear b0 b1 b2 b3 b4 b5 b6 b7 b8 b9 z0 z1 z2 z3 z4 z5 z6 z7 z8 z9
  have HFx2 : Hid (Fr [] w (w2.setCell ⟨w.heap.size, 7, none⟩ (.slice a2 cl c2))) := Lib.hid (HF2.out.setCell (fun h => absurd h (by show ¬ w.heap.size < w.heap.size; omega)) _)
  have HBx2 : Hid ((w2.setCell ⟨w.heap.size, 7, none⟩ (.slice a2 cl c2)).heap[w.heap.size]? = some (.cells #[.int .u64 method, .int .i64 args, .int .i64 T, .int .i64 R, .int .i64 P, .int .i64 S, .slice a1 el c1, .slice a2 cl c2, .slice sa sl sc, .slice ma ml mc] 43 (0, 0))) := Lib.hid (by
    have h9 := heap_setCell_same (o := 7) HB2.out (.slice a2 cl c2)
    simpa using h9)
  have HZx2 : Hid ((w2.setCell ⟨w.heap.size, 7, none⟩ (.slice a2 cl c2)).heap[w.heap.size + 1]? = some (.cells #[.int .u64 0, .int .i64 0, .int .i64 0, .int .i64 0, .int .i64 0, .int .i64 0, .slice none 0 0, .slice none 0 0, .slice none 0 0, .slice none 0 0] 43 (0, 0))) := Lib.hid (by rw [Below.heap_setCell _ _ _ _ (by simp)]; exact HZ2.out)
  have HXe2 := Lib.hid (HOe2.out.other HR2.out (by decide) (by decide) 7 (.slice a2 cl c2))
  have HXc2 := Lib.hid (HOc2.out.other HR2.out (by decide) (by decide) 7 (.slice a2 cl c2))
  generalize (w2.setCell ⟨w.heap.size, 7, none⟩ (.slice a2 cl c2)) = x2 at *
  clear HB2 HZ2 HF2 HR2 hz2 HOe2 HOc2
  refine (h3.out _ HFx2.out).mono ?_
  rintro e w3 ⟨v3, rfl, hG⟩
  obtain ⟨a3, c3, rfl⟩ := irow_shape hG.row
  have hF := hG.fr
  have HOs3 : Hid (OwnN w.heap.size w3 a3 st c3) := Lib.hid (ownN_of (c := c3) (by rw [← HSL.out]; exact hG) HFx2.out.size)
  have HB3 := Lib.hid (hF.heap (by simp) HBx2.out)
  have HZ3 := Lib.hid (hF.heap (by simp) HZx2.out)
  have HF3 := Lib.hid (HFx2.out.trans hF)
  have HOe3 := Lib.hid (HXe2.out.fr hF)
  have HOc3 := Lib.hid (HXc2.out.fr hF)
  clear HBx2 HZx2 HXe2 HXc2
  clear hG hF HFx2
  have HR3 : Hid (RowB w3 w.heap.size 43 [.int .u64 method, .int .i64 args, .int .i64 T, .int .i64 R, .int .i64 P, .int .i64 S, .slice a1 el c1, .slice a2 cl c2, .slice sa sl sc, .slice ma ml mc]) := Lib.hid ⟨_, HB3.out, [], by simp⟩
  have b0 := cell_of_heap (o := 0) HB3.out rfl; have b1 := cell_of_heap (o := 1) HB3.out rfl; have b2 := cell_of_heap (o := 2) HB3.out rfl; have b3 := cell_of_heap (o := 3) HB3.out rfl; have b4 := cell_of_heap (o := 4) HB3.out rfl; have b5 := cell_of_heap (o := 5) HB3.out rfl; have b6 := cell_of_heap (o := 6) HB3.out rfl; have b7 := cell_of_heap (o := 7) HB3.out rfl; have b8 := cell_of_heap (o := 8) HB3.out rfl; have b9 := cell_of_heap (o := 9) HB3.out rfl
  have z0 := frozen_of_heap (o := 0) HB3.out; have z1 := frozen_of_heap (o := 1) HB3.out; have z2 := frozen_of_heap (o := 2) HB3.out; have z3 := frozen_of_heap (o := 3) HB3.out; have z4 := frozen_of_heap (o := 4) HB3.out; have z5 := frozen_of_heap (o := 5) HB3.out; have z6 := frozen_of_heap (o := 6) HB3.out; have z7 := frozen_of_heap (o := 7) HB3.out; have z8 := frozen_of_heap (o := 8) HB3.out; have z9 := frozen_of_heap (o := 9) HB3.out
  have hz3 := lt_of_heap HB3.out
  go_wp2_with fail
  clear b0 b1 b2 b3 b4 b5 b6 b7 b8 b9 z0 z1 z2 z3 z4 z5 z6 z7 z8 z9
  have HFx3 : Hid (Fr [] w (w3.setCell ⟨w.heap.size, 8, none⟩ (.slice a3 sl c3))) := Lib.hid (HF3.out.setCell (fun h => absurd h (by show ¬ w.heap.size < w.heap.size; omega)) _)
  have HBx3 : Hid ((w3.setCell ⟨w.heap.size, 8, none⟩ (.slice a3 sl c3)).heap[w.heap.size]? = some (.cells #[.int .u64 method, .int .i64 args, .int .i64 T, .int .i64 R, .int .i64 P, .int .i64 S, .slice a1 el c1, .slice a2 cl c2, .slice a3 sl c3, .slice ma ml mc] 43 (0, 0))) := Lib.hid (by
    have h9 := heap_setCell_same (o := 8) HB3.out (.slice a3 sl c3)
    simpa using h9)
  have HZx3 : Hid ((w3.setCell ⟨w.heap.size, 8, none⟩ (.slice a3 sl c3)).heap[w.heap.size + 1]? = some (.cells #[.int .u64 0, .int .i64 0, .int .i64 0, .int .i64 0, .int .i64 0, .int .i64 0, .slice none 0 0, .slice none 0 0, .slice none 0 0, .slice none 0 0] 43 (0, 0))) := Lib.hid (by rw [Below.heap_setCell _ _ _ _ (by simp)]; exact HZ3.out)
  have HXe3 := Lib.hid (HOe3.out.other HR3.out (by decide) (by decide) 8 (.slice a3 sl c3))
  have HXc3 := Lib.hid (HOc3.out.other HR3.out (by decide) (by decide) 8 (.slice a3 sl c3))
  have HXs3 := Lib.hid (HOs3.out.other HR3.out (by decide) 8 (.slice a3 sl c3))
  generalize (w3.setCell ⟨w.heap.size, 8, none⟩ (.slice a3 sl c3)) = x3 at *
  clear HB3 HZ3 HF3 HR3 hz3 HOe3 HOc3 HOs3
  refine (h4.out _ HFx3.out).mono ?_
  rintro e w4 ⟨v4, rfl, hG⟩
  obtain ⟨a4, c4, rfl⟩ := irow_shape hG.row
  have hF := hG.fr
  have HSK := Lib.hid (slok_of hG)
  have HQ4 : Hid (mp = [] ∨ ∃ ga, a4 = some ⟨ga, 0, none⟩ ∧ w.heap.size ≤ ga ∧ RowB w4 ga 26 (flatM mp)) := Lib.hid (by
    by_cases h0 : mp = []
    · exact .inl h0
    · obtain ⟨ga, e, hg, hr⟩ := rowB_of hG (by rw [HML.out]; exact List.length_pos_iff.2 h0)
      exact .inr ⟨ga, e, Nat.le_trans HFx3.out.size hg, hr⟩)
  have HB4 := Lib.hid (hF.heap (by simp) HBx3.out)
  have HZ4 := Lib.hid (hF.heap (by simp) HZx3.out)
  have HF4 := Lib.hid (HFx3.out.trans hF)
  have HOe4 := Lib.hid (HXe3.out.fr hF)
  have HOc4 := Lib.hid (HXc3.out.fr hF)
  have HOs4 := Lib.hid (HXs3.out.fr hF)
  clear HBx3 HZx3 HXe3 HXc3 HXs3
  clear hG hF HFx3
  have HR4 : Hid (RowB w4 w.heap.size 43 [.int .u64 method, .int .i64 args, .int .i64 T, .int .i64 R, .int .i64 P, .int .i64 S, .slice a1 el c1, .slice a2 cl c2, .slice a3 sl c3, .slice ma ml mc]) := Lib.hid ⟨_, HB4.out, [], by simp⟩
  have b0 := cell_of_heap (o := 0) HB4.out rfl; have b1 := cell_of_heap (o := 1) HB4.out rfl; have b2 := cell_of_heap (o := 2) HB4.out rfl; have b3 := cell_of_heap (o := 3) HB4.out rfl; have b4 := cell_of_heap (o := 4) HB4.out rfl; have b5 := cell_of_heap (o := 5) HB4.out rfl; have b6 := cell_of_heap (o := 6) HB4.out rfl; have b7 := cell_of_heap (o := 7) HB4.out rfl; have b8 := cell_of_heap (o := 8) HB4.out rfl; have b9 := cell_of_heap (o := 9) HB4.out rfl
  have z0 := frozen_of_heap (o := 0) HB4.out; have z1 := frozen_of_heap (o := 1) HB4.out; have z2 := frozen_of_heap (o := 2) HB4.out; have z3 := frozen_of_heap (o := 3) HB4.out; have z4 := frozen_of_heap (o := 4) HB4.out; have z5 := frozen_of_heap (o := 5) HB4.out; have z6 := frozen_of_heap (o := 6) HB4.out; have z7 := frozen_of_heap (o := 7) HB4.out; have z8 := frozen_of_heap (o := 8) HB4.out; have z9 := frozen_of_heap (o := 9) HB4.out
  have hz4 := lt_of_heap HB4.out
  go_wp2_with fail
  clear b0 b1 b2 b3 b4 b5 b6 b7 b8 b9 z0 z1 z2 z3 z4 z5 z6 z7 z8 z9
  have HFx4 : Hid (Fr [] w (w4.setCell ⟨w.heap.size, 9, none⟩ (.slice a4 ml c4))) := Lib.hid (HF4.out.setCell (fun h => absurd h (by show ¬ w.heap.size < w.heap.size; omega)) _)
  have HBx4 : Hid ((w4.setCell ⟨w.heap.size, 9, none⟩ (.slice a4 ml c4)).heap[w.heap.size]? = some (.cells #[.int .u64 method, .int .i64 args, .int .i64 T, .int .i64 R, .int .i64 P, .int .i64 S, .slice a1 el c1, .slice a2 cl c2, .slice a3 sl c3, .slice a4 ml c4] 43 (0, 0))) := Lib.hid (by
    have h9 := heap_setCell_same (o := 9) HB4.out (.slice a4 ml c4)
    simpa using h9)
  have HZx4 : Hid ((w4.setCell ⟨w.heap.size, 9, none⟩ (.slice a4 ml c4)).heap[w.heap.size + 1]? = some (.cells #[.int .u64 0, .int .i64 0, .int .i64 0, .int .i64 0, .int .i64 0, .int .i64 0, .slice none 0 0, .slice none 0 0, .slice none 0 0, .slice none 0 0] 43 (0, 0))) := Lib.hid (by rw [Below.heap_setCell _ _ _ _ (by simp)]; exact HZ4.out)
  have HXe4 := Lib.hid (HOe4.out.other HR4.out (by decide) (by decide) 9 (.slice a4 ml c4))
  have HXc4 := Lib.hid (HOc4.out.other HR4.out (by decide) (by decide) 9 (.slice a4 ml c4))
  have HXs4 := Lib.hid (HOs4.out.other HR4.out (by decide) 9 (.slice a4 ml c4))
  have HQx4 : Hid (mp = [] ∨ ∃ ga, a4 = some ⟨ga, 0, none⟩ ∧ w.heap.size ≤ ga ∧ RowB (w4.setCell ⟨w.heap.size, 9, none⟩ (.slice a4 ml c4)) ga 26 (flatM mp)) := Lib.hid (HQ4.out.imp id fun ⟨ga, e, hg, hr⟩ => ⟨ga, e, hg, hr.other (hr.ne HR4.out (by decide)) _ _⟩)
  generalize (w4.setCell ⟨w.heap.size, 9, none⟩ (.slice a4 ml c4)) = x4 at *
  clear HB4 HZ4 HF4 HR4 hz4 HOe4 HOc4 HOs4
  go_loopw [24] (fun i wr => ∃ k : Nat, k ≤ ml ∧ i = .int .i64 k ∧ Hid (Fr [] w wr) ∧ Hid (wr.heap[w.heap.size]? = some (.cells #[.int .u64 method, .int .i64 args, .int .i64 T, .int .i64 R, .int .i64 P, .int .i64 S, .slice a1 el c1, .slice a2 cl c2, .slice a3 sl c3, .slice a4 ml c4] 43 (0, 0))) ∧ Hid (wr.heap[w.heap.size + 1]? = some (.cells #[.int .u64 0, .int .i64 0, .int .i64 0, .int .i64 0, .int .i64 0, .int .i64 0, .slice none 0 0, .slice none 0 0, .slice none 0 0, .slice none 0 0] 43 (0, 0))) ∧ Hid (OwnI w.heap.size wr a1 l1 c1) ∧ Hid (OwnI w.heap.size wr a2 l2 c2) ∧ Hid (OwnN w.heap.size wr a3 st c3) ∧ ∃ ls, Hid (mp = [] ∨ ∃ ga, a4 = some ⟨ga, 0, none⟩ ∧ w.heap.size ≤ ga ∧ RowB wr ga 26 (flatM ls)) ∧ Hid (HalfM w.heap.size wr mp ls k)) (fun i _ => ml - (intOf i).toNat)
  case atStart => exact ⟨0, Nat.zero_le _, rfl, HFx4, HBx4, HZx4, HXe4, HXc4, HXs4, mp, HQx4, HalfM.start _ _ _⟩
  case round =>
    clear HFx4 HBx4 HZx4 HXe4 HXc4 HXs4 HQx4 HQ4
    obtain ⟨k, hk, rfl, HF, HB, HZ, HE, HC, HS, ls, HQ, HH⟩ := hrel
    have hw0 : w.heap.size < wr.heap.size := lt_of_heap HB.out
    by_cases hlt : k < ml
    · obtain ⟨m, hm⟩ : ∃ m, mp[k]? = some m := ⟨_, List.getElem?_eq_getElem (by rw [← HML.out]; exact hlt)⟩
      obtain ⟨m', hm', -, -, he⟩ := HH.out.2 k m hm
      obtain rfl : m' = m := he (Nat.le_refl _)
      have hq := HQ.out
      rcases hq with rfl | ⟨ga, rfl, hlo, hR⟩
      · simp at hm
      have hmb := HBM.out m' (List.mem_of_getElem? hm)
      have hsr := ((HAM.out.fr HF.out) k m' hm).2
      have HCLN : Hid (∀ W, Fr [] wr W → Calls Try.prog 37 #[.slice m'.a m'.l.length m'.c] W (ClonesTo 25 3 m'.l.length (flatS m'.l) W)) := Lib.hid (fun W hF => clone_srcs (hsr.fr hF) hmb.2.2 hmb.1)
      have c0 := hR.cell (k := k) (v := m'.v) (by simp [flatM, hm'])
      have hg : ga < wr.heap.size := hR.lt
      have HR := Lib.hid hR
      have HLO := Lib.hid hlo
      have hRU : RowB wr w.heap.size 43 [.int .u64 method, .int .i64 args, .int .i64 T, .int .i64 R, .int .i64 P, .int .i64 S, .slice a1 el c1, .slice a2 cl c2, .slice a3 sl c3, .slice (some ⟨ga, 0, none⟩) ml c4] := ⟨_, HB.out, [], by simp⟩
      have hgne : w.heap.size ≠ ga := hRU.ne hR (by decide)
      have HRU := Lib.hid hRU
      have k0 : (0 : Int) ≤ (k : Int) := by omega
      have k1 : (k : Int) < (ml : Int) := by omega
      have b9 := hRU.cell (k := 9) rfl
      have HI2 := Lib.hid hm
      have HI3 := Lib.hid hm'
      clear hm hm' hsr hmb he hR hRU hlo HQ
      obtain ⟨ma', lw, mc'⟩ := m'
      unfold Mp.v at c0
      simp only at c0 HCLN
      obtain ⟨lwn, hlw⟩ : ∃ z, z = lw.length := ⟨_, rfl⟩
      have HLW := Lib.hid hlw
      simp only [← hlw] at HCLN c0
      clear hlw
      go_wp2_with fail
      go_region_held3 (fun w' => w'.cell? ⟨w.heap.size, 9, none⟩ = some (.slice (some ⟨ga, 0, none⟩) ml c4))
        (first | exact ((Fr.refl [ga] w2).setCell (fun _ => by simp) _).cell (by simp; omega) (HG2.out.fr.cell (by simp) b9) | exact HG2.out.fr.cell (by simp) b9 | go_keep)
        ((go_at_call 37; refine (HCLN.out _ (Fr.refl [] wr).drew).mono ?_; rintro e w2 ⟨v, rfl, hG⟩; obtain ⟨a5, c5, rfl⟩ := irow_shape hG.row; have HG2 : Hid (IGrows wr 25 3 lwn (flatS lw) (.slice a5 lwn c5) w2) := Lib.hid ⟨hG.row, (Fr.refl [] wr).drew.trans hG.fr, hG.new⟩; have d5 := HG2.out.fr.cell (by simp) c0; have z5 := (HR.out.fr HG2.out.fr).frozen k; have hg2 := (HR.out.fr HG2.out.fr).lt; clear hG))
      go_wp2_with fail
      go_roundw
      case rel =>
        have hR2 := HR.out.fr HG2.out.fr
        have hO : OwnS w.heap.size w2 a5 lw c5 := ownS_of (c := c5) (by rw [← HLW.out]; exact HG2.out) HF.out.size
        have hkl : k < (flatM ls).length := by rw [flatM_len, HH.out.1, ← HML.out]; omega
        refine ⟨k + 1, by omega, by go_num, (HF.out.trans HG2.out.fr).setCell (fun h => absurd h (by have := HLO.out; show ¬ ga < w.heap.size; omega)) _, ?_, ?_, (HE.out.fr HG2.out.fr).other hR2 (by decide) (by decide) _ _, (HC.out.fr HG2.out.fr).other hR2 (by decide) (by decide) _ _, (HS.out.fr HG2.out.fr).other hR2 (by decide) _ _, ls.set k ⟨a5, lw, c5⟩, .inr ⟨ga, rfl, HLO.out, ?_⟩, ?_⟩
        · exact ((Fr.refl [ga] w2).setCell (fun _ => by simp) _).heap (by simp; omega) (HG2.out.fr.heap (by simp) HB.out)
        · have hgz : w.heap.size + 1 ≠ ga := by
            have hz : RowB wr (w.heap.size + 1) 43 [.int .u64 0, .int .i64 0, .int .i64 0, .int .i64 0, .int .i64 0, .int .i64 0, .slice none 0 0, .slice none 0 0, .slice none 0 0, .slice none 0 0] := ⟨_, HZ.out, [], by simp⟩
            exact hz.ne HR.out (by decide)
          exact ((Fr.refl [ga] w2).setCell (fun _ => by simp) _).heap (by simp; omega) (HG2.out.fr.heap (by simp) HZ.out)
        · have h9 := hR2.set hkl (Mp.v ⟨a5, lw, c5⟩)
          rw [show flatM (ls.set k ⟨a5, lw, c5⟩) = (flatM ls).set k (Mp.v ⟨a5, lw, c5⟩) from List.map_set]
          unfold Mp.v at h9
          simp only [← HLW.out] at h9
          unfold Mp.v
          simp only [← HLW.out]
          exact h9
        · exact (HH.out).step HI2.out (hO.other hR2 (by decide) _ _) (fun b m c hb => (hb.fr HG2.out.fr).other hR2 (by decide) _ _)
      case measure => simp [intOf]; omega
    · have hkn : k = ml := by omega
      have HH2 : Hid (HalfM w.heap.size wr mp ls mp.length) := Lib.hid (by rw [← HML.out, ← hkn]; exact HH.out)
      have HOM : Hid (OwnM w.heap.size wr a4 ls c4) := Lib.hid ⟨by rw [HH2.out.1, ← HML.out]; exact HSK.out, by
        rcases HQ.out with h | ⟨ga, e, hlo, hr⟩
        · refine .inl (List.length_eq_zero_iff.1 ?_)
          rw [HH.out.1, h]
          rfl
        · exact .inr ⟨ga, e, hlo, hr⟩, HH2.out.all⟩
      have hkd : ¬ (k : Int) < (ml : Int) := by omega
      have HRZ : Hid (RowB wr (w.heap.size + 1) 43 [.int .u64 0, .int .i64 0, .int .i64 0, .int .i64 0, .int .i64 0, .int .i64 0, .slice none 0 0, .slice none 0 0, .slice none 0 0, .slice none 0 0]) := Lib.hid ⟨_, HZ.out, [], by simp⟩
      have b0 := cell_of_heap (o := 0) HB.out rfl; have b1 := cell_of_heap (o := 1) HB.out rfl; have b2 := cell_of_heap (o := 2) HB.out rfl; have b3 := cell_of_heap (o := 3) HB.out rfl; have b4 := cell_of_heap (o := 4) HB.out rfl; have b5 := cell_of_heap (o := 5) HB.out rfl; have b6 := cell_of_heap (o := 6) HB.out rfl; have b7 := cell_of_heap (o := 7) HB.out rfl; have b8 := cell_of_heap (o := 8) HB.out rfl; have b9 := cell_of_heap (o := 9) HB.out rfl
      have y0 := cell_of_heap (o := 0) HZ.out rfl; have y1 := cell_of_heap (o := 1) HZ.out rfl; have y2 := cell_of_heap (o := 2) HZ.out rfl; have y3 := cell_of_heap (o := 3) HZ.out rfl; have y4 := cell_of_heap (o := 4) HZ.out rfl; have y5 := cell_of_heap (o := 5) HZ.out rfl; have y6 := cell_of_heap (o := 6) HZ.out rfl; have y7 := cell_of_heap (o := 7) HZ.out rfl; have y8 := cell_of_heap (o := 8) HZ.out rfl; have y9 := cell_of_heap (o := 9) HZ.out rfl
      have z0 := frozen_of_heap (o := 0) HZ.out; have z1 := frozen_of_heap (o := 1) HZ.out; have z2 := frozen_of_heap (o := 2) HZ.out; have z3 := frozen_of_heap (o := 3) HZ.out; have z4 := frozen_of_heap (o := 4) HZ.out; have z5 := frozen_of_heap (o := 5) HZ.out; have z6 := frozen_of_heap (o := 6) HZ.out; have z7 := frozen_of_heap (o := 7) HZ.out; have z8 := frozen_of_heap (o := 8) HZ.out; have z9 := frozen_of_heap (o := 9) HZ.out
      have hw1 := lt_of_heap HZ.out
      clear hkn hlt
      go_wp2_with fail
      refine bodyPost_ret (v := .agg #[.int .u64 method, .int .i64 args, .int .i64 T, .int .i64 R, .int .i64 P, .int .i64 S, .slice a1 el c1, .slice a2 cl c2, .slice a3 sl c3, .slice a4 ml c4]) (by simp [results, Try.results23, go_sem]; go_simp) rfl ?_
      refine ⟨⟨method, args, T, R, P, S, a1, l1, c1, a2, l2, c2, a3, st, c3, a4, ls, c4⟩, ?_, ⟨rfl, rfl, rfl, rfl, rfl, rfl, HH1.out.er, HH2i.out.er, rfl, HH2.out.er⟩, ?_, HAP.out, ?_⟩
      · unfold Un.v
        simp only [HH1.out.1, HH2i.out.1, HH2.out.1, ← HEL.out, ← HCL.out, ← HSL.out, ← HML.out]
      · refine (fun (hFZ : Fr [w.heap.size + 1] wr _) => OwnU.mk (HE.out.frx HRZ.out (by decide) (by decide) hFZ) (HC.out.frx HRZ.out (by decide) (by decide) hFZ) (HS.out.frx HRZ.out (by decide) hFZ) (HOM.out.frx HRZ.out (by decide) (by decide) hFZ)) ?_
        iterate 10 (refine Fr.setCell ?_ (fun _ => by simp) _)
        exact Fr.refl _ _
      · iterate 10 (refine Fr.setCell ?_ (fun h => absurd h (by first | (simp; done) | (simp; omega))) _)
        exact HF.out
end Go.Proofs.Ytcdpgchkdjjfgaa
