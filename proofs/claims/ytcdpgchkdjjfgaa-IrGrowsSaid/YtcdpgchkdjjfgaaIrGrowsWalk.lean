/- IrGrows: the walk. -/
import Derived.Test.YtcdpgchkdjjfgaaIrErr
import Derived.Test.YtcdpgchkdjjfgaaIrAwake
import Derived.IntWalk
namespace Go.Proofs.Ytcdpgchkdjjfgaa
open Go.RowKit

theorem OwnI.row {lo : Nat} {w : World} {a : Option Addr} {l : List Ii} {c : Nat} (h : OwnI lo w a l c) : w.ownsRow 0 28 7 (.slice a l.length c) l.length (flat7 l) := by
  rcases h.2.1 with ⟨rfl, rfl, rfl⟩ | ⟨g, rfl, -, ⟨cur, hc, rest, hr⟩, cur2, T2, f2, hc2, hs⟩
  · exact World.ownsRow_nil _ _ _ _
  · rw [hc] at hc2
    cases hc2
    refine ⟨by rw [flat7_len], .inr ⟨g, c, cur, rfl, Nat.zero_le _, hc, h.1.le, h.1.max, hs, ?_⟩⟩
    rw [hr, ← flat7_len, List.take_left]
theorem flat7_snoc (l : List Ii) (i : Ii) : flat7 (l ++ [i]) = flat7 l ++ [.int .i64 i.op, .int .i64 i.n, .int .i64 i.d.kind, .int .i64 i.d.n, .int .u64 i.d.w, .slice i.la i.l.length i.lc, .int .u64 i.w] := by simp [flat7]
/-- the instruction that is put behind -/
def trapI : Ii := ⟨9, 0, ⟨0, 0, 0⟩, none, [], 0, 0⟩
theorem trapI_ok (R P S M : Int) : insOk R P S M trapI = true := rfl
theorem srcOk_mono {R P R' P' : Int} (hR : R ≤ R') (hP : P ≤ P') {s : Sr} (h : srcOk R P s = true) : srcOk R' P' s = true := by
  unfold srcOk at h ⊢
  simp only [decide_eq_true_eq] at h ⊢
  omega
theorem all_mono {α : Type} {p q : α → Bool} (h : ∀ a, p a = true → q a = true) {l : List α} (hl : l.all p = true) : l.all q = true :=
  List.all_eq_true.2 fun a ha => h a (List.all_eq_true.1 hl a ha)
theorem insOk_mono {R P S R' P' S' M : Int} (hR : R ≤ R') (hP : P ≤ P') (hS : S ≤ S') {i : Ii} (h : insOk R P S M i = true) : insOk R' P' S' M i = true := by
  unfold insOk at h ⊢
  simp only [Bool.and_eq_true] at h ⊢
  refine ⟨⟨⟨⟨h.1.1.1.1, all_mono (fun a ha => srcOk_mono hR hP ha) h.1.1.1.2⟩, ?_⟩, ?_⟩, h.2⟩
  · have h2 := h.1.1.2
    unfold resOk at h2 ⊢
    split at h2
    · next hl =>
      rw [if_pos hl]
      rw [Bool.and_eq_true] at h2 ⊢
      exact ⟨h2.1, srcOk_mono hR hP h2.2⟩
    · next hl => rw [if_neg hl]; exact h2
  · have h2 := h.1.2
    unfold wtn grt at h2 ⊢
    simp only [decide_eq_true_eq] at h2 ⊢
    refine ⟨h2.1, Int.le_trans h2.2 ?_⟩
    repeat' split
    all_goals omega
theorem mapOk_mono {R P R' P' T : Int} (hR : R ≤ R') (hP : P ≤ P') {m : Mp} (h : mapOk R P T m = true) : mapOk R' P' T m = true := by
  unfold mapOk at h ⊢
  rw [Bool.and_eq_true] at h ⊢
  exact ⟨h.1, all_mono (fun a ha => srcOk_mono hR hP ha) h.2⟩
/-- a unit with more of all, and an instruction behind its last -/
def moreU (v : Un) (k : Int) (a : Option Addr) (c : Nat) (st : List Int) : Un := { v with regs := v.regs + k, spills := v.spills + k, sites := v.sites + k, ca := a, code := v.code ++ [trapI], cc := c, starts := st }
theorem moreU_no (v : Un) (k : Int) (a : Option Addr) (c : Nat) (h : okU v = true) : errU (moreU v k a c v.starts) = 1 := by
  have hs : startsOk v = true := by unfold okU at h; simp only [Bool.and_eq_true] at h; exact h.1.1.2
  have h2 : startsOk (moreU v k a c v.starts) = false := by
    cases hc : startsOk (moreU v k a c v.starts)
    · rfl
    · have h3 := ((startsOk_iff _).1 hc).2.2.2.2.1
      have h4 := ((startsOk_iff _).1 hs).2.2.2.2.1
      simp only [moreU, List.length_append, List.length_singleton] at h3
      rw [h4] at h3
      simp at h3
      omega
  unfold errU okU
  rw [h2]
  simp
theorem moreU_ok (v : Un) (k : Int) (a : Option Addr) (c : Nat) (h : okU v = true) (hk : 0 ≤ k) (hR : v.regs + k ≤ 4096) (hP : v.spills + k ≤ 4096) (hS : v.sites + k ≤ 128) : errU (moreU v k a c (v.starts.set (v.starts.length - 1) ((v.code.length : Int) + 1))) = 0 := by
  unfold okU at h
  simp only [Bool.and_eq_true] at h
  obtain ⟨⟨⟨hn, hs⟩, hm⟩, hc⟩ := h
  have hn2 := (numsOk_iff v).1 hn
  have hs2 := (startsOk_iff v).1 hs
  have hc2 := (codeOk_iff v).1 hc
  have k1 : v.regs ≤ v.regs + k := by omega
  have k2 : v.spills ≤ v.spills + k := by omega
  have k3 : v.sites ≤ v.sites + k := by omega
  have g1 : numsOk (moreU v k a c (v.starts.set (v.starts.length - 1) ((v.code.length : Int) + 1))) = true := (numsOk_iff _).2 (by simp only [moreU]; omega)
  have g2 : startsOk (moreU v k a c (v.starts.set (v.starts.length - 1) ((v.code.length : Int) + 1))) = true := by
    obtain ⟨s1, s2, s3, s4, s5, s6⟩ := hs2
    refine (startsOk_iff _).2 ⟨by simp only [moreU, List.length_set]; omega, by simp only [moreU, List.length_set]; omega, by simp only [moreU, List.length_set]; omega, ?_, ?_, ?_⟩
    · simp only [moreU]
      rw [List.getElem?_set_ne (by omega)]
      exact s4
    · simp only [moreU, List.length_set, List.length_append, List.length_singleton]
      rw [List.getElem?_set_self (by omega)]
      simp
    · intro j x y hx hy
      simp only [moreU] at hx hy
      have hyl := (List.getElem?_eq_some_iff.1 hy).1
      rw [List.length_set] at hyl
      rw [List.getElem?_set_ne (by omega)] at hx
      by_cases hj : j + 1 = v.starts.length - 1
      · rw [hj, List.getElem?_set_self (by omega)] at hy
        cases hy
        have := s6 j x v.code.length hx (by rw [hj]; exact s5)
        omega
      · rw [List.getElem?_set_ne (by omega)] at hy
        exact s6 j x y hx hy
  have g3 : (moreU v k a c (v.starts.set (v.starts.length - 1) ((v.code.length : Int) + 1))).maps.all (mapOk (v.regs + k) (v.spills + k) v.temps) = true := all_mono (fun m hm => mapOk_mono k1 k2 hm) hm
  have g4 : codeOk (moreU v k a c (v.starts.set (v.starts.length - 1) ((v.code.length : Int) + 1))) = true := by
    refine (codeOk_iff _).2 ⟨hc2.1, all_mono (fun i hi => insOk_mono k1 k2 k3 hi) hc2.2.1, ?_, ?_⟩
    · simp only [moreU, List.all_append, Bool.and_eq_true]
      exact ⟨all_mono (fun i hi => insOk_mono k1 k2 k3 hi) hc2.2.2.1, by simp [trapI_ok]⟩
    · intro i j x y hij hx hy h7 h8
      simp only [moreU] at hx hy
      have hjl := (List.getElem?_eq_some_iff.1 hy).1
      rw [List.length_append, List.length_singleton] at hjl
      by_cases hj : j < v.code.length
      · rw [List.getElem?_append_left hj] at hy
        rw [List.getElem?_append_left (by omega)] at hx
        exact hc2.2.2.2 i j x y hij hx hy h7 h8
      · rw [List.getElem?_append_right (by omega)] at hy
        have e : j - v.code.length = 0 := by omega
        rw [e] at hy
        simp at hy
        subst hy
        simp [trapI] at h8
  unfold errU okU
  rw [g1, g2, g4]
  rw [show (moreU v k a c (v.starts.set (v.starts.length - 1) ((v.code.length : Int) + 1))).maps.all (mapOk (moreU v k a c (v.starts.set (v.starts.length - 1) ((v.code.length : Int) + 1))).regs (moreU v k a c (v.starts.set (v.starts.length - 1) ((v.code.length : Int) + 1))).spills (moreU v k a c (v.starts.set (v.starts.length - 1) ((v.code.length : Int) + 1))).temps) = true from g3]
  rfl
/-! rows of one's own, where the blocks of a list turn -/
def TagS (w : World) (S : List Nat) (T : TypeId) : Prop := ∀ g ∈ S, ∃ vals, RowB w g T vals
theorem RowB.frS {w w' : World} {g : Nat} {T : TypeId} {vals : List Value} {S : List Nat} (h : RowB w g T vals) (hn : g ∉ S) (hF : Fr S w w') : RowB w' g T vals :=
  let ⟨cur, hc, hr⟩ := h
  ⟨cur, hF.heap hn hc, hr⟩
theorem RowB.out {w : World} {g : Nat} {T T2 : TypeId} {vals : List Value} {S : List Nat} (h : RowB w g T vals) (hS : TagS w S T2) (hT : T ≠ T2) : g ∉ S := fun hg => by
  obtain ⟨v2, h2⟩ := hS g hg
  exact h.ne h2 hT rfl
theorem CapB.frS {w w' : World} {g N : Nat} {S : List Nat} (h : CapB w g N) (hn : g ∉ S) (hF : Fr S w w') : CapB w' g N :=
  let ⟨cur, T, f, hc, hs⟩ := h
  ⟨cur, T, f, hF.heap hn hc, hs⟩
theorem OwnS.frS {lo : Nat} {w w' : World} {a : Option Addr} {l : List Sr} {c : Nat} {S : List Nat} {T2 : TypeId} (h : OwnS lo w a l c) (hS : TagS w S T2) (hT : (25 : TypeId) ≠ T2) (hF : Fr S w w') : OwnS lo w' a l c :=
  ⟨h.1, h.2.imp id fun ⟨g, e, hl, hr⟩ => ⟨g, e, hl, hr.frS (hr.out hS hT) hF⟩⟩
theorem OwnN.frS {lo : Nat} {w w' : World} {a : Option Addr} {l : List Int} {c : Nat} {S : List Nat} {T2 : TypeId} (h : OwnN lo w a l c) (hS : TagS w S T2) (hT : (3 : TypeId) ≠ T2) (hF : Fr S w w') : OwnN lo w' a l c :=
  ⟨h.1, h.2.imp id fun ⟨g, e, hl, hr⟩ => ⟨g, e, hl, hr.frS (hr.out hS hT) hF⟩⟩
theorem OwnM.frS {lo : Nat} {w w' : World} {a : Option Addr} {l : List Mp} {c : Nat} {S : List Nat} {T2 : TypeId} (h : OwnM lo w a l c) (hS : TagS w S T2) (hT : (26 : TypeId) ≠ T2) (hT2 : (25 : TypeId) ≠ T2) (hF : Fr S w w') : OwnM lo w' a l c :=
  ⟨h.1, h.2.1.imp id fun ⟨g, e, hl, hr⟩ => ⟨g, e, hl, hr.frS (hr.out hS hT) hF⟩, fun i hi => (h.2.2 i hi).frS hS hT2 hF⟩
theorem OwnI.frS {lo : Nat} {w w' : World} {a : Option Addr} {l : List Ii} {c : Nat} {S : List Nat} {T2 : TypeId} (h : OwnI lo w a l c) (hn : ∀ g, a = some ⟨g, 0, none⟩ → g ∉ S) (hS : TagS w S T2) (hT2 : (25 : TypeId) ≠ T2) (hF : Fr S w w') : OwnI lo w' a l c :=
  ⟨h.1, h.2.1.imp id fun ⟨g, e, hl, hr, hc⟩ => ⟨g, e, hl, hr.frS (hn g e) hF, hc.frS (hn g e) hF⟩, fun i hi => (h.2.2 i hi).frS hS hT2 hF⟩
/-- the instructions of an owned row -/
theorem inss_of_row {w : World} {a : Option Addr} {n c : Nat} {l : List Ii} (h : w.ownsRow 0 28 7 (.slice a n c) n (flat7 l)) (hs : ∀ i ∈ l, SrcsAt w i.la i.l) : InsAt w a l := by
  intro k i hk
  refine ⟨?_, hs i (List.mem_of_getElem? hk)⟩
  rcases h.2 with ⟨hv, hn⟩ | ⟨g, cap, cur, hv, -⟩
  · have h1 := h.1
    rw [hn, flat7_len] at h1
    have h2 := (List.getElem?_eq_some_iff.1 hk).1
    omega
  · cases hv
    have hc := h.cells (g := g) rfl
    refine ⟨g, 0, rfl, ?_, ?_, ?_, ?_, ?_, ?_, ?_⟩
    · have h9 := hc (k * 7 + 0) (.int .i64 i.op) (flat7_at hk 0 (by omega)); rw [Lib.add_plain] at h9; exact h9
    · have h9 := hc (k * 7 + 1) (.int .i64 i.n) (flat7_at hk 1 (by omega)); rw [Lib.add_plain] at h9; rw [Nat.add_assoc]; exact h9
    · have h9 := hc (k * 7 + 2) (.int .i64 i.d.kind) (flat7_at hk 2 (by omega)); rw [Lib.add_plain] at h9; rw [Nat.add_assoc]; exact h9
    · have h9 := hc (k * 7 + 3) (.int .i64 i.d.n) (flat7_at hk 3 (by omega)); rw [Lib.add_plain] at h9; rw [Nat.add_assoc]; exact h9
    · have h9 := hc (k * 7 + 4) (.int .u64 i.d.w) (flat7_at hk 4 (by omega)); rw [Lib.add_plain] at h9; rw [Nat.add_assoc]; exact h9
    · have h9 := hc (k * 7 + 5) (.slice i.la i.l.length i.lc) (flat7_at hk 5 (by omega)); rw [Lib.add_plain] at h9; rw [Nat.add_assoc]; exact h9
    · have h9 := hc (k * 7 + 6) (.int .u64 i.w) (flat7_at hk 6 (by omega)); rw [Lib.add_plain] at h9; rw [Nat.add_assoc]; exact h9
theorem rowB_own {w : World} {e : TypeId} {size n : Nat} {xs : List Value} {v : Value} (h : w.ownsRow 0 e size v n xs) {k : Nat} (hk : v.ownBlock = some k) : RowB w k e xs := by
  rcases h.2 with ⟨hv, -⟩ | ⟨g, cap, cur, hv, -, hg, -, -, -, ht⟩
  · rw [hv] at hk; cases hk
  · rw [hv] at hk
    cases hk
    exact ⟨cur, hg, cur.toList.drop (n * size), by rw [← ht, List.take_append_drop]⟩
theorem slok_own {w : World} {e : TypeId} {size n : Nat} {xs : List Value} {a : Option Addr} {c : Nat} (h : w.ownsRow 0 e size (.slice a n c) n xs) : SlOk a n c := by
  rcases h.2 with ⟨hv, hn⟩ | ⟨g, cap, cur, hv, -, -, hle, hmx, -⟩
  · cases hv
    exact ⟨fun _ => ⟨hn, rfl⟩, by omega, Nat.zero_le _⟩
  · cases hv
    exact ⟨fun h => (by cases h), hle, hmx⟩
theorem UB_more {v : Un} {k : Int} {a : Option Addr} {c : Nat} {st : List Int} (hB : UB v) (hs : SlOk a (v.code.length + 1) c) (hn : v.code.length + 1 ≤ 5864062014805) (hl : st.length = v.starts.length) (hb : ∀ n ∈ st, -9223372036854775808 ≤ n ∧ n ≤ 9223372036854775807) (h1 : -9223372036854775808 ≤ v.regs + k ∧ v.regs + k ≤ 9223372036854775807) (h2 : -9223372036854775808 ≤ v.spills + k ∧ v.spills + k ≤ 9223372036854775807) (h3 : -9223372036854775808 ≤ v.sites + k ∧ v.sites + k ≤ 9223372036854775807) : UB (moreU v k a c st) := by
  refine ⟨hB.enter, fun i hi => ?_, hB.maps, hB.es, by simpa [moreU] using hs, by simp only [moreU]; rw [hl]; exact hB.ss, hB.ms, hB.en, by simpa [moreU] using hn, by simp only [moreU]; rw [hl]; exact hB.sn, hB.mn, hB.method, hb, hB.args, hB.temps, h1, h2, h3⟩
  simp only [moreU, List.mem_append, List.mem_singleton] at hi
  rcases hi with hi | rfl
  · exact hB.code i hi
  · exact ⟨SlOk.nil, ⟨by simp [trapI], by simp [trapI]⟩, ⟨by simp [trapI], by simp [trapI]⟩, fun s hs => by simp [trapI] at hs, by simp [trapI]⟩
set_option maxRecDepth 100000 in
set_option maxHeartbeats 8000000 in
theorem irGrows_walk (u : Un) (n : Int) (w : World) (hA : UAt w u) (hB : UB u) (hN : u.enter.length ≤ 1954687338211 ∧ u.code.length ≤ 1954687338211) : Calls Try.prog 7 #[u.v, .int .i64 n] w (Still (.bool true) w) := by
  have h1 : Hid (∀ W, Fr [] w W → Calls Try.prog 21 #[u.v] W (Still (.int .i64 (errU u)) W)) := Lib.hid fun W hF => ir_Check u W (hA.fr hF) hB
  have he : errU u = 1 ∨ errU u = 0 ∧ okU u = true := by
    unfold errU
    cases okU u
    · exact .inl rfl
    · exact .inr ⟨rfl, rfl⟩
  rcases he with he | ⟨he, hok⟩
  · rw [he] at h1
    obtain ⟨method, args, T, R, P, S, ea, en, ec, ca, co, cc, sa, st, sc, ma, mp, mc⟩ := u
    unfold Un.v at *
    simp only at h1 ⊢
    clear hA hB he hN
    generalize en.length = el at *
    generalize co.length = cl at *
    generalize st.length = sl at *
    generalize mp.length = ml at *
    go_enter Try.func7, Try.ntmps7
    go_wp2_with (first
      | (go_at_call 9; refine (awake11 _).mono ?_; rintro e w1 ⟨rfl, hF⟩; have HF1 : Hid (Fr [] w w1) := Lib.hid (((Fr.refl [] w).alloc _).trans hF); have hb := hF.heap (by simp) (heap_new w _); have b0 := cell_of_heap (o := 0) hb rfl; have b1 := cell_of_heap (o := 1) hb rfl; have b2 := cell_of_heap (o := 2) hb rfl; have b3 := cell_of_heap (o := 3) hb rfl; have b4 := cell_of_heap (o := 4) hb rfl; have b5 := cell_of_heap (o := 5) hb rfl; have b6 := cell_of_heap (o := 6) hb rfl; have b7 := cell_of_heap (o := 7) hb rfl; have b8 := cell_of_heap (o := 8) hb rfl; have b9 := cell_of_heap (o := 9) hb rfl; clear hF hb)
      | (go_at_call 21; refine (h1.out _ HF1.out).mono ?_; rintro e w2 ⟨rfl, hF⟩; have HF2 : Hid (Fr [] w w2) := Lib.hid (HF1.out.trans hF); clear hF))
    go_ret
    exact ⟨rfl, HF2.out⟩
  · rw [he] at h1
    have hn2 : numsOk u = true := by unfold okU at hok; simp only [Bool.and_eq_true] at hok; exact hok.1.1.1
    have hs2 : startsOk u = true := by unfold okU at hok; simp only [Bool.and_eq_true] at hok; exact hok.1.1.2
    have hn3 := (numsOk_iff u).1 hn2
    have hs3 := (startsOk_iff u).1 hs2
    have h2 : Hid (∀ W, Fr [] w W → Calls Try.prog 23 #[u.v] W (CopyTo u W)) := Lib.hid fun W hF => ir_Copy u W (hA.fr hF) hB hN
    obtain ⟨kk, hkk⟩ : ∃ kk, bits .and .i64 n 15 = kk := ⟨_, rfl⟩
    have hk15 : 0 ≤ kk ∧ kk ≤ 15 := by rw [← hkk]; exact and_mask n 15 (by omega)
    obtain ⟨hk0, hk15⟩ := hk15
    have HOK := Lib.hid hok
    have HBU := Lib.hid hB
    have HU : Hid (∃ u0, u0 = u) := ⟨u, rfl⟩
    obtain ⟨u0, hu0⟩ := HU.out
    have HU0 := Lib.hid hu0
    have h2' : Hid (∀ W, Fr [] w W → Calls Try.prog 23 #[u.v] W (CopyTo u0 W)) := Lib.hid (by rw [hu0]; exact h2.out)
    rw [← hu0] at HOK HBU
    have HCL0 : Hid (u0.code.length = u.code.length ∧ u0.starts.length = u.starts.length ∧ u0.regs = u.regs ∧ u0.spills = u.spills ∧ u0.sites = u.sites ∧ u0.starts = u.starts ∧ u0.method = u.method ∧ u0.args = u.args ∧ u0.temps = u.temps) := Lib.hid (by rw [hu0]; simp)
    have hcn := hN.2
    have HS5 := Lib.hid hs3.2.2.2.2.1
    have hs0 := hs3.1
    have hs129 := hs3.2.1
    clear h2 hu0 HU HU0 hA hB he hok hn2 hs2 hN
    obtain ⟨method, args, T, R, P, S, ea, en, ec, ca, co, cc, sa, st, sc, ma, mp, mc⟩ := u
    unfold Un.v at h1 h2' ⊢
    simp only at h1 h2' hn3 HCL0 hcn HS5 hs0 hs129 ⊢
    obtain ⟨-, -, -, ⟨hR0, hR1⟩, ⟨hP0, hP1⟩, hS0, hS1⟩ := hn3
    clear hs3
    generalize en.length = el at *
    generalize mp.length = ml at *
    obtain ⟨cl, hcl⟩ : ∃ z, z = co.length := ⟨_, rfl⟩
    obtain ⟨sl, hsl⟩ : ∃ z, z = st.length := ⟨_, rfl⟩
    simp only [← hcl, ← hsl] at h1 h2' HCL0 hcn HS5 hs0 hs129 ⊢
    have hs0' : (2 : Int) ≤ (sl : Int) := by omega
    have hs1' : (sl : Int) ≤ 129 := by omega
    clear hcl hsl hs0 hs129
    have hcase : (4096 < R + kk ∨ R + kk ≤ 4096 ∧ 4096 < P + kk ∨ R + kk ≤ 4096 ∧ P + kk ≤ 4096 ∧ 128 < S + kk) ∨ R + kk ≤ 4096 ∧ P + kk ≤ 4096 ∧ S + kk ≤ 128 := by omega
    go_enter Try.func7, Try.ntmps7
    go_wp2_with (first
      | (go_at_call 9; refine (awake11 _).mono ?_; rintro e w1 ⟨rfl, hF⟩; have HF1 : Hid (Fr [] w w1) := Lib.hid (((Fr.refl [] w).alloc _).trans hF); have hb := hF.heap (by simp) (heap_new w _); have b0 := cell_of_heap (o := 0) hb rfl; have b1 := cell_of_heap (o := 1) hb rfl; have b2 := cell_of_heap (o := 2) hb rfl; have b3 := cell_of_heap (o := 3) hb rfl; have b4 := cell_of_heap (o := 4) hb rfl; have b5 := cell_of_heap (o := 5) hb rfl; have b6 := cell_of_heap (o := 6) hb rfl; have b7 := cell_of_heap (o := 7) hb rfl; have b8 := cell_of_heap (o := 8) hb rfl; have b9 := cell_of_heap (o := 9) hb rfl; have HBX := Lib.hid hb; clear hF hb)
      | (go_at_call 21; refine (h1.out _ HF1.out).mono ?_; rintro e w2 ⟨rfl, hF⟩; have HF2 : Hid (Fr [] w w2) := Lib.hid (HF1.out.trans hF); have hb := hF.heap (by simp) HBX.out; clear b0 b1 b2 b3 b4 b5 b6 b7 b8 b9; have b0 := cell_of_heap (o := 0) hb rfl; have b1 := cell_of_heap (o := 1) hb rfl; have b2 := cell_of_heap (o := 2) hb rfl; have b3 := cell_of_heap (o := 3) hb rfl; have b4 := cell_of_heap (o := 4) hb rfl; have b5 := cell_of_heap (o := 5) hb rfl; have b6 := cell_of_heap (o := 6) hb rfl; have b7 := cell_of_heap (o := 7) hb rfl; have b8 := cell_of_heap (o := 8) hb rfl; have b9 := cell_of_heap (o := 9) hb rfl; clear hF hb)
      | fail)
    refine (h2'.out _ HF2.out).mono ?_
    rintro e w3 ⟨v, rfl, hSU, hOU, hAP, hF⟩
    have HSU := Lib.hid hSU
    have HOU := Lib.hid hOU
    have HAP := Lib.hid hAP
    obtain ⟨v0, hv0⟩ : ∃ v0, v0 = v := ⟨_, rfl⟩
    rw [← hv0] at HSU HOU HAP
    have HV0 : Hid (v0.regs = R ∧ v0.spills = P ∧ v0.sites = S ∧ v0.starts = st ∧ v0.starts.length = sl ∧ v0.code.length = cl) := Lib.hid (by
      have hh := HCL0.out
      rw [hv0]
      exact ⟨hSU.regs.trans hh.2.2.1, hSU.spills.trans hh.2.2.2.1, hSU.sites.trans hh.2.2.2.2.1, hSU.starts.trans hh.2.2.2.2.2.1, by rw [hSU.starts]; exact hh.2.1, by rw [er_len hSU.code]; exact hh.1⟩)
    have HF3 : Hid (Fr [] w w3) := Lib.hid (HF2.out.trans hF)
    obtain ⟨vm, va, vt, vr, vp, vs, vea, ven, vec, vca, vco, vcc, vsa, vst, vsc, vma, vmp, vmc⟩ := v
    have HVV := Lib.hid hv0
    obtain ⟨e1, e2, e3, e4, e5, e6⟩ : vr = R ∧ vp = P ∧ vs = S ∧ vst = st ∧ vst.length = sl ∧ vco.length = cl := by
      have := HV0.out
      rw [hv0] at this
      exact this
    subst e1 e2 e3 e4
    unfold Un.v
    simp only [e5, e6]
    have HE5 := Lib.hid e5
    have HE6 := Lib.hid e6
    clear hSU hOU hAP hF hv0 e5 e6 b0 b1 b2 b3 b4 b5 b6 b7 b8 b9
    obtain ⟨vel, hvel⟩ : ∃ z, z = ven.length := ⟨_, rfl⟩
    obtain ⟨vml, hvml⟩ : ∃ z, z = vmp.length := ⟨_, rfl⟩
    rw [← hvel, ← hvml]
    have HVEL := Lib.hid hvel
    have HVML := Lib.hid hvml
    clear hvel hvml
    have HROW : Hid (w3.ownsRow 0 28 7 (.slice vca cl vcc) cl (flat7 vco)) := Lib.hid (by
      have h9 := HOU.out.code.row
      rw [HVV.out] at h9
      simp only [HE6.out] at h9
      exact h9)
    rcases hcase with (hc | ⟨hc, hd⟩ | ⟨hc, hd, he⟩) | ⟨hc1, hc2, hc3⟩
    case inl.inl =>
      go_wp2_with fail
      go_ret
      exact ⟨rfl, by (repeat (first | (with_reducible refine Fr.setCell ?_ (fun h => absurd h (Nat.lt_irrefl _)) _) | (with_reducible refine Fr.setCell ?_ (fun h => absurd h (by first | omega | (simp; done) | (simp; omega) | (dsimp only; omega))) _) | (with_reducible refine Fr.alloc ?_ _) | (with_reducible refine Fr.drew ?_) | (with_reducible refine Fr.drewN ?_ _) | (with_reducible exact HF3.out)))⟩
    case inl.inr.inl =>
      go_wp2_with fail
      go_ret
      exact ⟨rfl, by (repeat (first | (with_reducible refine Fr.setCell ?_ (fun h => absurd h (Nat.lt_irrefl _)) _) | (with_reducible refine Fr.setCell ?_ (fun h => absurd h (by first | omega | (simp; done) | (simp; omega) | (dsimp only; omega))) _) | (with_reducible refine Fr.alloc ?_ _) | (with_reducible refine Fr.drew ?_) | (with_reducible refine Fr.drewN ?_ _) | (with_reducible exact HF3.out)))⟩
    case inl.inr.inr =>
      go_wp2_with fail
      go_ret
      exact ⟨rfl, by (repeat (first | (with_reducible refine Fr.setCell ?_ (fun h => absurd h (Nat.lt_irrefl _)) _) | (with_reducible refine Fr.setCell ?_ (fun h => absurd h (by first | omega | (simp; done) | (simp; omega) | (dsimp only; omega))) _) | (with_reducible refine Fr.alloc ?_ _) | (with_reducible refine Fr.drew ?_) | (with_reducible refine Fr.drewN ?_ _) | (with_reducible exact HF3.out)))⟩
    case inr =>
      have hB4 := hp1 w3 (.cells #[.int .u64 vm, .int .i64 va, .int .i64 vt, .int .i64 (vr + kk), .int .i64 (vp + kk), .int .i64 (vs + kk), .slice vea vel vec, .slice vca cl vcc, .slice vsa sl vsc, .slice vma vml vmc] 43) (.cells #[.int .i64 9, .int .i64 0, .int .i64 0, .int .i64 0, .int .u64 0, .slice none 0 0, .int .u64 0] 28)
      have hT4 := hp2 w3 (.cells #[.int .u64 vm, .int .i64 va, .int .i64 vt, .int .i64 (vr + kk), .int .i64 (vp + kk), .int .i64 (vs + kk), .slice vea vel vec, .slice vca cl vcc, .slice vsa sl vsc, .slice vma vml vmc] 43) (.cells #[.int .i64 9, .int .i64 0, .int .i64 0, .int .i64 0, .int .u64 0, .slice none 0 0, .int .u64 0] 28)
      have hF4 : Fr [] w3 ((w3.alloc (.cells #[.int .u64 vm, .int .i64 va, .int .i64 vt, .int .i64 (vr + kk), .int .i64 (vp + kk), .int .i64 (vs + kk), .slice vea vel vec, .slice vca cl vcc, .slice vsa sl vsc, .slice vma vml vmc] 43)).alloc (.cells #[.int .i64 9, .int .i64 0, .int .i64 0, .int .i64 0, .int .u64 0, .slice none 0 0, .int .u64 0] 28)) := ((Fr.refl [] w3).alloc _).alloc _
      have HB4 := Lib.hid hB4
      have HT4 := Lib.hid hT4
      have HF4 := Lib.hid hF4
      have HRW := Lib.hid (hF4.row HROW.out (fun _ _ => by simp))
      clear hB4 hT4 hF4
      have HOW : Hid (∀ g, (Value.slice vca cl vcc).ownBlock = some g → g < w3.heap.size ∧ vca = some ⟨g, 0, none⟩) := Lib.hid (fun g hg => by
        rcases HROW.out.2 with ⟨hv, -⟩ | ⟨g', cap, cur, hv, -, hb, -⟩
        · rw [hv] at hg; cases hg
        · cases hv
          cases hg
          exact ⟨lt_of_heap hb, rfl⟩)
      obtain ⟨W4, hW4⟩ : ∃ W, W = ((w3.alloc (.cells #[.int .u64 vm, .int .i64 va, .int .i64 vt, .int .i64 (vr + kk), .int .i64 (vp + kk), .int .i64 (vs + kk), .slice vea vel vec, .slice vca cl vcc, .slice vsa sl vsc, .slice vma vml vmc] 43)).alloc (.cells #[.int .i64 9, .int .i64 0, .int .i64 0, .int .i64 0, .int .u64 0, .slice none 0 0, .int .u64 0] 28)) := ⟨_, rfl⟩
      have HW4 := Lib.hid hW4
      clear hW4
      obtain ⟨i0, hi, hz0, hz1, hz2⟩ := info_parts infoIns7
      go_wp2_with (at_builtin; refine wpList_append_at _ rfl (.tmp 56) (.tmp 58) 39 rfl 28 i0 _ 7 72 Try.underlying39 hi hz0 hz1 hz2 rfl (by decide) (.slice vca cl vcc) cl (flat7 vco) rfl HRW.out ⟨w3.heap.size + 1, 0, none⟩ 1 1 [.int .i64 9, .int .i64 0, .int .i64 0, .int .i64 0, .int .u64 0, .slice none 0 0, .int .u64 0] rfl rfl (by
            intro j u hj
            rw [Lib.add_plain, Nat.zero_add]
            exact cell_of_heap HT4.out (by simpa using hj)) (by simp [Value.oneCell']) (by unfold maxLen; omega) (by omega) ?_; intro v5 w5 ho5 hg5 hf5; obtain ⟨a5, c5, rfl⟩ := irow_shape ho5; have HO5 := Lib.hid ho5; have HG5 := Lib.hid hg5; have hb5 := (hg5.block w3.heap.size (by simp; omega) (fun e => by have := (HOW.out _ e.symm).1; omega)).trans HB4.out; have HB5 := Lib.hid hb5; have b0 := cell_of_heap (o := 0) hb5 rfl; have b1 := cell_of_heap (o := 1) hb5 rfl; have b2 := cell_of_heap (o := 2) hb5 rfl; have b3 := cell_of_heap (o := 3) hb5 rfl; have b4 := cell_of_heap (o := 4) hb5 rfl; have b5 := cell_of_heap (o := 5) hb5 rfl; have b6 := cell_of_heap (o := 6) hb5 rfl; have b7 := cell_of_heap (o := 7) hb5 rfl; have b8 := cell_of_heap (o := 8) hb5 rfl; have b9 := cell_of_heap (o := 9) hb5 rfl; have z0 := frozen_of_heap (o := 0) hb5; have z1 := frozen_of_heap (o := 1) hb5; have z2 := frozen_of_heap (o := 2) hb5; have z3 := frozen_of_heap (o := 3) hb5; have z4 := frozen_of_heap (o := 4) hb5; have z5 := frozen_of_heap (o := 5) hb5; have z6 := frozen_of_heap (o := 6) hb5; have z7 := frozen_of_heap (o := 7) hb5; have z8 := frozen_of_heap (o := 8) hb5; have z9 := frozen_of_heap (o := 9) hb5; have hz5 := lt_of_heap hb5; clear ho5 hg5 hf5 hb5)
      clear b0 b1 b2 b3 b4 b5 b6 b7 b8 b9 z0 z1 z2 z3 z4 z5 z6 z7 z8 z9
      have hOU3 := HOU.out
      rw [HVV.out] at hOU3
      have hUB0 := UB_same HSU.out HBU.out HOU.out
      rw [HVV.out] at hUB0
      have hOK0 : okU (⟨vm, va, vt, vr, vp, vs, vea, ven, vec, vca, vco, vcc, vsa, vst, vsc, vma, vmp, vmc⟩ : Un) = true := by
        have h9 := errU_same HSU.out
        rw [HVV.out] at h9
        have h8 : errU u0 = 0 := by unfold errU; rw [HOK.out]; rfl
        rw [h8] at h9
        unfold errU at h9
        split at h9
        · next h => exact h
        · cases h9
      obtain ⟨S, hFS, hTS, hES⟩ : ∃ S : List Nat, Fr S w3 w5 ∧ TagS w3 S 28 ∧ ∀ g, vea = some ⟨g, 0, none⟩ → g ∉ S := by
        rcases hOU3.code.2.1 with ⟨h, -⟩ | ⟨g, e, -, hr, -⟩
        · refine ⟨[], HF4.out.trans ((Fr.refl [] _).grown HG5.out (fun k hk => ?_)), fun g hg => by simp at hg, fun g _ => by simp⟩
          have h' : vca = none := h
          rw [h'] at hk
          cases hk
        · have e' : vca = some ⟨g, 0, none⟩ := e
          refine ⟨[g], (HF4.out.weak).trans ((Fr.refl [g] _).grown HG5.out (fun k hk _ => ?_)), fun g' hg' => ?_, fun g' hg' hm => ?_⟩
          · rw [e'] at hk
            cases hk
            simp
          · rw [List.mem_singleton.1 hg']
            exact ⟨_, hr⟩
          · rw [List.mem_singleton.1 hm] at hg'
            have h9 := HAP.out g
            rw [HVV.out] at h9
            exact h9 hg' e'
      have hE5 := hOU3.enter.frS hES hTS (by decide) hFS
      have hN5 := hOU3.starts.frS hTS (by decide) hFS
      have hM5 := hOU3.maps.frS hTS (by decide) (by decide) hFS
      have hC5 : ∀ i ∈ vco, OwnS _ w5 i.la i.l i.lc := fun i hi => (hOU3.code.2.2 i hi).frS hTS (by decide) hFS
      have hRB : RowB w5 w3.heap.size 43 [.int .u64 vm, .int .i64 va, .int .i64 vt, .int .i64 (vr + kk), .int .i64 (vp + kk), .int .i64 (vs + kk), .slice vea vel vec, .slice vca cl vcc, .slice vsa sl vsc, .slice vma vml vmc] := ⟨_, HB5.out, [], by simp⟩
      have hF6 : Fr [w3.heap.size] w5 (w5.setCell ⟨w3.heap.size, 7, none⟩ (.slice a5 (cl + 1) c5)) := (Fr.refl _ _).setCell (fun _ => by simp) _
      have hE6 := hE5.frx hRB (by decide) (by decide) hF6
      have hN6 := hN5.frx hRB (by decide) hF6
      have hM6 := hM5.frx hRB (by decide) (by decide) hF6
      have hC6 : ∀ i ∈ vco, OwnS _ (w5.setCell ⟨w3.heap.size, 7, none⟩ (.slice a5 (cl + 1) c5)) i.la i.l i.lc := fun i hi => (hC5 i hi).frx hRB (by decide) hF6
      have hO6 := hF6.row HO5.out (fun k hk => by
        have h9 := rowB_own HO5.out hk
        have := h9.ne hRB (by decide)
        simpa using this)
      have hB6 : (w5.setCell ⟨w3.heap.size, 7, none⟩ (.slice a5 (cl + 1) c5)).heap[w3.heap.size]? = some (.cells #[.int .u64 vm, .int .i64 va, .int .i64 vt, .int .i64 (vr + kk), .int .i64 (vp + kk), .int .i64 (vs + kk), .slice vea vel vec, .slice a5 (cl + 1) c5, .slice vsa sl vsc, .slice vma vml vmc] 43 (0, 0)) := by
        have h9 := heap_setCell_same (o := 7) HB5.out (.slice a5 (cl + 1) c5)
        simpa using h9
      have hFw6 : Fr [] w (w5.setCell ⟨w3.heap.size, 7, none⟩ (.slice a5 (cl + 1) c5)) := by
        have h9 : Fr [] w w5 := (HF3.out.trans HF4.out).grown HG5.out (fun k hk hl => by
          have h8 := HOW.out k hk
          rcases hOU3.code.2.1 with ⟨h, -⟩ | ⟨g, e, hlo, -⟩
          · have h' : vca = none := h
            rw [h'] at h8
            cases h8.2
          · have e' : vca = some ⟨g, 0, none⟩ := e
            have h7 := h8.2
            rw [e'] at h7
            cases h7
            have := HF2.out.size
            omega)
        exact h9.setCell (fun h => absurd h (by have := HF3.out.size; show ¬ w3.heap.size < w.heap.size; omega)) _
      generalize w5.setCell ⟨w3.heap.size, 7, none⟩ (.slice a5 (cl + 1) c5) = w6 at *
      have hSL5 := slok_own HO5.out
      have hIN6 : InsAt w6 a5 (vco ++ [trapI]) := inss_of_row (n := cl + 1) (c := c5) (by rw [flat7_snoc]; exact hO6) (fun i hi => by
        rcases List.mem_append.1 hi with hi | hi
        · exact (hC6 i hi).at
        · rw [List.mem_singleton.1 hi]
          intro k s hs
          simp [trapI] at hs)
      have hv1 : (moreU ⟨vm, va, vt, vr, vp, vs, vea, ven, vec, vca, vco, vcc, vsa, vst, vsc, vma, vmp, vmc⟩ kk a5 c5 vst).v = .agg #[.int .u64 vm, .int .i64 va, .int .i64 vt, .int .i64 (vr + kk), .int .i64 (vp + kk), .int .i64 (vs + kk), .slice vea vel vec, .slice a5 (cl + 1) c5, .slice vsa sl vsc, .slice vma vml vmc] := by
        unfold Un.v moreU
        simp only [List.length_append, List.length_singleton, HE6.out, HE5.out, ← HVEL.out, ← HVML.out]
      have hUB1 : UB (moreU ⟨vm, va, vt, vr, vp, vs, vea, ven, vec, vca, vco, vcc, vsa, vst, vsc, vma, vmp, vmc⟩ kk a5 c5 vst) := UB_more hUB0 (by simp only [HE6.out]; exact hSL5) (by simp only [HE6.out]; omega) rfl hUB0.sb ⟨by simp only; omega, by simp only; omega⟩ ⟨by simp only; omega, by simp only; omega⟩ ⟨by simp only; omega, by simp only; omega⟩
      have hC1 := ir_Check (moreU ⟨vm, va, vt, vr, vp, vs, vea, ven, vec, vca, vco, vcc, vsa, vst, vsc, vma, vmp, vmc⟩ kk a5 c5 vst) w6 ⟨hE6.at, hIN6, hN6.at, hM6.at⟩ hUB1
      rw [hv1, moreU_no ⟨vm, va, vt, vr, vp, vs, vea, ven, vec, vca, vco, vcc, vsa, vst, vsc, vma, vmp, vmc⟩ kk a5 c5 hOK0] at hC1
      refine hC1.mono ?_
      rintro e w7 ⟨rfl, hF7⟩
      have hB7 := hF7.heap (by simp) hB6
      have hE7 := hE6.fr hF7
      have hN7 := hN6.fr hF7
      have hM7 := hM6.fr hF7
      have hO7 := hF7.row hO6 (fun _ _ => by simp)
      have hC7 : ∀ i ∈ vco, OwnS _ w7 i.la i.l i.lc := fun i hi => (hC6 i hi).fr hF7
      have hFw7 := hFw6.trans hF7
      obtain ⟨gs, hgs, hlos, hRS⟩ : ∃ g, vsa = some ⟨g, 0, none⟩ ∧ _ ≤ g ∧ RowB w7 g 3 (flatN vst) := by
        rcases hN7.2 with h | h
        · have h9 := HE5.out
          have h8 : vst = [] := h
          rw [h8] at h9
          simp at h9
          omega
        · exact h
      subst hgs
      have hRB7 : RowB w7 w3.heap.size 43 [.int .u64 vm, .int .i64 va, .int .i64 vt, .int .i64 (vr + kk), .int .i64 (vp + kk), .int .i64 (vs + kk), .slice vea vel vec, .slice a5 (cl + 1) c5, .slice (some ⟨gs, 0, none⟩) sl vsc, .slice vma vml vmc] := ⟨_, hB7, [], by simp⟩
      have hne : gs ≠ w3.heap.size := hRS.ne hRB7 (by decide)
      obtain ⟨sm, hsm⟩ : ∃ z, z = sl - 1 := ⟨_, rfl⟩
      have hsmi : (sl : Int) - 1 = (sm : Int) := by omega
      have hlast : vst[sm]? = some (cl : Int) := by rw [hsm]; exact HS5.out
      have hcS := hRS.cell (k := sm) (v := .int .i64 cl) (by simp [flatN, hlast])
      have hzS := hRS.frozen sm
      have hgl := hRS.lt
      have s0 : (0 : Int) ≤ (sm : Int) := by omega
      have s1 : (sm : Int) < (sl : Int) := by omega
      have hcl9 : (cl : Int) ≤ 1954687338211 := by omega
      have hcl0 : (0 : Int) ≤ (cl : Int) := by omega
      have hF8 : Fr [gs] w7 (w7.setCell ⟨gs, sm, none⟩ (.int .i64 ((cl : Int) + 1))) := (Fr.refl _ _).setCell (fun _ => by simp) _
      have hE8 := Lib.hid (hE7.frx hRS (by decide) (by decide) hF8)
      have hM8 := Lib.hid (hM7.frx hRS (by decide) (by decide) hF8)
      have hC8 : Hid (∀ i ∈ vco, OwnS _ (w7.setCell ⟨gs, sm, none⟩ (.int .i64 ((cl : Int) + 1))) i.la i.l i.lc) := Lib.hid (fun i hi => (hC7 i hi).frx hRS (by decide) hF8)
      have hO8 := hF8.row hO7 (fun k hk => by
        have h9 := rowB_own hO7 hk
        have := h9.ne hRS (by decide)
        simpa using this)
      have hSL8 : SlOk (some ⟨gs, 0, none⟩) (vst.set sm ((cl : Int) + 1)).length vsc := by rw [List.length_set]; exact hN7.1
      have hN8 : Hid (OwnN _ (w7.setCell ⟨gs, sm, none⟩ (.int .i64 ((cl : Int) + 1))) (some ⟨gs, 0, none⟩) (vst.set sm ((cl : Int) + 1)) vsc) := Lib.hid ⟨hSL8, .inr ⟨gs, rfl, hlos, by
        rw [show flatN (vst.set sm ((cl : Int) + 1)) = (flatN vst).set sm (.int .i64 ((cl : Int) + 1)) from List.map_set]
        exact hRS.set (by rw [flatN_len, HE5.out]; omega) _⟩⟩
      have hIN8 : Hid (InsAt (w7.setCell ⟨gs, sm, none⟩ (.int .i64 ((cl : Int) + 1))) a5 (vco ++ [trapI])) := Lib.hid (inss_of_row (n := cl + 1) (c := c5) (by rw [flat7_snoc]; exact hO8) (fun i hi => by
        rcases List.mem_append.1 hi with hi | hi
        · exact (hC8.out i hi).at
        · rw [List.mem_singleton.1 hi]
          intro k s hs
          simp [trapI] at hs))
      have hFw8 : Hid (Fr [] w (w7.setCell ⟨gs, sm, none⟩ (.int .i64 ((cl : Int) + 1)))) := Lib.hid (hFw7.setCell (fun h => absurd h (by have := HF2.out.size; show ¬ gs < w.heap.size; omega)) _)
      have hv2 : Hid ((moreU ⟨vm, va, vt, vr, vp, vs, vea, ven, vec, vca, vco, vcc, some ⟨gs, 0, none⟩, vst, vsc, vma, vmp, vmc⟩ kk a5 c5 (vst.set sm ((cl : Int) + 1))).v = .agg #[.int .u64 vm, .int .i64 va, .int .i64 vt, .int .i64 (vr + kk), .int .i64 (vp + kk), .int .i64 (vs + kk), .slice vea vel vec, .slice a5 (cl + 1) c5, .slice (some ⟨gs, 0, none⟩) sl vsc, .slice vma vml vmc]) := Lib.hid (by
        unfold Un.v moreU
        simp only [List.length_append, List.length_singleton, List.length_set, HE6.out, HE5.out, ← HVEL.out, ← HVML.out])
      have hUB2 : Hid (UB (moreU ⟨vm, va, vt, vr, vp, vs, vea, ven, vec, vca, vco, vcc, some ⟨gs, 0, none⟩, vst, vsc, vma, vmp, vmc⟩ kk a5 c5 (vst.set sm ((cl : Int) + 1)))) := Lib.hid (UB_more hUB0 (by simp only [HE6.out]; exact hSL5) (by simp only [HE6.out]; omega) (by simp) (fun z hz => by
        rcases List.mem_or_eq_of_mem_set hz with hz | rfl
        · exact hUB0.sb z hz
        · omega) ⟨by simp only; omega, by simp only; omega⟩ ⟨by simp only; omega, by simp only; omega⟩ ⟨by simp only; omega, by simp only; omega⟩)
      have hER : Hid (errU (moreU ⟨vm, va, vt, vr, vp, vs, vea, ven, vec, vca, vco, vcc, some ⟨gs, 0, none⟩, vst, vsc, vma, vmp, vmc⟩ kk a5 c5 (vst.set sm ((cl : Int) + 1))) = 0) := Lib.hid (by
        have h9 := moreU_ok ⟨vm, va, vt, vr, vp, vs, vea, ven, vec, vca, vco, vcc, some ⟨gs, 0, none⟩, vst, vsc, vma, vmp, vmc⟩ kk a5 c5 hOK0 hk0 hc1 hc2 hc3
        simp only [HE5.out, HE6.out, ← hsm] at h9
        exact h9)
      have b0 := cell_of_heap (o := 0) hB7 rfl; have b1 := cell_of_heap (o := 1) hB7 rfl; have b2 := cell_of_heap (o := 2) hB7 rfl; have b3 := cell_of_heap (o := 3) hB7 rfl; have b4 := cell_of_heap (o := 4) hB7 rfl; have b5 := cell_of_heap (o := 5) hB7 rfl; have b6 := cell_of_heap (o := 6) hB7 rfl; have b7 := cell_of_heap (o := 7) hB7 rfl; have b8 := cell_of_heap (o := 8) hB7 rfl; have b9 := cell_of_heap (o := 9) hB7 rfl
      have hz7 := lt_of_heap hB7
      clear hE5 hE6 hE7 hN5 hN6 hN7 hM5 hM6 hM7 hC5 hC6 hC7 hO6 hO7 hO8 hRB hRB7 hRS hFS hTS hES hF6 hF7 hB6 hB7 hFw6 hFw7 hF8 hIN6 hUB0 hUB1 hOU3 hOK0 hv1 hC1 hSL5 hSL8 hlast hlos hsm
      go_wp2_with fail
      have hC2 := ir_Check (moreU ⟨vm, va, vt, vr, vp, vs, vea, ven, vec, vca, vco, vcc, some ⟨gs, 0, none⟩, vst, vsc, vma, vmp, vmc⟩ kk a5 c5 (vst.set sm ((cl : Int) + 1))) (w7.setCell ⟨gs, sm, none⟩ (.int .i64 ((cl : Int) + 1))) ⟨hE8.out.at, hIN8.out, hN8.out.at, hM8.out.at⟩ hUB2.out
      rw [hv2.out, hER.out] at hC2
      refine hC2.mono ?_
      rintro e w9 ⟨rfl, hF9⟩
      have HF9 : Hid (Fr [] w w9) := Lib.hid (hFw8.out.trans hF9)
      clear hC2 hF9
      go_wp2_with fail
      go_ret
      exact ⟨rfl, HF9.out⟩
end Go.Proofs.Ytcdpgchkdjjfgaa
