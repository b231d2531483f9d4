/- live: the document's: is a register named? live: the document's: is a register touched at an instruction of the bytecode? live: the document's Intervals. -/
import Derived.Test.YtbmfmklalonhiaaGreatDoorMLvA
import Derived.Test.YtbmfmklalonhiaaGreatDoorMLvB
import Derived.Test.YtbmfmklalonhiaaGreatDoorMIrC
import Derived.Test.YtbmfmklalonhiaaGreatDoorMLvD
import Derived.Deep.QuietTactic
import Derived.BigQuiet
namespace Go.Proofs.YtbmfmklalonhiaaGreatDoor
open Go.RowKit

set_option maxRecDepth 100000 in
set_option maxHeartbeats 4000000 in
theorem r13_names (a : Option Addr) (c : Nat) (l : List Sr) (v : Int) (w : World) (ha : SrcsAt w a l) (hx : l.length ≤ 5864062014805) :
    Calls Tryz.prog 69 #[.slice a l.length c, .int .i64 v] w (Still (.bool (decide ((⟨0, v, 0⟩ : Sr) ∈ l))) w) := by
  obtain ⟨n, hn⟩ : ∃ n, n = l.length := ⟨_, rfl⟩
  rw [← hn] at hx ⊢
  obtain ⟨x, hv⟩ : ∃ x, x = decide ((⟨0, v, 0⟩ : Sr) ∈ l) := ⟨_, rfl⟩
  rw [← hv]
  have HV : Hid (x = true ↔ (⟨0, v, 0⟩ : Sr) ∈ l) := Lib.hid (by rw [hv]; simp)
  have HA := Lib.hid ha
  have HN := Lib.hid hn
  clear ha hn hv
  go_enter Tryz.func69, Tryz.ntmps69
  go_wp2
  go_loopw [5] (fun i wr => ∃ k : Nat, k ≤ n ∧ i = .int .i64 k ∧ Hid (Fr [] w wr) ∧ Hid ((⟨0, v, 0⟩ : Sr) ∉ l.take k)) (fun i _ => n - (RowKit.intOf i).toNat)
  case atStart => exact ⟨0, Nat.zero_le _, rfl, Fr.refl _ _, Lib.hid (by simp)⟩
  case round =>
    obtain ⟨k, hk, rfl, HF, HT⟩ := hrel
    by_cases hlt : k < n
    · obtain ⟨s, hs⟩ : ∃ s, l[k]? = some s := ⟨_, List.getElem?_eq_getElem (by rw [← HN.out]; exact hlt)⟩
      obtain ⟨g, o, rfl, c0, c1, c2⟩ := (HA.out.fr HF.out) k s hs
      have hk1 : (k : Int) < (n : Int) := by omega
      have hk0 : (0 : Int) ≤ (k : Int) := Int.natCast_nonneg _
      have hg1 : g < wr.heap.size := World.block_lt_of_cell? wr _ c0
      have HYES : Hid (s = ⟨0, v, 0⟩ → x = true) := Lib.hid fun e => HV.out.2 (by rw [← e]; exact List.mem_of_getElem? hs)
      have HNO : Hid (s ≠ ⟨0, v, 0⟩ → (⟨0, v, 0⟩ : Sr) ∉ l.take (k + 1)) := Lib.hid fun hne hm => by
        rw [take_snoc hs, List.mem_append] at hm
        rcases hm with hm | hm
        · exact HT.out hm
        · simp only [List.mem_singleton] at hm; exact hne hm.symm
      clear hs
      obtain ⟨pk, pn, pw⟩ := s
      simp only [Sr.mk.injEq, ne_eq] at c0 c1 c2 HYES HNO
      have hc : (pk = 0 ∧ pn = v ∧ pw = 0) ∨ (pk == 0) = false ∧ pk ≠ 0 ∨ pk = 0 ∧ (pn == v) = false ∧ pn ≠ v ∨ pk = 0 ∧ pn = v ∧ (pw == 0) = false ∧ pw ≠ 0 := by
        simp only [beq_eq_false_iff_ne]
        omega
      rcases hc with ⟨rfl, rfl, rfl⟩ | ⟨h1, h2⟩ | ⟨rfl, h1, h2⟩ | ⟨rfl, rfl, h1, h2⟩
      case inl =>
        have HE := Lib.hid (HYES.out ⟨rfl, rfl, rfl⟩)
        clear HYES HNO
        go_wp2_with fail
        go_ret
        exact ⟨ret1 (vb HE.out.symm), HF.out⟩
      all_goals
        have HE := Lib.hid (HNO.out (by simp [h2]))
        clear HYES HNO h2
        go_wp2_with fail
        go_roundw
        case rel => exact ⟨k + 1, by omega, by go_num, HF.out, HE⟩
        case measure => simp [RowKit.intOf]; omega
    · have hke : k = n := by omega
      have HE : Hid (x = false) := Lib.hid (by
        have h9 := HT.out
        rw [hke, HN.out, List.take_length] at h9
        cases x with
        | false => rfl
        | true => exact absurd (HV.out.1 rfl) h9)
      have hkd : ¬ (k : Int) < (n : Int) := by omega
      clear hke
      go_wp2
      go_ret
      exact ⟨ret1 (vb HE.out.symm), HF.out⟩
end Go.Proofs.YtbmfmklalonhiaaGreatDoor
namespace Go.Proofs.YtbmfmklalonhiaaGreatDoor
open Go.RowKit

theorem regL_src {R P : Int} (hR : R ≤ 4096) {l : List Sr} (h : ∀ s ∈ l, srcOk R P s = true) (v : Int) : v ∈ regL l ↔ (⟨0, v, 0⟩ : Sr) ∈ l := by
  constructor
  · intro hv
    obtain ⟨s, hs, h0, rfl⟩ := regL_mem hv
    have := regs_src hR (h s hs) h0
    obtain ⟨k, n, w⟩ := s
    simp only at h0 this
    obtain ⟨-, -, rfl⟩ := this
    subst h0
    exact hs
  · intro hm
    unfold regL
    exact List.mem_map.2 ⟨_, List.mem_filter.2 ⟨hm, by simp⟩, rfl⟩
theorem ins_mem {R P S M : Int} (hR : R ≤ 4096) {i : Ii} (h : insOkU R P S M i = true) (v : Int) : v ∈ insRegs i ↔ (⟨0, v, 0⟩ : Sr) ∈ i.l ∨ (lvs i.op = true ∧ i.d = ⟨0, v, 0⟩) := by
  unfold insOkU at h
  simp only [Bool.and_eq_true] at h
  have hl := List.all_eq_true.1 h.1.1.1.2
  have hr := h.1.1.2
  unfold insRegs
  rw [List.mem_append]
  refine or_congr ?_ ?_
  · rw [regL_src hR (fun s hs => hl s (List.mem_filter.1 hs).1), List.mem_filter]
    refine ⟨fun hm => hm.1, fun hm => ⟨hm, ?_⟩⟩
    have h9 := regs_src hR (hl _ hm) rfl
    dsimp only at h9
    unfold plc
    simp
    omega
  · by_cases hlv : lvs i.op = true
    · rw [if_pos hlv]
      unfold resOk at hr
      rw [if_pos hlv, Bool.and_eq_true] at hr
      rw [regL_src hR (l := [i.d]) (fun s hs => by simp only [List.mem_singleton] at hs; subst hs; exact hr.2)]
      simp [hlv, eq_comm]
    · rw [if_neg hlv]
      simp [hlv]
set_option maxRecDepth 100000 in
set_option maxHeartbeats 8000000 in
theorem r13_touched (u : Un) (v : Int) (pc : Nat) (w : World) (hA : UAt w u) (hB : UB u) (hU : UOk u) (hpc : pc < u.maps.length) : Calls Tryz.prog 45 #[u.v, .int .i64 v, .int .i64 pc] w (Still (.bool (decide (v ∈ usesAt u pc))) w) := by
  obtain ⟨m, hm⟩ : ∃ m, u.maps[pc]? = some m := ⟨_, List.getElem?_eq_getElem hpc⟩
  obtain ⟨a, b, ha, hb, hab, hbc⟩ := hU.st pc hpc
  have hmm := List.mem_of_getElem? hm
  have hmu : mapU u pc = m.l := by unfold mapU; rw [hm]
  obtain ⟨x, hx⟩ : ∃ x, x = decide (v ∈ usesAt u pc) := ⟨_, rfl⟩
  obtain ⟨y, hy⟩ : ∃ y, y = decide ((⟨0, v, 0⟩ : Sr) ∈ m.l) := ⟨_, rfl⟩
  have HXY : Hid (y = true → x = true) := Lib.hid fun h => by
    rw [hy, decide_eq_true_eq] at h
    rw [hx, decide_eq_true_eq]
    unfold usesAt
    rw [List.mem_append, hmu, regL_src hU.regs.2 (hU.maps m hmm)]
    exact .inl h
  have HXI : Hid (∀ j i, a ≤ j → j < b → u.code[j]? = some i → ((⟨0, v, 0⟩ : Sr) ∈ i.l ∨ (lvs i.op = true ∧ i.d = ⟨0, v, 0⟩)) → x = true) := Lib.hid fun j i h1 h2 hi h3 => by
    rw [hx, decide_eq_true_eq]
    unfold usesAt
    rw [List.mem_append, part_at ha hb]
    refine .inr (List.mem_flatMap.2 ⟨i, ?_, (ins_mem hU.regs.2 (hU.code i (List.mem_of_getElem? hi)) v).2 h3⟩)
    refine List.mem_of_getElem? (i := j - a) ?_
    rw [List.getElem?_take_of_lt (by omega), List.getElem?_drop, show a + (j - a) = j by omega]
    exact hi
  have HXN : Hid (y = false → (∀ j i, a ≤ j → j < b → u.code[j]? = some i → ¬ ((⟨0, v, 0⟩ : Sr) ∈ i.l ∨ (lvs i.op = true ∧ i.d = ⟨0, v, 0⟩))) → x = false) := Lib.hid fun h1 h2 => by
    rw [hx, decide_eq_false_iff_not]
    unfold usesAt
    rw [List.mem_append, part_at ha hb, hmu, regL_src hU.regs.2 (hU.maps m hmm)]
    rintro (h3 | h3)
    · rw [hy, decide_eq_false_iff_not] at h1; exact h1 h3
    · obtain ⟨i, hi, hv⟩ := List.mem_flatMap.1 h3
      obtain ⟨k, hk⟩ := List.mem_iff_getElem?.1 hi
      have hkl := (List.getElem?_eq_some_iff.1 hk).1
      rw [List.length_take] at hkl
      rw [List.getElem?_take_of_lt (by omega), List.getElem?_drop] at hk
      exact h2 (a + k) i (by omega) (by omega) hk ((ins_mem hU.regs.2 (hU.code i (List.mem_of_getElem? hk)) v).1 hv)
  rw [← hx]
  have HNM : Hid (∀ W, Fr [] w W → Calls Tryz.prog 69 #[.slice m.a m.l.length m.c, .int .i64 v] W (Still (.bool y) W)) := Lib.hid fun W hF => by
    rw [hy]
    exact r13_names m.a m.c m.l v W ((hA.maps pc m hm).2.fr hF) (hB.maps m hmm).1
  have HNI : Hid (∀ (W : World), Fr [] w W → ∀ (j : Nat) (i : Ii), u.code[j]? = some i → Calls Tryz.prog 69 #[.slice i.la i.l.length i.lc, .int .i64 v] W (Still (.bool (decide ((⟨0, v, 0⟩ : Sr) ∈ i.l))) W)) := Lib.hid fun W hF j i hi => by
    have h1 := (hA.code j i hi).2.fr hF
    have h2 := (hB.code i (List.mem_of_getElem? hi)).n
    exact r13_names i.la i.lc i.l v W h1 h2
  have HAM : Hid (∀ W, Fr [] w W → ∃ g o, u.ma = some ⟨g, o, none⟩ ∧ W.cell? ⟨g, o + pc, none⟩ = some (.slice m.a m.l.length m.c)) := Lib.hid fun W hF => ((hA.maps.fr hF) pc m hm).1
  have HAS : Hid (∀ W, Fr [] w W → ∃ g o, u.sa = some ⟨g, o, none⟩ ∧ W.cell? ⟨g, o + pc, none⟩ = some (.int .i64 a) ∧ W.cell? ⟨g, o + (pc + 1), none⟩ = some (.int .i64 b)) := Lib.hid fun W hF => by
    obtain ⟨g, o, e, c1⟩ := (hA.starts.fr hF) pc a ha
    obtain ⟨g', o', e', c2⟩ := (hA.starts.fr hF) (pc + 1) b hb
    rw [e] at e'
    cases e'
    exact ⟨g, o, e, c1, c2⟩
  have HAC := Lib.hid hA.code
  have hml : u.maps.length ≤ 128 := by have := hU.starts; omega
  have hsl : u.starts.length = u.maps.length + 1 := by have := hU.starts; omega
  have hcn := hB.cn
  clear hx hy hmu hmm hm ha hb hA hB hU
  obtain ⟨method, args, T, R, P, S, ea, en, ec, ca, co, cc, sa, st, sc, ma, mp, mc⟩ := u
  unfold Un.v
  simp only at HXI HXN HNI HAM HAS HAC hml hsl hcn hbc hpc ⊢
  generalize en.length = el at *
  obtain ⟨cl, hcl⟩ : ∃ z, z = co.length := ⟨_, rfl⟩
  rw [← hcl] at hbc hcn ⊢
  have HCL := Lib.hid hcl
  generalize st.length = sl at *
  generalize mp.length = ml at *
  generalize m.l.length = mll at *
  obtain ⟨gm, om, rfl, c0⟩ := HAM.out w (Fr.refl _ _)
  obtain ⟨gs, os, rfl, d0, d1⟩ := HAS.out w (Fr.refl _ _)
  have hgm : gm < w.heap.size := World.block_lt_of_cell? w _ c0
  have hgs : gs < w.heap.size := World.block_lt_of_cell? w _ d0
  have k0 : (0 : Int) ≤ (pc : Int) := by omega
  have k1 : (pc : Int) < (ml : Int) := by omega
  have s1 : (pc : Int) < (sl : Int) := by omega
  have s0 : (0 : Int) ≤ (pc : Int) + 1 := by omega
  have s2 : (pc : Int) + 1 < (sl : Int) := by omega
  have e1 : IntKind.i64.wrap ((pc : Int) + 1) = (pc : Int) + 1 := IntWalk.i64_in _ (by omega)
  have HBC : Hid (a ≤ b ∧ b ≤ cl) := Lib.hid ⟨hab, hbc⟩
  clear hcl hml hsl hpc hab hbc
  have HB0 := Lib.hid (heap_new w (.cells #[.int .u64 method, .int .i64 args, .int .i64 T, .int .i64 R, .int .i64 P, .int .i64 S, .slice ea el ec, .slice ca cl cc, .slice (some ⟨gs, os, none⟩) sl sc, .slice (some ⟨gm, om, none⟩) ml mc] 34))
  have HWR := Lib.hid (fun (i : Ii) W => r11_Writes i W)
  have HD := Lib.hid (show w.cell? ⟨gs, os + pc, none⟩ = some (.int .i64 a) ∧ w.cell? ⟨gs, os + (pc + 1), none⟩ = some (.int .i64 b) from ⟨d0, d1⟩)
  cases y
  case true =>
    have HX := Lib.hid (HXY.out rfl)
    go_enter Tryz.func45, Tryz.ntmps45
    go_wp2_with (go_at_call 69; refine (HNM.out _ (by (repeat (first | (with_reducible refine Fr.setCell ?_ (fun h => absurd h (Nat.lt_irrefl _)) _) | (with_reducible refine Fr.setCell ?_ (fun h => absurd h (by first | omega | (simp; done) | (simp; omega) | (dsimp only; omega))) _) | (with_reducible refine Fr.alloc ?_ _) | (with_reducible refine Fr.drew ?_) | (with_reducible refine Fr.drewN ?_ _) | (with_reducible exact Fr.refl _ _))))).mono ?_; rintro e w2 ⟨rfl, hF⟩; have HF2 : Hid (Fr [] w w2) := Lib.hid (Fr.trans (by (repeat (first | (with_reducible refine Fr.setCell ?_ (fun h => absurd h (Nat.lt_irrefl _)) _) | (with_reducible refine Fr.setCell ?_ (fun h => absurd h (by first | omega | (simp; done) | (simp; omega) | (dsimp only; omega))) _) | (with_reducible refine Fr.alloc ?_ _) | (with_reducible refine Fr.drew ?_) | (with_reducible refine Fr.drewN ?_ _) | (with_reducible exact Fr.refl _ _)))) hF); have HB2 := Lib.hid (hF.heap (by simp) HB0.out); have hl2 := lt_of_heap HB2.out; have t0 := cell_of_heap (o := 0) HB2.out rfl; have t1 := cell_of_heap (o := 1) HB2.out rfl; have t2 := cell_of_heap (o := 2) HB2.out rfl; have t3 := cell_of_heap (o := 3) HB2.out rfl; have t4 := cell_of_heap (o := 4) HB2.out rfl; have t5 := cell_of_heap (o := 5) HB2.out rfl; have t6 := cell_of_heap (o := 6) HB2.out rfl; have t7 := cell_of_heap (o := 7) HB2.out rfl; have t8 := cell_of_heap (o := 8) HB2.out rfl; have t9 := cell_of_heap (o := 9) HB2.out rfl; have x0 := HF2.out.cell (by simp) d0; have x1 := HF2.out.cell (by simp) d1; have hgs2 := World.block_lt_of_cell? w2 _ x0; clear hF)
    go_ret
    exact ⟨ret1 (vb HX.out.symm), HF2.out⟩
  case false =>
    have HXN2 := Lib.hid (HXN.out rfl)
    go_enter Tryz.func45, Tryz.ntmps45
    go_wp2_with (go_at_call 69; refine (HNM.out _ (by (repeat (first | (with_reducible refine Fr.setCell ?_ (fun h => absurd h (Nat.lt_irrefl _)) _) | (with_reducible refine Fr.setCell ?_ (fun h => absurd h (by first | omega | (simp; done) | (simp; omega) | (dsimp only; omega))) _) | (with_reducible refine Fr.alloc ?_ _) | (with_reducible refine Fr.drew ?_) | (with_reducible refine Fr.drewN ?_ _) | (with_reducible exact Fr.refl _ _))))).mono ?_; rintro e w2 ⟨rfl, hF⟩; have HF2 : Hid (Fr [] w w2) := Lib.hid (Fr.trans (by (repeat (first | (with_reducible refine Fr.setCell ?_ (fun h => absurd h (Nat.lt_irrefl _)) _) | (with_reducible refine Fr.setCell ?_ (fun h => absurd h (by first | omega | (simp; done) | (simp; omega) | (dsimp only; omega))) _) | (with_reducible refine Fr.alloc ?_ _) | (with_reducible refine Fr.drew ?_) | (with_reducible refine Fr.drewN ?_ _) | (with_reducible exact Fr.refl _ _)))) hF); have HB2 := Lib.hid (hF.heap (by simp) HB0.out); have hl2 := lt_of_heap HB2.out; have t0 := cell_of_heap (o := 0) HB2.out rfl; have t1 := cell_of_heap (o := 1) HB2.out rfl; have t2 := cell_of_heap (o := 2) HB2.out rfl; have t3 := cell_of_heap (o := 3) HB2.out rfl; have t4 := cell_of_heap (o := 4) HB2.out rfl; have t5 := cell_of_heap (o := 5) HB2.out rfl; have t6 := cell_of_heap (o := 6) HB2.out rfl; have t7 := cell_of_heap (o := 7) HB2.out rfl; have t8 := cell_of_heap (o := 8) HB2.out rfl; have t9 := cell_of_heap (o := 9) HB2.out rfl; have x0 := HF2.out.cell (by simp) d0; have x1 := HF2.out.cell (by simp) d1; have hgs2 := World.block_lt_of_cell? w2 _ x0; clear hF)
    clear t0 t1 t2 t3 t4 t5 t6 t7 t8 t9 hl2 x0 x1 hgs2 c0 d0 d1 hgm hgs
    go_loopw [7] (fun z wr => ∃ k : Nat, a ≤ k ∧ k ≤ b ∧ z = .int .i64 k ∧ Hid (Fr [] w wr) ∧ Hid (wr.heap[w.heap.size]? = some (.cells #[.int .u64 method, .int .i64 args, .int .i64 T, .int .i64 R, .int .i64 P, .int .i64 S, .slice ea el ec, .slice ca cl cc, .slice (some ⟨gs, os, none⟩) sl sc, .slice (some ⟨gm, om, none⟩) ml mc] 34 (0, 0))) ∧ Hid (∀ j i, a ≤ j → j < k → co[j]? = some i → ¬ ((⟨0, v, 0⟩ : Sr) ∈ i.l ∨ (lvs i.op = true ∧ i.d = ⟨0, v, 0⟩)))) (fun z _ => b - (RowKit.intOf z).toNat)
    case atStart => exact ⟨a, Nat.le_refl _, HBC.out.1, rfl, HF2, HB2, Lib.hid fun j i h1 h2 => by omega⟩
    case round =>
      obtain ⟨k, hak, hkb, rfl, HF, HB, HT⟩ := hrel
      have hl2 := lt_of_heap HB.out
      have t0 := cell_of_heap (o := 0) HB.out rfl; have t1 := cell_of_heap (o := 1) HB.out rfl; have t2 := cell_of_heap (o := 2) HB.out rfl; have t3 := cell_of_heap (o := 3) HB.out rfl; have t4 := cell_of_heap (o := 4) HB.out rfl; have t5 := cell_of_heap (o := 5) HB.out rfl; have t6 := cell_of_heap (o := 6) HB.out rfl; have t7 := cell_of_heap (o := 7) HB.out rfl; have t8 := cell_of_heap (o := 8) HB.out rfl; have t9 := cell_of_heap (o := 9) HB.out rfl
      have x0 := HF.out.cell (by simp) HD.out.1
      have x1 := HF.out.cell (by simp) HD.out.2
      have hgs2 := World.block_lt_of_cell? wr _ x0
      by_cases hlt : k < b
      · obtain ⟨i, hi⟩ : ∃ i, co[k]? = some i := ⟨_, List.getElem?_eq_getElem (by have h1 := HBC.out; have h2 := HCL.out; omega)⟩
        obtain ⟨⟨g, o, rfl, c0, c1, c2, c3, c4, c5, c6⟩, hS⟩ := (HAC.out.fr HF.out) k i hi
        have HNI2 : Hid (∀ W, Fr [] wr W → Calls Tryz.prog 69 #[.slice i.la i.l.length i.lc, .int .i64 v] W (Still (.bool (decide ((⟨0, v, 0⟩ : Sr) ∈ i.l))) W)) := Lib.hid fun W hF => HNI.out W (HF.out.trans hF) k i hi
        have HW2 := Lib.hid (HWR.out i)
        have HXK : Hid ((⟨0, v, 0⟩ : Sr) ∈ i.l ∨ (lvs i.op = true ∧ i.d = ⟨0, v, 0⟩) → x = true) := Lib.hid (HXI.out k i hak hlt hi)
        have HTN : Hid (¬ ((⟨0, v, 0⟩ : Sr) ∈ i.l ∨ (lvs i.op = true ∧ i.d = ⟨0, v, 0⟩)) → ∀ j i', a ≤ j → j < k + 1 → co[j]? = some i' → ¬ ((⟨0, v, 0⟩ : Sr) ∈ i'.l ∨ (lvs i'.op = true ∧ i'.d = ⟨0, v, 0⟩))) := Lib.hid fun hn j i' h1 h2 h3 => by
          by_cases e : j = k
          · subst e; rw [hi] at h3; cases h3; exact hn
          · exact HT.out j i' h1 (by omega) h3
        have hkc : (k : Int) < (cl : Int) := by have h1 := HBC.out; omega
        have q0 : (0 : Int) ≤ (k : Int) := by omega
        have q1 : (k : Int) < (b : Int) := by omega
        have hg : g < wr.heap.size := World.block_lt_of_cell? wr _ c0
        have hbn : b ≤ 5864062014805 := by have h1 := HBC.out; omega
        clear hi hS HT
        obtain ⟨op, nn, ⟨dk, dn, dw⟩, la, l, lc, xx⟩ := i
        unfold Ii.v wrS zeroS at HW2
        dsimp only at HW2 HNI2 HXK HTN c0 c1 c2 c3 c4 c5 c6
        simp only [Sr.mk.injEq] at HXK HTN
        by_cases hy : (⟨0, v, 0⟩ : Sr) ∈ l
        · simp only [decide_eq_true hy] at HNI2
          have HX : Hid (x = true) := Lib.hid (HXK.out (.inl hy))
          generalize l.length = ll at *
          clear hy HXK HTN
          cases hlv : lvs op
          all_goals
            rw [hlv] at HW2
            unfold Sr.v at HW2
            simp only [if_true, if_false, Bool.false_eq_true] at HW2
            go_wp2_with (first
              | (go_at_call 70; refine (HW2.out _).mono ?_; rintro e w5 ⟨rfl, hF⟩; have HF5 : Hid (Fr [] wr w5) := Lib.hid hF; have hb5 := hF.heap (by simp) HB.out; have HB5 := Lib.hid hb5; clear t0 t1 t2 t3 t4 t5 t6 t7 t8 t9 hl2; have t0 := cell_of_heap (o := 0) hb5 rfl; have t1 := cell_of_heap (o := 1) hb5 rfl; have t2 := cell_of_heap (o := 2) hb5 rfl; have t3 := cell_of_heap (o := 3) hb5 rfl; have t4 := cell_of_heap (o := 4) hb5 rfl; have t5 := cell_of_heap (o := 5) hb5 rfl; have t6 := cell_of_heap (o := 6) hb5 rfl; have t7 := cell_of_heap (o := 7) hb5 rfl; have t8 := cell_of_heap (o := 8) hb5 rfl; have t9 := cell_of_heap (o := 9) hb5 rfl; have hl2 := lt_of_heap hb5; have z5 := hF.cell (by simp) c5; have hg5 := World.block_lt_of_cell? w5 _ z5; clear hF hb5)
              | (go_at_call 69; refine (HNI2.out _ (by (repeat (first | (with_reducible refine Fr.setCell ?_ (fun h => absurd h (Nat.lt_irrefl _)) _) | (with_reducible refine Fr.setCell ?_ (fun h => absurd h (by first | omega | (simp; done) | (simp; omega) | (dsimp only; omega))) _) | (with_reducible refine Fr.alloc ?_ _) | (with_reducible refine Fr.drew ?_) | (with_reducible refine Fr.drewN ?_ _) | (with_reducible exact HF5.out))))).mono ?_; rintro e w6 ⟨rfl, hF⟩; have HF6 : Hid (Fr [] w5 w6) := Lib.hid (Fr.trans (by (repeat (first | (with_reducible refine Fr.setCell ?_ (fun h => absurd h (Nat.lt_irrefl _)) _) | (with_reducible refine Fr.setCell ?_ (fun h => absurd h (by first | omega | (simp; done) | (simp; omega) | (dsimp only; omega))) _) | (with_reducible refine Fr.alloc ?_ _) | (with_reducible refine Fr.drew ?_) | (with_reducible refine Fr.drewN ?_ _) | (with_reducible exact Fr.refl _ _)))) hF); clear hF))
            go_ret
            exact ⟨ret1 (vb HX.out.symm), HF.out.trans (HF5.out.trans HF6.out)⟩
        · simp only [decide_eq_false hy] at HNI2
          generalize l.length = ll at *
          cases hlv : lvs op
          · have HTN2 := Lib.hid (HTN.out (by simp [hy, hlv]))
            clear HXK HTN hy
            rw [hlv] at HW2
            unfold Sr.v at HW2
            simp only [if_false, Bool.false_eq_true] at HW2
            clear hlv
            go_wp2_with (first
              | (go_at_call 70; refine (HW2.out _).mono ?_; rintro e w5 ⟨rfl, hF⟩; have HF5 : Hid (Fr [] wr w5) := Lib.hid hF; have hb5 := hF.heap (by simp) HB.out; have HB5 := Lib.hid hb5; clear t0 t1 t2 t3 t4 t5 t6 t7 t8 t9 hl2; have t0 := cell_of_heap (o := 0) hb5 rfl; have t1 := cell_of_heap (o := 1) hb5 rfl; have t2 := cell_of_heap (o := 2) hb5 rfl; have t3 := cell_of_heap (o := 3) hb5 rfl; have t4 := cell_of_heap (o := 4) hb5 rfl; have t5 := cell_of_heap (o := 5) hb5 rfl; have t6 := cell_of_heap (o := 6) hb5 rfl; have t7 := cell_of_heap (o := 7) hb5 rfl; have t8 := cell_of_heap (o := 8) hb5 rfl; have t9 := cell_of_heap (o := 9) hb5 rfl; have hl2 := lt_of_heap hb5; have z5 := hF.cell (by simp) c5; have hg5 := World.block_lt_of_cell? w5 _ z5; clear hF hb5)
              | (go_at_call 69; refine (HNI2.out _ (by (repeat (first | (with_reducible refine Fr.setCell ?_ (fun h => absurd h (Nat.lt_irrefl _)) _) | (with_reducible refine Fr.setCell ?_ (fun h => absurd h (by first | omega | (simp; done) | (simp; omega) | (dsimp only; omega))) _) | (with_reducible refine Fr.alloc ?_ _) | (with_reducible refine Fr.drew ?_) | (with_reducible refine Fr.drewN ?_ _) | (with_reducible exact HF5.out))))).mono ?_; rintro e w6 ⟨rfl, hF⟩; have HF6 : Hid (Fr [] w5 w6) := Lib.hid (Fr.trans (by (repeat (first | (with_reducible refine Fr.setCell ?_ (fun h => absurd h (Nat.lt_irrefl _)) _) | (with_reducible refine Fr.setCell ?_ (fun h => absurd h (by first | omega | (simp; done) | (simp; omega) | (dsimp only; omega))) _) | (with_reducible refine Fr.alloc ?_ _) | (with_reducible refine Fr.drew ?_) | (with_reducible refine Fr.drewN ?_ _) | (with_reducible exact Fr.refl _ _)))) hF); clear hF))
            go_roundw
            case rel => exact ⟨k + 1, by omega, by omega, by go_num, Lib.hid (HF.out.trans (HF5.out.trans HF6.out)), Lib.hid (HF6.out.heap (by simp) HB5.out), HTN2⟩
            case measure => simp [RowKit.intOf]; omega
          · rw [hlv] at HW2
            unfold Sr.v at HW2
            simp only [if_true] at HW2
            have hc : (dk = 0 ∧ dn = v ∧ dw = 0) ∨ (dk == 0) = false ∧ dk ≠ 0 ∨ dk = 0 ∧ (dn == v) = false ∧ dn ≠ v ∨ dk = 0 ∧ dn = v ∧ (dw == 0) = false ∧ dw ≠ 0 := by
              simp only [beq_eq_false_iff_ne]
              omega
            rcases hc with ⟨rfl, rfl, rfl⟩ | ⟨h1, h2⟩ | ⟨rfl, h1, h2⟩ | ⟨rfl, rfl, h1, h2⟩
            case inl =>
              have HX := Lib.hid (HXK.out (.inr ⟨hlv, rfl, rfl, rfl⟩))
              clear HXK HTN hy hlv
              go_wp2_with (first
              | (go_at_call 70; refine (HW2.out _).mono ?_; rintro e w5 ⟨rfl, hF⟩; have HF5 : Hid (Fr [] wr w5) := Lib.hid hF; have hb5 := hF.heap (by simp) HB.out; have HB5 := Lib.hid hb5; clear t0 t1 t2 t3 t4 t5 t6 t7 t8 t9 hl2; have t0 := cell_of_heap (o := 0) hb5 rfl; have t1 := cell_of_heap (o := 1) hb5 rfl; have t2 := cell_of_heap (o := 2) hb5 rfl; have t3 := cell_of_heap (o := 3) hb5 rfl; have t4 := cell_of_heap (o := 4) hb5 rfl; have t5 := cell_of_heap (o := 5) hb5 rfl; have t6 := cell_of_heap (o := 6) hb5 rfl; have t7 := cell_of_heap (o := 7) hb5 rfl; have t8 := cell_of_heap (o := 8) hb5 rfl; have t9 := cell_of_heap (o := 9) hb5 rfl; have hl2 := lt_of_heap hb5; have z5 := hF.cell (by simp) c5; have hg5 := World.block_lt_of_cell? w5 _ z5; clear hF hb5)
              | (go_at_call 69; refine (HNI2.out _ (by (repeat (first | (with_reducible refine Fr.setCell ?_ (fun h => absurd h (Nat.lt_irrefl _)) _) | (with_reducible refine Fr.setCell ?_ (fun h => absurd h (by first | omega | (simp; done) | (simp; omega) | (dsimp only; omega))) _) | (with_reducible refine Fr.alloc ?_ _) | (with_reducible refine Fr.drew ?_) | (with_reducible refine Fr.drewN ?_ _) | (with_reducible exact HF5.out))))).mono ?_; rintro e w6 ⟨rfl, hF⟩; have HF6 : Hid (Fr [] w5 w6) := Lib.hid (Fr.trans (by (repeat (first | (with_reducible refine Fr.setCell ?_ (fun h => absurd h (Nat.lt_irrefl _)) _) | (with_reducible refine Fr.setCell ?_ (fun h => absurd h (by first | omega | (simp; done) | (simp; omega) | (dsimp only; omega))) _) | (with_reducible refine Fr.alloc ?_ _) | (with_reducible refine Fr.drew ?_) | (with_reducible refine Fr.drewN ?_ _) | (with_reducible exact Fr.refl _ _)))) hF); have hbx := hF.heap (k := w5.heap.size) (by simp) (heap_new w5 _); have y0 := cell_of_heap (o := 0) hbx rfl; have y1 := cell_of_heap (o := 1) hbx rfl; have y2 := cell_of_heap (o := 2) hbx rfl; have hx5 := lt_of_heap hbx; clear hbx; clear hF))
              go_ret
              exact ⟨ret1 (vb HX.out.symm), HF.out.trans (HF5.out.trans HF6.out)⟩
            all_goals
              have HTN2 := Lib.hid (HTN.out (by simp [hy, h2]))
              clear HXK HTN hy hlv h2
              go_wp2_with (first
              | (go_at_call 70; refine (HW2.out _).mono ?_; rintro e w5 ⟨rfl, hF⟩; have HF5 : Hid (Fr [] wr w5) := Lib.hid hF; have hb5 := hF.heap (by simp) HB.out; have HB5 := Lib.hid hb5; clear t0 t1 t2 t3 t4 t5 t6 t7 t8 t9 hl2; have t0 := cell_of_heap (o := 0) hb5 rfl; have t1 := cell_of_heap (o := 1) hb5 rfl; have t2 := cell_of_heap (o := 2) hb5 rfl; have t3 := cell_of_heap (o := 3) hb5 rfl; have t4 := cell_of_heap (o := 4) hb5 rfl; have t5 := cell_of_heap (o := 5) hb5 rfl; have t6 := cell_of_heap (o := 6) hb5 rfl; have t7 := cell_of_heap (o := 7) hb5 rfl; have t8 := cell_of_heap (o := 8) hb5 rfl; have t9 := cell_of_heap (o := 9) hb5 rfl; have hl2 := lt_of_heap hb5; have z5 := hF.cell (by simp) c5; have hg5 := World.block_lt_of_cell? w5 _ z5; clear hF hb5)
              | (go_at_call 69; refine (HNI2.out _ (by (repeat (first | (with_reducible refine Fr.setCell ?_ (fun h => absurd h (Nat.lt_irrefl _)) _) | (with_reducible refine Fr.setCell ?_ (fun h => absurd h (by first | omega | (simp; done) | (simp; omega) | (dsimp only; omega))) _) | (with_reducible refine Fr.alloc ?_ _) | (with_reducible refine Fr.drew ?_) | (with_reducible refine Fr.drewN ?_ _) | (with_reducible exact HF5.out))))).mono ?_; rintro e w6 ⟨rfl, hF⟩; have HF6 : Hid (Fr [] w5 w6) := Lib.hid (Fr.trans (by (repeat (first | (with_reducible refine Fr.setCell ?_ (fun h => absurd h (Nat.lt_irrefl _)) _) | (with_reducible refine Fr.setCell ?_ (fun h => absurd h (by first | omega | (simp; done) | (simp; omega) | (dsimp only; omega))) _) | (with_reducible refine Fr.alloc ?_ _) | (with_reducible refine Fr.drew ?_) | (with_reducible refine Fr.drewN ?_ _) | (with_reducible exact Fr.refl _ _)))) hF); have hbx := hF.heap (k := w5.heap.size) (by simp) (heap_new w5 _); have y0 := cell_of_heap (o := 0) hbx rfl; have y1 := cell_of_heap (o := 1) hbx rfl; have y2 := cell_of_heap (o := 2) hbx rfl; have hx5 := lt_of_heap hbx; clear hbx; clear hF))
              go_roundw
              case rel => exact ⟨k + 1, by omega, by omega, by go_num, Lib.hid (HF.out.trans (HF5.out.trans HF6.out)), Lib.hid (HF6.out.heap (by simp) HB5.out), HTN2⟩
              case measure => simp [RowKit.intOf]; omega
      · have hke : k = b := by omega
        have HX := Lib.hid (HXN2.out fun j i h1 h2 => HT.out j i h1 (by omega))
        have hkd : ¬ (k : Int) < (b : Int) := by omega
        clear hke hlt
        go_wp2_with fail
        go_ret
        exact ⟨ret1 (vb HX.out.symm), HF.out⟩
end Go.Proofs.YtbmfmklalonhiaaGreatDoor
namespace Go.Proofs.YtbmfmklalonhiaaGreatDoor
open Go.RowKit

theorem ivV_stamp (k : Nat) (v : Int) : ∀ (l : List Int) (E : List (Int × Nat)), ivV (E ++ stamp k l) v = if v ∈ l then some (((ivV E v).map Prod.fst).getD k, k) else ivV E v
  | [], E => by simp [stamp]
  | x :: l, E => by
    have e : E ++ stamp k (x :: l) = (E ++ [(x, k)]) ++ stamp k l := by simp [stamp]
    rw [e, ivV_stamp k v l, ivV_snoc]
    by_cases h1 : v = x
    · subst h1
      by_cases h2 : v ∈ l <;> simp [h2]
    · by_cases h2 : v ∈ l <;> simp [h1, h2]
theorem ivV_step (u : Un) (v : Int) (k : Nat) : ivV (evs u (k + 1)) v = if v ∈ usesAt u k then some (((ivV (evs u k) v).map Prod.fst).getD k, k) else ivV (evs u k) v := by rw [evs_succ, ivV_stamp]
/-- the two numbers of the document's loop -/
def frO (o : Option (Nat × Nat)) : Int := match o with
  | some p => p.1
  | none => -1
def toO (o : Option (Nat × Nat)) : Int := match o with
  | some p => p.2
  | none => -1
theorem row_ne_box {W : World} {a : Option Addr} {n c k : Nat} {xs : List Value} {cs : Array Value} {T : TypeId} {f : Nat × Nat} (h : W.ownsRow 0 57 3 (.slice a n c) n xs) (hk : W.heap[k]? = some (.cells cs T f)) (hT : T ≠ 57) : (Value.slice a n c).ownBlock ≠ some k := by
  intro e
  rcases h.2 with ⟨hv, -⟩ | ⟨g, cap, cur, hv, -, hg, -⟩
  · rw [hv] at e; cases e
  · rw [hv] at e
    cases e
    rw [hk] at hg
    exact hT (Obj.cells.inj (Option.some.inj hg)).2.1
set_option maxRecDepth 100000 in
set_option maxHeartbeats 8000000 in
theorem r13_Intervals (u : Un) (w : World) (hA : UAt w u) (hB : UB u) : Calls Tryz.prog 17 #[u.v] w (IntTo u w) := by
  obtain ⟨i0, hi, hz0, hz1, hz2⟩ := info_parts infoIv
  have h1 : Hid (∀ W, Fr [] w W → Calls Tryz.prog 44 #[u.v] W (Still (.int .i64 (errU u)) W)) := Lib.hid fun W hF => r11_Check u W (hA.fr hF) hB
  have he : errU u = 1 ∧ okU u = false ∨ errU u = 0 ∧ okU u = true := by
    unfold errU
    cases okU u
    · exact .inl ⟨rfl, rfl⟩
    · exact .inr ⟨rfl, rfl⟩
  rcases he with ⟨he, hok⟩ | ⟨he, hok⟩
  · rw [he] at h1
    have HNO : Hid (∀ w', Fr [] w w' → IntTo u w (.returned (.tuple #[.slice none 0 0, .int .i64 1])) w') := Lib.hid fun w' hF => ⟨hF, .inr ⟨hok, rfl⟩⟩
    generalize IntTo u w = Q at *
    obtain ⟨method, args, T, R, P, S, ea, en, ec, ca, co, cc, sa, st, sc, ma, mp, mc⟩ := u
    unfold Un.v at h1 ⊢
    simp only at h1 ⊢
    clear hA hB he hok
    generalize en.length = el at *
    generalize co.length = cl at *
    generalize st.length = sl at *
    generalize mp.length = ml at *
    go_enter Tryz.func17, Tryz.ntmps17
    go_wp2_with (go_at_call 44; refine (h1.out _ (by (repeat (first | (with_reducible refine Fr.setCell ?_ (fun h => absurd h (Nat.lt_irrefl _)) _) | (with_reducible refine Fr.setCell ?_ (fun h => absurd h (by first | omega | (simp; done) | (simp; omega) | (dsimp only; omega))) _) | (with_reducible refine Fr.alloc ?_ _) | (with_reducible refine Fr.drew ?_) | (with_reducible refine Fr.drewN ?_ _) | (with_reducible exact Fr.refl _ _))))).mono ?_; rintro e w2 ⟨rfl, hF⟩; have HF2 : Hid (Fr [] w w2) := Lib.hid (Fr.trans (by (repeat (first | (with_reducible refine Fr.setCell ?_ (fun h => absurd h (Nat.lt_irrefl _)) _) | (with_reducible refine Fr.setCell ?_ (fun h => absurd h (by first | omega | (simp; done) | (simp; omega) | (dsimp only; omega))) _) | (with_reducible refine Fr.alloc ?_ _) | (with_reducible refine Fr.drew ?_) | (with_reducible refine Fr.drewN ?_ _) | (with_reducible exact Fr.refl _ _)))) hF); clear hF)
    exact HNO.out _ HF2.out
  · rw [he] at h1
    have hU := uok_of hok
    have HTO : Hid (∀ W, Fr [] w W → ∀ (v : Int) (pc : Nat), pc < u.maps.length → Calls Tryz.prog 45 #[u.v, .int .i64 v, .int .i64 pc] W (Still (.bool (decide (v ∈ usesAt u pc))) W)) := Lib.hid fun W hF v pc hpc => r13_touched u v pc W (hA.fr hF) hB hU hpc
    have HST : Hid (∀ (v : Int) (k : Nat), ivV (evs u (k + 1)) v = if v ∈ usesAt u k then some (((ivV (evs u k) v).map Prod.fst).getD k, k) else ivV (evs u k) v) := Lib.hid (ivV_step u)
    have hml : u.maps.length ≤ 128 := by have := hU.starts; omega
    obtain ⟨RR, hRR⟩ : ∃ RR : Nat, (RR : Int) = u.regs := ⟨u.regs.toNat, by have := hU.regs; omega⟩
    have hR4 : RR ≤ 4096 := by have := hU.regs; omega
    have HIV : Hid (ivsU u = ivs (evs u u.maps.length) RR) := Lib.hid (by unfold ivsU; rw [← hRR]; rfl)
    have HE0 : Hid (∀ v, ivV (evs u 0) v = none) := Lib.hid fun v => rfl
    have HIT : Hid (∀ w' a c, IGrows w 57 3 (ivsU u).length (flatIv (ivsU u)) (.slice a (ivsU u).length c) w' → IntTo u w (.returned (.tuple #[.slice a (ivsU u).length c, .int .i64 0])) w') := Lib.hid fun w' a c h => ⟨h.fr, .inl ⟨hok, a, c, rfl, h⟩⟩
    generalize IntTo u w = Q at *
    generalize ivsU u = iv at *
    generalize hev : evs u = ev at *
    generalize hus : usesAt u = us at *
    clear hev hus he hok hU hA hB
    obtain ⟨method, args, T, R, P, S, ea, en, ec, ca, co, cc, sa, st, sc, ma, mp, mc⟩ := u
    unfold Un.v at h1 HTO ⊢
    simp only at h1 HTO hml hRR HIV ⊢
    subst hRR
    generalize en.length = el at *
    generalize co.length = cl at *
    generalize st.length = sl at *
    generalize mp.length = ml at *
    go_enter Tryz.func17, Tryz.ntmps17
    go_wp2_with (go_at_call 44; refine (h1.out _ (by (repeat (first | (with_reducible refine Fr.setCell ?_ (fun h => absurd h (Nat.lt_irrefl _)) _) | (with_reducible refine Fr.setCell ?_ (fun h => absurd h (by first | omega | (simp; done) | (simp; omega) | (dsimp only; omega))) _) | (with_reducible refine Fr.alloc ?_ _) | (with_reducible refine Fr.drew ?_) | (with_reducible refine Fr.drewN ?_ _) | (with_reducible exact Fr.refl _ _))))).mono ?_; rintro e w2 ⟨rfl, hF⟩; have HF2 : Hid (Fr [] w w2) := Lib.hid (Fr.trans (by (repeat (first | (with_reducible refine Fr.setCell ?_ (fun h => absurd h (Nat.lt_irrefl _)) _) | (with_reducible refine Fr.setCell ?_ (fun h => absurd h (by first | omega | (simp; done) | (simp; omega) | (dsimp only; omega))) _) | (with_reducible refine Fr.alloc ?_ _) | (with_reducible refine Fr.drew ?_) | (with_reducible refine Fr.drewN ?_ _) | (with_reducible exact Fr.refl _ _)))) hF); have HB2 := Lib.hid (hF.heap (by simp) (heap_new w _)); have hl2 := lt_of_heap HB2.out; clear hF)
    clear hl2
    go_loopw [4, 5] (fun o z wr => ∃ v : Nat, v ≤ RR ∧ z = .int .i64 v ∧ Hid (IGrows w 57 3 (ivs (ev ml) v).length (flatIv (ivs (ev ml) v)) o wr) ∧ Hid (wr.heap[w.heap.size]? = some (.cells #[.int .u64 method, .int .i64 args, .int .i64 T, .int .i64 RR, .int .i64 P, .int .i64 S, .slice ea el ec, .slice ca cl cc, .slice sa sl sc, .slice ma ml mc] 34 (0, 0)))) (fun _ z _ => RR - (RowKit.intOf z).toNat)
    case atStart => exact ⟨0, Nat.zero_le _, rfl, Lib.hid ⟨World.ownsRow_nil _ _ _ _, HF2.out, fun q hq => by cases hq⟩, HB2⟩
    case round =>
      obtain ⟨v, hv, rfl, HG, HB⟩ := hrel
      obtain ⟨ao, cap, rfl⟩ := irow_shape HG.out.row
      have hl2 := lt_of_heap HB.out
      have v0 : (0 : Int) ≤ (v : Int) := by omega
      by_cases hlt : v < RR
      · have hv1 : (v : Int) < (RR : Int) := by omega
        obtain ⟨W0, hW0⟩ : ∃ W0, W0 = wr := ⟨_, rfl⟩
        have HW0 := Lib.hid hW0
        have HG0 : Hid (IGrows w 57 3 (ivs (ev ml) v).length (flatIv (ivs (ev ml) v)) (.slice ao (ivs (ev ml) v).length cap) W0) := Lib.hid (by rw [hW0]; exact HG.out)
        have t0 := cell_of_heap (o := 0) HB.out rfl; have t1 := cell_of_heap (o := 1) HB.out rfl; have t2 := cell_of_heap (o := 2) HB.out rfl; have t3 := cell_of_heap (o := 3) HB.out rfl; have t4 := cell_of_heap (o := 4) HB.out rfl; have t5 := cell_of_heap (o := 5) HB.out rfl; have t6 := cell_of_heap (o := 6) HB.out rfl; have t7 := cell_of_heap (o := 7) HB.out rfl; have t8 := cell_of_heap (o := 8) HB.out rfl; have t9 := cell_of_heap (o := 9) HB.out rfl
        clear hW0
        go_wp2_with fail
        clear t0 t1 t2 t3 t4 t5 t6 t7 t8 t9 hl2
        go_loopw [6, 7, 8] (fun fb tb z wr => ∃ pc : Nat, pc ≤ ml ∧ z = .int .i64 pc ∧ fb = .int .i64 (frO (ivV (ev pc) v)) ∧ tb = .int .i64 (toO (ivV (ev pc) v)) ∧ Hid (Fr [] W0 wr) ∧ Hid (wr.heap[w.heap.size]? = some (.cells #[.int .u64 method, .int .i64 args, .int .i64 T, .int .i64 RR, .int .i64 P, .int .i64 S, .slice ea el ec, .slice ca cl cc, .slice sa sl sc, .slice ma ml mc] 34 (0, 0)))) (fun _ _ z _ => ml - (RowKit.intOf z).toNat)
        case atStart => exact ⟨0, Nat.zero_le _, rfl, by rw [HE0.out]; rfl, by rw [HE0.out]; rfl, Lib.hid (by rw [HW0.out]; exact Fr.refl _ _), HB⟩
        case round =>
          obtain ⟨pc, hpc, rfl, rfl, rfl, HFx, HBx⟩ := hrel
          have hl3 := lt_of_heap HBx.out
          have t0 := cell_of_heap (o := 0) HBx.out rfl; have t1 := cell_of_heap (o := 1) HBx.out rfl; have t2 := cell_of_heap (o := 2) HBx.out rfl; have t3 := cell_of_heap (o := 3) HBx.out rfl; have t4 := cell_of_heap (o := 4) HBx.out rfl; have t5 := cell_of_heap (o := 5) HBx.out rfl; have t6 := cell_of_heap (o := 6) HBx.out rfl; have t7 := cell_of_heap (o := 7) HBx.out rfl; have t8 := cell_of_heap (o := 8) HBx.out rfl; have t9 := cell_of_heap (o := 9) HBx.out rfl
          have p0 : (0 : Int) ≤ (pc : Int) := by omega
          by_cases hlp : pc < ml
          · have hp1 : (pc : Int) < (ml : Int) := by omega
            have hst := HST.out (v : Int) pc
            have hto := HTO.out wr (HG0.out.fr.trans HFx.out) (v : Int) pc hlp
            by_cases hin : (v : Int) ∈ us pc
            · simp only [decide_eq_true hin] at hto
              rw [if_pos hin] at hst
              cases ho : ivV (ev pc) v with
              | none =>
                rw [ho] at hst
                have HS2 := Lib.hid hst
                clear hst hin ho
                simp only [frO, toO]
                go_wp2_with (go_at_call 45; refine hto.mono ?_; rintro e w5 ⟨rfl, hF⟩; have HF5 : Hid (Fr [] W0 w5) := Lib.hid (HFx.out.trans hF); have HB5 := Lib.hid (hF.heap (by simp) HBx.out); clear hF)
                go_roundw
                case rel => exact ⟨pc + 1, by omega, by go_num, by rw [HS2.out] <;> rfl, by rw [HS2.out] <;> rfl, HF5, HB5⟩
                case measure => simp [RowKit.intOf]; omega
              | some p =>
                obtain ⟨f, t⟩ := p
                rw [ho] at hst
                have HS2 := Lib.hid hst
                have hf0 : ¬ (f : Int) < 0 := by omega
                clear hst hin ho
                simp only [frO, toO]
                go_wp2_with (go_at_call 45; refine hto.mono ?_; rintro e w5 ⟨rfl, hF⟩; have HF5 : Hid (Fr [] W0 w5) := Lib.hid (HFx.out.trans hF); have HB5 := Lib.hid (hF.heap (by simp) HBx.out); clear hF)
                go_roundw
                case rel => exact ⟨pc + 1, by omega, by go_num, by rw [HS2.out] <;> rfl, by rw [HS2.out] <;> rfl, HF5, HB5⟩
                case measure => simp [RowKit.intOf]; omega
            · simp only [decide_eq_false hin] at hto
              rw [if_neg hin] at hst
              have HS2 := Lib.hid hst
              clear hst hin
              obtain ⟨ff, hff⟩ : ∃ ff, frO (ivV (ev pc) v) = ff := ⟨_, rfl⟩
              obtain ⟨tt, htt⟩ : ∃ tt, toO (ivV (ev pc) v) = tt := ⟨_, rfl⟩
              have HFF := Lib.hid hff
              have HTT := Lib.hid htt
              rw [hff, htt]
              clear hff htt
              go_wp2_with (go_at_call 45; refine hto.mono ?_; rintro e w5 ⟨rfl, hF⟩; have HF5 : Hid (Fr [] W0 w5) := Lib.hid (HFx.out.trans hF); have HB5 := Lib.hid (hF.heap (by simp) HBx.out); clear hF)
              go_roundw
              case rel => exact ⟨pc + 1, by omega, by go_num, by rw [HS2.out, HFF.out], by rw [HS2.out, HTT.out], HF5, HB5⟩
              case measure => simp [RowKit.intOf]; omega
          · have hkn : pc = ml := by omega
            have hkd : ¬ (pc : Int) < (ml : Int) := by omega
            have HSU := Lib.hid (ivs_succ (ev ml) v)
            have HGw := Lib.hid (HG0.out.fr' HFx.out)
            have hln : (ivs (ev ml) v).length ≤ 4096 := Nat.le_trans (ivs_len _ _) (by omega)
            subst hkn
            obtain ⟨L, hL⟩ : ∃ L, L = ivs (ev pc) v := ⟨_, rfl⟩
            rw [← hL] at HSU HGw hln ⊢
            clear hlp hL
            cases ho : ivV (ev pc) v with
            | none =>
              rw [ho] at HSU
              have HS2 : Hid (ivs (ev pc) (v + 1) = L) := Lib.hid (by rw [HSU.out]; simp)
              clear HSU ho
              simp only [frO, toO]
              go_wp2_with fail
              go_roundw
              case rel => exact ⟨v + 1, by omega, by go_num, Lib.hid (by rw [HS2.out]; exact HGw.out), HBx⟩
              case measure => simp [RowKit.intOf]; omega
            | some p =>
              obtain ⟨f, t⟩ := p
              rw [ho] at HSU
              have HS2 : Hid (ivs (ev pc) (v + 1) = L ++ [((v : Int), f, t)]) := Lib.hid (by rw [HSU.out])
              have hf0 : (f : Int) ≥ 0 := by omega
              have HRW : Hid ((wr.alloc (.cells #[.int .i64 v, .int .i64 f, .int .i64 t] 57)).ownsRow 0 57 3 (.slice ao L.length cap) L.length (flatIv L)) := Lib.hid ((HGw.out.fr' ((Fr.refl _ _).alloc _)).row)
              have HNW := Lib.hid (heap_new wr (.cells #[.int .i64 v, .int .i64 f, .int .i64 t] 57))
              have HNB := Lib.hid (row_ne_box HGw.out.row HBx.out (by decide))
              clear HSU ho
              simp only [frO, toO]
              obtain ⟨LL, hLL⟩ : ∃ LL, LL = L.length := ⟨_, rfl⟩
              rw [← hLL] at HRW HGw HNB hln ⊢
              have HLL := Lib.hid hLL
              clear hLL
              go_wp2_with (at_builtin; refine wpList_append_at _ rfl (.tmp 36) (.tmp 41) 51 rfl 57 i0 _ 3 24 Tryz.underlying51 hi hz0 hz1 hz2 rfl (by decide) (.slice ao LL cap) LL _ rfl HRW.out ⟨wr.heap.size, 0, none⟩ 1 1 [.int .i64 v, .int .i64 f, .int .i64 t] rfl rfl (by
                  intro j u hj
                  rw [Lib.add_plain, Nat.zero_add]
                  exact cell_of_heap HNW.out (by simpa using hj)) (by simp [Value.oneCell']) (by unfold maxLen; omega) (by omega) ?_; intro v5 w5 ho5 hg5 hf5; obtain ⟨a5, p5, rfl⟩ := irow_shape ho5; have HGn := Lib.hid (HGw.out.step ((Fr.refl [] _).alloc _) ho5 hg5 hf5); have HB5 := Lib.hid ((hg5.block w.heap.size (by have := lt_of_heap HBx.out; simp; omega) (fun e => HNB.out e.symm)).trans (((Fr.refl [] wr).alloc _).heap (by simp) HBx.out)); clear ho5 hg5 hf5)
              go_roundw
              case rel => exact ⟨v + 1, by omega, by go_num, Lib.hid (by rw [HS2.out, flatIv_snoc, List.length_append, List.length_singleton, ← HLL.out]; exact HGn.out), HB5⟩
              case measure => simp [RowKit.intOf]; omega
      · have hkn : v = RR := by omega
        have hkd : ¬ (v : Int) < (RR : Int) := by omega
        have t0 := cell_of_heap (o := 0) HB.out rfl; have t1 := cell_of_heap (o := 1) HB.out rfl; have t2 := cell_of_heap (o := 2) HB.out rfl; have t3 := cell_of_heap (o := 3) HB.out rfl; have t4 := cell_of_heap (o := 4) HB.out rfl; have t5 := cell_of_heap (o := 5) HB.out rfl; have t6 := cell_of_heap (o := 6) HB.out rfl; have t7 := cell_of_heap (o := 7) HB.out rfl; have t8 := cell_of_heap (o := 8) HB.out rfl; have t9 := cell_of_heap (o := 9) HB.out rfl
        subst hkn
        have HGV := Lib.hid HG.out
        rw [← HIV.out] at HGV
        rw [← HIV.out]
        clear hlt
        go_wp2_with fail
        exact HIT.out _ _ _ HGV.out
end Go.Proofs.YtbmfmklalonhiaaGreatDoor
