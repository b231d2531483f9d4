/- The document's Check. The document's may: outer temporaries, and blocks. The document's Check. The document's Check, as deep as it goes; both answer the same. -/
import Derived.Test.YtjghgambieflaaaGreatDoorMVerK
import Derived.Test.YtjghgambieflaaaGreatDoorMVerH
namespace Go.Proofs.YtjghgambieflaaaGreatDoor
open Go.RowKit
section
variable {w0 W : World} {m : Mth} {la ca : Option Addr} {lc cc : Nat} {rp : Option Addr} {fields : Int} {oa : Option Addr} {oc : Nat} {outers : List Int}
set_option maxRecDepth 100000 in
set_option maxHeartbeats 1600000 in
theorem rmay_field (op a b : Int) (h : op = 4 ∨ op = 5) (sub : Int → List Int → Prop) : Calls Tryz.prog 22 #[.pointer rp, m.v la lc ca cc, .agg #[.int .i64 op, .int .i64 a, .int .i64 b], .int .i64 fields, .slice oa outers.length oc] W (HasPost (m.mayOk sub fields outers ⟨op, a, b⟩) W) := by
  have HOE : Hid (outers = [] ↔ outers.length = 0) := Lib.hid List.length_eq_zero_iff.symm
  obtain ⟨M, hM⟩ : ∃ M, M = m.mayOk sub fields outers ⟨op, a, b⟩ := ⟨_, rfl⟩
  have HME := hM
  simp only [Mth.mayOk] at HME
  have HM := Lib.hid HME
  rw [← hM]
  unfold Mth.v
  obtain ⟨ol, hol⟩ : ∃ v, v = outers.length := ⟨_, rfl⟩
  obtain ⟨ll, hll⟩ : ∃ v, v = m.lits.length := ⟨_, rfl⟩
  obtain ⟨nn, hnn⟩ : ∃ v, v = m.code.length := ⟨_, rfl⟩
  rw [← hol] at HOE
  rw [← hol, ← hll, ← hnn]
  have HOL := Lib.hid hol
  have HLL := Lib.hid hll
  clear hol hll hnn hM HME
  have HMI : Hid (M ↔ a < fields) := Lib.hid (by rw [HM.out, if_pos h])
  by_cases hc : a < fields
  · have hd : decide (a < fields) = true := by simp; omega
    have HP : Hid (M) := Lib.hid (HMI.out.2 hc)
    rcases h with rfl | rfl <;>
    · go_enter Tryz.func22, Tryz.ntmps22
      go_wp2_with fail
      go_ret
      exact ⟨⟨true, by first | rfl | (simp; done) | (simp; omega), ⟨fun _ => HP.out, fun _ => rfl⟩⟩, (by first | exact (Fr.refl _ _) | exact ((Fr.refl _ _).alloc _) | exact (((Fr.refl _ _).alloc _).alloc _) | exact ((((Fr.refl _ _).alloc _).alloc _).drewN _) | exact (((Fr.refl _ _).alloc _).drewN _))⟩
  · have hd : decide (a < fields) = false := by simp; omega
    have HP : Hid (¬ M) := Lib.hid (fun h => hc (HMI.out.1 h))
    rcases h with rfl | rfl <;>
    · go_enter Tryz.func22, Tryz.ntmps22
      go_wp2_with fail
      go_ret
      exact ⟨⟨false, by first | rfl | (simp; done) | (simp; omega), ⟨fun h => (by cases h), fun h => absurd h HP.out⟩⟩, (by first | exact (Fr.refl _ _) | exact ((Fr.refl _ _).alloc _) | exact (((Fr.refl _ _).alloc _).alloc _) | exact ((((Fr.refl _ _).alloc _).alloc _).drewN _) | exact (((Fr.refl _ _).alloc _).drewN _))⟩
set_option maxRecDepth 100000 in
set_option maxHeartbeats 1600000 in
theorem rmay_return (op a b : Int) (h : op = 17 ∨ op = 18) (sub : Int → List Int → Prop) : Calls Tryz.prog 22 #[.pointer rp, m.v la lc ca cc, .agg #[.int .i64 op, .int .i64 a, .int .i64 b], .int .i64 fields, .slice oa outers.length oc] W (HasPost (m.mayOk sub fields outers ⟨op, a, b⟩) W) := by
  have HOE : Hid (outers = [] ↔ outers.length = 0) := Lib.hid List.length_eq_zero_iff.symm
  obtain ⟨M, hM⟩ : ∃ M, M = m.mayOk sub fields outers ⟨op, a, b⟩ := ⟨_, rfl⟩
  have HME := hM
  simp only [Mth.mayOk] at HME
  have HM := Lib.hid HME
  rw [← hM]
  unfold Mth.v
  obtain ⟨ol, hol⟩ : ∃ v, v = outers.length := ⟨_, rfl⟩
  obtain ⟨ll, hll⟩ : ∃ v, v = m.lits.length := ⟨_, rfl⟩
  obtain ⟨nn, hnn⟩ : ∃ v, v = m.code.length := ⟨_, rfl⟩
  rw [← hol] at HOE
  rw [← hol, ← hll, ← hnn]
  have HOL := Lib.hid hol
  have HLL := Lib.hid hll
  clear hol hll hnn hM HME
  have n1 : ¬ (op = 4 ∨ op = 5) := by omega
  have HMI : Hid (M ↔ outers = []) := Lib.hid (by rw [HM.out, if_neg n1, if_pos h])
  by_cases hc : 0 < ol
  · have hd : decide ((ol : Int) > 0) = true := by simp; omega
    have HP : Hid (¬ M) := Lib.hid (fun h => by have := HOE.out.1 (HMI.out.1 h); omega)
    rcases h with rfl | rfl <;>
    · go_enter Tryz.func22, Tryz.ntmps22
      go_wp2_with fail
      go_ret
      exact ⟨⟨false, by first | rfl | (simp; done) | (simp; omega), ⟨fun h => (by cases h), fun h => absurd h HP.out⟩⟩, (by first | exact (Fr.refl _ _) | exact ((Fr.refl _ _).alloc _) | exact (((Fr.refl _ _).alloc _).alloc _) | exact ((((Fr.refl _ _).alloc _).alloc _).drewN _) | exact (((Fr.refl _ _).alloc _).drewN _))⟩
  · have hd : decide ((ol : Int) > 0) = false := by simp; omega
    have HP : Hid (M) := Lib.hid (HMI.out.2 (HOE.out.2 (by omega)))
    rcases h with rfl | rfl <;>
    · go_enter Tryz.func22, Tryz.ntmps22
      go_wp2_with fail
      go_ret
      exact ⟨⟨true, by first | rfl | (simp; done) | (simp; omega), ⟨fun _ => HP.out, fun _ => rfl⟩⟩, (by first | exact (Fr.refl _ _) | exact ((Fr.refl _ _).alloc _) | exact (((Fr.refl _ _).alloc _).alloc _) | exact ((((Fr.refl _ _).alloc _).alloc _).drewN _) | exact (((Fr.refl _ _).alloc _).drewN _))⟩
set_option maxRecDepth 100000 in
set_option maxHeartbeats 1600000 in
theorem rmay_inner (op a b : Int) (h : op = 22 ∨ op = 23) (sub : Int → List Int → Prop) : Calls Tryz.prog 22 #[.pointer rp, m.v la lc ca cc, .agg #[.int .i64 op, .int .i64 a, .int .i64 b], .int .i64 fields, .slice oa outers.length oc] W (HasPost (m.mayOk sub fields outers ⟨op, a, b⟩) W) := by
  have HOE : Hid (outers = [] ↔ outers.length = 0) := Lib.hid List.length_eq_zero_iff.symm
  obtain ⟨M, hM⟩ : ∃ M, M = m.mayOk sub fields outers ⟨op, a, b⟩ := ⟨_, rfl⟩
  have HME := hM
  simp only [Mth.mayOk] at HME
  have HM := Lib.hid HME
  rw [← hM]
  unfold Mth.v
  obtain ⟨ol, hol⟩ : ∃ v, v = outers.length := ⟨_, rfl⟩
  obtain ⟨ll, hll⟩ : ∃ v, v = m.lits.length := ⟨_, rfl⟩
  obtain ⟨nn, hnn⟩ : ∃ v, v = m.code.length := ⟨_, rfl⟩
  rw [← hol] at HOE
  rw [← hol, ← hll, ← hnn]
  have HOL := Lib.hid hol
  have HLL := Lib.hid hll
  clear hol hll hnn hM HME
  have n1 : ¬ (op = 4 ∨ op = 5) := by omega
  have n2 : ¬ (op = 17 ∨ op = 18) := by omega
  have HMI : Hid (M ↔ outers ≠ []) := Lib.hid (by rw [HM.out, if_neg n1, if_neg n2, if_pos h])
  by_cases hc : 0 < ol
  · have hd : decide ((ol : Int) > 0) = true := by simp; omega
    have HP : Hid (M) := Lib.hid (HMI.out.2 (fun h => by have := HOE.out.1 h; omega))
    rcases h with rfl | rfl <;>
    · go_enter Tryz.func22, Tryz.ntmps22
      go_wp2_with fail
      go_ret
      exact ⟨⟨true, by first | rfl | (simp; done) | (simp; omega), ⟨fun _ => HP.out, fun _ => rfl⟩⟩, (by first | exact (Fr.refl _ _) | exact ((Fr.refl _ _).alloc _) | exact (((Fr.refl _ _).alloc _).alloc _) | exact ((((Fr.refl _ _).alloc _).alloc _).drewN _) | exact (((Fr.refl _ _).alloc _).drewN _))⟩
  · have hd : decide ((ol : Int) > 0) = false := by simp; omega
    have HP : Hid (¬ M) := Lib.hid (fun h => HMI.out.1 h (HOE.out.2 (by omega)))
    rcases h with rfl | rfl <;>
    · go_enter Tryz.func22, Tryz.ntmps22
      go_wp2_with fail
      go_ret
      exact ⟨⟨false, by first | rfl | (simp; done) | (simp; omega), ⟨fun h => (by cases h), fun h => absurd h HP.out⟩⟩, (by first | exact (Fr.refl _ _) | exact ((Fr.refl _ _).alloc _) | exact (((Fr.refl _ _).alloc _).alloc _) | exact ((((Fr.refl _ _).alloc _).alloc _).drewN _) | exact (((Fr.refl _ _).alloc _).drewN _))⟩
set_option maxRecDepth 100000 in
set_option maxHeartbeats 1600000 in
theorem rmay_other (op a b : Int) (h1 : 1 ≤ op) (h23 : op ≤ 23) (h : ¬ (op = 4 ∨ op = 5) ∧ ¬ (op = 17 ∨ op = 18) ∧ ¬ (op = 22 ∨ op = 23) ∧ ¬ (op = 20 ∨ op = 21) ∧ op ≠ 19) (sub : Int → List Int → Prop) : Calls Tryz.prog 22 #[.pointer rp, m.v la lc ca cc, .agg #[.int .i64 op, .int .i64 a, .int .i64 b], .int .i64 fields, .slice oa outers.length oc] W (HasPost (m.mayOk sub fields outers ⟨op, a, b⟩) W) := by
  have HOE : Hid (outers = [] ↔ outers.length = 0) := Lib.hid List.length_eq_zero_iff.symm
  obtain ⟨M, hM⟩ : ∃ M, M = m.mayOk sub fields outers ⟨op, a, b⟩ := ⟨_, rfl⟩
  have HME := hM
  simp only [Mth.mayOk] at HME
  have HM := Lib.hid HME
  rw [← hM]
  unfold Mth.v
  obtain ⟨ol, hol⟩ : ∃ v, v = outers.length := ⟨_, rfl⟩
  obtain ⟨ll, hll⟩ : ∃ v, v = m.lits.length := ⟨_, rfl⟩
  obtain ⟨nn, hnn⟩ : ∃ v, v = m.code.length := ⟨_, rfl⟩
  rw [← hol] at HOE
  rw [← hol, ← hll, ← hnn]
  have HOL := Lib.hid hol
  have HLL := Lib.hid hll
  clear hol hll hnn hM HME
  have HP : Hid M := Lib.hid (by rw [HM.out, if_neg h.1, if_neg h.2.1, if_neg h.2.2.1, if_neg h.2.2.2.1, if_neg h.2.2.2.2]; trivial)
  rcases op_cases h1 h23 with rfl | rfl | rfl | rfl | rfl | rfl | rfl | rfl | rfl | rfl | rfl | rfl | rfl | rfl | rfl | rfl | rfl | rfl | rfl | rfl | rfl | rfl | rfl <;> first
    | (exfalso; simp at h; done)
    | (go_enter Tryz.func22, Tryz.ntmps22
       go_wp2_with fail
       go_ret
       exact ⟨⟨true, rfl, ⟨fun _ => HP.out, fun _ => rfl⟩⟩, (by first | exact (Fr.refl _ _) | exact ((Fr.refl _ _).alloc _) | exact (((Fr.refl _ _).alloc _).alloc _) | exact ((((Fr.refl _ _).alloc _).alloc _).drewN _) | exact (((Fr.refl _ _).alloc _).drewN _))⟩)
end
end Go.Proofs.YtjghgambieflaaaGreatDoor
namespace Go.Proofs.YtjghgambieflaaaGreatDoor
open Go.RowKit
section
variable {w0 W : World} {m : Mth} {la ca : Option Addr} {lc cc : Nat} {rp : Option Addr} {fields : Int} {oa : Option Addr} {oc : Nat} {outers : List Int}
set_option maxRecDepth 100000 in
set_option maxHeartbeats 1600000 in
theorem rmay_outer (op a b : Int) (h : op = 20 ∨ op = 21) (ha0 : 0 ≤ a) (ha1 : a ≤ 4096) (hr : RowAt W oa (outers.map (Value.int .i64))) (sub : Int → List Int → Prop) : Calls Tryz.prog 22 #[.pointer rp, m.v la lc ca cc, .agg #[.int .i64 op, .int .i64 a, .int .i64 b], .int .i64 fields, .slice oa outers.length oc] W (HasPost (m.mayOk sub fields outers ⟨op, a, b⟩) W) := by
  have HR := Lib.hid hr
  clear hr
  have HOE : Hid (outers = [] ↔ outers.length = 0) := Lib.hid List.length_eq_zero_iff.symm
  obtain ⟨M, hM⟩ : ∃ M, M = m.mayOk sub fields outers ⟨op, a, b⟩ := ⟨_, rfl⟩
  have HME := hM
  simp only [Mth.mayOk] at HME
  have HM := Lib.hid HME
  rw [← hM]
  unfold Mth.v
  obtain ⟨ol, hol⟩ : ∃ v, v = outers.length := ⟨_, rfl⟩
  obtain ⟨ll, hll⟩ : ∃ v, v = m.lits.length := ⟨_, rfl⟩
  obtain ⟨nn, hnn⟩ : ∃ v, v = m.code.length := ⟨_, rfl⟩
  rw [← hol] at HOE
  rw [← hol, ← hll, ← hnn]
  have HOL := Lib.hid hol
  have HLL := Lib.hid hll
  clear hol hll hnn hM HME
  have n1 : ¬ (op = 4 ∨ op = 5) := by omega
  have n2 : ¬ (op = 17 ∨ op = 18) := by omega
  have n3 : ¬ (op = 22 ∨ op = 23) := by omega
  have HMI : Hid (M = (1 ≤ a ∧ a ≤ (outers.length : Int) ∧ ∀ t, outers[(a - 1).toNat]? = some t → b < t)) := Lib.hid (by rw [HM.out, if_neg n1, if_neg n2, if_neg n3, if_pos h])
  obtain ⟨W2, hW2⟩ : ∃ v, v = (W.alloc (.cells #[.int .i64 m.args, .int .i64 m.temps, .int .i64 m.stack, .int .i64 m.prim, .slice la ll lc, .slice ca nn cc] 25)).alloc (.cells #[.int .i64 op, .int .i64 a, .int .i64 b] 42) := ⟨_, rfl⟩
  have hF2 : Fr [] W W2 := by rw [hW2]; exact ((Fr.refl _ _).alloc _).alloc _
  have hib : W2.heap[W.heap.size + 1]? = some (.cells #[.int .i64 op, .int .i64 a, .int .i64 b] 42 (0, 0)) := by
    have h := heap_new (W.alloc (.cells #[.int .i64 m.args, .int .i64 m.temps, .int .i64 m.stack, .int .i64 m.prim, .slice la ll lc, .slice ca nn cc] 25)) (.cells #[.int .i64 op, .int .i64 a, .int .i64 b] 42)
    rw [← hW2] at h
    simpa using h
  have y0 := cell_of_heap (o := 0) hib rfl; have y1 := cell_of_heap (o := 1) hib rfl; have y2 := cell_of_heap (o := 2) hib rfl
  have HW2 := Lib.hid hW2.symm
  have HF2 := Lib.hid hF2
  clear hW2 hF2 hib y0
  by_cases h1 : 1 ≤ a
  · have hg1 : decide (a ≥ 1) = true := by simpa using h1
    by_cases h2 : a ≤ (ol : Int)
    · obtain ⟨j, rfl⟩ : ∃ j : Nat, a = (j : Int) + 1 := ⟨(a - 1).toNat, by omega⟩
      have hj : j < outers.length := by rw [← HOL.out]; omega
      obtain ⟨t, ht⟩ : ∃ t, outers[j]? = some t := ⟨_, List.getElem?_eq_getElem hj⟩
      obtain ⟨g, o, rfl, c⟩ := HR.out j (.int .i64 t) (by rw [List.getElem?_map, ht]; rfl)
      have HT := Lib.hid ht
      have c2 := HF2.out.cell (by simp) c
      have z0 : (0 : Int) ≤ (j : Int) := by omega
      have z1 : (j : Int) < (ol : Int) := by omega
      have e1 : (j : Int) + 1 - 1 = (j : Int) := by omega
      have hg2 : decide ((j : Int) + 1 ≤ (ol : Int)) = true := by simpa using h2
      have HIF : Hid (b < t ↔ M) := Lib.hid (by
        rw [HMI.out, e1, Int.toNat_natCast, HT.out, ← HOL.out]
        constructor
        · intro h; exact ⟨by omega, h2, fun t' h' => by cases h'; exact h⟩
        · intro h; exact h.2.2 t rfl)
      clear ht hj h1 h2
      rcases h with rfl | rfl <;>
      · go_enter Tryz.func22, Tryz.ntmps22
        go_wp2_with fail
        rw [HW2.out]
        go_quiet (fail)
        go_wp2_with fail
        go_ret
        exact ⟨⟨decide (b < t), rfl, by rw [decide_eq_true_eq]; exact HIF.out⟩, HF2.out.drewN _⟩
    · have hg2 : decide (a ≤ (ol : Int)) = false := by simpa using h2
      have HN : Hid (¬ M) := Lib.hid (by rw [HMI.out, ← HOL.out]; exact fun h => h2 h.2.1)
      have h2' : (ol : Int) < a := by omega
      rcases h with rfl | rfl <;>
      · go_enter Tryz.func22, Tryz.ntmps22
        go_wp2_with fail
        rw [HW2.out]
        go_quiet (fail)
        go_wp2_with fail
        go_ret
        exact ⟨⟨false, rfl, ⟨fun h => (by cases h), fun h => absurd h HN.out⟩⟩, HF2.out.drewN _⟩
  · have hg1 : decide (a ≥ 1) = false := by simpa using h1
    have HN : Hid (¬ M) := Lib.hid (by rw [HMI.out]; exact fun h => h1 h.1)
    have h1' : a < 1 := by omega
    rcases h with rfl | rfl <;>
    · go_enter Tryz.func22, Tryz.ntmps22
      go_wp2_with fail
      rw [HW2.out]
      go_quiet (fail)
      go_wp2_with fail
      go_ret
      exact ⟨⟨false, rfl, ⟨fun h => (by cases h), fun h => absurd h HN.out⟩⟩, HF2.out.drewN _⟩
theorem heap_three (w : World) (o1 o2 o3 : Obj) : (((w.alloc o1).alloc o2).alloc o3).heap[w.heap.size + 1 + 1]? = some o3 := by
  have h := heap_new ((w.alloc o1).alloc o2) o3
  simpa using h
/-- the document's checks of blocks, one deeper -/
def RSubCalls (w0 : World) (rp : Option Addr) (m : Mth) (fields : Int) (outers : List Int) (S : Int → Prop) : Prop := ∀ W x oa oc, Fr [] w0 W → x ∈ m.lits → RowAt W oa ((m.temps :: outers).map (Value.int .i64)) → Calls Tryz.prog 8 #[.pointer rp, .int .u64 x, .int .i64 fields, .slice oa (outers.length + 1) oc] W (fun e W' => Fr [] W W' ∧ ∃ p en, e = .returned (.tuple #[.int .i64 p, .int .i64 en]) ∧ (en = 0 ↔ S x))
set_option maxRecDepth 100000 in
set_option maxHeartbeats 1600000 in
theorem rmay_block (a b : Int) (ha0 : 0 ≤ a) {x : Int} (hk : m.lits[a.toNat]? = some x) (hlits : RowAt W la (m.lits.map (Value.int .u64))) (hr : RowAt W oa (outers.map (Value.int .i64))) (hon : oa = none → oc = 0 ∧ outers = []) (holl : outers.length ≤ 17592186043904) (sub : Int → List Int → Prop) (hS : outers.length < 2 → RSubCalls W rp m fields outers (fun y => sub y (m.temps :: outers))) : Calls Tryz.prog 22 #[.pointer rp, m.v la lc ca cc, .agg #[.int .i64 19, .int .i64 a, .int .i64 b], .int .i64 fields, .slice oa outers.length oc] W (HasPost (m.mayOk sub fields outers ⟨19, a, b⟩) W) := by
  obtain ⟨k, rfl⟩ : ∃ k : Nat, a = k := ⟨a.toNat, by omega⟩
  rw [Int.toNat_natCast] at hk
  have hkl := (List.getElem?_eq_some_iff.1 hk).1
  have HMI : Hid ((outers.length < 2 ∧ sub x (m.temps :: outers)) ↔ m.mayOk sub fields outers ⟨19, (k : Int), b⟩) := Lib.hid (by
    simp only [Mth.mayOk]
    rw [if_neg (by omega), if_neg (by omega), if_neg (by omega), if_neg (by omega), if_pos trivial, Int.toNat_natCast, hk]
    exact ⟨fun h => ⟨h.1, fun y hy => by cases hy; exact h.2⟩, fun h => ⟨h.1, h.2 x rfl⟩⟩)
  obtain ⟨g, off, rfl, lx⟩ := hlits k (.int .u64 x) (by rw [List.getElem?_map, hk]; rfl)
  have HK := Lib.hid hk
  have HR := Lib.hid hr
  have HON := Lib.hid hon
  have HS := Lib.hid hS
  have HOLL := Lib.hid holl
  obtain ⟨M, hM⟩ : ∃ M, M = m.mayOk sub fields outers ⟨19, (k : Int), b⟩ := ⟨_, rfl⟩
  rw [← hM] at HMI ⊢
  unfold Mth.v
  obtain ⟨ol, hol⟩ : ∃ v, v = outers.length := ⟨_, rfl⟩
  obtain ⟨ll, hll⟩ : ∃ v, v = m.lits.length := ⟨_, rfl⟩
  obtain ⟨nn, hnn⟩ : ∃ v, v = m.code.length := ⟨_, rfl⟩
  rw [← hll] at hkl
  rw [← hol, ← hll, ← hnn]
  have HOL := Lib.hid hol
  have z0 : (0 : Int) ≤ (k : Int) := by omega
  have z1 : (k : Int) < (ll : Int) := by omega
  have hol1 : (ol : Int) ≤ 17592186043904 := by omega
  obtain ⟨W3, hW3⟩ : ∃ v, v = ((W.alloc (.cells #[.int .i64 m.args, .int .i64 m.temps, .int .i64 m.stack, .int .i64 m.prim, .slice (some ⟨g, off, none⟩) ll lc, .slice ca nn cc] 25)).alloc (.cells #[.int .i64 19, .int .i64 (k : Int), .int .i64 b] 42)).alloc (.cells #[.int .i64 m.temps] 3) := ⟨_, rfl⟩
  have hF3 : Fr [] W W3 := by rw [hW3]; exact (((Fr.refl _ _).alloc _).alloc _).alloc _
  have hm3 : W3.heap[W.heap.size]? = some (.cells #[.int .i64 m.args, .int .i64 m.temps, .int .i64 m.stack, .int .i64 m.prim, .slice (some ⟨g, off, none⟩) ll lc, .slice ca nn cc] 25 (0, 0)) := by rw [hW3]; exact (((Fr.refl [] _).alloc _).alloc _).heap (by simp) (heap_new W _)
  have hi3 : W3.heap[W.heap.size + 1]? = some (.cells #[.int .i64 19, .int .i64 (k : Int), .int .i64 b] 42 (0, 0)) := by
    rw [hW3]
    have h := ((Fr.refl [] _).alloc (.cells #[.int .i64 m.temps] 3)).heap (by simp) (heap_new (W.alloc (.cells #[.int .i64 m.args, .int .i64 m.temps, .int .i64 m.stack, .int .i64 m.prim, .slice (some ⟨g, off, none⟩) ll lc, .slice ca nn cc] 25)) (.cells #[.int .i64 19, .int .i64 (k : Int), .int .i64 b] 42))
    simpa using h
  obtain ⟨ia, ic, w5, hrun, hF5, hR5⟩ := inner_run W3 (W.heap.size + 1 + 1) m.temps 27 (by rw [hW3]; exact heap_three _ _ _ _) outers oa oc hon (row_fr hr hF3) holl
  rw [← hol, hW3] at hrun
  have HF5 : Hid (Fr [] W w5) := Lib.hid (hF3.join' hF5 (fun z hz => by simp only [List.mem_singleton] at hz; omega))
  have hm5 := hF5.heap (by simp; omega) hm3
  have hi5 := hF5.heap (by simp) hi3
  have u0 := cell_of_heap (o := 0) hm5 rfl; have u1 := cell_of_heap (o := 1) hm5 rfl; have u2 := cell_of_heap (o := 2) hm5 rfl; have u3 := cell_of_heap (o := 3) hm5 rfl; have u4 := cell_of_heap (o := 4) hm5 rfl
  have y0 := cell_of_heap (o := 0) hi5 rfl; have y1 := cell_of_heap (o := 1) hi5 rfl
  have lx5 := HF5.out.cell (by simp) lx
  have HR5 := Lib.hid hR5
  clear hk hlits hr hon hS holl hol hll hnn hM hW3 hF3 hm3 hi3 hF5 hm5 hi5 hR5 u0 u1 u2 u3 y0
  by_cases h2 : ol < 2
  · have hsub : Calls Tryz.prog 8 #[.pointer rp, .int .u64 x, .int .i64 fields, .slice ia (1 + ol) ic] w5 (fun e W' => Fr [] w5 W' ∧ ∃ p en, e = .returned (.tuple #[.int .i64 p, .int .i64 en]) ∧ (en = 0 ↔ sub x (m.temps :: outers))) := by
      have h := HS.out (by rw [← HOL.out]; exact h2) w5 x ia ic HF5.out (List.mem_of_getElem? HK.out) HR5.out
      rw [← HOL.out, Nat.add_comm] at h
      exact h
    have HSUB := Lib.hid hsub
    have HMJ : Hid (sub x (m.temps :: outers) ↔ M) := Lib.hid ⟨fun h => HMI.out.1 ⟨by rw [← HOL.out]; exact h2, h⟩, fun h => (HMI.out.2 h).2⟩
    clear hsub
    go_enter Tryz.func22, Tryz.ntmps22
    go_wp2_with (at_builtin; go_loud (refine Lib.wpList_append_run _ rfl (.tmp 64) (.tmp 65) 27 27 rfl _ _ rfl rfl _ _ hrun ?_))
    refine HSUB.out.mono ?_
    rintro e w6 ⟨hF6, p, en, rfl, hen⟩
    have HF6 := Lib.hid (HF5.out.trans hF6)
    by_cases he : en = 0
    · have HP : Hid M := Lib.hid (HMJ.out.1 (hen.1 he))
      have hed : (en == 0) = true := by simp [he]
      clear hen hF6 he
      go_wp2_with fail
      go_ret
      exact ⟨⟨true, rfl, ⟨fun _ => HP.out, fun _ => rfl⟩⟩, HF6.out⟩
    · have HP : Hid (¬ M) := Lib.hid (fun h => he (hen.2 (HMJ.out.2 h)))
      have hed : (en == 0) = false := by simp [he]
      clear hen hF6 he
      go_wp2_with fail
      go_ret
      exact ⟨⟨false, rfl, ⟨fun h => (by cases h), fun h => absurd h HP.out⟩⟩, HF6.out⟩
  · have HP : Hid (¬ M) := Lib.hid (fun h => by have := (HMI.out.2 h).1; rw [← HOL.out] at this; exact h2 this)
    go_enter Tryz.func22, Tryz.ntmps22
    go_wp2_with (at_builtin; go_loud (refine Lib.wpList_append_run _ rfl (.tmp 64) (.tmp 65) 27 27 rfl _ _ rfl rfl _ _ hrun ?_))
    go_ret
    exact ⟨⟨false, rfl, ⟨fun h => (by cases h), fun h => absurd h HP.out⟩⟩, HF5.out⟩
theorem rmay_at (i : Ins) (hio : i.ok = true) (hop : m.opOk i = true) (hlits : RowAt W la (m.lits.map (Value.int .u64))) (hr : RowAt W oa (outers.map (Value.int .i64))) (hon : oa = none → oc = 0 ∧ outers = []) (holl : outers.length ≤ 17592186043904) (sub : Int → List Int → Prop) (hS : outers.length < 2 → RSubCalls W rp m fields outers (fun y => sub y (m.temps :: outers))) :
    Calls Tryz.prog 22 #[.pointer rp, m.v la lc ca cc, i.v, .int .i64 fields, .slice oa outers.length oc] W (HasPost (m.mayOk sub fields outers i) W) := by
  obtain ⟨op, a, b⟩ := i
  have hi := (Ins.ok_iff _).1 hio
  simp only at hi
  unfold Ins.v
  simp only
  by_cases h1 : op = 4 ∨ op = 5
  · exact rmay_field op a b h1 sub
  by_cases h2 : op = 17 ∨ op = 18
  · exact rmay_return op a b h2 sub
  by_cases h3 : op = 22 ∨ op = 23
  · exact rmay_inner op a b h3 sub
  by_cases h4 : op = 20 ∨ op = 21
  · exact rmay_outer op a b h4 (by omega) (by omega) hr sub
  by_cases h5 : op = 19
  · subst h5
    have ha : a < m.lits.length := by
      unfold Mth.opOk at hop
      simpa using hop
    have hk : m.lits[a.toNat]? = some m.lits[a.toNat] := List.getElem?_eq_getElem (by omega)
    exact rmay_block a b (by omega) hk hlits hr hon holl sub hS
  · exact rmay_other op a b (by omega) (by omega) ⟨h1, h2, h3, h4, h5⟩ sub
end
end Go.Proofs.YtjghgambieflaaaGreatDoor
namespace Go.Proofs.YtjghgambieflaaaGreatDoor
open Go.RowKit

def RChkTo (rd : Int → Mth × Int) (fields : Int) (n : Nat) (x : Int) (outers : List Int) (W : World) (e : Ending) (W' : World) : Prop := Fr [] W W' ∧ ∃ p en, CheckTo rd fields (SubOk rd fields n) x outers p en ∧ e = .returned (.tuple #[.int .i64 p, .int .i64 en])
set_option maxRecDepth 100000 in
set_option maxHeartbeats 3200000 in
theorem rcheck_at5 {w0 : World} {rp : Option Addr} {rd : Int → Mth × Int} {fields : Int} (hrd : RdOk w0 20 (.pointer rp) rd) (n : Nat) (outers : List Int) (holl : outers.length ≤ 17592186043904)
    (hS : ∀ W1 m, Fr [] w0 W1 → (∀ y ∈ Mth.lits m, WB y) → outers.length < 2 → RSubCalls W1 rp m fields outers (fun y => SubOk rd fields n y (m.temps :: outers)))
    (W : World) (x : Int) (oa : Option Addr) (oc : Nat) (hF : Fr [] w0 W) (hx : WB x) (ho : RowAt W oa (outers.map (Value.int .i64))) (hon : oa = none → oc = 0 ∧ outers = []) :
    Calls Tryz.prog 8 #[.pointer rp, .int .u64 x, .int .i64 fields, .slice oa outers.length oc] W (RChkTo rd fields n x outers W) := by
  have HCR := Lib.hid (hrd.call W x hF hx)
  have HEN := Lib.hid (hrd.en x hx)
  have HWB := Lib.hid (hrd.wb x hx)
  have HLN := Lib.hid (hrd.len x hx)
  obtain ⟨M, hM⟩ : ∃ v, v = (rd x).1 := ⟨_, rfl⟩
  obtain ⟨E, hEe⟩ : ∃ v, v = (rd x).2 := ⟨_, rfl⟩
  rw [← hM, ← hEe] at HCR
  rw [← hEe] at HEN
  rw [← hM] at HWB HLN
  have HMM := Lib.hid hM
  have HEE := Lib.hid hEe
  have HF0 := Lib.hid hF
  have HO := Lib.hid ho
  have HON := Lib.hid hon
  have HOLL := Lib.hid holl
  have HS := Lib.hid hS
  obtain ⟨ol, hol⟩ : ∃ v, v = outers.length := ⟨_, rfl⟩
  have HOL := Lib.hid hol
  rw [← hol]
  clear hrd holl hS hF hx ho hon hM hEe hol
  go_enter Tryz.func8, Tryz.ntmps8
  go_wp2_with fail
  refine HCR.out.mono ?_
  rintro e w1 ⟨hF1, la, lc, ca, cc, rfl, hMA⟩
  have HF1 := Lib.hid hF1
  have HMA := Lib.hid hMA
  clear hF1 hMA
  unfold Mth.v
  obtain ⟨ll, hll⟩ : ∃ v, v = M.lits.length := ⟨_, rfl⟩
  obtain ⟨nn, hnn⟩ : ∃ v, v = M.code.length := ⟨_, rfl⟩
  rw [← hll, ← hnn]
  have HLL := Lib.hid hll
  have HNN := Lib.hid hnn
  clear hll hnn
  obtain ⟨W2, hW2⟩ : ∃ v, v = w1.alloc (.cells #[.int .i64 M.args, .int .i64 M.temps, .int .i64 M.stack, .int .i64 M.prim, .slice la ll lc, .slice ca nn cc] 25) := ⟨_, rfl⟩
  have HF2 : Hid (Fr [] w1 W2) := Lib.hid (by rw [hW2]; exact (Fr.refl _ _).alloc _)
  have HMB : Hid (W2.heap[w1.heap.size]? = some (.cells #[.int .i64 M.args, .int .i64 M.temps, .int .i64 M.stack, .int .i64 M.prim, .slice la ll lc, .slice ca nn cc] 25 (0, 0))) := Lib.hid (by rw [hW2]; exact heap_new _ _)
  have HW2 := Lib.hid hW2.symm
  have HF12 : Hid (Fr [] W W2) := Lib.hid (HF1.out.trans HF2.out)
  clear hW2
  have k0 := cell_of_heap (o := 0) HMB.out rfl; have k1 := cell_of_heap (o := 1) HMB.out rfl; have k2 := cell_of_heap (o := 2) HMB.out rfl; have k3 := cell_of_heap (o := 3) HMB.out rfl; have k4 := cell_of_heap (o := 4) HMB.out rfl; have k5 := cell_of_heap (o := 5) HMB.out rfl
  have hE01 := HEN.out
  rcases hE01 with h0 | h4
  · subst h0
    by_cases hpr : 0 < ol ∧ M.prim ≠ 0
    · have hbd : decide ((ol : Int) > 0) = true := by simpa using hpr.1
      have hne : (M.prim != 0) = true := by simp [hpr.2]
      have HTO : Hid (CheckTo rd fields (SubOk rd fields n) x outers (-1) 4) := Lib.hid (.prim HEE.out.symm (fun h => by have := HOL.out; rw [h] at this; simp at this; omega) (by rw [← HMM.out]; exact hpr.2))
      go_wp2_with fail
      rw [HW2.out]
      go_ret2
      exact ⟨HF12.out, -1, 4, HTO.out, rfl⟩
    · have HPR : Hid (outers ≠ [] → (rd x).1.prim = 0) := Lib.hid (fun h => by
        rw [← HMM.out]
        refine Classical.byContradiction fun hp => hpr ⟨?_, hp⟩
        rw [HOL.out]
        exact List.length_pos_iff.2 h)
      have HDE := Lib.hid (rDepths_at M la ca lc cc W2 (row_fr HMA.out.code HF2.out) (by have := HLN.out; omega))
      unfold Mth.v at HDE
      rw [← HLL.out, ← HNN.out] at HDE
      have hca : ol = 0 ∨ (0 < ol ∧ M.prim = 0) := by
        rcases Nat.eq_zero_or_pos ol with h | h
        · exact .inl h
        · exact .inr ⟨h, Classical.byContradiction fun hp => hpr ⟨h, hp⟩⟩
      clear hpr
      rcases hca with hb0 | ⟨hb0, hp0⟩
      · have hbd : decide ((ol : Int) > 0) = false := by simp; omega
        have hle : (ol : Int) ≤ 0 := by omega
        clear hb0
        go_wp2_with fail
        rw [HW2.out]
        refine HDE.out.mono ?_
        rintro e w3 ⟨l3, p3, en3, ra3, rc3, hto, rfl, hF3, -, -⟩
        have HF3 := Lib.hid hF3
        have HMB3 := Lib.hid (hF3.heap (by simp) HMB.out)
        clear hF3 k0 k1 k2 k3 k4 k5
        rcases hto.err with rfl | ⟨rfl, rfl⟩
        rotate_left
        · have HTO : Hid (CheckTo rd fields (SubOk rd fields n) x outers p3 4) := Lib.hid (.depth HEE.out.symm HPR.out (by rw [← HMM.out]; exact hto))
          have HF4 : Hid (Fr [] W w3) := Lib.hid (HF12.out.trans HF3.out)
          clear hto
          go_wp2_with fail
          go_ret2
          exact ⟨HF4.out, p3, 4, HTO.out, rfl⟩
        · have HGD := Lib.hid hto.ok_good.1
          clear hto
          have k0 := cell_of_heap (o := 0) HMB3.out rfl; have k1 := cell_of_heap (o := 1) HMB3.out rfl; have k2 := cell_of_heap (o := 2) HMB3.out rfl; have k3 := cell_of_heap (o := 3) HMB3.out rfl; have k4 := cell_of_heap (o := 4) HMB3.out rfl; have k5 := cell_of_heap (o := 5) HMB3.out rfl
          have hn128 : nn ≤ 128 := by rw [HNN.out]; have := M.head_iff.1 (M.ok_iff.1 HGD.out.ok).1; omega
          go_wp2_with fail
          go_loopw [14] (fun i wr => ∃ k : Nat, k ≤ nn ∧ i = .int .i64 k ∧ Hid (Fr [] w3 wr) ∧ Hid (∀ j, j < k → ∀ i', M.code[j]? = some i' → M.mayOk (SubOk rd fields n) fields outers i')) (fun i _ => nn - (intOf i).toNat)
          case atStart => exact ⟨0, Nat.zero_le _, rfl, Lib.hid (Fr.refl _ _), Lib.hid fun j hj => absurd hj (Nat.not_lt_zero _)⟩
          case round =>
            obtain ⟨k, hk, rfl, hFk, hall⟩ := hrel
            have HFW1 : Hid (Fr [] w1 wr) := Lib.hid (HF2.out.trans (HF3.out.trans hFk.out))
            have hbk := hFk.out.heap (by simp) HMB3.out
            by_cases hlt : k < nn
            · have hkl : k < M.code.length := by rw [← HNN.out]; exact hlt
              obtain ⟨i, hi⟩ : ∃ i, M.code[k]? = some i := ⟨_, List.getElem?_eq_getElem hkl⟩
              have hmem := List.mem_of_getElem? hi
              have hio := (M.ok_iff.1 HGD.out.ok).2 i hmem
              obtain ⟨f1, f2, f3⟩ := flatI_at hi
              obtain ⟨gg, off, rfl, c1⟩ := HMA.out.code _ _ f1
              obtain ⟨_, _, e2, c2⟩ := HMA.out.code _ _ f2
              cases e2
              obtain ⟨_, _, e3, c3⟩ := HMA.out.code _ _ f3
              cases e3
              have d1 := HFW1.out.cell (by simp) c1
              have d2 := HFW1.out.cell (by simp) c2
              have d3 := HFW1.out.cell (by simp) c3
              rw [← Nat.add_assoc] at d2 d3
              have y0 := cell_of_heap (o := 0) hbk rfl; have y1 := cell_of_heap (o := 1) hbk rfl; have y2 := cell_of_heap (o := 2) hbk rfl; have y3 := cell_of_heap (o := 3) hbk rfl; have y4 := cell_of_heap (o := 4) hbk rfl; have y5 := cell_of_heap (o := 5) hbk rfl
              have hmay : ∀ W', Fr [] wr W' → Calls Tryz.prog 22 #[.pointer rp, M.v la lc (some ⟨gg, off, none⟩) cc, i.v, .int .i64 fields, .slice oa outers.length oc] W' (HasPost (M.mayOk (SubOk rd fields n) fields outers i) W') := fun W' hF => rmay_at i hio (HGD.out.op i hmem) (row_fr (lits_row HMA.out.lits) (HFW1.out.trans hF)) (row_fr HO.out (HF1.out.trans (HFW1.out.trans hF))) HON.out HOLL.out _ (fun h => HS.out W' M (HF0.out.trans (HF1.out.trans (HFW1.out.trans hF))) HWB.out h)
              unfold Mth.v Ins.v at hmay
              rw [← HLL.out, ← HNN.out, ← HOL.out] at hmay
              have HMAY := Lib.hid hmay
              have HI := Lib.hid hi
              have z0 : (0 : Int) ≤ (k : Int) := by omega
              have z1 : (k : Int) < (nn : Int) := by omega
              clear hkl hi hmem hio f1 f2 f3 c1 c2 c3 hmay hbk
              go_wp2_with fail
              go_region_held3 (fun w' => w'.cell? ⟨w1.heap.size, 0, none⟩ = some (.int .i64 M.args) ∧ w'.cell? ⟨w1.heap.size, 1, none⟩ = some (.int .i64 M.temps) ∧ w'.cell? ⟨w1.heap.size, 2, none⟩ = some (.int .i64 M.stack) ∧ w'.cell? ⟨w1.heap.size, 3, none⟩ = some (.int .i64 M.prim) ∧ w'.cell? ⟨w1.heap.size, 4, none⟩ = some (.slice la ll lc) ∧ w'.cell? ⟨w1.heap.size, 5, none⟩ = some (.slice (some ⟨gg, off, none⟩) nn cc) ∧ w'.cell? ⟨gg, off + k * 3, none⟩ = some (.int .i64 i.op) ∧ w'.cell? ⟨gg, off + k * 3 + 1, none⟩ = some (.int .i64 i.a) ∧ w'.cell? ⟨gg, off + k * 3 + 2, none⟩ = some (.int .i64 i.b))
                (first | exact ⟨HF4.out.cell (by simp) y0, HF4.out.cell (by simp) y1, HF4.out.cell (by simp) y2, HF4.out.cell (by simp) y3, HF4.out.cell (by simp) y4, HF4.out.cell (by simp) y5, HF4.out.cell (by simp) d1, HF4.out.cell (by simp) d2, HF4.out.cell (by simp) d3⟩ | go_keep)
                (first | (go_at_call 22; refine (HMAY.out _ ((Fr.refl [] wr).drew)).mono ?_; rintro e w4 ⟨⟨bo, rfl, hbo⟩, hF4⟩; have HF4 : Hid (Fr [] wr w4) := (Fr.refl [] wr).drew.trans hF4; have HBO := Lib.hid hbo; clear hF4 hbo))
              have HF5 : Hid (Fr [] w3 w4) := Lib.hid (hFk.out.trans HF4.out)
              clear y0 y1 y2 y3 y4 y5 d1 d2 d3
              cases bo
              · have HTO : Hid (CheckTo rd fields (SubOk rd fields n) x outers k 4) := Lib.hid (.bad HEE.out.symm HPR.out (by rw [← HMM.out]; exact HGD.out) (by rw [← HMM.out]; exact HI.out) (by rw [← HMM.out]; exact fun h => by have := HBO.out.2 h; cases this) (by rw [← HMM.out]; exact hall.out))
                have HF6 : Hid (Fr [] W w4) := Lib.hid (HF12.out.trans (HF3.out.trans HF5.out))
                go_wp2_with fail
                go_ret2
                exact ⟨HF6.out, k, 4, HTO.out, rfl⟩
              · have HN5 : Hid (∀ j, j < k + 1 → ∀ i', M.code[j]? = some i' → M.mayOk (SubOk rd fields n) fields outers i') := Lib.hid fun j hj i' hi' => by
                  by_cases e : j = k
                  · subst e
                    rw [HI.out] at hi'
                    cases hi'
                    exact HBO.out.1 rfl
                  · exact hall.out j (by omega) i' hi'
                go_wp2_with fail
                go_roundw
                case rel => exact ⟨k + 1, by omega, by go_num, HF5, HN5⟩
                case measure => simp [intOf]; omega
            · have hkn : k = nn := by omega
              subst hkn
              have hkd : decide ((k : Int) < (k : Int)) = false := by simp
              have y0 := cell_of_heap (o := 0) hbk rfl; have y1 := cell_of_heap (o := 1) hbk rfl; have y2 := cell_of_heap (o := 2) hbk rfl; have y3 := cell_of_heap (o := 3) hbk rfl; have y4 := cell_of_heap (o := 4) hbk rfl; have y5 := cell_of_heap (o := 5) hbk rfl
              have HTO : Hid (CheckTo rd fields (SubOk rd fields n) x outers (-1) 0) := Lib.hid (.good HEE.out.symm HPR.out (by rw [← HMM.out]; exact HGD.out) (fun i hi => by
                rw [← HMM.out] at hi ⊢
                obtain ⟨j, hj⟩ := List.getElem?_of_mem hi
                exact hall.out j (by rw [HNN.out]; exact (List.getElem?_eq_some_iff.1 hj).1) i hj))
              have HFE : Hid (Fr [] W wr) := Lib.hid (HF1.out.trans HFW1.out)
              clear hall hbk
              go_wp2_with fail
              go_ret2
              exact ⟨HFE.out, -1, 0, HTO.out, rfl⟩
      · have hbd : decide ((ol : Int) > 0) = true := by simpa using hb0
        have hne : (M.prim != 0) = false := by simp [hp0]
        clear hp0
        go_wp2_with fail
        rw [HW2.out]
        refine HDE.out.mono ?_
        rintro e w3 ⟨l3, p3, en3, ra3, rc3, hto, rfl, hF3, -, -⟩
        have HF3 := Lib.hid hF3
        have HMB3 := Lib.hid (hF3.heap (by simp) HMB.out)
        clear hF3 k0 k1 k2 k3 k4 k5
        rcases hto.err with rfl | ⟨rfl, rfl⟩
        rotate_left
        · have HTO : Hid (CheckTo rd fields (SubOk rd fields n) x outers p3 4) := Lib.hid (.depth HEE.out.symm HPR.out (by rw [← HMM.out]; exact hto))
          have HF4 : Hid (Fr [] W w3) := Lib.hid (HF12.out.trans HF3.out)
          clear hto
          go_wp2_with fail
          go_ret2
          exact ⟨HF4.out, p3, 4, HTO.out, rfl⟩
        · have HGD := Lib.hid hto.ok_good.1
          clear hto
          have k0 := cell_of_heap (o := 0) HMB3.out rfl; have k1 := cell_of_heap (o := 1) HMB3.out rfl; have k2 := cell_of_heap (o := 2) HMB3.out rfl; have k3 := cell_of_heap (o := 3) HMB3.out rfl; have k4 := cell_of_heap (o := 4) HMB3.out rfl; have k5 := cell_of_heap (o := 5) HMB3.out rfl
          have hn128 : nn ≤ 128 := by rw [HNN.out]; have := M.head_iff.1 (M.ok_iff.1 HGD.out.ok).1; omega
          go_wp2_with fail
          go_loopw [14] (fun i wr => ∃ k : Nat, k ≤ nn ∧ i = .int .i64 k ∧ Hid (Fr [] w3 wr) ∧ Hid (∀ j, j < k → ∀ i', M.code[j]? = some i' → M.mayOk (SubOk rd fields n) fields outers i')) (fun i _ => nn - (intOf i).toNat)
          case atStart => exact ⟨0, Nat.zero_le _, rfl, Lib.hid (Fr.refl _ _), Lib.hid fun j hj => absurd hj (Nat.not_lt_zero _)⟩
          case round =>
            obtain ⟨k, hk, rfl, hFk, hall⟩ := hrel
            have HFW1 : Hid (Fr [] w1 wr) := Lib.hid (HF2.out.trans (HF3.out.trans hFk.out))
            have hbk := hFk.out.heap (by simp) HMB3.out
            by_cases hlt : k < nn
            · have hkl : k < M.code.length := by rw [← HNN.out]; exact hlt
              obtain ⟨i, hi⟩ : ∃ i, M.code[k]? = some i := ⟨_, List.getElem?_eq_getElem hkl⟩
              have hmem := List.mem_of_getElem? hi
              have hio := (M.ok_iff.1 HGD.out.ok).2 i hmem
              obtain ⟨f1, f2, f3⟩ := flatI_at hi
              obtain ⟨gg, off, rfl, c1⟩ := HMA.out.code _ _ f1
              obtain ⟨_, _, e2, c2⟩ := HMA.out.code _ _ f2
              cases e2
              obtain ⟨_, _, e3, c3⟩ := HMA.out.code _ _ f3
              cases e3
              have d1 := HFW1.out.cell (by simp) c1
              have d2 := HFW1.out.cell (by simp) c2
              have d3 := HFW1.out.cell (by simp) c3
              rw [← Nat.add_assoc] at d2 d3
              have y0 := cell_of_heap (o := 0) hbk rfl; have y1 := cell_of_heap (o := 1) hbk rfl; have y2 := cell_of_heap (o := 2) hbk rfl; have y3 := cell_of_heap (o := 3) hbk rfl; have y4 := cell_of_heap (o := 4) hbk rfl; have y5 := cell_of_heap (o := 5) hbk rfl
              have hmay : ∀ W', Fr [] wr W' → Calls Tryz.prog 22 #[.pointer rp, M.v la lc (some ⟨gg, off, none⟩) cc, i.v, .int .i64 fields, .slice oa outers.length oc] W' (HasPost (M.mayOk (SubOk rd fields n) fields outers i) W') := fun W' hF => rmay_at i hio (HGD.out.op i hmem) (row_fr (lits_row HMA.out.lits) (HFW1.out.trans hF)) (row_fr HO.out (HF1.out.trans (HFW1.out.trans hF))) HON.out HOLL.out _ (fun h => HS.out W' M (HF0.out.trans (HF1.out.trans (HFW1.out.trans hF))) HWB.out h)
              unfold Mth.v Ins.v at hmay
              rw [← HLL.out, ← HNN.out, ← HOL.out] at hmay
              have HMAY := Lib.hid hmay
              have HI := Lib.hid hi
              have z0 : (0 : Int) ≤ (k : Int) := by omega
              have z1 : (k : Int) < (nn : Int) := by omega
              clear hkl hi hmem hio f1 f2 f3 c1 c2 c3 hmay hbk
              go_wp2_with fail
              go_region_held3 (fun w' => w'.cell? ⟨w1.heap.size, 0, none⟩ = some (.int .i64 M.args) ∧ w'.cell? ⟨w1.heap.size, 1, none⟩ = some (.int .i64 M.temps) ∧ w'.cell? ⟨w1.heap.size, 2, none⟩ = some (.int .i64 M.stack) ∧ w'.cell? ⟨w1.heap.size, 3, none⟩ = some (.int .i64 M.prim) ∧ w'.cell? ⟨w1.heap.size, 4, none⟩ = some (.slice la ll lc) ∧ w'.cell? ⟨w1.heap.size, 5, none⟩ = some (.slice (some ⟨gg, off, none⟩) nn cc) ∧ w'.cell? ⟨gg, off + k * 3, none⟩ = some (.int .i64 i.op) ∧ w'.cell? ⟨gg, off + k * 3 + 1, none⟩ = some (.int .i64 i.a) ∧ w'.cell? ⟨gg, off + k * 3 + 2, none⟩ = some (.int .i64 i.b))
                (first | exact ⟨HF4.out.cell (by simp) y0, HF4.out.cell (by simp) y1, HF4.out.cell (by simp) y2, HF4.out.cell (by simp) y3, HF4.out.cell (by simp) y4, HF4.out.cell (by simp) y5, HF4.out.cell (by simp) d1, HF4.out.cell (by simp) d2, HF4.out.cell (by simp) d3⟩ | go_keep)
                (first | (go_at_call 22; refine (HMAY.out _ ((Fr.refl [] wr).drew)).mono ?_; rintro e w4 ⟨⟨bo, rfl, hbo⟩, hF4⟩; have HF4 : Hid (Fr [] wr w4) := (Fr.refl [] wr).drew.trans hF4; have HBO := Lib.hid hbo; clear hF4 hbo))
              have HF5 : Hid (Fr [] w3 w4) := Lib.hid (hFk.out.trans HF4.out)
              clear y0 y1 y2 y3 y4 y5 d1 d2 d3
              cases bo
              · have HTO : Hid (CheckTo rd fields (SubOk rd fields n) x outers k 4) := Lib.hid (.bad HEE.out.symm HPR.out (by rw [← HMM.out]; exact HGD.out) (by rw [← HMM.out]; exact HI.out) (by rw [← HMM.out]; exact fun h => by have := HBO.out.2 h; cases this) (by rw [← HMM.out]; exact hall.out))
                have HF6 : Hid (Fr [] W w4) := Lib.hid (HF12.out.trans (HF3.out.trans HF5.out))
                go_wp2_with fail
                go_ret2
                exact ⟨HF6.out, k, 4, HTO.out, rfl⟩
              · have HN5 : Hid (∀ j, j < k + 1 → ∀ i', M.code[j]? = some i' → M.mayOk (SubOk rd fields n) fields outers i') := Lib.hid fun j hj i' hi' => by
                  by_cases e : j = k
                  · subst e
                    rw [HI.out] at hi'
                    cases hi'
                    exact HBO.out.1 rfl
                  · exact hall.out j (by omega) i' hi'
                go_wp2_with fail
                go_roundw
                case rel => exact ⟨k + 1, by omega, by go_num, HF5, HN5⟩
                case measure => simp [intOf]; omega
            · have hkn : k = nn := by omega
              subst hkn
              have hkd : decide ((k : Int) < (k : Int)) = false := by simp
              have y0 := cell_of_heap (o := 0) hbk rfl; have y1 := cell_of_heap (o := 1) hbk rfl; have y2 := cell_of_heap (o := 2) hbk rfl; have y3 := cell_of_heap (o := 3) hbk rfl; have y4 := cell_of_heap (o := 4) hbk rfl; have y5 := cell_of_heap (o := 5) hbk rfl
              have HTO : Hid (CheckTo rd fields (SubOk rd fields n) x outers (-1) 0) := Lib.hid (.good HEE.out.symm HPR.out (by rw [← HMM.out]; exact HGD.out) (fun i hi => by
                rw [← HMM.out] at hi ⊢
                obtain ⟨j, hj⟩ := List.getElem?_of_mem hi
                exact hall.out j (by rw [HNN.out]; exact (List.getElem?_eq_some_iff.1 hj).1) i hj))
              have HFE : Hid (Fr [] W wr) := Lib.hid (HF1.out.trans HFW1.out)
              clear hall hbk
              go_wp2_with fail
              go_ret2
              exact ⟨HFE.out, -1, 0, HTO.out, rfl⟩
  · subst h4
    have HTO : Hid (CheckTo rd fields (SubOk rd fields n) x outers (-1) 4) := Lib.hid (.none (by rw [← HEE.out]; omega))
    go_wp2_with fail
    rw [HW2.out]
    go_ret2
    exact ⟨HF12.out, -1, 4, HTO.out, rfl⟩
end Go.Proofs.YtjghgambieflaaaGreatDoor
namespace Go.Proofs.YtjghgambieflaaaGreatDoor
open Go.RowKit

theorem RChkTo.post {rd : Int → Mth × Int} {fields : Int} {n : Nat} {x : Int} {outers : List Int} {W W' : World} {e : Ending} (h : RChkTo rd fields n x outers W e W') : Fr [] W W' ∧ ∃ p en, e = .returned (.tuple #[.int .i64 p, .int .i64 en]) ∧ (en = 0 ↔ SubOk rd fields (n + 1) x outers) := by
  obtain ⟨hF, p, en, hc, rfl⟩ := h
  refine ⟨hF, p, en, rfl, ?_⟩
  rcases hc.err with ⟨rfl, rfl⟩ | rfl
  · exact ⟨fun _ => hc, fun _ => rfl⟩
  · exact ⟨fun h => by omega, fun h => by have := (h.one hc).2; omega⟩
theorem rchecks_at {w0 : World} {rp : Option Addr} {rd : Int → Mth × Int} {fields : Int} (hrd : RdOk w0 20 (.pointer rp) rd) : ∀ (n : Nat) (outers : List Int), 2 - outers.length = n → outers.length ≤ 17592186043904 → ∀ (W : World) (x : Int) (oa : Option Addr) (oc : Nat), Fr [] w0 W → WB x → RowAt W oa (outers.map (Value.int .i64)) → (oa = none → oc = 0 ∧ outers = []) →
    Calls Tryz.prog 8 #[.pointer rp, .int .u64 x, .int .i64 fields, .slice oa outers.length oc] W (RChkTo rd fields n x outers W)
  | 0, outers, hn, hl, W, x, oa, oc, hF, hx, ho, hon => rcheck_at5 hrd 0 outers hl (fun W1 m _ _ h => by omega) W x oa oc hF hx ho hon
  | n + 1, outers, hn, hl, W, x, oa, oc, hF, hx, ho, hon => rcheck_at5 hrd (n + 1) outers hl (fun W1 m hF1 hwb _ W2 y ia ic hF2 hy hrow =>
      (rchecks_at hrd n (m.temps :: outers) (by simp only [List.length_cons]; omega) (by simp only [List.length_cons]; omega) W2 y ia ic (hF1.trans hF2) (hwb y hy) hrow (fun h => by
        obtain ⟨_, _, e, _⟩ := hrow 0 _ rfl
        rw [h] at e
        cases e)).mono fun _ _ h => h.post) W x oa oc hF hx ho hon
end Go.Proofs.YtjghgambieflaaaGreatDoor
