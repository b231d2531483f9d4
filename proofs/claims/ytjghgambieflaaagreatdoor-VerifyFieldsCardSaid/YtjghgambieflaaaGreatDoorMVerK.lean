/- verify.check: a method, or a block, with all that it pushes. verify.Check. -/
import Derived.Test.YtjghgambieflaaaGreatDoorMVerJ
import Derived.Test.YtjghgambieflaaaGreatDoorMVerD
import Derived.Test.YtjghgambieflaaaGreatDoorMCodeReadsWalk
namespace Go.Proofs.YtjghgambieflaaaGreatDoor
open Go.RowKit

/-- how a check's error is told -/
def ErrTo (p en : Int) (e : Ending) : Prop := (en = 0 ∧ p = -1 ∧ e = .returned .nilIface) ∨ (en = 4 ∧ p = -1 ∧ ∃ a, e = .returned (.iface 224 (.pointer (some a)))) ∨ (en = 4 ∧ ∃ u y, e = .returned (.iface 88 (.agg #[.int .i64 p, .iface u y])))
/-- what is read of each word -/
structure RdOk (w0 : World) (f : Nat) (hv : Value) (rd : Int → Mth × Int) : Prop where
  call : ∀ W x, Fr [] w0 W → WB x → Calls Tryz.prog f #[hv, .int .u64 x] W (ReadAs (rd x).1 (rd x).2 W)
  en : ∀ x, WB x → (rd x).2 = 0 ∨ (rd x).2 = 4
  wb : ∀ x, WB x → ∀ y ∈ (rd x).1.lits, WB y
  len : ∀ x, WB x → (rd x).1.code.length ≤ 65536
def ChkTo (rd : Int → Mth × Int) (fields : Int) (n : Nat) (x : Int) (outers : List Int) (W : World) (e : Ending) (W' : World) : Prop := Fr [] W W' ∧ ∃ p en, CheckTo rd fields (SubOk rd fields n) x outers p en ∧ ErrTo p en e
theorem ChkTo.post {rd : Int → Mth × Int} {fields : Int} {n : Nat} {x : Int} {outers : List Int} {W W' : World} {e : Ending} (h : ChkTo rd fields n x outers W e W') : ChkPost (SubOk rd fields (n + 1) x outers) W e W' := by
  obtain ⟨hF, p, en, hc, ⟨rfl, rfl, rfl⟩ | ⟨rfl, rfl, a, rfl⟩ | ⟨rfl, u, y, rfl⟩⟩ := h
  · exact ⟨hF, .inl ⟨hc, rfl⟩⟩
  · exact ⟨hF, .inr ⟨fun h => by have := (h.one hc).2; omega, _, _, rfl⟩⟩
  · exact ⟨hF, .inr ⟨fun h => by have := (h.one hc).2; omega, _, _, rfl⟩⟩
theorem lits_row {w : World} {la : Option Addr} {xs : List Int} (h : WordsAt w la xs) : RowAt w la (xs.map (Value.int .u64)) := by
  intro j u hj
  rw [List.getElem?_map] at hj
  cases hx : xs[j]? with
  | none => rw [hx] at hj; cases hj
  | some x =>
    rw [hx] at hj
    cases hj
    exact h j x hx
set_option maxRecDepth 100000 in
set_option maxHeartbeats 3200000 in
theorem check_at5 {w0 : World} {hp : Option Addr} {rd : Int → Mth × Int} {fields : Int} (hE : CErrs w0) (hV : VErrs w0) (hFd : Field w0) (hDb : DbAt w0) (hrd : RdOk w0 39 (.pointer hp) rd) (n : Nat) (outers : List Int) (_hn : 2 - outers.length = n)
    (hS : ∀ W1 m, Fr [] w0 W1 → (∀ y ∈ Mth.lits m, WB y) → outers.length < 2 → SubCalls W1 (.pointer hp) m fields outers (fun y => SubOk rd fields n y (m.temps :: outers)))
    (W : World) (x : Int) (oa : Option Addr) (oc : Nat) (hF : Fr [] w0 W) (hx : WB x) (ho : RowAt W oa (outers.map (Value.int .i64))) (hon : oa = none → oc = 0 ∧ outers = []) :
    Calls Tryz.prog 19 #[.pointer hp, .int .u64 x, .int .i64 fields, .slice oa outers.length oc] W (ChkTo rd fields n x outers W) := by
  have HCR := Lib.hid (hrd.call W x hF hx)
  have HEN := Lib.hid (hrd.en x hx)
  have HWB := Lib.hid (hrd.wb x hx)
  obtain ⟨M, hM⟩ : ∃ v, v = (rd x).1 := ⟨_, rfl⟩
  obtain ⟨E, hEe⟩ : ∃ v, v = (rd x).2 := ⟨_, rfl⟩
  rw [← hM, ← hEe] at HCR
  rw [← hEe] at HEN
  rw [← hM] at HWB
  have HMM := Lib.hid hM
  have HEE := Lib.hid hEe
  have HF0 := Lib.hid hF
  have HO := Lib.hid ho
  have HON := Lib.hid hon
  have HE := Lib.hid hE
  have HV := Lib.hid hV
  have HFd := Lib.hid hFd
  have HDb := Lib.hid hDb
  have HS := Lib.hid hS
  obtain ⟨ol, hol⟩ : ∃ v, v = outers.length := ⟨_, rfl⟩
  have HOL := Lib.hid hol
  rw [← hol]
  clear hE hV hFd hDb hrd _hn hS hF hx ho hM hEe hol hon
  go_enter Tryz.func19, Tryz.ntmps19
  go_wp2_with fail
  refine HCR.out.mono ?_
  rintro e w1 ⟨hF1, la, lc, ca, cc, rfl, hMA⟩
  obtain ⟨em, hem⟩ := (HV.out.fr (HF0.out.trans hF1)).method
  obtain ⟨ep, hep⟩ := (HE.out.fr (HF0.out.trans hF1)).prim
  have HF1 := Lib.hid hF1
  have HMA := Lib.hid hMA
  clear hF1 hMA
  unfold Mth.v
  obtain ⟨ll, hll⟩ : ∃ v, v = M.lits.length := ⟨_, rfl⟩
  obtain ⟨nn, hnn⟩ : ∃ v, v = M.code.length := ⟨_, rfl⟩
  rw [← hll, ← hnn]
  have HLL := Lib.hid hll
  have HNN := Lib.hid hnn
  clear hll hnn
  have hE01 := HEN.out
  obtain ⟨Wm, hWm⟩ : ∃ v, v = w1.alloc (.cells #[.int .i64 M.args, .int .i64 M.temps, .int .i64 M.stack, .int .i64 M.prim, .slice la ll lc, .slice ca nn cc] 25) := ⟨_, rfl⟩
  have HFm : Hid (Fr [] w1 Wm) := Lib.hid (by rw [hWm]; exact (Fr.refl _ _).alloc _)
  have hem' := HFm.out.cell (by simp) hem
  have HWm := Lib.hid hWm
  clear hWm
  rcases hE01 with h0 | h4
  · subst h0
    obtain ⟨W2, hW2⟩ : ∃ v, v = Wm.alloc (.cells (bodyCells M la ll lc ca nn cc (.pointer hp) fields oa ol oc (List.replicate 32 false)) 95) := ⟨_, rfl⟩
    have HF2 : Hid (Fr [] Wm W2) := Lib.hid (by rw [hW2]; exact (Fr.refl _ _).alloc _)
    have hsz : Wm.heap.size = w1.heap.size + 1 := by rw [HWm.out]; simp
    have HMB : Hid (W2.heap[w1.heap.size]? = some (.cells #[.int .i64 M.args, .int .i64 M.temps, .int .i64 M.stack, .int .i64 M.prim, .slice la ll lc, .slice ca nn cc] 25 (0, 0))) := Lib.hid (HF2.out.heap (by simp) (by rw [HWm.out]; exact heap_new _ _))
    have HB2 : Hid (BodyAt (w1.heap.size + 1) M la ll lc ca nn cc (.pointer hp) fields oa ol oc (List.replicate 32 false) W2) := Lib.hid ⟨by rw [hW2, ← hsz]; exact heap_new _ _, by simp⟩
    have hb8 := HB2.out.cells.2.2.2.2
    have HIB := Lib.hid (isBlock_at (w1.heap.size + 1) oa ol oc W2 hb8)
    have hW2' : (w1.alloc (.cells #[.int .i64 M.args, .int .i64 M.temps, .int .i64 M.stack, .int .i64 M.prim, .slice la ll lc, .slice ca nn cc] 25)).alloc (.cells #[.int .i64 M.args, .int .i64 M.temps, .int .i64 M.stack, .int .i64 M.prim, .slice la ll lc, .slice ca nn cc, .pointer hp, .int .i64 fields, .slice oa ol oc, .bool false, .bool false, .bool false, .bool false, .bool false, .bool false, .bool false, .bool false, .bool false, .bool false, .bool false, .bool false, .bool false, .bool false, .bool false, .bool false, .bool false, .bool false, .bool false, .bool false, .bool false, .bool false, .bool false, .bool false, .bool false, .bool false, .bool false, .bool false, .bool false, .bool false, .bool false, .bool false] 95) = W2 := by rw [hW2, HWm.out]; rfl
    have HW2 := Lib.hid hW2'
    have hep2 := (HFm.out.trans HF2.out).cell (by simp) hep
    have HF12 : Hid (Fr [] W W2) := Lib.hid (HF1.out.trans (HFm.out.trans HF2.out))
    clear hW2 hW2' hb8 hem hep hem' hsz
    have k0 := cell_of_heap (o := 0) HMB.out rfl; have k1 := cell_of_heap (o := 1) HMB.out rfl; have k2 := cell_of_heap (o := 2) HMB.out rfl; have k3 := cell_of_heap (o := 3) HMB.out rfl; have k4 := cell_of_heap (o := 4) HMB.out rfl; have k5 := cell_of_heap (o := 5) HMB.out rfl
    by_cases hpr : 0 < ol ∧ M.prim ≠ 0
    · have hbd : decide (0 < ol) = true := by simpa using hpr.1
      rw [hbd] at HIB
      have hne : (M.prim != 0) = true := by simp [hpr.2]
      have HTO : Hid (CheckTo rd fields (SubOk rd fields n) x outers (-1) 4) := Lib.hid (.prim HEE.out.symm (fun h => by have := HOL.out; rw [h] at this; simp at this; omega) (by rw [← HMM.out]; exact hpr.2))
      go_wp2_with (go_at_call 40; rw [HW2.out]; refine HIB.out.mono ?_; rintro e w3 ⟨rfl, rfl⟩)
      go_ret
      exact ⟨HF12.out, -1, 4, HTO.out, .inr (.inl ⟨rfl, rfl, ep, rfl⟩)⟩
    · have HPR : Hid (outers ≠ [] → (rd x).1.prim = 0) := Lib.hid (fun h => by
        rw [← HMM.out]
        refine Classical.byContradiction fun hp => hpr ⟨?_, hp⟩
        rw [HOL.out]
        exact List.length_pos_iff.2 h)
      have hca : ol = 0 ∨ (0 < ol ∧ M.prim = 0) := by
        rcases Nat.eq_zero_or_pos ol with h | h
        · exact .inl h
        · exact .inr ⟨h, Classical.byContradiction fun hp => hpr ⟨h, hp⟩⟩
      clear hpr hep2
      have HDE := Lib.hid (depths_at M la ca lc cc W2 (row_fr HMA.out.code (HFm.out.trans HF2.out)) (HV.out.fr (HF0.out.trans HF12.out)) (HFd.out.fr (HF0.out.trans HF12.out)) (HDb.out.fr (HF0.out.trans HF12.out)))
      unfold Mth.v at HDE
      rw [← HLL.out, ← HNN.out] at HDE
      rcases hca with hb0 | ⟨hb0, hp0⟩
      · have hbd : decide (0 < ol) = false := by simp; omega
        rw [hbd] at HIB
        have HOL0 := Lib.hid hb0
        clear hb0
        go_wp2_with (go_at_call 40; rw [HW2.out]; refine HIB.out.mono ?_; rintro e w3 ⟨rfl, rfl⟩)
        refine HDE.out.mono ?_
        rintro e w3 ⟨hF3, ⟨hok, a, rfl⟩ | ⟨kk, hto, a, rfl⟩ | ⟨hgd, g, cap, rfl, -, -⟩⟩
        · have HTO : Hid (CheckTo rd fields (SubOk rd fields n) x outers (-1) 4) := Lib.hid (.depth HEE.out.symm HPR.out (by rw [← HMM.out]; exact .no hok))
          have HF3 := Lib.hid (HF12.out.trans hF3)
          have hnn := ne_nil
          clear hF3 k0 k1 k2 k3 k4 k5
          go_wp2_with fail
          go_ret
          exact ⟨HF3.out, -1, 4, HTO.out, .inr (.inl ⟨rfl, rfl, a, rfl⟩)⟩
        · have HTO : Hid (CheckTo rd fields (SubOk rd fields n) x outers kk 4) := Lib.hid (.depth HEE.out.symm HPR.out (by rw [← HMM.out]; exact hto))
          have HF3 := Lib.hid (HF12.out.trans hF3)
          have hnn := ne_nil
          clear hF3 k0 k1 k2 k3 k4 k5
          go_wp2_with fail
          go_ret
          exact ⟨HF3.out, kk, 4, HTO.out, .inr (.inr ⟨rfl, _, _, rfl⟩)⟩
        · have HGD := Lib.hid hgd
          have HF3 := Lib.hid hF3
          have HMB3 := Lib.hid (hF3.heap (by simp) HMB.out)
          have HB3 := Lib.hid (HB2.out.still hF3)
          clear hF3 hgd k0 k1 k2 k3 k4 k5
          have k5 := cell_of_heap (o := 5) HMB3.out rfl
          have HBB : Hid (Fr [] w1 w3) := Lib.hid (HFm.out.trans (HF2.out.trans HF3.out))
          have HA0 : Hid (∀ j : Nat, (List.replicate 32 false)[j]? = some true → ∀ y, M.lits[j]? = some y → outers.length < 2 ∧ SubOk rd fields n y (M.temps :: outers)) := Lib.hid (fun j hj => by rw [List.getElem?_replicate] at hj; split at hj <;> cases hj)
          have hn128 : nn ≤ 128 := by rw [HNN.out]; have := M.head_iff.1 (M.ok_iff.1 HGD.out.ok).1; omega
          have HL32 : Hid (M.lits.length ≤ 32) := Lib.hid (by have := M.head_iff.1 (M.ok_iff.1 HGD.out.ok).1; omega)
          have hnn := ne_nil
          go_wp2_with fail
          go_loopw [51] (fun i wr => ∃ (k : Nat) (acc : List Bool), k ≤ nn ∧ i = .int .i64 k ∧ Hid (BodyAt (w1.heap.size + 1) M la ll lc ca nn cc (.pointer hp) fields oa ol oc acc wr) ∧ Hid (∀ j : Nat, acc[j]? = some true → ∀ y, M.lits[j]? = some y → outers.length < 2 ∧ SubOk rd fields n y (M.temps :: outers)) ∧ Hid (Fr [w1.heap.size + 1] w3 wr) ∧ Hid (∀ j, j < k → ∀ i', M.code[j]? = some i' → M.mayOk (SubOk rd fields n) fields outers i')) (fun i _ => nn - (intOf i).toNat)
          case atStart => exact ⟨0, _, Nat.zero_le _, rfl, HB3, HA0, Lib.hid (Fr.refl _ _), Lib.hid fun j hj => absurd hj (Nat.not_lt_zero _)⟩
          case round =>
            obtain ⟨k, acc, hk, rfl, hBk, hAk, hFk, hall⟩ := hrel
            have HFW1 : Hid (Fr [] w1 wr) := Lib.hid (HBB.out.join' hFk.out (fun z hz => by simp only [List.mem_singleton] at hz; omega))
            by_cases hlt : k < nn
            · have hkl : k < M.code.length := by rw [← HNN.out]; exact hlt
              obtain ⟨i, hi⟩ : ∃ i, M.code[k]? = some i := ⟨_, List.getElem?_eq_getElem hkl⟩
              have hmem := List.mem_of_getElem? hi
              have hio := (M.ok_iff.1 HGD.out.ok).2 i hmem
              obtain ⟨f1, f2, f3⟩ := flatI_at hi
              obtain ⟨gg, off, rfl, c1⟩ := HMA.out.code _ _ f1
              obtain ⟨_, _, e2, c2⟩ := HMA.out.code _ _ f2
              cases e2
              obtain ⟨_, _, e3, c3⟩ := HMA.out.code _ _ f3
              cases e3
              have d1 := HFW1.out.cell (by simp) c1
              have d2 := HFW1.out.cell (by simp) c2
              have d3 := HFW1.out.cell (by simp) c3
              rw [← Nat.add_assoc] at d2 d3
              obtain ⟨W4, hW4⟩ : ∃ v, v = wr.alloc (.cells #[.int .i64 i.op, .int .i64 i.a, .int .i64 i.b] 42) := ⟨_, rfl⟩
              have hF4 : Fr [] wr W4 := by rw [hW4]; exact (Fr.refl _ _).alloc _
              have hBk' := hBk.out
              rw [HLL.out, HOL.out] at hBk'
              have HCI := Lib.hid (checkInstr_at6 i hio (HGD.out.op i hmem) HL32.out (SubOk rd fields n) (HFW1.out.trans hF4) (Nat.le_succ _) (hBk'.still hF4) (lits_row HMA.out.lits) (row_fr HO.out HF1.out) HON.out (HE.out.fr (HF0.out.trans HF1.out)) hAk.out (HS.out w1 M (HF0.out.trans HF1.out) HWB.out))
              unfold Ins.v at HCI
              have HW4 := Lib.hid hW4
              have HF4 := Lib.hid hF4
              have HI := Lib.hid hi
              have hb4 : W4.heap[wr.heap.size]? = some (.cells #[.int .i64 i.op, .int .i64 i.a, .int .i64 i.b] 42 (0, 0)) := by rw [hW4]; exact heap_new _ _
              have y0 := cell_of_heap (o := 0) hb4 rfl; have y1 := cell_of_heap (o := 1) hb4 rfl; have y2 := cell_of_heap (o := 2) hb4 rfl
              have z0 : (0 : Int) ≤ (k : Int) := by omega
              have z1 : (k : Int) < (nn : Int) := by omega
              clear hkl hi hmem hio f1 f2 f3 c1 c2 c3 hW4 hF4 hBk' hb4
              go_upto_region 13 with (fail)
              rw [← HW4.out]
              go_wp2_with fail
              refine HCI.out.mono ?_
              rintro e w5 ⟨acc', hB5, hA5, hF5, ⟨hm, rfl⟩ | ⟨hm, u, y, rfl⟩⟩
              · rw [← HLL.out, ← HOL.out] at hB5
                have HB5 := Lib.hid hB5
                have HA5 := Lib.hid hA5
                have HF5 : Hid (Fr [w1.heap.size + 1] w3 w5) := Lib.hid ((hFk.out.trans HF4.out.weak).trans hF5)
                have HN5 : Hid (∀ j, j < k + 1 → ∀ i', M.code[j]? = some i' → M.mayOk (SubOk rd fields n) fields outers i') := Lib.hid fun j hj i' hi' => by
                  by_cases e : j = k
                  · subst e
                    rw [HI.out] at hi'
                    cases hi'
                    exact hm
                  · exact hall.out j (by omega) i' hi'
                clear hB5 hA5 hF5 hm y0 y1 y2 d1 d2 d3
                go_wp2_with fail
                go_roundw
                case rel => exact ⟨k + 1, acc', by omega, by go_num, HB5, HA5, HF5, HN5⟩
                case measure => simp [intOf]; omega
              · have HTO : Hid (CheckTo rd fields (SubOk rd fields n) x outers k 4) := Lib.hid (.bad HEE.out.symm HPR.out (by rw [← HMM.out]; exact HGD.out) (by rw [← HMM.out]; exact HI.out) (by rw [← HMM.out]; exact hm) (by rw [← HMM.out]; exact hall.out))
                have HF5 : Hid (Fr [] W w5) := Lib.hid (HF1.out.trans (HBB.out.join' ((hFk.out.trans HF4.out.weak).trans hF5) (fun z hz => by simp only [List.mem_singleton] at hz; omega)))
                clear hB5 hA5 hF5 hm y0 y1 y2 d1 d2 d3
                go_wp2_with fail
                go_ret
                exact ⟨HF5.out, k, 4, HTO.out, .inr (.inr ⟨rfl, _, _, rfl⟩)⟩
            · have hkn : k = nn := by omega
              subst hkn
              have hkd : decide ((k : Int) < (k : Int)) = false := by simp
              have HTO : Hid (CheckTo rd fields (SubOk rd fields n) x outers (-1) 0) := Lib.hid (.good HEE.out.symm HPR.out (by rw [← HMM.out]; exact HGD.out) (fun i hi => by
                rw [← HMM.out] at hi ⊢
                obtain ⟨j, hj⟩ := List.getElem?_of_mem hi
                exact hall.out j (by rw [HNN.out]; exact (List.getElem?_eq_some_iff.1 hj).1) i hj))
              have HFE : Hid (Fr [] W wr) := Lib.hid (HF1.out.trans HFW1.out)
              clear hall
              go_wp2_with fail
              go_ret
              exact ⟨HFE.out, -1, 0, HTO.out, .inl ⟨rfl, rfl, rfl⟩⟩
      · have hbd : decide (0 < ol) = true := by simpa using hb0
        rw [hbd] at HIB
        have hne : (M.prim != 0) = false := by simp [hp0]
        clear hp0
        go_wp2_with (go_at_call 40; rw [HW2.out]; refine HIB.out.mono ?_; rintro e w3 ⟨rfl, rfl⟩)
        refine HDE.out.mono ?_
        rintro e w3 ⟨hF3, ⟨hok, a, rfl⟩ | ⟨kk, hto, a, rfl⟩ | ⟨hgd, g, cap, rfl, -, -⟩⟩
        · have HTO : Hid (CheckTo rd fields (SubOk rd fields n) x outers (-1) 4) := Lib.hid (.depth HEE.out.symm HPR.out (by rw [← HMM.out]; exact .no hok))
          have HF3 := Lib.hid (HF12.out.trans hF3)
          have hnn := ne_nil
          clear hF3 k0 k1 k2 k3 k4 k5
          go_wp2_with fail
          go_ret
          exact ⟨HF3.out, -1, 4, HTO.out, .inr (.inl ⟨rfl, rfl, a, rfl⟩)⟩
        · have HTO : Hid (CheckTo rd fields (SubOk rd fields n) x outers kk 4) := Lib.hid (.depth HEE.out.symm HPR.out (by rw [← HMM.out]; exact hto))
          have HF3 := Lib.hid (HF12.out.trans hF3)
          have hnn := ne_nil
          clear hF3 k0 k1 k2 k3 k4 k5
          go_wp2_with fail
          go_ret
          exact ⟨HF3.out, kk, 4, HTO.out, .inr (.inr ⟨rfl, _, _, rfl⟩)⟩
        · have HGD := Lib.hid hgd
          have HF3 := Lib.hid hF3
          have HMB3 := Lib.hid (hF3.heap (by simp) HMB.out)
          have HB3 := Lib.hid (HB2.out.still hF3)
          clear hF3 hgd k0 k1 k2 k3 k4 k5
          have k5 := cell_of_heap (o := 5) HMB3.out rfl
          have HBB : Hid (Fr [] w1 w3) := Lib.hid (HFm.out.trans (HF2.out.trans HF3.out))
          have HA0 : Hid (∀ j : Nat, (List.replicate 32 false)[j]? = some true → ∀ y, M.lits[j]? = some y → outers.length < 2 ∧ SubOk rd fields n y (M.temps :: outers)) := Lib.hid (fun j hj => by rw [List.getElem?_replicate] at hj; split at hj <;> cases hj)
          have hn128 : nn ≤ 128 := by rw [HNN.out]; have := M.head_iff.1 (M.ok_iff.1 HGD.out.ok).1; omega
          have HL32 : Hid (M.lits.length ≤ 32) := Lib.hid (by have := M.head_iff.1 (M.ok_iff.1 HGD.out.ok).1; omega)
          have hnn := ne_nil
          go_wp2_with fail
          go_loopw [51] (fun i wr => ∃ (k : Nat) (acc : List Bool), k ≤ nn ∧ i = .int .i64 k ∧ Hid (BodyAt (w1.heap.size + 1) M la ll lc ca nn cc (.pointer hp) fields oa ol oc acc wr) ∧ Hid (∀ j : Nat, acc[j]? = some true → ∀ y, M.lits[j]? = some y → outers.length < 2 ∧ SubOk rd fields n y (M.temps :: outers)) ∧ Hid (Fr [w1.heap.size + 1] w3 wr) ∧ Hid (∀ j, j < k → ∀ i', M.code[j]? = some i' → M.mayOk (SubOk rd fields n) fields outers i')) (fun i _ => nn - (intOf i).toNat)
          case atStart => exact ⟨0, _, Nat.zero_le _, rfl, HB3, HA0, Lib.hid (Fr.refl _ _), Lib.hid fun j hj => absurd hj (Nat.not_lt_zero _)⟩
          case round =>
            obtain ⟨k, acc, hk, rfl, hBk, hAk, hFk, hall⟩ := hrel
            have HFW1 : Hid (Fr [] w1 wr) := Lib.hid (HBB.out.join' hFk.out (fun z hz => by simp only [List.mem_singleton] at hz; omega))
            by_cases hlt : k < nn
            · have hkl : k < M.code.length := by rw [← HNN.out]; exact hlt
              obtain ⟨i, hi⟩ : ∃ i, M.code[k]? = some i := ⟨_, List.getElem?_eq_getElem hkl⟩
              have hmem := List.mem_of_getElem? hi
              have hio := (M.ok_iff.1 HGD.out.ok).2 i hmem
              obtain ⟨f1, f2, f3⟩ := flatI_at hi
              obtain ⟨gg, off, rfl, c1⟩ := HMA.out.code _ _ f1
              obtain ⟨_, _, e2, c2⟩ := HMA.out.code _ _ f2
              cases e2
              obtain ⟨_, _, e3, c3⟩ := HMA.out.code _ _ f3
              cases e3
              have d1 := HFW1.out.cell (by simp) c1
              have d2 := HFW1.out.cell (by simp) c2
              have d3 := HFW1.out.cell (by simp) c3
              rw [← Nat.add_assoc] at d2 d3
              obtain ⟨W4, hW4⟩ : ∃ v, v = wr.alloc (.cells #[.int .i64 i.op, .int .i64 i.a, .int .i64 i.b] 42) := ⟨_, rfl⟩
              have hF4 : Fr [] wr W4 := by rw [hW4]; exact (Fr.refl _ _).alloc _
              have hBk' := hBk.out
              rw [HLL.out, HOL.out] at hBk'
              have HCI := Lib.hid (checkInstr_at6 i hio (HGD.out.op i hmem) HL32.out (SubOk rd fields n) (HFW1.out.trans hF4) (Nat.le_succ _) (hBk'.still hF4) (lits_row HMA.out.lits) (row_fr HO.out HF1.out) HON.out (HE.out.fr (HF0.out.trans HF1.out)) hAk.out (HS.out w1 M (HF0.out.trans HF1.out) HWB.out))
              unfold Ins.v at HCI
              have HW4 := Lib.hid hW4
              have HF4 := Lib.hid hF4
              have HI := Lib.hid hi
              have hb4 : W4.heap[wr.heap.size]? = some (.cells #[.int .i64 i.op, .int .i64 i.a, .int .i64 i.b] 42 (0, 0)) := by rw [hW4]; exact heap_new _ _
              have y0 := cell_of_heap (o := 0) hb4 rfl; have y1 := cell_of_heap (o := 1) hb4 rfl; have y2 := cell_of_heap (o := 2) hb4 rfl
              have z0 : (0 : Int) ≤ (k : Int) := by omega
              have z1 : (k : Int) < (nn : Int) := by omega
              clear hkl hi hmem hio f1 f2 f3 c1 c2 c3 hW4 hF4 hBk' hb4
              go_upto_region 13 with (fail)
              rw [← HW4.out]
              go_wp2_with fail
              refine HCI.out.mono ?_
              rintro e w5 ⟨acc', hB5, hA5, hF5, ⟨hm, rfl⟩ | ⟨hm, u, y, rfl⟩⟩
              · rw [← HLL.out, ← HOL.out] at hB5
                have HB5 := Lib.hid hB5
                have HA5 := Lib.hid hA5
                have HF5 : Hid (Fr [w1.heap.size + 1] w3 w5) := Lib.hid ((hFk.out.trans HF4.out.weak).trans hF5)
                have HN5 : Hid (∀ j, j < k + 1 → ∀ i', M.code[j]? = some i' → M.mayOk (SubOk rd fields n) fields outers i') := Lib.hid fun j hj i' hi' => by
                  by_cases e : j = k
                  · subst e
                    rw [HI.out] at hi'
                    cases hi'
                    exact hm
                  · exact hall.out j (by omega) i' hi'
                clear hB5 hA5 hF5 hm y0 y1 y2 d1 d2 d3
                go_wp2_with fail
                go_roundw
                case rel => exact ⟨k + 1, acc', by omega, by go_num, HB5, HA5, HF5, HN5⟩
                case measure => simp [intOf]; omega
              · have HTO : Hid (CheckTo rd fields (SubOk rd fields n) x outers k 4) := Lib.hid (.bad HEE.out.symm HPR.out (by rw [← HMM.out]; exact HGD.out) (by rw [← HMM.out]; exact HI.out) (by rw [← HMM.out]; exact hm) (by rw [← HMM.out]; exact hall.out))
                have HF5 : Hid (Fr [] W w5) := Lib.hid (HF1.out.trans (HBB.out.join' ((hFk.out.trans HF4.out.weak).trans hF5) (fun z hz => by simp only [List.mem_singleton] at hz; omega)))
                clear hB5 hA5 hF5 hm y0 y1 y2 d1 d2 d3
                go_wp2_with fail
                go_ret
                exact ⟨HF5.out, k, 4, HTO.out, .inr (.inr ⟨rfl, _, _, rfl⟩)⟩
            · have hkn : k = nn := by omega
              subst hkn
              have hkd : decide ((k : Int) < (k : Int)) = false := by simp
              have HTO : Hid (CheckTo rd fields (SubOk rd fields n) x outers (-1) 0) := Lib.hid (.good HEE.out.symm HPR.out (by rw [← HMM.out]; exact HGD.out) (fun i hi => by
                rw [← HMM.out] at hi ⊢
                obtain ⟨j, hj⟩ := List.getElem?_of_mem hi
                exact hall.out j (by rw [HNN.out]; exact (List.getElem?_eq_some_iff.1 hj).1) i hj))
              have HFE : Hid (Fr [] W wr) := Lib.hid (HF1.out.trans HFW1.out)
              clear hall
              go_wp2_with fail
              go_ret
              exact ⟨HFE.out, -1, 0, HTO.out, .inl ⟨rfl, rfl, rfl⟩⟩
  · subst h4
    rw [HWm.out] at hem'
    go_wp2_with fail
    go_ret
    exact ⟨HF1.out.alloc _, -1, 4, .none (by rw [← HEE.out]; omega), .inr (.inl ⟨rfl, rfl, em, rfl⟩)⟩
end Go.Proofs.YtjghgambieflaaaGreatDoor
namespace Go.Proofs.YtjghgambieflaaaGreatDoor
open Go.RowKit

theorem checks_at {w0 : World} {hp : Option Addr} {rd : Int → Mth × Int} {fields : Int} (hE : CErrs w0) (hV : VErrs w0) (hFd : Field w0) (hDb : DbAt w0) (hrd : RdOk w0 39 (.pointer hp) rd) : ∀ (n : Nat) (outers : List Int), 2 - outers.length = n → ∀ (W : World) (x : Int) (oa : Option Addr) (oc : Nat), Fr [] w0 W → WB x → RowAt W oa (outers.map (Value.int .i64)) → (oa = none → oc = 0 ∧ outers = []) →
    Calls Tryz.prog 19 #[.pointer hp, .int .u64 x, .int .i64 fields, .slice oa outers.length oc] W (ChkTo rd fields n x outers W)
  | 0, outers, hn, W, x, oa, oc, hF, hx, ho, hon => check_at5 hE hV hFd hDb hrd 0 outers hn (fun W1 m _ _ h => by omega) W x oa oc hF hx ho hon
  | n + 1, outers, hn, W, x, oa, oc, hF, hx, ho, hon => check_at5 hE hV hFd hDb hrd (n + 1) outers hn (fun W1 m hF1 hwb _ W2 y ia ic hF2 hy hrow =>
      (checks_at hE hV hFd hDb hrd n (m.temps :: outers) (by simp only [List.length_cons]; omega) W2 y ia ic (hF1.trans hF2) (hwb y hy) hrow (fun h => by
        obtain ⟨_, _, e, _⟩ := hrow 0 _ rfl
        rw [h] at e
        cases e)).mono fun _ _ h => h.post) W x oa oc hF hx ho hon
set_option maxHeartbeats 1600000 in
theorem verdict_viol2 (k : Int) (u : TypeId) (y : Value) (w : World) (hg : EType w) : Calls Tryz.prog 18 #[.iface 88 (.agg #[.int .i64 k, .iface u y])] w (Still (.tuple #[.int .i64 k, .int .i64 4]) w) := by
  have hnl := eq_nil
  have has := as_viol w.heap.size (.int .i64 k) (.iface u y) (.int .i64 0) .nilIface (w.alloc (.cells #[.int .i64 0, .nilIface] 88)) rfl rfl (hg.fr ((Fr.refl _ _).alloc _)) (heap_new _ _)
  clear hg
  go_enter Tryz.func18, Tryz.ntmps18
  go_wp2_with fail
  refine has.mono ?_
  rintro e w2 ⟨rfl, hF2, hb⟩
  have k0 := cell_of_heap (o := 0) hb rfl
  have HF2 := Lib.hid (((Fr.refl [] w).alloc (.cells #[.int .i64 0, .nilIface] 88)).joinN hF2 (fun j hj => by simp at hj; omega))
  clear hF2 hb has
  go_wp2_with fail
  go_ret2
  exact ⟨rfl, HF2.out⟩
def CheckPost (rd : Int → Mth × Int) (fields x : Int) (outers : List Int) (W : World) (e : Ending) (W' : World) : Prop := Fr [] W W' ∧ ∃ p en, CheckTo rd fields (SubOk rd fields (2 - outers.length)) x outers p en ∧ e = .returned (.tuple #[.int .i64 p, .int .i64 en])
set_option maxRecDepth 100000 in
set_option maxHeartbeats 1600000 in
theorem Check_at {w0 : World} {hp : Option Addr} {rd : Int → Mth × Int} {fields : Int} (hE : CErrs w0) (hV : VErrs w0) (hFd : Field w0) (hDb : DbAt w0) (hT : EType w0) (hrd : RdOk w0 39 (.pointer hp) rd) (outers : List Int) (W : World) (x : Int) (oa : Option Addr) (oc : Nat) (hF : Fr [] w0 W) (hx : WB x) (ho : RowAt W oa (outers.map (Value.int .i64))) (hon : oa = none → oc = 0 ∧ outers = []) :
    Calls Tryz.prog 7 #[.pointer hp, .int .u64 x, .int .i64 fields, .slice oa outers.length oc] W (CheckPost rd fields x outers W) := by
  have HC := Lib.hid (checks_at (fields := fields) hE hV hFd hDb hrd _ outers rfl W x oa oc hF hx ho hon)
  have HT := Lib.hid (hT.fr hF)
  obtain ⟨ol, hol⟩ : ∃ v, v = outers.length := ⟨_, rfl⟩
  rw [← hol] at HC ⊢
  have HOL := Lib.hid hol
  clear hE hV hFd hDb hT hrd hF hx ho hon hol
  go_enter Tryz.func7, Tryz.ntmps7
  go_wp2_with fail
  refine HC.out.mono ?_
  rintro e w1 ⟨hF1, p, en, hto, ⟨rfl, rfl, rfl⟩ | ⟨rfl, rfl, a, rfl⟩ | ⟨rfl, u, y, rfl⟩⟩
  · have hv := verdict_nil w1
    have HF1 := Lib.hid hF1
    have HTO := Lib.hid hto
    clear hF1 hto
    go_wp2_with fail
    refine hv.mono ?_
    rintro e w2 ⟨rfl, rfl⟩
    go_wp2_with fail
    go_ret2
    exact ⟨HF1.out, -1, 0, by rw [← HOL.out]; exact HTO.out, rfl⟩
  · have hv := verdict_plain (.pointer (some a)) w1 (HT.out.fr hF1)
    have HF1 := Lib.hid hF1
    have HTO := Lib.hid hto
    clear hF1 hto
    go_wp2_with fail
    refine hv.mono ?_
    rintro e w2 ⟨rfl, hF2⟩
    have HF2 := Lib.hid (HF1.out.trans hF2)
    clear hF2
    go_wp2_with fail
    go_ret2
    exact ⟨HF2.out, -1, 4, by rw [← HOL.out]; exact HTO.out, rfl⟩
  · have hv := verdict_viol2 p u y w1 (HT.out.fr hF1)
    have HF1 := Lib.hid hF1
    have HTO := Lib.hid hto
    clear hF1 hto
    go_wp2_with fail
    refine hv.mono ?_
    rintro e w2 ⟨rfl, hF2⟩
    have HF2 := Lib.hid (HF1.out.trans hF2)
    clear hF2
    go_wp2_with fail
    go_ret2
    exact ⟨HF2.out, p, 4, by rw [← HOL.out]; exact HTO.out, rfl⟩
end Go.Proofs.YtjghgambieflaaaGreatDoor
