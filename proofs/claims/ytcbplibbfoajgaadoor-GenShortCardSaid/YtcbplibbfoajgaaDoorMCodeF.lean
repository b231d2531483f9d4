/- The document's Check, fields, Write. -/
import Derived.Test.YtcbplibbfoajgaaDoorMCodeB
import Derived.Test.YtcbplibbfoajgaaDoorMCodeD
namespace Go.Proofs.YtcbplibbfoajgaaDoor
open Go.RowKit

theorem head_case (m : Mth) : m.head = (decide (0 ≤ m.args ∧ m.args ≤ 4) && decide (m.args ≤ m.temps ∧ m.temps ≤ 16) && decide (0 ≤ m.stack ∧ m.stack ≤ 16) && decide (0 ≤ m.prim ∧ m.prim ≤ 255) && !decide ((32 : Int) < m.lits.length) && decide (1 ≤ (m.code.length : Int) ∧ (m.code.length : Int) ≤ 128)) := by
  rw [Bool.eq_iff_iff]
  simp [Mth.head]
  omega
set_option maxRecDepth 100000 in
set_option maxHeartbeats 1600000 in
theorem rcheck_at (m : Mth) (la ca : Option Addr) (lc cc : Nat) (w : World) (hr : RowAt w ca (flatI m.code)) (hcl : m.code.length ≤ 17592186044416) : Calls Tryd.prog 14 #[m.v la lc ca cc] w (Still (.int .i64 (if m.ok = true then 0 else 4)) w) := by
  have hw := fun x lo hi W => rwithin x lo hi W
  have HC := Lib.hid (head_case m)
  have HR := Lib.hid hr
  have HPK := Lib.hid (fun (i : Ins) W => rpack_at i W)
  have HM : Hid (∀ c, m.head = c → m.ok = (c && m.code.all Ins.ok)) := Lib.hid fun c h => by unfold Mth.ok; rw [h]
  obtain ⟨b1, hb1⟩ : ∃ b, b = decide (0 ≤ m.args ∧ m.args ≤ 4) := ⟨_, rfl⟩
  obtain ⟨b2, hb2⟩ : ∃ b, b = decide (m.args ≤ m.temps ∧ m.temps ≤ 16) := ⟨_, rfl⟩
  obtain ⟨b3, hb3⟩ : ∃ b, b = decide (0 ≤ m.stack ∧ m.stack ≤ 16) := ⟨_, rfl⟩
  obtain ⟨b4, hb4⟩ : ∃ b, b = decide (0 ≤ m.prim ∧ m.prim ≤ 255) := ⟨_, rfl⟩
  obtain ⟨b6, hb6⟩ : ∃ b, b = decide (1 ≤ (m.code.length : Int) ∧ (m.code.length : Int) ≤ 128) := ⟨_, rfl⟩
  have hw1 := fun W => hw m.args 0 4 W
  have hw2 := fun W => hw m.temps m.args 16 W
  have hw3 := fun W => hw m.stack 0 16 W
  have hw4 := fun W => hw m.prim 0 255 W
  have hw6 := fun W => hw (m.code.length : Int) 1 128 W
  rw [← hb1] at hw1 HC
  rw [← hb2] at hw2 HC
  rw [← hb3] at hw3 HC
  rw [← hb4] at hw4 HC
  rw [← hb6] at hw6 HC
  have HB6 := Lib.hid hb6
  obtain ⟨ok, hok⟩ : ∃ ok, ok = m.ok := ⟨_, rfl⟩
  rw [← hok] at HM ⊢
  obtain ⟨hd, hhd⟩ : ∃ hd, hd = m.head := ⟨_, rfl⟩
  rw [← hhd] at HM HC
  unfold Mth.v
  obtain ⟨ll, hll'⟩ : ∃ n, n = m.lits.length := ⟨_, rfl⟩
  obtain ⟨n, hn'⟩ : ∃ n, n = m.code.length := ⟨_, rfl⟩
  rw [← hll'] at HC ⊢
  rw [← hn'] at hcl HB6 hw6 ⊢
  have HNN := Lib.hid hn'
  obtain ⟨code, hcode⟩ : ∃ c, c = m.code := ⟨_, rfl⟩
  rw [← hcode] at HR HM HNN
  generalize m.args = a1 at *
  generalize m.temps = a2 at *
  generalize m.stack = a3 at *
  generalize m.prim = a4 at *
  clear hb1 hb2 hb3 hb4 hb6 hok hhd hll' hn' hcode hr hw
  cases hhead : hd
  · have HOK : Hid (ok = false) := Lib.hid (by rw [HM.out hd rfl, hhead]; rfl)
    rw [HOK.out]
    simp only [Bool.false_eq_true, if_false]
    have hc := HC.out
    rw [hhead] at hc
    clear HC HM HR HPK hhead HOK
    go_enter Tryd.func14, Tryd.ntmps14
    cases b1
    · clear hc
      go_wp2_with (go_at_call 24; first | ((with_reducible refine (hw1 _).mono ?_); rintro e w' ⟨rfl, rfl⟩) | ((with_reducible refine (hw2 _).mono ?_); rintro e w' ⟨rfl, rfl⟩) | ((with_reducible refine (hw3 _).mono ?_); rintro e w' ⟨rfl, rfl⟩) | ((with_reducible refine (hw4 _).mono ?_); rintro e w' ⟨rfl, rfl⟩) | ((with_reducible refine (hw6 _).mono ?_); rintro e w' ⟨rfl, rfl⟩))
      go_ret
      exact ⟨rfl, (Fr.refl _ _).alloc _⟩
    · skip
      cases b2
      · clear hc
        go_wp2_with (go_at_call 24; first | ((with_reducible refine (hw1 _).mono ?_); rintro e w' ⟨rfl, rfl⟩) | ((with_reducible refine (hw2 _).mono ?_); rintro e w' ⟨rfl, rfl⟩) | ((with_reducible refine (hw3 _).mono ?_); rintro e w' ⟨rfl, rfl⟩) | ((with_reducible refine (hw4 _).mono ?_); rintro e w' ⟨rfl, rfl⟩) | ((with_reducible refine (hw6 _).mono ?_); rintro e w' ⟨rfl, rfl⟩))
        go_ret
        exact ⟨rfl, (Fr.refl _ _).alloc _⟩
      · skip
        cases b3
        · clear hc
          go_wp2_with (go_at_call 24; first | ((with_reducible refine (hw1 _).mono ?_); rintro e w' ⟨rfl, rfl⟩) | ((with_reducible refine (hw2 _).mono ?_); rintro e w' ⟨rfl, rfl⟩) | ((with_reducible refine (hw3 _).mono ?_); rintro e w' ⟨rfl, rfl⟩) | ((with_reducible refine (hw4 _).mono ?_); rintro e w' ⟨rfl, rfl⟩) | ((with_reducible refine (hw6 _).mono ?_); rintro e w' ⟨rfl, rfl⟩))
          go_ret
          exact ⟨rfl, (Fr.refl _ _).alloc _⟩
        · skip
          cases b4
          · clear hc
            go_wp2_with (go_at_call 24; first | ((with_reducible refine (hw1 _).mono ?_); rintro e w' ⟨rfl, rfl⟩) | ((with_reducible refine (hw2 _).mono ?_); rintro e w' ⟨rfl, rfl⟩) | ((with_reducible refine (hw3 _).mono ?_); rintro e w' ⟨rfl, rfl⟩) | ((with_reducible refine (hw4 _).mono ?_); rintro e w' ⟨rfl, rfl⟩) | ((with_reducible refine (hw6 _).mono ?_); rintro e w' ⟨rfl, rfl⟩))
            go_ret
            exact ⟨rfl, (Fr.refl _ _).alloc _⟩
          · skip
            by_cases h5 : (32 : Int) < (ll : Int)
            · clear hc
              go_wp2_with (go_at_call 24; first | ((with_reducible refine (hw1 _).mono ?_); rintro e w' ⟨rfl, rfl⟩) | ((with_reducible refine (hw2 _).mono ?_); rintro e w' ⟨rfl, rfl⟩) | ((with_reducible refine (hw3 _).mono ?_); rintro e w' ⟨rfl, rfl⟩) | ((with_reducible refine (hw4 _).mono ?_); rintro e w' ⟨rfl, rfl⟩) | ((with_reducible refine (hw6 _).mono ?_); rintro e w' ⟨rfl, rfl⟩))
              go_ret
              exact ⟨rfl, (Fr.refl _ _).alloc _⟩
            · have e5 : decide ((32 : Int) < (ll : Int)) = false := by simpa using h5
              rw [e5] at hc
              have hb6 : b6 = false := by simpa using hc.symm
              subst hb6
              clear hc e5
              go_wp2_with (go_at_call 24; first | ((with_reducible refine (hw1 _).mono ?_); rintro e w' ⟨rfl, rfl⟩) | ((with_reducible refine (hw2 _).mono ?_); rintro e w' ⟨rfl, rfl⟩) | ((with_reducible refine (hw3 _).mono ?_); rintro e w' ⟨rfl, rfl⟩) | ((with_reducible refine (hw4 _).mono ?_); rintro e w' ⟨rfl, rfl⟩) | ((with_reducible refine (hw6 _).mono ?_); rintro e w' ⟨rfl, rfl⟩))
              go_ret
              exact ⟨rfl, (Fr.refl _ _).alloc _⟩
  · have hc := HC.out
    rw [hhead] at hc
    simp only [Bool.true_eq, Bool.and_eq_true, Bool.not_eq_true', decide_eq_false_iff_not] at hc
    obtain ⟨⟨⟨⟨⟨h1, h2⟩, h3⟩, h4⟩, h5⟩, h6⟩ := hc
    subst h1
    subst h2
    subst h3
    subst h4
    subst h6
    have HOKE : Hid (ok = code.all Ins.ok) := Lib.hid (by rw [HM.out hd rfl, hhead]; rfl)
    have h6 := HB6.out
    simp only [Bool.true_eq, decide_eq_true_eq] at h6
    have e5 : decide ((32 : Int) < (ll : Int)) = false := by simpa using h5
    obtain ⟨R, hR⟩ : ∃ R : Int, R = (if ok = true then 0 else 4) := ⟨_, rfl⟩
    rw [← hR]
    have HRR := Lib.hid hR
    clear HC HM hhead HB6 hR
    go_enter Tryd.func14, Tryd.ntmps14
    go_wp2_with (go_at_call 24; first | ((with_reducible refine (hw1 _).mono ?_); rintro e w' ⟨rfl, rfl⟩) | ((with_reducible refine (hw2 _).mono ?_); rintro e w' ⟨rfl, rfl⟩) | ((with_reducible refine (hw3 _).mono ?_); rintro e w' ⟨rfl, rfl⟩) | ((with_reducible refine (hw4 _).mono ?_); rintro e w' ⟨rfl, rfl⟩) | ((with_reducible refine (hw6 _).mono ?_); rintro e w' ⟨rfl, rfl⟩))
    obtain ⟨W1, hW1⟩ : ∃ W1, W1 = w.alloc (.cells #[.int .i64 a1, .int .i64 a2, .int .i64 a3, .int .i64 a4, .slice la ll lc, .slice ca n cc] 25) := ⟨_, rfl⟩
    have HF0 : Hid (Fr [] w W1) := by rw [hW1]; exact (Fr.refl _ _).alloc _
    have HBX0 : Hid (W1.heap[w.heap.size]? = some (.cells #[.int .i64 a1, .int .i64 a2, .int .i64 a3, .int .i64 a4, .slice la ll lc, .slice ca n cc] 25 (0, 0))) := by rw [hW1]; exact heap_new _ _
    rw [← hW1]
    clear hW1
    go_loopw [3] (fun i wr => ∃ k : Nat, k ≤ n ∧ i = .int .i64 k ∧ Hid (Fr [] W1 wr) ∧ Hid (∀ b ∈ code.take k, Ins.ok b = true)) (fun i _ => n - (intOf i).toNat)
    case atStart => exact ⟨0, Nat.zero_le _, rfl, Fr.refl _ _, fun b hb => by simp at hb⟩
    case round =>
      obtain ⟨k, hk, rfl, hF, hno⟩ := hrel
      have HBX := Lib.hid (hF.out.heap (by simp) HBX0.out)
      have r5 := cell_of_heap (o := 5) HBX.out rfl
      have HFW : Hid (Fr [] w wr) := HF0.out.trans hF.out
      by_cases hlt : k < n
      · have hkl : k < code.length := by rw [← HNN.out]; exact hlt
        obtain ⟨b, hb⟩ : ∃ b, code[k]? = some b := ⟨_, List.getElem?_eq_getElem hkl⟩
        obtain ⟨f1, f2, f3⟩ := flatI_at hb
        obtain ⟨g, off, rfl, c1⟩ := HR.out _ _ f1
        obtain ⟨_, _, e2, c2⟩ := HR.out _ _ f2
        cases e2
        obtain ⟨_, _, e3, c3⟩ := HR.out _ _ f3
        cases e3
        have d1 := HFW.out.cell (by simp) c1
        have d2 := HFW.out.cell (by simp) c2
        have d3 := HFW.out.cell (by simp) c3
        rw [← Nat.add_assoc] at d2 d3
        have HYES : Hid (b.ok = false → ok = false) := Lib.hid fun h => by
          rw [HOKE.out]
          exact List.all_eq_false.2 ⟨b, List.mem_of_getElem? hb, by rw [h]; simp⟩
        have HNO : Hid (b.ok = true → ∀ c ∈ code.take (k + 1), Ins.ok c = true) := Lib.hid fun h c hc => by
          rw [List.take_add_one, hb] at hc
          rcases List.mem_append.1 hc with hc | hc
          · exact hno.out c hc
          · simp at hc
            rw [hc]
            exact h
        have k0 : (0 : Int) ≤ (k : Int) := by omega
        have k1 : (k : Int) < (n : Int) := by omega
        have HP := Lib.hid (HPK.out b)
        cases hbo : b.ok
        · rw [hbo] at HP
          simp only [Bool.false_eq_true, if_false] at HP
          have HV := Lib.hid (HYES.out hbo)
          unfold Ins.v at HP
          clear hkl hb f1 f2 f3 c1 c2 c3 hbo
          go_wp2_with fail
          refine (HP.out _).mono ?_
          rintro e w3 ⟨rfl, hF3⟩
          have HX : Hid (Fr [] w w3) := HFW.out.trans hF3
          clear hF3 d1 d2 d3
          go_wp2_with fail
          go_ret
          exact ⟨ret1 (vi (by rw [HRR.out, HV.out]; rfl)), HX.out⟩
        · rw [hbo] at HP
          simp only [if_true] at HP
          have HV := Lib.hid (HNO.out hbo)
          unfold Ins.v at HP
          clear hkl hb f1 f2 f3 c1 c2 c3 hbo
          go_wp2_with fail
          refine (HP.out _).mono ?_
          rintro e w3 ⟨rfl, hF3⟩
          have HX := Lib.hid (hF.out.trans hF3)
          clear hF3 d1 d2 d3
          go_wp2_with fail
          go_roundw
          case rel => exact ⟨k + 1, by omega, by go_num, HX, HV⟩
          case measure => simp [intOf]; omega
      · have hkn : k = n := by omega
        subst hkn
        have hkd : decide (k < k) = false := by simp
        have HV : Hid (ok = true) := by
          have h := hno.out
          rw [List.take_of_length_le (by rw [← HNN.out]; omega)] at h
          rw [HOKE.out]
          exact Lib.hid (List.all_eq_true.2 h)
        go_wp2_with fail
        go_ret
        exact ⟨ret1 (vi (by rw [HRR.out, HV.out]; rfl)), HFW.out⟩
end Go.Proofs.YtcbplibbfoajgaaDoor
