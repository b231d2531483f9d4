/- The document's Check, fields, Write. The document's fields, Write. alike: has a heap the document's objects? -/
import Derived.Test.YtjghgambieflaaaGreatDoorMCodeB
import Derived.Test.YtjghgambieflaaaGreatDoorMCodeD
import Derived.Test.YtjghgambieflaaaGreatDoorMCodeC
import Derived.Test.YtjghgambieflaaaGreatDoorMCodeE
import Derived.Test.YtjghgambieflaaaGreatDoorMSnaps
namespace Go.Proofs.YtjghgambieflaaaGreatDoor
open Go.RowKit

theorem head_case (m : Mth) : m.head = (decide (0 ≤ m.args ∧ m.args ≤ 4) && decide (m.args ≤ m.temps ∧ m.temps ≤ 16) && decide (0 ≤ m.stack ∧ m.stack ≤ 16) && decide (0 ≤ m.prim ∧ m.prim ≤ 255) && !decide ((32 : Int) < m.lits.length) && decide (1 ≤ (m.code.length : Int) ∧ (m.code.length : Int) ≤ 128)) := by
  rw [Bool.eq_iff_iff]
  simp [Mth.head]
  omega
set_option maxRecDepth 100000 in
set_option maxHeartbeats 1600000 in
theorem rcheck_at (m : Mth) (la ca : Option Addr) (lc cc : Nat) (w : World) (hr : RowAt w ca (flatI m.code)) (hcl : m.code.length ≤ 17592186044416) : Calls Tryz.prog 29 #[m.v la lc ca cc] w (Still (.int .i64 (if m.ok = true then 0 else 4)) w) := by
  have hw := fun x lo hi W => rwithin x lo hi W
  have HC := Lib.hid (head_case m)
  have HR := Lib.hid hr
  have HPK := Lib.hid (fun (i : Ins) W => rpack_at i W)
  have HM : Hid (∀ c, m.head = c → m.ok = (c && m.code.all Ins.ok)) := Lib.hid fun c h => by unfold Mth.ok; rw [h]
  obtain ⟨b1, hb1⟩ : ∃ b, b = decide (0 ≤ m.args ∧ m.args ≤ 4) := ⟨_, rfl⟩
  obtain ⟨b2, hb2⟩ : ∃ b, b = decide (m.args ≤ m.temps ∧ m.temps ≤ 16) := ⟨_, rfl⟩
  obtain ⟨b3, hb3⟩ : ∃ b, b = decide (0 ≤ m.stack ∧ m.stack ≤ 16) := ⟨_, rfl⟩
  obtain ⟨b4, hb4⟩ : ∃ b, b = decide (0 ≤ m.prim ∧ m.prim ≤ 255) := ⟨_, rfl⟩
  obtain ⟨b6, hb6⟩ : ∃ b, b = decide (1 ≤ (m.code.length : Int) ∧ (m.code.length : Int) ≤ 128) := ⟨_, rfl⟩
  have hw1 := fun W => hw m.args 0 4 W
  have hw2 := fun W => hw m.temps m.args 16 W
  have hw3 := fun W => hw m.stack 0 16 W
  have hw4 := fun W => hw m.prim 0 255 W
  have hw6 := fun W => hw (m.code.length : Int) 1 128 W
  rw [← hb1] at hw1 HC
  rw [← hb2] at hw2 HC
  rw [← hb3] at hw3 HC
  rw [← hb4] at hw4 HC
  rw [← hb6] at hw6 HC
  have HB6 := Lib.hid hb6
  obtain ⟨ok, hok⟩ : ∃ ok, ok = m.ok := ⟨_, rfl⟩
  rw [← hok] at HM ⊢
  obtain ⟨hd, hhd⟩ : ∃ hd, hd = m.head := ⟨_, rfl⟩
  rw [← hhd] at HM HC
  unfold Mth.v
  obtain ⟨ll, hll'⟩ : ∃ n, n = m.lits.length := ⟨_, rfl⟩
  obtain ⟨n, hn'⟩ : ∃ n, n = m.code.length := ⟨_, rfl⟩
  rw [← hll'] at HC ⊢
  rw [← hn'] at hcl HB6 hw6 ⊢
  have HNN := Lib.hid hn'
  obtain ⟨code, hcode⟩ : ∃ c, c = m.code := ⟨_, rfl⟩
  rw [← hcode] at HR HM HNN
  generalize m.args = a1 at *
  generalize m.temps = a2 at *
  generalize m.stack = a3 at *
  generalize m.prim = a4 at *
  clear hb1 hb2 hb3 hb4 hb6 hok hhd hll' hn' hcode hr hw
  cases hhead : hd
  · have HOK : Hid (ok = false) := Lib.hid (by rw [HM.out hd rfl, hhead]; rfl)
    rw [HOK.out]
    simp only [Bool.false_eq_true, if_false]
    have hc := HC.out
    rw [hhead] at hc
    clear HC HM HR HPK hhead HOK
    go_enter Tryz.func29, Tryz.ntmps29
    cases b1
    · clear hc
      go_wp2_with (go_at_call 43; first | ((with_reducible refine (hw1 _).mono ?_); rintro e w' ⟨rfl, rfl⟩) | ((with_reducible refine (hw2 _).mono ?_); rintro e w' ⟨rfl, rfl⟩) | ((with_reducible refine (hw3 _).mono ?_); rintro e w' ⟨rfl, rfl⟩) | ((with_reducible refine (hw4 _).mono ?_); rintro e w' ⟨rfl, rfl⟩) | ((with_reducible refine (hw6 _).mono ?_); rintro e w' ⟨rfl, rfl⟩))
      go_ret
      exact ⟨rfl, (Fr.refl _ _).alloc _⟩
    · skip
      cases b2
      · clear hc
        go_wp2_with (go_at_call 43; first | ((with_reducible refine (hw1 _).mono ?_); rintro e w' ⟨rfl, rfl⟩) | ((with_reducible refine (hw2 _).mono ?_); rintro e w' ⟨rfl, rfl⟩) | ((with_reducible refine (hw3 _).mono ?_); rintro e w' ⟨rfl, rfl⟩) | ((with_reducible refine (hw4 _).mono ?_); rintro e w' ⟨rfl, rfl⟩) | ((with_reducible refine (hw6 _).mono ?_); rintro e w' ⟨rfl, rfl⟩))
        go_ret
        exact ⟨rfl, (Fr.refl _ _).alloc _⟩
      · skip
        cases b3
        · clear hc
          go_wp2_with (go_at_call 43; first | ((with_reducible refine (hw1 _).mono ?_); rintro e w' ⟨rfl, rfl⟩) | ((with_reducible refine (hw2 _).mono ?_); rintro e w' ⟨rfl, rfl⟩) | ((with_reducible refine (hw3 _).mono ?_); rintro e w' ⟨rfl, rfl⟩) | ((with_reducible refine (hw4 _).mono ?_); rintro e w' ⟨rfl, rfl⟩) | ((with_reducible refine (hw6 _).mono ?_); rintro e w' ⟨rfl, rfl⟩))
          go_ret
          exact ⟨rfl, (Fr.refl _ _).alloc _⟩
        · skip
          cases b4
          · clear hc
            go_wp2_with (go_at_call 43; first | ((with_reducible refine (hw1 _).mono ?_); rintro e w' ⟨rfl, rfl⟩) | ((with_reducible refine (hw2 _).mono ?_); rintro e w' ⟨rfl, rfl⟩) | ((with_reducible refine (hw3 _).mono ?_); rintro e w' ⟨rfl, rfl⟩) | ((with_reducible refine (hw4 _).mono ?_); rintro e w' ⟨rfl, rfl⟩) | ((with_reducible refine (hw6 _).mono ?_); rintro e w' ⟨rfl, rfl⟩))
            go_ret
            exact ⟨rfl, (Fr.refl _ _).alloc _⟩
          · skip
            by_cases h5 : (32 : Int) < (ll : Int)
            · clear hc
              go_wp2_with (go_at_call 43; first | ((with_reducible refine (hw1 _).mono ?_); rintro e w' ⟨rfl, rfl⟩) | ((with_reducible refine (hw2 _).mono ?_); rintro e w' ⟨rfl, rfl⟩) | ((with_reducible refine (hw3 _).mono ?_); rintro e w' ⟨rfl, rfl⟩) | ((with_reducible refine (hw4 _).mono ?_); rintro e w' ⟨rfl, rfl⟩) | ((with_reducible refine (hw6 _).mono ?_); rintro e w' ⟨rfl, rfl⟩))
              go_ret
              exact ⟨rfl, (Fr.refl _ _).alloc _⟩
            · have e5 : decide ((32 : Int) < (ll : Int)) = false := by simpa using h5
              rw [e5] at hc
              have hb6 : b6 = false := by simpa using hc.symm
              subst hb6
              clear hc e5
              go_wp2_with (go_at_call 43; first | ((with_reducible refine (hw1 _).mono ?_); rintro e w' ⟨rfl, rfl⟩) | ((with_reducible refine (hw2 _).mono ?_); rintro e w' ⟨rfl, rfl⟩) | ((with_reducible refine (hw3 _).mono ?_); rintro e w' ⟨rfl, rfl⟩) | ((with_reducible refine (hw4 _).mono ?_); rintro e w' ⟨rfl, rfl⟩) | ((with_reducible refine (hw6 _).mono ?_); rintro e w' ⟨rfl, rfl⟩))
              go_ret
              exact ⟨rfl, (Fr.refl _ _).alloc _⟩
  · have hc := HC.out
    rw [hhead] at hc
    simp only [Bool.true_eq, Bool.and_eq_true, Bool.not_eq_true', decide_eq_false_iff_not] at hc
    obtain ⟨⟨⟨⟨⟨h1, h2⟩, h3⟩, h4⟩, h5⟩, h6⟩ := hc
    subst h1
    subst h2
    subst h3
    subst h4
    subst h6
    have HOKE : Hid (ok = code.all Ins.ok) := Lib.hid (by rw [HM.out hd rfl, hhead]; rfl)
    have h6 := HB6.out
    simp only [Bool.true_eq, decide_eq_true_eq] at h6
    have e5 : decide ((32 : Int) < (ll : Int)) = false := by simpa using h5
    obtain ⟨R, hR⟩ : ∃ R : Int, R = (if ok = true then 0 else 4) := ⟨_, rfl⟩
    rw [← hR]
    have HRR := Lib.hid hR
    clear HC HM hhead HB6 hR
    go_enter Tryz.func29, Tryz.ntmps29
    go_wp2_with (go_at_call 43; first | ((with_reducible refine (hw1 _).mono ?_); rintro e w' ⟨rfl, rfl⟩) | ((with_reducible refine (hw2 _).mono ?_); rintro e w' ⟨rfl, rfl⟩) | ((with_reducible refine (hw3 _).mono ?_); rintro e w' ⟨rfl, rfl⟩) | ((with_reducible refine (hw4 _).mono ?_); rintro e w' ⟨rfl, rfl⟩) | ((with_reducible refine (hw6 _).mono ?_); rintro e w' ⟨rfl, rfl⟩))
    obtain ⟨W1, hW1⟩ : ∃ W1, W1 = w.alloc (.cells #[.int .i64 a1, .int .i64 a2, .int .i64 a3, .int .i64 a4, .slice la ll lc, .slice ca n cc] 25) := ⟨_, rfl⟩
    have HF0 : Hid (Fr [] w W1) := by rw [hW1]; exact (Fr.refl _ _).alloc _
    have HBX0 : Hid (W1.heap[w.heap.size]? = some (.cells #[.int .i64 a1, .int .i64 a2, .int .i64 a3, .int .i64 a4, .slice la ll lc, .slice ca n cc] 25 (0, 0))) := by rw [hW1]; exact heap_new _ _
    rw [← hW1]
    clear hW1
    go_loopw [3] (fun i wr => ∃ k : Nat, k ≤ n ∧ i = .int .i64 k ∧ Hid (Fr [] W1 wr) ∧ Hid (∀ b ∈ code.take k, Ins.ok b = true)) (fun i _ => n - (intOf i).toNat)
    case atStart => exact ⟨0, Nat.zero_le _, rfl, Fr.refl _ _, fun b hb => by simp at hb⟩
    case round =>
      obtain ⟨k, hk, rfl, hF, hno⟩ := hrel
      have HBX := Lib.hid (hF.out.heap (by simp) HBX0.out)
      have r5 := cell_of_heap (o := 5) HBX.out rfl
      have HFW : Hid (Fr [] w wr) := HF0.out.trans hF.out
      by_cases hlt : k < n
      · have hkl : k < code.length := by rw [← HNN.out]; exact hlt
        obtain ⟨b, hb⟩ : ∃ b, code[k]? = some b := ⟨_, List.getElem?_eq_getElem hkl⟩
        obtain ⟨f1, f2, f3⟩ := flatI_at hb
        obtain ⟨g, off, rfl, c1⟩ := HR.out _ _ f1
        obtain ⟨_, _, e2, c2⟩ := HR.out _ _ f2
        cases e2
        obtain ⟨_, _, e3, c3⟩ := HR.out _ _ f3
        cases e3
        have d1 := HFW.out.cell (by simp) c1
        have d2 := HFW.out.cell (by simp) c2
        have d3 := HFW.out.cell (by simp) c3
        rw [← Nat.add_assoc] at d2 d3
        have HYES : Hid (b.ok = false → ok = false) := Lib.hid fun h => by
          rw [HOKE.out]
          exact List.all_eq_false.2 ⟨b, List.mem_of_getElem? hb, by rw [h]; simp⟩
        have HNO : Hid (b.ok = true → ∀ c ∈ code.take (k + 1), Ins.ok c = true) := Lib.hid fun h c hc => by
          rw [List.take_add_one, hb] at hc
          rcases List.mem_append.1 hc with hc | hc
          · exact hno.out c hc
          · simp at hc
            rw [hc]
            exact h
        have k0 : (0 : Int) ≤ (k : Int) := by omega
        have k1 : (k : Int) < (n : Int) := by omega
        have HP := Lib.hid (HPK.out b)
        cases hbo : b.ok
        · rw [hbo] at HP
          simp only [Bool.false_eq_true, if_false] at HP
          have HV := Lib.hid (HYES.out hbo)
          unfold Ins.v at HP
          clear hkl hb f1 f2 f3 c1 c2 c3 hbo
          go_wp2_with fail
          refine (HP.out _).mono ?_
          rintro e w3 ⟨rfl, hF3⟩
          have HX : Hid (Fr [] w w3) := HFW.out.trans hF3
          clear hF3 d1 d2 d3
          go_wp2_with fail
          go_ret
          exact ⟨ret1 (vi (by rw [HRR.out, HV.out]; rfl)), HX.out⟩
        · rw [hbo] at HP
          simp only [if_true] at HP
          have HV := Lib.hid (HNO.out hbo)
          unfold Ins.v at HP
          clear hkl hb f1 f2 f3 c1 c2 c3 hbo
          go_wp2_with fail
          refine (HP.out _).mono ?_
          rintro e w3 ⟨rfl, hF3⟩
          have HX := Lib.hid (hF.out.trans hF3)
          clear hF3 d1 d2 d3
          go_wp2_with fail
          go_roundw
          case rel => exact ⟨k + 1, by omega, by go_num, HX, HV⟩
          case measure => simp [intOf]; omega
      · have hkn : k = n := by omega
        subst hkn
        have hkd : decide (k < k) = false := by simp
        have HV : Hid (ok = true) := by
          have h := hno.out
          rw [List.take_of_length_le (by rw [← HNN.out]; omega)] at h
          rw [HOKE.out]
          exact Lib.hid (List.all_eq_true.2 h)
        go_wp2_with fail
        go_ret
        exact ⟨ret1 (vi (by rw [HRR.out, HV.out]; rfl)), HFW.out⟩
end Go.Proofs.YtjghgambieflaaaGreatDoor
namespace Go.Proofs.YtjghgambieflaaaGreatDoor
open Go.RowKit

theorem five_at {k : Nat} (h : k < 5) (a b c d e : Int) : ∃ x, [a, b, c, d, e][k]? = some x ∧ x ∈ [a, b, c, d, e] := by
  have hl : k < [a, b, c, d, e].length := by simpa using h
  exact ⟨_, List.getElem?_eq_getElem hl, List.getElem_mem _⟩
set_option maxRecDepth 100000 in
set_option maxHeartbeats 1600000 in
theorem rfields_at (m : Mth) (la ca : Option Addr) (lc cc : Nat) (w : World) (hM : MAt w m la lc ca) (hok : m.ok = true) : Calls Tryz.prog 30 #[m.v la lc ca cc] w (Lists 32 1 m.fs.length (m.fs.map (Value.int .u64)) w) := by
  obtain ⟨i0, hi, hz0, hz1, hz2⟩ := info_parts infoWord
  obtain ⟨hh, hc⟩ := m.ok_iff.1 hok
  have hd := m.head_iff.1 hh
  have HM := Lib.hid hM
  have HC := Lib.hid hc
  clear hM hok hh hc
  obtain ⟨args, temps, stack, prim, lits, code⟩ := m
  unfold Mth.v
  simp only at hd HM HC ⊢
  obtain ⟨ll, hll⟩ : ∃ n, n = lits.length := ⟨_, rfl⟩
  obtain ⟨n, hn⟩ : ∃ n, n = code.length := ⟨_, rfl⟩
  rw [← hll, ← hn] at hd
  rw [← hll, ← hn]
  have HLL := Lib.hid hll
  have HN := Lib.hid hn
  have HFT : Hid (∀ x ∈ [args, temps, stack, prim, (ll : Int)], fit x = true) := Lib.hid fun x hx => by
    simp only [List.mem_cons, List.not_mem_nil, or_false] at hx
    rcases hx with rfl | rfl | rfl | rfl | rfl
    · exact fit_small (by omega) (by omega)
    · exact fit_small (by omega) (by omega)
    · exact fit_small (by omega) (by omega)
    · exact fit_small (by omega) (by omega)
    · exact fit_small (by omega) (by omega)
  clear hll hn
  obtain ⟨W1, hW1⟩ : ∃ W1, W1 = (w.alloc (.cells #[.int .i64 args, .int .i64 temps, .int .i64 stack, .int .i64 prim, .slice la ll lc, .slice ca n cc] 25)).alloc (.cells #[.int .i64 args, .int .i64 temps, .int .i64 stack, .int .i64 prim, .int .i64 (ll : Int)] 3) := ⟨_, rfl⟩
  have HF1 : Hid (Fr [] w W1) := by rw [hW1]; exact ((Fr.refl _ _).alloc _).alloc _
  have HBM : Hid (W1.heap[w.heap.size]? = some (.cells #[.int .i64 args, .int .i64 temps, .int .i64 stack, .int .i64 prim, .slice la ll lc, .slice ca n cc] 25 (0, 0))) := by rw [hW1]; exact ((Fr.refl [] _).alloc _).heap (by simp) (heap_new w _)
  have HB5 : Hid (W1.heap[w.heap.size + 1]? = some (.cells #[.int .i64 args, .int .i64 temps, .int .i64 stack, .int .i64 prim, .int .i64 (ll : Int)] 3 (0, 0))) := by
    rw [hW1]
    have hs : (w.alloc (.cells #[.int .i64 args, .int .i64 temps, .int .i64 stack, .int .i64 prim, .slice la ll lc, .slice ca n cc] 25)).heap.size = w.heap.size + 1 := by simp
    rw [← hs]
    exact heap_new _ _
  have HW1 := Lib.hid hW1
  clear hW1
  go_enter Tryz.func30, Tryz.ntmps30
  go_wp2_with fail
  rw [← HW1.out]
  clear HW1
  go_loopw [3, 5] (fun v i wr => ∃ k : Nat, k ≤ 5 ∧ i = .int .i64 k ∧ Hid (Grows W1 32 1 k ((([args, temps, stack, prim, (ll : Int)].take k).map wordOf).map (Value.int .u64)) v wr)) (fun _ i _ => 5 - (intOf i).toNat)
  case atStart => exact ⟨0, Nat.zero_le _, rfl, World.ownsRow_nil _ _ _ _, Fr.refl _ _, fun _ h => by cases h⟩
  case round =>
    obtain ⟨k, hk, rfl, hG⟩ := hrel
    obtain ⟨vo, vc, rfl⟩ := row_shape hG.out.row
    by_cases hlt : k < 5
    · obtain ⟨x, hx, hxm⟩ := five_at hlt args temps stack prim (ll : Int)
      have hcell : W1.cell? ⟨w.heap.size + 1, k, none⟩ = some (.int .i64 x) := cell_of_heap HB5.out (by
        have : ([args, temps, stack, prim, (ll : Int)].map (Value.int .i64))[k]? = some (.int .i64 x) := by rw [List.getElem?_map, hx]; rfl
        simpa using this)
      have hc' := hG.out.fr.cell (by simp) hcell
      have hfi := fun W => rFromInt x W (HFT.out x hxm)
      have HT : Hid ((([args, temps, stack, prim, (ll : Int)].take (k + 1)).map wordOf).map (Value.int .u64) = (([args, temps, stack, prim, (ll : Int)].take k).map wordOf).map (Value.int .u64) ++ [.int .u64 (wordOf x)]) := by
        rw [List.take_add_one, hx]
        exact Lib.hid (by simp)
      obtain ⟨y, hy⟩ : ∃ y, y = wordOf x := ⟨_, rfl⟩
      rw [← hy] at hfi HT
      have k0 : (0 : Int) ≤ (k : Int) := by omega
      have k1 : (k : Int) < 5 := by omega
      have HR1 : Hid ((wr.alloc (.cells #[.int .u64 y] 32)).ownsRow 0 32 1 (.slice vo k vc) k _) := ((Fr.refl [] _).alloc _).row hG.out.row (fun _ _ => by simp)
      clear hx hxm hcell hy
      go_wp2_with (first
        | (go_at_call 60; refine (hfi _).mono ?_; rintro e w' ⟨rfl, rfl⟩)
        | (at_builtin; refine wpList_append_at _ rfl (.tmp 35) (.tmp 37) 22 rfl 32 i0 (.int .u64 0) 1 8 Tryz.underlying22 hi hz0 hz1 hz2 rfl (by decide) (.slice vo k vc) k _ rfl HR1.out ⟨wr.heap.size, 0, none⟩ 1 1 [.int .u64 y] rfl rfl (cell1 (by simp)) (by simp [Value.oneCell']) (by unfold maxLen; omega) (by omega) ?_; intro v5 w5 ho5 hg5 hf5; obtain ⟨a5, p5, rfl⟩ := row_shape ho5; have HGn := Lib.hid (hG.out.step ((Fr.refl _ _).alloc _) ho5 hg5 hf5); clear ho5 hg5 hf5))
      go_roundw
      case rel => exact ⟨k + 1, by omega, by go_num, by rw [HT.out]; exact HGn.out⟩
      case measure => simp [intOf]; omega
    · have hk5 : k = 5 := by omega
      subst hk5
      have HG5 : Hid (Grows W1 32 1 5 ([wordOf args, wordOf temps, wordOf stack, wordOf prim, wordOf ll].map (Value.int .u64)) (.slice vo 5 vc) wr) := by simpa using hG
      have HBW := Lib.hid (hG.out.fr.heap (by simp) HBM.out)
      have r4 := cell_of_heap (o := 4) HBW.out rfl
      have HFW : Hid (Fr [] w wr) := HF1.out.trans hG.out.fr
      have HL5 : Hid (5 + lits.length ≤ 17592186044416) := Lib.hid (by rw [← HLL.out]; omega)
      clear hG
      go_wp2_with (first
        | (at_builtin; refine wpList_append_words rfl (.tmp 39) (.tmp 41) rfl _ 5 _ rfl HG5.out.row lits (by rw [← HLL.out]; rfl) (HM.out.lits.fr HFW.out (fun _ _ => by simp)) HM.out.none HL5.out ?_; intro v1 w1 ho1 hg1 hf1; obtain ⟨a1, p1, rfl⟩ := row_shape ho1; have HG1 := Lib.hid (HG5.out.step (Fr.refl _ _) ho1 hg1 hf1); clear ho1 hg1 hf1))
      have HG2 : Hid (Grows W1 32 1 (5 + ll) (([wordOf args, wordOf temps, wordOf stack, wordOf prim, wordOf ll] ++ lits).map (Value.int .u64)) (.slice a1 (5 + lits.length) p1) w1) := by
        have h := HG1.out
        rw [← HLL.out] at h ⊢
        exact Lib.hid (by simpa using h)
      clear HG1
      go_loopw [3, 8] (fun v i wr => ∃ k : Nat, k ≤ n ∧ i = .int .i64 k ∧ Hid (Grows W1 32 1 (5 + ll + k) ((([wordOf args, wordOf temps, wordOf stack, wordOf prim, wordOf ll] ++ lits) ++ (code.take k).map (fun i => wordOf i.num)).map (Value.int .u64)) v wr)) (fun _ i _ => n - (intOf i).toNat)
      case atStart => exact ⟨0, Nat.zero_le _, rfl, by simpa using HG2⟩
      case round =>
        obtain ⟨k, hk, rfl, hG⟩ := hrel
        obtain ⟨vo, vc, rfl⟩ := row_shape hG.out.row
        have HBK := Lib.hid (hG.out.fr.heap (by simp) HBM.out)
        have r5 := cell_of_heap (o := 5) HBK.out rfl
        by_cases hlt : k < n
        · have hkl : k < code.length := by rw [← HN.out]; exact hlt
          obtain ⟨b, hb⟩ : ∃ b, code[k]? = some b := ⟨_, List.getElem?_eq_getElem hkl⟩
          obtain ⟨f1, f2, f3⟩ := flatI_at hb
          obtain ⟨g, off, rfl, c1⟩ := HM.out.code _ _ f1
          obtain ⟨_, _, e2, c2⟩ := HM.out.code _ _ f2
          cases e2
          obtain ⟨_, _, e3, c3⟩ := HM.out.code _ _ f3
          cases e3
          have HFK := Lib.hid (HF1.out.trans hG.out.fr)
          have d1 := HFK.out.cell (by simp) c1
          have d2 := HFK.out.cell (by simp) c2
          have d3 := HFK.out.cell (by simp) c3
          rw [← Nat.add_assoc] at d2 d3
          have hpk := fun W => rpack_at b W
          rw [HC.out b (List.mem_of_getElem? hb)] at hpk
          simp only [if_true] at hpk
          have HT : Hid ((([wordOf args, wordOf temps, wordOf stack, wordOf prim, wordOf ll] ++ lits) ++ (code.take (k + 1)).map (fun i => wordOf i.num)).map (Value.int .u64) = ((([wordOf args, wordOf temps, wordOf stack, wordOf prim, wordOf ll] ++ lits) ++ (code.take k).map (fun i => wordOf i.num)).map (Value.int .u64)) ++ [.int .u64 (wordOf b.num)]) := by
            rw [List.take_add_one, hb]
            exact Lib.hid (by simp)
          obtain ⟨y, hy⟩ : ∃ y, y = wordOf b.num := ⟨_, rfl⟩
          rw [← hy] at hpk HT
          have HPK := Lib.hid hpk
          have k0 : (0 : Int) ≤ (k : Int) := by omega
          have k1 : (k : Int) < (n : Int) := by omega
          obtain ⟨op, a, b⟩ := b
          unfold Ins.v at HPK
          simp only at d1 d2 d3 HPK
          clear hkl hb f1 f2 f3 c1 c2 c3 hy hpk
          go_wp2_with fail
          refine (HPK.out _).mono ?_
          rintro e w3 ⟨rfl, hF3⟩
          have HF3 := Lib.hid hF3
          have HR3 : Hid ((w3.alloc (.cells #[.int .u64 y] 32)).ownsRow 0 32 1 (.slice vo (5 + ll + k) vc) (5 + ll + k) _) := (HF3.out.alloc _).row hG.out.row (fun _ _ => by simp)
          clear hF3 d1 d2 d3
          go_wp2_with (at_builtin; refine wpList_append_at _ rfl (.tmp 59) (.tmp 61) 22 rfl 32 i0 (.int .u64 0) 1 8 Tryz.underlying22 hi hz0 hz1 hz2 rfl (by decide) (.slice vo (5 + ll + k) vc) (5 + ll + k) _ rfl HR3.out ⟨w3.heap.size, 0, none⟩ 1 1 [.int .u64 y] rfl rfl (cell1 (by simp)) (by simp [Value.oneCell']) (by unfold maxLen; omega) (by omega) ?_; intro v5 w5 ho5 hg5 hf5; obtain ⟨a5, p5, rfl⟩ := row_shape ho5; have HGn := Lib.hid (hG.out.step (HF3.out.alloc _) ho5 hg5 hf5); clear ho5 hg5 hf5)
          go_roundw
          case rel => exact ⟨k + 1, by omega, by go_num, by rw [HT.out]; exact HGn.out⟩
          case measure => simp [intOf]; omega
        · have hkn : k = n := by omega
          subst hkn
          have hkd : decide (k < k) = false := by simp
          have HT : Hid (code.take k = code) := List.take_of_length_le (by rw [← HN.out]; omega)
          have HX := hG.out
          rw [HT.out] at HX
          have HX2 := Lib.hid HX
          clear HX
          go_wp2_with fail
          go_ret
          refine ⟨_, rfl, ?_, HF1.out.trans HX2.out.fr, fun b hb => Nat.le_trans HF1.out.size (HX2.out.new b hb)⟩
          have h := HX2.out.row
          rw [Mth.fs_len]
          simp only
          rw [← HLL.out, ← HN.out]
          unfold Mth.fs
          simp only
          rw [← HLL.out]
          exact h
/-- between two stores of the document's Write -/
structure RStoring (lim root hashes : Int) (os os1 : List Ob) (fs : List Int) (w3 : World) (rb : Nat) (S : List Nat) (k : Nat) (wr : World) (os' : List Ob) : Prop where
  heap : RT w3 rb S lim os' root hashes wr
  rest : storesI os.length os' k (fs.drop k) = storesI os.length os1 0 fs
  inv : OInv lim os' hashes
  len : os'.length = os.length + 1
  pre : os'.take os.length = os
set_option maxRecDepth 100000 in
set_option maxHeartbeats 3200000 in
theorem rwrite_at (m : Mth) (la ca : Option Addr) (lc cc : Nat) (cls : Int) (hcls : WB cls) (hl : ∀ x ∈ m.lits, WB x) (hcl : m.code.length ≤ 17592186044416) {W : World} {rb : Nat} {lim root hashes : Int} {os : List Ob} {l : List RO} {lv : Value} (hI : OInv lim os hashes) (ha : RAgree 1 l os) (hH : RefAt W rb ⟨lim, l, root, hashes⟩ lv) (hM : MAt W m la lc ca) :
    Calls Tryz.prog 15 #[.pointer (some ⟨rb, 0, none⟩), .int .u64 cls, m.v la lc ca cc] W fun e W' => e = .returned (.tuple #[.int .u64 (writeF lim os cls m).1, .int .i64 (writeF lim os cls m).2.1]) ∧ RT W rb (rfoot rb ⟨lim, l, root, hashes⟩ lv) lim (writeF lim os cls m).2.2 root hashes W' := by
  have HCK := Lib.hid (fun W' (hF : Fr [] W W') => rcheck_at m la ca lc cc W' (row_fr hM.code hF) hcl)
  have HT0 := Lib.hid (RT.start ha hH)
  have HLT := Lib.hid hH.lt
  obtain ⟨S, hS⟩ : ∃ S, S = rfoot rb ⟨lim, l, root, hashes⟩ lv := ⟨_, rfl⟩
  rw [← hS] at HT0 HLT ⊢
  cases hok : m.ok
  · have e : writeF lim os cls m = (0, 4, os) := by unfold writeF; rw [if_pos hok]
    rw [e]
    rw [hok] at HCK
    simp only [Bool.false_eq_true, if_false] at HCK ⊢
    unfold Mth.v at HCK ⊢
    clear hok e hM hI ha hH hl hS
    go_enter Tryz.func15, Tryz.ntmps15
    go_wp2_with fail
    refine (HCK.out _ ((Fr.refl _ _).alloc _)).mono ?_
    rintro e w2 ⟨rfl, hF⟩
    have HF : Hid (Fr [] W w2) := ((Fr.refl [] W).alloc _).trans hF
    clear hF
    go_wp2_with fail
    go_ret2
    exact ⟨rfl, HT0.out.still HF.out⟩
  · rw [hok] at HCK
    simp only [if_true] at HCK
    have HEN := Lib.hid (fun W' (hF : Fr [] W W') => rfields_at m la ca lc cc W' (hM.fr0 hF) hok)
    have HWB := Lib.hid (Mth.fs_WB hl)
    have HI := Lib.hid hI
    have HOK := Lib.hid hok
    have HA := Lib.hid ha
    have HH := Lib.hid hH
    have hNb : m.fs.length ≤ 165 := by
      have := m.head_iff.1 (m.ok_iff.1 hok).1
      rw [m.fs_len]
      omega
    obtain ⟨fs, hfs⟩ : ∃ fs, fs = m.fs := ⟨_, rfl⟩
    obtain ⟨N, hN⟩ : ∃ N, N = fs.length := ⟨_, rfl⟩
    rw [← hfs] at HEN HWB hNb
    rw [← hN] at HEN hNb
    have HFS := Lib.hid hfs
    have HN := Lib.hid hN
    have HSS := Lib.hid hS
    unfold Mth.v at HCK HEN ⊢
    clear hM hI ha hH hl hok hfs hN hS
    go_enter Tryz.func15, Tryz.ntmps15
    go_wp2_with fail
    refine (HCK.out _ ((Fr.refl _ _).alloc _)).mono ?_
    rintro e w2 ⟨rfl, hF2⟩
    have HF2 : Hid (Fr [] W w2) := ((Fr.refl [] W).alloc _).trans hF2
    have HB2 := Lib.hid (hF2.heap (by simp) (heap_new _ _))
    have k0 := cell_of_heap (o := 0) HB2.out rfl; have k1 := cell_of_heap (o := 1) HB2.out rfl; have k2 := cell_of_heap (o := 2) HB2.out rfl; have k3 := cell_of_heap (o := 3) HB2.out rfl; have k4 := cell_of_heap (o := 4) HB2.out rfl; have k5 := cell_of_heap (o := 5) HB2.out rfl
    clear hF2
    go_wp2_with fail
    refine (HEN.out _ HF2.out).mono ?_
    rintro e w3 ⟨v, rfl, hrow, hF3, hnew⟩
    obtain ⟨fa, fc, rfl⟩ := row_shape hrow
    have HF3 : Hid (Fr [] W w3) := HF2.out.trans hF3
    have HT3 : Hid (RT w3 rb S lim os root hashes w3) := by rw [HSS.out]; exact RT.start HA.out (HH.out.fr0 HF3.out)
    have HROW : Hid (WordsAt w3 fa fs) := words_row (row_rowAt hrow)
    have HNEW : Hid (∀ a, fa = some a → W.heap.size ≤ a.block) := Lib.hid fun a ha => by
      have h1 := own_new hrow hnew a ha
      have := HF2.out.size
      omega
    have HAL := Lib.hid (ralloc HI.out HT3.out cls N 1 hcls (by unfold WB; omega) (by omega) (by omega))
    have HCA := Lib.hid (allocF_cases lim os cls N 1)
    have HIV := Lib.hid (allocF_inv HI.out cls N 1 hcls (by unfold WB; omega))
    clear hrow hF3 hnew k0 k1 k2 k3 k4 k5
    rcases HCA.out with ⟨ha, -, -, -, -, hroom⟩ | hno
    · have hal := HAL.out
      have hiv := HIV.out
      rw [ha] at hal hiv
      simp only at hal hiv
      have HWF := Lib.hid (writeF_stores HOK.out (lim := lim) (os := os) (cls := cls) (by rw [← HFS.out, ← HN.out]; exact ha))
      have HIV2 := Lib.hid hiv
      have hend : (endOf os : Int) + 3 + N ≤ 65536 ∧ (1 : Int) ≤ endOf os := by
        have := HI.out.l2
        have := endOf_pos os
        omega
      clear ha HCA HAL HIV hiv hroom
      go_wp2_with (first | (go_at_call 31; refine hal.mono ?_; rintro e w4 ⟨rfl, hHT4⟩; have HT4 := Lib.hid hHT4; clear hHT4))
      clear hal
      go_loopw [11] (fun i wr => ∃ k : Nat, k ≤ N ∧ i = .int .i64 k ∧ ∃ os', Hid (RStoring lim root hashes os (os ++ [(cls, 0, List.replicate (N : Int).toNat 1)]) fs w3 rb S k wr os')) (fun i _ => N - (intOf i).toNat)
      case atStart => exact ⟨0, Nat.zero_le _, rfl, _, ⟨HT4.out, rfl, HIV2.out, by simp, by simp⟩⟩
      case round =>
        obtain ⟨k, hk, rfl, os', hS⟩ := hrel
        by_cases hlt : k < N
        · have hkl : k < fs.length := by rw [← HN.out]; exact hlt
          obtain ⟨x, hx⟩ : ∃ x, fs[k]? = some x := ⟨_, List.getElem?_eq_getElem hkl⟩
          obtain ⟨g, off, rfl, hc⟩ := HROW.out k x hx
          have hgS : g ∉ S := fun hgm => by
            have h1 := HNEW.out _ rfl
            have h2 := HLT.out g hgm
            have h3 : W.heap.size ≤ g := h1
            omega
          have hc' := hS.out.heap.fr.cell hgS hc
          have hxb := HWB.out x (List.mem_of_getElem? hx)
          have hst := rstore hS.out.inv hS.out.heap (i := os.length) (by rw [hS.out.len]; omega) k x (by omega) (by omega) hxb
          rw [hS.out.pre] at hst
          have hdr : fs.drop k = x :: fs.drop (k + 1) := by rw [List.drop_eq_getElem_cons hkl]; rw [List.getElem?_eq_getElem hkl] at hx; rw [Option.some.inj hx]
          have hrest := hS.out.rest
          rw [hdr, storesI_cons] at hrest
          have hiv' := storeI_inv hS.out.inv os.length k x hxb
          have hln := storeI_len os' os.length k x
          have htk := storeI_take (os := os') (i := os.length) (k := (k : Int)) (v := x)
          have k0 : (0 : Int) ≤ (k : Int) := by omega
          have k1 : (k : Int) < (N : Int) := by omega
          rcases storeI_cases os' os.length k x with ⟨h0, -⟩ | h1
          · rw [if_pos h0] at hrest
            rw [h0] at hst
            have HNX : Hid (∀ w5, RT w3 rb S lim (storeI os' os.length k x).2 root hashes w5 → RStoring lim root hashes os (os ++ [(cls, 0, List.replicate (N : Int).toNat 1)]) fs w3 rb S (k + 1) w5 (storeI os' os.length k x).2) := Lib.hid fun w5 h5 => ⟨h5, hrest, hiv', by rw [hln]; exact hS.out.len, by rw [htk]; exact hS.out.pre⟩
            have HST := Lib.hid hst
            clear hst hrest hiv' hln htk h0 hdr hx hc hkl hgS
            go_wp2_with (first | (go_at_call 17; refine HST.out.mono ?_; rintro e w5 ⟨rfl, h5⟩; have H5 := Lib.hid (HNX.out w5 h5); clear h5))
            go_roundw
            case rel => exact ⟨k + 1, by omega, by go_num, _, H5⟩
            case measure => simp [intOf]; omega
          · rw [h1] at hrest hst
            simp only at hst
            rw [if_neg (by simp)] at hrest
            have HST := Lib.hid hst
            have HR := Lib.hid hrest
            clear hst hrest hiv' hln htk h1 hdr hx hc hkl hgS
            go_wp2_with (first | (go_at_call 17; refine HST.out.mono ?_; rintro e w5 ⟨rfl, h5⟩; have H5 := Lib.hid h5; clear h5))
            go_ret2
            rw [HWF.out, ← HFS.out, ← HN.out, ← HR.out]
            exact ⟨rfl, H5.out.since HF3.out⟩
        · have hkn : k = N := by omega
          subst hkn
          have hkd : decide (k < k) = false := by simp
          have hrest := hS.out.rest
          rw [List.drop_of_length_le (by rw [← HN.out]; omega), storesI_nil] at hrest
          have HR := Lib.hid hrest
          clear hrest
          go_wp2_with fail
          go_ret2
          rw [HWF.out, ← HFS.out, ← HN.out, ← HR.out]
          exact ⟨rfl, hS.out.heap.since HF3.out⟩
    · obtain ⟨re, hre, hal0, hwf⟩ : ∃ re : Int, (re = 1 ∨ re = 2) ∧ allocF lim os cls N 1 = (0, re, os) ∧ writeF lim os cls m = (0, re, os) := by
        have key : ∀ re : Int, (re = 1 ∨ re = 2) → allocF lim os cls N 1 = (0, re, os) → writeF lim os cls m = (0, re, os) := by
          intro re hre h
          unfold writeF
          rw [if_neg (by simp [HOK.out]), ← HFS.out, ← HN.out, h, if_neg (by rcases hre with rfl | rfl <;> simp)]
        rcases hno with ⟨h, -⟩ | ⟨h, -⟩
        · exact ⟨1, .inl rfl, h, key 1 (.inl rfl) h⟩
        · exact ⟨2, .inr rfl, h, key 2 (.inr rfl) h⟩
      have hal := HAL.out
      rw [hal0] at hal
      simp only at hal
      have HWE := Lib.hid hwf
      have hre0 : (re == 0) = false := by rcases hre with rfl | rfl <;> rfl
      have hre1 : (re != 0) = true := by rcases hre with rfl | rfl <;> rfl
      have HHAL := Lib.hid hal
      clear hal0 hwf hno HCA HAL HIV hal hre
      go_wp2_with (first | (go_at_call 31; refine HHAL.out.mono ?_; rintro e w4 ⟨rfl, hHT4⟩; have HT4 := Lib.hid hHT4; clear hHT4))
      go_ret2
      rw [HWE.out]
      exact ⟨rfl, HT4.out.since HF3.out⟩
end Go.Proofs.YtjghgambieflaaaGreatDoor
namespace Go.Proofs.YtjghgambieflaaaGreatDoor
open Go.RowKit

theorem agree_obs {p : Nat} {l : List RO} {os : List Ob} (h : RAgree p l os) : l.map RO.ob = os := by
  induction l generalizing p os with
  | nil =>
    cases os with
    | nil => rfl
    | cons => exact h.elim
  | cons q l ih =>
    cases os with
    | nil => exact h.elim
    | cons a os =>
      obtain ⟨h1, -, h3⟩ := h
      rw [List.map_cons, h1, ih h3]
end Go.Proofs.YtjghgambieflaaaGreatDoor
