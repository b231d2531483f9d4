/- CodeFields: a method's object, field by field. -/
import Derived.Test.YtgpcidmlogbjbaaGreatDoorMCodeE
import Derived.Test.YtgpcidmlogbjbaaGreatDoorMCodePacksWalk
namespace Go.Proofs.YtgpcidmlogbjbaaGreatDoor
open Go.RowKit

theorem fs_lits (m : Mth) {k : Nat} (h : k < m.lits.length) : m.fs[5 + k]? = m.lits[k]? := by
  unfold Mth.fs
  rw [List.append_assoc, List.getElem?_append_right (by simp), List.getElem?_append_left (by simp; omega)]
  congr 1
  simp
theorem fs_code (m : Mth) {k : Nat} {i : Ins} (h : m.code[k]? = some i) : m.fs[5 + m.lits.length + k]? = some (wordOf i.num) := by
  unfold Mth.fs
  rw [List.append_assoc, List.getElem?_append_right (by simp; omega), List.getElem?_append_right (by simp; omega)]
  rw [show 5 + m.lits.length + k - [wordOf m.args, wordOf m.temps, wordOf m.stack, wordOf m.prim, wordOf m.lits.length].length - m.lits.length = k by simp; omega]
  rw [List.getElem?_map, h]
  rfl
/-- Write into a heap without objects: OK, or 1 where a literal leads nowhere, or 4 -/
theorem writeF_new (m : Mth) : (m.ok = false ∧ writeF 4096 [] 0 m = (0, 4, [])) ∨ (m.ok = true ∧ (writeF 4096 [] 0 m).2.1 = 1) ∨ (m.ok = true ∧ (writeF 4096 [] 0 m).2.1 = 0) := by
  cases h : m.ok
  · left
    refine ⟨rfl, ?_⟩
    unfold writeF
    rw [if_pos h]
  · right
    have hd := m.head_iff.1 (m.ok_iff.1 h).1
    have hfl := m.fs_len
    have ha : allocF 4096 [] 0 m.fs.length 1 = (2 * (endOf [] : Int), 0, [] ++ [(0, 0, List.replicate (m.fs.length : Int).toNat 1)]) := by
      rcases allocF_cases 4096 [] 0 m.fs.length 1 with ⟨h, -⟩ | ⟨-, h1⟩ | ⟨-, -, -, -, -, h1⟩
      · exact h
      · have e1 : okB (marksOf []) 0 = true := by decide
        have e2 : okB (marksOf []) 1 = true := by decide
        rw [e1, e2] at h1
        simp at h1
        omega
      · have : endOf [] = 1 := by decide
        rw [this] at h1
        omega
    rw [writeF_stores h ha]
    simp only
    rcases storesI_01 [].length m.fs ([] ++ [(0, 0, List.replicate (m.fs.length : Int).toNat 1)]) 0 with h1 | h1
    · exact .inr ⟨trivial, h1⟩
    · exact .inl ⟨trivial, h1⟩
theorem both_fresh {w : World} (hg : Glob w) : Calls Tryz.prog 34 #[.int .i64 4096, .slice none 0 0] w fun e W => ∃ hb mb rb root hs l, e = .returned (.tuple #[.pointer (some ⟨hb, 0, none⟩), .pointer (some ⟨rb, 0, none⟩)]) ∧ OInv 4096 [] hs ∧ Two w [] hb mb rb (absMem 4096 [] root hs) ⟨4096, l, root, hs⟩ W := by
  have := both_at 4096 (by omega) (by omega) hg (ao := none) (cap := 0) [] ⟨fun i x hx => by simp [flat4] at hx, fun _ h => (by cases h), fun _ h => (by cases h)⟩ ⟨by simp, fun _ h => (by cases h), fun _ h => (by cases h), fun _ h => (by cases h)⟩
  refine this.mono ?_
  rintro e W ⟨hb, mb, rb, os, root, hs, l, rfl, hI, -, hT, hO⟩
  have : os = [] := by
    rcases hO with ⟨-, h, -⟩ | ⟨-, h, -⟩
    · rw [h]; rfl
    · exact h
  subst this
  exact ⟨hb, mb, rb, root, hs, l, rfl, hI, hT⟩
set_option maxRecDepth 100000 in
set_option maxHeartbeats 3200000 in
theorem codeFields_walk (m : Mth) (la : Option Addr) (lc : Nat) (ca : Option Addr) (cc : Nat) (w : World) (hM : MIn w m la lc ca) (hg : Glob w) (hE : Field w) : Calls Tryz.prog 9 #[m.v la lc ca cc] w (Still (.bool true) w) := by
  have HAW := Lib.hid (fun W (hF : Fr [] w W) => awake4 W (hg.fr hF) (hE.fr hF))
  have HBO := Lib.hid (fun W (hF : Fr [] w W) => both_fresh (hg.fr hF))
  have HG := Lib.hid hg
  have HE := Lib.hid hE
  have HM := Lib.hid hM
  have HCK := Lib.hid (fun W (hF : Fr [] w W) => check_at m la ca lc cc W (row_fr hM.at_.code hF) (hE.fr hF))
  have HWN := Lib.hid (writeF_new m)
  have hll := hM.ll
  have hcl := hM.cl
  have HFL := Lib.hid m.fs_len
  obtain ⟨ll, hll'⟩ : ∃ n, n = m.lits.length := ⟨_, rfl⟩
  obtain ⟨n, hn'⟩ : ∃ n, n = m.code.length := ⟨_, rfl⟩
  have HLL := Lib.hid hll'
  have HNN := Lib.hid hn'
  rw [← hll'] at hll HFL
  rw [← hn'] at hcl HFL
  unfold Mth.v at HCK ⊢
  rw [← hll', ← hn'] at HCK ⊢
  clear hg hE hM hll' hn'
  go_enter Tryz.func9, Tryz.ntmps9
  go_wp2_with fail
  refine (HAW.out _ ((Fr.refl _ _).alloc _)).mono ?_
  rintro e w1 ⟨rfl, hF1⟩
  have HF1 : Hid (Fr [] w w1) := ((Fr.refl _ _).alloc _).trans hF1
  have HB1 := Lib.hid (hF1.heap (by simp) (heap_new w _))
  clear hF1
  go_wp2_with fail
  refine (HBO.out _ HF1.out).mono ?_
  rintro e w2 ⟨hb, mb, rb, root, hs, l, rfl, hI, hT⟩
  have HI := Lib.hid hI
  obtain ⟨wv, sv, lv, -, hH, -, hF2, -, hft, -⟩ := hT
  have HH := Lib.hid hH
  have HF2 : Hid (Fr [] w w2) := HF1.out.trans hF2
  have HB2 := Lib.hid (hF2.heap (by simp) HB1.out)
  have HBS : Hid (Base w w2 (foot mb wv sv)) := ⟨HF2.out, fun k hk => Nat.le_trans HF1.out.size (hft k hk)⟩
  have HNF : Hid (w.heap.size ∉ foot mb wv sv) := Lib.hid fun h => by have h1 := hft _ h; have h2 := lt_of_heap HB1.out; omega
  have HWR := Lib.hid (write_at m la ca lc cc 0 (by unfold WB; omega) HM.out.wb HG.out HE.out HBS.out HI.out HH.out (HM.out.at_.fr0 HF2.out))
  unfold Mth.v at HWR
  rw [← HLL.out, ← HNN.out] at HWR
  have k0 := cell_of_heap (o := 0) HB2.out rfl; have k1 := cell_of_heap (o := 1) HB2.out rfl; have k2 := cell_of_heap (o := 2) HB2.out rfl; have k3 := cell_of_heap (o := 3) HB2.out rfl; have k4 := cell_of_heap (o := 4) HB2.out rfl; have k5 := cell_of_heap (o := 5) HB2.out rfl
  clear hI hH hF2 hft
  go_wp2_with fail
  refine HWR.out.mono ?_
  rintro e w3 ⟨rfl, wv3, sv3, hM3, hF3, hk3⟩
  have HF3 : Hid (Fr [] w w3) := HBS.out.fr.join hF3 HBS.out.new
  have HB3 := Lib.hid (hF3.heap HNF.out HB2.out)
  have HH3 : Hid (HeapAt w3 hb mb (absMem 4096 (writeF 4096 [] 0 m).2.2 root hs) wv3 sv3) := ⟨hF3.heap HH.out.apart HH.out.heap, hM3⟩
  have HI3 := Lib.hid (writeF_inv HI.out 0 m (by unfold WB; omega) HM.out.wb)
  clear hM3 hF3 hk3 k0 k1 k2 k3 k4 k5
  have k0 := cell_of_heap (o := 0) HB3.out rfl; have k1 := cell_of_heap (o := 1) HB3.out rfl; have k2 := cell_of_heap (o := 2) HB3.out rfl; have k3 := cell_of_heap (o := 3) HB3.out rfl; have k4 := cell_of_heap (o := 4) HB3.out rfl; have k5 := cell_of_heap (o := 5) HB3.out rfl
  rcases HWN.out with ⟨hok, hwf⟩ | ⟨hok, hwf⟩ | ⟨hok, hwf⟩
  · rw [hwf]
    rw [hok] at HCK
    simp only [Bool.false_eq_true, if_false] at HCK ⊢
    clear hok hwf
    go_wp2_with fail
    refine (HCK.out _ HF3.out).mono ?_
    rintro e w4 ⟨rfl, hF4⟩
    have HF4 := Lib.hid (HF3.out.trans hF4)
    clear hF4
    go_wp2_with fail
    go_ret
    exact ⟨rfl, HF4.out⟩
  · rw [hwf]
    rw [hok] at HCK
    simp only [if_true] at HCK
    clear hok hwf
    go_wp2_with fail
    refine (HCK.out _ HF3.out).mono ?_
    rintro e w4 ⟨rfl, hF4⟩
    have HF4 := Lib.hid (HF3.out.trans hF4)
    clear hF4
    go_wp2_with fail
    go_ret
    exact ⟨rfl, HF4.out⟩
  · obtain ⟨hwo, -, -, hroom⟩ := writeF_ok hwf
    rw [hwo] at HH3 HI3
    rw [hwo]
    simp only at HH3 HI3 ⊢
    have HIO := Lib.hid (m.ok_iff.1 hok).2
    have hd := m.head_iff.1 (m.ok_iff.1 hok).1
    rw [← HLL.out, ← HNN.out] at hd
    obtain ⟨N, hN⟩ : ∃ N, N = m.fs.length := ⟨_, rfl⟩
    rw [← hN] at HFL
    have HNL := Lib.hid hN
    have hNb : N = 5 + ll + n := HFL.out
    have HSZ : Hid (∀ W, Fr [] w3 W → Calls Tryz.prog 43 #[.pointer (some ⟨hb, 0, none⟩), .int .u64 (2 * (endOf [] : Int))] W (Still (.tuple #[.int .i64 N, .int .i64 0]) W)) := Lib.hid fun W hF => by
      rw [hN]
      exact size_yes (memory_at (HH3.out.fr hF (by simp) (fun _ _ => by simp))) (endOf []) m.fs.length (abs_mark (pre := []) (post := [])) (endOf_pos _) (by decide) (abs_size (pre := []) (post := [])) (by omega)
    have HFT : Hid (∀ W (j : Nat) (x : Int), Fr [] w3 W → m.fs[j]? = some x → Calls Tryz.prog 44 #[.pointer (some ⟨hb, 0, none⟩), .int .u64 (2 * (endOf [] : Int)), .int .i64 j] W (Still (.tuple #[.int .u64 x, .int .i64 0]) W)) := Lib.hid fun W j x hF hj => by
      have hjl := (List.getElem?_eq_some_iff.1 hj).1
      exact fetch_yes (memory_at (HH3.out.fr hF (by simp) (fun _ _ => by simp))) (endOf []) m.fs.length j x (abs_mark (pre := []) (post := [])) (endOf_pos _) (abs_size (pre := []) (post := [])) (by omega) hjl (by rw [abs_field (pre := []) (post := []) (o := (0, 0, m.fs)) j hjl]; exact hj)
    have e2 : (2 * (endOf [] : Int)) = 2 := by decide
    rw [e2] at HSZ HFT ⊢
    clear hwo hroom hok hwf hN e2 HWN HCK
    go_wp2_with fail
    refine (HSZ.out _ (Fr.refl _ _)).mono ?_
    rintro e w4 ⟨rfl, hF4⟩
    have HF4 := Lib.hid hF4
    have HB4 := Lib.hid (hF4.heap (by simp) HB3.out)
    clear hF4 k0 k1 k2 k3 k4 k5
    have k4 := cell_of_heap (o := 4) HB4.out rfl
    have k5 := cell_of_heap (o := 5) HB4.out rfl
    have hNi : (N : Int) = 5 + (ll : Int) + (n : Int) := by omega
    rw [hNi]
    have hNN : N ≤ 165 := by omega
    have HNI := Lib.hid hNi
    clear hNi hNb
    go_wp2_with fail
    go_loopw [10] (fun i wr => ∃ k : Nat, k ≤ N ∧ i = .int .i64 k ∧ Hid (Fr [] w4 wr)) (fun i _ => N - (intOf i).toNat)
    case atStart => exact ⟨0, Nat.zero_le _, rfl, Fr.refl _ _⟩
    case round =>
      obtain ⟨k, hk, rfl, hS⟩ := hrel
      have HBR := Lib.hid (hS.out.heap (by simp) HB4.out)
      have r4 := cell_of_heap (o := 4) HBR.out rfl
      have r5 := cell_of_heap (o := 5) HBR.out rfl
      by_cases hlt : k < N
      · have hkl : k < m.fs.length := by rw [← HNL.out]; exact hlt
        obtain ⟨x, hx⟩ : ∃ x, m.fs[k]? = some x := ⟨_, List.getElem?_eq_getElem hkl⟩
        have hft := HFT.out wr k x (HF4.out.trans hS.out) hx
        have hkk : (k : Int) < 5 + (ll : Int) + (n : Int) := by have := HNI.out; omega
        have hk0 : (0 : Int) ≤ (k : Int) := by omega
        by_cases hA : k < 5
        · clear hkl hx
          go_wp2_with (first | (go_at_call 44; refine hft.mono ?_; rintro e w5 ⟨rfl, hF5⟩; have HBR5 := Lib.hid (hF5.heap (by simp) HBR.out); have r4 := cell_of_heap (o := 4) HBR5.out rfl; have HS5 := Lib.hid (hS.out.trans hF5); clear hF5))
          go_roundw
          case rel => exact ⟨k + 1, by omega, by go_num, HS5⟩
          case measure => simp [intOf]; omega
        · by_cases hB : k < 5 + ll
          · obtain ⟨j, rfl⟩ : ∃ j, k = 5 + j := ⟨k - 5, by omega⟩
            have hjl : j < m.lits.length := by rw [← HLL.out]; omega
            have hxj := hx
            rw [fs_lits m hjl] at hxj
            obtain ⟨g, off, rfl, hc⟩ := HM.out.at_.lits j x hxj
            have HFW := Lib.hid (HF3.out.trans (HF4.out.trans hS.out))
            have HCX := Lib.hid (HFW.out.cell (by simp) hc)
            have ej : ((5 + j : Nat) : Int) - 5 = (j : Int) := by omega
            have hj1 : (j : Int) < (ll : Int) := by omega
            have hj0 : (0 : Int) ≤ (j : Int) := by omega
            clear hkl hx hxj hjl hc
            go_wp2_with (first | (go_at_call 44; refine hft.mono ?_; rintro e w5 ⟨rfl, hF5⟩; have HBR5 := Lib.hid (hF5.heap (by simp) HBR.out); have r4 := cell_of_heap (o := 4) HBR5.out rfl; have rx := hF5.cell (by simp) HCX.out; have HS5 := Lib.hid (hS.out.trans hF5); clear hF5))
            go_roundw
            case rel => exact ⟨5 + j + 1, by omega, by go_num, HS5⟩
            case measure => simp [intOf]; omega
          · obtain ⟨j, rfl⟩ : ∃ j, k = 5 + ll + j := ⟨k - 5 - ll, by omega⟩
            have hNI := HNI.out
            have hjn : j < n := by omega
            have hjl : j < m.code.length := by rw [← HNN.out]; omega
            obtain ⟨i, hi⟩ : ∃ i, m.code[j]? = some i := ⟨_, List.getElem?_eq_getElem hjl⟩
            have hxj := fs_code m hi
            rw [← HLL.out, hx] at hxj
            have hxi : x = wordOf i.num := Option.some.inj hxj
            have hio := HIO.out i (List.mem_of_getElem? hi)
            have HUP : Hid (∀ W, Fr [] w W → Calls Tryz.prog 32 #[.int .u64 x] W (Still (.tuple #[i.v, .int .i64 0]) W)) := Lib.hid fun W hF => by
              rw [hxi]
              have := unpack_ins (wordOf i.num) (wordOf_WB _).1 W (HE.out.fr hF)
              unfold insAt at this
              rw [(insOk_word i hio).1, (insOk_word i hio).2] at this
              exact this
            have HFW := Lib.hid (HF3.out.trans (HF4.out.trans hS.out))
            obtain ⟨f1, f2, f3⟩ := flatI_at hi
            obtain ⟨g, off, rfl, p1⟩ := HM.out.at_.code _ _ f1
            obtain ⟨_, _, e2, p2⟩ := HM.out.at_.code _ _ f2
            cases e2
            obtain ⟨_, _, e3, p3⟩ := HM.out.at_.code _ _ f3
            cases e3
            rw [← Nat.add_assoc] at p2 p3
            have hq := neq_instr i i
            simp only [ne_eq, not_true_eq_false, decide_false] at hq
            have e1 : IntKind.i64.wrap (((5 + ll + j : Nat) : Int) - 5) = (ll : Int) + (j : Int) := by rw [IntKind.wrap_i64]; omega
            have e1b : IntKind.i64.wrap ((ll : Int) + (j : Int) - (ll : Int)) = (j : Int) := by rw [IntKind.wrap_i64]; omega
            have hj1 : (j : Int) < (n : Int) := by omega
            have hj0 : (0 : Int) ≤ (j : Int) := by omega
            have HP1 := Lib.hid p1
            have HP2 := Lib.hid p2
            have HP3 := Lib.hid p3
            unfold Ins.v at HUP
            clear hkl hx hxj hjl hi hxi hio f1 f2 f3 p1 p2 p3 hNI e1 e1b
            go_wp2_with (first | (go_at_call 44; refine hft.mono ?_; rintro e w5 ⟨rfl, hF5⟩; have HBR5 := Lib.hid (hF5.heap (by simp) HBR.out); have r4 := cell_of_heap (o := 4) HBR5.out rfl; have HS5 := Lib.hid (hS.out.trans hF5); have HFW5 := Lib.hid (HFW.out.trans hF5); clear hF5) | fail)
            refine (HUP.out _ HFW5.out).mono ?_
            rintro e w6 ⟨rfl, hF6⟩
            have HFW6 := Lib.hid (HFW5.out.trans hF6)
            have HS6 := Lib.hid (HS5.out.trans hF6)
            have HBR6 := Lib.hid (hF6.heap (by simp) HBR5.out)
            have t4 := cell_of_heap (o := 4) HBR6.out rfl
            have t5 := cell_of_heap (o := 5) HBR6.out rfl
            have q1 := HFW6.out.cell (by simp) HP1.out
            have q2 := HFW6.out.cell (by simp) HP2.out
            have q3 := HFW6.out.cell (by simp) HP3.out
            have hlt6 : w.heap.size < w6.heap.size := lt_of_heap HBR6.out
            have hlg : g < w6.heap.size := World.block_lt_of_cell? _ _ q1
            clear hF6
            go_upto_region 17 with (fail)
            have e1 : IntKind.i64.wrap (((5 + ll + j : Nat) : Int) - 5) = (ll : Int) + (j : Int) := by rw [IntKind.wrap_i64]; omega
            have e1c : IntKind.i64.wrap (5 + (ll : Int) + (j : Int) - 5) = (ll : Int) + (j : Int) := by rw [IntKind.wrap_i64]; omega
            have e1b : IntKind.i64.wrap ((ll : Int) + (j : Int) - (ll : Int)) = (j : Int) := by rw [IntKind.wrap_i64]; omega
            go_quiet (fail)
            clear e1 e1b e1c
            go_wp2_with fail
            go_roundw
            case rel => exact ⟨5 + ll + j + 1, by omega, by go_num, (HS6.out.alloc _).drewN _⟩
            case measure => simp [intOf]; omega
      · have hkn : k = N := by omega
        subst hkn
        have hge : ¬ ((k : Int) < 5 + (ll : Int) + (n : Int)) := by have := HNI.out; omega
        go_wp2_with fail
        go_ret
        exact ⟨rfl, HF3.out.trans (HF4.out.trans hS.out)⟩
end Go.Proofs.YtgpcidmlogbjbaaGreatDoor
