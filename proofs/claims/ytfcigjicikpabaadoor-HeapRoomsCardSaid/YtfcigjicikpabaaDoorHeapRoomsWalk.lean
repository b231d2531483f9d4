/- HeapRooms, walked. -/
import Derived.Test.YtfcigjicikpabaaDoorAwake
namespace Go.Proofs.YtfcigjicikpabaaDoor
open Go.RowKit

/-! a number, cut by a mask -/
def uns (n : Int) : Nat := (n % 18446744073709551616).toNat
theorem uns_lt (n : Int) : uns n < 18446744073709551616 := by unfold uns; omega
theorem ofInt_uns (n : Int) : BitVec.ofInt 64 n = BitVec.ofNat 64 (uns n) := by
  apply BitVec.eq_of_toNat_eq
  rw [BitVec.toNat_ofInt, BitVec.toNat_ofNat]
  unfold uns
  have : ((2 ^ 64 : Nat) : Int) = 18446744073709551616 := by decide
  rw [this]
  rw [Nat.mod_eq_of_lt (by omega)]
theorem uns_toNat (n : Int) : (BitVec.ofInt 64 n).toNat = uns n := by
  rw [ofInt_uns, BitVec.toNat_ofNat]; exact Nat.mod_eq_of_lt (uns_lt n)
theorem and_i64 (a b : Int) : bits .and .i64 a b = wrap64 ((uns a &&& uns b : Nat) : Int) := by
  show IntKind.i64.wrap ((BitVec.ofInt 64 a &&& BitVec.ofInt 64 b).toNat : Int) = _
  rw [BitVec.toNat_and, uns_toNat, uns_toNat]; exact IntWalk.i64_left _
theorem and_mask (a : Int) (b : Nat) (hb : b < 1000000) : 0 ≤ bits .and .i64 a b ∧ bits .and .i64 a b ≤ b := by
  rw [and_i64]
  have e : uns (b : Int) = b := by unfold uns; omega
  rw [e]
  have := Nat.and_le_right (n := uns a) (m := b)
  unfold wrap64
  omega
/-- each number of a slice lies somewhere -/
def NumsAt (w : World) (ao : Option Addr) (len : Nat) : Prop := ∀ i, i < len → ∃ g o z, ao = some ⟨g, o, none⟩ ∧ w.cell? ⟨g, o + i, none⟩ = some (.int .i64 z)
theorem NumsAt.fr {w w' : World} {ao : Option Addr} {len : Nat} (h : NumsAt w ao len) (hF : Fr [] w w') : NumsAt w' ao len := by
  intro i hi
  obtain ⟨g, o, z, h1, h2⟩ := h i hi
  exact ⟨g, o, z, h1, hF.cell (by simp) h2⟩
/-- the heap under way -/
def RInv (lim : Int) (m : Mem) : Prop := m.lim = lim ∧ 1 ≤ m.W.length ∧ (m.W.length : Int) ≤ lim
theorem okB_zero (M : List Bool) : okB M 0 = true := by simp [okB]
theorem okB_one (M : List Bool) : okB M 1 = true := by simp [okB, odd]
theorem push_len (m : Mem) (x h : Int) (fs : List Int) : (m.push x h fs).W.length = m.W.length + 3 + fs.length := by simp [Mem.push]; omega
theorem push_mark (m : Mem) (x h : Int) (fs : List Int) (k : Nat) (hk : m.M.length = k) : (m.push x h fs).M[k]? = some true := by
  subst hk
  simp [Mem.push]
set_option maxRecDepth 100000 in
set_option maxHeartbeats 4000000 in
theorem heapRooms_walk (a0 : Int) (ao : Option Addr) (len cap : Nat) (w : World) (hg : Glob w) (hN : NumsAt w ao len) :
    Calls Tryd.prog 4 #[.int .i64 a0, .slice ao len cap] w (Still (.bool true) w) := by
  have hA := awake_still w hg
  have HG := Lib.hid hg
  have HN := Lib.hid hN
  obtain ⟨L0, hL0⟩ : ∃ L0, bits .and .i64 a0 4095 = L0 := ⟨_, rfl⟩
  have hL1 : 0 ≤ L0 ∧ L0 ≤ 4095 := by rw [← hL0]; exact and_mask a0 4095 (by omega)
  obtain ⟨l1, l2⟩ := hL1
  clear hg hN
  go_enter Tryd.func4, Tryd.ntmps4
  go_wp2_with fail
  refine hA.mono ?_
  rintro e w1 ⟨rfl, hF⟩
  have HF := Lib.hid hF
  have hNew := live_new (64 + L0) w1 (by omega) (by omega)
  clear hF hA
  go_wp2_with fail
  refine hNew.mono ?_
  rintro e w2 ⟨hb, mb, rfl, hL⟩
  have HL := Lib.hid hL
  have HN1 := Lib.hid (HN.out.fr HF.out)
  have HG1 := Lib.hid (HG.out.fr HF.out)
  obtain ⟨lim, hlim⟩ : ∃ lim, lim = 64 + L0 := ⟨_, rfl⟩
  have b1 : 64 ≤ lim := by omega
  have b2 : lim ≤ 65536 := by omega
  have HI : Hid (RInv lim (Mem.fresh (64 + L0))) := ⟨hlim.symm, by simp [Mem.fresh], by simp [Mem.fresh]; omega⟩
  clear hL hNew HN HG hlim hL0
  go_wp2
  go_loopw [8] (fun v wr => ∃ k : Nat, k ≤ len ∧ k ≤ 500 ∧ v = .int .i64 k ∧ Hid (∃ m, Live w1 hb mb m wr ∧ RInv lim m)) (fun v _ => 500 - (intOf v).toNat)
  case atStart => exact ⟨0, Nat.zero_le _, Nat.zero_le _, rfl, _, HL.out, HI.out⟩
  case round =>
    obtain ⟨k, k1, k2, rfl, hM⟩ := hrel
    obtain ⟨m, hL, hI⟩ := hM.out
    clear hM HL HI
    obtain ⟨i1, i2, i3⟩ := hI
    have hml := hL.lim
    obtain ⟨L, hLL⟩ : ∃ L, L = m.W.length := ⟨_, rfl⟩
    rw [← hLL] at i2 i3 hml
    have HLL := Lib.hid hLL
    have HI1 := Lib.hid i1
    have HML := Lib.hid hml.2
    have hmost := hml.1
    have HLv := Lib.hid hL
    have hU : Calls Tryd.prog 17 #[.pointer (some ⟨hb, 0, none⟩)] wr (LStill (.int .i64 L) w1 hb mb m) := by have := live_used hL; rw [← hLL] at this; exact this
    clear hL hLL i1 hml
    by_cases hlt : k < len ∧ k < 500
    · obtain ⟨hlt1, hlt2⟩ := hlt
      have hlt2' : (k : Int) < 500 := by omega
      obtain ⟨g, o, z, hao, hz⟩ := HN1.out k hlt1
      subst hao
      have hzr : wr.cell? ⟨g, o + k, none⟩ = some (.int .i64 z) := HLv.out.fr.cell (by simp) hz
      obtain ⟨N, hN⟩ : ∃ N, bits .and .i64 z 63 = N := ⟨_, rfl⟩
      have hN1 : 0 ≤ N ∧ N ≤ 63 := by rw [← hN]; exact and_mask z 63 (by omega)
      obtain ⟨n1, n2⟩ := hN1
      clear hz
      go_wp2_with fail
      refine hU.mono ?_
      rintro e w3 ⟨rfl, hL3⟩
      have HL3 := Lib.hid hL3
      clear hL3 hU hzr
      by_cases hfit : (L : Int) + 3 + N ≤ lim
      · have hAl : Calls Tryd.prog 6 #[.pointer (some ⟨hb, 0, none⟩), .int .u64 0, .int .i64 N, .int .u64 1] w3 (LStill (.tuple #[.int .u64 (2 * L), .int .i64 0]) w1 hb mb (m.push 0 0 (List.replicate N.toNat 1))) := by
          have := live_alloc_ok HL3.out 0 N 1 (by rw [← HLL.out]; omega) (by rw [HI1.out]; omega) (by rw [HI1.out]; omega) n1 (by omega) (by omega) (by omega) (by omega) (by omega) (okB_zero _) (okB_one _) (by rw [← HLL.out, HI1.out]; exact hfit)
          rw [← HLL.out] at this
          exact this
        go_wp2_with fail
        refine hAl.mono ?_
        rintro e w4 ⟨rfl, hL4⟩
        have HL4 := Lib.hid hL4
        have hW4 : Calls Tryd.prog 16 #[.pointer (some ⟨hb, 0, none⟩)] w4 (LStill (.int .i64 lim) w1 hb mb (m.push 0 0 (List.replicate N.toNat 1))) := by have := live_words hL4; rw [show (m.push 0 0 (List.replicate N.toNat 1)).lim = lim from HI1.out] at this; exact this
        clear hL4 hAl
        go_wp2_with fail
        refine hW4.mono ?_
        rintro e w5 ⟨rfl, hL5⟩
        have HL5 := Lib.hid hL5
        have hlen5 : Hid ((((m.push 0 0 (List.replicate N.toNat 1)).W.length : Nat) : Int) = (L : Int) + 3 + N) := by show _ = _; rw [push_len, ← HLL.out, List.length_replicate]; omega
        have hU5 : Calls Tryd.prog 17 #[.pointer (some ⟨hb, 0, none⟩)] w5 (LStill (.int .i64 ((L : Int) + 3 + N)) w1 hb mb (m.push 0 0 (List.replicate N.toNat 1))) := by have := live_used hL5; rw [hlen5.out] at this; exact this
        clear hL5 hW4
        go_wp2_with fail
        refine hU5.mono ?_
        rintro e w6 ⟨rfl, hL6⟩
        have HL6 := Lib.hid hL6
        have hH6 : Calls Tryd.prog 15 #[.pointer (some ⟨hb, 0, none⟩), .int .u64 (2 * L)] w6 (LStill (.bool true) w1 hb mb (m.push 0 0 (List.replicate N.toNat 1))) := by
          have := live_has hL6 (2 * L) (by omega) (by omega)
          rw [stB_mk (by omega) (by omega) (push_mark m 0 0 _ L HML.out)] at this
          exact this
        clear hL6 hU5
        go_wp2_with fail
        refine hH6.mono ?_
        rintro e w7 ⟨rfl, hL7⟩
        have HL7 := Lib.hid hL7
        clear hL7 hH6
        go_wp2
        go_roundw
        case rel => exact ⟨k + 1, by omega, by omega, by go_num, _, HL7.out, HI1.out, by rw [push_len]; omega, by rw [hlen5.out]; exact hfit⟩
        case measure => simp [intOf]; omega
      · have hAl : Calls Tryd.prog 6 #[.pointer (some ⟨hb, 0, none⟩), .int .u64 0, .int .i64 N, .int .u64 1] w3 (LStill (.tuple #[.int .u64 0, .int .i64 2]) w1 hb mb m) :=
          live_alloc_mem HL3.out HG1.out 0 N 1 (by rw [HI1.out]; omega) (by rw [HI1.out]; omega) n1 (by omega) (by omega) (by omega) (by omega) (by omega) (okB_zero _) (okB_one _) (by rw [← HLL.out, HI1.out]; omega)
        go_wp2_with fail
        refine hAl.mono ?_
        rintro e w4 ⟨rfl, hL4⟩
        have HL4 := Lib.hid hL4
        have hW4 : Calls Tryd.prog 16 #[.pointer (some ⟨hb, 0, none⟩)] w4 (LStill (.int .i64 lim) w1 hb mb m) := by have := live_words hL4; rw [HI1.out] at this; exact this
        clear hL4 hAl
        go_wp2_with fail
        refine hW4.mono ?_
        rintro e w5 ⟨rfl, hL5⟩
        have HL5 := Lib.hid hL5
        have hU5 : Calls Tryd.prog 17 #[.pointer (some ⟨hb, 0, none⟩)] w5 (LStill (.int .i64 L) w1 hb mb m) := by have := live_used hL5; rw [← HLL.out] at this; exact this
        clear hL5 hW4
        go_wp2_with fail
        refine hU5.mono ?_
        rintro e w6 ⟨rfl, hL6⟩
        have HL6 := Lib.hid hL6
        clear hL6 hU5
        go_wp2
        go_roundw
        case rel => exact ⟨k + 1, by omega, by omega, by go_num, m, HL6.out, HI1.out, by rw [← HLL.out]; omega, by rw [← HLL.out]; exact i3⟩
        case measure => simp [intOf]; omega
    · have HEnd : Hid (∀ w', Live w1 hb mb m w' → Calls Tryd.prog 16 #[.pointer (some ⟨hb, 0, none⟩)] w' (LStill (.int .i64 lim) w1 hb mb m)) := fun w' h => by have := live_words h; rw [HI1.out] at this; exact this
      by_cases hl1 : k < len
      · have hl2 : ¬ (k : Int) < 500 := by omega
        clear hlt
        go_wp2_with fail
        refine hU.mono ?_
        rintro e w3 ⟨rfl, hL3⟩
        have hW4 := HEnd.out w3 hL3
        clear hL3 hU
        go_wp2_with fail
        refine hW4.mono ?_
        rintro e w4 ⟨rfl, hL4⟩
        have HL4 := Lib.hid hL4.fr
        clear hL4 hW4
        go_wp2
        go_ret
        exact ⟨ret1 (vb (by simp)), HF.out.trans HL4.out⟩
      · clear hlt
        go_wp2_with fail
        refine hU.mono ?_
        rintro e w3 ⟨rfl, hL3⟩
        have hW4 := HEnd.out w3 hL3
        clear hL3 hU
        go_wp2_with fail
        refine hW4.mono ?_
        rintro e w4 ⟨rfl, hL4⟩
        have HL4 := Lib.hid hL4.fr
        clear hL4 hW4
        go_wp2
        go_ret
        exact ⟨ret1 (vb (by simp)), HF.out.trans HL4.out⟩
end Go.Proofs.YtfcigjicikpabaaDoor
