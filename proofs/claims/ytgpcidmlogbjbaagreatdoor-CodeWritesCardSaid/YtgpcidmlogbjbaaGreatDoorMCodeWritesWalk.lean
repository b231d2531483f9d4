/- CodeWrites: which methods may be, and their objects. -/
import Derived.Test.YtgpcidmlogbjbaaGreatDoorMCodeF
import Derived.Test.YtgpcidmlogbjbaaGreatDoorMCodeBackWalk
namespace Go.Proofs.YtgpcidmlogbjbaaGreatDoor
open Go.RowKit

section
variable {w0 W : World} {X : List (Nat × Obj)} {hb mb rb : Nat} {m m' : Mem} {r : RH}
theorem two_turnsH {f : Nat} {args : Array Value} {v : Value} (h : Two w0 X hb mb rb m r W) (hc : ∀ wv sv, HeapAt W hb mb m wv sv → Base w0 W (foot mb wv sv) → Calls Tryz.prog f args W (Turns v mb m' (foot mb wv sv) W)) :
    Calls Tryz.prog f args W fun e W' => e = .returned v ∧ Two w0 X hb mb rb m' r W' := by
  obtain ⟨wv, sv, lv, hX, hH, hR, hF0, h1, h2, h3, h4, h5⟩ := h
  refine (hc wv sv hH ⟨hF0, h2⟩).mono ?_
  rintro e W' ⟨rfl, wv', sv', hM, hF, hfr⟩
  refine ⟨rfl, wv', sv', lv, fun p hp => ⟨hF.heap (hX p hp).2.2.1 (hX p hp).1, (hX p hp).2.1, fun hk => (hfr _ hk).elim (hX p hp).2.2.1 (fun hl => by have := lt_of_heap (hX p hp).1; omega), (hX p hp).2.2.2⟩, ⟨hF.heap hH.apart hH.heap, hM⟩, hR.fr hF h5, hF0.join hF h2, h1, fun k hk => ?_, h3, h4, fun k hk hk' => ?_⟩
  · rcases hfr k hk with h | h
    · exact h2 k h
    · exact Nat.le_trans hF0.size h
  · rcases hfr k hk' with h | h
    · exact h5 k hk h
    · have := hR.lt k hk; omega
theorem two_rt {f : Nat} {args : Array Value} {v : Value} {lim root hs : Int} {l : List RO} {os' : List Ob} (h : Two w0 X hb mb rb m ⟨lim, l, root, hs⟩ W) (hc : ∀ lv, RefAt W rb ⟨lim, l, root, hs⟩ lv → Calls Tryz.prog f args W fun e W' => e = .returned v ∧ RT W rb (rfoot rb ⟨lim, l, root, hs⟩ lv) lim os' root hs W') :
    Calls Tryz.prog f args W fun e W' => e = .returned v ∧ ∃ l', RAgree 1 l' os' ∧ Two w0 X hb mb rb m ⟨lim, l', root, hs⟩ W' := by
  obtain ⟨wv, sv, lv, hX, hH, hR, hF0, h1, h2, h3, h4, h5⟩ := h
  refine (hc lv hR).mono ?_
  rintro e W' ⟨rfl, l', lv', ha', hR', hF, hk⟩
  obtain ⟨-, hT⟩ := Two.rturn (v := v) (e := .returned v) (r' := ⟨lim, l', root, hs⟩) hX hH hF0 h1 h2 h3 h4 h5 ⟨rfl, lv', hR', hF, hk⟩
  exact ⟨rfl, l', ha', hT⟩
end
theorem alloc_nil {w : World} (hg : Glob w) (x n y : Int) : Calls Tryz.prog 50 #[.pointer none, .int .u64 x, .int .i64 n, .int .u64 y] w (Still (.tuple #[.int .u64 0, .int .i64 1]) w) :=
  alloc_fail (memory_none (.inl rfl)) hg x n y 1 (fun _ hM hG => admit_none hM hG x n y rfl)
set_option maxRecDepth 100000 in
set_option maxHeartbeats 1600000 in
theorem write_nil (m : Mth) (la ca : Option Addr) (lc cc : Nat) (cls : Int) {W : World} (hg : Glob W) (hE : Field W) (hM : MAt W m la lc ca) : Calls Tryz.prog 35 #[.pointer none, .int .u64 cls, m.v la lc ca cc] W (Still (.tuple #[.int .u64 0, .int .i64 (if m.ok = true then 1 else 4)]) W) := by
  have HCK := Lib.hid (fun W' (hF : Fr [] W W') => check_at m la ca lc cc W' (row_fr hM.code hF) (hE.fr hF))
  have HAN := Lib.hid (fun W' (hF : Fr [] W W') x n y => alloc_nil (hg.fr hF) x n y)
  cases hok : m.ok
  · rw [hok] at HCK
    simp only [Bool.false_eq_true, if_false] at HCK ⊢
    unfold Mth.v at HCK ⊢
    clear hok hM hE hg
    go_enter Tryz.func35, Tryz.ntmps35
    go_wp2_with fail
    refine (HCK.out _ ((Fr.refl _ _).alloc _)).mono ?_
    rintro e w2 ⟨rfl, hF⟩
    have HF : Hid (Fr [] W w2) := ((Fr.refl [] W).alloc _).trans hF
    clear hF
    go_wp2_with fail
    go_ret2
    exact ⟨rfl, HF.out⟩
  · rw [hok] at HCK
    simp only [if_true] at HCK ⊢
    have HEN := Lib.hid (fun W' (hF : Fr [] W W') => encoded_at m la ca lc cc W' (hM.fr0 hF) hok)
    have hi0 : ∀ W, Calls Tryz.prog 83 #[.int .i64 0] W (Gives (.int .u64 1) W) := by
      have e1 : wordOf 0 = 1 := by decide
      have := fun W => integer_gives 0 W (by decide)
      rw [e1] at this
      exact this
    obtain ⟨N, hN⟩ : ∃ N, N = m.fs.length := ⟨_, rfl⟩
    rw [← hN] at HEN
    unfold Mth.v at HCK HEN ⊢
    clear hM hE hg hok hN
    go_enter Tryz.func35, Tryz.ntmps35
    go_wp2_with fail
    refine (HCK.out _ ((Fr.refl _ _).alloc _)).mono ?_
    rintro e w2 ⟨rfl, hF2⟩
    have HF2 : Hid (Fr [] W w2) := ((Fr.refl [] W).alloc _).trans hF2
    have HB2 := Lib.hid (hF2.heap (by simp) (heap_new _ _))
    have k0 := cell_of_heap (o := 0) HB2.out rfl; have k1 := cell_of_heap (o := 1) HB2.out rfl; have k2 := cell_of_heap (o := 2) HB2.out rfl; have k3 := cell_of_heap (o := 3) HB2.out rfl; have k4 := cell_of_heap (o := 4) HB2.out rfl; have k5 := cell_of_heap (o := 5) HB2.out rfl
    clear hF2
    go_wp2_with fail
    refine (HEN.out _ HF2.out).mono ?_
    rintro e w3 ⟨v, rfl, hrow, hF3, hnew⟩
    obtain ⟨fa, fc, rfl⟩ := row_shape hrow
    have HF3 : Hid (Fr [] W w3) := HF2.out.trans hF3
    clear hrow hF3 hnew k0 k1 k2 k3 k4 k5
    go_wp2_with (first | (go_at_call 83; refine (hi0 _).mono ?_; rintro e w' ⟨rfl, rfl⟩) | (go_at_call 50; refine (HAN.out _ HF3.out _ _ _).mono ?_; rintro e w4 ⟨rfl, hF4⟩; have HF4 := Lib.hid (HF3.out.trans hF4); clear hF4))
    go_ret2
    exact ⟨rfl, HF4.out⟩
set_option maxRecDepth 100000 in
set_option maxHeartbeats 4000000 in
theorem codeWrites_walk (n : Int) (n1 : -9223372036854775808 ≤ n) (n2 : n ≤ 9223372036854775807) {w : World} {ao : Option Addr} {cap : Nat} (its : List (It × Int)) (hG : G4 w ao its) (hB : B4 its) (cls : Int) (hcls : WB cls) (m : Mth) (la : Option Addr) (lc : Nat) (ca : Option Addr) (cc : Nat) (hM : MIn w m la lc ca) (hg : Glob w) (hE : Field w) : Calls Tryz.prog 5 #[.int .i64 n, .slice ao its.length cap, .int .u64 cls, m.v la lc ca cc] w (Still (.bool true) w) := by
  have HAW := Lib.hid (fun W (hF : Fr [] w W) => awake4 W (hg.fr hF) (hE.fr hF))
  have HG := Lib.hid hg
  have HE := Lib.hid hE
  have HM := Lib.hid hM
  have HCK := Lib.hid (fun W (hF : Fr [] w W) => check_at m la ca lc cc W (row_fr hM.at_.code hF) (hE.fr hF))
  have HRC := Lib.hid (fun W (hF : Fr [] w W) => rcheck_at m la ca lc cc W (row_fr hM.at_.code hF) (Nat.le_trans hM.cl (by decide)))
  obtain ⟨R, hR⟩ : ∃ R : Int, R = (if m.ok = true then 0 else 4) := ⟨_, rfl⟩
  rw [← hR] at HCK HRC
  obtain ⟨N, hN⟩ : ∃ N, N = its.length := ⟨_, rfl⟩
  obtain ⟨c1, c2⟩ := hcls
  have HCL : Hid (WB cls) := ⟨c1, c2⟩
  by_cases hn : n < 64 ∨ 65536 < n
  · have hbo := both_no n (.slice ao its.length cap)
    rw [← hN] at hbo ⊢
    have HBO := Lib.hid (fun W => hbo W hn n1 n2)
    have HWN := Lib.hid (fun W (hF : Fr [] w W) => write_nil m la ca lc cc cls (hg.fr hF) (hE.fr hF) (hM.at_.fr0 hF))
    obtain ⟨E, hEE⟩ : ∃ E : Int, E = (if m.ok = true then 1 else 4) := ⟨_, rfl⟩
    rw [← hEE] at HWN
    have HEE := Lib.hid hEE
    unfold Mth.v at HWN ⊢
    clear hR hN hbo hEE hG hB hM hg hE HCK HRC
    go_enter Tryz.func5, Tryz.ntmps5
    go_wp2_with fail
    refine (HAW.out _ ((Fr.refl _ _).alloc _)).mono ?_
    rintro e w1 ⟨rfl, hF1⟩
    have HF1 : Hid (Fr [] w w1) := ((Fr.refl _ _).alloc _).trans hF1
    have HB1 := Lib.hid (hF1.heap (by simp) (heap_new w _))
    clear hF1
    go_wp2_with fail
    refine (HBO.out _).mono ?_
    rintro e w2 ⟨rfl, hF2⟩
    have HF2 := Lib.hid (HF1.out.trans hF2)
    have HB2 := Lib.hid (hF2.heap (by simp) HB1.out)
    have k0 := cell_of_heap (o := 0) HB2.out rfl; have k1 := cell_of_heap (o := 1) HB2.out rfl; have k2 := cell_of_heap (o := 2) HB2.out rfl; have k3 := cell_of_heap (o := 3) HB2.out rfl; have k4 := cell_of_heap (o := 4) HB2.out rfl; have k5 := cell_of_heap (o := 5) HB2.out rfl
    clear hF2
    go_wp2_with fail
    refine (HWN.out _ HF2.out).mono ?_
    rintro e w3 ⟨rfl, hF3⟩
    have HF3 := Lib.hid (HF2.out.trans hF3)
    clear hF3
    have hE14 : E = 1 ∨ E = 4 := by rw [HEE.out]; split <;> simp
    rcases hn with hn | hn
    · rcases hE14 with rfl | rfl
      · go_wp2_with fail
        go_ret
        exact ⟨rfl, HF3.out⟩
      · go_wp2_with fail
        go_ret
        exact ⟨rfl, HF3.out⟩
    · have hn' : ¬ n < 64 := by omega
      rcases hE14 with rfl | rfl
      · go_wp2_with fail
        go_ret
        exact ⟨rfl, HF3.out⟩
      · go_wp2_with fail
        go_ret
        exact ⟨rfl, HF3.out⟩
  · have hbo := fun W (hF : Fr [] w W) => both_at n (by omega) (by omega) (hg.fr hF) (cap := cap) its (hG.fr0 hF) hB
    rw [← hN] at hbo ⊢
    have HBO := Lib.hid hbo
    have hmx : Tryz.prog.follows .mixedOrders = true := by kernel_rfl
    have HMV : Hid (m.v la lc ca cc = .agg #[.int .i64 m.args, .int .i64 m.temps, .int .i64 m.stack, .int .i64 m.prim, .slice la m.lits.length lc, .slice ca m.code.length cc]) := Lib.hid rfl
    rw [HMV.out] at HCK HRC ⊢
    generalize hl1 : m.lits.length = ll at *
    generalize hl2 : m.code.length = nn at *
    clear hR hN hbo hG hB hM hg hE hl1 hl2
    go_enter Tryz.func5, Tryz.ntmps5
    go_wp2_with fail
    refine (HAW.out _ ((Fr.refl _ _).alloc _)).mono ?_
    rintro e w1 ⟨rfl, hF1⟩
    have HF1 : Hid (Fr [] w w1) := ((Fr.refl _ _).alloc _).trans hF1
    have HB1 := Lib.hid (hF1.heap (by simp) (heap_new w _))
    clear hF1
    go_wp2_with fail
    refine (HBO.out _ HF1.out).mono ?_
    rintro e w2 ⟨hb, mb, rb, os, root, hs, l, rfl, hI, ha, hT, -⟩
    have HI := Lib.hid hI
    have HA := Lib.hid ha
    have HT := Lib.hid hT
    have HB2 := Lib.hid (hT.fr.heap (by simp) HB1.out)
    have HF2 := Lib.hid (HF1.out.trans hT.fr)
    have HWR := two_turnsH hT (fun wv sv hH hBs => write_at m la ca lc cc cls HCL.out HM.out.wb (HG.out.fr HF1.out) (HE.out.fr HF1.out) hBs hI hH (HM.out.at_.fr0 HF2.out))
    rw [HMV.out] at HWR
    have HWRH := Lib.hid HWR
    have HI3 := Lib.hid (writeF_inv hI cls m HCL.out HM.out.wb)
    have k0 := cell_of_heap (o := 0) HB2.out rfl; have k1 := cell_of_heap (o := 1) HB2.out rfl; have k2 := cell_of_heap (o := 2) HB2.out rfl; have k3 := cell_of_heap (o := 3) HB2.out rfl; have k4 := cell_of_heap (o := 4) HB2.out rfl; have k5 := cell_of_heap (o := 5) HB2.out rfl
    clear hI ha hT HWR
    obtain ⟨X1, hX1⟩ : ∃ v, v = (writeF n os cls m).1 := ⟨_, rfl⟩
    obtain ⟨E1, hE1⟩ : ∃ v, v = (writeF n os cls m).2.1 := ⟨_, rfl⟩
    rw [← hX1, ← hE1] at HWRH
    have HX1 := Lib.hid hX1
    have HE1 := Lib.hid hE1
    clear hX1 hE1
    go_wp2_with fail
    refine HWRH.out.mono ?_
    rintro e w3 ⟨rfl, hT3⟩
    have HT3 := Lib.hid hT3
    have HB3 := Lib.hid (hT3.fr.heap (by simp) HB1.out)
    have HF3 := Lib.hid (HF1.out.trans hT3.fr)
    have HRW := two_rt hT3 (fun lv hR => rwrite_at m la ca lc cc cls HCL.out HM.out.wb (Nat.le_trans HM.out.cl (by decide)) HI.out HA.out hR (HM.out.at_.fr0 HF3.out))
    rw [HMV.out, ← HX1.out, ← HE1.out] at HRW
    have HRWH := Lib.hid HRW
    clear hT3 HRW k0 k1 k2 k3 k4 k5
    have k0 := cell_of_heap (o := 0) HB3.out rfl; have k1 := cell_of_heap (o := 1) HB3.out rfl; have k2 := cell_of_heap (o := 2) HB3.out rfl; have k3 := cell_of_heap (o := 3) HB3.out rfl; have k4 := cell_of_heap (o := 4) HB3.out rfl; have k5 := cell_of_heap (o := 5) HB3.out rfl
    go_wp2_with fail
    refine HRWH.out.mono ?_
    rintro e w4 ⟨rfl, l', ha', hT4⟩
    have HB4 := Lib.hid (hT4.fr.heap (by simp) HB1.out)
    have HF4 := Lib.hid (HF1.out.trans hT4.fr)
    have HAL : Hid (∀ W, Fr [] w4 W → Calls Tryz.prog 39 #[.pointer (some ⟨hb, 0, none⟩), .pointer (some ⟨rb, 0, none⟩)] W (Still (.bool true) W)) := Lib.hid fun W hF => by
      obtain ⟨wv, sv, lv, -, hH, hR, -⟩ := hT4
      exact alike_at HI3.out ha' (hH.fr hF (by simp) (fun _ _ => by simp)) (hR.fr0 hF)
    clear ha' hT4 k0 k1 k2 k3 k4 k5
    have k0 := cell_of_heap (o := 0) HB4.out rfl; have k1 := cell_of_heap (o := 1) HB4.out rfl; have k2 := cell_of_heap (o := 2) HB4.out rfl; have k3 := cell_of_heap (o := 3) HB4.out rfl; have k4 := cell_of_heap (o := 4) HB4.out rfl; have k5 := cell_of_heap (o := 5) HB4.out rfl
    go_wp2_with fail
    go_region_held3 (fun w' => w'.cell? ⟨w.heap.size, 0, none⟩ = some (.int .i64 m.args) ∧ w'.cell? ⟨w.heap.size, 1, none⟩ = some (.int .i64 m.temps) ∧ w'.cell? ⟨w.heap.size, 2, none⟩ = some (.int .i64 m.stack) ∧ w'.cell? ⟨w.heap.size, 3, none⟩ = some (.int .i64 m.prim) ∧ w'.cell? ⟨w.heap.size, 4, none⟩ = some (.slice la ll lc) ∧ w'.cell? ⟨w.heap.size, 5, none⟩ = some (.slice ca nn cc))
      (first | exact ⟨(HF7.out).cell (by simp) k0, (HF7.out).cell (by simp) k1, (HF7.out).cell (by simp) k2, (HF7.out).cell (by simp) k3, (HF7.out).cell (by simp) k4, (HF7.out).cell (by simp) k5⟩ | exact ⟨(HF6.out).cell (by simp) k0, (HF6.out).cell (by simp) k1, (HF6.out).cell (by simp) k2, (HF6.out).cell (by simp) k3, (HF6.out).cell (by simp) k4, (HF6.out).cell (by simp) k5⟩ | exact ⟨(HF5.out).cell (by simp) k0, (HF5.out).cell (by simp) k1, (HF5.out).cell (by simp) k2, (HF5.out).cell (by simp) k3, (HF5.out).cell (by simp) k4, (HF5.out).cell (by simp) k5⟩ | go_keep)
      (first
        | (go_at_call 37; refine (HCK.out _ (HF4.out.drew)).mono ?_; rintro e w5 ⟨rfl, hF5⟩; have HF5 : Hid (Fr [] w4 w5) := (Fr.refl [] w4).drew.trans hF5; clear hF5)
        | (go_at_call 38; refine (HRC.out _ (HF4.out.trans HF5.out)).mono ?_; rintro e w6 ⟨rfl, hF6⟩; have HF6 : Hid (Fr [] w4 w6) := HF5.out.trans hF6; clear hF6)
        | (go_at_call 39; refine (HAL.out _ HF6.out).mono ?_; rintro e w7 ⟨rfl, hF7⟩; have HF7 : Hid (Fr [] w4 w7) := HF6.out.trans hF7; clear hF7))
    go_wp2_with fail
    go_ret
    exact ⟨rfl, HF4.out.trans HF7.out⟩
end Go.Proofs.YtgpcidmlogbjbaaGreatDoor
