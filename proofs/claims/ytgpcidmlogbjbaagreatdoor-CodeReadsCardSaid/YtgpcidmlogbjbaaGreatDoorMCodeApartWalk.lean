/- CodeApart: two instructions that may be have two words, one has one. -/
import Derived.Test.YtgpcidmlogbjbaaGreatDoorMCodeD
namespace Go.Proofs.YtgpcidmlogbjbaaGreatDoor
open Go.RowKit

theorem eql_instr (i j : Ins) (W : World) : (binOp BinOp.eql 53 (.agg #[.int .i64 i.op, .int .i64 i.a, .int .i64 i.b]) (.agg #[.int .i64 j.op, .int .i64 j.a, .int .i64 j.b])).run Tryz.prog W = .ok (.bool (decide (i = j))) W := by
  obtain ⟨a, b, c⟩ := i
  obtain ⟨d, e, f⟩ := j
  by_cases h1 : a = d
  · subst h1
    by_cases h2 : b = e
    · subst h2
      by_cases h3 : c = f
      · subst h3
        go_simp
      · have h3' : (c == f) = false := by simp [h3]
        go_simp
    · have h2' : (b == e) = false := by simp [h2]
      go_simp
  · have h1' : (a == d) = false := by simp [h1]
    go_simp
theorem word_inj (i j : Ins) (hi : i.ok = true) (hj : j.ok = true) (h : wordOf i.num = wordOf j.num) : i = j := by
  have h1 := congrArg intOfW h
  rw [int_wordOf _ (i.fit hi), int_wordOf _ (j.fit hj)] at h1
  have h2 := congrArg insOf h1
  rwa [insOf_num i hi, insOf_num j hj] at h2
set_option maxRecDepth 100000 in
set_option maxHeartbeats 1600000 in
theorem codeApart_walk (i j : Ins) (w : World) (hg : Glob w) (hE : Field w) : Calls Tryz.prog 8 #[i.v, j.v] w (Still (.bool true) w) := by
  have HAW := Lib.hid (fun W (hF : Fr [] w W) => awake4 W (hg.fr hF) (hE.fr hF))
  have HP1 := Lib.hid (fun W (hF : Fr [] w W) => pack_at i W (hE.fr hF))
  have HP2 := Lib.hid (fun W (hF : Fr [] w W) => pack_at j W (hE.fr hF))
  have hq := eql_instr i j
  have HW1 := Lib.hid (wordOf_WB i.num)
  have HW2 := Lib.hid (wordOf_WB j.num)
  have HIN : Hid (i.ok = true → j.ok = true → i ≠ j → wordOf i.num ≠ wordOf j.num) := Lib.hid fun h1 h2 h3 h4 => h3 (word_inj i j h1 h2 h4)
  have HEQ : Hid (i = j → wordOf i.num = wordOf j.num) := Lib.hid fun h => by rw [h]
  obtain ⟨B, hB⟩ : ∃ B, B = decide (i = j) := ⟨_, rfl⟩
  rw [← hB] at hq
  have HB := Lib.hid hB
  obtain ⟨x, hx⟩ : ∃ x, x = wordOf i.num := ⟨_, rfl⟩
  obtain ⟨y, hy⟩ : ∃ y, y = wordOf j.num := ⟨_, rfl⟩
  rw [← hx] at HP1 HW1 HIN HEQ
  rw [← hy] at HP2 HW2 HIN HEQ
  obtain ⟨o1, ho1⟩ : ∃ o, o = i.ok := ⟨_, rfl⟩
  obtain ⟨o2, ho2⟩ : ∃ o, o = j.ok := ⟨_, rfl⟩
  rw [← ho1] at HP1 HIN
  rw [← ho2] at HP2 HIN
  obtain ⟨⟨x1, x2⟩, x3⟩ := HW1.out
  obtain ⟨⟨y1, y2⟩, y3⟩ := HW2.out
  rw [odd_iff] at x3 y3
  obtain ⟨X1, hX1⟩ : ∃ v, v = (if o1 = true then x else 0) := ⟨_, rfl⟩
  obtain ⟨E1, hE1⟩ : ∃ v : Int, v = (if o1 = true then 0 else 1) := ⟨_, rfl⟩
  obtain ⟨X2, hX2⟩ : ∃ v, v = (if o2 = true then y else 0) := ⟨_, rfl⟩
  obtain ⟨E2, hE2⟩ : ∃ v : Int, v = (if o2 = true then 0 else 1) := ⟨_, rfl⟩
  rw [← hX1, ← hE1] at HP1
  rw [← hX2, ← hE2] at HP2
  have HX1 := Lib.hid hX1
  have HE1 := Lib.hid hE1
  have HX2 := Lib.hid hX2
  have HE2 := Lib.hid hE2
  clear hX1 hE1 hX2 hE2
  unfold Ins.v at HP1 HP2 ⊢
  clear hB hx hy ho1 ho2 hg hE
  go_enter Tryz.func8, Tryz.ntmps8
  go_wp2_with fail
  refine (HAW.out _ (((Fr.refl _ _).alloc _).alloc _)).mono ?_
  rintro e w1 ⟨rfl, hF1⟩
  have HF1 : Hid (Fr [] w w1) := (((Fr.refl _ _).alloc _).alloc _).trans hF1
  have HI := Lib.hid (hF1.heap (by simp) (((Fr.refl [] _).alloc _).heap (by simp) (heap_new w _)))
  have HJ := Lib.hid (hF1.heap (by simp) (heap_new _ _))
  have hsz : (w.alloc (.cells #[.int .i64 i.op, .int .i64 i.a, .int .i64 i.b] 53)).heap.size = w.heap.size + 1 := by simp
  rw [hsz] at HJ
  have k0 := cell_of_heap (o := 0) HI.out rfl; have k1 := cell_of_heap (o := 1) HI.out rfl; have k2 := cell_of_heap (o := 2) HI.out rfl
  have l0 := cell_of_heap (o := 0) HJ.out rfl; have l1 := cell_of_heap (o := 1) HJ.out rfl; have l2 := cell_of_heap (o := 2) HJ.out rfl
  clear hF1 hsz
  go_wp2_with fail
  refine (HP1.out _ HF1.out).mono ?_
  rintro e w2 ⟨rfl, hF2⟩
  have HF2 : Hid (Fr [] w w2) := HF1.out.trans hF2
  have HI2 := Lib.hid (hF2.heap (by simp) HI.out)
  have HJ2 := Lib.hid (hF2.heap (by simp) HJ.out)
  clear hF2 k0 k1 k2 l0 l1 l2
  have l0 := cell_of_heap (o := 0) HJ2.out rfl; have l1 := cell_of_heap (o := 1) HJ2.out rfl; have l2 := cell_of_heap (o := 2) HJ2.out rfl
  go_wp2_with fail
  refine (HP2.out _ HF2.out).mono ?_
  rintro e w3 ⟨rfl, hF3⟩
  have HF3 : Hid (Fr [] w w3) := HF2.out.trans hF3
  have HI3 := Lib.hid (hF3.heap (by simp) HI2.out)
  have HJ3 := Lib.hid (hF3.heap (by simp) HJ2.out)
  clear hF3 l0 l1 l2
  cases o1
  · have hX1 : X1 = 0 := by simpa using HX1.out
    have hE1 : E1 = 1 := by simpa using HE1.out
    subst hX1
    subst hE1
    clear hq x1 x2 x3
    cases o2
    · have hX2 : X2 = 0 := by simpa using HX2.out
      have hE2 : E2 = 1 := by simpa using HE2.out
      subst hX2
      subst hE2
      go_wp2_with fail
      go_ret
      exact ⟨rfl, HF3.out⟩
    · have hX2 : X2 = y := by simpa using HX2.out
      have hE2 : E2 = 0 := by simpa using HE2.out
      subst hX2
      subst hE2
      go_wp2_with fail
      go_ret
      exact ⟨rfl, HF3.out⟩
  · have hX1 : X1 = x := by simpa using HX1.out
    have hE1 : E1 = 0 := by simpa using HE1.out
    subst hX1
    subst hE1
    cases o2
    · have hX2 : X2 = 0 := by simpa using HX2.out
      have hE2 : E2 = 1 := by simpa using HE2.out
      subst hX2
      subst hE2
      clear hq
      go_wp2_with fail
      go_ret
      exact ⟨rfl, HF3.out⟩
    · have hX2 : X2 = y := by simpa using HX2.out
      have hE2 : E2 = 0 := by simpa using HE2.out
      subst hX2
      subst hE2
      have k0 := cell_of_heap (o := 0) HI3.out rfl; have k1 := cell_of_heap (o := 1) HI3.out rfl; have k2 := cell_of_heap (o := 2) HI3.out rfl
      have l0 := cell_of_heap (o := 0) HJ3.out rfl; have l1 := cell_of_heap (o := 1) HJ3.out rfl; have l2 := cell_of_heap (o := 2) HJ3.out rfl
      cases B
      · have hne : X1 ≠ X2 := HIN.out rfl rfl (by have := HB.out; simpa using this.symm)
        have e1 : (X1 == X2) = false := by simp [hne]
        clear hne
        go_wp2_with fail
        go_ret
        exact ⟨rfl, HF3.out⟩
      · have hey : X1 = X2 := HEQ.out (by have := HB.out; simpa using this.symm)
        subst hey
        go_wp2_with fail
        go_ret
        exact ⟨rfl, HF3.out⟩
end Go.Proofs.YtgpcidmlogbjbaaGreatDoor
