/- CodePacks: instructions and their words, there and back. -/
import Derived.Test.YtgpcidmlogbjbaaGreatDoorMCodeApartWalk
import Derived.Test.YtgpcidmlogbjbaaGreatDoorMCodeD
namespace Go.Proofs.YtgpcidmlogbjbaaGreatDoor
open Go.RowKit

/-- the instruction that Unpack answers -/
def insAt (x : Int) : Ins := if insOk x = true then insOf (intOfW x) else ⟨0, 0, 0⟩
theorem insAt_v (x : Int) : (if insOk x = true then (insOf (intOfW x)).v else .agg #[.int .i64 0, .int .i64 0, .int .i64 0]) = (insAt x).v := by
  unfold insAt
  split <;> rfl
theorem unpack_ins (x : Int) (hx : WB x) (w : World) (hE : Field w) : Calls Tryz.prog 32 #[.int .u64 x] w (Still (.tuple #[(insAt x).v, .int .i64 (if insOk x = true then 0 else 4)]) w) := by
  have := unpack_at x hx w hE
  rw [← insAt_v]
  exact this
theorem runpack_ins (x : Int) (hx : WB x) (w : World) : Calls Tryz.prog 33 #[.int .u64 x] w (Still (.tuple #[(insAt x).v, .int .i64 (if insOk x = true then 0 else 4)]) w) := by
  have := runpack_at x hx w
  rw [insAt_v] at this
  exact this
set_option maxRecDepth 100000 in
set_option maxHeartbeats 1600000 in
theorem codePacks_walk (i : Ins) (x : Int) (hx : WB x) (w : World) (hg : Glob w) (hE : Field w) : Calls Tryz.prog 4 #[i.v, .int .u64 x] w (Still (.bool true) w) := by
  have HAW := Lib.hid (fun W (hF : Fr [] w W) => awake4 W (hg.fr hF) (hE.fr hF))
  have HP1 := Lib.hid (fun W (hF : Fr [] w W) => pack_at i W (hE.fr hF))
  have HP2 := Lib.hid (fun W => rpack_at i W)
  have HU1 := Lib.hid (fun W (hF : Fr [] w W) => unpack_ins x hx W (hE.fr hF))
  have HU2 := Lib.hid (fun W => runpack_ins x hx W)
  have HU3 : Hid (i.ok = true → ∀ W, Fr [] w W → Calls Tryz.prog 32 #[.int .u64 (wordOf i.num)] W (Still (.tuple #[i.v, .int .i64 0]) W)) := Lib.hid fun h W hF => by
    have := unpack_ins (wordOf i.num) (wordOf_WB _).1 W (hE.fr hF)
    unfold insAt at this
    rw [(insOk_word i h).1, (insOk_word i h).2] at this
    exact this
  have HP3 : Hid (insOk x = true → ∀ W, Fr [] w W → Calls Tryz.prog 30 #[(insAt x).v] W (Still (.tuple #[.int .u64 x, .int .i64 0]) W)) := Lib.hid fun h W hF => by
    have e : insAt x = insOf (intOfW x) := by unfold insAt; rw [if_pos h]
    have h2 : (insOf (intOfW x)).ok = true := by unfold insOk at h; simp only [Bool.and_eq_true] at h; exact h.2
    have := pack_at (insAt x) W (hE.fr hF)
    rw [e, h2, insOk_back x hx h] at this
    rw [e]
    exact this
  have hq1 := neq_instr i i
  obtain ⟨u, hu⟩ : ∃ u, u = insAt x := ⟨_, rfl⟩
  rw [← hu] at HU1 HU2 HP3
  have hq2 := neq_instr u u
  simp only [ne_eq, not_true_eq_false, decide_false] at hq1 hq2
  obtain ⟨y, hy⟩ : ∃ y, y = wordOf i.num := ⟨_, rfl⟩
  rw [← hy] at HP1 HP2 HU3
  have HW1 := Lib.hid (wordOf_WB i.num)
  rw [← hy] at HW1
  obtain ⟨⟨y1, y2⟩, -⟩ := HW1.out
  obtain ⟨x1, x2⟩ := hx
  obtain ⟨o1, ho1⟩ : ∃ o, o = i.ok := ⟨_, rfl⟩
  obtain ⟨o2, ho2⟩ : ∃ o, o = insOk x := ⟨_, rfl⟩
  rw [← ho1] at HP1 HP2 HU3
  rw [← ho2] at HU1 HU2 HP3
  obtain ⟨X1, hX1⟩ : ∃ v, v = (if o1 = true then y else 0) := ⟨_, rfl⟩
  obtain ⟨E1, hE1⟩ : ∃ v : Int, v = (if o1 = true then 0 else 1) := ⟨_, rfl⟩
  obtain ⟨E2, hE2⟩ : ∃ v : Int, v = (if o2 = true then 0 else 4) := ⟨_, rfl⟩
  rw [← hX1, ← hE1] at HP1 HP2
  rw [← hE2] at HU1 HU2
  have HX1 := Lib.hid hX1
  have HE1 := Lib.hid hE1
  have HE2 := Lib.hid hE2
  unfold Ins.v at HP1 HP2 HU1 HU2 HU3 HP3 ⊢
  clear hX1 hE1 hE2 hu hy ho1 ho2 hg hE HW1
  go_enter Tryz.func4, Tryz.ntmps4
  go_wp2_with fail
  refine (HAW.out _ ((Fr.refl _ _).alloc _)).mono ?_
  rintro e w1 ⟨rfl, hF1⟩
  have HF1 : Hid (Fr [] w w1) := ((Fr.refl _ _).alloc _).trans hF1
  have HI := Lib.hid (hF1.heap (by simp) (heap_new w _))
  have k0 := cell_of_heap (o := 0) HI.out rfl; have k1 := cell_of_heap (o := 1) HI.out rfl; have k2 := cell_of_heap (o := 2) HI.out rfl
  clear hF1
  go_wp2_with fail
  refine (HP1.out _ HF1.out).mono ?_
  rintro e w2 ⟨rfl, hF2⟩
  have HF2 : Hid (Fr [] w w2) := HF1.out.trans hF2
  have HI2 := Lib.hid (hF2.heap (by simp) HI.out)
  clear hF2 k0 k1 k2
  have k0 := cell_of_heap (o := 0) HI2.out rfl; have k1 := cell_of_heap (o := 1) HI2.out rfl; have k2 := cell_of_heap (o := 2) HI2.out rfl
  go_wp2_with fail
  refine (HP2.out _).mono ?_
  rintro e w3 ⟨rfl, hF3⟩
  have HF3 : Hid (Fr [] w w3) := HF2.out.trans hF3
  have HI3 := Lib.hid (hF3.heap (by simp) HI2.out)
  clear hF3 k0 k1 k2
  go_wp2_with fail
  refine (HU1.out _ HF3.out).mono ?_
  rintro e w4 ⟨rfl, hF4⟩
  have HF4 : Hid (Fr [] w w4) := HF3.out.trans hF4
  have HI4 := Lib.hid (hF4.heap (by simp) HI3.out)
  clear hF4
  go_wp2_with fail
  refine (HU2.out _).mono ?_
  rintro e w5 ⟨rfl, hF5⟩
  have HF5 : Hid (Fr [] w w5) := (HF4.out.alloc _).trans hF5
  have HI5 := Lib.hid (hF5.heap (by simp) (((Fr.refl [] _).alloc _).heap (by simp) HI4.out))
  have HC5 := Lib.hid (hF5.heap (by simp) (heap_new w4 _))
  have hlt5 : w4.heap.size < w5.heap.size := lt_of_heap HC5.out
  have hlt4 : w.heap.size < w4.heap.size := lt_of_heap HI4.out
  have c0 := cell_of_heap (o := 0) HC5.out rfl; have c1 := cell_of_heap (o := 1) HC5.out rfl; have c2 := cell_of_heap (o := 2) HC5.out rfl
  clear hF5
  obtain ⟨W6, hW6⟩ : ∃ W6, W6 = w5.alloc (.cells #[.int .i64 u.op, .int .i64 u.a, .int .i64 u.b] 53) := ⟨_, rfl⟩
  have HF6 : Hid (Fr [] w W6) := by rw [hW6]; exact HF5.out.alloc _
  have HI6 : Hid (W6.heap[w.heap.size]? = some (.cells #[.int .i64 i.op, .int .i64 i.a, .int .i64 i.b] 53 (0, 0))) := by rw [hW6]; exact ((Fr.refl [] _).alloc _).heap (by simp) HI5.out
  have HC6 : Hid (W6.heap[w4.heap.size]? = some (.cells #[.int .i64 u.op, .int .i64 u.a, .int .i64 u.b] 53 (0, 0))) := by rw [hW6]; exact ((Fr.refl [] _).alloc _).heap (by simp) HC5.out
  have HW6 := Lib.hid hW6
  clear hW6
  cases o1
  · have hX1 : X1 = 0 := by simpa using HX1.out
    have hE1 : E1 = 1 := by simpa using HE1.out
    subst hX1
    subst hE1
    go_upto_region 12 with (fail)
    rw [← HW6.out]
    clear c0 c1 c2
    cases o2
    · have hE2 : E2 = 4 := by simpa using HE2.out
      subst hE2
      go_wp2_with fail
      go_ret
      exact ⟨rfl, HF6.out⟩
    · have hE2 : E2 = 0 := by simpa using HE2.out
      subst hE2
      have c0 := cell_of_heap (o := 0) HC6.out rfl; have c1 := cell_of_heap (o := 1) HC6.out rfl; have c2 := cell_of_heap (o := 2) HC6.out rfl
      go_wp2_with fail
      refine (HP3.out trivial _ HF6.out).mono ?_
      rintro e w7 ⟨rfl, hF7⟩
      have HF7 := Lib.hid (HF6.out.trans hF7)
      clear hF7
      go_wp2_with fail
      go_ret
      exact ⟨rfl, HF7.out⟩
  · have hX1 : X1 = y := by simpa using HX1.out
    have hE1 : E1 = 0 := by simpa using HE1.out
    subst hX1
    subst hE1
    go_upto_region 9 with (fail)
    rw [← HW6.out]
    clear c0 c1 c2
    go_wp2_with fail
    refine (HU3.out trivial _ HF6.out).mono ?_
    rintro e w7 ⟨rfl, hF7⟩
    have HF7 := Lib.hid (HF6.out.trans hF7)
    have HI7 := Lib.hid (hF7.heap (by simp) HI6.out)
    have HC7 := Lib.hid (hF7.heap (by simp) HC6.out)
    have hlt7 : w.heap.size < w7.heap.size := lt_of_heap HI7.out
    have hlt7' : w4.heap.size < w7.heap.size := lt_of_heap HC7.out
    have k0 := cell_of_heap (o := 0) HI7.out rfl; have k1 := cell_of_heap (o := 1) HI7.out rfl; have k2 := cell_of_heap (o := 2) HI7.out rfl
    have c0 := cell_of_heap (o := 0) HC7.out rfl; have c1 := cell_of_heap (o := 1) HC7.out rfl; have c2 := cell_of_heap (o := 2) HC7.out rfl
    clear hF7
    cases o2
    · have hE2 : E2 = 4 := by simpa using HE2.out
      subst hE2
      go_wp2_with fail
      go_ret
      exact ⟨rfl, HF7.out.alloc _⟩
    · have hE2 : E2 = 0 := by simpa using HE2.out
      subst hE2
      go_wp2_with fail
      refine (HP3.out trivial _ (HF7.out.alloc _)).mono ?_
      rintro e w8 ⟨rfl, hF8⟩
      have HF8 := Lib.hid ((HF7.out.alloc _).trans hF8)
      clear hF8
      go_wp2_with fail
      go_ret
      exact ⟨rfl, HF8.out⟩
end Go.Proofs.YtgpcidmlogbjbaaGreatDoor
