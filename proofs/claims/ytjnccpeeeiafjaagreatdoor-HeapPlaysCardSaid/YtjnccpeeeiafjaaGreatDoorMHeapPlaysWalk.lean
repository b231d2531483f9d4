/- HeapPlays, walked. -/
import Derived.Test.YtjnccpeeeiafjaaGreatDoorMAlike
import Derived.Test.YtjnccpeeeiafjaaGreatDoorMAwake
namespace Go.Proofs.YtjnccpeeeiafjaaGreatDoor
open Go.RowKit

set_option maxRecDepth 100000 in
set_option maxHeartbeats 8000000 in
theorem heapPlays_walk (a0 : Int) (b1 : -9223372036854775808 ≤ a0) (b2 : a0 ≤ 9223372036854775807) {ao : Option Addr} {len cap : Nat} (w : World) (hg : Glob w) (hO : OpsAt w ao len) :
    Calls Tryz.prog 3 #[.int .i64 a0, .slice ao len cap] w (Still (.bool true) w) := by
  have hA := awake_still w hg
  have HG := Lib.hid hg
  have HO := Lib.hid hO
  clear hg hO
  by_cases hin : 64 ≤ a0 ∧ a0 ≤ 65536
  · obtain ⟨l1, l2⟩ := hin
    go_enter Tryz.func3, Tryz.ntmps3
    go_wp2_with fail
    refine hA.mono ?_
    rintro e w1 ⟨rfl, hF⟩
    have HF := Lib.hid hF
    have HG1 := Lib.hid (HG.out.fr hF)
    have HO1 := Lib.hid (HO.out.fr0 hF)
    have hNew := live_new a0 w1 l1 l2
    have hRN := fun W => rnew a0 W l1 l2
    have HRN := Lib.hid hRN
    clear hF hA hRN
    go_wp2_with (first
      | (go_at_call 11; refine hNew.mono ?_; rintro e w2 ⟨hb, mb, rfl, hLv⟩; have HLV := Lib.hid hLv; have hrn := HRN.out w2; clear hLv)
      | (go_at_call 12; refine hrn.mono ?_; rintro e w3 ⟨rfl, hR, hF⟩; obtain ⟨rb, hrb⟩ : ∃ rb, rb = w2.heap.size := ⟨_, rfl⟩; have HP : Hid (Pair w1 [] hb mb rb a0 w3) := (by rw [hrb]; exact pair_new l1 l2 HLV.out hF hR (fun k hk => by simp [rfoot, Value.ownBlock] at hk; omega)); rw [← hrb]; clear hR hF hrb))
    go_loopw [10] (fun i wr => ∃ k : Nat, k ≤ 300 ∧ i = .int .i64 k ∧ Hid (Pair w1 [] hb mb rb a0 wr)) (fun i _ => 300 - (intOf i).toNat)
    case atStart => exact ⟨0, Nat.zero_le _, rfl, HP⟩
    case round =>
      obtain ⟨k, hk, rfl, hPk⟩ := hrel
      by_cases hlt : k < len ∧ k < 300
      · obtain ⟨h1, h2⟩ := hlt
        obtain ⟨g, o, what, V, Wd, I, J, N, lo, lc, its, rfl, hOp, c0, c1, c2, c3, c4, c5, c6⟩ := HO1.out k h1
        have hFk := hPk.out.fr
        have d0 := hFk.cell (by simp) c0
        have d1 := hFk.cell (by simp) c1
        have d2 := hFk.cell (by simp) c2
        have d3 := hFk.cell (by simp) c3
        have d4 := hFk.cell (by simp) c4
        have d5 := hFk.cell (by simp) c5
        have d6 := hFk.cell (by simp) c6
        have hst := step_any HG1.out hPk.out hOp
        unfold opCells at hst
        generalize its.length = il at *
        clear c0 c1 c2 c3 c4 c5 c6 hFk hOp hNew hrn HP
        go_wp2_with (first | (go_at_call 13; refine hst.mono ?_; rintro e w4 ⟨rfl, hP4⟩; have HP4 := Lib.hid hP4; clear hP4))
        go_roundw
        case rel => exact ⟨k + 1, by omega, by go_num, HP4⟩
        case measure => simp [intOf]; omega
      · have hal := alike_true hPk.out
        have HPF := Lib.hid (HF.out.trans hPk.out.fr)
        by_cases h1 : k < len
        · have h2 : 300 ≤ k := by omega
          clear hlt
          go_wp2_with (first | (go_at_call 14; refine hal.mono ?_; rintro e w4 ⟨rfl, hF4⟩; have HF4 := Lib.hid hF4; clear hF4))
          go_ret
          exact ⟨rfl, HPF.out.trans HF4.out⟩
        · clear hlt
          go_wp2_with (first | (go_at_call 14; refine hal.mono ?_; rintro e w4 ⟨rfl, hF4⟩; have HF4 := Lib.hid hF4; clear hF4))
          go_ret
          exact ⟨rfl, HPF.out.trans HF4.out⟩
  · have hno : a0 < 64 ∨ 65536 < a0 := by omega
    have h1 := fun W => new_no a0 W hno
    have h2 := fun W => rnew_no a0 W hno b1 b2
    have H1 := Lib.hid h1
    have H2 := Lib.hid h2
    clear h1 h2 hin hno
    go_enter Tryz.func3, Tryz.ntmps3
    go_wp2_with fail
    refine hA.mono ?_
    rintro e w1 ⟨rfl, hF⟩
    have HF := Lib.hid hF
    have hn1 := H1.out w1
    have hn2 := H2.out w1
    clear hF hA
    go_wp2_with (first
      | (go_at_call 11; refine hn1.mono ?_; rintro e w2 ⟨rfl, rfl⟩)
      | (go_at_call 12; refine hn2.mono ?_; rintro e w3 ⟨rfl, rfl⟩))
    go_loopw [10] (fun i wr => i = .int .i64 0 ∧ wr = w1) (fun _ _ => 0)
    case atStart => exact ⟨rfl, rfl⟩
    case round =>
      obtain ⟨rfl, hwr⟩ := hrel
      have HWR := Lib.hid hwr
      clear hwr
      go_wp2
      go_ret
      exact ⟨rfl, by rw [HWR.out]; exact HF.out⟩
end Go.Proofs.YtjnccpeeeiafjaaGreatDoor
