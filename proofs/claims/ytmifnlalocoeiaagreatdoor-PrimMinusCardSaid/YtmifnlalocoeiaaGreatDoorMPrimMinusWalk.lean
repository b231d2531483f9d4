/- PrimMinus, walked. -/
import Derived.Test.YtmifnlalocoeiaaGreatDoorMPrmMinus
import Derived.Test.YtmifnlalocoeiaaGreatDoorMPrmLoad
namespace Go.Proofs.YtmifnlalocoeiaaGreatDoor
open Go.RowKit

theorem minus_none {x : Int} (hx : WB x) (h : minusW x = none) : x % 2 = 0 ∨ x = 9223372036854775809 := by
  unfold minusW at h
  by_cases ho : odd x = true
  · by_cases hf : fit (-(intOfW x)) = true
    · rw [if_pos ⟨ho, hf⟩] at h; cases h
    · rw [fit_iff] at hf
      rw [odd_iff] at ho
      unfold WB at hx
      unfold intOfW wrap64 at hf
      omega
  · rw [odd_iff] at ho
    omega
theorem minus_some {x v : Int} (hx : WB x) (h : minusW x = some v) : x % 2 = 1 ∧ WB v ∧ minusW v = some x := by
  unfold minusW at h
  by_cases ho : odd x = true
  · by_cases hf : fit (-(intOfW x)) = true
    · rw [if_pos ⟨ho, hf⟩] at h
      obtain rfl := Option.some.inj h
      refine ⟨(odd_iff x).1 ho, (wordOf_WB _).1, ?_⟩
      unfold minusW
      rw [int_wordOf _ hf, Int.neg_neg, if_pos ⟨(wordOf_WB _).2, intOfW_fit x⟩, wordOf_int x hx ho]
    · rw [if_neg (fun e => hf e.2)] at h; cases h
  · rw [if_neg (fun e => ho e.1)] at h; cases h
theorem minus_five : minusW 11 = some 18446744073709551607 := by
  have e : intOfW 11 = 5 := by unfold intOfW wrap64; omega
  unfold minusW
  rw [e]
  rfl
theorem minus_least : minusW 9223372036854775809 = none := by
  have e : intOfW 9223372036854775809 = -4611686018427387904 := by unfold intOfW wrap64; omega
  unfold minusW
  rw [e]
  rfl
set_option maxRecDepth 100000 in
set_option maxHeartbeats 1000000 in
theorem awake9 (w : World) : Calls Tryz.prog 4 #[] w (Still (.bool true) w) := by
  have hn := fun w => live_new 64 w (by omega) (by omega)
  have r1 := fun hp w => run_11 11 hp none 0 w ⟨by omega, by omega⟩
  have r2 := fun hp w => run_11 9223372036854775809 hp none 0 w ⟨by omega, by omega⟩
  rw [minus_five] at r1
  rw [minus_least] at r2
  simp only [negV] at r1 r2
  have r3 := fun hp ao w => run_11_no 11 hp ao 1 w
  have r4 := fun hp w => run_12 11 hp none 0 0 w
  go_enter Tryz.func4, Tryz.ntmps4
  go_wp2_with fail
  refine (hn _).mono ?_
  rintro e w1 ⟨hb, mb, rfl, hL⟩
  have HF1 := Lib.hid hL.fr
  clear hL hn
  go_wp2_with fail
  refine (r1 _ _).mono ?_
  rintro e w2 ⟨rfl, hF⟩
  have HF2 := Lib.hid (HF1.out.trans hF)
  clear hF r1
  go_wp2_with fail
  refine (r2 _ _).mono ?_
  rintro e w3 ⟨rfl, hF⟩
  have HF3 := Lib.hid (HF2.out.trans hF)
  clear hF r2
  go_wp2_with fail
  refine (r3 _ _ _).mono ?_
  rintro e w4 ⟨rfl, hF⟩
  have HF4 := Lib.hid ((HF3.out.alloc _).trans hF)
  clear hF r3
  go_wp2_with fail
  refine (r4 _ _).mono ?_
  rintro e w5 ⟨rfl, hF⟩
  have HF5 := Lib.hid (HF4.out.trans hF)
  clear hF r4
  go_wp2_with fail
  go_ret
  exact ⟨rfl, HF5.out⟩
set_option maxRecDepth 100000 in
set_option maxHeartbeats 2000000 in
theorem primMinus_walk {w : World} (hg : Glob w) (x : Int) (hx : WB x) : Calls Tryz.prog 3 #[.int .u64 x] w (Still (.bool true) w) := by
  have hA := fun w' => awake9 w'
  have hLd := fun w' (hF : Fr [] w w') => loaded9 200 264 (by decide) (ao := none) (cap := 0) (hg.fr hF) ([] : List (It × Int)) ⟨(fun j u h => by simp [flat4] at h), (fun o h => by cases h), (fun o h => by cases h)⟩ ⟨by simp, (fun o h => by cases h), (fun o h => by cases h), (fun o h => by cases h)⟩ 0 0 ⟨by omega, by omega⟩ (by omega) (by omega)
  simp only [List.length_nil] at hLd
  have r1 := fun hp w => run_11 x hp none 0 w hx
  cases hm : minusW x with
  | none =>
    have hn := minus_none hx hm
    rw [hm] at r1
    simp only [negV] at r1
    have HN : Hid ((x % 2 == 0) = true ∨ (x == 9223372036854775809) = true) := by
      rcases hn with h | h
      · exact .inl (by simpa using h)
      · exact .inr (by simpa using h)
    have hx1 := hx.1
    have hx2 := hx.2
    clear hm hn hg hx
    rcases HN.out with h1 | h1
    · go_enter Tryz.func3, Tryz.ntmps3
      go_wp2_with fail
      refine (hA _).mono ?_
      rintro e w1 ⟨rfl, hF1⟩
      have HF1 := Lib.hid hF1
      clear hF1 hA
      go_wp2_with fail
      refine (hLd _ HF1.out).mono ?_
      rintro e w2 ⟨hb, mb, rb, os, root, hs, l, rfl, -, -, hT, -⟩
      have HF2 := Lib.hid (HF1.out.trans hT.fr)
      clear hT hLd
      go_wp2_with fail
      refine (r1 _ _).mono ?_
      rintro e w3 ⟨rfl, hF⟩
      have HF3 := Lib.hid (HF2.out.trans hF)
      clear hF r1
      go_wp2_with fail
      go_ret
      exact ⟨rfl, HF3.out⟩
    · have h2 : x = 9223372036854775809 := by simpa using h1
      subst h2
      go_enter Tryz.func3, Tryz.ntmps3
      go_wp2_with fail
      refine (hA _).mono ?_
      rintro e w1 ⟨rfl, hF1⟩
      have HF1 := Lib.hid hF1
      clear hF1 hA
      go_wp2_with fail
      refine (hLd _ HF1.out).mono ?_
      rintro e w2 ⟨hb, mb, rb, os, root, hs, l, rfl, -, -, hT, -⟩
      have HF2 := Lib.hid (HF1.out.trans hT.fr)
      clear hT hLd
      go_wp2_with fail
      refine (r1 _ _).mono ?_
      rintro e w3 ⟨rfl, hF⟩
      have HF3 := Lib.hid (HF2.out.trans hF)
      clear hF r1
      go_wp2_with fail
      go_ret
      exact ⟨rfl, HF3.out⟩
  | some v =>
    obtain ⟨h1, h2, h3⟩ := minus_some hx hm
    have r2 := fun hp w => run_11 v hp none 0 w h2
    rw [hm] at r1
    rw [h3] at r2
    simp only [negV] at r1 r2
    have h4 : (x % 2 == 1) = true := by simpa using h1
    have hx1 := hx.1
    have hx2 := hx.2
    clear hm hg hx h1 h2 h3
    go_enter Tryz.func3, Tryz.ntmps3
    go_wp2_with fail
    refine (hA _).mono ?_
    rintro e w1 ⟨rfl, hF1⟩
    have HF1 := Lib.hid hF1
    clear hF1 hA
    go_wp2_with fail
    refine (hLd _ HF1.out).mono ?_
    rintro e w2 ⟨hb, mb, rb, os, root, hs, l, rfl, -, -, hT, -⟩
    have HF2 := Lib.hid (HF1.out.trans hT.fr)
    clear hT hLd
    go_wp2_with fail
    refine (r1 _ _).mono ?_
    rintro e w3 ⟨rfl, hF⟩
    have HF3 := Lib.hid (HF2.out.trans hF)
    clear hF r1
    go_wp2_with fail
    refine (r2 _ _).mono ?_
    rintro e w4 ⟨rfl, hF⟩
    have HF4 := Lib.hid (HF3.out.trans hF)
    clear hF r2
    go_wp2_with fail
    go_ret
    exact ⟨rfl, HF4.out⟩
end Go.Proofs.YtmifnlalocoeiaaGreatDoor
