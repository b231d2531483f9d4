/- GcRoom, walked. -/
import Derived.Test.YtninigdcpeijhaaDoorMRuns
namespace Go.Proofs.YtninigdcpeijhaaDoor
open Go.RowKit

theorem inv_nil (lim : Int) (h1 : 64 ≤ lim) (h2 : lim ≤ 65536) : OInv lim [] 0 := ⟨h1, h2, by simp [endOf, flatW]; omega, by omega, by omega, by simp, by simp, ⟨by omega, by omega, fun i x hx => by simp at hx⟩⟩
theorem inv_nil' {lim n : Int} {os : List Ob} (h : OInv lim os n) : OInv lim [] n := ⟨h.l1, h.l2, by have := h.l1; simp [endOf, flatW]; omega, h.h0, h.h1, by simp, by simp, ⟨h.uq.1, h.uq.2.1, fun i x hx => by simp at hx⟩⟩
/-- what a heap holds that was loaded -/
theorem loaded_inv {its : List (It × Int)} {root n : Int} (hB : B4 its) (h : loadE 4096 (obsOf (its.map Prod.fst)) root n = 0) : OInv 4096 (obsOf (its.map Prod.fst)) n ∧ wordsOk (obsOf (its.map Prod.fst)) root = true ∧ ∀ o ∈ obsOf (its.map Prod.fst), o.2.2.length ≤ 512 := by
  obtain ⟨h1, h2, h3, h4⟩ := loadE_inv h
  refine ⟨OLoad.inv (r0 := 0) (.inl ⟨h, rfl, rfl, rfl⟩) (inv_nil 4096 (by omega) (by omega)) (fun o ho => ?_), h4, h1⟩
  obtain ⟨a, ha, rfl⟩ := List.mem_map.1 ho
  obtain ⟨p, hp, rfl⟩ := List.mem_map.1 ha
  exact hB.words p hp
set_option maxRecDepth 100000 in
set_option maxHeartbeats 4000000 in
theorem gcRoom_walk {ao : Option Addr} {cap : Nat} {w : World} (its : List (It × Int)) (hG : G4 w ao its) (hB : B4 its) (n : Int) (n1 : -9223372036854775808 ≤ n) (n2 : n ≤ 9223372036854775807) (hg : Glob w) :
    Calls Tryd.prog 3 #[.slice ao its.length cap, .int .i64 n] w (Still (.bool true) w) := by
  have hA := awake3 w hg
  have HG := Lib.hid hg
  have HG4 := Lib.hid hG
  have HB4 := Lib.hid hB
  obtain ⟨N, hN⟩ : ∃ N, N = its.length := ⟨_, rfl⟩
  have HN := Lib.hid hN
  rw [← hN]
  clear hg hG hB hN
  go_enter Tryd.func3, Tryd.ntmps3
  go_wp2_with fail
  refine hA.mono ?_
  rintro e w1 ⟨rfl, hF1⟩
  have hld := loaded3 (cap := cap) (HG.out.fr hF1) its (HG4.out.fr0 hF1) HB4.out 0 n ⟨by decide, by decide⟩ n1 n2
  rw [← HN.out] at hld
  have HF1 := Lib.hid hF1
  clear hA hF1
  go_wp2_with fail
  refine hld.mono ?_
  rintro e w2 ⟨hb, mb, ⟨h0, rfl, hL⟩ | ⟨rfl, hF2⟩⟩
  · obtain ⟨hI, hwo, hs5⟩ := loaded_inv HB4.out h0
    obtain ⟨os, hos⟩ : ∃ os, os = obsOf (its.map Prod.fst) := ⟨_, rfl⟩
    rw [← hos] at hL hI hwo hs5
    obtain ⟨wv, sv, hH, hF0, h1, h2⟩ := hL
    have hus := used_still (memory_at hH)
    rw [(absMem_len 4096 os 0 n).1] at hus
    have he : endOf os ≤ 4096 := by have := hI.fit; omega
    have he1 := endOf_pos os
    obtain ⟨E, hE⟩ : ∃ E, E = endOf os := ⟨_, rfl⟩
    rw [← hE] at hus he he1
    have HI := Lib.hid hI
    have HWO := Lib.hid hwo
    have HS5 := Lib.hid hs5
    have HH := Lib.hid hH
    have HF0 := Lib.hid hF0
    have H2 := Lib.hid h2
    have HE := Lib.hid hE
    clear hld h0 hos hI hwo hs5 hH hF0 h1 h2 hE
    go_wp2_with fail
    refine hus.mono ?_
    rintro e w3 ⟨rfl, hF3⟩
    have hrun := gcRun (W := w3) (ra := none) (rc := 0) ((HG.out.fr (HF1.out.trans HF0.out)).fr hF3) HI.out HWO.out HS5.out (HH.out.fr hF3 (by simp) (fun _ _ => by simp)) ⟨by decide, by decide⟩ [] (fun i x hx => by simp at hx) (by simp) (by simp) (by simp) (fun h => absurd rfl h)
    unfold Ran at hrun
    rw [(room_none os).1, (room_none os).2, ← HE.out] at hrun
    have HF3 := Lib.hid hF3
    clear hus hF3
    go_wp2_with fail
    refine hrun.mono ?_
    rintro e w4 ⟨v, rfl, hrow, -, wv', sv', hH4, hF4, -⟩
    obtain ⟨va, vc, rfl⟩ := row_shape hrow
    have e1 : (endOf ([] : List Ob) : Int) = 1 := by decide
    rw [e1]
    have HE4 : Hid (Fr [] w w4) := HF1.out.trans ((HF0.out.trans HF3.out).join hF4 H2.out)
    have hus4 := used_still (memory_at hH4)
    rw [(absMem_len 4096 [] 0 n).1] at hus4
    have e2 : endOf ([] : List Ob) = 1 := by decide
    rw [e2] at hus4
    have HH4 := Lib.hid hH4
    have HOB : Hid (∀ w5, Fr [] w4 w5 → Calls Tryd.prog 10 #[.pointer (some ⟨hb, 0, none⟩)] w5 fun e W' => ∃ ao cap, e = .returned (.slice ao 0 cap) ∧ Fr [] w5 W') := Lib.hid fun w5 hF => (objects_of (inv_nil' HI.out) (HH4.out.fr hF (by simp) (fun _ _ => by simp))).mono fun _ _ ⟨ao, cap, h1, _, h3, _⟩ => ⟨ao, cap, h1, h3⟩
    have HRT : Hid (∀ w5, Fr [] w4 w5 → Calls Tryd.prog 11 #[.pointer (some ⟨hb, 0, none⟩)] w5 (Still (.int .u64 0) w5)) := Lib.hid fun w5 hF => root_still (memory_at (HH4.out.fr hF (by simp) (fun _ _ => by simp)))
    clear hrun hrow hH4 hF4
    simp only [List.length_nil]
    go_wp2_with (first
      | (go_at_call 8; refine hus4.mono ?_; rintro e w5 ⟨rfl, hF5⟩; have hob := HOB.out w5 hF5; have HF5 := Lib.hid hF5; clear hF5)
      | (go_at_call 10; refine hob.mono ?_; rintro e w6 ⟨oa, oc, rfl, hF6⟩; have HF6 := Lib.hid (HF5.out.trans hF6); have hrt := HRT.out w6 (HF5.out.trans hF6); clear hF6)
      | (go_at_call 11; refine hrt.mono ?_; rintro e w7 ⟨rfl, hF7⟩; have HF7 := Lib.hid (HF6.out.trans hF7); clear hF7))
    go_ret
    exact ⟨rfl, HE4.out.trans HF7.out⟩
  · have HF2 := Lib.hid hF2
    clear hld hF2
    go_wp2_with fail
    go_ret
    exact ⟨rfl, HF1.out.trans HF2.out⟩
end Go.Proofs.YtninigdcpeijhaaDoor
