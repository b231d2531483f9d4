/- ImageCut: an image that is cut off, or goes on, is none. -/
import Derived.Test.YtfhhjdfdfbelgaaGreatDoorMImgE
namespace Go.Proofs.YtfhhjdfdfbelgaaGreatDoor
open Go.RowKit

set_option maxRecDepth 100000 in
set_option maxHeartbeats 3200000 in
theorem imageCut_walk {ao : Option Addr} {cap : Nat} (its : List (It × Int)) (rt hs0 at_ : Int) (w : World) {bT bF : Addr} (hg : Glob w) (hI : IGlob w bT bF) (hG : G4 w ao its) (hB : B4 its) (hrt : WB rt) (hh1 : -9223372036854775808 ≤ hs0) (hh2 : hs0 ≤ 9223372036854775807) (hw1 : -9223372036854775808 ≤ at_) (hw2 : at_ ≤ 9223372036854775807) : Calls Tryz.prog 7 #[.slice ao its.length cap, .int .u64 rt, .int .i64 hs0, .int .i64 at_] w (Still (.bool true) w) := by
  have HAW := Lib.hid (fun W (hF : Fr [] w W) => awake6 (hg.fr hF) (hI.still hF))
  have HLO := Lib.hid (fun W (hF : Fr [] w W) => loaded6 (cap := cap) 4096 (by omega) (by omega) (hg.fr hF) its (hG.fr0 hF) hB rt hs0 hrt hh1 hh2)
  have HRT := Lib.hid hrt
  have HG := Lib.hid hg
  have HI := Lib.hid hI
  obtain ⟨n6, hn6⟩ : ∃ k, bits .and .i64 at_ 65535 = k := ⟨_, rfl⟩
  have hb1 : 0 ≤ n6 ∧ n6 ≤ 65535 := by rw [← hn6]; exact and_mask at_ 65535 (by omega)
  obtain ⟨hb1, hb2⟩ := hb1
  generalize its.length = n at *
  clear hg hI hG hB hrt
  go_enter Tryz.func7, Tryz.ntmps7
  go_wp2_with fail
  refine (HAW.out _ (Fr.refl _ _)).mono ?_
  rintro e w1 ⟨rfl, hF1⟩
  have HF1 := Lib.hid hF1
  clear hF1
  go_wp2_with fail
  refine (HLO.out _ HF1.out).mono ?_
  intro e w2 hb6
  obtain ⟨hb, mb, rb, os, root, hs, wv, sv, rfl, hH⟩ := hb6.had (by omega) HRT.out
  have HH := Lib.hid hH
  have HF2 : Hid (Fr [] w w2) := HF1.out.trans hH.fr
  obtain ⟨hl1, hl2⟩ := hH.len
  have HEN := Lib.hid (fun W (hF : Fr [] w2 W) => (hH.still hF).encode)
  have HIM := Lib.hid hH.image
  have HCT : Hid (∀ k, k < 28 + 8 * words3 os → decI ((encI root hs os).take k) = none) := Lib.hid fun k hk => dec_cut hH.rootB ⟨hH.inv.h0, by have := hH.inv.h1; omega⟩ (good_obs hH.inv hH.sizes) hH.lens (by rw [hH.image.2]; exact hk)
  have HMO : Hid (∀ x, x ≠ [] → decI (encI root hs os ++ x) = none) := Lib.hid fun x hx => dec_more hH.rootB ⟨hH.inv.h0, by have := hH.inv.h1; omega⟩ (good_obs hH.inv hH.sizes) hH.lens hx
  obtain ⟨q, hq⟩ : ∃ q, q = words3 os := ⟨_, rfl⟩
  rw [← hq] at HEN HIM hl1 HCT
  have hqb : q ≤ 65535 := by omega
  clear hb6 hH hq
  go_wp2_with fail
  refine (HEN.out _ (Fr.refl _ _)).mono ?_
  rintro e w3 ⟨va, vc, rfl, hA, hc, hF3, hnw⟩
  have HF3 := Lib.hid hF3
  have HA := Lib.hid hA
  obtain ⟨X, hX⟩ : ∃ X : Nat, n6 % (28 + 8 * (q : Int)) = (X : Int) := ⟨(n6 % (28 + 8 * (q : Int))).toNat, by have := Int.emod_nonneg n6 (show (28 + 8 * (q : Int)) ≠ 0 by omega); omega⟩
  have hX1 : X < 28 + 8 * q := by have := Int.emod_lt_of_pos n6 (show (0 : Int) < 28 + 8 * (q : Int) by omega); omega
  have hXc : X ≤ vc := by omega
  have HF23 : Hid (Fr [] w w3) := HF2.out.trans hF3
  have HD1 : Hid (Calls Tryz.prog 9 #[.slice va X vc, .int .i64 4096] w3 (Decoded6 4096 ((encI root hs os).take X) w3)) := Lib.hid (by
    have hl : ((encI root hs os).take X).length = X := by rw [List.length_take, HIM.out.2]; omega
    have := decode_at (cap := vc) 4096 (by omega) (by omega) (HG.out.fr HF23.out) (HI.out.still HF23.out) (bs := (encI root hs os).take X) (fun i x hx => by
      rw [List.getElem?_take] at hx
      split at hx
      · exact hA i x hx
      · cases hx) (fun x hx => encI_byte _ _ _ x (List.mem_of_mem_take hx)) (by rw [hl]; exact hXc) (by rw [hl]; omega)
    rw [hl] at this
    exact this)
  have HX1 := Lib.hid hX1
  clear hF3 HEN hl1 hl2 hA
  go_wp2_with fail
  refine HD1.out.mono ?_
  intro e w4 hd
  obtain ⟨rfl, hF4⟩ := hd.no (decE_none (HCT.out X HX1.out)) (by decide)
  have HF4 := Lib.hid (HF23.out.trans hF4)
  have HA4 := Lib.hid (HA.out.fr hF4 (fun _ _ => by simp))
  clear hd hF4 HD1 hX hX1 hXc
  obtain ⟨L, hL⟩ : ∃ L, L = 28 + 8 * q := ⟨_, rfl⟩
  have hL0 : 0 < L := by omega
  have hLb : L ≤ 1000000 := by omega
  have hIM := HIM.out.2
  rw [← hL] at hIM
  have HIL := Lib.hid hIM
  have hLi : (28 + 8 * (q : Int)) = (L : Int) := by omega
  rw [← hL]
  obtain ⟨g, o, rfl, -⟩ := HA4.out 0 84 rfl
  obtain ⟨i0, hi0, hz0, hz1, hz2⟩ := info_parts infoB
  have HR0 : Hid ((w4.alloc (.cells #[] 5)).ownsRow 0 5 1 (.slice (some ⟨w4.heap.size, 0, none⟩) 0 0) 0 []) :=
    ⟨rfl, .inr ⟨w4.heap.size, 0, #[], rfl, Nat.zero_le _, heap_new _ _, Nat.le_refl _, Nat.zero_le _, rfl, rfl⟩⟩
  have HN0 : Hid (∀ (j : Nat) u, (u8s (encI root hs os))[j]? = some u → (w4.alloc (.cells #[] 5)).cell? ((⟨g, o, none⟩ : Addr).add j) = some u) := Lib.hid fun j u hu => by
    obtain ⟨x, hx, rfl⟩ : ∃ x, (encI root hs os)[j]? = some x ∧ u = .int .u8 x := by
      unfold u8s at hu
      rw [List.getElem?_map] at hu
      cases h : (encI root hs os)[j]? with
      | none => rw [h] at hu; cases hu
      | some x => rw [h] at hu; cases hu; exact ⟨x, rfl, rfl⟩
    obtain ⟨g', o', e, hcl⟩ := (HA4.out.fr ((Fr.refl [] w4).alloc (.cells #[] 5)) (fun _ _ => by simp)) j x hx
    cases e
    rw [Lib.add_plain]
    exact hcl
  have hlu : (u8s (encI root hs os)).length = L * 1 := by unfold u8s; rw [List.length_map, hIM, Nat.mul_one]
  have HU1 : Hid (∀ u ∈ u8s (encI root hs os), u.oneCell' = true) := Lib.hid fun u hu => by
    obtain ⟨x, -, rfl⟩ := List.mem_map.1 hu
    rfl
  clear hL hIM
  have HB6 : Hid (B (at_ % 256)) := Lib.hid ⟨by omega, by omega⟩
  have HF04 : Hid (Fr [] w4 (w4.alloc (.cells #[] 5))) := (Fr.refl _ _).alloc _
  go_wp2_with (first
    | (at_builtin; refine wpList_append_at _ rfl (.tmp 42) (.tmp 43) 22 rfl 5 i0 (.int .u8 0) 1 1 Tryz.underlying22 hi0 hz0 hz1 hz2 rfl (by decide) (.slice (some ⟨w4.heap.size, 0, none⟩) 0 0) 0 [] rfl HR0.out ⟨g, o, none⟩ L vc (u8s (encI root hs os)) rfl hlu HN0.out HU1.out (by unfold maxLen; omega) (by omega) ?_; intro v5 w5 ho5 hg5 hf5; rw [Nat.zero_add] at ho5; obtain ⟨a5, p5, rfl⟩ := row_shape' ho5; have HR5 : Hid ((w5.alloc (.cells #[.int .u8 (at_ % 256)] 5)).ownsRow 0 5 1 (.slice a5 L p5) L (u8s (encI root hs os))) := Lib.hid (((Fr.refl [] w5).alloc _).row ho5 (fun _ _ => by simp)); have HG5 := Lib.hid hg5; have HF5 := Lib.hid hf5; clear ho5 hg5 hf5)
    | (at_builtin; refine wpList_append_at _ rfl (.tmp 44) (.tmp 47) 22 rfl 5 i0 (.int .u8 0) 1 1 Tryz.underlying22 hi0 hz0 hz1 hz2 rfl (by decide) (.slice a5 L p5) L (u8s (encI root hs os)) rfl HR5.out ⟨w5.heap.size, 0, none⟩ 1 1 [.int .u8 (at_ % 256)] rfl rfl (one_cellI w5 (.int .u8 (at_ % 256)) 5) (by simp [Value.oneCell']) (by unfold maxLen; omega) (by omega) ?_; intro v6 w6 ho6 hg6 hf6; obtain ⟨a6, p6, rfl⟩ := row_shape' ho6; have HO6 := Lib.hid ho6; have HG6 := Lib.hid hg6; have HF6 := Lib.hid hf6; clear ho6 hg6 hf6))
  have HF45 : Hid (Fr [] w4 w5) := HF04.out.grown HG5.out (fun k hk hl => by cases hk; exact absurd hl (Nat.lt_irrefl _))
  have HF46 : Hid (Fr [] w4 w6) := (HF45.out.alloc (.cells #[.int .u8 (at_ % 256)] 5)).grown HG6.out (fun k hk hl => by
    rcases HF5.out with e | e
    · rw [e] at hk
      cases hk
      exact absurd hl (Nat.lt_irrefl _)
    · rw [e] at hk
      cases hk
      have h9 : (w4.alloc (.cells #[] 5)).heap.size = w4.heap.size + 1 := by simp
      omega)
  have ho6 := HO6.out
  rw [show u8s (encI root hs os) ++ [.int .u8 (at_ % 256)] = u8s (encI root hs os ++ [at_ % 256]) by simp [u8s]] at ho6
  obtain ⟨hA6, hl6, hc6⟩ := bytes_row ho6
  have HD6 : Hid (Calls Tryz.prog 9 #[.slice a6 (L + 1) p6, .int .i64 4096] w6 (Decoded6 4096 (encI root hs os ++ [at_ % 256]) w6)) := Lib.hid (by
    have := decode_at (cap := p6) 4096 (by omega) (by omega) (HG.out.fr (HF4.out.trans HF46.out)) (HI.out.still (HF4.out.trans HF46.out)) hA6 (fun x hx => by
      rcases List.mem_append.1 hx with hx | hx
      · exact encI_byte _ _ _ x hx
      · rw [List.mem_singleton] at hx
        subst hx
        exact HB6.out) (by rw [hl6]; exact hc6) (by rw [hl6]; omega)
    rw [hl6] at this
    exact this)
  clear ho6 hA6 hl6 hc6
  refine HD6.out.mono ?_
  intro e w7 hd
  obtain ⟨rfl, hF7⟩ := hd.no (decE_none (HMO.out [at_ % 256] (by simp))) (by decide)
  have HF7 := Lib.hid (HF4.out.trans (HF46.out.trans hF7))
  clear hd hF7 HD6
  go_wp2_with fail
  go_ret
  exact ⟨rfl, HF7.out⟩
theorem imageCut_all {w : World} (h : Glob w ∧ ∃ bT bF, IGlob w bT bF) {ao : Option Addr} {cap : Nat} (its : List (It × Int)) (hG : G4 w ao its) (hB : B4 its) (rt hs0 ws : Int) (hrt : WB rt) (hh1 : -9223372036854775808 ≤ hs0) (hh2 : hs0 ≤ 9223372036854775807) (hw1 : -9223372036854775808 ≤ ws) (hw2 : ws ≤ 9223372036854775807) : Calls Tryz.prog 7 #[.slice ao its.length cap, .int .u64 rt, .int .i64 hs0, .int .i64 ws] w (Still (.bool true) w) := by
  obtain ⟨hg, bT, bF, hI⟩ := h
  exact imageCut_walk its rt hs0 ws w hg hI hG hB hrt hh1 hh2 hw1 hw2
end Go.Proofs.YtfhhjdfdfbelgaaGreatDoor
