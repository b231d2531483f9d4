/- ImageEncodes: a heap's bytes, and back. -/
import Derived.Test.YtfhhjdfdfbelgaaGreatDoorMImgF
namespace Go.Proofs.YtfhhjdfdfbelgaaGreatDoor
open Go.RowKit

theorem Both6.had2 {lim : Int} {os0 : List Ob} {rt hs0 : Int} {w W : World} {e : Ending} (h : Both6 lim os0 rt hs0 w e W) (hl : 64 ≤ lim) (hr : WB rt) : ∃ hb mb rb os root hs wv sv lv l, e = .returned (.tuple #[.pointer (some ⟨hb, 0, none⟩), .pointer (some ⟨rb, 0, none⟩)]) ∧ Had6 lim os root hs hb mb wv sv w W ∧ RAgree 1 l os ∧ RefAt W rb ⟨lim, l, root, hs⟩ lv := by
  obtain ⟨hb, mb, rb, os, root, hs, l, rfl, hI, ha, hT, hO⟩ := h
  obtain ⟨wv, sv, lv, -, hH, hR, hF, -⟩ := hT
  have hz := hO.fine hl
  refine ⟨hb, mb, rb, os, root, hs, wv, sv, lv, l, rfl, ⟨hH, hI, (loadE_inv hz).1, ?_, hz, hF⟩, ha, hR⟩
  rcases hO with ⟨-, -, rfl, -⟩ | ⟨-, -, rfl, -⟩
  · exact hr
  · exact ⟨by omega, by omega⟩
theorem Had6.rencode {lim : Int} {os : List Ob} {root hs : Int} {hb mb rb : Nat} {wv sv lv : Value} {l : List RO} {w W : World} (h : Had6 lim os root hs hb mb wv sv w W) (ha : RAgree 1 l os) (hR : RefAt W rb ⟨lim, l, root, hs⟩ lv) : Calls Tryz.prog 15 #[.pointer (some ⟨rb, 0, none⟩)] W fun e W' => ∃ va vc, e = .returned (.slice va (28 + 8 * words3 os) vc) ∧ BytesAt W' va (encI root hs os) ∧ Fr [] W W' := by
  have hob : obsR l = os := ROB ha
  have hg := good_obs h.inv h.sizes
  have := rencode_at hR h.rootB ⟨h.inv.h0, h.inv.h1⟩ (fun o ho => hg _ (by rw [← hob]; exact List.mem_map_of_mem ho)) (by show words3 (obsR l) ≤ 65536; rw [hob]; have := h.len; omega)
  refine this.mono ?_
  rintro e W' ⟨v, rfl, hr, hF, -⟩
  obtain ⟨va, vc, rfl⟩ := row_shape hr
  obtain ⟨hA, -, -⟩ := bytes_row hr
  have hA' : BytesAt W' va (encI root hs (obsR l)) := hA
  rw [hob] at hA'
  exact ⟨va, vc, by rw [show (RH.mk lim l root hs).l = l from rfl, hob], hA', hF⟩
set_option maxRecDepth 100000 in
set_option maxHeartbeats 3200000 in
theorem imageEncodes_no {ao : Option Addr} {cap len : Nat} (n rt hs0 : Int) (w : World) {bT bF : Addr} (hg : Glob w) (hI : IGlob w bT bF) (hn : n < 64 ∨ 65536 < n) (b1 : -9223372036854775808 ≤ n) (b2 : n ≤ 9223372036854775807) : Calls Tryz.prog 4 #[.int .i64 n, .slice ao len cap, .int .u64 rt, .int .i64 hs0] w (Still (.bool true) w) := by
  have HAW := Lib.hid (fun W (hF : Fr [] w W) => awake6 (hg.fr hF) (hI.still hF))
  have HLO := Lib.hid (fun W => loaded6_no n (.slice ao len cap) rt hs0 W hn b1 b2)
  clear hg hI
  rcases hn with hn | hn
  · go_enter Tryz.func4, Tryz.ntmps4
    go_wp2_with (first | (go_at_call 8; refine (HAW.out _ (Fr.refl _ _)).mono ?_; rintro e w1 ⟨rfl, hF1⟩; have HF1 := Lib.hid hF1; clear hF1) | (go_at_call 12; refine (HLO.out _).mono ?_; rintro e w2 ⟨rfl, hF2⟩; have HF2 := Lib.hid (HF1.out.trans hF2); clear hF2))
    go_ret
    exact ⟨rfl, HF2.out⟩
  · go_enter Tryz.func4, Tryz.ntmps4
    go_wp2_with (first | (go_at_call 8; refine (HAW.out _ (Fr.refl _ _)).mono ?_; rintro e w1 ⟨rfl, hF1⟩; have HF1 := Lib.hid hF1; clear hF1) | (go_at_call 12; refine (HLO.out _).mono ?_; rintro e w2 ⟨rfl, hF2⟩; have HF2 := Lib.hid (HF1.out.trans hF2); clear hF2))
    go_ret
    exact ⟨rfl, HF2.out⟩
set_option maxRecDepth 100000 in
set_option maxHeartbeats 3200000 in
theorem imageEncodes_walk {ao : Option Addr} {cap : Nat} (its : List (It × Int)) (n rt hs0 : Int) (w : World) {bT bF : Addr} (h1 : 64 ≤ n) (h2 : n ≤ 65536) (hg : Glob w) (hI : IGlob w bT bF) (hG : G4 w ao its) (hB : B4 its) (hrt : WB rt) (hh1 : -9223372036854775808 ≤ hs0) (hh2 : hs0 ≤ 9223372036854775807) : Calls Tryz.prog 4 #[.int .i64 n, .slice ao its.length cap, .int .u64 rt, .int .i64 hs0] w (Still (.bool true) w) := by
  have HAW := Lib.hid (fun W (hF : Fr [] w W) => awake6 (hg.fr hF) (hI.still hF))
  have HLO := Lib.hid (fun W (hF : Fr [] w W) => loaded6 (cap := cap) n h1 h2 (hg.fr hF) its (hG.fr0 hF) hB rt hs0 hrt hh1 hh2)
  have HRT := Lib.hid hrt
  have HG := Lib.hid hg
  have HI := Lib.hid hI
  generalize its.length = len at *
  clear hg hI hG hB hrt
  go_enter Tryz.func4, Tryz.ntmps4
  go_wp2_with fail
  refine (HAW.out _ (Fr.refl _ _)).mono ?_
  rintro e w1 ⟨rfl, hF1⟩
  have HF1 := Lib.hid hF1
  clear hF1
  go_wp2_with fail
  refine (HLO.out _ HF1.out).mono ?_
  intro e w2 hb6
  obtain ⟨hb, mb, rb, os, root, hs, wv, sv, lv, l, rfl, hH, ha, hR⟩ := hb6.had2 h1 HRT.out
  have HH := Lib.hid hH
  have HA := Lib.hid ha
  have HR := Lib.hid hR
  have HF2 : Hid (Fr [] w w2) := HF1.out.trans hH.fr
  obtain ⟨hl1, hl2⟩ := hH.len
  have HEN := Lib.hid (fun W (hF : Fr [] w2 W) => (hH.still hF).encode)
  have HRE := Lib.hid (fun W (hF : Fr [] w2 W) => (hH.still hF).rencode ha (hR.fr0 hF))
  have HIM := Lib.hid hH.image
  obtain ⟨L, hL⟩ : ∃ L, L = 28 + 8 * words3 os := ⟨_, rfl⟩
  have hLb : L ≤ 1000000 := by omega
  have hIM := hH.image.2
  rw [← hL] at HEN HRE hIM
  have HIL := Lib.hid hIM
  clear hb6 hH ha hR hL hIM hl1 hl2
  go_wp2_with fail
  refine (HEN.out _ (Fr.refl _ _)).mono ?_
  rintro e w3 ⟨va, vc, rfl, hA, hc, hF3, -⟩
  have HA3 := Lib.hid hA
  have HF3 := Lib.hid hF3
  have HDE : Hid (Calls Tryz.prog 9 #[.slice va L vc, .int .i64 n] w3 (Decoded6 n (encI root hs os) w3)) := Lib.hid (by
    have := decode_at (cap := vc) n h1 h2 (HG.out.fr (HF2.out.trans hF3)) (HI.out.still (HF2.out.trans hF3)) hA (encI_byte _ _ _) (by rw [HIL.out]; exact hc) (by rw [HIL.out]; omega)
    rw [HIL.out] at this
    exact this)
  clear hA hF3 HEN
  go_wp2_with fail
  refine HDE.out.mono ?_
  intro e w4 hd
  obtain ⟨gb, gm, hgi, rfl, hLv⟩ := hd.yes HIM.out.1 HH.out.fine
  obtain ⟨gv, gs, hH4, hF4, -⟩ := hLv
  have HH4 := Lib.hid hH4
  have HGI := Lib.hid hgi
  have HF34 := Lib.hid hF4
  have HF4 := Lib.hid (HF3.out.trans hF4)
  clear hd HDE hH4 hgi hF4
  go_wp2_with fail
  refine (HRE.out _ HF4.out).mono ?_
  rintro e w5 ⟨vb, vbc, rfl, hB5, hF5⟩
  have hsb := sameBytes_at (ca := vc) (cb := vbc) (HA3.out.fr (HF34.out.trans hF5) (fun _ _ => by simp)) hB5 (encI_byte _ _ _) (encI_byte _ _ _)
  rw [decide_eq_true rfl, HIL.out] at hsb
  have HF45 := Lib.hid hF5
  clear hB5 hF5 HRE
  go_wp2_with fail
  refine hsb.mono ?_
  rintro e w6 ⟨rfl, hF6⟩
  have HF46 := Lib.hid (HF45.out.trans hF6)
  clear hF6 hsb
  go_wp2_with fail
  have hal := alike6 HGI.out (HH4.out.fr HF46.out (by simp) (fun _ _ => by simp)) HA.out (HR.out.fr0 (HF4.out.trans HF46.out))
  refine hal.mono ?_
  rintro e w7 ⟨rfl, hF7⟩
  have HF7 : Hid (Fr [] w w7) := HF2.out.trans (HF4.out.trans (HF46.out.trans hF7))
  clear hal hF7
  go_wp2_with fail
  go_ret
  exact ⟨rfl, HF7.out⟩
theorem imageEncodes_all {w : World} (h : Glob w ∧ ∃ bT bF, IGlob w bT bF) {ao : Option Addr} {cap : Nat} (its : List (It × Int)) (hG : G4 w ao its) (hB : B4 its) (n rt hs0 : Int) (b1 : -9223372036854775808 ≤ n) (b2 : n ≤ 9223372036854775807) (hrt : WB rt) (hh1 : -9223372036854775808 ≤ hs0) (hh2 : hs0 ≤ 9223372036854775807) : Calls Tryz.prog 4 #[.int .i64 n, .slice ao its.length cap, .int .u64 rt, .int .i64 hs0] w (Still (.bool true) w) := by
  obtain ⟨hg, bT, bF, hI⟩ := h
  by_cases h1 : 64 ≤ n
  · by_cases h2 : n ≤ 65536
    · exact imageEncodes_walk its n rt hs0 w h1 h2 hg hI hG hB hrt hh1 hh2
    · exact imageEncodes_no n rt hs0 w hg hI (.inr (by omega)) b1 b2
  · exact imageEncodes_no n rt hs0 w hg hI (.inl (by omega)) b1 b2
end Go.Proofs.YtfhhjdfdfbelgaaGreatDoor
