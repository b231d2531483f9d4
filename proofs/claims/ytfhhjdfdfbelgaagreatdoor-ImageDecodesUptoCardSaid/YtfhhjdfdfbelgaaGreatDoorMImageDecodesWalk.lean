/- ImageDecodes: what heap any bytes are. -/
import Derived.Test.YtfhhjdfdfbelgaaGreatDoorMImgRefD
import Derived.Test.YtfhhjdfdfbelgaaGreatDoorMImgF
namespace Go.Proofs.YtfhhjdfdfbelgaaGreatDoor
open Go.RowKit

theorem decE_zero {n : Int} {bs : List Int} {root hashes : Int} {os : List Ob} (h : decI bs = some (root, hashes, os)) (hz : loadE n os root hashes = 0) : decE n bs = 0 := by
  unfold decE
  rw [h]
  simp only [hz, if_pos]
set_option maxRecDepth 100000 in
set_option maxHeartbeats 1600000 in
/-- both say no -/
theorem imageDecodes_no {a : Option Addr} {len cap : Nat} (n E : Int) (w : World) {bT bF : Addr} (hg : Glob w) (hI : IGlob w bT bF) (h : ∀ W, Fr [] w W → Calls Tryz.prog 9 #[.slice a len cap, .int .i64 n] W (fun e W' => e = .returned (.tuple #[.pointer none, .int .i64 E]) ∧ Fr [] W W')) (hr : ∀ W, Fr [] w W → Calls Tryz.prog 10 #[.slice a len cap, .int .i64 n] W (fun e W' => e = .returned (.tuple #[.pointer none, .int .i64 E]) ∧ Fr [] W W')) : Calls Tryz.prog 3 #[.slice a len cap, .int .i64 n] w (Still (.bool true) w) := by
  have HAW := Lib.hid (fun W (hF : Fr [] w W) => awake6 (hg.fr hF) (hI.still hF))
  have HDE := Lib.hid h
  have HRD := Lib.hid hr
  clear hg hI h hr
  go_enter Tryz.func3, Tryz.ntmps3
  go_wp2_with fail
  refine (HAW.out _ (Fr.refl _ _)).mono ?_
  rintro e w1 ⟨rfl, hF1⟩
  have HF1 := Lib.hid hF1
  clear hF1
  go_wp2_with fail
  refine (HDE.out _ HF1.out).mono ?_
  rintro e w2 ⟨rfl, hF2⟩
  have HF2 := Lib.hid (HF1.out.trans hF2)
  clear hF2
  go_wp2_with fail
  refine (HRD.out _ HF2.out).mono ?_
  rintro e w3 ⟨rfl, hF3⟩
  have HF3 := Lib.hid (HF2.out.trans hF3)
  clear hF3
  go_wp2_with fail
  go_ret
  exact ⟨rfl, HF3.out⟩
set_option maxRecDepth 100000 in
set_option maxHeartbeats 1600000 in
/-- both are the heap -/
theorem imageDecodes_yes {a : Option Addr} {bs : List Int} {cap : Nat} (n : Int) (w : World) {bT bF : Addr} (h1 : 64 ≤ n) (h2 : n ≤ 65536) (hg : Glob w) (hI : IGlob w bT bF) (hA : BytesAt w a bs) (hB : ∀ x ∈ bs, B x) (hc : bs.length ≤ cap) (hl : bs.length ≤ 1048576) {root hs : Int} {os : List Ob} (hd : decI bs = some (root, hs, os)) (hz : loadE n os root hs = 0) : Calls Tryz.prog 3 #[.slice a bs.length cap, .int .i64 n] w (Still (.bool true) w) := by
  have HAW := Lib.hid (fun W (hF : Fr [] w W) => awake6 (hg.fr hF) (hI.still hF))
  have HDE := Lib.hid (fun W (hF : Fr [] w W) => decode_at (cap := cap) n h1 h2 (hg.fr hF) (hI.still hF) (hA.fr hF (fun _ _ => by simp)) hB hc (by omega))
  have HRD := Lib.hid (fun W (hF : Fr [] w W) => rdecode_at (cap := cap) n h1 h2 (hA.fr hF (fun _ _ => by simp)) hB hc hl)
  have HD := Lib.hid hd
  have HZ := Lib.hid hz
  generalize bs.length = len at *
  clear hg hI hA hB hd hz hc hl
  go_enter Tryz.func3, Tryz.ntmps3
  go_wp2_with fail
  refine (HAW.out _ (Fr.refl _ _)).mono ?_
  rintro e w1 ⟨rfl, hF1⟩
  have HF1 := Lib.hid hF1
  clear hF1
  go_wp2_with fail
  refine (HDE.out _ HF1.out).mono ?_
  intro e w2 hd
  obtain ⟨gb, gm, hgi, rfl, hLv⟩ := hd.yes HD.out HZ.out
  obtain ⟨gv, gs, hH2, hF2, -⟩ := hLv
  have HH := Lib.hid hH2
  have HGI := Lib.hid hgi
  have HF2 : Hid (Fr [] w w2) := HF1.out.trans hF2
  clear hd hH2 hF2 hgi
  go_wp2_with fail
  refine (HRD.out _ HF2.out).mono ?_
  rintro e w3 (⟨root', hs', os', rb, l, lv, e1, -, rfl, ha, hR, hF3⟩ | ⟨e1, -⟩)
  · rw [HD.out] at e1
    cases e1
    have hal := alike6 HGI.out (HH.out.fr hF3 (by simp) (fun _ _ => by simp)) ha hR
    have HAL := Lib.hid hal
    have HF3 : Hid (Fr [] w w3) := HF2.out.trans hF3
    clear ha hR hF3 hal
    go_wp2_with fail
    refine HAL.out.mono ?_
    rintro e w4 ⟨rfl, hF4⟩
    have HF4 : Hid (Fr [] w w4) := HF3.out.trans hF4
    clear hF4
    go_wp2_with fail
    go_ret
    exact ⟨rfl, HF4.out⟩
  · exact absurd (decE_zero HD.out HZ.out) e1
theorem imageDecodes_at {a : Option Addr} {bs : List Int} {cap : Nat} (n : Int) (w : World) {bT bF : Addr} (b1 : -9223372036854775808 ≤ n) (b2 : n ≤ 9223372036854775807) (hg : Glob w) (hI : IGlob w bT bF) (hA : BytesAt w a bs) (hB : ∀ x ∈ bs, B x) (hc : bs.length ≤ cap) (hl : bs.length ≤ 1048576) : Calls Tryz.prog 3 #[.slice a bs.length cap, .int .i64 n] w (Still (.bool true) w) := by
  by_cases hn : n < 64 ∨ 65536 < n
  · exact imageDecodes_no n 1 w hg hI (fun W _ => decode_no n _ W hn) (fun W _ => rdecode_no n _ W hn b1 b2)
  · have h1 : 64 ≤ n := by omega
    have h2 : n ≤ 65536 := by omega
    by_cases hy : ∃ root hs os, decI bs = some (root, hs, os) ∧ loadE n os root hs = 0
    · obtain ⟨root, hs, os, hd, hz⟩ := hy
      exact imageDecodes_yes n w h1 h2 hg hI hA hB hc hl hd hz
    · refine imageDecodes_no n (decE n bs) w hg hI (fun W hF => (decode_at (cap := cap) n h1 h2 (hg.fr hF) (hI.still hF) (hA.fr hF (fun _ _ => by simp)) hB hc (by omega)).mono ?_) (fun W hF => (rdecode_at (cap := cap) n h1 h2 (hA.fr hF (fun _ _ => by simp)) hB hc hl).mono ?_)
      · rintro e W' (⟨root, hs, os, _, _, e1, e2, -⟩ | ⟨-, e1, e2⟩)
        · exact absurd ⟨root, hs, os, e1, e2⟩ hy
        · exact ⟨e1, e2⟩
      · rintro e W' (⟨root, hs, os, _, _, _, e1, e2, -⟩ | ⟨-, e1, e2⟩)
        · exact absurd ⟨root, hs, os, e1, e2⟩ hy
        · exact ⟨e1, e2⟩
theorem imageDecodes_all {w : World} (h : Glob w ∧ ∃ bT bF, IGlob w bT bF) {a : Option Addr} {bs : List Int} {cap : Nat} (hA : BytesAt w a bs) (hB : ∀ x ∈ bs, B x) (hc : bs.length ≤ cap) (hl : bs.length ≤ 1048576) (n : Int) (b1 : -9223372036854775808 ≤ n) (b2 : n ≤ 9223372036854775807) : Calls Tryz.prog 3 #[.slice a bs.length cap, .int .i64 n] w (Still (.bool true) w) := by
  obtain ⟨hg, bT, bF, hI⟩ := h
  exact imageDecodes_at n w b1 b2 hg hI hA hB hc hl
end Go.Proofs.YtfhhjdfdfbelgaaGreatDoor
