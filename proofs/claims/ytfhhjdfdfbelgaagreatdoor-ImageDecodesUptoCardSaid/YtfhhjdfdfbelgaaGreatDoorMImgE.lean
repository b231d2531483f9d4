/- The document's examples of image: awake; bytes of a row. ImageSize: how many bytes an image has. ImageRoom: an image in more words, and in fewer. -/
import Derived.Test.YtfhhjdfdfbelgaaGreatDoorMImgD
import Derived.Test.YtfhhjdfdfbelgaaGreatDoorMSnaps
import Derived.Test.YtfhhjdfdfbelgaaGreatDoorMMask
import Derived.Lib.SlBytesConst
namespace Go.Proofs.YtfhhjdfdfbelgaaGreatDoor
open Go.RowKit

theorem bytes_row {w : World} {ao : Option Addr} {n cap : Nat} {xs : List Int} (h : w.ownsRow 0 5 1 (.slice ao n cap) n (u8s xs)) : BytesAt w ao xs ∧ xs.length = n ∧ n ≤ cap := by
  refine ⟨fun i x hx => ?_, ?_, ?_⟩
  · exact row_rowAt h i (.int .u8 x) (by simp [u8s, hx])
  · have := h.1
    simpa [u8s] using this
  · rcases h.2 with ⟨h0, h1⟩ | ⟨g, cp, cur, h0, -, -, h3, -⟩
    · omega
    · cases h0; exact h3
theorem obB8_byte (o : Int × Int × List Int) : ∀ x ∈ obB8 o, B x := by
  intro x hx
  simp only [obB8, List.mem_append, List.mem_flatMap] at hx
  rcases hx with h | h | h | ⟨a, -, h⟩
  all_goals exact b8_byte _ _ h
theorem encI_byte (root hashes : Int) (os : List (Int × Int × List Int)) : ∀ x ∈ encI root hashes os, B x := by
  intro x hx
  simp only [encI, List.mem_append, List.mem_flatMap, List.mem_cons, List.not_mem_nil, or_false] at hx
  rcases hx with (rfl | rfl | rfl | rfl) | h | h | h | ⟨a, -, h⟩
  · exact ⟨by decide, by decide⟩
  · exact ⟨by decide, by decide⟩
  · exact ⟨by decide, by decide⟩
  · exact ⟨by decide, by decide⟩
  · exact b8_byte _ _ h
  · exact b8_byte _ _ h
  · exact b8_byte _ _ h
  · exact obB8_byte _ _ h
theorem loadE_nil (lim : Int) (h : 64 ≤ lim) : loadE lim [] 0 0 = 0 :=
  loadE_ok (fun o h => by cases h) (by simp [endOf, flatW]; omega) ⟨by omega, by omega, fun i x h => by simp at h⟩ (wordsOk_mk (fun o h => by cases h) (.inl rfl))
theorem dec_nil6 : decI (encI 0 0 []) = some (0, 0, []) := dec_enc ⟨by omega, by omega⟩ ⟨by omega, by omega⟩ (fun o h => by cases h) (by simp)
theorem dec_tpp : decI [84, 80, 80] = none := by unfold decI decQ; rfl
/-- what comes of bytes that are a heap -/
theorem Decoded6.yes {lim : Int} {bs : List Int} {w w' : World} {e : Ending} {root hashes : Int} {os : List Ob} (h : Decoded6 lim bs w e w') (hd : decI bs = some (root, hashes, os)) (hz : loadE lim os root hashes = 0) : ∃ hb mb, OInv lim os hashes ∧ e = .returned (.tuple #[.pointer (some ⟨hb, 0, none⟩), .int .i64 0]) ∧ Live w hb mb (absMem lim os root hashes) w' := by
  rcases h with ⟨r, h1, o, hb, mb, h2, -, h3, h4, h5⟩ | ⟨h1, -⟩
  · rw [hd] at h2
    cases h2
    exact ⟨hb, mb, h3, h4, h5⟩
  · refine absurd ?_ h1
    unfold decE
    rw [hd]
    simp only [if_pos hz]
theorem Decoded6.no {lim : Int} {bs : List Int} {w w' : World} {e : Ending} {E : Int} (h : Decoded6 lim bs w e w') (hd : decE lim bs = E) (hz : E ≠ 0) : e = .returned (.tuple #[.pointer none, .int .i64 E]) ∧ Fr [] w w' := by
  rcases h with ⟨r, h1, o, hb, mb, h2, h3, -⟩ | ⟨-, h2, h3⟩
  · refine absurd ?_ hz
    rw [← hd]
    unfold decE
    rw [h2]
    simp only [if_pos h3]
  · rw [hd] at h2
    exact ⟨h2, h3⟩
theorem decE_none {lim : Int} {bs : List Int} (h : decI bs = none) : decE lim bs = 3 := by unfold decE; rw [h]
set_option maxRecDepth 100000 in
set_option maxHeartbeats 3200000 in
theorem awake6 {w : World} {bT bF : Addr} (hg : Glob w) (hI : IGlob w bT bF) : Calls Tryz.prog 8 #[] w (Still (.bool true) w) := by
  have HG := Lib.hid hg
  have HI := Lib.hid hI
  clear hg hI
  go_enter Tryz.func8, Tryz.ntmps8
  go_wp2_with fail
  refine (live_new 64 _ (by omega) (by omega)).mono ?_
  rintro e w1 ⟨hb, mb, rfl, hL⟩
  obtain ⟨wv, sv, hH, hF0, -, -⟩ := id hL
  have HF1 := Lib.hid hF0
  have HEN : Hid (Calls Tryz.prog 13 #[.pointer (some ⟨hb, 0, none⟩)] w1 (More8 28 (encI 0 0 []) (.slice none 0 0) w1)) := Lib.hid (encode_at (lim := 64) (os := []) (root := 0) (hashes := 0) hH (inv_fresh6 64 (by omega) (by omega)) (fun o h => by cases h) ⟨by omega, by omega⟩)
  clear hL hH hF0
  go_wp2_with fail
  refine HEN.out.mono ?_
  rintro e w2 ⟨v, rfl, hr, hF, -⟩
  obtain ⟨va, vc, rfl⟩ := row_shape hr
  obtain ⟨hA, hln, hcp⟩ := bytes_row hr
  have HA := Lib.hid hA
  have hc0 := hA 0 84 rfl
  obtain ⟨g, o, rfl, hc0⟩ := hc0
  have HC0 := Lib.hid hc0
  have HF2 := Lib.hid (HF1.out.trans hF)
  clear hr hF hA hc0 HEN
  have hcv := Lib.run_convert_bytes_const (P := Tryz.prog) w2 22 5 #[.int .u8 84, .int .u8 80, .int .u8 80] 3 3 Tryz.underlying22 Tryz.underlying5
  obtain ⟨W3, hW3⟩ : ∃ W3, W3 = w2.alloc (.cells #[.int .u8 84, .int .u8 80, .int .u8 80] 5 (3, 4)) := ⟨_, rfl⟩
  have hcv' : (convert 22 22 (.slice (some ⟨w2.heap.size, 0, none⟩) 3 3)).run Tryz.prog (w2.alloc (.cells #[.int .u8 84, .int .u8 80, .int .u8 80] 5)) = .ok (.slice (some ⟨w2.heap.size, 0, none⟩) 3 3) W3 := by rw [hW3]; exact hcv
  have HF3 : Hid (Fr [] w2 W3) := by rw [hW3]; exact (Fr.refl _ _).alloc _
  have hM3 : BytesAt W3 (some ⟨w2.heap.size, 0, none⟩) [84, 80, 80] := by
    have hb : W3.heap[w2.heap.size]? = some (.cells #[.int .u8 84, .int .u8 80, .int .u8 80] 5 (3, 4)) := by
      rw [hW3]
      exact heap_new _ _
    refine fun i x hx => ⟨w2.heap.size, 0, rfl, cell_of_heap hb ?_⟩
    match i, hx with
    | 0, hx => cases hx; rfl
    | 1, hx => cases hx; rfl
    | 2, hx => cases hx; rfl
  have hd3 := decode_at (cap := 3) 64 (by omega) (by omega) (HG.out.fr (HF2.out.trans HF3.out)) (HI.out.still (HF2.out.trans HF3.out)) hM3 (fun x hx => by simp at hx; unfold B; rcases hx with rfl | rfl | rfl <;> omega) (by decide) (by decide)
  have HD3 : Hid (Calls Tryz.prog 9 #[.slice (some ⟨w2.heap.size, 0, none⟩) 3 3, .int .i64 64] W3 (Decoded6 64 [84, 80, 80] W3)) := Lib.hid hd3
  have HD4 : Hid (∀ W, Fr [] w2 W → Calls Tryz.prog 9 #[.slice (some ⟨g, o, none⟩) 28 vc, .int .i64 64] W (Decoded6 64 (encI 0 0 []) W)) := Lib.hid fun W hF => by
    have := decode_at (cap := vc) 64 (by omega) (by omega) (HG.out.fr (HF2.out.trans hF)) (HI.out.still (HF2.out.trans hF)) (HA.out.fr hF (fun _ _ => by simp)) (encI_byte _ _ _) (by rw [hln]; exact hcp) (by rw [hln]; decide)
    rw [hln] at this
    exact this
  have hln' : vc = vc := rfl
  clear hcv hW3 hM3 hd3 hln' hln
  go_wp2_with fail
  refine HD3.out.mono ?_
  intro e w4 hd
  obtain ⟨rfl, hF4⟩ := hd.no (decE_none dec_tpp) (by decide)
  have HF4 := Lib.hid (HF3.out.trans hF4)
  clear hd hF4 HD3
  go_wp2_with fail
  refine (HD4.out _ HF4.out).mono ?_
  intro e w5 hd
  obtain ⟨gb, gm, -, rfl, hL⟩ := hd.yes dec_nil6 (loadE_nil 64 (by omega))
  obtain ⟨wv5, sv5, hH5, hF5, -⟩ := hL
  have HF5 : Hid (Fr [] w2 w5) := HF4.out.trans hF5
  have HW5 : Hid (∀ W, Fr [] w5 W → Calls Tryz.prog 22 #[.pointer (some ⟨gb, 0, none⟩)] W (Still (.int .i64 64) W)) := Lib.hid fun W hF => words_still (memory_at (hH5.fr hF (by simp) (fun _ _ => by simp)))
  have hc5 := HF5.out.cell (by simp) HC0.out
  rw [Nat.add_zero] at hc5
  clear hd hH5 hF5 HD4
  go_wp2_with fail
  refine (HW5.out _ (Fr.refl _ _)).mono ?_
  rintro e w6 ⟨rfl, hF6⟩
  have HF6 := Lib.hid (HF5.out.trans hF6)
  clear hF6
  go_wp2_with fail
  refine (encode_nil _).mono ?_
  rintro e w7 ⟨rfl, hF7⟩
  have HF7 : Hid (Fr [] w w7) := HF2.out.trans (HF6.out.trans hF7)
  clear hF7
  go_wp2_with fail
  go_ret
  exact ⟨rfl, HF7.out⟩
end Go.Proofs.YtfhhjdfdfbelgaaGreatDoor
namespace Go.Proofs.YtfhhjdfdfbelgaaGreatDoor
open Go.RowKit

/-- the program's heap behind loaded -/
structure Had6 (lim : Int) (os : List Ob) (root hs : Int) (hb mb : Nat) (wv sv : Value) (w W : World) : Prop where
  at_ : HeapAt W hb mb (absMem lim os root hs) wv sv
  inv : OInv lim os hs
  sizes : ∀ o ∈ os, o.2.2.length ≤ 512
  rootB : WB root
  fine : loadE lim os root hs = 0
  fr : Fr [] w W
theorem Had6.still {lim : Int} {os : List Ob} {root hs : Int} {hb mb : Nat} {wv sv : Value} {w W W' : World} (h : Had6 lim os root hs hb mb wv sv w W) (hF : Fr [] W W') : Had6 lim os root hs hb mb wv sv w W' :=
  ⟨h.at_.fr hF (by simp) (fun _ _ => by simp), h.inv, h.sizes, h.rootB, h.fine, h.fr.trans hF⟩
theorem Both6.had {lim : Int} {os0 : List Ob} {rt hs0 : Int} {w W : World} {e : Ending} (h : Both6 lim os0 rt hs0 w e W) (hl : 64 ≤ lim) (hr : WB rt) : ∃ hb mb rb os root hs wv sv, e = .returned (.tuple #[.pointer (some ⟨hb, 0, none⟩), .pointer (some ⟨rb, 0, none⟩)]) ∧ Had6 lim os root hs hb mb wv sv w W := by
  obtain ⟨hb, mb, rb, os, root, hs, l, rfl, hI, -, hT, hO⟩ := h
  obtain ⟨wv, sv, lv, -, hH, -, hF, -⟩ := hT
  have hz := hO.fine hl
  refine ⟨hb, mb, rb, os, root, hs, wv, sv, rfl, hH, hI, (loadE_inv hz).1, ?_, hz, hF⟩
  rcases hO with ⟨-, -, rfl, -⟩ | ⟨-, -, rfl, -⟩
  · exact hr
  · exact ⟨by omega, by omega⟩
theorem Had6.encode {lim : Int} {os : List Ob} {root hs : Int} {hb mb : Nat} {wv sv : Value} {w W : World} (h : Had6 lim os root hs hb mb wv sv w W) : Calls Tryz.prog 13 #[.pointer (some ⟨hb, 0, none⟩)] W fun e W' => ∃ va vc, e = .returned (.slice va (28 + 8 * words3 os) vc) ∧ BytesAt W' va (encI root hs os) ∧ 28 + 8 * words3 os ≤ vc ∧ Fr [] W W' ∧ ∀ a, va = some a → W.heap.size ≤ a.block := by
  refine (encode_at h.at_ h.inv h.sizes h.rootB).mono ?_
  rintro e W' ⟨v, rfl, hr, hF, hn⟩
  obtain ⟨va, vc, rfl⟩ := row_shape hr
  obtain ⟨hA, -, hc⟩ := bytes_row hr
  refine ⟨va, vc, rfl, hA, hc, hF, fun a ha => ?_⟩
  subst ha
  have hb : (Value.slice (some a) (28 + 8 * words3 os) vc).ownBlock = some a.block := by
    rcases hr.2 with ⟨h0, -⟩ | ⟨g, cp, cur, h0, -⟩
    · cases h0
    · cases h0; rfl
  rcases hn a.block hb with h1 | h1
  · cases h1
  · exact h1
theorem Had6.len {lim : Int} {os : List Ob} {root hs : Int} {hb mb : Nat} {wv sv : Value} {w W : World} (h : Had6 lim os root hs hb mb wv sv w W) : 1 + words3 os = endOf os ∧ endOf os ≤ 65536 := by
  have h1 := h.inv.fit
  have h2 := h.inv.l2
  exact ⟨words3_end os, by omega⟩
theorem Had6.used {lim : Int} {os : List Ob} {root hs : Int} {hb mb : Nat} {wv sv : Value} {w W : World} (h : Had6 lim os root hs hb mb wv sv w W) : Calls Tryz.prog 16 #[.pointer (some ⟨hb, 0, none⟩)] W (Still (.int .i64 (1 + words3 os : Nat)) W) := by
  have := used_still (memory_at h.at_)
  rw [(absMem_len _ _ _ _).1, ← words3_end] at this
  exact this
set_option maxRecDepth 100000 in
set_option maxHeartbeats 3200000 in
theorem imageSize_walk {ao : Option Addr} {cap : Nat} (its : List (It × Int)) (rt hs0 : Int) (w : World) {bT bF : Addr} (hg : Glob w) (hI : IGlob w bT bF) (hG : G4 w ao its) (hB : B4 its) (hrt : WB rt) (hh1 : -9223372036854775808 ≤ hs0) (hh2 : hs0 ≤ 9223372036854775807) : Calls Tryz.prog 6 #[.slice ao its.length cap, .int .u64 rt, .int .i64 hs0] w (Still (.bool true) w) := by
  have HAW := Lib.hid (fun W (hF : Fr [] w W) => awake6 (hg.fr hF) (hI.still hF))
  have HLO := Lib.hid (fun W (hF : Fr [] w W) => loaded6 (cap := cap) 4096 (by omega) (by omega) (hg.fr hF) its (hG.fr0 hF) hB rt hs0 hrt hh1 hh2)
  have HRT := Lib.hid hrt
  generalize its.length = n at *
  clear hg hI hG hB hrt
  go_enter Tryz.func6, Tryz.ntmps6
  go_wp2_with fail
  refine (HAW.out _ (Fr.refl _ _)).mono ?_
  rintro e w1 ⟨rfl, hF1⟩
  have HF1 := Lib.hid hF1
  clear hF1
  go_wp2_with fail
  refine (HLO.out _ HF1.out).mono ?_
  intro e w2 hb6
  obtain ⟨hb, mb, rb, os, root, hs, wv, sv, rfl, hH⟩ := hb6.had (by omega) HRT.out
  have HH := Lib.hid hH
  have HF2 : Hid (Fr [] w w2) := HF1.out.trans hH.fr
  obtain ⟨hl1, hl2⟩ := hH.len
  have HEN := Lib.hid (fun W (hF : Fr [] w2 W) => (hH.still hF).encode)
  have HUS := Lib.hid (fun W (hF : Fr [] w2 W) => (hH.still hF).used)
  generalize words3 os = q at *
  clear hb6 hH
  have hq : q ≤ 65535 := by omega
  go_wp2_with fail
  refine (HEN.out _ (Fr.refl _ _)).mono ?_
  rintro e w3 ⟨va, vc, rfl, -, hc, hF3, -⟩
  have HF3 := Lib.hid hF3
  clear hF3 HEN hl1 hl2
  go_wp2_with fail
  refine (HUS.out _ HF3.out).mono ?_
  rintro e w4 ⟨rfl, hF4⟩
  have HF4 := Lib.hid (HF2.out.trans (HF3.out.trans hF4))
  clear hF4 HUS
  go_wp2_with fail
  go_ret
  refine ⟨ret1 (vb ?_), HF4.out⟩
  show (28 + 8 * (q : Int) == 28 + 8 * (1 + (q : Int) - 1)) = true
  simp
  omega
theorem imageSize_all {w : World} (h : Glob w ∧ ∃ bT bF, IGlob w bT bF) {ao : Option Addr} {cap : Nat} (its : List (It × Int)) (hG : G4 w ao its) (hB : B4 its) (rt hs0 : Int) (hrt : WB rt) (hh1 : -9223372036854775808 ≤ hs0) (hh2 : hs0 ≤ 9223372036854775807) : Calls Tryz.prog 6 #[.slice ao its.length cap, .int .u64 rt, .int .i64 hs0] w (Still (.bool true) w) := by
  obtain ⟨hg, bT, bF, hI⟩ := h
  exact imageSize_walk its rt hs0 w hg hI hG hB hrt hh1 hh2
end Go.Proofs.YtfhhjdfdfbelgaaGreatDoor
namespace Go.Proofs.YtfhhjdfdfbelgaaGreatDoor
open Go.RowKit

theorem Had6.image {lim : Int} {os : List Ob} {root hs : Int} {hb mb : Nat} {wv sv : Value} {w W : World} (h : Had6 lim os root hs hb mb wv sv w W) : decI (encI root hs os) = some (root, hs, os) ∧ (encI root hs os).length = 28 + 8 * words3 os := by
  have h1 := h.len
  have h2 := h.inv.h1
  refine ⟨dec_enc h.rootB ⟨h.inv.h0, by omega⟩ (good_obs h.inv h.sizes) ?_, encI_len _ _ _⟩
  have : os.length ≤ words3 os := by
    clear h1 h2 h
    unfold words3
    induction os with
    | nil => simp
    | cons a l ih => simp only [List.length_cons, List.map_cons, List.sum_cons]; omega
  omega
theorem Had6.lens {lim : Int} {os : List Ob} {root hs : Int} {hb mb : Nat} {wv sv : Value} {w W : World} (h : Had6 lim os root hs hb mb wv sv w W) : os.length ≤ 65536 := by
  have h1 := h.len
  have : os.length ≤ words3 os := by
    clear h1 h
    unfold words3
    induction os with
    | nil => simp
    | cons a l ih => simp only [List.length_cons, List.map_cons, List.sum_cons]; omega
  omega
/-- in other words -/
theorem Had6.other {lim : Int} {os : List Ob} {root hs : Int} {hb mb : Nat} {wv sv : Value} {w W : World} (h : Had6 lim os root hs hb mb wv sv w W) (n : Int) : (n < (endOf os : Int) → decE n (encI root hs os) = 2) ∧ ((endOf os : Int) ≤ n → loadE n os root hs = 0) := by
  obtain ⟨h1, h2, h3, h4⟩ := loadE_inv h.fine
  refine ⟨fun hn => ?_, fun hn => loadE_ok h1 hn h3 h4⟩
  have e := loadE_full (root := root) (n := hs) h1 hn
  unfold decE
  rw [h.image.1]
  simp only [e]
  rfl
set_option maxRecDepth 100000 in
set_option maxHeartbeats 3200000 in
theorem imageRoom_walk {ao : Option Addr} {cap : Nat} (its : List (It × Int)) (rt hs0 ws : Int) (w : World) {bT bF : Addr} (hg : Glob w) (hI : IGlob w bT bF) (hG : G4 w ao its) (hB : B4 its) (hrt : WB rt) (hh1 : -9223372036854775808 ≤ hs0) (hh2 : hs0 ≤ 9223372036854775807) (hw1 : -9223372036854775808 ≤ ws) (hw2 : ws ≤ 9223372036854775807) : Calls Tryz.prog 5 #[.slice ao its.length cap, .int .u64 rt, .int .i64 hs0, .int .i64 ws] w (Still (.bool true) w) := by
  have HAW := Lib.hid (fun W (hF : Fr [] w W) => awake6 (hg.fr hF) (hI.still hF))
  have HLO := Lib.hid (fun W (hF : Fr [] w W) => loaded6 (cap := cap) 4096 (by omega) (by omega) (hg.fr hF) its (hG.fr0 hF) hB rt hs0 hrt hh1 hh2)
  have HRT := Lib.hid hrt
  have HG := Lib.hid hg
  have HI := Lib.hid hI
  obtain ⟨n6, hn6⟩ : ∃ k, bits .and .i64 ws 4095 = k := ⟨_, rfl⟩
  have hb1 : 0 ≤ n6 ∧ n6 ≤ 4095 := by rw [← hn6]; exact and_mask ws 4095 (by omega)
  obtain ⟨hb1, hb2⟩ := hb1
  generalize its.length = n at *
  clear hg hI hG hB hrt
  go_enter Tryz.func5, Tryz.ntmps5
  go_wp2_with fail
  refine (HAW.out _ (Fr.refl _ _)).mono ?_
  rintro e w1 ⟨rfl, hF1⟩
  have HF1 := Lib.hid hF1
  clear hF1
  go_wp2_with fail
  refine (HLO.out _ HF1.out).mono ?_
  intro e w2 hb6
  obtain ⟨hb, mb, rb, os, root, hs, wv, sv, rfl, hH⟩ := hb6.had (by omega) HRT.out
  have HH := Lib.hid hH
  have HF2 : Hid (Fr [] w w2) := HF1.out.trans hH.fr
  obtain ⟨hl1, hl2⟩ := hH.len
  have HEN := Lib.hid (fun W (hF : Fr [] w2 W) => (hH.still hF).encode)
  have HUS := Lib.hid (fun W (hF : Fr [] w2 W) => (hH.still hF).used)
  have HIM := Lib.hid hH.image
  have HOT := Lib.hid (hH.other (64 + n6))
  obtain ⟨q, hq⟩ : ∃ q, q = words3 os := ⟨_, rfl⟩
  have HQ := Lib.hid hq
  rw [← hq] at HEN HUS HIM hl1
  have hqb : q ≤ 65535 := by omega
  rw [← hl1] at HOT
  clear hb6 hH hq
  go_wp2_with fail
  refine (HEN.out _ (Fr.refl _ _)).mono ?_
  rintro e w3 ⟨va, vc, rfl, hA, hc, hF3, -⟩
  have HF3 := Lib.hid hF3
  have HDE : Hid (Calls Tryz.prog 9 #[.slice va (28 + 8 * q) vc, .int .i64 (64 + n6)] w3 (Decoded6 (64 + n6) (encI root hs os) w3)) := Lib.hid (by
    have := decode_at (cap := vc) (64 + n6) (by omega) (by omega) (HG.out.fr (HF2.out.trans hF3)) (HI.out.still (HF2.out.trans hF3)) hA (encI_byte _ _ _) (by rw [HIM.out.2]; exact hc) (by rw [HIM.out.2]; omega)
    rw [HIM.out.2] at this
    exact this)
  clear hF3 HEN hl1 hl2 hA
  go_wp2_with fail
  refine HDE.out.mono ?_
  intro e w4 hd
  by_cases hlt : 64 + n6 < ((1 + q : Nat) : Int)
  · obtain ⟨rfl, hF4⟩ := hd.no (HOT.out.1 hlt) (by decide)
    have HF4 := Lib.hid (HF3.out.trans hF4)
    have hlt' : 64 + n6 < 1 + (q : Int) := by omega
    clear hd hF4 HDE hlt
    go_wp2_with fail
    refine (HUS.out _ HF4.out).mono ?_
    rintro e w5 ⟨rfl, hF5⟩
    have HF5 := Lib.hid (HF2.out.trans (HF4.out.trans hF5))
    clear hF5
    go_wp2_with fail
    go_ret
    exact ⟨rfl, HF5.out⟩
  · obtain ⟨gb, gm, hgi, rfl, hL⟩ := hd.yes HIM.out.1 (HOT.out.2 (by omega))
    obtain ⟨gv, gs, hH4, hF4, -⟩ := hL
    have HG4 : Hid (Had6 (64 + n6) os root hs gb gm gv gs w3 w4) := Lib.hid ⟨hH4, hgi, HH.out.sizes, HH.out.rootB, HOT.out.2 (by omega), hF4⟩
    have HF4 := Lib.hid (HF3.out.trans hF4)
    have hlt' : ¬ 64 + n6 < 1 + (q : Int) := by omega
    have HUG : Hid (∀ W, Fr [] w4 W → Calls Tryz.prog 16 #[.pointer (some ⟨gb, 0, none⟩)] W (Still (.int .i64 (1 + q : Nat)) W)) := Lib.hid fun W hF => by
      have := (HG4.out.still hF).used
      rw [← HQ.out] at this
      exact this
    have HRG := Lib.hid (fun W (hF : Fr [] w4 W) => root_still (memory_at (HG4.out.still hF).at_))
    have HRH := Lib.hid (fun W (hF : Fr [] w2 W) => root_still (memory_at (HH.out.still hF).at_))
    have HSG := Lib.hid (fun W (hF : Fr [] w4 W) => snap_at (HG4.out.still hF).inv (HG4.out.still hF).at_)
    have HSH := Lib.hid (fun W (hF : Fr [] w2 W) => snap_at (HH.out.still hF).inv (HH.out.still hF).at_)
    clear hd hF4 HDE hlt hH4 hgi
    go_wp2_with fail
    refine (HUS.out _ HF4.out).mono ?_
    rintro e w5 ⟨rfl, hF5⟩
    have HF45 := Lib.hid hF5
    clear hF5
    go_wp2_with fail
    refine (HUG.out _ HF45.out).mono ?_
    rintro e w6 ⟨rfl, hF6⟩
    have HF46 := Lib.hid (HF45.out.trans hF6)
    clear hF6 HUG
    go_wp2_with fail
    refine (HUS.out _ (HF4.out.trans HF46.out)).mono ?_
    rintro e w7 ⟨rfl, hF7⟩
    have HF47 := Lib.hid (HF46.out.trans hF7)
    clear hF7 HUS
    go_wp2_with fail
    refine (HRG.out _ HF47.out).mono ?_
    rintro e w8 ⟨rfl, hF8⟩
    have HF48 := Lib.hid (HF47.out.trans hF8)
    clear hF8 HRG
    go_wp2_with fail
    refine (HRH.out _ (HF4.out.trans HF48.out)).mono ?_
    rintro e w9 ⟨rfl, hF9⟩
    have HF49 := Lib.hid (HF48.out.trans hF9)
    clear hF9 HRH
    obtain ⟨M, hM⟩ : ∃ M, M = os.length := ⟨_, rfl⟩
    have HM := Lib.hid hM
    have hMb : M ≤ 65536 := by rw [hM]; exact HH.out.lens
    clear hM
    go_wp2_with fail
    refine (HSG.out _ HF49.out).mono ?_
    rintro e wa ⟨a1, c1, its1, rfl, hr1, ho1, hown1, hFa, -⟩
    have hi1 : its1.length = M := by rw [HM.out, ← ho1]; simp [obsOf]
    have hth1 := theirs_at (vc := c1) hr1 hown1 (by omega)
    have HO1 := Lib.hid ho1
    have HI1 := Lib.hid hi1
    rw [hi1] at hth1 ⊢
    have HF4a := Lib.hid (HF49.out.trans hFa)
    clear hr1 ho1 hown1 hFa hi1 HSG
    go_wp2_with fail
    refine hth1.mono ?_
    rintro e wb ⟨b1, bc1, rfl, -, hG1, hFb, -⟩
    have HG1 := Lib.hid hG1
    have HF4b := Lib.hid (HF4a.out.trans hFb)
    clear hG1 hFb hth1
    go_wp2_with fail
    refine (HSH.out _ (HF4.out.trans HF4b.out)).mono ?_
    rintro e wc ⟨a2, c2, its2, rfl, hr2, ho2, hown2, hFc, -⟩
    have hi2 : its2.length = M := by rw [HM.out, ← ho2]; simp [obsOf]
    have hth2 := theirs_at (vc := c2) hr2 hown2 (by omega)
    have HO2 := Lib.hid ho2
    have HI2 := Lib.hid hi2
    rw [hi2] at hth2 ⊢
    have HG1c := Lib.hid (HG1.out.fr0 hFc)
    have HF4c := Lib.hid (HF4b.out.trans hFc)
    clear hr2 ho2 hown2 hFc hi2 HSH
    go_wp2_with fail
    refine hth2.mono ?_
    rintro e wd ⟨b2, bc2, rfl, -, hG2, hFd, -⟩
    have hG1d := HG1c.out.fr0 hFd
    have HF4d := Lib.hid (HF4c.out.trans hFd)
    have hso := sameObjects (ac := bc1) (bc := bc2) (noPlace its1) (noPlace its2) hG1d.row hG2.row hG1d.ok hG2.ok (by rw [noPlace_len, HI1.out]; omega)
    rw [noPlace_len, noPlace_len, HI1.out, HI2.out, noPlace_keys, noPlace_keys, HO1.out, HO2.out, decide_eq_true rfl] at hso
    clear hG2 hFd hth2 hG1d
    go_wp2_with fail
    refine hso.mono ?_
    rintro e we ⟨rfl, hwe⟩
    have HFE : Hid (Fr [] w we) := (HF2.out.trans (HF4.out.trans HF4d.out)).trans (by obtain ⟨m, rfl⟩ := hwe; exact (Fr.refl _ _).drewN _)
    clear hwe hso
    go_wp2_with fail
    go_ret
    exact ⟨rfl, HFE.out⟩
theorem imageRoom_all {w : World} (h : Glob w ∧ ∃ bT bF, IGlob w bT bF) {ao : Option Addr} {cap : Nat} (its : List (It × Int)) (hG : G4 w ao its) (hB : B4 its) (rt hs0 ws : Int) (hrt : WB rt) (hh1 : -9223372036854775808 ≤ hs0) (hh2 : hs0 ≤ 9223372036854775807) (hw1 : -9223372036854775808 ≤ ws) (hw2 : ws ≤ 9223372036854775807) : Calls Tryz.prog 5 #[.slice ao its.length cap, .int .u64 rt, .int .i64 hs0, .int .i64 ws] w (Still (.bool true) w) := by
  obtain ⟨hg, bT, bF, hI⟩ := h
  exact imageRoom_walk its rt hs0 ws w hg hI hG hB hrt hh1 hh2 hw1 hw2
end Go.Proofs.YtfhhjdfdfbelgaaGreatDoor
