/- The document's examples of image: awake; bytes of a row. ImageSize: how many bytes an image has. -/
import Derived.Test.YtbiccjkgobehoaaDoorMImgD
import Derived.Test.YtbiccjkgobehoaaDoorMSnaps
import Derived.Lib.SlBytesConst
namespace Go.Proofs.YtbiccjkgobehoaaDoor
open Go.RowKit

theorem bytes_row {w : World} {ao : Option Addr} {n cap : Nat} {xs : List Int} (h : w.ownsRow 0 5 1 (.slice ao n cap) n (u8s xs)) : BytesAt w ao xs ∧ xs.length = n ∧ n ≤ cap := by
  refine ⟨fun i x hx => ?_, ?_, ?_⟩
  · exact row_rowAt h i (.int .u8 x) (by simp [u8s, hx])
  · have := h.1
    simpa [u8s] using this
  · rcases h.2 with ⟨h0, h1⟩ | ⟨g, cp, cur, h0, -, -, h3, -⟩
    · omega
    · cases h0; exact h3
theorem obB8_byte (o : Int × Int × List Int) : ∀ x ∈ obB8 o, B x := by
  intro x hx
  simp only [obB8, List.mem_append, List.mem_flatMap] at hx
  rcases hx with h | h | h | ⟨a, -, h⟩
  all_goals exact b8_byte _ _ h
theorem encI_byte (root hashes : Int) (os : List (Int × Int × List Int)) : ∀ x ∈ encI root hashes os, B x := by
  intro x hx
  simp only [encI, List.mem_append, List.mem_flatMap, List.mem_cons, List.not_mem_nil, or_false] at hx
  rcases hx with (rfl | rfl | rfl | rfl) | h | h | h | ⟨a, -, h⟩
  · exact ⟨by decide, by decide⟩
  · exact ⟨by decide, by decide⟩
  · exact ⟨by decide, by decide⟩
  · exact ⟨by decide, by decide⟩
  · exact b8_byte _ _ h
  · exact b8_byte _ _ h
  · exact b8_byte _ _ h
  · exact obB8_byte _ _ h
theorem loadE_nil (lim : Int) (h : 64 ≤ lim) : loadE lim [] 0 0 = 0 :=
  loadE_ok (fun o h => by cases h) (by simp [endOf, flatW]; omega) ⟨by omega, by omega, fun i x h => by simp at h⟩ (wordsOk_mk (fun o h => by cases h) (.inl rfl))
theorem dec_nil6 : decI (encI 0 0 []) = some (0, 0, []) := dec_enc ⟨by omega, by omega⟩ ⟨by omega, by omega⟩ (fun o h => by cases h) (by simp)
theorem dec_tpp : decI [84, 80, 80] = none := by unfold decI decQ; rfl
/-- what comes of bytes that are a heap -/
theorem Decoded6.yes {lim : Int} {bs : List Int} {w w' : World} {e : Ending} {root hashes : Int} {os : List Ob} (h : Decoded6 lim bs w e w') (hd : decI bs = some (root, hashes, os)) (hz : loadE lim os root hashes = 0) : ∃ hb mb, OInv lim os hashes ∧ e = .returned (.tuple #[.pointer (some ⟨hb, 0, none⟩), .int .i64 0]) ∧ Live w hb mb (absMem lim os root hashes) w' := by
  rcases h with ⟨r, h1, o, hb, mb, h2, -, h3, h4, h5⟩ | ⟨h1, -⟩
  · rw [hd] at h2
    cases h2
    exact ⟨hb, mb, h3, h4, h5⟩
  · refine absurd ?_ h1
    unfold decE
    rw [hd]
    simp only [if_pos hz]
theorem Decoded6.no {lim : Int} {bs : List Int} {w w' : World} {e : Ending} {E : Int} (h : Decoded6 lim bs w e w') (hd : decE lim bs = E) (hz : E ≠ 0) : e = .returned (.tuple #[.pointer none, .int .i64 E]) ∧ Fr [] w w' := by
  rcases h with ⟨r, h1, o, hb, mb, h2, h3, -⟩ | ⟨-, h2, h3⟩
  · refine absurd ?_ hz
    rw [← hd]
    unfold decE
    rw [h2]
    simp only [if_pos h3]
  · rw [hd] at h2
    exact ⟨h2, h3⟩
theorem decE_none {lim : Int} {bs : List Int} (h : decI bs = none) : decE lim bs = 3 := by unfold decE; rw [h]
set_option maxRecDepth 100000 in
set_option maxHeartbeats 3200000 in
theorem awake6 {w : World} {bT bF : Addr} (hg : Glob w) (hI : IGlob w bT bF) : Calls Tryd.prog 4 #[] w (Still (.bool true) w) := by
  have HG := Lib.hid hg
  have HI := Lib.hid hI
  clear hg hI
  go_enter Tryd.func4, Tryd.ntmps4
  go_wp2_with fail
  refine (live_new 64 _ (by omega) (by omega)).mono ?_
  rintro e w1 ⟨hb, mb, rfl, hL⟩
  obtain ⟨wv, sv, hH, hF0, -, -⟩ := id hL
  have HF1 := Lib.hid hF0
  have HEN : Hid (Calls Tryd.prog 9 #[.pointer (some ⟨hb, 0, none⟩)] w1 (More8 28 (encI 0 0 []) (.slice none 0 0) w1)) := Lib.hid (encode_at (lim := 64) (os := []) (root := 0) (hashes := 0) hH (inv_fresh6 64 (by omega) (by omega)) (fun o h => by cases h) ⟨by omega, by omega⟩)
  clear hL hH hF0
  go_wp2_with fail
  refine HEN.out.mono ?_
  rintro e w2 ⟨v, rfl, hr, hF, -⟩
  obtain ⟨va, vc, rfl⟩ := row_shape hr
  obtain ⟨hA, hln, hcp⟩ := bytes_row hr
  have HA := Lib.hid hA
  have hc0 := hA 0 84 rfl
  obtain ⟨g, o, rfl, hc0⟩ := hc0
  have HC0 := Lib.hid hc0
  have HF2 := Lib.hid (HF1.out.trans hF)
  clear hr hF hA hc0 HEN
  have hcv := Lib.run_convert_bytes_const (P := Tryd.prog) w2 22 5 #[.int .u8 84, .int .u8 80, .int .u8 80] 3 3 Tryd.underlying22 Tryd.underlying5
  obtain ⟨W3, hW3⟩ : ∃ W3, W3 = w2.alloc (.cells #[.int .u8 84, .int .u8 80, .int .u8 80] 5 (3, 4)) := ⟨_, rfl⟩
  have hcv' : (convert 22 22 (.slice (some ⟨w2.heap.size, 0, none⟩) 3 3)).run Tryd.prog (w2.alloc (.cells #[.int .u8 84, .int .u8 80, .int .u8 80] 5)) = .ok (.slice (some ⟨w2.heap.size, 0, none⟩) 3 3) W3 := by rw [hW3]; exact hcv
  have HF3 : Hid (Fr [] w2 W3) := by rw [hW3]; exact (Fr.refl _ _).alloc _
  have hM3 : BytesAt W3 (some ⟨w2.heap.size, 0, none⟩) [84, 80, 80] := by
    have hb : W3.heap[w2.heap.size]? = some (.cells #[.int .u8 84, .int .u8 80, .int .u8 80] 5 (3, 4)) := by
      rw [hW3]
      exact heap_new _ _
    refine fun i x hx => ⟨w2.heap.size, 0, rfl, cell_of_heap hb ?_⟩
    match i, hx with
    | 0, hx => cases hx; rfl
    | 1, hx => cases hx; rfl
    | 2, hx => cases hx; rfl
  have hd3 := decode_at (cap := 3) 64 (by omega) (by omega) (HG.out.fr (HF2.out.trans HF3.out)) (HI.out.still (HF2.out.trans HF3.out)) hM3 (fun x hx => by simp at hx; unfold B; rcases hx with rfl | rfl | rfl <;> omega) (by decide) (by decide)
  have HD3 : Hid (Calls Tryd.prog 5 #[.slice (some ⟨w2.heap.size, 0, none⟩) 3 3, .int .i64 64] W3 (Decoded6 64 [84, 80, 80] W3)) := Lib.hid hd3
  have HD4 : Hid (∀ W, Fr [] w2 W → Calls Tryd.prog 5 #[.slice (some ⟨g, o, none⟩) 28 vc, .int .i64 64] W (Decoded6 64 (encI 0 0 []) W)) := Lib.hid fun W hF => by
    have := decode_at (cap := vc) 64 (by omega) (by omega) (HG.out.fr (HF2.out.trans hF)) (HI.out.still (HF2.out.trans hF)) (HA.out.fr hF (fun _ _ => by simp)) (encI_byte _ _ _) (by rw [hln]; exact hcp) (by rw [hln]; decide)
    rw [hln] at this
    exact this
  have hln' : vc = vc := rfl
  clear hcv hW3 hM3 hd3 hln' hln
  go_wp2_with fail
  refine HD3.out.mono ?_
  intro e w4 hd
  obtain ⟨rfl, hF4⟩ := hd.no (decE_none dec_tpp) (by decide)
  have HF4 := Lib.hid (HF3.out.trans hF4)
  clear hd hF4 HD3
  go_wp2_with fail
  refine (HD4.out _ HF4.out).mono ?_
  intro e w5 hd
  obtain ⟨gb, gm, -, rfl, hL⟩ := hd.yes dec_nil6 (loadE_nil 64 (by omega))
  obtain ⟨wv5, sv5, hH5, hF5, -⟩ := hL
  have HF5 : Hid (Fr [] w2 w5) := HF4.out.trans hF5
  have HW5 : Hid (∀ W, Fr [] w5 W → Calls Tryd.prog 10 #[.pointer (some ⟨gb, 0, none⟩)] W (Still (.int .i64 64) W)) := Lib.hid fun W hF => words_still (memory_at (hH5.fr hF (by simp) (fun _ _ => by simp)))
  have hc5 := HF5.out.cell (by simp) HC0.out
  rw [Nat.add_zero] at hc5
  clear hd hH5 hF5 HD4
  go_wp2_with fail
  refine (HW5.out _ (Fr.refl _ _)).mono ?_
  rintro e w6 ⟨rfl, hF6⟩
  have HF6 := Lib.hid (HF5.out.trans hF6)
  clear hF6
  go_wp2_with fail
  refine (encode_nil _).mono ?_
  rintro e w7 ⟨rfl, hF7⟩
  have HF7 : Hid (Fr [] w w7) := HF2.out.trans (HF6.out.trans hF7)
  clear hF7
  go_wp2_with fail
  go_ret
  exact ⟨rfl, HF7.out⟩
end Go.Proofs.YtbiccjkgobehoaaDoor
namespace Go.Proofs.YtbiccjkgobehoaaDoor
open Go.RowKit

/-- the program's heap behind loaded -/
structure Had6 (lim : Int) (os : List Ob) (root hs : Int) (hb mb : Nat) (wv sv : Value) (w W : World) : Prop where
  at_ : HeapAt W hb mb (absMem lim os root hs) wv sv
  inv : OInv lim os hs
  sizes : ∀ o ∈ os, o.2.2.length ≤ 512
  rootB : WB root
  fine : loadE lim os root hs = 0
  fr : Fr [] w W
theorem Had6.still {lim : Int} {os : List Ob} {root hs : Int} {hb mb : Nat} {wv sv : Value} {w W W' : World} (h : Had6 lim os root hs hb mb wv sv w W) (hF : Fr [] W W') : Had6 lim os root hs hb mb wv sv w W' :=
  ⟨h.at_.fr hF (by simp) (fun _ _ => by simp), h.inv, h.sizes, h.rootB, h.fine, h.fr.trans hF⟩
theorem Had6.encode {lim : Int} {os : List Ob} {root hs : Int} {hb mb : Nat} {wv sv : Value} {w W : World} (h : Had6 lim os root hs hb mb wv sv w W) : Calls Tryd.prog 9 #[.pointer (some ⟨hb, 0, none⟩)] W fun e W' => ∃ va vc, e = .returned (.slice va (28 + 8 * words3 os) vc) ∧ BytesAt W' va (encI root hs os) ∧ 28 + 8 * words3 os ≤ vc ∧ Fr [] W W' ∧ ∀ a, va = some a → W.heap.size ≤ a.block := by
  refine (encode_at h.at_ h.inv h.sizes h.rootB).mono ?_
  rintro e W' ⟨v, rfl, hr, hF, hn⟩
  obtain ⟨va, vc, rfl⟩ := row_shape hr
  obtain ⟨hA, -, hc⟩ := bytes_row hr
  refine ⟨va, vc, rfl, hA, hc, hF, fun a ha => ?_⟩
  subst ha
  have hb : (Value.slice (some a) (28 + 8 * words3 os) vc).ownBlock = some a.block := by
    rcases hr.2 with ⟨h0, -⟩ | ⟨g, cp, cur, h0, -⟩
    · cases h0
    · cases h0; rfl
  rcases hn a.block hb with h1 | h1
  · cases h1
  · exact h1
theorem Had6.len {lim : Int} {os : List Ob} {root hs : Int} {hb mb : Nat} {wv sv : Value} {w W : World} (h : Had6 lim os root hs hb mb wv sv w W) : 1 + words3 os = endOf os ∧ endOf os ≤ 65536 := by
  have h1 := h.inv.fit
  have h2 := h.inv.l2
  exact ⟨words3_end os, by omega⟩
end Go.Proofs.YtbiccjkgobehoaaDoor
