/- GcTwice, walked. -/
import Derived.Test.YtninigdcpeijhaaGreatDoorMGcOrderWalk
namespace Go.Proofs.YtninigdcpeijhaaGreatDoor
open Go.RowKit

section
variable {lim root hashes : Int} {os : List Ob} {roots : List Int}
/-- what is left may be run again -/
theorem left_inv (hI : OInv lim os hashes) (hwo : wordsOk os root = true) (hs5 : ∀ o ∈ os, o.2.2.length ≤ 512) :
    OInv lim (leftObs (keepR os (root :: roots)) os) hashes ∧ wordsOk (leftObs (keepR os (root :: roots)) os) (moveW (keepR os (root :: roots)) os root) = true ∧ ∀ o ∈ leftObs (keepR os (root :: roots)) os, o.2.2.length ≤ 512 := by
  have he : endOf os ≤ 65536 := by have := hI.fit; have := hI.l2; omega
  have hsrc : ∀ o ∈ leftObs (keepR os (root :: roots)) os, ∃ a ∈ os, o = moveOb (moveW (keepR os (root :: roots)) os) a := fun o ho => by
    obtain ⟨a, ha, e⟩ := List.mem_map.1 ho
    exact ⟨a, (keepL_sub _ 1 os).subset ha, e.symm⟩
  refine ⟨⟨hI.l1, hI.l2, ?_, hI.h0, hI.h1, fun o ho => ?_, fun o ho => ?_, hash_left hI.uq⟩, words_left he hwo (keepR_closed _ _) (fun h => keepR_iff.2 (.root (by simp) h)), size_left hs5⟩
  · have := end_left (keepR os (root :: roots)) os
    have := hI.fit
    omega
  · obtain ⟨a, ha, rfl⟩ := hsrc o ho
    exact hI.each a ha
  · obtain ⟨a, ha, rfl⟩ := hsrc o ho
    have h2 := hI.bd a ha
    refine ⟨move_WB h2.1, fun y hy => ?_⟩
    obtain ⟨z, hz, rfl⟩ := List.mem_map.1 hy
    exact move_WB (h2.2 z hz)
theorem left_ok (he : endOf os ≤ 65536) (hall : roots.all (okB (marksOf os)) = true) : (roots.map (moveW (keepR os (root :: roots)) os)).all (okB (marksOf (leftObs (keepR os (root :: roots)) os))) = true := by
  rw [List.all_eq_true]
  intro y hy
  obtain ⟨x, hx, rfl⟩ := List.mem_map.1 hy
  exact ok_move he (List.all_eq_true.1 hall x hx) (fun h => keepR_iff.2 (.root (by simp [hx]) h))
/-- a second run keeps all, and moves nothing -/
theorem twice_law (ol : List Ob) (hol : ol = leftObs (keepR os (root :: roots)) os) (f : Int → Int) (hf : f = moveW (keepR os (root :: roots)) os) :
    leftObs (keepR ol (f root :: roots.map f)) ol = ol ∧ ∀ x, moveW (keepR ol (f root :: roots.map f)) ol x = x := by
  have h : ∀ y, (lookP 1 ol y).isSome = true → keepR ol (f root :: roots.map f) y = true := fun y hy => by
    rw [hol] at hy ⊢
    have := all_kept hy
    rw [List.map_cons, ← hf] at this
    exact this
  exact ⟨leftObs_all h, moveW_all h⟩
end
set_option maxRecDepth 100000 in
set_option maxHeartbeats 8000000 in
theorem gcTwice_walk {ao : Option Addr} {cap : Nat} {w : World} (its : List (It × Int)) (hG : G4 w ao its) (hB : B4 its) (root : Int) (hr : WB root) (n : Int) (n1 : -9223372036854775808 ≤ n) (n2 : n ≤ 9223372036854775807) {ra : Option Addr} {rc : Nat} (xs : List Int) (hX : WordsAt w ra xs) (hXB : ∀ x ∈ xs, WB x) (hXL : xs.length ≤ 17592186044416) (hXN : 0 < xs.length → ∃ b o, ra = some ⟨b, o, none⟩ ∧ b < w.heap.size) (hg : Glob w) :
    Calls Tryz.prog 4 #[.slice ao its.length cap, .int .u64 root, .int .i64 n, .slice ra xs.length rc] w (Still (.bool true) w) := by
  have hA := awake3 w hg
  have HG := Lib.hid hg
  have HG4 := Lib.hid hG
  have HB4 := Lib.hid hB
  have HR := Lib.hid hr
  have HX := Lib.hid hX
  have HXB := Lib.hid hXB
  have HXN := Lib.hid hXN
  obtain ⟨N, hN⟩ : ∃ N, N = its.length := ⟨_, rfl⟩
  have HN := Lib.hid hN
  obtain ⟨K, hK⟩ : ∃ K, K = xs.length := ⟨_, rfl⟩
  have HK := Lib.hid hK
  rw [← hN, ← hK]
  rw [← hK] at hXL
  clear hg hG hB hN hr hX hXB hXN hK
  go_enter Tryz.func4, Tryz.ntmps4
  go_wp2_with fail
  refine hA.mono ?_
  rintro e w1 ⟨rfl, hF1⟩
  have hld := loaded3 (cap := cap) (HG.out.fr hF1) its (HG4.out.fr0 hF1) HB4.out root n HR.out n1 n2
  rw [← HN.out] at hld
  have HF1 := Lib.hid hF1
  clear hA hF1
  go_wp2_with fail
  refine hld.mono ?_
  rintro e w2 ⟨hb, mb, ⟨h0, rfl, hL⟩ | ⟨rfl, hF2⟩⟩
  · obtain ⟨hI, hwo, hs5⟩ := loaded_inv HB4.out h0
    obtain ⟨os, hos⟩ : ∃ os, os = obsOf (its.map Prod.fst) := ⟨_, rfl⟩
    rw [← hos] at hL hI hwo hs5
    obtain ⟨wv, sv, hH, hF0, h1, h2⟩ := hL
    have he : endOf os ≤ 65536 := by have := hI.fit; omega
    have HI := Lib.hid hI
    have HWO := Lib.hid hwo
    have HS5 := Lib.hid hs5
    have HH := Lib.hid hH
    have HF0 := Lib.hid hF0
    have H2 := Lib.hid h2
    have HE := Lib.hid he
    clear hld h0 hos hI hwo hs5 hH hF0 h1 h2 he
    cases hall : xs.all (okB (marksOf os))
    · have hrun := gcRun_no (W := w2) (ra := ra) (rc := rc) HI.out HH.out xs (HX.out.fr0 (HF1.out.trans HF0.out)) HXB.out (by rw [← HK.out]; exact hXL) hall
      rw [← HK.out] at hrun
      clear hall
      go_wp2_with fail
      refine hrun.mono ?_
      rintro e w3 ⟨rfl, hF3⟩
      have HF3 := Lib.hid hF3
      clear hF3 hrun
      go_wp2_with fail
      go_ret
      exact ⟨rfl, (HF1.out.trans HF0.out).trans HF3.out⟩
    · have hrun := gcRun (W := w2) (ra := ra) (rc := rc) (HG.out.fr (HF1.out.trans HF0.out)) HI.out HWO.out HS5.out HH.out HR.out xs (HX.out.fr0 (HF1.out.trans HF0.out)) HXB.out (by rw [← HK.out]; exact hXL) hall (fun hne a ha hk => by
        obtain ⟨b, o, e, hlt⟩ := HXN.out (List.length_pos_iff.2 hne)
        rw [ha] at e
        cases e
        have h1 := H2.out _ hk
        have h2 := HF1.out.size
        simp only at h1
        omega)
      unfold Ran at hrun
      obtain ⟨f, hf⟩ : ∃ f, f = moveW (keepR os (root :: xs)) os := ⟨_, rfl⟩
      obtain ⟨ol, hol⟩ : ∃ ol, ol = leftObs (keepR os (root :: xs)) os := ⟨_, rfl⟩
      have hinv := left_inv (roots := xs) HI.out HWO.out HS5.out
      have hok := left_ok (root := root) HE.out hall
      have htw := twice_law ol hol f hf
      have hfw : ∀ x, WB x → WB (f x) := fun x h => by rw [hf]; exact move_WB h
      rw [← hol, ← hf] at hinv hok
      rw [← hol, ← hf, ← HK.out] at hrun
      have HINV := Lib.hid hinv
      have HOK := Lib.hid hok
      have HTW := Lib.hid htw
      have HFW := Lib.hid hfw
      clear hall hf hol hinv hok htw hfw
      go_wp2_with fail
      refine hrun.mono ?_
      rintro e w4 ⟨v, rfl, hrow, hvn, wv', sv', hH4, hF4, hft4, hvf⟩
      obtain ⟨va, vc, rfl, hV⟩ := move_words hrow
      have HV := Lib.hid hV
      have HE14 : Hid (Fr [] w1 w4) := HF0.out.join hF4 H2.out
      have HE4 : Hid (Fr [] w w4) := HF1.out.trans HE14.out
      have HVF : Hid (∀ a, va = some a → a.block ∉ foot mb wv' sv') := Lib.hid fun a ha => hvf a.block (by rw [ha]; rfl)
      have HFT4 : Hid (∀ k ∈ foot mb wv' sv', w1.heap.size ≤ k) := Lib.hid fun k hk => (hft4 k hk).elim (H2.out k) (fun h => Nat.le_trans HF0.out.size h)
      have HH4 := Lib.hid hH4
      have hd := snap_at HINV.out.1 hH4
      have hlol : ol.length ≤ 4096 := by have := len_end ol; have := HINV.out.1.fit; omega
      clear hrun hrow hF4 hV hvn hH4 hft4 hvf
      go_wp2_with fail
      refine hd.mono ?_
      rintro e w5 ⟨da, dc, its5, rfl, hr5, ho5, hown5, hF5, hfr5⟩
      have hil : its5.length = ol.length := by rw [← ho5]; simp [obsOf]
      have hth := theirs_at (vc := dc) hr5 hown5 (by omega)
      have HO5 := Lib.hid ho5
      have HF5 := Lib.hid hF5
      have HFR5 := Lib.hid hfr5
      obtain ⟨L, hLL⟩ : ∃ L, L = its5.length := ⟨_, rfl⟩
      rw [← hLL] at hth hil
      have HL := Lib.hid hLL
      have HIL := Lib.hid hil
      have hL4 : L ≤ 4096 := by omega
      rw [← hLL]
      clear hd hr5 ho5 hown5 hF5 hfr5 hLL hil
      go_wp2_with fail
      refine hth.mono ?_
      rintro e w6 ⟨ba, bc, rfl, -, hG6, hF6, hn6⟩
      have HG6 := Lib.hid hG6
      have HF6 : Hid (Fr [] w4 w6) := HF5.out.trans hF6
      have HN6 : Hid (∀ a, ba = some a → w4.heap.size ≤ a.block) := Lib.hid fun a ha => Nat.le_trans HF5.out.size (hn6 a ha)
      have hrun := gcRun (W := w6) (ra := va) (rc := vc) (HG.out.fr (HE4.out.trans HF6.out)) HINV.out.1 HINV.out.2.1 HINV.out.2.2 (HH4.out.fr HF6.out (by simp) (fun _ _ => by simp)) (HFW.out _ HR.out) (xs.map f) (HV.out.fr0 HF6.out) (fun y hy => by obtain ⟨x, hx, rfl⟩ := List.mem_map.1 hy; exact HFW.out x (HXB.out x hx)) (by rw [List.length_map, ← HK.out]; exact hXL) HOK.out (fun _ => HVF.out)
      unfold Ran at hrun
      have hmid : (xs.map f).map (moveW (keepR ol (f root :: xs.map f)) ol) = xs.map f := by
        rw [show moveW (keepR ol (f root :: xs.map f)) ol = id from funext HTW.out.2]
        simp
      rw [HTW.out.1, HTW.out.2, hmid, Int.sub_self, List.length_map, ← HK.out] at hrun
      clear hth hG6 hF6 hn6 hmid
      go_wp2_with fail
      refine hrun.mono ?_
      rintro e w7 ⟨v7, rfl, hrow7, -, wv7, sv7, hH7, hF7, hft7, -⟩
      obtain ⟨va7, vc7, rfl, hV7⟩ := move_words (xs := xs) hrow7
      have HFN4 : Hid (∀ k ∈ foot mb wv' sv', k < w4.heap.size) := Lib.hid fun k hk => HH4.out.mem.lt k hk
      have HV7 := Lib.hid hV7
      have HVA7 : Hid (WordsAt w7 va (xs.map f)) := words_far (HV.out.fr0 HF6.out) hF7 (fun _ => HVF.out)
      have HG7 : Hid (G4 w7 ba (noPlace its5)) := HG6.out.fr hF7 (fun _ a ha hk => by have h1 := HN6.out a ha; have h2 := HFN4.out _ hk; omega) (fun o ho fa m fc hv _ hk => by
        obtain ⟨it, hit, rfl⟩ := List.mem_map.1 ho
        have h1 := HFR5.out it hit fa.block (by rw [hv]; rfl)
        have h2 := HFN4.out _ hk
        omega)
      have HE7 : Hid (Fr [] w w7) := by
        exact HF1.out.trans ((HE14.out.trans HF6.out).join hF7 HFT4.out)
      have HH7 := Lib.hid hH7
      clear hrun hrow7 hH7 hF7 hft7 hV7
      have hsw : Calls Tryz.prog 20 #[.slice va K vc, .slice va7 K vc7] w7 (Drawn (.bool true) w7) := by
        have := sameWords (ac := vc) (bc := vc7) (xs.map f) (xs.map f) HVA7.out HV7.out (by rw [List.length_map, ← HK.out]; exact hXL)
        rw [List.length_map, ← HK.out, decide_eq_true rfl] at this
        exact this
      have HSD : Hid (∀ w8, Fr [] w7 w8 → Calls Tryz.prog 23 #[.pointer (some ⟨hb, 0, none⟩)] w8 fun e W1 => ∃ va vc its, e = .returned (.slice va L vc) ∧ its.length = L ∧ RowAt W1 va (flat3 its) ∧ obsOf its = ol ∧ (∀ o ∈ its, ItOwn W1 o) ∧ Fr [] w8 W1) := Lib.hid fun w8 hF => by
        refine (snap_at HINV.out.1 (HH7.out.fr hF (by simp) (fun _ _ => by simp))).mono ?_
        rintro e W1 ⟨a, c, js, rfl, h1, h2, h3, h4, -⟩
        have hl : js.length = L := by rw [HIL.out, ← h2]; simp [obsOf]
        exact ⟨a, c, js, by rw [hl], hl, h1, h2, h3, h4⟩
      clear HV7 HVA7
      go_wp2_with (first
        | (go_at_call 20; refine hsw.mono ?_; rintro e w8 ⟨rfl, hw8⟩; have HF8 : Hid (Fr [] w7 w8) := (by obtain ⟨m, rfl⟩ := hw8; exact (Fr.refl _ _).drewN _); have hd8 := HSD.out w8 HF8.out; clear hw8)
        | (go_at_call 23; refine hd8.mono ?_; rintro e w9 ⟨a9, c9, its9, rfl, hl9, hr9, ho9, hown9, hF9⟩; have hth9 := theirs_at (vc := c9) hr9 hown9 (by omega); rw [hl9] at hth9; have HO9 := Lib.hid ho9; have HF9 := Lib.hid hF9; have HL9 := Lib.hid hl9; clear hl9 hr9 ho9 hown9 hF9 hd8)
        | (go_at_call 22; refine hth9.mono ?_; rintro e w10 ⟨ca, cc, rfl, -, hG10, hF10, -⟩; have HF10 : Hid (Fr [] w7 w10) := (HF8.out.trans HF9.out).trans hF10; have hG7' := HG7.out.fr0 HF10.out; have hso := sameObjects (ac := bc) (bc := cc) (noPlace its5) (noPlace its9) hG7'.row hG10.row hG7'.ok hG10.ok (by rw [noPlace_len, ← HL.out]; omega); rw [noPlace_len, noPlace_len, HL9.out, ← HL.out, noPlace_keys, noPlace_keys, HO5.out, HO9.out, decide_eq_true rfl] at hso; clear hG10 hF10 hG7' hth9)
        | (go_at_call 21; refine hso.mono ?_; rintro e w11 ⟨rfl, hw11⟩; have HF11 : Hid (Fr [] w7 w11) := HF10.out.trans (by obtain ⟨m, rfl⟩ := hw11; exact (Fr.refl _ _).drewN _); clear hw11))
      have HOKW : Hid (∀ o ∈ ol, ∀ x ∈ o.2.2, okB (marksOf ol) x = true) := Lib.hid fun o ho x hx => ((wordsOk_of HINV.out.2.1).1 o ho).2 x hx
      have HEL : Hid (endOf ol ≤ 65536) := by have := HINV.out.1.fit; have := HINV.out.1.l2; exact Lib.hid (by omega)
      clear hsw hso HSD HF9 HF8 HF10 HO9 HL9
      go_loopw [19] (fun s wr => ∃ i : Nat, i ≤ L ∧ s = .int .i64 i ∧ Hid (Fr [] w7 wr)) (fun s _ => L - (intOf s).toNat)
      case atStart => exact ⟨0, Nat.zero_le _, rfl, HF11⟩
      case round =>
        obtain ⟨i, hi, rfl, hFi⟩ := hrel
        by_cases hlt : i < L
        · have hkl : i < its5.length := by rw [← HL.out]; exact hlt
          obtain ⟨it, hit⟩ : ∃ it, its5[i]? = some it := ⟨_, List.getElem?_eq_getElem hkl⟩
          have hit4 : (noPlace its5)[i]? = some (it, 0) := by unfold noPlace; rw [List.getElem?_map, hit]; rfl
          obtain ⟨g, off, rfl, cf⟩ := HG7.out.row _ _ (flat4_at hit4).2.2.1
          obtain ⟨fa, fc, hfv, hfw, hfl⟩ := HG7.out.ok (it, 0) (List.mem_of_getElem? hit4)
          simp only at hfv hfw hfl cf
          rw [hfv, ← Nat.add_assoc] at cf
          have hkey : it.key ∈ ol := by rw [← HO5.out]; exact List.mem_map_of_mem (List.mem_of_getElem? hit)
          have HOKF : Hid (∀ x ∈ it.fs, okB (marksOf ol) x = true ∧ WB x) := Lib.hid fun x hx => ⟨HOKW.out _ hkey x hx, (HINV.out.1.bd _ hkey).2 x hx⟩
          obtain ⟨M, hM⟩ : ∃ M, M = it.fs.length := ⟨_, rfl⟩
          rw [← hM] at cf hfl
          have HMM := Lib.hid hM
          have HCF := Lib.hid cf
          have HFWD := Lib.hid hfw
          have i0 : (0 : Int) ≤ (i : Int) := by omega
          have i1 : (i : Int) < (L : Int) := by omega
          clear hkl hit hit4 cf hfv hfw hkey hM
          go_wp2
          go_loopw [20] (fun s wr => ∃ j : Nat, j ≤ M ∧ s = .int .i64 j ∧ Hid (Fr [] w7 wr)) (fun s _ => M - (intOf s).toNat)
          case atStart => exact ⟨0, Nat.zero_le _, rfl, hFi⟩
          case round =>
            obtain ⟨j, hj, rfl, hFj⟩ := hrel
            have cf := hFj.out.cell (by simp) HCF.out
            by_cases hjl : j < M
            · have hjk : j < it.fs.length := by rw [← HMM.out]; exact hjl
              obtain ⟨x, hx⟩ : ∃ x, it.fs[j]? = some x := ⟨_, List.getElem?_eq_getElem hjk⟩
              obtain ⟨fg, fo, rfl, cx⟩ := HFWD.out j x hx
              have cx' := hFj.out.cell (by simp) cx
              obtain ⟨hok, x1, x2⟩ := HOKF.out x (List.mem_of_getElem? hx)
              have j0 : (0 : Int) ≤ (j : Int) := by omega
              have j1 : (j : Int) < (M : Int) := by omega
              have hHas := has_still (memory_at (HH7.out.fr hFj.out (by simp) (fun _ _ => by simp))) x x1 x2
              rw [show (absMem 4096 ol (f root) n).M = marksOf ol from rfl] at hHas
              have HOKX := Lib.hid hok
              clear hjk hx cx hok
              by_cases h0 : x = 0
              · subst h0
                clear hHas
                go_wp2
                go_roundw
                case rel => exact ⟨j + 1, by omega, by go_num, hFj⟩
                case measure => simp [intOf]; omega
              · have hq1 : (x == 0) = false := by simpa using h0
                have hq2 : (x != 0) = true := by simpa using h0
                by_cases ho : x % 2 = 1
                · have ht : x.tmod 2 = 1 := by rw [Int.tmod_eq_emod_of_nonneg x1]; exact ho
                  clear hHas
                  go_wp2
                  go_roundw
                  case rel => exact ⟨j + 1, by omega, by go_num, hFj⟩
                  case measure => simp [intOf]; omega
                · have ht : x.tmod 2 = 0 := by rw [Int.tmod_eq_emod_of_nonneg x1]; omega
                  have hst : stB (marksOf ol) x = true := by
                    rw [stB_look HEL.out]
                    exact ok_look HEL.out HOKX.out h0 (by simpa [odd] using ho)
                  rw [hst] at hHas
                  clear hst
                  go_wp2_with (go_at_call 30; refine hHas.mono ?_; rintro e w12 ⟨rfl, hF12⟩; have HF12 : Hid (Fr [] w7 w12) := hFj.out.trans hF12; clear hF12)
                  go_roundw
                  case rel => exact ⟨j + 1, by omega, by go_num, HF12⟩
                  case measure => simp [intOf]; omega
            · have hjM : j = M := by omega
              subst hjM
              have hjd : decide (j < j) = false := by simp
              go_wp2
              go_roundw
              case rel => exact ⟨i + 1, by omega, by go_num, hFj⟩
              case measure => simp [intOf]; omega
        · have hiL : i = L := by omega
          subst hiL
          have hid' : decide (i < i) = false := by simp
          go_wp2
          go_ret
          exact ⟨rfl, HE7.out.trans hFi.out⟩
  · have HF2 := Lib.hid hF2
    clear hld hF2
    go_wp2_with fail
    go_ret
    exact ⟨rfl, HF1.out.trans HF2.out⟩
end Go.Proofs.YtninigdcpeijhaaGreatDoor
