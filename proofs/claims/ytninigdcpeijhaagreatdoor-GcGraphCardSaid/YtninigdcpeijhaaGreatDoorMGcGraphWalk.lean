/- GcGraph, walked. -/
import Derived.Test.YtninigdcpeijhaaGreatDoorMGraphLoop
import Derived.Test.YtninigdcpeijhaaGreatDoorMSame
namespace Go.Proofs.YtninigdcpeijhaaGreatDoor
open Go.RowKit

set_option maxRecDepth 100000 in
set_option maxHeartbeats 8000000 in
theorem gcGraph_walk {ao : Option Addr} {cap : Nat} {w : World} (its : List (It × Int)) (hG : G4 w ao its) (hB : B4 its) (root : Int) (hr : WB root) (n : Int) (n1 : -9223372036854775808 ≤ n) (n2 : n ≤ 9223372036854775807) {ra : Option Addr} {rc : Nat} (xs : List Int) (hX : WordsAt w ra xs) (hXB : ∀ x ∈ xs, WB x) (hXL : xs.length ≤ 17592186044416) (hXN : 0 < xs.length → ∃ b o, ra = some ⟨b, o, none⟩ ∧ b < w.heap.size) (hg : Glob w) :
    Calls Tryz.prog 5 #[.slice ao its.length cap, .int .u64 root, .int .i64 n, .slice ra xs.length rc] w (Still (.bool true) w) := by
  have hA := awake3 w hg
  have HG := Lib.hid hg
  have HG4 := Lib.hid hG
  have HB4 := Lib.hid hB
  have HR := Lib.hid hr
  have HX := Lib.hid hX
  have HXB := Lib.hid hXB
  have HXN := Lib.hid hXN
  obtain ⟨N, hN⟩ : ∃ N, N = its.length := ⟨_, rfl⟩
  have HN := Lib.hid hN
  obtain ⟨KK, hKK⟩ : ∃ KK, KK = xs.length := ⟨_, rfl⟩
  have HK := Lib.hid hKK
  rw [← hN, ← hKK]
  rw [← hKK] at hXL
  clear hg hG hB hN hr hX hXB hXN hKK
  go_enter Tryz.func5, Tryz.ntmps5
  go_wp2_with fail
  refine hA.mono ?_
  rintro e w1 ⟨rfl, hF1⟩
  have hld := loaded3 (cap := cap) (HG.out.fr hF1) its (HG4.out.fr0 hF1) HB4.out root n HR.out n1 n2
  rw [← HN.out] at hld
  have HF1 := Lib.hid hF1
  clear hA hF1
  go_wp2_with fail
  refine hld.mono ?_
  intro e w2 hl2
  have hF12 : Fr [] w w2 := by
    obtain ⟨_, _, ⟨-, -, h⟩ | ⟨-, h⟩⟩ := hl2
    · exact HF1.out.trans h.fr
    · exact HF1.out.trans h
  have hld2 := loaded3 (cap := cap) (HG.out.fr hF12) its (HG4.out.fr0 hF12) HB4.out root n HR.out n1 n2
  rw [← HN.out] at hld2
  have HF12 := Lib.hid hF12
  clear hF12 hld
  obtain ⟨gb, gm, ⟨h0, rfl, hL⟩ | ⟨rfl, hF2⟩⟩ := hl2
  · go_wp2_with fail
    refine hld2.mono ?_
    rintro e w3 ⟨hb, hm, ⟨-, rfl, hL3⟩ | ⟨rfl, hF3⟩⟩
    · obtain ⟨hI, hwo, hs5⟩ := loaded_inv HB4.out h0
      obtain ⟨os, hos⟩ : ∃ os, os = obsOf (its.map Prod.fst) := ⟨_, rfl⟩
      rw [← hos] at hL hL3 hI hwo hs5
      obtain ⟨gwv, gsv, gH, gF0, -, g2⟩ := hL
      obtain ⟨hwv, hsv, hH, hF0, h1, h2⟩ := hL3
      have gH3 : HeapAt w3 gb gm (absMem 4096 os root n) gwv gsv := gH.fr hF0 (by simp) (fun _ _ => by simp)
      have he : endOf os ≤ 65536 := by have := hI.fit; omega
      have HI := Lib.hid hI
      have HWO := Lib.hid hwo
      have HS5 := Lib.hid hs5
      have HE := Lib.hid he
      have HGH := Lib.hid gH3
      have HGL : Hid (∀ k ∈ foot gm gwv gsv, k < w2.heap.size) := Lib.hid fun k hk => gH.mem.lt k hk
      have HGN : Hid (∀ k ∈ foot gm gwv gsv, w.heap.size ≤ k) := Lib.hid fun k hk => Nat.le_trans HF1.out.size (g2 k hk)
      have HHH := Lib.hid hH
      have HHN : Hid (∀ k ∈ foot hm hwv hsv, w2.heap.size ≤ k) := Lib.hid h2
      have HHB := Lib.hid h1
      have HGB : Hid (gb < w2.heap.size) := Lib.hid (lt_of_heap gH.heap)
      have HEW3 : Hid (Fr [] w w3) := HF12.out.trans hF0
      have HF0 := Lib.hid hF0
      clear hld2 h0 hos hI hwo hs5 gH gF0 g2 hH hF0 h1 h2 gH3 he
      by_cases hbig : 50 < KK
      · go_wp2_with fail
        go_ret
        exact ⟨rfl, HEW3.out⟩
      · cases hall : xs.all (okB (marksOf os))
        · have hrun := gcRun_no (W := w3) (ra := ra) (rc := rc) HI.out HHH.out xs (HX.out.fr0 HEW3.out) HXB.out (by rw [← HK.out]; omega) hall
          rw [← HK.out] at hrun
          clear hall
          go_wp2_with fail
          refine hrun.mono ?_
          rintro e w4 ⟨rfl, hF4⟩
          have HF4 := Lib.hid hF4
          clear hF4 hrun
          go_wp2_with fail
          go_ret
          exact ⟨rfl, HEW3.out.trans HF4.out⟩
        · have hrun := gcRun (W := w3) (ra := ra) (rc := rc) (HG.out.fr HEW3.out) HI.out HWO.out HS5.out HHH.out HR.out xs (HX.out.fr0 HEW3.out) HXB.out (by rw [← HK.out]; omega) hall (fun hne a ha hk => by
            obtain ⟨b, o, e, hlt⟩ := HXN.out (List.length_pos_iff.2 hne)
            rw [ha] at e
            cases e
            have h1 := HHN.out _ hk
            have h2 := HF12.out.size
            simp only at h1
            omega)
          unfold Ran at hrun
          obtain ⟨keep, hkeep⟩ : ∃ keep, keep = keepR os (root :: xs) := ⟨_, rfl⟩
          obtain ⟨f, hf⟩ : ∃ f, f = moveW keep os := ⟨_, rfl⟩
          have hGI : GInv os n root keep f := ⟨HI.out, HWO.out, by rw [hkeep]; exact keepR_closed _ _, fun v hv => by rw [hkeep] at hv; exact keepR_obj hv, hf.symm, HS5.out⟩
          have hli := (left_inv (roots := xs) HI.out HWO.out HS5.out).1
          rw [← hkeep, ← hf, ← HK.out] at hrun
          rw [← hkeep] at hli
          have hkr : ∀ y, (y = root ∨ y ∈ xs) → (lookP 1 os y).isSome = true → keep y = true := fun y hy hs => by rw [hkeep]; exact keepR_iff.2 (.root (by simpa using hy) hs)
          have hroot0 : okB (marksOf os) root = true := by
            rcases (wordsOk_of HWO.out).2 with h | h
            · rw [h]; simp [okB]
            · unfold okB; rw [h]; rfl
          have hokx : ∀ y, (y = root ∨ y ∈ xs) → okB (marksOf os) y = true := fun y hy => hy.elim (fun h => by rw [h]; exact hroot0) (fun h => List.all_eq_true.1 hall y h)
          have hnx : ∀ y, (y = root ∨ y ∈ xs) → (lookP 1 os y).isSome = false → y = 0 ∨ y % 2 = 1 := fun y hy hs => by
            have := hokx y hy
            rw [okB_look HE.out, hs] at this
            simpa [odd] using this
          have hwbx : ∀ y, (y = root ∨ y ∈ xs) → WB y ∧ WB (f y) := fun y hy => by
            have : WB y := hy.elim (fun h => by rw [h]; exact HR.out) (HXB.out y)
            exact ⟨this, by rw [hf]; exact move_WB this⟩
          have hfit : ∀ y, (y = root ∨ y ∈ xs) → Fits f (fun v => keep v = true) (y, f y) := fun y hy => fits_word hGI hli (sim_left hGI) (hwbx y hy).1 (hokx y hy) (hkr y hy)
          have HGI := Lib.hid hGI
          have HLI := Lib.hid hli
          have HKR := Lib.hid hkr
          have HNX := Lib.hid hnx
          have HWX := Lib.hid hwbx
          have HFIT := Lib.hid hfit
          clear hall hkeep hf hGI hli hkr hroot0 hokx hnx hwbx hfit
          go_wp2_with fail
          refine hrun.mono ?_
          rintro e w4 ⟨v, rfl, hrow, hvn, hwv4, hsv4, hH4, hF4, hft4, hvf⟩
          have hvb : ∀ q, v.ownBlock = some q → q < w4.heap.size := fun q hq => by obtain ⟨cur, hc⟩ := row_heap hrow hq; exact lt_of_heap hc
          obtain ⟨va, vc, rfl, hV⟩ := move_words hrow
          have hgH4 : HeapAt w4 gb gm (absMem 4096 os root n) gwv gsv := HGH.out.fr hF4 (fun hk => by have h1 := HHN.out _ hk; have h2 := HGB.out; omega) (fun k hk hk' => by have h1 := HHN.out _ hk'; have h2 := HGL.out k hk; omega)
          have hEW4 : Fr [] w w4 := HEW3.out.join hF4 (fun k hk => Nat.le_trans HF12.out.size (HHN.out k hk))
          have hft4' : ∀ k ∈ foot hm hwv4 hsv4, w2.heap.size ≤ k := fun k hk => (hft4 k hk).elim (HHN.out k) (fun h => Nat.le_trans HF0.out.size h)
          have HMK : Hid (∀ w5 w6, Fr [] w4 w5 → w6 = w5.alloc (.cells #[.int .u64 root, .int .u64 (f root)] 59) → GL w gb gm hb hm root keep f va xs os n [(root, f root)] w5.heap.size 0 1 w6) := Lib.hid fun w5 w6 hF hw6 => by
            have hF' : Fr [] w4 w6 := by rw [hw6]; exact hF.alloc _
            have hbl : w6.heap[w5.heap.size]? = some (.cells #[.int .u64 root, .int .u64 (f root)] 59 (0, 0)) := by rw [hw6]; exact heap_new _ _
            refine ⟨HGI.out, HLI.out, ⟨gwv, gsv, hwv4, hsv4, hgH4.fr hF' (by simp) (fun _ _ => by simp), hH4.fr hF' (by simp) (fun _ _ => by simp), HGN.out, fun k hk => Nat.le_trans HF12.out.size (hft4' k hk), fun k hk hk' => by have h1 := hft4' k hk'; have h2 := HGL.out k hk; omega, fun a ha => ⟨fun hk => by have h1 := HGL.out _ hk; have h2 := hvn a.block (by rw [ha]; rfl); have h3 := HF0.out.size; omega, hvf a.block (by rw [ha]; rfl)⟩⟩, ⟨⟨_, hbl, by simp⟩, by simp, fun j u hj => ?_⟩, Nat.le_trans hEW4.size hF.size, hEW4.trans hF', hV.fr0 hF', fun a ha => ?_⟩
            · refine cell_of_heap hbl ?_
              rw [Nat.zero_add]
              simpa [flat2] using hj
            · have h1 := hvb a.block (by rw [ha]; rfl)
              have h2 := hF.size
              have h3 := hF'.size
              exact ⟨by omega, by omega⟩
          have hrg := root_still (memory_at hgH4)
          have HHR : Hid (∀ w5, Fr [] w4 w5 → Calls Tryz.prog 25 #[.pointer (some ⟨hb, 0, none⟩)] w5 (Still (.int .u64 (f root)) w5)) := Lib.hid fun w5 hF => root_still (memory_at (hH4.fr hF (by simp) (fun _ _ => by simp)))
          clear hrun hrow hvn hH4 hF4 hft4 hvf hvb hV hgH4 hEW4 hft4'
          go_wp2_with (first
            | (go_at_call 25; refine hrg.mono ?_; rintro e w5 ⟨rfl, hF5⟩; have hrh := HHR.out w5 hF5; have HF5 := Lib.hid hF5; clear hF5 hrg)
            | (go_at_call 25; refine hrh.mono ?_; rintro e w6 ⟨rfl, hF6⟩; have HL0 := Lib.hid (HMK.out w6 _ (HF5.out.trans hF6) rfl); clear hF6 hrh))
          have hmx : Tryz.prog.follows .mixedOrders = true := by kernel_rfl
          clear HMK HHR HF5
          go_loopw [17, 18] (fun tv s wz => ∃ i : Nat, i ≤ KK ∧ s = .int .i64 i ∧ ∃ (os' : List Ob) (n' : Int) (gz oz cz : Nat), tv = .slice (some ⟨gz, oz, none⟩) (1 + i) cz ∧ Hid (∀ y, (lookP 1 os' y).isSome = (lookP 1 os y).isSome) ∧ Hid (GL w gb gm hb hm root keep f va xs os' n' ((root, f root) :: (xs.take i).map (fun x => (x, f x))) gz oz cz wz)) (fun _ s _ => KK - (intOf s).toNat)
          case atStart => exact ⟨0, Nat.zero_le _, rfl, os, n, w6.heap.size, 0, 1, rfl, fun _ => rfl, HL0⟩
          case round =>
            obtain ⟨i, hi, rfl, os', n', gz, oz, cz, rfl, hdif, hGL⟩ := hrel
            have HLN : Hid (((root, f root) :: (xs.take i).map (fun x => (x, f x))).length = 1 + i) := by
              rw [List.length_cons, List.length_map, List.length_take, Nat.min_eq_left (by rw [← HK.out]; omega)]
              exact Lib.hid (by omega)
            by_cases hlt : i < KK
            · have hil : i < xs.length := by rw [← HK.out]; exact hlt
              obtain ⟨x, hx⟩ : ∃ x, xs[i]? = some x := ⟨_, List.getElem?_eq_getElem hil⟩
              have hxm : x = root ∨ x ∈ xs := .inr (List.mem_of_getElem? hx)
              obtain ⟨rg, ro, rfl, rx⟩ := HX.out i x hx
              have hfx : (xs.map f)[i]? = some (f x) := by rw [List.getElem?_map, hx]; rfl
              obtain ⟨ag, ao', rfl, ax⟩ := hGL.out.aw i (f x) hfx
              have c1 := hGL.out.fr.cell (by simp) rx
              have c2 := ax
              have hGLd := hGL.out.still ((Fr.refl [] wr).drew)
              obtain ⟨g5, o5, c5, w5, hr5, hGL5⟩ := hGLd.push x (f x) (by rw [HLN.out]; omega)
              rw [HLN.out] at hr5
              have HTK : Hid ((root, f root) :: (xs.take (i + 1)).map (fun x => (x, f x)) = ((root, f root) :: (xs.take i).map (fun x => (x, f x))) ++ [(x, f x)]) := by
                rw [List.take_add_one, hx]
                exact Lib.hid (by simp)
              rw [← HTK.out] at hGL5
              have d1 := hGL5.fr.cell (by simp) rx
              obtain ⟨_, _, ea, d2⟩ := hGL5.aw i (f x) hfx
              cases ea
              have hh := hGL5.hashes HG.out x (HWX.out x hxm).1 (HWX.out x hxm).2 (fun h => HKR.out x hxm (by rw [← hdif.out]; exact h)) (fun h => HNX.out x hxm (by rw [← hdif.out]; exact h))
              have GL5 := Lib.hid hGL5
              have HFX := Lib.hid hfx
              have HRX := Lib.hid rx
              have i0 : (0 : Int) ≤ (i : Int) := by omega
              have i1 : (i : Int) < (KK : Int) := by omega
              clear hil hx hxm hfx ax rx hGLd hGL5
              go_wp2_with fail
              refine walk_plain (fun w' => w'.cell? ⟨rg, ro + i, none⟩ = some (.int .u64 x) ∧ w'.cell? ⟨ag, ao' + i, none⟩ = some (.int .u64 (f x))) 12 hmx ⟨c1, c2⟩ (fun hHeld => ?_)
              (refine Walk.take (i := 0) (oi := ⟨some 80, _, _, _, _, _⟩) (v := ?_) rfl (by kernel_rfl) (by kernel_rfl) (by kernel_rfl) (by kernel_rfl) (fun _ _ _ h => h) (Or.inl ⟨by rfl, ?_⟩) (by assumption) ?_); rotate_left; focus (intro w hSw; (try dsimp only at hSw); go_split_ands; go_simp; try with_reducible rfl); (try simp only [Act.put, List.setIfInBounds_toArray, List.set_cons_zero, List.set_cons_succ])
              (refine Walk.take (i := 1) (oi := ⟨some 81, _, _, _, _, _⟩) (v := ?_) rfl (by kernel_rfl) (by kernel_rfl) (by kernel_rfl) (by kernel_rfl) (fun _ _ _ h => h) (Or.inl ⟨by rfl, ?_⟩) (by assumption) ?_); rotate_left; focus (intro w hSw; (try dsimp only at hSw); go_split_ands; go_simp; try with_reducible rfl); (try simp only [Act.put, List.setIfInBounds_toArray, List.set_cons_zero, List.set_cons_succ])
              (refine Walk.take (i := 2) (oi := ⟨some 82, _, _, _, _, _⟩) (v := ?_) rfl (by kernel_rfl) (by kernel_rfl) (by kernel_rfl) (by kernel_rfl) (fun _ _ _ h => h) (Or.inl ⟨by rfl, ?_⟩) (by assumption) ?_); rotate_left; focus (intro w hSw; (try dsimp only at hSw); go_split_ands; go_simp; try with_reducible rfl); (try simp only [Act.put, List.setIfInBounds_toArray, List.set_cons_zero, List.set_cons_succ])
              (refine Walk.take (i := 3) (oi := ⟨some 83, _, _, _, _, _⟩) (v := ?_) rfl (by kernel_rfl) (by kernel_rfl) (by kernel_rfl) (by kernel_rfl) (fun _ _ _ h => h) (Or.inl ⟨by rfl, ?_⟩) (by assumption) ?_); rotate_left; focus (intro w hSw; (try dsimp only at hSw); go_split_ands; go_simp; try with_reducible rfl); (try simp only [Act.put, List.setIfInBounds_toArray, List.set_cons_zero, List.set_cons_succ])
              (refine Walk.take (i := 4) (oi := ⟨some 84, _, _, _, _, _⟩) (v := ?_) rfl (by kernel_rfl) (by kernel_rfl) (by kernel_rfl) (by kernel_rfl) (fun _ _ _ h => h) (Or.inl ⟨by rfl, ?_⟩) (by assumption) ?_); rotate_left; focus (intro w hSw; (try dsimp only at hSw); go_split_ands; go_simp; try with_reducible rfl); (try simp only [Act.put, List.setIfInBounds_toArray, List.set_cons_zero, List.set_cons_succ])
              (refine Walk.take (i := 5) (oi := ⟨some 85, _, _, _, _, _⟩) (v := ?_) rfl (by kernel_rfl) (by kernel_rfl) (by kernel_rfl) (by kernel_rfl) (fun _ _ _ h => h) (Or.inl ⟨by rfl, ?_⟩) (by assumption) ?_); rotate_left; focus (intro w hSw; (try dsimp only at hSw); go_split_ands; go_simp; try with_reducible rfl); (try simp only [Act.put, List.setIfInBounds_toArray, List.set_cons_zero, List.set_cons_succ])
              (refine Walk.take (i := 6) (oi := ⟨some 86, _, _, _, _, _⟩) (v := ?_) rfl (by kernel_rfl) (by kernel_rfl) (by kernel_rfl) (by kernel_rfl) (fun _ _ _ h => h) (Or.inl ⟨by rfl, ?_⟩) (by assumption) ?_); rotate_left; focus (intro w hSw; (try dsimp only at hSw); go_split_ands; go_simp; try with_reducible rfl); (try simp only [Act.put, List.setIfInBounds_toArray, List.set_cons_zero, List.set_cons_succ])
              (refine Walk.take (i := 7) (oi := ⟨some 87, _, _, _, _, _⟩) (v := ?_) rfl (by kernel_rfl) (by kernel_rfl) (by kernel_rfl) (by kernel_rfl) (fun _ _ _ h => h) (Or.inl ⟨by rfl, ?_⟩) (by assumption) ?_); rotate_left; focus (intro w hSw; (try dsimp only at hSw); go_split_ands; go_simp; try with_reducible rfl); (try simp only [Act.put, List.setIfInBounds_toArray, List.set_cons_zero, List.set_cons_succ])
              (refine Walk.take (i := 8) (oi := ⟨some 88, _, _, _, _, _⟩) (v := ?_) rfl (by kernel_rfl) (by kernel_rfl) (by kernel_rfl) (by kernel_rfl) (fun _ _ _ h => h) (Or.inl ⟨by rfl, ?_⟩) (by assumption) ?_); rotate_left; focus (intro w hSw; (try dsimp only at hSw); go_split_ands; go_simp; try with_reducible rfl); (try simp only [Act.put, List.setIfInBounds_toArray, List.set_cons_zero, List.set_cons_succ])
              (refine Walk.take (i := 9) (oi := ⟨some 89, _, _, _, _, _⟩) (v := ?_) rfl (by kernel_rfl) (by kernel_rfl) (by kernel_rfl) (by kernel_rfl) (fun _ _ _ h => h) (Or.inl ⟨by rfl, ?_⟩) (by assumption) ?_); rotate_left; focus (intro w hSw; (try dsimp only at hSw); go_split_ands; go_simp; try with_reducible rfl); (try simp only [Act.put, List.setIfInBounds_toArray, List.set_cons_zero, List.set_cons_succ])
              (refine Walk.one (i := 10) rfl (by kernel_rfl) rfl (fun K hK => ?_)); go_simp
              have f1 : (wr.drew.alloc (.cells #[.int .u64 x, .int .u64 (f x)] 59)).cell? ⟨rg, ro + i, none⟩ = some (.int .u64 x) := ((Fr.refl [] wr).drew.alloc _).cell (by simp) c1
              have f2 : (wr.drew.alloc (.cells #[.int .u64 x, .int .u64 (f x)] 59)).cell? ⟨ag, ao' + i, none⟩ = some (.int .u64 (f x)) := ((Fr.refl [] wr).drew.alloc _).cell (by simp) c2
              refine hK.out _ _ (fun _ => ⟨f1, f2⟩) (fun _ => ?_)
              clear hK f1 f2
              refine Walk.one (i := 11) (o := ⟨some 91, _, _, _, _, _⟩) rfl (by kernel_rfl) rfl (fun K hK => ?_)
              refine Lib.wp_append_run _ (.tmp 80) (.tmp 90) 60 60 rfl _ _ rfl rfl _ _ hr5 ?_
              refine hK.out _ _ (fun _ => ⟨d1, d2⟩) (fun _ => ?_)
              clear hK
              simp only [Act.put, List.setIfInBounds_toArray, List.set_cons_zero, List.set_cons_succ]
              (refine Walk.one (i := 12) rfl (by kernel_rfl) rfl (fun K hK => ?_)); go_simp
              refine hK.out _ _ (fun h => absurd rfl h) (fun _ => ?_)
              clear hK c1 c2 hHeld hr5
              refine Walk.done (by kernel_rfl) (Norm.mk ?_) _
              go_wp2_with (first
                | (go_at_call 31; refine hh.mono ?_; rintro e w7 ⟨ha, er, rfl, hA7, hF7, hh2⟩; obtain ⟨_, _, ea7, d7⟩ := hA7 i (f x) HFX.out; cases ea7; clear hA7 hF7 hh)
                | (go_at_call 31; refine hh2.mono ?_; rintro e w8 ⟨rfl, os8, n8, hd8, hGL8⟩; have GL8 := Lib.hid hGL8; have HD8 := Lib.hid hd8; clear hGL8 hd8 hh2))
              go_roundw
              case rel => exact ⟨i + 1, by omega, by go_num, os8, n8, g5, o5, c5, by rw [Nat.add_assoc], fun y => (HD8.out y).trans (hdif.out y), GL8⟩
              case measure => simp [intOf]; omega
            · have hiK : i = KK := by omega
              subst hiK
              obtain ⟨gwv', gsv', hwv', hsv', e1, e2, -⟩ := hGL.out.ex
              have hsm := same_at hGL.out.gi.inv hGL.out.hi e1 e2 (sim_left hGL.out.gi) _ hGL.out.que (fun q hq => by
                rcases List.mem_cons.1 hq with rfl | hq
                · exact HFIT.out root (.inl rfl)
                · obtain ⟨x, hx, rfl⟩ := List.mem_map.1 hq
                  exact HFIT.out x (.inr (List.mem_of_mem_take hx))) (by rw [HLN.out]; omega) hGL.out.gi.s5
              rw [HLN.out] at hsm
              have hid' : decide (i < i) = false := by simp
              clear e1 e2
              go_wp2_with fail
              refine hsm.mono ?_
              rintro e w9 ⟨rfl, hF9⟩
              have HF9 : Hid (Fr [] w w9) := hGL.out.fr.join hF9 (fun j hj => by rw [List.mem_singleton] at hj; rw [hj]; exact hGL.out.new)
              clear hF9 hsm
              go_wp2_with fail
              go_ret
              exact ⟨rfl, HF9.out⟩
    · have HF3 := Lib.hid hF3
      clear hld2 hF3 hL h0
      go_wp2_with fail
      go_ret
      exact ⟨rfl, HF12.out.trans HF3.out⟩
  · go_wp2_with fail
    refine hld2.mono ?_
    intro e w3 hl3
    have hF3 : Fr [] w2 w3 := by
      obtain ⟨_, _, ⟨-, -, h⟩ | ⟨-, h⟩⟩ := hl3
      · exact h.fr
      · exact h
    have HF3 := Lib.hid hF3
    clear hld2 hF3
    obtain ⟨hb, hm, ⟨-, rfl, -⟩ | ⟨rfl, -⟩⟩ := hl3
    · go_wp2_with fail
      go_ret
      exact ⟨rfl, HF12.out.trans HF3.out⟩
    · go_wp2_with fail
      go_ret
      exact ⟨rfl, HF12.out.trans HF3.out⟩
end Go.Proofs.YtninigdcpeijhaaGreatDoor
