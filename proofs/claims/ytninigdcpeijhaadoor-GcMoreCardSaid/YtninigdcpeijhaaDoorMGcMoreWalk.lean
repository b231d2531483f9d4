/- GcMore, walked. -/
import Derived.Test.YtninigdcpeijhaaDoorMGcPush
import Derived.Test.YtninigdcpeijhaaDoorMMask
namespace Go.Proofs.YtninigdcpeijhaaDoor
open Go.RowKit

theorem two_blocks (w : World) (a b : Obj) : ((w.alloc a).alloc b).heap[w.heap.size]? = some a ∧ ((w.alloc a).alloc b).heap[w.heap.size + 1]? = some b := by
  refine ⟨?_, ?_⟩
  · rw [Below.heap_alloc _ _ _ (by simp)]; exact heap_new w a
  · have := heap_new (w.alloc a) b
    simpa using this
theorem two_lt (w : World) (a b : Obj) : w.heap.size < ((w.alloc a).alloc b).heap.size ∧ w.heap.size + 1 < ((w.alloc a).alloc b).heap.size := ⟨lt_of_heap (two_blocks w a b).1, lt_of_heap (two_blocks w a b).2⟩
theorem one_word' {w : World} {b : Nat} {x : Int} (h : w.heap[b]? = some (.cells #[.int .u64 x] 28 (0, 0))) : WordsAt w (some ⟨b, 0, none⟩) [x] := by
  intro i y hy
  cases i with
  | zero => simp at hy; subst hy; exact ⟨b, 0, rfl, cell_of_heap h rfl⟩
  | succ i => simp at hy
theorem one_word (w : World) (x : Int) : WordsAt (w.alloc (.cells #[.int .u64 x] 28)) (some ⟨w.heap.size, 0, none⟩) [x] := one_word' (heap_new w _)
/-- a root more -/
theorem more_law {os : List Ob} {root x : Int} {roots : List Int} (hl : endOf os ≤ 65536) (hx : (lookP 1 os x).isSome = true) :
    (roots ++ [x]).all (okB (marksOf os)) = roots.all (okB (marksOf os)) ∧ endOf (leftObs (keepR os (root :: roots)) os) ≤ endOf (leftObs (keepR os (root :: (roots ++ [x]))) os) ∧
      stB (marksOf (leftObs (keepR os (root :: (roots ++ [x]))) os)) (moveW (keepR os (root :: (roots ++ [x]))) os x) = true := by
  have hk : keepR os (root :: (roots ++ [x])) x = true := keepR_iff.2 (.root (by simp) hx)
  refine ⟨?_, end_mono (fun y hy => keepR_iff.2 ((keepR_iff.1 hy).mono (fun z hz => by simp only [List.mem_cons, List.mem_append, List.not_mem_nil, or_false] at hz ⊢; exact hz.imp id .inl))) os, ?_⟩
  · rw [List.all_append]
    have : okB (marksOf os) x = true := by rw [okB_look hl, hx]; rfl
    simp [this]
  · obtain ⟨o, ho⟩ := Option.isSome_iff_exists.1 hx
    rw [stB_look (Nat.le_trans (end_left _ _) hl), look_moved ho hk]
    rfl
set_option maxRecDepth 100000 in
set_option maxHeartbeats 8000000 in
theorem gcMore_walk {ao : Option Addr} {cap : Nat} {w : World} (its : List (It × Int)) (hG : G4 w ao its) (hB : B4 its) (root : Int) (hr : WB root) (n : Int) (n1 : -9223372036854775808 ≤ n) (n2 : n ≤ 9223372036854775807) {ra : Option Addr} {rc : Nat} (xs : List Int) (hX : WordsAt w ra xs) (hXB : ∀ x ∈ xs, WB x) (hXL : xs.length ≤ 17592186043904) (hX0 : ra = none → rc = 0 ∧ xs = []) (hXN : 0 < xs.length → ∃ b o, ra = some ⟨b, o, none⟩ ∧ b < w.heap.size) (pi : Int) (hg : Glob w) :
    Calls Tryd.prog 4 #[.slice ao its.length cap, .int .u64 root, .int .i64 n, .slice ra xs.length rc, .int .i64 pi] w (Still (.bool true) w) := by
  have hA := awake3 w hg
  have HG := Lib.hid hg
  have HG4 := Lib.hid hG
  have HB4 := Lib.hid hB
  have HR := Lib.hid hr
  have HX := Lib.hid hX
  have HXB := Lib.hid hXB
  have HXN := Lib.hid hXN
  have HX0 := Lib.hid hX0
  obtain ⟨N, hN⟩ : ∃ N, N = its.length := ⟨_, rfl⟩
  have HN := Lib.hid hN
  obtain ⟨KK, hKK⟩ : ∃ KK, KK = xs.length := ⟨_, rfl⟩
  have HK := Lib.hid hKK
  rw [← hN, ← hKK]
  rw [← hKK] at hXL
  clear hg hG hB hN hr hX hXB hXN hKK hX0
  go_enter Tryd.func4, Tryd.ntmps4
  go_wp2_with fail
  refine hA.mono ?_
  rintro e w1 ⟨rfl, hF1⟩
  have hld := loaded3 (cap := cap) (HG.out.fr hF1) its (HG4.out.fr0 hF1) HB4.out root n HR.out n1 n2
  rw [← HN.out] at hld
  have HF1 := Lib.hid hF1
  clear hA hF1
  go_wp2_with fail
  refine hld.mono ?_
  intro e w2 hl2
  have hF12 : Fr [] w w2 := by
    obtain ⟨_, _, ⟨-, -, h⟩ | ⟨-, h⟩⟩ := hl2
    · exact HF1.out.trans h.fr
    · exact HF1.out.trans h
  have hld2 := loaded3 (cap := cap) (HG.out.fr hF12) its (HG4.out.fr0 hF12) HB4.out root n HR.out n1 n2
  rw [← HN.out] at hld2
  have HF12 := Lib.hid hF12
  clear hF12 hld
  obtain ⟨gb, gm, ⟨h0, rfl, hL⟩ | ⟨rfl, hF2⟩⟩ := hl2
  · go_wp2_with fail
    refine hld2.mono ?_
    rintro e w3 ⟨hb, hm, ⟨-, rfl, hL3⟩ | ⟨rfl, hF3⟩⟩
    · obtain ⟨hI, hwo, hs5⟩ := loaded_inv HB4.out h0
      obtain ⟨os, hos⟩ : ∃ os, os = obsOf (its.map Prod.fst) := ⟨_, rfl⟩
      rw [← hos] at hL hL3 hI hwo hs5
      obtain ⟨gwv, gsv, gH, gF0, -, g2⟩ := hL
      obtain ⟨hwv, hsv, hH, hF0, h1, h2⟩ := hL3
      have gH3 : HeapAt w3 gb gm (absMem 4096 os root n) gwv gsv := gH.fr hF0 (by simp) (fun _ _ => by simp)
      have hob := objects_of hI gH3
      rw [refsO_len] at hob
      have hlos : os.length ≤ 4096 := by have := len_end os; have := hI.fit; omega
      have HI := Lib.hid hI
      have HWO := Lib.hid hwo
      have HS5 := Lib.hid hs5
      have HGH := Lib.hid gH3
      have HGL : Hid (∀ k ∈ foot gm gwv gsv, k < w2.heap.size) := Lib.hid fun k hk => gH.mem.lt k hk
      have HGN : Hid (∀ k ∈ foot gm gwv gsv, w1.heap.size ≤ k) := Lib.hid g2
      have HHH := Lib.hid hH
      have HHN : Hid (∀ k ∈ foot hm hwv hsv, w2.heap.size ≤ k) := Lib.hid h2
      have HHB := Lib.hid h1
      have HGB : Hid (gb < w2.heap.size) := Lib.hid (lt_of_heap gH.heap)
      have HF0 := Lib.hid hF0
      clear hld2 h0 hos hI hwo hs5 gH gF0 g2 hH hF0 h1 h2 gH3
      obtain ⟨M, hM⟩ : ∃ M, M = os.length := ⟨_, rfl⟩
      rw [← hM] at hob hlos
      have HM := Lib.hid hM
      clear hM
      go_wp2_with fail
      refine hob.mono ?_
      rintro e w4 ⟨ka, kc, rfl, hwd, hF4, hkn⟩
      have HWD := Lib.hid hwd
      have HF4 := Lib.hid hF4
      have HKN := Lib.hid hkn
      clear hob hwd hF4 hkn
      by_cases hM0 : M = 0
      · subst hM0
        go_wp2_with fail
        go_ret
        exact ⟨rfl, (HF12.out.trans HF0.out).trans HF4.out⟩
      · obtain ⟨q, hq, hpq⟩ := pick_at (xs := refsO os) (by rw [refsO_len, ← HM.out]; omega) pi
        rw [refsO_len, ← HM.out] at hq hpq
        have hqo : q < os.length := by rw [← HM.out]; exact hq
        obtain ⟨kg, ko, rfl, ci⟩ := HWD.out q _ (refsO_at hqo)
        have hz0 : ((M : Int) == 0) = false := by simp; omega
        have q0 : (0 : Int) ≤ (q : Int) := by omega
        have q1 : (q : Int) < (M : Int) := by omega
        have HPQ := Lib.hid hpq
        have HQO := Lib.hid hqo
        obtain ⟨x, hxe⟩ : ∃ x, x = 2 * (endOf (os.take q) : Int) := ⟨_, rfl⟩
        rw [← hxe] at ci
        have HXE := Lib.hid hxe
        have hmx : Tryd.prog.follows .mixedOrders = true := by kernel_rfl
        have HEW4 : Hid (Fr [] w w4) := (HF12.out.trans HF0.out).trans HF4.out
        clear hqo hxe
        go_wp2_with fail
        refine wp_via (fun a a' w' => ∃ u55 u56 u57 u58 u59 u60 u61 u62 u63 u64 u65 u66 u67 va vc, a' = (((((((((((((a.put (some 55) u55).put (some 56) u56).put (some 57) u57).put (some 58) u58).put (some 59) u59).put (some 60) u60).put (some 61) u61).put (some 62) u62).put (some 63) u63).put (some 64) u64).put (some 65) u65).put (some 66) u66).put (some 67) u67).put (some 17) (.slice va (KK + 1) vc) ∧ w'.ownsRow 0 28 1 (.slice va (KK + 1) vc) (KK + 1) ((xs ++ [x]).map (Value.int .u64)) ∧ Fr [] w4 w' ∧ ∀ q, (Value.slice va (KK + 1) vc).ownBlock = some q → w4.heap.size ≤ q) ?_ ?_
        · refine walk_plain (fun w' => w'.cell? ⟨kg, ko + q, none⟩ = some (.int .u64 x)) 13 hmx ci (fun hHeld => ?_)
          (refine Walk.take (i := 1) (oi := ⟨some 56, _, _, _, _, _⟩) (v := ?_) rfl (by kernel_rfl) (by kernel_rfl) (by kernel_rfl) (by kernel_rfl) (fun _ _ _ h => h) (Or.inl ⟨by rfl, ?_⟩) (by assumption) ?_); rotate_left; focus (intro w hSw; (try dsimp only at hSw); go_split_ands; go_simp; try with_reducible rfl); (try simp only [Act.put, List.setIfInBounds_toArray, List.set_cons_zero, List.set_cons_succ])
          (refine Walk.take (i := 3) (oi := ⟨some 58, _, _, _, _, _⟩) (v := ?_) rfl (by kernel_rfl) (by kernel_rfl) (by kernel_rfl) (by kernel_rfl) (fun _ _ _ h => h) (Or.inl ⟨by rfl, ?_⟩) (by assumption) ?_); rotate_left; focus (intro w hSw; (try dsimp only at hSw); go_split_ands; go_simp; try with_reducible rfl); (try simp only [Act.put, List.setIfInBounds_toArray, List.set_cons_zero, List.set_cons_succ])
          (refine Walk.take (i := 4) (oi := ⟨some 59, _, _, _, _, _⟩) (v := ?_) rfl (by kernel_rfl) (by kernel_rfl) (by kernel_rfl) (by kernel_rfl) (fun _ _ _ h => h) (Or.inl ⟨by rfl, ?_⟩) (by assumption) ?_); rotate_left; focus (intro w hSw; (try dsimp only at hSw); go_split_ands; go_simp; try with_reducible rfl); (try simp only [Act.put, List.setIfInBounds_toArray, List.set_cons_zero, List.set_cons_succ])
          (refine Walk.take (i := 5) (oi := ⟨some 60, _, _, _, _, _⟩) (v := ?_) rfl (by kernel_rfl) (by kernel_rfl) (by kernel_rfl) (by kernel_rfl) (fun _ _ _ h => h) (Or.inl ⟨by rfl, ?_⟩) (by assumption) ?_); rotate_left; focus (intro w hSw; (try dsimp only at hSw); go_split_ands; go_simp; try with_reducible rfl); (try simp only [Act.put, List.setIfInBounds_toArray, List.set_cons_zero, List.set_cons_succ])
          (refine Walk.take (i := 6) (oi := ⟨some 61, _, _, _, _, _⟩) (v := ?_) rfl (by kernel_rfl) (by kernel_rfl) (by kernel_rfl) (by kernel_rfl) (fun _ _ _ h => h) (Or.inl ⟨by rfl, ?_⟩) (by assumption) ?_); rotate_left; focus (intro w hSw; (try dsimp only at hSw); go_split_ands; go_simp; try with_reducible rfl); (try simp only [Act.put, List.setIfInBounds_toArray, List.set_cons_zero, List.set_cons_succ])
          (refine Walk.take (i := 7) (oi := ⟨some 62, _, _, _, _, _⟩) (v := ?_) rfl (by kernel_rfl) (by kernel_rfl) (by kernel_rfl) (by kernel_rfl) (fun _ _ _ h => h) (Or.inl ⟨by rfl, ?_⟩) (by assumption) ?_); rotate_left; focus (intro w hSw; (try dsimp only at hSw); go_split_ands; go_simp; try with_reducible rfl); (try simp only [Act.put, List.setIfInBounds_toArray, List.set_cons_zero, List.set_cons_succ])
          (refine Walk.take (i := 8) (oi := ⟨some 63, _, _, _, _, _⟩) (v := ?_) rfl (by kernel_rfl) (by kernel_rfl) (by kernel_rfl) (by kernel_rfl) (fun _ _ _ h => h) (Or.inl ⟨by rfl, ?_⟩) (by assumption) ?_); rotate_left; focus (intro w hSw; (try dsimp only at hSw); go_split_ands; go_simp; try with_reducible rfl); (try simp only [Act.put, List.setIfInBounds_toArray, List.set_cons_zero, List.set_cons_succ])
          (refine Walk.take (i := 9) (oi := ⟨some 64, _, _, _, _, _⟩) (v := ?_) rfl (by kernel_rfl) (by kernel_rfl) (by kernel_rfl) (by kernel_rfl) (fun _ _ _ h => h) (Or.inl ⟨by rfl, ?_⟩) (by assumption) ?_); rotate_left; focus (intro w hSw; (try dsimp only at hSw); go_split_ands; go_simp; try with_reducible rfl); (try simp only [Act.put, List.setIfInBounds_toArray, List.set_cons_zero, List.set_cons_succ])
          (refine Walk.take (i := 10) (oi := ⟨some 65, _, _, _, _, _⟩) (v := ?_) rfl (by kernel_rfl) (by kernel_rfl) (by kernel_rfl) (by kernel_rfl) (fun _ _ _ h => h) (Or.inl ⟨by rfl, ?_⟩) (by assumption) ?_); rotate_left; focus (intro w hSw; (try dsimp only at hSw); go_split_ands; go_simp; try with_reducible rfl); (try simp only [Act.put, List.setIfInBounds_toArray, List.set_cons_zero, List.set_cons_succ])
          refine Walk.two (i := 0) (j := 11) (o := ⟨some 55, _, _, _, _, _⟩) (p := ⟨some 66, _, _, _, _, _⟩) rfl rfl (by kernel_rfl) rfl rfl (fun K hK => ?_) (fun K hK => ?_)
          · go_simp
            have e5 : (w4.drew.alloc (.cells #[] 28)).cell? ⟨kg, ko + q, none⟩ = some (.int .u64 x) := ((Fr.refl [] w4).drew.alloc (.cells #[] 28)).cell (by simp) ci
            refine hK.out _ _ (fun _ => e5) (fun _ => ?_)
            clear hK
            refine Walk.two (i := 2) (j := 11) (o := ⟨some 57, _, _, _, _, _⟩) (p := ⟨some 66, _, _, _, _, _⟩) rfl rfl (by kernel_rfl) rfl rfl (fun K hK => ?_) (fun K hK => ?_)
            · refine wp_append_words (.tmp 55) (.tmp 56) (by rfl) (.slice (some ⟨w4.heap.size, 0, none⟩) 0 0) 0 [] (by rfl) ⟨rfl, .inr ⟨w4.heap.size, 0, #[], rfl, Nat.zero_le _, heap_new _ _, Nat.le_refl _, by unfold maxLen; omega, rfl, rfl⟩⟩ xs (by rw [← HK.out]; rfl) (HX.out.fr0 (HEW4.out.trans ((Fr.refl [] w4).drew.alloc (.cells #[] 28)))) HX0.out (by rw [← HK.out]; omega) ?_
              intro v6 w6 ho6 hg6 hf6
              have HF6 : Hid (Fr [] w4 w6) := ((Fr.refl [] w4).drew.alloc (.cells #[] 28)).grown hg6 (fun q hq hl => by cases hq; first | omega | (simp at hl; omega) | simp at hl)
              have HO6 := Lib.hid ho6
              have HN6 : Hid (∀ q, v6.ownBlock = some q → w4.heap.size ≤ q) := Lib.hid fun q hq => by
                rcases hf6 with h | h
                · rw [h] at hq
                  cases hq
                  first | exact Nat.le_refl _ | (simp; omega) | simp
                · rw [h] at hq
                  cases hq
                  exact ((Fr.refl [] w4).drew.alloc (.cells #[] 28)).size
              have HG6 := Lib.hid hg6
              have e6 : w6.cell? ⟨kg, ko + q, none⟩ = some (.int .u64 x) := HF6.out.cell (by simp) ci
              clear ho6 hg6 hf6
              refine hK.out _ _ (fun _ => e6) (fun _ => ?_)
              clear hK
              simp only [Act.put, List.setIfInBounds_toArray, List.set_cons_zero, List.set_cons_succ]
              (refine Walk.one (i := 11) rfl (by kernel_rfl) rfl (fun K hK => ?_)); go_simp

              have e7 : (w6.alloc (.cells #[.int .u64 x] 28)).cell? ⟨kg, ko + q, none⟩ = some (.int .u64 x) := (HF6.out.alloc _).cell (by simp) ci
              refine hK.out _ _ (fun _ => e7) (fun _ => ?_)
              clear hK
              have HF7 : Hid (Fr [] w4 (w6.alloc (.cells #[.int .u64 x] 28))) := HF6.out.alloc _
              have HO7 := Lib.hid (((Fr.refl [] w6).alloc (.cells #[.int .u64 x] 28)).row HO6.out (fun _ _ => by simp))
              have HN7 := HN6
              have HW7 : Hid (WordsAt (w6.alloc (.cells #[.int .u64 x] 28)) (some ⟨w6.heap.size, 0, none⟩) [x]) := Lib.hid (one_word _ _)

              obtain ⟨a6, c6, rfl⟩ := row_shape HO6.out
              refine Walk.one (i := 12) (o := ⟨some 67, _, _, _, _, _⟩) rfl (by kernel_rfl) rfl (fun K hK => ?_)
              refine wp_append_words (.tmp 57) (.tmp 66) (by rfl) (.slice a6 (0 + xs.length) c6) (0 + xs.length) _ (by rfl) HO7.out [x] (by rfl) HW7.out (fun h => by cases h) (by rw [← HK.out]; simp; omega) ?_
              intro v8 w8 ho8 hg8 hf8
              have HR8 : Hid (w8.ownsRow 0 28 1 v8 (KK + 1) ((xs ++ [x]).map (Value.int .u64))) := by
                simp only [List.length_singleton, Nat.zero_add, List.nil_append, ← HK.out] at ho8
                rw [List.map_append]
                exact Lib.hid ho8
              obtain ⟨a8, c8, rfl⟩ := row_shape HR8.out
              have HF8 : Hid (Fr [] w4 w8) := HF7.out.grown hg8 (fun q hq hl => absurd (HN7.out q hq) (by omega))
              have HN8 : Hid (∀ q, (Value.slice a8 (KK + 1) c8).ownBlock = some q → w4.heap.size ≤ q) := Lib.hid fun q hq => by
                rcases hf8 with h | h
                · exact HN7.out q (h ▸ hq)
                · rw [h] at hq
                  cases hq
                  exact HF7.out.size
              have e8 : w8.cell? ⟨kg, ko + q, none⟩ = some (.int .u64 x) := HF8.out.cell (by simp) ci
              clear ho8 hg8 hf8
              refine hK.out _ _ (fun _ => e8) (fun _ => ?_)
              clear hK
              simp only [Act.put, List.setIfInBounds_toArray, List.set_cons_zero, List.set_cons_succ]
              (refine Walk.one (i := 13) rfl (by kernel_rfl) rfl (fun K hK => ?_)); go_simp
              refine hK.out _ _ (fun h => absurd rfl h) (fun _ => ?_)
              clear hK
              refine Walk.done (by kernel_rfl) (Norm.mk ⟨rfl, ?u55a, ?u56a, ?u57a, ?u58a, ?u59a, ?u60a, ?u61a, ?u62a, ?u63a, ?u64a, ?u65a, ?u66a, ?u67a, a8, c8, ?eqna, HR8.out, HF8.out, HN8.out⟩) _
              case eqna =>
                first | rfl | (simp only [Act.put, List.setIfInBounds_toArray, List.set_cons_zero, List.set_cons_succ]; rfl)
            · go_simp
              have e5b : ((w4.drew.alloc (.cells #[] 28)).alloc (.cells #[.int .u64 x] 28)).cell? ⟨kg, ko + q, none⟩ = some (.int .u64 x) := (((Fr.refl [] w4).drew.alloc (.cells #[] 28)).alloc (.cells #[.int .u64 x] 28)).cell (by simp) ci
              refine hK.out _ _ (fun _ => e5b) (fun _ => ?_)
              clear hK
              refine Walk.one (i := 2) (o := ⟨some 57, _, _, _, _, _⟩) rfl (by kernel_rfl) rfl (fun K hK => ?_)

              refine wp_append_words (.tmp 55) (.tmp 56) (by rfl) (.slice (some ⟨w4.heap.size, 0, none⟩) 0 0) 0 [] (by rfl) ⟨rfl, .inr ⟨w4.heap.size, 0, #[], rfl, Nat.zero_le _, (two_blocks w4.drew _ _).1, Nat.le_refl _, by unfold maxLen; omega, rfl, rfl⟩⟩ xs (by rw [← HK.out]; rfl) (HX.out.fr0 (HEW4.out.trans (((Fr.refl [] w4).drew.alloc (.cells #[] 28)).alloc (.cells #[.int .u64 x] 28)))) HX0.out (by rw [← HK.out]; omega) ?_
              intro v6 w6 ho6 hg6 hf6
              have HF6 : Hid (Fr [] w4 w6) := (((Fr.refl [] w4).drew.alloc (.cells #[] 28)).alloc (.cells #[.int .u64 x] 28)).grown hg6 (fun q hq hl => by cases hq; first | omega | (simp at hl; omega) | simp at hl)
              have HO6 := Lib.hid ho6
              have HN6 : Hid (∀ q, v6.ownBlock = some q → w4.heap.size ≤ q) := Lib.hid fun q hq => by
                rcases hf6 with h | h
                · rw [h] at hq
                  cases hq
                  first | exact Nat.le_refl _ | (simp; omega) | simp
                · rw [h] at hq
                  cases hq
                  exact (((Fr.refl [] w4).drew.alloc (.cells #[] 28)).alloc (.cells #[.int .u64 x] 28)).size
              have HG6 := Lib.hid hg6
              have e6 : w6.cell? ⟨kg, ko + q, none⟩ = some (.int .u64 x) := HF6.out.cell (by simp) ci
              clear ho6 hg6 hf6
              refine hK.out _ _ (fun _ => e6) (fun _ => ?_)
              clear hK
              simp only [Act.put, List.setIfInBounds_toArray, List.set_cons_zero, List.set_cons_succ]

              have HF7 := HF6
              have HO7 := HO6
              have HN7 := HN6
              have HW7 : Hid (WordsAt w6 (some ⟨w4.heap.size + 1, 0, none⟩) [x]) := by
                have h1 : w6.heap[w4.heap.size + 1]? = some (.cells #[.int .u64 x] 28 (0, 0)) := (HG6.out.block (w4.heap.size + 1) (two_lt w4.drew _ _).2 (by simp [Value.ownBlock])).trans ((two_blocks w4.drew (.cells #[] 28) (.cells #[.int .u64 x] 28)).2)
                exact Lib.hid (one_word' h1)

              obtain ⟨a6, c6, rfl⟩ := row_shape HO6.out
              refine Walk.one (i := 12) (o := ⟨some 67, _, _, _, _, _⟩) rfl (by kernel_rfl) rfl (fun K hK => ?_)
              refine wp_append_words (.tmp 57) (.tmp 66) (by rfl) (.slice a6 (0 + xs.length) c6) (0 + xs.length) _ (by rfl) HO7.out [x] (by rfl) HW7.out (fun h => by cases h) (by rw [← HK.out]; simp; omega) ?_
              intro v8 w8 ho8 hg8 hf8
              have HR8 : Hid (w8.ownsRow 0 28 1 v8 (KK + 1) ((xs ++ [x]).map (Value.int .u64))) := by
                simp only [List.length_singleton, Nat.zero_add, List.nil_append, ← HK.out] at ho8
                rw [List.map_append]
                exact Lib.hid ho8
              obtain ⟨a8, c8, rfl⟩ := row_shape HR8.out
              have HF8 : Hid (Fr [] w4 w8) := HF7.out.grown hg8 (fun q hq hl => absurd (HN7.out q hq) (by omega))
              have HN8 : Hid (∀ q, (Value.slice a8 (KK + 1) c8).ownBlock = some q → w4.heap.size ≤ q) := Lib.hid fun q hq => by
                rcases hf8 with h | h
                · exact HN7.out q (h ▸ hq)
                · rw [h] at hq
                  cases hq
                  exact HF7.out.size
              have e8 : w8.cell? ⟨kg, ko + q, none⟩ = some (.int .u64 x) := HF8.out.cell (by simp) ci
              clear ho8 hg8 hf8
              refine hK.out _ _ (fun _ => e8) (fun _ => ?_)
              clear hK
              simp only [Act.put, List.setIfInBounds_toArray, List.set_cons_zero, List.set_cons_succ]
              (refine Walk.one (i := 13) rfl (by kernel_rfl) rfl (fun K hK => ?_)); go_simp
              refine hK.out _ _ (fun h => absurd rfl h) (fun _ => ?_)
              clear hK
              refine Walk.done (by kernel_rfl) (Norm.mk ⟨rfl, ?u55b, ?u56b, ?u57b, ?u58b, ?u59b, ?u60b, ?u61b, ?u62b, ?u63b, ?u64b, ?u65b, ?u66b, ?u67b, a8, c8, ?eqnb, HR8.out, HF8.out, HN8.out⟩) _
              case eqnb =>
                first | rfl | (simp only [Act.put, List.setIfInBounds_toArray, List.set_cons_zero, List.set_cons_succ]; rfl)
          · go_simp
            have e5c : (w4.drew.alloc (.cells #[.int .u64 x] 28)).cell? ⟨kg, ko + q, none⟩ = some (.int .u64 x) := ((Fr.refl [] w4).drew.alloc (.cells #[.int .u64 x] 28)).cell (by simp) ci
            refine hK.out _ _ (fun _ => e5c) (fun _ => ?_)
            clear hK
            (refine Walk.one (i := 0) rfl (by kernel_rfl) rfl (fun K hK => ?_)); go_simp
            have e5d : ((w4.drew.alloc (.cells #[.int .u64 x] 28)).alloc (.cells #[] 28)).cell? ⟨kg, ko + q, none⟩ = some (.int .u64 x) := (((Fr.refl [] w4).drew.alloc (.cells #[.int .u64 x] 28)).alloc (.cells #[] 28)).cell (by simp) ci
            refine hK.out _ _ (fun _ => e5d) (fun _ => ?_)
            clear hK
            refine Walk.one (i := 2) (o := ⟨some 57, _, _, _, _, _⟩) rfl (by kernel_rfl) rfl (fun K hK => ?_)

            refine wp_append_words (.tmp 55) (.tmp 56) (by rfl) (.slice (some ⟨w4.heap.size + 1, 0, none⟩) 0 0) 0 [] (by rfl) ⟨rfl, .inr ⟨w4.heap.size + 1, 0, #[], rfl, Nat.zero_le _, (two_blocks w4.drew (.cells #[.int .u64 x] 28) (.cells #[] 28)).2, Nat.le_refl _, by unfold maxLen; omega, rfl, rfl⟩⟩ xs (by rw [← HK.out]; rfl) (HX.out.fr0 (HEW4.out.trans (((Fr.refl [] w4).drew.alloc (.cells #[.int .u64 x] 28)).alloc (.cells #[] 28)))) HX0.out (by rw [← HK.out]; omega) ?_
            intro v6 w6 ho6 hg6 hf6
            have HF6 : Hid (Fr [] w4 w6) := (((Fr.refl [] w4).drew.alloc (.cells #[.int .u64 x] 28)).alloc (.cells #[] 28)).grown hg6 (fun q hq hl => by cases hq; first | omega | (simp at hl; omega) | simp at hl)
            have HO6 := Lib.hid ho6
            have HN6 : Hid (∀ q, v6.ownBlock = some q → w4.heap.size ≤ q) := Lib.hid fun q hq => by
              rcases hf6 with h | h
              · rw [h] at hq
                cases hq
                first | exact Nat.le_refl _ | (simp; omega) | simp
              · rw [h] at hq
                cases hq
                exact (((Fr.refl [] w4).drew.alloc (.cells #[.int .u64 x] 28)).alloc (.cells #[] 28)).size
            have HG6 := Lib.hid hg6
            have e6 : w6.cell? ⟨kg, ko + q, none⟩ = some (.int .u64 x) := HF6.out.cell (by simp) ci
            clear ho6 hg6 hf6
            refine hK.out _ _ (fun _ => e6) (fun _ => ?_)
            clear hK
            simp only [Act.put, List.setIfInBounds_toArray, List.set_cons_zero, List.set_cons_succ]

            have HF7 := HF6
            have HO7 := HO6
            have HN7 := HN6
            have HW7 : Hid (WordsAt w6 (some ⟨w4.heap.size, 0, none⟩) [x]) := by
              have h1 : w6.heap[w4.heap.size]? = some (.cells #[.int .u64 x] 28 (0, 0)) := (HG6.out.block (w4.heap.size) (two_lt w4.drew _ _).1 (by simp [Value.ownBlock])).trans ((two_blocks w4.drew _ _).1)
              exact Lib.hid (one_word' h1)

            obtain ⟨a6, c6, rfl⟩ := row_shape HO6.out
            refine Walk.one (i := 12) (o := ⟨some 67, _, _, _, _, _⟩) rfl (by kernel_rfl) rfl (fun K hK => ?_)
            refine wp_append_words (.tmp 57) (.tmp 66) (by rfl) (.slice a6 (0 + xs.length) c6) (0 + xs.length) _ (by rfl) HO7.out [x] (by rfl) HW7.out (fun h => by cases h) (by rw [← HK.out]; simp; omega) ?_
            intro v8 w8 ho8 hg8 hf8
            have HR8 : Hid (w8.ownsRow 0 28 1 v8 (KK + 1) ((xs ++ [x]).map (Value.int .u64))) := by
              simp only [List.length_singleton, Nat.zero_add, List.nil_append, ← HK.out] at ho8
              rw [List.map_append]
              exact Lib.hid ho8
            obtain ⟨a8, c8, rfl⟩ := row_shape HR8.out
            have HF8 : Hid (Fr [] w4 w8) := HF7.out.grown hg8 (fun q hq hl => absurd (HN7.out q hq) (by omega))
            have HN8 : Hid (∀ q, (Value.slice a8 (KK + 1) c8).ownBlock = some q → w4.heap.size ≤ q) := Lib.hid fun q hq => by
              rcases hf8 with h | h
              · exact HN7.out q (h ▸ hq)
              · rw [h] at hq
                cases hq
                exact HF7.out.size
            have e8 : w8.cell? ⟨kg, ko + q, none⟩ = some (.int .u64 x) := HF8.out.cell (by simp) ci
            clear ho8 hg8 hf8
            refine hK.out _ _ (fun _ => e8) (fun _ => ?_)
            clear hK
            simp only [Act.put, List.setIfInBounds_toArray, List.set_cons_zero, List.set_cons_succ]
            (refine Walk.one (i := 13) rfl (by kernel_rfl) rfl (fun K hK => ?_)); go_simp
            refine hK.out _ _ (fun h => absurd rfl h) (fun _ => ?_)
            clear hK
            refine Walk.done (by kernel_rfl) (Norm.mk ⟨rfl, ?u55c, ?u56c, ?u57c, ?u58c, ?u59c, ?u60c, ?u61c, ?u62c, ?u63c, ?u64c, ?u65c, ?u66c, ?u67c, a8, c8, ?eqnc, HR8.out, HF8.out, HN8.out⟩) _
            case eqnc =>
              first | rfl | (simp only [Act.put, List.setIfInBounds_toArray, List.set_cons_zero, List.set_cons_succ]; rfl)
        · rintro a' w5 ⟨u55, u56, u57, u58, u59, u60, u61, u62, u63, u64, u65, u66, u67, va, vc, rfl, hrow5, hF5, hn5⟩
          simp only [Act.put, List.setIfInBounds_toArray, List.set_cons_zero, List.set_cons_succ]
          obtain ⟨E, hE⟩ : ∃ E, E = endOf os := ⟨_, rfl⟩
          have hE4 : E ≤ 4096 := by have := HI.out.fit; omega
          have HEE := Lib.hid hE
          have hle : endOf os ≤ 65536 := by omega
          obtain ⟨ox, hox⟩ : ∃ ox, os[q]? = some ox := ⟨_, List.getElem?_eq_getElem HQO.out⟩
          have hlx := look_of_ref hox
          rw [← HXE.out] at hlx
          have hmore := more_law (root := root) (roots := xs) hle (by rw [hlx]; rfl : (lookP 1 os x).isSome = true)
          have hxb : WB x := by
            have h1 := end_take os q
            have h2 := HXE.out
            exact ⟨by omega, by omega⟩
          have HF45 : Hid (Fr [] w3 w5) := HF4.out.trans hF5
          have HEW5 : Hid (Fr [] w w5) := HEW4.out.trans hF5
          have hW5 : WordsAt w5 va (xs ++ [x]) := by
            obtain ⟨va', vc', e, h⟩ := move_words (f := id) (xs := xs ++ [x]) (by simpa using hrow5)
            cases e
            simpa using h
          have HW5 := Lib.hid hW5
          have HN5 : Hid (∀ a, va = some a → w4.heap.size ≤ a.block) := Lib.hid fun a ha => hn5 a.block (by rw [ha]; rfl)
          have hg5 : HeapAt w5 gb gm (absMem 4096 os root n) gwv gsv := HGH.out.fr HF45.out (by simp) (fun _ _ => by simp)
          have hh5 : HeapAt w5 hb hm (absMem 4096 os root n) hwv hsv := HHH.out.fr HF45.out (by simp) (fun _ _ => by simp)
          have hfar : ∀ k ∈ foot gm gwv gsv, w.heap.size ≤ k := fun k hk => by have h1 := HGN.out k hk; have h2 := HF1.out.size; omega
          have HMORE := Lib.hid hmore
          have HXX := Lib.hid hxb
          have HG5 := Lib.hid hg5
          have HH5 := Lib.hid hh5
          have HFAR := Lib.hid hfar
          have HS34 : Hid (w3.heap.size ≤ w4.heap.size ∧ w2.heap.size ≤ w3.heap.size ∧ w4.heap.size ≤ w5.heap.size) := ⟨HF4.out.size, HF0.out.size, hF5.size⟩
          have HLE := Lib.hid hle
          clear hrow5 hF5 hn5 hE hle hox hlx hmore hxb hW5 hg5 hh5 hfar ci HWD
          cases hall : xs.all (okB (marksOf os))
          · have hr1 := gcRun_no (W := w5) (ra := ra) (rc := rc) HI.out HG5.out xs (HX.out.fr0 HEW5.out) HXB.out (by rw [← HK.out]; omega) hall
            rw [← HK.out] at hr1
            have hall2 : (xs ++ [x]).all (okB (marksOf os)) = false := by rw [HMORE.out.1]; exact hall
            have HA2 := Lib.hid hall2
            clear hall hall2
            go_wp2_with fail
            refine hr1.mono ?_
            rintro e w6 ⟨rfl, hF6⟩
            have hr2 := gcRun_no (W := w6) (ra := va) (rc := vc) HI.out (HH5.out.fr hF6 (by simp) (fun _ _ => by simp)) (xs ++ [x]) (HW5.out.fr0 hF6) (fun y hy => (List.mem_append.1 hy).elim (HXB.out y) (fun h => by rw [List.mem_singleton] at h; rw [h]; exact HXX.out)) (by rw [List.length_append, ← HK.out]; simp; omega) HA2.out
            rw [List.length_append, ← HK.out, List.length_singleton] at hr2
            have HF6 := Lib.hid hF6
            clear hr1 hF6
            go_wp2_with fail
            refine hr2.mono ?_
            rintro e w7 ⟨rfl, hF7⟩
            have HF7 := Lib.hid hF7
            clear hr2 hF7
            go_wp2_with fail
            go_ret
            exact ⟨rfl, (HEW5.out.trans HF6.out).trans HF7.out⟩
          · have hr1 := gcRun (W := w5) (ra := ra) (rc := rc) (HG.out.fr HEW5.out) HI.out HWO.out HS5.out HG5.out HR.out xs (HX.out.fr0 HEW5.out) HXB.out (by rw [← HK.out]; omega) hall (fun hne a ha hk => by
              obtain ⟨b, o, e, hlt⟩ := HXN.out (List.length_pos_iff.2 hne)
              rw [ha] at e
              cases e
              have h1 := HFAR.out _ hk
              simp only at h1
              omega)
            have HA2 : Hid ((xs ++ [x]).all (okB (marksOf os)) = true) := by rw [HMORE.out.1]; exact hall
            clear hall
            unfold Ran at hr1
            obtain ⟨e1, he1⟩ : ∃ e1, e1 = endOf (leftObs (keepR os (root :: xs)) os) := ⟨_, rfl⟩
            obtain ⟨e2, he2⟩ : ∃ e2, e2 = endOf (leftObs (keepR os (root :: (xs ++ [x]))) os) := ⟨_, rfl⟩
            have h12 : e1 ≤ e2 := by rw [he1, he2]; exact HMORE.out.2.1
            have h2E : e2 ≤ E := by rw [he2, HEE.out]; exact end_left _ _
            rw [← he1, ← HEE.out, ← HK.out] at hr1
            have HE1 := Lib.hid he1
            have HE2 := Lib.hid he2
            clear he1 he2
            go_wp2_with fail
            refine hr1.mono ?_
            rintro e w6 ⟨v6, rfl, -, -, gwv6, gsv6, hG6, hF6, hft6, -⟩
            have HG6 := Lib.hid hG6
            have HHL : Hid (∀ k ∈ foot hm hwv hsv, k < w3.heap.size) := Lib.hid fun k hk => HHH.out.mem.lt k hk
            have hh6 : HeapAt w6 hb hm (absMem 4096 os root n) hwv hsv := HH5.out.fr hF6 (fun hk => by have h1 := HGL.out _ hk; have h2 := HHB.out; omega) (fun k hk hk' => by have h1 := HGL.out _ hk'; have h2 := HHN.out k hk; omega)
            have hW6 : WordsAt w6 va (xs ++ [x]) := words_far HW5.out hF6 (fun _ a ha hk => by have h1 := HGL.out _ hk; have h2 := HN5.out a ha; have h3 := HS34.out; omega)
            have hEW6 : Fr [] w w6 := HEW5.out.join hF6 HFAR.out
            have hr2 := gcRun (W := w6) (ra := va) (rc := vc) (HG.out.fr hEW6) HI.out HWO.out HS5.out hh6 HR.out (xs ++ [x]) hW6 (fun y hy => (List.mem_append.1 hy).elim (HXB.out y) (fun h => by rw [List.mem_singleton] at h; rw [h]; exact HXX.out)) (by rw [List.length_append, ← HK.out]; simp; omega) HA2.out (fun _ a ha hk => by have h1 := HHL.out _ hk; have h2 := HN5.out a ha; have h3 := HS34.out; omega)
            unfold Ran at hr2
            rw [← HE2.out, ← HEE.out, List.length_append, ← HK.out, List.length_singleton] at hr2
            have HFT6 : Hid (∀ k ∈ foot gm gwv6 gsv6, k < w2.heap.size ∨ w5.heap.size ≤ k) := Lib.hid fun k hk => (hft6 k hk).imp (HGL.out k) id
            have HEW6 := Lib.hid hEW6
            clear hr1 hG6 hF6 hft6 hh6 hW6 hEW6
            go_wp2_with fail
            refine hr2.mono ?_
            rintro e w7 ⟨v7, rfl, hrow7, -, hwv7, hsv7, hH7, hF7, -, -⟩
            obtain ⟨ag, ac, rfl, hcl, -, -⟩ := row_at hrow7 (i := KK) (by omega)
            have hcl' : w7.cell? ⟨ag, KK, none⟩ = some (.int .u64 (moveW (keepR os (root :: (xs ++ [x]))) os x)) := by
              rw [hcl, HK.out]
              simp
            have hEW7 : Fr [] w w7 := HEW6.out.join hF7 (fun k hk => by have h1 := HHN.out k hk; have h2 := HF12.out.size; omega)
            have hg7 := HG6.out.fr hF7 (fun hk => by have h1 := HHN.out _ hk; have h2 := HGB.out; omega) (fun k hk hk' => by have h1 := HHN.out _ hk'; have h2 := HHL.out _ hk'; have h3 := HFT6.out k hk; have h4 := HS34.out; omega)
            have hu1 := used_still (memory_at hH7)
            rw [(absMem_len 4096 _ _ n).1, ← HE2.out] at hu1
            have HHH7 := Lib.hid hH7
            have HGG7 := Lib.hid hg7
            have HU2 : Hid (∀ w8, Fr [] w7 w8 → Calls Tryd.prog 8 #[.pointer (some ⟨gb, 0, none⟩)] w8 (Still (.int .i64 e1) w8)) := Lib.hid fun w8 hF => by
              have := used_still (memory_at (HGG7.out.fr hF (by simp) (fun _ _ => by simp)))
              rw [(absMem_len 4096 _ _ n).1, ← HE1.out] at this
              exact this
            have HHS : Hid (∀ w8, Fr [] w7 w8 → Calls Tryd.prog 12 #[.pointer (some ⟨hb, 0, none⟩), .int .u64 (moveW (keepR os (root :: (xs ++ [x]))) os x)] w8 (Still (.bool true) w8)) := Lib.hid fun w8 hF => by
              have hb := move_WB (keep := keepR os (root :: (xs ++ [x]))) (os := os) HXX.out
              have := has_still (memory_at (HHH7.out.fr hF (by simp) (fun _ _ => by simp))) _ hb.1 hb.2
              rw [show (absMem 4096 (leftObs (keepR os (root :: (xs ++ [x]))) os) (moveW (keepR os (root :: (xs ++ [x]))) os root) n).M = marksOf (leftObs (keepR os (root :: (xs ++ [x]))) os) from rfl, HMORE.out.2.2] at this
              exact this
            have HCL := Lib.hid hcl'
            have HEW7 := Lib.hid hEW7
            obtain ⟨mx, hmx'⟩ : ∃ mx, mx = moveW (keepR os (root :: (xs ++ [x]))) os x := ⟨_, rfl⟩
            rw [← hmx'] at HHS HCL
            clear hr2 hrow7 hH7 hF7 hcl hcl' hEW7 hg7 hmx'
            go_wp2_with (first
              | (go_at_call 8; refine hu1.mono ?_; rintro e w8 ⟨rfl, hF8⟩; have hu2 := HU2.out w8 hF8; have HF8 := Lib.hid hF8; clear hF8)
              | (go_at_call 8; refine hu2.mono ?_; rintro e w9 ⟨rfl, hF9⟩; have HF9 : Hid (Fr [] w7 w9) := HF8.out.trans hF9; have hhs := HHS.out w9 HF9.out; have c9 := HF9.out.cell (by simp) HCL.out; clear hF9)
              | (go_at_call 12; refine hhs.mono ?_; rintro e w10 ⟨rfl, hF10⟩; have HF10 : Hid (Fr [] w7 w10) := HF9.out.trans hF10; clear hF10))
            go_ret
            exact ⟨rfl, HEW7.out.trans HF10.out⟩
    · have HF3 := Lib.hid hF3
      clear hld2 hF3 hL h0
      go_wp2_with fail
      go_ret
      exact ⟨rfl, HF12.out.trans HF3.out⟩
  · go_wp2_with fail
    refine hld2.mono ?_
    intro e w3 hl3
    have hF3 : Fr [] w2 w3 := by
      obtain ⟨_, _, ⟨-, -, h⟩ | ⟨-, h⟩⟩ := hl3
      · exact h.fr
      · exact h
    have HF3 := Lib.hid hF3
    clear hld2 hF3
    obtain ⟨hb, hm, ⟨-, rfl, -⟩ | ⟨rfl, -⟩⟩ := hl3
    · go_wp2_with fail
      go_ret
      exact ⟨rfl, HF12.out.trans HF3.out⟩
    · go_wp2_with fail
      go_ret
      exact ⟨rfl, HF12.out.trans HF3.out⟩
end Go.Proofs.YtninigdcpeijhaaDoor
