/- CacheDropped, walked. -/
import Derived.Test.YtpapjoonnmnnaaaCacAll
import Derived.Test.YtpapjoonnmnnaaaMask
import Derived.Test.YtpapjoonnmnnaaaSameW
namespace Go.Proofs.Ytpapjoonnmnnaaa
open Go.RowKit Go.Lib

theorem row_words {w : World} {v : Value} {n : Nat} {xs : List Int} (h : w.ownsRow 0 23 1 v n (xs.map (Value.int .u64))) : ∃ ao cap, v = .slice ao xs.length cap ∧ xs.length = n ∧ WordsAt w ao xs := by
  have hl : xs.length = n := by simpa using h.1
  rcases h.2 with ⟨rfl, h0⟩ | ⟨g, cap, cur, rfl, hb, hg, hn, hm, hs, ht⟩
  · have : xs = [] := List.length_eq_zero_iff.1 (by omega)
    subst this
    exact ⟨none, 0, rfl, hl, fun i x hx => by simp at hx⟩
  · refine ⟨some ⟨g, 0, none⟩, cap, by rw [hl], hl, fun i x hx => ⟨g, 0, rfl, ?_⟩⟩
    have hi := (List.getElem?_eq_some_iff.1 hx).1
    have h1 : (cur.toList.take (n * 1))[i]? = (xs.map (Value.int .u64))[i]? := by rw [ht]
    rw [List.getElem?_take, if_pos (by omega), List.getElem?_map, hx, Array.getElem?_toList] at h1
    rw [Nat.zero_add]
    exact cell_of_heap hg h1
theorem WordsAt.still {w w' : World} {ao : Option Addr} {xs : List Int} (h : WordsAt w ao xs) (hF : Fr [] w w') : WordsAt w' ao xs := h.fr hF (fun _ _ => by simp)
/-- words that lie in a row of words -/
def WRow (w : World) (ao : Option Addr) (xs : List Int) : Prop := WordsAt w ao xs ∧ ∀ a, ao = some a → ∃ cur, w.heap[a.block]? = some (.cells cur 23 (0, 0))
theorem WRow.still {w w' : World} {ao : Option Addr} {xs : List Int} (h : WRow w ao xs) (hF : Fr [] w w') : WRow w' ao xs := ⟨h.1.still hF, fun a ha => by obtain ⟨cur, hc⟩ := h.2 a ha; exact ⟨cur, hF.heap (by simp) hc⟩⟩
/-- Drops: the selectors, and rows of words that were there still lie there. -/
theorem live_cdrops {w0 w : World} {cb : Nat} {T : Tab} (h : CLive w0 cb T w) : Calls Try.prog 10 #[.pointer (some ⟨cb, 0, none⟩)] w fun e w' => ∃ ao cap, e = .returned (.slice ao T.D.length cap) ∧ WRow w' ao T.D ∧ CLive w0 cb { T with D := [] } w' ∧ ∀ a ys, WRow w a ys → WRow w' a ys := by
  obtain ⟨tb, lb, dv, h1, h2, h3, h4⟩ := h
  refine (cdrops_at h1).mono ?_
  rintro e w' ⟨rfl, hC, hF⟩
  obtain ⟨ao, cap, rfl, -, hw⟩ := row_words h1.tab.drops
  have hkeep : ∀ a ys, WRow w a ys → WRow w' a ys := by
    intro a ys hr
    have hne : ∀ ad, a = some ad → ad.block ∉ [tb] := by
      intro ad ha hm
      obtain ⟨cur, hc⟩ := hr.2 ad ha
      rw [List.mem_singleton] at hm
      rw [hm] at hc
      exact tag_ne' h1.tab.tab hc (by decide) rfl
    exact ⟨hr.1.fr hF hne, fun ad ha => by obtain ⟨cur, hc⟩ := hr.2 ad ha; exact ⟨cur, hF.heap (hne ad ha) hc⟩⟩
  refine ⟨ao, cap, rfl, hkeep _ _ ⟨hw, fun a ha => by subst ha; exact own_heap h1.tab.drops rfl⟩, ⟨tb, lb, .slice none 0 0, hC, h2.trans' hF (fun _ _ e => e) (fun j hj hm => ?_), h3, fun k hk => ?_⟩, hkeep⟩
  · rw [List.mem_singleton] at hm
    have := h4 tb (by simp [tfoot])
    omega
  · exact h4 k (by simp [tfoot, Value.ownBlock] at hk ⊢; rcases hk with e | e; exact .inl e; exact .inr (.inl e))
set_option maxRecDepth 100000 in
set_option maxHeartbeats 4000000 in
theorem cacheDropped_walk (a0 : Int) (ao : Option Addr) (cap : Nat) (xs : List Int) (w : World) (hx : WordsAt w ao xs) (hl : xs.length ≤ 17592186044415) (hcap : xs.length ≤ cap) (hcap2 : cap ≤ 9223372036854775807) (hb : ∀ x ∈ xs, 0 ≤ x ∧ x ≤ 18446744073709551615) (hnil : ao = none → xs = [] ∧ cap = 0) (hoff : ∀ a, ao = some a → 0 < cap → ∃ g o, a = ⟨g, o, none⟩) :
    Calls Try.prog 4 #[.int .i64 a0, .slice ao xs.length cap] w (Still (.bool true) w) := by
  have hA := awake8 w
  obtain ⟨m, hm⟩ : ∃ m, bits .and .i64 a0 255 = m := ⟨_, rfl⟩
  have hm1 : 0 ≤ m ∧ m ≤ 255 := by rw [← hm]; exact and_mask a0 255 (by omega)
  obtain ⟨n, hn⟩ : ∃ n : Nat, 1 + m = (n : Int) := ⟨(1 + m).toNat, by omega⟩
  obtain ⟨m1, m2⟩ := hm1
  have n1 : 1 ≤ n := by omega
  have n2 : n ≤ 256 := by omega
  obtain ⟨N, hN⟩ : ∃ N, N = xs.length := ⟨_, rfl⟩
  have HN := Lib.hid hN
  have HX := Lib.hid hx
  have HB := Lib.hid hb
  rw [← hN] at hl hcap ⊢
  have HNIL := Lib.hid hnil
  have HOFF := Lib.hid hoff
  clear hN hx hb hnil hoff
  go_enter Try.func4, Try.ntmps4
  go_wp2_with fail
  refine hA.mono ?_
  rintro e w1 ⟨rfl, hF1⟩
  have HF1 := Lib.hid hF1
  clear hF1 hA
  go_wp2_with fail
  clear hn hm
  refine (live_cnew w1 n n1 n2).mono ?_
  rintro e w2 ⟨cb, rfl, hL⟩
  have HL2 := Lib.hid hL
  clear hL
  go_wp2_with fail
  have HINV : Hid (∃ L, CLive w1 cb ⟨L, (xs.take 0).drop (0 - 64), 0, 0⟩ w2) := ⟨_, HL2.out⟩
  clear HL2
  go_loopw [8] (fun i wr => ∃ k : Nat, k ≤ N ∧ i = .int .i64 k ∧ Hid (∃ L, CLive w1 cb ⟨L, (xs.take k).drop (k - 64), 0, 0⟩ wr)) (fun i _ => N - (intOf i).toNat)
  case atStart => exact ⟨0, Nat.zero_le _, rfl, HINV⟩
  case round =>
    obtain ⟨k, hk, rfl, hI⟩ := hrel
    by_cases hlt : k < N
    · have hkl : k < xs.length := by rw [← HN.out]; exact hlt
      obtain ⟨x, hx⟩ : ∃ x, xs[k]? = some x := ⟨_, List.getElem?_eq_getElem hkl⟩
      obtain ⟨L, hL⟩ := hI.out
      obtain ⟨g, o, rfl, hc⟩ := HX.out k x hx
      have hF : Fr [] w wr := HF1.out.trans hL.fr
      have hcr := hF.cell (p := ⟨g, o + k, none⟩) (by simp) hc
      have hdr := fun w' (h : Fr [] wr w') => live_cdrop (hL.still h) x
      have HNX := Lib.hid (noteL_last xs k x hx)
      have k1 : (k : Int) < (N : Int) := by omega
      have k0 : (0 : Int) ≤ (k : Int) := by omega
      clear hkl hx hL hc hF hI
      go_wp2_with fail
      refine (hdr _ (by first | exact Fr.refl _ _ | exact (Fr.refl _ _).drew)).mono ?_
      rintro e w3 ⟨rfl, hL3⟩
      have HL3 : Hid (∃ L, CLive w1 cb ⟨L, (xs.take (k + 1)).drop (k + 1 - 64), 0, 0⟩ w3) := by
        refine ⟨dropL L x, ?_⟩
        have h := hL3
        simp only [HNX.out] at h
        exact h
      clear hL3 hdr hcr HNX
      go_wp2
      go_roundw
      case rel => exact ⟨k + 1, by omega, by go_num, HL3⟩
      case measure => simp [intOf]; omega
    · have hkn : k = N := by omega
      subst hkn
      obtain ⟨L, hL⟩ := hI.out
      have hd := live_cdrops hL
      clear hL hI
      go_wp2_with fail
      refine hd.mono ?_
      rintro e w3 ⟨da, dc, rfl, hw3, hL3, -⟩
      have hd4 := live_cdrops hL3
      clear hL3 hd
      obtain ⟨Ds, hDs⟩ : ∃ Ds, Ds = (xs.take k).drop (k - 64) := ⟨_, rfl⟩
      have HDS : Hid (Ds = xs.drop (k - 64)) := by rw [hDs, HN.out, List.take_length]; exact rfl
      simp only [← hDs] at hw3 ⊢
      have HW3 := Lib.hid hw3
      obtain ⟨Dn, hDn⟩ : ∃ Dn, Dn = Ds.length := ⟨_, rfl⟩
      have HDN := Lib.hid hDn
      rw [← hDn]
      clear hDn hDs hw3
      go_wp2_with fail
      refine hd4.mono ?_
      rintro e w4 ⟨da4, dc4, rfl, -, hL4, hk4⟩
      have HW4 := Lib.hid (hk4 _ _ HW3.out)
      have HL4 := Lib.hid hL4.fr
      clear hL4 hd4 hk4
      have hk0 : (0 : Int) ≤ (k : Int) := by omega
      by_cases h64 : 64 < k
      · obtain ⟨f, hf⟩ : ∃ f : Nat, (k : Int) - 64 = (f : Int) := ⟨k - 64, by omega⟩
        have hfk : f = k - 64 := by omega
        have hfc : ¬ cap = f := by omega
        have h64' : 64 < (k : Int) := by omega
        have hf0 : (0 : Int) ≤ (f : Int) := by omega
        have hf1 : (f : Int) ≤ (k : Int) := by omega
        have hf2 : (f : Int) ≤ (cap : Int) := by omega
        have hf3 : (0 : Int) < (f : Int) := by omega
        obtain ⟨g, o, hao⟩ : ∃ g o, ao = some ⟨g, o, none⟩ := by
          cases hh : ao with
          | none => have := (HNIL.out hh).1; have := HN.out; simp_all
          | some a => obtain ⟨g, o, rfl⟩ := HOFF.out a hh (by omega); exact ⟨g, o, rfl⟩
        subst hao
        have hsw : Calls Try.prog 11 #[.slice da Dn dc, .slice (some ⟨g, o + f, none⟩) (k - f) (cap - f)] w4 (Drawn (.bool true) w4) := by
          have hX : WordsAt w4 (some ⟨g, o + f, none⟩) Ds := by
            rw [HDS.out, ← hfk]
            intro i x hx
            rw [List.getElem?_drop] at hx
            obtain ⟨g', o', e, hc⟩ := HX.out (f + i) x hx
            cases e
            exact ⟨g, o + f, rfl, by rw [Nat.add_assoc]; exact (HF1.out.trans HL4.out).cell (by simp) hc⟩
          have hls : Ds.length = k - f := by rw [HDS.out, List.length_drop, ← HN.out, ← hfk]
          have := sameWords (ac := dc) (bc := cap - f) Ds Ds HW4.out.1 hX (by rw [hls]; omega)
          rw [← HDN.out] at this
          rw [HDN.out, hls] at this ⊢
          simpa using this
        have hkf : (k : Int) - (f : Int) = ((k - f : Nat) : Int) := by omega
        clear hfk
        go_wp2_with fail
        refine hsw.mono ?_
        rintro e w5 ⟨rfl, q, rfl⟩
        go_wp2
        go_ret
        exact ⟨rfl, (HF1.out.trans HL4.out).drewN _⟩
      · have hf0 : k - 64 = 0 := by omega
        have hsw : Calls Try.prog 11 #[.slice da Dn dc, .slice ao k cap] w4 (Drawn (.bool true) w4) := by
          have hd : Ds = xs := by rw [HDS.out, hf0, List.drop_zero]
          have hX : WordsAt w4 ao Ds := by rw [hd]; exact HX.out.still (HF1.out.trans HL4.out)
          have hls : Ds.length = k := by rw [hd, ← HN.out]
          have := sameWords (ac := dc) (bc := cap) Ds Ds HW4.out.1 hX (by rw [hls]; omega)
          rw [HDN.out]
          rw [hls] at this ⊢
          simpa using this
        have h64' : ¬ 64 < (k : Int) := by omega
        clear hf0 h64
        by_cases hc0 : cap = 0
        · subst hc0
          obtain rfl : k = 0 := by omega
          have hao : ao = none ∨ ∃ a, ao = some a := by cases ao; exact .inl rfl; exact .inr ⟨_, rfl⟩
          rcases hao with rfl | ⟨a, rfl⟩
          all_goals
            go_wp2_with fail
            refine hsw.mono ?_
            rintro e w5 ⟨rfl, q, rfl⟩
            go_wp2
            go_ret
            exact ⟨rfl, (HF1.out.trans HL4.out).drewN _⟩
        · have hao : (ao = none → False) := fun h => hc0 (HNIL.out h).2
          have hao' : ∃ g o, ao = some ⟨g, o, none⟩ := by
            cases hh : ao with
            | none => exact absurd hh (fun h => hao h)
            | some a => obtain ⟨g, o, rfl⟩ := HOFF.out a hh (by omega); exact ⟨g, o, rfl⟩
          obtain ⟨g, o, rfl⟩ := hao'
          clear hao
          go_wp2_with fail
          refine hsw.mono ?_
          rintro e w5 ⟨rfl, q, rfl⟩
          go_wp2
          go_ret
          exact ⟨rfl, (HF1.out.trans HL4.out).drewN _⟩
end Go.Proofs.Ytpapjoonnmnnaaa
