/- GcRuns, walked. -/
import Derived.Test.YtjjkbdkalnhcbaaGreatDoorMGcRefTwo
import Derived.Test.YtjjkbdkalnhcbaaGreatDoorMLaids
namespace Go.Proofs.YtjjkbdkalnhcbaaGreatDoor
open Go.RowKit

theorem inv_fresh3 (lim : Int) (h1 : 64 ≤ lim) (h2 : lim ≤ 65536) : OInv lim [] 0 :=
  ⟨h1, h2, (by simp [endOf, flatW]; omega), (by decide), (by decide), (fun o ho => by cases ho), (fun o ho => by cases ho), ⟨by decide, by decide, fun i x hx => by simp at hx⟩⟩
/-- what a load leaves may be run -/
theorem OLoad.may {lim : Int} {os0 : List Ob} {rt hs0 : Int} {os : List Ob} {root hs : Int} (h : OLoad lim [] 0 0 os0 rt hs0 os root hs) (hr : WB rt) : wordsOk os root = true ∧ (∀ o ∈ os, o.2.2.length ≤ 512) ∧ WB root := by
  rcases h with ⟨h, rfl, rfl, rfl⟩ | ⟨-, rfl, rfl, rfl⟩
  · obtain ⟨a1, a2, a3, a4⟩ := loadE_inv h
    exact ⟨a4, a1, hr⟩
  · refine ⟨by decide, ?_, by omega, by omega⟩
    intro o ho
    cases ho
theorem gcRun_nil (w : World) {sv : Value} : Calls Tryz.prog 7 #[.pointer none, sv] w (Still (.tuple #[.slice none 0 0, .int .i64 0, .int .i64 1]) w) := by
  have hw : Calls Tryz.prog 25 #[.pointer none] w (Still (.int .i64 0) w) := words_still (m := Mem.none) (memory_none (.inl rfl))
  go_enter Tryz.func7, Tryz.ntmps7
  go_wp2_with (go_at_call 25; refine hw.mono ?_; rintro e w1 ⟨rfl, hF1⟩)
  go_ret3
  exact ⟨rfl, hF1⟩
set_option maxRecDepth 100000 in
set_option maxHeartbeats 4000000 in
theorem gcRuns_no {v1 v2 : Value} (n rt hs0 : Int) (w : World) (hg : Glob w) (hn : n < 64 ∨ 65536 < n) (b1 : -9223372036854775808 ≤ n) (b2 : n ≤ 9223372036854775807) : Calls Tryz.prog 3 #[.int .i64 n, v1, .int .u64 rt, .int .i64 hs0, v2] w (Still (.bool true) w) := by
  have hA := awake3 w hg
  have HN := Lib.hid (fun W => new_no n W hn)
  have HR := Lib.hid (fun W => rnew_no n W hn b1 b2)
  clear hg hn
  go_enter Tryz.func3, Tryz.ntmps3
  go_wp2_with (first
    | (go_at_call 4; refine hA.mono ?_; rintro e w1 ⟨rfl, hF1⟩)
    | (go_at_call 5; refine (HN.out _).mono ?_; rintro e w2 ⟨rfl, rfl⟩)
    | (go_at_call 6; refine (HR.out _).mono ?_; rintro e w2 ⟨rfl, rfl⟩)
    | (go_at_call 7; refine (gcRun_nil _).mono ?_; rintro e w3 ⟨rfl, hF3⟩))
  go_ret
  exact ⟨rfl, hF1.trans hF3⟩
set_option maxRecDepth 100000 in
set_option maxHeartbeats 8000000 in
theorem gcRuns_at {ao : Option Addr} {cap : Nat} {w : World} (its : List (It × Int)) (hG : G4 w ao its) (hB : B4 its) (lim : Int) (h1 : 64 ≤ lim) (h2 : lim ≤ 65536) (rt : Int) (hr : WB rt) (n : Int) (n1 : -9223372036854775808 ≤ n) (n2 : n ≤ 9223372036854775807) {ra : Option Addr} {rc : Nat} (xs : List Int) (hX : WordsAt w ra xs) (hXB : ∀ x ∈ xs, WB x) (hXL : xs.length ≤ 17592186044416) (hXN : 0 < xs.length → ∃ b o, ra = some ⟨b, o, none⟩ ∧ b < w.heap.size) (hg : Glob w) :
    Calls Tryz.prog 3 #[.int .i64 lim, .slice ao its.length cap, .int .u64 rt, .int .i64 n, .slice ra xs.length rc] w (Still (.bool true) w) := by
  have hA := awake3 w hg
  have HG := Lib.hid hg
  have HG4 := Lib.hid hG
  have HB4 := Lib.hid hB
  have HRT := Lib.hid hr
  have HX := Lib.hid hX
  have HXB := Lib.hid hXB
  have HXN := Lib.hid hXN
  obtain ⟨os, root, hs, hOL, hML⟩ := OLoad.ex lim [] 0 0 (obsOf (its.map Prod.fst)) rt n
  have HML := Lib.hid hML
  have HOL := Lib.hid hOL
  have HI := Lib.hid (hOL.inv (inv_fresh3 lim h1 h2) (fun o ho => by obtain ⟨a, ha, rfl⟩ := List.mem_map.1 ho; obtain ⟨b, hb, rfl⟩ := List.mem_map.1 ha; exact hB.words b hb))
  have HMAY := Lib.hid (hOL.may hr)
  obtain ⟨ys, d, g, os', root', hRT⟩ := RunTo.ex os root xs
  have HRUN := Lib.hid hRT
  have hlen := hB.len
  obtain ⟨N, hN⟩ : ∃ N, N = its.length := ⟨_, rfl⟩
  have HN := Lib.hid hN
  have hYL := hRT.len
  obtain ⟨K, hK⟩ : ∃ K, K = xs.length := ⟨_, rfl⟩
  have HK := Lib.hid hK
  obtain ⟨Y, hY⟩ : ∃ Y, Y = ys.length := ⟨_, rfl⟩
  have HY := Lib.hid hY
  rw [← hN] at hlen
  rw [← hN, ← hK]
  rw [← hK] at hXL
  rw [← hK, ← hY] at hYL
  clear hg hG hB hr hX hXB hXN hOL hML hRT hN hK hY
  go_enter Tryz.func3, Tryz.ntmps3
  go_wp2_with fail
  refine hA.mono ?_
  rintro e w1 ⟨rfl, hF1⟩
  have HF1 := Lib.hid hF1
  clear hA hF1
  go_wp2_with fail
  refine (live_new lim _ h1 h2).mono ?_
  rintro e w2 ⟨hb, mb, rfl, hL⟩
  have HL := Lib.hid hL
  clear hL
  go_wp2_with fail
  refine (rnew lim _ h1 h2).mono ?_
  rintro e w3 ⟨rfl, hR, hF3⟩
  have HT3 : Hid (Two w1 [] hb mb w2.heap.size (absMem lim [] 0 0) ⟨lim, [], 0, 0⟩ w3) := two_new HL.out hF3 hR (fun k hk => by simp [rfoot, Value.ownBlock] at hk; omega)
  have HF3 : Hid (Fr [] w1 w3) := HL.out.fr.trans hF3
  obtain ⟨rb, hrb⟩ : ∃ rb, rb = w2.heap.size := ⟨_, rfl⟩
  rw [← hrb] at HT3
  rw [← hrb]
  have hmi := mine (w := w3) (cap := cap) its (HG4.out.fr0 (HF1.out.trans HF3.out)).row (fun o ho => by obtain ⟨fa, fc, h, -⟩ := (HG4.out.fr0 (HF1.out.trans HF3.out)).ok o ho; exact ⟨fa, _, fc, h⟩) HB4.out.len
  rw [← HN.out] at hmi
  clear hR hF3 hrb HL
  go_wp2_with fail
  refine hmi.mono ?_
  rintro e w4 ⟨v, rfl, hrow, hF4, -⟩
  obtain ⟨ma, mc, rfl⟩ := row_shape' hrow
  have HF4 := Lib.hid (HF3.out.trans hF4)
  have HT4 := Lib.hid (HT3.out.still hF4)
  have HH4 : Hid (Handed w4 ma (its.map Prod.fst)) := by
    have hgg := HG4.out.fr0 (HF1.out.trans HF4.out)
    have hB := HB4.out
    exact ⟨row_rowAt hrow, fun o ho => by obtain ⟨b, hb, rfl⟩ := List.mem_map.1 ho; exact hgg.inn b hb, by simpa using hB.len, fun o ho => by obtain ⟨b, hb, rfl⟩ := List.mem_map.1 ho; exact hB.sizes b hb, fun o ho => by obtain ⟨b, hb, rfl⟩ := List.mem_map.1 ho; exact hB.hash b hb, fun o ho => by obtain ⟨b, hb, rfl⟩ := List.mem_map.1 ho; exact hB.words b hb⟩
  have hhl := hload2 (cap := mc) (lo := ao) (HG.out.fr HF1.out) (inv_fresh3 lim h1 h2) HT4.out (its.map Prod.fst) HH4.out its (fun wv sv W' hHA h2' hF' => HG4.out.fr (HF1.out.trans (HF4.out.join hF' h2')) (fun _ a _ => by simp) (fun _ _ fa _ _ _ _ => by simp)) rt n HRT.out n1 n2 HML.out
  rw [List.length_map, ← HN.out] at hhl
  have HHL := Lib.hid hhl
  clear hmi hrow hF4 hhl
  go_wp2_with fail
  refine HHL.out.mono ?_
  rintro e w5 ⟨rfl, hT5, hG5⟩
  have hrl := rload2 (cap := cap) (l := []) (inv_fresh3 lim h1 h2) (show RAgree 1 [] [] from trivial) its HB4.out rt n HRT.out n1 n2 HOL.out hT5 hG5
  rw [← HN.out] at hrl
  have HRL := Lib.hid hrl
  clear hT5 hG5 hrl HHL
  go_wp2_with fail
  refine HRL.out.mono ?_
  rintro e w6 ⟨rfl, l, ha, hT6⟩
  have HT6 := Lib.hid hT6
  have HA6 := Lib.hid ha
  have HF6 : Hid (Fr [] w w6) := HF1.out.trans hT6.fr
  have hrun := two_gcrun (rc := rc) (HG.out.fr HF1.out) HI.out HMAY.out.1 HMAY.out.2.1 HMAY.out.2.2 HT6.out xs (HX.out.fr0 HF6.out) HXB.out (by rw [← HK.out]; exact hXL) (fun hne a ha => by
    obtain ⟨b, o, e, hlt⟩ := HXN.out (List.length_pos_iff.2 hne)
    rw [ha] at e
    cases e
    exact Nat.lt_of_lt_of_le hlt HF1.out.size) HRUN.out
  rw [← HK.out, ← HY.out] at hrun
  clear hT6 ha HRL
  go_wp2_with fail
  refine hrun.mono ?_
  rintro e w7 ⟨va, vc, rfl, hV, hVb, hT7⟩
  have HV := Lib.hid hV
  have HVB := Lib.hid hVb
  have HT7 := Lib.hid hT7
  have HF7 : Hid (Fr [] w w7) := HF1.out.trans hT7.fr
  have hrun3 := two_run3 (rc := rc) HI.out HA6.out HMAY.out.2.2 HT7.out xs (HX.out.fr0 HF7.out) HXB.out (by rw [← HK.out]; exact hXL) HRUN.out
  rw [← HK.out, ← HY.out] at hrun3
  clear hV hVb hT7 hrun
  go_wp2_with fail
  refine hrun3.mono ?_
  rintro e w8 ⟨va3, vc3, rfl, hV3, hF8', l', ha', hT8⟩
  have HV8 : Hid (WordsAt w8 va ys) := HV.out.fr hF8' (fun a ha => by simp; exact HVB.out a ha)
  have HV3 := Lib.hid hV3
  have HA8 := Lib.hid ha'
  have HI8 := Lib.hid (HRUN.out.inv HI.out HMAY.out.1 HMAY.out.2.1)
  have HF8 : Hid (Fr [] w w8) := HF1.out.trans hT8.fr
  obtain ⟨wv, sv, lv, -, hH, hRf, -⟩ := hT8
  have atH : ∀ W', Fr [] w8 W' → HeapAt W' hb mb (absMem lim os' root' hs) wv sv := fun W' hF => hH.fr hF (by simp) (fun _ _ => by simp)
  have HSW : Hid (∀ W', Fr [] w8 W' → Calls Tryz.prog 12 #[.slice va Y vc, .slice va3 Y vc3] W' (Still (.bool true) W')) := Lib.hid fun W' hF => by
    have := sameWords (ac := vc) (bc := vc3) ys ys (HV8.out.fr0 hF) (HV3.out.fr0 hF) (by rw [← HY.out]; omega)
    rw [decide_eq_true rfl, ← HY.out] at this
    exact this.mono fun e w' ⟨he, m, hm⟩ => ⟨he, by rw [hm]; exact (Fr.refl _ _).drewN _⟩
  have HUS : Hid (∀ W', Fr [] w8 W' → Calls Tryz.prog 19 #[.pointer (some ⟨hb, 0, none⟩)] W' (Still (.int .i64 (endOf os' : Nat)) W')) := Lib.hid fun W' hF => by have := used_still (memory_at (atH W' hF)); rw [(absMem_len _ _ _ _).1] at this; exact this
  have HRU : Hid (∀ W', Fr [] w8 W' → Calls Tryz.prog 20 #[.pointer (some ⟨rb, 0, none⟩)] W' (Still (.int .i64 (endOf os' : Nat)) W')) := Lib.hid fun W' hF => (rused (hRf.fr0 hF)).mono fun e w' ⟨he, m, hm⟩ => ⟨by rw [he, show usedR (RH.mk lim l' root' hs).l = endOf os' from agree_used HA8.out], by rw [hm]; exact (Fr.refl _ _).drewN _⟩
  have HRO : Hid (∀ W', Fr [] w8 W' → Calls Tryz.prog 17 #[.pointer (some ⟨hb, 0, none⟩)] W' (Still (.int .u64 root') W')) := Lib.hid fun W' hF => root_still (memory_at (atH W' hF))
  have HHA : Hid (∀ W', Fr [] w8 W' → Calls Tryz.prog 18 #[.pointer (some ⟨hb, 0, none⟩)] W' (Still (.int .i64 hs) W')) := Lib.hid fun W' hF => hashes_still (memory_at (atH W' hF))
  have HDU := Lib.hid (fun W' (hF : Fr [] w8 W') => snap_at HI8.out (atH W' hF))
  have HRD : Hid (∀ W', Fr [] w8 W' → Calls Tryz.prog 16 #[.pointer (some ⟨rb, 0, none⟩)] W' fun e W1 => ∃ ka kc kts, e = .returned (.slice ka kts.length kc) ∧ RowAt W1 ka (flat4 kts) ∧ (∀ o ∈ kts, ItOk W1 o.1) ∧ kts.map (fun o => o.1.key) = os' ∧ Fr [] W' W1) := by
    refine Lib.hid fun W' hF => (rdump (hRf.fr0 hF)).mono ?_
    rintro e W1 ⟨v, kts, rfl, hD⟩
    have hl : l'.length = kts.length := by have := congrArg List.length hD.keys; simpa [keys4, keysR] using this.symm
    have hr' : W1.ownsRow 0 78 4 v kts.length (flat4 kts) := by rw [← hl]; exact hD.gr.row
    obtain ⟨ka, kc, rfl⟩ := row_shape' hr'
    refine ⟨ka, kc, kts, rfl, row_rowAt hr', fun o ho => (hD.own o ho).ok, ?_, hD.gr.fr⟩
    have := congrArg (List.map Prod.fst) hD.keys
    simp only [keys4, keysR, List.map_map] at this
    rw [← ROB HA8.out]
    exact this
  have c0 : w8.cell? ⟨rb, 0, none⟩ = some (.int .i64 lim) := cell_of_heap hRf.heap rfl
  have c2 : w8.cell? ⟨rb, 2, none⟩ = some (.int .u64 root') := cell_of_heap hRf.heap rfl
  have c3 : w8.cell? ⟨rb, 3, none⟩ = some (.int .i64 hs) := cell_of_heap hRf.heap rfl
  have hdl : os'.length ≤ 65536 := by have := len_end os'; have := HI8.out.fit; have := HI8.out.l2; omega
  obtain ⟨M, hM⟩ : ∃ M, M = os'.length := ⟨_, rfl⟩
  have HM := Lib.hid hM
  have hMb : M ≤ 65536 := by omega
  clear hV3 ha' hH hRf atH hrun3 hM hdl hF8'
  go_wp2_with fail
  go_region_held3 (fun w' => w'.cell? ⟨rb, 2, none⟩ = some (.int .u64 root') ∧ w'.cell? ⟨rb, 3, none⟩ = some (.int .i64 hs))
    (first | exact ⟨HE9.out.cell (by simp) c2, HE9.out.cell (by simp) c3⟩ | exact ⟨HE8.out.cell (by simp) c2, HE8.out.cell (by simp) c3⟩ | exact ⟨HE7.out.cell (by simp) c2, HE7.out.cell (by simp) c3⟩ | exact ⟨HE6.out.cell (by simp) c2, HE6.out.cell (by simp) c3⟩ | exact ⟨HE5.out.cell (by simp) c2, HE5.out.cell (by simp) c3⟩ | exact ⟨HE4.out.cell (by simp) c2, HE4.out.cell (by simp) c3⟩ | exact ⟨HE3.out.cell (by simp) c2, HE3.out.cell (by simp) c3⟩ | exact ⟨HE2.out.cell (by simp) c2, HE2.out.cell (by simp) c3⟩ | exact ⟨HE1.out.cell (by simp) c2, HE1.out.cell (by simp) c3⟩ | go_keep)
    (first
      | (go_at_call 12; refine (HSW.out _ ((Fr.refl _ _).drew)).mono ?_; rintro e u1 ⟨rfl, hE1⟩; have HE1 : Hid (Fr [] w8 u1) := ((Fr.refl _ _).drew).trans hE1; clear hE1)
      | (go_at_call 15; refine (HDU.out _ HE1.out).mono ?_; rintro e u2 ⟨da, dc, dts, rfl, hr6, ho6, hown6, hE2, -⟩; have HE2 : Hid (Fr [] w8 u2) := HE1.out.trans hE2; have hil : dts.length = M := (by rw [HM.out, ← ho6]; simp [obsOf]); have hth := theirs_at (vc := dc) hr6 hown6 (by omega); have HO6 := Lib.hid ho6; have HI6 := Lib.hid hil; rw [hil] at hth ⊢; clear hr6 ho6 hown6 hE2 hil)
      | (go_at_call 14; refine hth.mono ?_; rintro e u3 ⟨ba, bc, rfl, -, hG7, hE3, -⟩; have HE3 : Hid (Fr [] w8 u3) := HE2.out.trans hE3; have HG7 := Lib.hid hG7; clear hG7 hE3 hth)
      | (go_at_call 16; refine (HRD.out _ HE3.out).mono ?_; rintro e u4 ⟨ka, kc, kts, rfl, hkr, hko, hkk, hE4⟩; have HE4 : Hid (Fr [] w8 u4) := HE3.out.trans hE4; have hso := sameObjects (ac := bc) (bc := kc) (noPlace dts) kts (HG7.out.fr0 hE4).row hkr (HG7.out.fr0 hE4).ok hko (by rw [noPlace_len, HI6.out]; omega); rw [noPlace_keys, HO6.out, hkk, noPlace_len, HI6.out, decide_eq_true rfl] at hso; generalize kts.length = kn at *; clear hkr hko hkk hE4)
      | (go_at_call 13; refine hso.mono ?_; rintro e u5 ⟨rfl, hdc⟩; have HE5 : Hid (Fr [] w8 u5) := (by obtain ⟨m, rfl⟩ := hdc; exact HE4.out.drewN _); clear hdc hso)
      | (go_at_call 17; refine (HRO.out _ HE5.out).mono ?_; rintro e u6 ⟨rfl, hE6⟩; have HE6 : Hid (Fr [] w8 u6) := HE5.out.trans hE6; clear hE6)
      | (go_at_call 18; refine (HHA.out _ HE6.out).mono ?_; rintro e u7 ⟨rfl, hE7⟩; have HE7 : Hid (Fr [] w8 u7) := HE6.out.trans hE7; clear hE7)
      | (go_at_call 19; refine (HUS.out _ HE7.out).mono ?_; rintro e u8 ⟨rfl, hE8⟩; have HE8 : Hid (Fr [] w8 u8) := HE7.out.trans hE8; clear hE8)
      | (go_at_call 20; refine (HRU.out _ HE8.out).mono ?_; rintro e u9 ⟨rfl, hE9⟩; have HE9 : Hid (Fr [] w8 u9) := HE8.out.trans hE9; clear hE9))
  go_wp2_with fail
  go_ret
  exact ⟨rfl, HF8.out.trans HE9.out⟩
theorem gcRuns_walk {ao : Option Addr} {cap : Nat} {w : World} (its : List (It × Int)) (hG : G4 w ao its) (hB : B4 its) (n rt hs0 : Int) (b1 : -9223372036854775808 ≤ n) (b2 : n ≤ 9223372036854775807) (hr : WB rt) (n1 : -9223372036854775808 ≤ hs0) (n2 : hs0 ≤ 9223372036854775807) {ra : Option Addr} {rc : Nat} (xs : List Int) (hX : WordsAt w ra xs) (hXB : ∀ x ∈ xs, WB x) (hXL : xs.length ≤ 17592186044416) (hXN : 0 < xs.length → ∃ b o, ra = some ⟨b, o, none⟩ ∧ b < w.heap.size) (hg : Glob w) :
    Calls Tryz.prog 3 #[.int .i64 n, .slice ao its.length cap, .int .u64 rt, .int .i64 hs0, .slice ra xs.length rc] w (Still (.bool true) w) := by
  by_cases h1 : 64 ≤ n
  · by_cases h2 : n ≤ 65536
    · exact gcRuns_at its hG hB n h1 h2 rt hr hs0 n1 n2 xs hX hXB hXL hXN hg
    · exact gcRuns_no n rt hs0 w hg (.inr (by omega)) b1 b2
  · exact gcRuns_no n rt hs0 w hg (.inl (by omega)) b1 b2
end Go.Proofs.YtjjkbdkalnhcbaaGreatDoor
