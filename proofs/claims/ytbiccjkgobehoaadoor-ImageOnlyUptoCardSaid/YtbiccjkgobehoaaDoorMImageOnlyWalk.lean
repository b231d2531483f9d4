/- ImageOnly: no other bytes are that heap. -/
import Derived.Test.YtbiccjkgobehoaaDoorMImgE
namespace Go.Proofs.YtbiccjkgobehoaaDoor
open Go.RowKit

theorem Had6.lens2 {lim : Int} {os : List Ob} {root hs : Int} {hb mb : Nat} {wv sv : Value} {w W : World} (h : Had6 lim os root hs hb mb wv sv w W) : os.length ≤ 65536 := by
  have h1 := h.len
  have : os.length ≤ words3 os := by
    clear h1 h
    unfold words3
    induction os with
    | nil => simp
    | cons a l ih => simp only [List.length_cons, List.map_cons, List.sum_cons]; omega
  omega
set_option maxRecDepth 100000 in
set_option maxHeartbeats 1000000 in
theorem sameBytes_at {w : World} {a b : Option Addr} {la lb : List Int} {ca cb : Nat} (hA : BytesAt w a la) (hB : BytesAt w b lb) (bA : ∀ x ∈ la, B x) (bB : ∀ x ∈ lb, B x) : Calls Tryd.prog 8 #[.slice a la.length ca, .slice b lb.length cb] w (Still (.bool (decide (la = lb))) w) := by
  have h1 := conv_bytes hA ca
  have h2 := conv_bytes hB cb
  have h3 := bstr_dec bA bB
  generalize la.length = n at *
  generalize lb.length = m at *
  generalize bstr la = s at *
  generalize bstr lb = t at *
  clear hA hB bA bB
  rw [← h3]
  clear h3
  go_enter Tryd.func8, Tryd.ntmps8
  go_wp2_with fail
  go_ret
  exact ⟨rfl, by first | exact Fr.refl _ _ | exact (Fr.refl _ _).drewN _⟩
set_option maxRecDepth 100000 in
set_option maxHeartbeats 3200000 in
theorem imageOnly_no {a : Option Addr} {bs : List Int} {cap : Nat} (n : Int) (w : World) {bT bF : Addr} (hg : Glob w) (hI : IGlob w bT bF) (h : ∀ W, Fr [] w W → Calls Tryd.prog 5 #[.slice a bs.length cap, .int .i64 n] W (fun e W' => ∃ E : Int, E ≠ 0 ∧ e = .returned (.tuple #[.pointer none, .int .i64 E]) ∧ Fr [] W W')) : Calls Tryd.prog 3 #[.slice a bs.length cap, .int .i64 n] w (Still (.bool true) w) := by
  have HAW := Lib.hid (fun W (hF : Fr [] w W) => awake6 (hg.fr hF) (hI.still hF))
  have HDE := Lib.hid h
  generalize bs.length = len at *
  clear hg hI h
  go_enter Tryd.func3, Tryd.ntmps3
  go_wp2_with fail
  refine (HAW.out _ (Fr.refl _ _)).mono ?_
  rintro e w1 ⟨rfl, hF1⟩
  have HF1 := Lib.hid hF1
  clear hF1
  go_wp2_with fail
  refine (HDE.out _ HF1.out).mono ?_
  rintro e w2 ⟨E, hE, rfl, hF2⟩
  have HF2 := Lib.hid (HF1.out.trans hF2)
  clear hF2
  go_wp2_with fail
  go_ret
  exact ⟨rfl, HF2.out⟩
set_option maxRecDepth 100000 in
set_option maxHeartbeats 3200000 in
theorem imageOnly_yes {a : Option Addr} {bs : List Int} {cap : Nat} (n : Int) (w : World) {bT bF : Addr} (h1 : 64 ≤ n) (h2 : n ≤ 65536) (hg : Glob w) (hI : IGlob w bT bF) (hA : BytesAt w a bs) (hB : ∀ x ∈ bs, B x) (hc : bs.length ≤ cap) (hl : bs.length ≤ 35184372088832) {root hs : Int} {os : List Ob} (hd : decI bs = some (root, hs, os)) (hz : loadE n os root hs = 0) : Calls Tryd.prog 3 #[.slice a bs.length cap, .int .i64 n] w (Still (.bool true) w) := by
  have HAW := Lib.hid (fun W (hF : Fr [] w W) => awake6 (hg.fr hF) (hI.still hF))
  have HDE := Lib.hid (fun W (hF : Fr [] w W) => decode_at (cap := cap) n h1 h2 (hg.fr hF) (hI.still hF) (hA.fr hF (fun _ _ => by simp)) hB hc hl)
  have HA := Lib.hid hA
  have HBY := Lib.hid hB
  have HD := Lib.hid hd
  have HZ := Lib.hid hz
  have HRB : Hid (WB root) := (dec_bd hB hd).1
  obtain ⟨len, hlen⟩ : ∃ k, k = bs.length := ⟨_, rfl⟩
  have HLN := Lib.hid hlen
  rw [← hlen] at HDE ⊢
  clear hg hI hA hB hd hz hlen hc hl
  go_enter Tryd.func3, Tryd.ntmps3
  go_wp2_with fail
  refine (HAW.out _ (Fr.refl _ _)).mono ?_
  rintro e w1 ⟨rfl, hF1⟩
  have HF1 := Lib.hid hF1
  clear hF1
  go_wp2_with fail
  refine (HDE.out _ HF1.out).mono ?_
  intro e w2 hd
  obtain ⟨gb, gm, hgi, rfl, hLv⟩ := hd.yes HD.out HZ.out
  obtain ⟨gv, gs, hH2, hF2, -⟩ := hLv
  have HH : Hid (Had6 n os root hs gb gm gv gs w1 w2) := Lib.hid ⟨hH2, hgi, (loadE_inv HZ.out).1, HRB.out, HZ.out, hF2⟩
  have HF2 : Hid (Fr [] w w2) := HF1.out.trans hF2
  have hEQ : bs = encI root hs os := dec_inv HBY.out HD.out hgi.h0 (fun o ho => (hgi.each o ho).1)
  have HEQ := Lib.hid hEQ
  have HEN := Lib.hid (fun W (hF : Fr [] w2 W) => (HH.out.still hF).encode)
  have HIL : Hid (28 + 8 * words3 os = len) := by show _ = _; rw [HLN.out, hEQ, encI_len]
  rw [HIL.out] at HEN
  have HWD : Hid (∀ W, Fr [] w2 W → Calls Tryd.prog 10 #[.pointer (some ⟨gb, 0, none⟩)] W (Still (.int .i64 n) W)) := Lib.hid fun W hF => words_still (memory_at (HH.out.still hF).at_)
  have HSN := Lib.hid (fun W (hF : Fr [] w2 W) => snap_at (HH.out.still hF).inv (HH.out.still hF).at_)
  have HHA : Hid (∀ W, Fr [] w2 W → ∀ x, WB x → Calls Tryd.prog 7 #[.pointer (some ⟨gb, 0, none⟩), .int .u64 x] W (Still (.bool (stB (marksOf os) x)) W)) := Lib.hid fun W hF x hx => has_still (memory_at (HH.out.still hF).at_) x hx.1 hx.2
  have HOK : Hid (∀ o ∈ os, ∀ x ∈ o.2.2, okB (marksOf os) x = true ∧ WB x) := Lib.hid fun o ho x hx => ⟨((wordsOk_of (loadE_inv HZ.out).2.2.2).1 o ho).2 x hx, (hgi.bd o ho).2 x hx⟩
  clear hd hH2 hgi hF2 hEQ HDE HAW
  go_wp2_with fail
  refine (HSN.out _ (Fr.refl _ _)).mono ?_
  rintro e w3 ⟨va, vc, its, rfl, hr3, ho3, hown3, hF3, -⟩
  have HR3 := Lib.hid hr3
  have HO3 := Lib.hid ho3
  have HW3 := Lib.hid hown3
  have HF3 := Lib.hid hF3
  obtain ⟨M, hM⟩ : ∃ M, M = its.length := ⟨_, rfl⟩
  have HM := Lib.hid hM
  have hMb : M ≤ 65536 := by rw [hM, show its.length = os.length by rw [← ho3]; simp [obsOf]]; exact HH.out.lens2
  rw [← hM]
  clear hr3 ho3 hown3 hF3 hM HSN
  go_wp2_with fail
  go_loopw [9] (fun i wr => ∃ k : Nat, k ≤ M ∧ i = .int .i64 k ∧ Hid (Fr [] w3 wr)) (fun i _ => M - (intOf i).toNat)
  case atStart => exact ⟨0, Nat.zero_le _, rfl, Fr.refl _ _⟩
  case round =>
    obtain ⟨k, hk, rfl, hF⟩ := hrel
    by_cases hlt : k < M
    · have hkl : k < its.length := by rw [← HM.out]; exact hlt
      obtain ⟨o, ho⟩ : ∃ o, o = its[k] := ⟨_, rfl⟩
      have hik : its[k]? = some o := by rw [List.getElem?_eq_getElem hkl, ho]
      have hom := List.mem_of_getElem? hik
      obtain ⟨-, -, f3⟩ := flat3_at hik
      obtain ⟨g, off, rfl, c3⟩ := HR3.out _ _ f3
      obtain ⟨fa, fc, hov, hfw, -⟩ := (HW3.out o hom).ok
      rw [hov] at c3
      have HOX : Hid (∀ x ∈ o.fs, okB (marksOf os) x = true ∧ WB x) := Lib.hid fun x hx => HOK.out o.key (by rw [← HO3.out]; exact List.mem_map_of_mem hom) x hx
      have HC3 : Hid (∀ W, Fr [] w3 W → W.cell? ⟨g, off + k * 3 + 2, none⟩ = some (.slice fa o.fs.length fc)) := Lib.hid fun W hW => by
        have := hW.cell (by simp) c3
        rw [← Nat.add_assoc] at this
        exact this
      have HFW := Lib.hid hfw
      obtain ⟨q, hq⟩ : ∃ q, q = o.fs.length := ⟨_, rfl⟩
      have HQ := Lib.hid hq
      have hqb : q ≤ 512 := by rw [hq]; exact HH.out.sizes o.key (by rw [← HO3.out]; exact List.mem_map_of_mem hom)
      rw [← hq] at HC3
      have k0 : (0 : Int) ≤ (k : Int) := by omega
      have k1 : (k : Int) < (M : Int) := by omega
      clear ho hik hom f3 c3 hov hfw hkl hq
      go_wp2_with fail
      go_loopw [10] (fun i wi => ∃ j : Nat, j ≤ q ∧ i = .int .i64 j ∧ Hid (Fr [] w3 wi)) (fun i _ => q - (intOf i).toNat)
      case atStart => exact ⟨0, Nat.zero_le _, rfl, hF⟩
      case round =>
        obtain ⟨j, hj, rfl, hFi⟩ := hrel
        have c3 := HC3.out wr hFi.out
        by_cases hlj : j < q
        · obtain ⟨x, hx⟩ : ∃ x, o.fs[j]? = some x := ⟨_, List.getElem?_eq_getElem (by rw [← HQ.out]; exact hlj)⟩
          obtain ⟨gf, of, rfl, hcx⟩ := (HFW.out.fr hFi.out (fun _ _ => by simp)) j x hx
          obtain ⟨hok, hxb⟩ := HOX.out x (List.mem_of_getElem? hx)
          have j0 : (0 : Int) ≤ (j : Int) := by omega
          have j1 : (j : Int) < (q : Int) := by omega
          have x1 := hxb.1
          have x2 := hxb.2
          by_cases hx0 : x = 0
          · subst hx0
            clear hx hok hxb x1 x2
            go_wp2_with fail
            go_roundw
            case rel => exact ⟨j + 1, by omega, by go_num, hFi⟩
            case measure => simp [intOf]; omega
          · by_cases hodd : x % 2 = 0
            · have hh := HHA.out wr (HF3.out.trans hFi.out) x hxb
              have hst : stB (marksOf os) x = true := by
                have h3 : odd x = false := by unfold odd; simp; omega
                unfold okB at hok
                rw [h3, decide_eq_false hx0] at hok
                simpa using hok
              rw [hst] at hh
              clear hx hok hxb hst
              go_wp2_with fail
              refine hh.mono ?_
              rintro e wx ⟨rfl, hFx⟩
              have HFX := Lib.hid (hFi.out.trans hFx)
              clear hFx hh
              go_wp2_with fail
              go_roundw
              case rel => exact ⟨j + 1, by omega, by go_num, HFX⟩
              case measure => simp [intOf]; omega
            · clear hx hok hxb
              go_wp2_with fail
              go_roundw
              case rel => exact ⟨j + 1, by omega, by go_num, hFi⟩
              case measure => simp [intOf]; omega
        · obtain rfl : j = q := by omega
          have hjd : decide (j < j) = false := by simp
          go_wp2_with fail
          go_roundw
          case rel => exact ⟨k + 1, by omega, by go_num, hFi⟩
          case measure => simp [intOf]; omega
    · obtain rfl : k = M := by omega
      have hkd : decide (k < k) = false := by simp
      have HF24 := Lib.hid (HF3.out.trans hF.out)
      go_wp2_with fail
      refine (HEN.out _ HF24.out).mono ?_
      rintro e w4 ⟨vb, vbc, rfl, hB4, -, hF4, -⟩
      have hsb := sameBytes_at (ca := vbc) (cb := cap) hB4 (HA.out.fr (HF2.out.trans (HF24.out.trans hF4)) (fun _ _ => by simp)) (encI_byte _ _ _) HBY.out
      rw [← HLN.out, decide_eq_true HEQ.out.symm, encI_len, HIL.out] at hsb
      have HF4 := Lib.hid (HF24.out.trans hF4)
      clear hB4 hF4
      go_wp2_with fail
      refine hsb.mono ?_
      rintro e w5 ⟨rfl, hF5⟩
      have HF5 := Lib.hid (HF4.out.trans hF5)
      clear hF5 hsb
      go_wp2_with fail
      refine (HWD.out _ HF5.out).mono ?_
      rintro e w6 ⟨rfl, hF6⟩
      have HF6 : Hid (Fr [] w w6) := HF2.out.trans (HF5.out.trans hF6)
      clear hF6
      go_wp2_with fail
      go_ret
      exact ⟨rfl, HF6.out⟩
theorem imageOnly_all {w : World} (h : Glob w ∧ ∃ bT bF, IGlob w bT bF) {a : Option Addr} {bs : List Int} {cap : Nat} (hA : BytesAt w a bs) (hB : ∀ x ∈ bs, B x) (hc : bs.length ≤ cap) (hl : bs.length ≤ 35184372088832) (n : Int) : Calls Tryd.prog 3 #[.slice a bs.length cap, .int .i64 n] w (Still (.bool true) w) := by
  obtain ⟨hg, bT, bF, hI⟩ := h
  by_cases hn : 64 ≤ n ∧ n ≤ 65536
  · obtain ⟨h1, h2⟩ := hn
    by_cases hz : decE n bs = 0
    · unfold decE at hz
      cases hd : decI bs with
      | none => rw [hd] at hz; cases hz
      | some p =>
        obtain ⟨root, hs, os⟩ := p
        rw [hd] at hz
        have hz0 : loadE n os root hs = 0 := by
          by_cases h0 : loadE n os root hs = 0
          · exact h0
          · simp only [if_neg h0] at hz
            split at hz <;> cases hz
        exact imageOnly_yes n w h1 h2 hg hI hA hB hc hl hd hz0
    · refine imageOnly_no n w hg hI fun W hF => ?_
      refine (decode_at (cap := cap) n h1 h2 (hg.fr hF) (hI.still hF) (hA.fr hF (fun _ _ => by simp)) hB hc hl).mono ?_
      intro e W' hd
      obtain ⟨rfl, hF'⟩ := hd.no rfl hz
      exact ⟨_, hz, rfl, hF'⟩
  · refine imageOnly_no n w hg hI fun W hF => ?_
    refine (decode_no n _ W (by omega)).mono ?_
    rintro e W' ⟨rfl, hF'⟩
    exact ⟨1, by decide, rfl, hF'⟩
end Go.Proofs.YtbiccjkgobehoaaDoor
