/- The document's Decode. -/
import Derived.Test.YtfhhjdfdfbelgaaGreatDoorMImgRefO
import Derived.Test.YtfhhjdfdfbelgaaGreatDoorMImgD
namespace Go.Proofs.YtfhhjdfdfbelgaaGreatDoor
open Go.RowKit

theorem NextP.len {bs r : List Int} {sh sh' : Bool} {x : Int} (h : NextP bs sh x r sh') : r.length ≤ bs.length := by
  rcases h with ⟨e, -⟩ | ⟨-, -, rfl, -⟩
  · unfold rdN at e
    split at e
    · cases e
    · obtain ⟨-, h2⟩ := Prod.mk.inj (Option.some.inj e)
      rw [← h2, List.length_drop]
      omega
  · exact Nat.le_refl _
/-- the document's heap of bytes, or an error -/
def RDecoded (lim : Int) (bs : List Int) (w : World) (e : Ending) (w' : World) : Prop :=
  (∃ root hashes os rb l lv, decI bs = some (root, hashes, os) ∧ loadE lim os root hashes = 0 ∧ e = .returned (.tuple #[.pointer (some ⟨rb, 0, none⟩), .int .i64 0]) ∧ RAgree 1 l os ∧ RefAt w' rb ⟨lim, l, root, hashes⟩ lv ∧ Fr [] w w') ∨
  (decE lim bs ≠ 0 ∧ e = .returned (.tuple #[.pointer none, .int .i64 (decE lim bs)]) ∧ Fr [] w w')
theorem rdecode_no (n : Int) (v : Value) (w : World) (h : n < 64 ∨ 65536 < n) (b1 : -9223372036854775808 ≤ n) (b2 : n ≤ 9223372036854775807) : Calls Tryz.prog 10 #[v, .int .i64 n] w (Still (.tuple #[.pointer none, .int .i64 1]) w) := by
  have hn := rnew_no n w h b1 b2
  go_enter Tryz.func10, Tryz.ntmps10
  go_wp2_with fail
  refine hn.mono ?_
  rintro e w1 ⟨rfl, rfl⟩
  go_wp2_with fail
  go_ret2
  exact ⟨rfl, Fr.refl _ _⟩
/-- the mark -/
theorem mark_take {bs : List Int} (hB : ∀ x ∈ bs, B x) : ((bstr (bs.take 4)).toList == [84, 80, 80, 84]) = decide (bs.take 4 = [84, 80, 80, 84]) := by
  have h : (bstr [84, 80, 80, 84]).toList = [84, 80, 80, 84] := by rw [ByteArray.toList_eq]; rfl
  rw [← h]
  exact bstr_dec (fun x hx => hB x (List.mem_of_mem_take hx)) (by intro x hx; simp at hx; rcases hx with rfl | rfl | rfl | rfl <;> exact ⟨by decide, by decide⟩)
set_option maxRecDepth 100000 in
set_option maxHeartbeats 4000000 in
theorem rdecode_at {w : World} {a : Option Addr} {bs : List Int} {cap : Nat} (n : Int) (h1 : 64 ≤ n) (h2 : n ≤ 65536) (hA : BytesAt w a bs) (hB : ∀ x ∈ bs, B x) (hc : bs.length ≤ cap) (hl : bs.length ≤ 1048576) : Calls Tryz.prog 10 #[.slice a bs.length cap, .int .i64 n] w (RDecoded n bs w) := by
  have HA := Lib.hid hA
  have HB := Lib.hid hB
  have HL := Lib.hid hl
  obtain ⟨k, hk⟩ : ∃ k, k = bs.length := ⟨_, rfl⟩
  have HK := Lib.hid hk
  have hkl : k ≤ 1048576 := by omega
  have hkc : k ≤ cap := by omega
  rw [← hk]
  clear hA hB hc hl hk
  by_cases h4 : k < 4
  · have HNO : Hid (decE n bs = 3) := by
      have : decI bs = none := by
        unfold decI
        rw [decQ_C, if_neg]
        intro e
        have := congrArg List.length e
        have := HK.out
        simp at *
        omega
      exact Lib.hid (by unfold decE; rw [this])
    have h4' : (k : Int) < 4 := by omega
    go_enter Tryz.func10, Tryz.ntmps10
    go_wp2_with fail
    refine (rnew n _ h1 h2).mono ?_
    rintro e w1 ⟨rfl, hR1, hF1⟩
    have HF1 := Lib.hid hF1
    clear hR1 hF1
    go_wp2_with fail
    go_ret2
    exact .inr ⟨by rw [HNO.out]; decide, by rw [HNO.out]; rfl, HF1.out⟩
  · have HA4 : Hid (BytesAt w a (bs.take 4)) := Lib.hid fun i x hx => by
      rw [List.getElem?_take] at hx
      split at hx
      · exact HA.out i x hx
      · cases hx
    have hm := mark_take HB.out
    have h44 : 4 ≤ k := by omega
    obtain ⟨g, o, rfl⟩ : ∃ g o, a = some ⟨g, o, none⟩ := by
      have := HK.out
      obtain ⟨g, o, e, -⟩ := HA.out 0 _ (List.getElem?_eq_getElem (by omega))
      exact ⟨g, o, e⟩
    have HCV : Hid (∀ W c, Fr [] w W → (convert 22 9 (.slice (some ⟨g, o, none⟩) 4 c)).run Tryz.prog W = .ok (.string (bstr (bs.take 4))) W) := Lib.hid fun W c hF => by
      have := conv_bytes (HA4.out.fr hF (fun _ _ => by simp)) c
      rw [show (bs.take 4).length = 4 by have := HK.out; simp; omega] at this
      exact this
    by_cases hmk : bs.take 4 = [84, 80, 80, 84]
    · have HQ : Hid (decQ bs = decC (bs.drop 4)) := Lib.hid (by rw [decQ_C, if_pos hmk])
      rw [decide_eq_true hmk] at hm
      have HMK := Lib.hid hmk
      clear hmk
      have hd0 : Hid (k - 4 = (bs.drop 4).length) := Lib.hid (by rw [HK.out]; simp)
      have HRR : Hid (∀ W (o2 c2 : Nat), Fr [] w W → ((o2 = o ∧ k = 4) ∨ o2 = o + 4) → k - 4 ≤ c2 → RRAt (W.alloc (.cells #[.slice (some ⟨g, o2, none⟩) (k - 4) c2, .bool false] 62)) W.heap.size (bs.drop 4) false) := Lib.hid (by
        intro W o2 c2 hF ho hc
        have hgW : g < W.heap.size := by
          obtain ⟨g', o', e, hcl⟩ := HA.out 0 _ (List.getElem?_eq_getElem (by have := HK.out; omega))
          cases e
          exact Nat.lt_of_lt_of_le (World.block_lt_of_cell? w _ hcl) hF.size
        refine ⟨⟨some ⟨g, o2, none⟩, c2, ?_, ?_, by rw [← hd0.out]; exact hc, fun a ha => by cases ha; exact hgW⟩, fun x hx => HB.out x (List.mem_of_mem_drop hx)⟩
        · rw [← hd0.out]
          exact heap_new W _
        · rcases ho with ⟨-, e⟩ | rfl
          · intro i x hx
            have := (List.getElem?_eq_some_iff.1 hx).1
            rw [← hd0.out] at this
            omega
          · exact ((HA.out.fr (hF.alloc _) (fun _ _ => by simp))).drop 4)
      go_enter Tryz.func10, Tryz.ntmps10
      go_wp2_with fail
      refine (rnew n _ h1 h2).mono ?_
      rintro e w1 ⟨rfl, hR1, hF1⟩
      have HF1 := Lib.hid hF1
      have HR1 := Lib.hid hR1
      have hcv := fun c => HCV.out w1 c HF1.out
      have HLT : Hid (w.heap.size < w1.heap.size) := Lib.hid (hR1.lt _ (by simp [rfoot]))
      clear hR1 hF1 HCV
      go_wp2_with fail
      all_goals (
        refine (rnext6_at (HRR.out _ _ _ HF1.out ?h1 ?h2)).mono ?_
        case h1 => omega
        case h2 => omega
        rintro e w2 ⟨x1, r1, s1, rfl, hx1, hA2, hF2, hP1⟩
        have HF2 : Hid (Fr [w1.heap.size] w1 w2) := (((Fr.refl _ _).alloc _).weak).trans hF2
        have HA2 := Lib.hid hA2
        have HP1 := Lib.hid hP1
        clear hA2 hF2 hP1
        go_wp2_with fail
        refine (rnext6_at HA2.out).mono ?_
        rintro e w3 ⟨x2, r2, s2, rfl, hx2, hA3, hF3, hP2⟩
        have HF3 : Hid (Fr [w1.heap.size] w1 w3) := HF2.out.trans hF3
        have HA3 := Lib.hid hA3
        have HP2 := Lib.hid hP2
        have hsg := wrap_sgn hx2.1 hx2.2
        obtain ⟨h2', hh2⟩ : ∃ h2', h2' = sgn x2 := ⟨_, rfl⟩
        rw [← hh2] at hsg
        have HH2 := Lib.hid hh2
        clear hA3 hF3 hP2 hh2
        go_wp2_with fail
        refine (rnext6_at HA3.out).mono ?_
        rintro e w4 ⟨x3, r3, s3, rfl, hx3, hA4, hF4, hP3⟩
        have HF4 : Hid (Fr [w1.heap.size] w1 w4) := HF3.out.trans hF4
        have HX3 := Lib.hid (heads3 HP1.out HP2.out hP3)
        obtain ⟨hx31, hx32⟩ := hx3
        obtain ⟨m, hm3⟩ : ∃ m : Nat, x3 = (m : Int) := ⟨x3.toNat, by omega⟩
        subst hm3
        have hlen : r3.length ≤ 1048576 := by
          have := HL.out
          rcases HX3.out with ⟨e, -⟩ | ⟨e, -, -⟩
          · have := rdNs_len 3 _ _ _ e
            simp at this
            omega
          · have a1 := hP3.len
            have a2 := HP2.out.len
            have a3 := HP1.out.len
            simp at a3
            omega
        have HOB := Lib.hid (robjects6 hA4 m (by omega) hlen (decC (bs.drop 4) = none) (by
          intro e
          rcases HX3.out with ⟨e3, -⟩ | ⟨e3, -, -⟩
          · unfold decC
            rw [e3]
            simp only [List.getD_cons_zero, List.getD_cons_succ]
            rw [show ((m : Int)).toNat = m by simp, e]
          · unfold decC
            rw [e3]) (by
          intro e
          rcases HX3.out with ⟨-, e3⟩ | ⟨e3, -, -⟩
          · rw [e] at e3; cases e3
          · unfold decC
            rw [e3]))
        clear hA4 hF4 hP3
        go_wp2_with fail
        refine HOB.out.mono ?_
        rintro e w5 ⟨k5, v5, its, r5, s5, rfl, hO, hkn⟩
        obtain ⟨vo, vc, rfl⟩ := row_shape' hO.row
        obtain ⟨ra, rc, hrr, -, hrc, -⟩ := hO.at_.ex
        have p0 := cell_of_heap (o := 0) hrr rfl
        have p1 := cell_of_heap (o := 1) hrr rfl
        have HO := Lib.hid hO
        have HF5 : Hid (Fr [w1.heap.size] w1 w5) := HF4.out.trans' hO.fr (fun _ _ e => e) (fun _ _ e => e)
        have HFW : Hid (Fr [] w w5) := HF1.out.trans' HF5.out (fun _ _ e => e) (fun q hq e => by simp at e; have := HLT.out; omega)
        have HKN := Lib.hid hkn
        clear hO hrr hkn
        cases s5
        · obtain ⟨-, hs3, hk5, hrd⟩ : false = false ∧ s3 = false ∧ its.length = k5 ∧ rdObs k5 r3 = some (obsOf its, r5) := by
            rcases HO.out.st with h | h
            · exact h
            · cases h.1
          have hDC : decC (bs.drop 4) = some ((x1, sgn x2, obsOf its), r5) := by
            rcases HX3.out with ⟨e, -⟩ | ⟨-, -, e⟩
            · unfold decC
              rw [e]
              simp only [List.getD_cons_zero, List.getD_cons_succ]
              rw [show ((m : Int)).toNat = m by simp, ← HKN.out rfl, hrd]
            · rw [hs3] at e; cases e
          have HDC := Lib.hid hDC
          clear hs3 hk5 hrd hDC
          cases r5 with
          | nil =>
            have HDI : Hid (decI bs = some (x1, h2', obsOf its)) := Lib.hid (by
              unfold decI
              rw [HQ.out, HDC.out]
              simp [HH2.out])
            have HBD := Lib.hid (dec_bd HB.out HDI.out)
            have hR5 : RefAt w5 w.heap.size ⟨n, [], 0, 0⟩ (.slice none 0 0) := HR1.out.fr HF5.out (fun q hq => by simp [rfoot, Value.ownBlock] at hq ⊢; have := HLT.out; omega)
            have hin : ∀ o ∈ its, o.key ∈ obsOf its := fun o ho => List.mem_map_of_mem ho
            have hil : its.length ≤ 43690 := by
              have h3 := HBD.out.2.2.2
              have := HL.out
              simp [obsOf] at h3
              omega
            have hG4 : G4 w5 vo (noPlace its) := ⟨row_rowAt HO.out.row, fun o ho => by
              obtain ⟨p, hp, rfl⟩ := List.mem_map.1 ho
              exact (HO.out.own p hp).ok, fun o ho => by
              obtain ⟨p, hp, rfl⟩ := List.mem_map.1 ho
              exact (HO.out.own p hp).inn⟩
            have hB4 : B4 (noPlace its) := ⟨by simp [noPlace]; omega, fun o ho => by
              obtain ⟨p, hp, rfl⟩ := List.mem_map.1 ho
              exact Nat.le_trans (HO.out.own p hp).2 (by decide), fun o ho => by
              obtain ⟨p, hp, rfl⟩ := List.mem_map.1 ho
              exact (HBD.out.2.2.1 _ (hin p hp)).2, fun o ho => by
              obtain ⟨p, hp, rfl⟩ := List.mem_map.1 ho
              exact (HBD.out.2.2.1 _ (hin p hp)).1⟩
            have hld := rload_any (cap := vc) hR5 h1 h2 (noPlace its) hG4 hB4 x1 h2' HBD.out.1 HBD.out.2.1.1 HBD.out.2.1.2
            rw [show (noPlace its).length = its.length by simp [noPlace], show obsOf ((noPlace its).map Prod.fst) = obsOf its by simp [noPlace, obsOf]] at hld
            have HLD := Lib.hid hld
            have hc := loadE_012 n (obsOf its) x1 h2'
            have HDE : Hid (decE n bs = if loadE n (obsOf its) x1 h2' = 0 then 0 else if loadE n (obsOf its) x1 h2' = 2 then 2 else 3) := Lib.hid (by unfold decE; rw [HDI.out])
            clear hR5 hin hil hG4 hB4 hld
            go_wp2_with fail
            refine HLD.out.mono ?_
            rintro e w6 ⟨r', ⟨rfl, lv', hR6, hF6, -⟩, hcase⟩
            have HF6 : Hid (Fr [] w w6) := HFW.out.trans' hF6 (fun _ _ e => e) (fun q hq e => by simp [rfoot, Value.ownBlock] at e; omega)
            have HR6 := Lib.hid hR6
            have HCS := Lib.hid hcase
            simp only at HDE HCS ⊢
            generalize hE : loadE n (obsOf its) x1 h2' = E at *
            have HE := Lib.hid hE
            clear hR6 hF6 hcase HLD hE
            rcases hc with rfl | rfl | rfl
            · go_wp2_with fail
              go_ret2
              rcases HCS.out with ⟨-, l, rfl, ha⟩ | ⟨e, -⟩
              · exact .inl ⟨x1, h2', obsOf its, w.heap.size, l, lv', HDI.out, HE.out, rfl, ha, HR6.out, HF6.out⟩
              · exact absurd rfl e
            · go_wp2_with fail
              go_ret2
              exact .inr ⟨by rw [HDE.out]; decide, by rw [HDE.out]; rfl, HF6.out⟩
            · go_wp2_with fail
              go_ret2
              exact .inr ⟨by rw [HDE.out]; decide, by rw [HDE.out]; rfl, HF6.out⟩
          | cons y r5 =>
            have HNO : Hid (decE n bs = 3) := by
              have : decI bs = none := by
                unfold decI
                rw [HQ.out, HDC.out]
                simp
              exact Lib.hid (by unfold decE; rw [this])
            have hpos : 0 < ((y :: r5).length : Int) := by simp <;> omega
            generalize (y :: r5).length = z at *
            go_wp2_with fail
            go_ret2
            exact .inr ⟨by rw [HNO.out]; decide, by rw [HNO.out]; rfl, HFW.out⟩
        · have HNO : Hid (decE n bs = 3) := by
            have hDC : decC (bs.drop 4) = none := by
              rcases HO.out.st with h | h
              · cases h.1
              · exact h.2
            have : decI bs = none := by
              unfold decI
              rw [HQ.out, hDC]
            exact Lib.hid (by unfold decE; rw [this])
          go_wp2_with fail
          go_ret2
          exact .inr ⟨by rw [HNO.out]; decide, by rw [HNO.out]; rfl, HFW.out⟩)
    · have HNO : Hid (decE n bs = 3) := by
        have : decI bs = none := by
          unfold decI
          rw [decQ_C, if_neg hmk]
        exact Lib.hid (by unfold decE; rw [this])
      rw [decide_eq_false hmk] at hm
      clear hmk
      go_enter Tryz.func10, Tryz.ntmps10
      go_wp2_with fail
      refine (rnew n _ h1 h2).mono ?_
      rintro e w1 ⟨rfl, hR1, hF1⟩
      have HF1 := Lib.hid hF1
      have hcv := fun c => HCV.out w1 c HF1.out
      clear hR1 hF1 HCV
      go_wp2_with fail
      all_goals go_ret2
      all_goals exact .inr ⟨by rw [HNO.out]; decide, by rw [HNO.out]; rfl, HF1.out⟩
end Go.Proofs.YtfhhjdfdfbelgaaGreatDoor
