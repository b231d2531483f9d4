/- scan: the document's Assign. -/
import Derived.Test.YtomcfjckhajhmaaScnRef
import Derived.Test.YtomcfjckhajhmaaScnOrder
namespace Go.Proofs.Ytomcfjckhajhmaa
open Go.RowKit

set_option maxRecDepth 100000 in
set_option maxHeartbeats 4000000 in
theorem r14_Assign_no (la : Option Addr) (lc n : Nat) (L : List Iv) (r : Int) (w : World) (hL : IvM w la L) (hn : L.length = n) (hnn : n < 1099511627776 * 8) (hno : r < 1 ∨ 8 < r ∨ okL L = false) : Calls Try.prog 11 #[.slice la n lc, .int .i64 r] w (AsgNo w) := by
  have hb : (decide (1 ≤ r ∧ r ≤ 8) && okL L) = false := by
    rcases hno with h | h | h
    · rw [decide_eq_false (by omega)]; rfl
    · rw [decide_eq_false (by omega)]; rfl
    · rw [h]; simp
  have hv := r14_right la lc n L r w hL hn hnn
  rw [hb] at hv
  have HV := Lib.hid hv
  clear hv hb hno hL
  go_enter Try.func11, Try.ntmps11
  go_wp2_with (go_at_call 16; refine HV.out.mono ?_; rintro e w1 ⟨rfl, hF⟩; have HF := Lib.hid hF; clear hF)
  go_ret3
  exact ⟨rfl, HF.out⟩
/-- what one more interval finds -/
theorem ref_round {L : List Iv} {n r k : Nat} {ys : List Nat} {s : St} (hn : L.length = n) (nd : L.Pairwise (fun a b => a.v ≠ b.v)) (hO : Ord L n ys) (hRu : Run r ((ys.map (getI L)).take k) s) (hk : k < n) :
    ∃ c i, ys[k]? = some c ∧ c < n ∧ L[c]? = some i ∧ (ys.map (getI L)).take (k + 1) = (ys.map (getI L)).take k ++ [i] ∧ s.cells ≤ n ∧ s.hold.length = r ∧ (∀ (q : Nat) (y : Iv), s.hold[q]? = some (some y) → y.v ≠ i.v) ∧ ∀ (q q' : Nat) (x y : Iv), s.hold[q]? = some (some x) → s.hold[q']? = some (some y) → q ≠ q' → x.v ≠ y.v := by
  have hyl : k < ys.length := by rw [hO.len]; exact hk
  have hS := sorted3 hn nd hO.perm hO.so
  have hm := List.mem_range.1 (hO.perm.mem_iff.1 (List.getElem_mem hyl))
  have hg := hS.good.take k
  have hI := hRu.inv hg
  have hy : ys[k]? = some ys[k] := List.getElem?_eq_getElem hyl
  have hx : (ys.map (getI L))[k]? = some (getI L ys[k]) := by rw [List.getElem?_map, hy]; rfl
  have ht : (ys.map (getI L)).take (k + 1) = (ys.map (getI L)).take k ++ [getI L ys[k]] := by rw [List.take_add_one, hx]; rfl
  refine ⟨ys[k], getI L ys[k], hy, hm, getI_at (by omega), ht, ?_, hI.len, fun q y hq => ?_, fun q q' x y hq hq' hne e => ?_⟩
  · have h1 := hI.cnt
    have h2 : ((ys.map (getI L)).take k).length ≤ n := by simp; omega
    omega
  · have hg2 := hS.good.take (k + 1)
    rw [ht] at hg2
    exact hg2.ne (hI.held q y hq).1
  · have e2 := hg.inj (hI.held q x hq).1 (hI.held q' y hq').1 e
    subst e2
    exact hne (hI.inj hq hq')
set_option maxRecDepth 100000 in
set_option maxHeartbeats 16000000 in
theorem r14_Assign_yes (la : Option Addr) (lc n : Nat) (L : List Iv) (r : Nat) (w : World) (hL : IvM w la L) (hn : L.length = n) (hnn : n < 1099511627776 * 8) (hr : 1 ≤ r ∧ r ≤ 8) (hok : okL L = true) : Calls Try.prog 11 #[.slice la n lc, .int .i64 r] w (AsgYes L r n w) := by
  have hv := r14_right la lc n L r w hL hn hnn
  rw [show (decide (1 ≤ (r : Int) ∧ (r : Int) ≤ 8) && okL L) = true by rw [hok, decide_eq_true (by omega)]; rfl] at hv
  have HV := Lib.hid hv
  have hnd : L.Pairwise (fun a b => a.v ≠ b.v) := by
    have hok2 := hok
    unfold okL at hok2
    simp only [Bool.and_eq_true, decide_eq_true_eq] at hok2
    exact List.pairwise_map.1 hok2.2
  obtain ⟨Z, HZ, hmp⟩ := makePl L n hn hnn
  have hmb := fun W => makeNn r (by omega) W
  have HL := Lib.hid hL
  have HN := Lib.hid hn
  have HND := Lib.hid hnd
  have HOR := Lib.hid (fun (W : World) (hF : Fr [] w W) => r14_order la lc n L W (hL.fr hF) hn hnn hnd)
  clear hL hn hnd hok hv
  go_enter Try.func11, Try.ntmps11
  go_wp2_with (go_at_call 16; refine HV.out.mono ?_; rintro e w1 ⟨rfl, hF⟩; have HF1 := Lib.hid hF; clear hF)
  obtain ⟨W0, hW0⟩ : ∃ W0, W0 = (w1.alloc (.cells Z 31)).alloc (.cells (Array.replicate r (Value.int .i64 0)) 3) := ⟨_, rfl⟩
  rw [← hW0]
  have hP : W0.heap[w1.heap.size]? = some (.cells Z 31 (0, 0)) := by rw [hW0]; exact ((Fr.refl [] (w1.alloc (.cells Z 31))).alloc _).heap (by simp) (heap_new w1 _)
  have hH : W0.heap[w1.heap.size + 1]? = some (.cells (Array.replicate r (Value.int .i64 0)) 3 (0, 0)) := by rw [hW0]; exact heap2_new w1 _ _
  have hFW : Fr [] w W0 := by rw [hW0]; exact HF1.out.trans (((Fr.refl _ _).alloc _).alloc _)
  have hz := HF1.out.size
  obtain ⟨hb, hhb⟩ : ∃ b, b = w1.heap.size + 1 := ⟨_, rfl⟩
  obtain ⟨pb, hpb⟩ : ∃ b, b = w1.heap.size := ⟨_, rfl⟩
  rw [← hhb] at hH ⊢
  rw [← hpb] at hP ⊢
  have hne : pb ≠ hb := by omega
  have hpw : w.heap.size ≤ pb ∧ w.heap.size ≤ hb := by omega
  have HP := Lib.hid hP
  have HH := Lib.hid hH
  have HFW := Lib.hid hFW
  clear hW0 hP hH hFW hz hhb hpb hmp hmb HV HF1
  go_loopw [9] (fun kv wr => ∃ (k : Nat) (cur : Array Value), k ≤ r ∧ kv = .int .i64 k ∧ Hid (wr.heap[hb]? = some (.cells cur 3 (0, 0))) ∧ Hid (cur.size = r) ∧ Hid (∀ j, j < k → cur[j]? = some (.int .i64 (-1))) ∧ Hid (Fr [hb] W0 wr)) (fun kv _ => r - (RowKit.intOf kv).toNat)
  case atStart => exact ⟨0, _, Nat.zero_le _, rfl, HH, Lib.hid (by simp), Lib.hid (fun j h => by omega), Fr.refl _ _⟩
  case round =>
    obtain ⟨k, cur, hk, rfl, HK, HS, HM, HF⟩ := hrel
    have hlt := lt_of_heap HK.out
    by_cases hkr : k < r
    · have k0 : (0 : Int) ≤ (k : Int) := by omega
      have k1 : (k : Int) < (r : Int) := by omega
      obtain ⟨v, hv⟩ : ∃ v, cur[k]? = some v := ⟨_, Array.getElem?_eq_getElem (by rw [HS.out]; exact hkr)⟩
      have c0 : wr.cell? ⟨hb, k, none⟩ = some v := cell_of_heap HK.out hv
      have f0 : wr.frozen? ⟨hb, k, none⟩ = false := frozen_of_heap HK.out
      clear hv
      go_wp2_with fail
      go_roundw
      case rel =>
        refine ⟨k + 1, cur.setIfInBounds k (.int .i64 (-1)), by omega, by go_num, Lib.hid (heap_setCell_same HK.out _), Lib.hid (by simpa using HS.out), Lib.hid (fun j hj => ?_), Lib.hid (Fr.setCell HF.out (fun _ => by simp) _)⟩
        rw [Array.getElem?_setIfInBounds]
        by_cases e : k = j
        · subst e
          rw [if_pos rfl, if_pos (by rw [HS.out]; exact hkr)]
        · rw [if_neg e]
          exact HM.out j (by omega)
      case measure => simp [RowKit.intOf]; omega
    · have hke : k = r := by omega
      have k1 : ¬ (k : Int) < (r : Int) := by omega
      have HC0 : Hid (HC L (List.replicate r none) r cur) := Lib.hid ⟨by simp, HS.out, fun q hq => Or.inl ⟨by rw [List.getElem?_replicate, if_pos hq], HM.out q (by omega)⟩⟩
      have HP1 := Lib.hid (HF.out.heap (by simpa using hne) HP.out)
      have HFW1 : Hid (Fr [] w wr) := Lib.hid (HFW.out.trans' HF.out (fun _ _ e => e) (fun j hj e => by simp only [List.mem_cons, List.not_mem_nil, or_false] at e; omega))
      have hpl := lt_of_heap HP1.out
      clear hke HS HM HP HH
      go_wp2_with (go_at_call 17; refine (HOR.out _ HFW1.out).mono ?_; rintro e w2 ⟨ao, cap, rfl, ys, ho, hr2⟩; have HO := Lib.hid ho; have HR2 := Lib.hid hr2; have hF2 := hr2.fr; have HP2 := Lib.hid (hF2.heap (by simp) HP1.out); have HK2 := Lib.hid (hF2.heap (by simp) HK.out); have HFW2 := Lib.hid (HFW1.out.trans hF2); clear ho hr2 hF2)
      go_loopw [10, 12] (fun cv iv wr => ∃ (k : Nat) (s : St) (pc hc : Array Value), k ≤ n ∧ iv = .int .i64 k ∧ cv = .int .i64 (s.cells : Int) ∧ Hid (Run r ((ys.map (getI L)).take k) s) ∧ Hid (wr.heap[pb]? = some (.cells pc 31 (0, 0))) ∧ Hid (PlC pc L s.out) ∧ Hid (wr.heap[hb]? = some (.cells hc 3 (0, 0))) ∧ Hid (HC L s.hold r hc) ∧ Hid (Fr [pb, hb] w2 wr)) (fun _ iv _ => n - (RowKit.intOf iv).toNat)
      case atStart => exact ⟨0, startS r, Z, cur, Nat.zero_le _, rfl, rfl, Lib.hid Run.nil, HP2, HZ, HK2, HC0, Fr.refl _ _⟩
      case round =>
        obtain ⟨k, s, pc, hc, hkn, rfl, rfl, HRU, HPB, HPC, HHB, HHC, HFR⟩ := hrel
        have HFRW : Hid (Fr [] w wr) := Lib.hid (HFW2.out.trans' HFR.out (fun _ _ e => e) (fun j hj e => by simp only [List.mem_cons, List.not_mem_nil, or_false] at e; omega))
        by_cases hlt2 : k < n
        · obtain ⟨c, i, hyc, hcn, hLc, htk, hcl, hsl, hnv, hdv⟩ := ref_round HN.out HND.out HO.out HRU.out hlt2
          -- ROUND BEGINS
          obtain ⟨g, rfl⟩ : ∃ g, ao = some ⟨g, 0, none⟩ := by
            rcases HR2.out.row.2 with ⟨hv, h0⟩ | ⟨g, cap', cur', hv, -⟩
            · omega
            · exact ⟨g, (Value.slice.inj hv).1⟩
          have hng := HR2.out.new g rfl
          have c5 := HFR.out.cell (p := ⟨g, 0 + k, none⟩) (by simp only [List.mem_cons, List.not_mem_nil, or_false]; omega) (nrow_take HR2.out 0 k (.int .i64 (c : Int)) (by rw [List.drop_zero, nums_vals, List.getElem?_map, hyc]; rfl))
          rw [Nat.zero_add] at c5
          have HTK := Lib.hid htk
          have HLC := Lib.hid hLc
          have HNV := Lib.hid hnv
          have HDV := Lib.hid hdv
          have HSL := Lib.hid hsl
          have HCL := Lib.hid hcl
          have HIV := Lib.hid (HL.out.fr HFRW.out)
          have k0 : (0 : Int) ≤ (k : Int) := by omega
          have k1' : (k : Int) < (n : Int) := by omega
          have cc0 : (0 : Int) ≤ (c : Int) := by omega
          have cc1 : (c : Int) < (n : Int) := by omega
          have wrr : IntKind.i64.wrap ((r : Int) - 1) = (r : Int) - 1 := by rw [IntKind.wrap_i64]; omega
          clear hyc htk hLc hnv hdv hcl hng
          go_wp2_with fail
          go_loopw [14, 15] (fun fv kv wr' => ∃ (j : Nat) (fr : Int) (hc' : Array Value), j ≤ r ∧ kv = .int .i64 ((j : Int) - 1) ∧ fv = .int .i64 fr ∧ Hid (FreeAt (relH i.f s.hold) r j fr) ∧ Hid (wr'.heap[hb]? = some (.cells hc' 3 (0, 0))) ∧ Hid (HC L (relF i.f s.hold j) r hc') ∧ Hid (Fr [hb] wr wr')) (fun _ kv _ => (RowKit.intOf kv + 1).toNat)
          case atStart => exact ⟨r, -1, hc, Nat.le_refl _, rfl, rfl, Lib.hid (Or.inl ⟨rfl, fun q h1 h2 => by omega⟩), HHB, Lib.hid (by rw [show relF i.f s.hold r = s.hold by rw [← HSL.out]; exact relF_all _ _]; exact HHC.out), Fr.refl _ _⟩
          case round =>
            obtain ⟨j, fr, hc', hj, rfl, rfl, HFA, HHB2, HHC2, HFR2⟩ := hrel
            have hlb2 := lt_of_heap HHB2.out
            have HIV2 := Lib.hid (HL.out.fr (HFRW.out.trans' HFR2.out (S'' := []) (fun _ _ e => e) (fun j hj e => by simp only [List.mem_cons, List.not_mem_nil, or_false] at e; omega)))
            by_cases hj0 : j = 0
            · subst hj0
              have HHC3 : Hid (HC L (relH i.f s.hold) r hc') := Lib.hid (by have h9 := HHC2.out; rw [relF_zero] at h9; exact h9)
              have HPB2 := Lib.hid (HFR2.out.heap (by simpa using hne) HPB.out)
              have HFR3 : Hid (Fr [pb, hb] w2 wr) := Lib.hid (HFR.out.trans (HFR2.out.mono (fun _ _ e => by simp only [List.mem_cons, List.not_mem_nil, or_false] at e ⊢; omega)))
              obtain ⟨u0, u1, u2⟩ := HPC.out.at_ c i HLC.out
              have g0 := cell_of_heap HPB2.out u0
              have g1 := cell_of_heap HPB2.out u1
              have g2 := cell_of_heap HPB2.out u2
              have f0 : wr.frozen? ⟨pb, c * 3, none⟩ = false := frozen_of_heap HPB2.out
              have f1 : wr.frozen? ⟨pb, c * 3 + 1, none⟩ = false := frozen_of_heap HPB2.out
              have f2 : wr.frozen? ⟨pb, c * 3 + 2, none⟩ = false := frozen_of_heap HPB2.out
              have hlp2 := lt_of_heap HPB2.out
              clear u0 u1 u2
              rcases freeAt_step HSL.out HFA.out with ⟨q, rfl, hqr, hst⟩ | ⟨rfl, hfull⟩
              · obtain ⟨v, hv⟩ : ∃ v, hc'[q]? = some v := ⟨_, Array.getElem?_eq_getElem (by rw [HHC3.out.size]; exact hqr)⟩
                have d0 : wr.cell? ⟨hb, q, none⟩ = some v := cell_of_heap HHB2.out hv
                have df : wr.frozen? ⟨hb, q, none⟩ = false := frozen_of_heap HHB2.out
                have q0 : (0 : Int) ≤ (q : Int) := by omega
                have q1 : (q : Int) < (r : Int) := by omega
                have q2 : decide ((0 : Int) ≤ (q : Int)) = true := by simp
                have HST := Lib.hid hst
                have HWI : Hid (IntKind.i64.wrap ((k : Int) + 1) = (k : Int) + 1) := Lib.hid (by rw [IntKind.wrap_i64]; omega)
                clear hv hst
                go_wp2_with fail
                go_roundw
                case rel =>
                  refine ⟨k + 1, ⟨(relH i.f s.hold).set q (some i), updO s.out i.v (0, q), s.cells⟩, _, _, by omega, by go_num, rfl, Lib.hid (by rw [HTK.out]; exact Run.snoc HRU.out HST.out), Lib.hid (heap_put3 (heap_off HPB2.out _ _ hne) _ _ _ _), Lib.hid (HPC.out.put HND.out HLC.out 0 q), Lib.hid (heap_off (heap_off (heap_off (heap_setCell_same HHB2.out _) _ _ hne.symm) _ _ hne.symm) _ _ hne.symm), Lib.hid (HHC3.out.put hqr HLC.out), Lib.hid ?_⟩
                  refine Fr.setCell (Fr.setCell (Fr.setCell (Fr.setCell HFR3.out ?_ _) ?_ _) ?_ _) ?_ _ <;> (intro _; simp)
                case measure => simp [RowKit.intOf]; omega
              · have HFL := Lib.hid hfull
                clear hfull
                go_wp2_with fail
                go_loopw [16, 17, 18] (fun wv av kv wr' => ∃ (k' : Nat) (wi at_ : Int), k' ≤ r ∧ kv = .int .i64 k' ∧ wv = .int .i64 wi ∧ av = .int .i64 at_ ∧ Hid (WorstAt L (relH i.f s.hold) i c k' wi at_) ∧ Hid (Fr [] wr wr')) (fun _ _ kv _ => r - (RowKit.intOf kv).toNat)
                case atStart => exact ⟨0, (c : Int), -1, Nat.zero_le _, rfl, rfl, rfl, Lib.hid (Or.inl ⟨rfl, rfl, fun q y h => by omega⟩), Fr.refl _ _⟩
                case round =>
                  obtain ⟨k', wi, at_, hk', rfl, rfl, rfl, HW, HFR4⟩ := hrel
                  by_cases hkr : k' < r
                  · obtain ⟨y, hy⟩ := HFL.out k' (by rw [HSL.out]; exact hkr)
                    obtain ⟨ky, hky, hcy⟩ : ∃ ky : Nat, L[ky]? = some y ∧ hc'[k']? = some (.int .i64 (ky : Int)) := by
                      rcases HHC3.out.at_ k' hkr with ⟨h1, -⟩ | ⟨ky, y', h1, h2, h3⟩
                      · rw [hy] at h1; cases h1
                      · rw [hy] at h1; cases h1; exact ⟨ky, h2, h3⟩
                    obtain ⟨wn, wv, hwn, hwL, hww, hdif⟩ : ∃ (wn : Nat) (wv : Iv), wi = (wn : Int) ∧ L[wn]? = some wv ∧ ((at_ = -1 ∧ wv = i) ∨ ∃ q : Nat, at_ = (q : Int) ∧ (relH i.f s.hold)[q]? = some (some wv)) ∧ y.v ≠ wv.v := by
                      rcases HW.out with ⟨h1, h2, -⟩ | ⟨q, kq, x, h1, h2, h3, h4, h5, h6, -⟩
                      · exact ⟨c, i, h2, HLC.out, Or.inl ⟨h1, rfl⟩, HNV.out k' y (relH_some.1 hy).1⟩
                      · exact ⟨kq, x, h2, h5, Or.inr ⟨q, h1, h4⟩, HDV.out k' q y x (relH_some.1 hy).1 (relH_some.1 h4).1 (by omega)⟩
                    subst hwn
                    obtain ⟨gl, ol, rfl, a0, a1, a2⟩ := (HIV2.out.fr HFR4.out) ky y hky
                    obtain ⟨gl', ol', hee, b0, b1, b2⟩ := (HIV2.out.fr HFR4.out) wn wv hwL
                    cases hee
                    have d0 := HFR4.out.cell (p := ⟨hb, k', none⟩) (by simp) (cell_of_heap HHB2.out hcy)
                    have kk0 : (0 : Int) ≤ (k' : Int) := by omega
                    have kk1 : (k' : Int) < (r : Int) := by omega
                    have ky0 : (0 : Int) ≤ (ky : Int) := by omega
                    have ky1 : (ky : Int) < (n : Int) := by have := (List.getElem?_eq_some_iff.1 hky).1; rw [HN.out] at this; omega
                    have wn0 : (0 : Int) ≤ (wn : Int) := by omega
                    have wn1 : (wn : Int) < (n : Int) := by have := (List.getElem?_eq_some_iff.1 hwL).1; rw [HN.out] at this; omega
                    have HMO := Lib.hid (fun h => HW.out.more hy hww h)
                    have HNX := Lib.hid (fun h => HW.out.next hy hky hww h)
                    clear hcy hky hwL hww hy
                    by_cases ht : wv.t < y.t
                    · have t1 : decide (wv.t < y.t) = true := by simpa using ht
                      have hlt9 := HNX.out (by unfold endLt; omega)
                      have HLT := Lib.hid hlt9
                      clear hlt9
                      go_wp2_with fail
                      go_quiet (fail)
                      go_wp2_with fail
                      go_roundw
                      case rel => exact ⟨k' + 1, _, _, by omega, by go_num, rfl, rfl, HLT, HFR4.out.drewN _⟩
                      case measure => simp [RowKit.intOf]; omega
                    · have t1 : decide (wv.t < y.t) = false := by simpa using ht
                      by_cases hte : y.t = wv.t
                      · have t2 : (y.t == wv.t) = true := by simpa using hte
                        by_cases hv : wv.v < y.v
                        · have t3 : decide (wv.v < y.v) = true := by simpa using hv
                          have hlt9 := HNX.out (by unfold endLt; omega)
                          have HLT := Lib.hid hlt9
                          rw [hte] at a2 t1
                          clear hlt9 t2 hte ht
                          go_wp2_with fail
                          go_quiet (fail)
                          go_wp2_with fail
                          go_roundw
                          case rel => exact ⟨k' + 1, _, _, by omega, by go_num, rfl, rfl, HLT, HFR4.out.drewN _⟩
                          case measure => simp [RowKit.intOf]; omega
                        · have t3 : decide (wv.v < y.v) = false := by simpa using hv
                          have hlt9 := HMO.out (by unfold endLt; omega)
                          have HLT := Lib.hid hlt9
                          rw [hte] at a2 t1
                          clear hlt9 t2 hte ht
                          go_wp2_with fail
                          go_quiet (fail)
                          go_wp2_with fail
                          refine ⟨?_, ?measure⟩
                          refine ⟨_, _, _, _, _, _, _, _, _, _, _, _, _, _, _, _, _, _, _, _, _, _, _, _, _, _, _, _, _, _, _, _, _, _, _, _, _, _, _, _, _, _, _, _, _, _, _, _, _, _, _, _, ?rel, rfl⟩
                          case rel => exact ⟨k' + 1, _, _, by omega, by go_num, rfl, rfl, HLT, HFR4.out.drewN _⟩
                          case measure => simp [RowKit.intOf]; omega
                      · have t2 : (y.t == wv.t) = false := by simpa using hte
                        have t4 : decide (y.t = wv.t) = false := by simpa using hte
                        have hlt9 := HMO.out (by unfold endLt; omega)
                        have HLT := Lib.hid hlt9
                        clear hlt9
                        go_wp2_with fail
                        go_quiet (fail)
                        go_wp2_with fail
                        refine ⟨?_, ?measure⟩
                        refine ⟨_, _, _, _, _, _, _, _, _, _, _, _, _, _, _, _, _, _, _, _, _, _, _, _, _, _, _, _, _, _, _, _, _, _, _, _, _, _, _, _, _, _, _, _, _, _, _, _, _, _, _, _, ?rel, rfl⟩
                        case rel => exact ⟨k' + 1, _, _, by omega, by go_num, rfl, rfl, HLT, HFR4.out.drewN _⟩
                        case measure => simp [RowKit.intOf]; omega
                  · have hke : k' = r := by omega
                    subst hke
                    have kk1 : ¬ (k' : Int) < (k' : Int) := by omega
                    have HPB4 := Lib.hid (HFR4.out.heap (by simp) HPB2.out)
                    have HHB4 := Lib.hid (HFR4.out.heap (by simp) HHB2.out)
                    have HFR5 : Hid (Fr [pb, hb] w2 wr) := Lib.hid (HFR3.out.trans HFR4.out.weak)
                    have g0 := HFR4.out.cell (by simp) g0
                    have g1 := HFR4.out.cell (by simp) g1
                    have g2 := HFR4.out.cell (by simp) g2
                    have f0 : wr.frozen? ⟨pb, c * 3, none⟩ = false := frozen_of_heap HPB4.out
                    have f1 : wr.frozen? ⟨pb, c * 3 + 1, none⟩ = false := frozen_of_heap HPB4.out
                    have f2 : wr.frozen? ⟨pb, c * 3 + 2, none⟩ = false := frozen_of_heap HPB4.out
                    have hlp4 := lt_of_heap HPB4.out
                    have hlh4 := lt_of_heap HHB4.out
                    have wc : IntKind.i64.wrap ((s.cells : Int) + 1) = (s.cells : Int) + 1 := by have := HCL.out; rw [IntKind.wrap_i64]; omega
                    rcases HW.out with ⟨rfl, rfl, hmx⟩ | ⟨q, kq, x, rfl, rfl, hqr, hxq, hkq, hix, hmx⟩
                    · have HST := Lib.hid (Step.self (s := s) (i := i) HFL.out (fun q y hq => hmx q y (by have := (List.getElem?_eq_some_iff.1 hq).1; rw [relH_len, HSL.out] at this; exact this) hq))
                      clear hmx
                      go_wp2_with fail
                      go_roundw
                      case rel =>
                        refine ⟨k + 1, ⟨relH i.f s.hold, updO s.out i.v (3, s.cells), s.cells + 1⟩, _, _, by omega, by go_num, by go_num, Lib.hid (by rw [HTK.out]; exact Run.snoc HRU.out HST.out), Lib.hid (heap_put3 HPB4.out _ _ _ _), Lib.hid (HPC.out.put HND.out HLC.out 3 s.cells), Lib.hid (heap_off (heap_off (heap_off HHB4.out _ _ hne.symm) _ _ hne.symm) _ _ hne.symm), HHC3, Lib.hid ?_⟩
                        refine Fr.setCell (Fr.setCell (Fr.setCell HFR5.out ?_ _) ?_ _) ?_ _ <;> (intro _; simp)
                      case measure => simp [RowKit.intOf]; omega
                    · have HST := Lib.hid (Step.other (s := s) (i := i) q x HFL.out hxq hix (fun q' y hq' => hmx q' y (by have := (List.getElem?_eq_some_iff.1 hq').1; rw [relH_len, HSL.out] at this; exact this) hq'))
                      obtain ⟨v, hv⟩ : ∃ v, hc'[q]? = some v := ⟨_, Array.getElem?_eq_getElem (by rw [HHC3.out.size]; exact hqr)⟩
                      have d0 : wr.cell? ⟨hb, q, none⟩ = some v := cell_of_heap HHB4.out hv
                      have df : wr.frozen? ⟨hb, q, none⟩ = false := frozen_of_heap HHB4.out
                      have q0 : (0 : Int) ≤ (q : Int) := by omega
                      have q1 : (q : Int) < (k' : Int) := by omega
                      have q2 : decide ((0 : Int) ≤ (q : Int)) = true := by simp
                      have hck : kq ≠ c := fun e => by
                        subst e
                        rw [HLC.out] at hkq
                        cases hkq
                        exact HNV.out q i (relH_some.1 hxq).1 rfl
                      obtain ⟨u0, u1, u2⟩ := HPC.out.at_ kq x hkq
                      have e0 := cell_of_heap HPB4.out u0
                      have e1 := cell_of_heap HPB4.out u1
                      have e2 := cell_of_heap HPB4.out u2
                      have h0 : wr.frozen? ⟨pb, kq * 3, none⟩ = false := frozen_of_heap HPB4.out
                      have h1 : wr.frozen? ⟨pb, kq * 3 + 1, none⟩ = false := frozen_of_heap HPB4.out
                      have h2 : wr.frozen? ⟨pb, kq * 3 + 2, none⟩ = false := frozen_of_heap HPB4.out
                      have kq0 : (0 : Int) ≤ (kq : Int) := by omega
                      have kq1 : (kq : Int) < (n : Int) := by have := (List.getElem?_eq_some_iff.1 hkq).1; rw [HN.out] at this; omega
                      have HKQ := Lib.hid hkq
                      have HQR := Lib.hid hqr
                      have n1 : kq * 3 ≠ c * 3 := by omega
                      have n2 : kq * 3 ≠ c * 3 + 1 := by omega
                      have n3 : kq * 3 ≠ c * 3 + 2 := by omega
                      have n4 : kq * 3 + 1 ≠ c * 3 := by omega
                      have n5 : kq * 3 + 1 ≠ c * 3 + 1 := by omega
                      have n6 : kq * 3 + 1 ≠ c * 3 + 2 := by omega
                      have n7 : kq * 3 + 2 ≠ c * 3 := by omega
                      have n8 : kq * 3 + 2 ≠ c * 3 + 1 := by omega
                      have n9 : kq * 3 + 2 ≠ c * 3 + 2 := by omega
                      clear hmx hv u0 u1 u2 hkq hxq hix hck
                      go_wp2_with fail
                      go_roundw
                      case rel =>
                        refine ⟨k + 1, ⟨(relH i.f s.hold).set q (some i), updO (updO s.out i.v (0, q)) x.v (3, s.cells), s.cells + 1⟩, _, _, by omega, by go_num, by go_num, Lib.hid (by rw [HTK.out]; exact Run.snoc HRU.out HST.out), Lib.hid (heap_put3 (heap_put3 (heap_off HPB4.out _ _ hne) _ _ _ _) _ _ _ _), Lib.hid ((HPC.out.put HND.out HLC.out 0 q).put HND.out HKQ.out 3 s.cells), Lib.hid (heap_off (heap_off (heap_off (heap_off (heap_off (heap_off (heap_setCell_same HHB4.out _) _ _ hne.symm) _ _ hne.symm) _ _ hne.symm) _ _ hne.symm) _ _ hne.symm) _ _ hne.symm), Lib.hid (HHC3.out.put HQR.out HLC.out), Lib.hid ?_⟩
                        refine Fr.setCell (Fr.setCell (Fr.setCell (Fr.setCell (Fr.setCell (Fr.setCell (Fr.setCell HFR5.out ?_ _) ?_ _) ?_ _) ?_ _) ?_ _) ?_ _) ?_ _ <;> (intro _; simp)
                      case measure => simp [RowKit.intOf]; omega
            · obtain ⟨q, rfl⟩ : ∃ q, j = q + 1 := ⟨j - 1, by omega⟩
              have eq1 : (((q + 1 : Nat) : Int) - 1) = (q : Int) := by omega
              rw [eq1]
              have q0 : (0 : Int) ≤ (q : Int) := by omega
              have q1 : (q : Int) < (r : Int) := by omega
              have q2 : decide ((0 : Int) ≤ (q : Int)) = true := by simp
              have wq : IntKind.i64.wrap ((q : Int) - 1) = (q : Int) - 1 := by rw [IntKind.wrap_i64]; omega
              have hqh : q < s.hold.length := by rw [HSL.out]; omega
              have hrq : (relF i.f s.hold (q + 1))[q]? = s.hold[q]? := by rw [relF_at _ _ _ _ (by omega), if_pos (by omega)]
              obtain ⟨gl, ol, hla9, a0, a1, a2⟩ := HIV2.out c i HLC.out
              rcases HHC2.out.at_ q (by omega) with ⟨h1, h2⟩ | ⟨kq, x, h1, h2, h3⟩
              · rw [hrq] at h1
                have d0 : wr.cell? ⟨hb, q, none⟩ = some (.int .i64 (-1)) := cell_of_heap HHB2.out h2
                have HFA2 := Lib.hid (HFA.out.empty (by omega) (relH_empty h1))
                have HHC4 : Hid (HC L (relF i.f s.hold q) r hc') := Lib.hid (by rw [relF_same hqh (by rw [relH_empty h1, h1])]; exact HHC2.out)
                subst hla9
                clear h1 h2 hrq eq1
                go_wp2_with fail
                go_quiet (fail)
                go_wp2_with fail
                go_roundw
                case rel => exact ⟨q, (q : Int), hc', by omega, rfl, rfl, HFA2, Lib.hid HHB2.out, HHC4, HFR2.out.drewN _⟩
                case measure => simp [RowKit.intOf] <;> omega
              · rw [hrq] at h1
                have d0 : wr.cell? ⟨hb, q, none⟩ = some (.int .i64 (kq : Int)) := cell_of_heap HHB2.out h3
                have df : wr.frozen? ⟨hb, q, none⟩ = false := frozen_of_heap HHB2.out
                obtain ⟨gl', ol', hee, b0, b1, b2⟩ := HIV2.out kq x h2
                rw [hla9] at hee
                cases hee
                subst hla9
                have kq0 : (0 : Int) ≤ (kq : Int) := by omega
                have kq1 : (kq : Int) < (n : Int) := by have := (List.getElem?_eq_some_iff.1 h2).1; rw [HN.out] at this; omega
                have kq2 : decide ((0 : Int) ≤ (kq : Int)) = true := by simp
                have kq3 : decide ((kq : Int) < 0) = false := by simp
                have kq4 : ¬ (kq : Int) < 0 := by omega
                by_cases ht : x.t < i.f
                · have t1 : decide (x.t < i.f) = true := by simpa using ht
                  have HFA2 := Lib.hid (HFA.out.empty (by omega) (relH_gone h1 ht))
                  have HHC4 : Hid (HC L (relF i.f s.hold q) r (hc'.setIfInBounds q (.int .i64 (-1)))) := Lib.hid (by rw [relF_drop hqh (relH_gone h1 ht)]; exact HHC2.out.drop (by omega))
                  clear h1 h2 h3 hrq eq1
                  go_wp2_with fail
                  go_quiet (fail)
                  go_wp2_with fail
                  go_roundw
                  case rel => exact ⟨q, (q : Int), _, by omega, rfl, rfl, HFA2, Lib.hid (heap_setCell_same HHB2.out _), HHC4, Lib.hid (Fr.setCell (HFR2.out.drewN _) (fun _ => by simp) _)⟩
                  case measure => simp [RowKit.intOf] <;> omega
                · have t1 : decide (x.t < i.f) = false := by simpa using ht
                  have hrs := relH_some.2 ⟨h1, (by omega : i.f ≤ x.t)⟩
                  have HFA2 := Lib.hid (HFA.out.held hrs)
                  have HHC4 : Hid (HC L (relF i.f s.hold q) r hc') := Lib.hid (by rw [relF_same hqh (by rw [hrs, h1])]; exact HHC2.out)
                  clear h1 h2 h3 hrq eq1 hrs
                  go_wp2_with fail
                  go_quiet (fail)
                  go_wp2_with fail
                  go_roundw
                  case rel => exact ⟨q, fr, hc', by omega, rfl, rfl, HFA2, Lib.hid HHB2.out, HHC4, HFR2.out.drewN _⟩
                  case measure => simp [RowKit.intOf] <;> omega
          -- ROUND ENDS
        · have hke : k = n := by omega
          have k1' : ¬ (k : Int) < (n : Int) := by omega
          have hS := sorted3 HN.out HND.out HO.out.perm HO.out.so
          have hfin : Scanned L r s := ⟨ys.map (getI L), hS.perm, hS.so, by have h9 := HRU.out; rw [hke, List.take_of_length_le (by rw [List.length_map, HO.out.len]; exact Nat.le_refl _)] at h9; exact h9⟩
          have HFN := Lib.hid hfin
          clear hS hfin hke
          go_wp2_with fail
          go_ret3
          exact ⟨pb, s, pc, rfl, HFRW.out, hpw.1, HPB.out, HPC.out, HFN.out⟩
end Go.Proofs.Ytomcfjckhajhmaa
