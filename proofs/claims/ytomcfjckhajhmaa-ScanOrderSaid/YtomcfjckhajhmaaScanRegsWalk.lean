/- ScanRegs: the walk. -/
import Derived.Test.YtomcfjckhajhmaaScanApartWalk
import Derived.Test.YtomcfjckhajhmaaScanEnoughWalk
import Derived.Test.YtomcfjckhajhmaaScanFirstWalk
namespace Go.Proofs.Ytomcfjckhajhmaa
open Go.RowKit

theorem regs_first {K : List Iv} {s : St} (hs : Scanned K 8 s) (hok : okL K = true) (hl : K.length ≤ 7) : s.cells = 0 ∧ ∀ x, x ∈ K → ∃ q, q < K.length ∧ s.out x.v = (0, q) := by
  have hok' := hok
  unfold okL at hok'
  simp only [Bool.and_eq_true, decide_eq_true_eq] at hok'
  have nd := List.pairwise_map.1 hok'.2
  have hc : s.cells = 0 := by
    obtain ⟨S, p, hg, ru⟩ := hs.good nd
    refine ru.enough hg (fun x hx => ?_) (L := K) (fun x hx => p.mem_iff.1 hx) (fun i hi => Nat.le_trans List.countP_le_length (by omega))
    have := List.all_eq_true.1 hok'.1 x (p.mem_iff.1 hx)
    unfold okI at this
    simp at this
    exact this.2
  refine ⟨hc, fun x hx => ?_⟩
  rcases (apart_said hs nd).1 x hx with ⟨q, h1, h2, h3⟩ | ⟨c, h1, -⟩
  · exact ⟨q, h2, h3⟩
  · omega
theorem regs_said {L : List Iv} {r : Nat} {s1 sR : St} (h1 : Scanned L 1 s1) (hR : Scanned L r sR) (hok : okL L = true) (hr : 1 ≤ r) : L.countP (inReg s1) + s1.cells = L.length ∧ (L.length = 0 ∨ 1 ≤ L.countP (inReg s1)) ∧ sR.cells ≤ s1.cells := by
  unfold okL at hok
  simp only [Bool.and_eq_true, decide_eq_true_eq] at hok
  have nd := List.pairwise_map.1 hok.2
  obtain ⟨S, p, hg, ru⟩ := h1.good nd
  obtain ⟨S', p', hg', ru'⟩ := hR.good nd
  have e : S = S' := List.Perm.eq_of_pairwise (le := begLt) (fun a b _ _ => begLt_antisymm) hg.so hg'.so (p.trans p'.symm)
  subst e
  have hI := ru.inv hg
  refine ⟨?_, ?_, ru.less hr ru' hg⟩
  · rw [← p.countP_eq, ← p.length_eq]; exact hI.cnt
  · by_cases h0 : L.length = 0
    · exact Or.inl h0
    · rw [← p.countP_eq]
      exact Or.inr (hI.some_reg (by omega) (by rw [p.length_eq]; omega))
theorem okL_take {L : List Iv} (h : okL L = true) (k : Nat) : okL (L.take k) = true := by
  unfold okL at *
  simp only [Bool.and_eq_true, decide_eq_true_eq] at *
  refine ⟨List.all_eq_true.2 fun x hx => List.all_eq_true.1 h.1 x (List.mem_of_mem_take hx), ?_⟩
  rw [List.map_take]
  exact h.2.sublist (List.take_sublist _ _)
theorem okL_nd {L : List Iv} (h : okL L = true) : L.Pairwise (fun a b => a.v ≠ b.v) := by
  unfold okL at h
  simp only [Bool.and_eq_true, decide_eq_true_eq] at h
  exact List.pairwise_map.1 h.2
set_option maxRecDepth 100000 in
set_option maxHeartbeats 8000000 in
theorem scanRegs_a (la : Option Addr) (lc n : Nat) (L : List Iv) (a : Int) (w : World) (hL : IvM w la L) (hn : L.length = n) (hnn : n < 1099511627776 * 8) (hcap : n ≤ lc) (hbig : ¬ 7 < n) (hokK : okL L = true) (hokL : okL L = true) : Calls Try.prog 8 #[.slice la n lc, .int .i64 a] w (Still (.bool true) w) := by
  obtain ⟨K, hK⟩ : ∃ K, K = L := ⟨_, rfl⟩
  obtain ⟨kn, hkn⟩ : ∃ kn, kn = n := ⟨_, rfl⟩
  have hKl : K.length = n := by rw [hK, hn]
  have hLK : IvM w la K := by rw [hK]; exact hL
  rw [← hK] at hokK
  have v1 : ¬ (7 : Int) < (n : Int) := by omega
  have v2 : decide ((7 : Int) < (n : Int)) = false := by simp; omega
  have v6 : decide (7 < n) = false := by simp; omega
  have HA8 := Lib.hid (fun (W : World) (hF : Fr [] w W) => sc_Assign_yes la lc n K 8 W (hLK.fr hF) hKl (by omega) (by omega) hokK)
  have HA1 := Lib.hid (fun (W : World) (hF : Fr [] w W) => sc_Assign_yes la lc n L 1 W (hL.fr hF) hn hnn (by omega) hokL)
  obtain ⟨r1, hr1, hb2⟩ := mask_nat a 7 (by omega)
  have hr1' : bits .and .i64 a 7 = (r1 : Int) := hr1
  obtain ⟨r, hrr⟩ : ∃ r, r = 1 + r1 := ⟨_, rfl⟩
  have wr1 : IntKind.i64.wrap (1 + (r1 : Int)) = (r : Int) := by rw [IntKind.wrap_i64]; omega
  have hr : 1 ≤ r ∧ r ≤ 8 := by omega
  have HAR := Lib.hid (fun (W : World) (hF : Fr [] w W) => sc_Assign_yes la lc n L r W (hL.fr hF) hn hnn hr hokL)
  have hnd := okL_nd hokL
  clear hr1 hrr hb2
  clear hL hLK
  go_enter Try.func8, Try.ntmps8
  go_wp2_with (first
    | (go_at_call 9; refine (awake14 _).mono ?_; rintro e w1 ⟨rfl, hF⟩; have HF1 := Lib.hid hF; clear hF)
    | (go_at_call 10; refine (HA8.out _ HF1.out).mono ?_; rintro e w2 ⟨pb, s8, cur, rfl, hF, hpb, hcu, hpc, hsc⟩; obtain ⟨hc8, hpl⟩ := regs_first hsc hokK (by omega); rw [hc8]; have HPL := Lib.hid hpl; have HF2 := Lib.hid (HF1.out.trans hF); have HCU := Lib.hid hcu; have HPC := Lib.hid hpc; clear hF hcu hpc hsc hpb hc8 hpl))
  go_loopw [10] (fun iv wr => ∃ j : Nat, j ≤ n ∧ iv = .int .i64 j ∧ Hid (Fr [] w wr) ∧ Hid (Fr [] w2 wr)) (fun iv _ => n - (RowKit.intOf iv).toNat)
  case atStart => exact ⟨0, Nat.zero_le _, rfl, HF2, Fr.refl _ _⟩
  case round =>
    obtain ⟨j, hj, rfl, HF3, HFW⟩ := hrel
    by_cases hjk : j < n
    · obtain ⟨x, hx⟩ : ∃ x, K[j]? = some x := ⟨_, List.getElem?_eq_getElem (by omega)⟩
      obtain ⟨q, hq, ho⟩ := HPL.out x (List.mem_of_getElem? hx)
      have hcu := HFW.out.heap (by simp) HCU.out
      obtain ⟨c0, c1, c2⟩ := HPC.out.at_ j x hx
      have c0 := cell_of_heap hcu c0
      have c1 := cell_of_heap hcu c1
      rw [ho] at c0 c1
      have e1 : (j : Int) < (n : Int) := by omega
      have e2 : (0 : Int) ≤ (j : Int) := by omega
      have e3 : ¬ (n : Int) < (q : Int) := by omega
      have e4 : decide ((n : Int) < (q : Int)) = false := by simp; omega
      clear hcu ho c2 hx
      go_wp2_with fail
      go_roundw
      case rel => exact ⟨j + 1, by omega, by go_num, HF3, HFW⟩
      case measure => simp [RowKit.intOf]; omega
    · have e1 : ¬ (j : Int) < (n : Int) := by omega
      go_wp2_with (go_at_call 10; refine (HA1.out _ HF3.out).mono ?_; rintro e w3 ⟨pb1, s1, cur1, rfl, hF, hpb, hcu, hpc, hsc⟩; have HF4 := Lib.hid (HF3.out.trans hF); have HCU1 := Lib.hid hcu; have HPC1 := Lib.hid hpc; have HSC1 := Lib.hid hsc; clear hF hcu hpc hsc hpb)
      obtain ⟨c, hc⟩ : ∃ c, c = s1.cells := ⟨_, rfl⟩
      rw [← hc]
      have HCE := Lib.hid hc
      clear hc
      go_loopw [14, 15] (fun qv iv wr => ∃ (j q : Nat), j ≤ n ∧ iv = .int .i64 j ∧ qv = .int .i64 q ∧ Hid (Fr [] w wr) ∧ Hid (Fr [] w3 wr) ∧ Hid (q = (L.take j).countP (inReg s1)) ∧ q ≤ j) (fun _ iv _ => n - (RowKit.intOf iv).toNat)
      case atStart => exact ⟨0, 0, Nat.zero_le _, rfl, rfl, HF4, Fr.refl _ _, Lib.hid (by simp), Nat.le_refl _⟩
      case round =>
        obtain ⟨j, q, hj, rfl, rfl, HF5, HFW1, HQ, hqj⟩ := hrel
        by_cases hjn : j < n
        · obtain ⟨x, hx⟩ : ∃ x, L[j]? = some x := ⟨_, List.getElem?_eq_getElem (by omega)⟩
          have hcu := HFW1.out.heap (by simp) HCU1.out
          obtain ⟨c0, c1, c2⟩ := HPC1.out.at_ j x hx
          have c0 := cell_of_heap hcu c0
          have HT : Hid (L.take (j + 1) = L.take j ++ [x]) := Lib.hid (by rw [List.take_add_one, hx]; rfl)
          have e1 : (j : Int) < (n : Int) := by omega
          have e2 : (0 : Int) ≤ (j : Int) := by omega
          rcases (apart_said HSC1.out hnd).1 x (List.mem_of_getElem? hx) with ⟨p, -, -, ho⟩ | ⟨p, -, ho⟩
          · rw [ho] at c0
            have hv : inReg s1 x = true := by unfold inReg; rw [ho]; rfl
            have HV := Lib.hid hv
            clear hcu ho c1 c2 hx hv
            go_wp2_with fail
            go_roundw
            case rel => exact ⟨j + 1, q + 1, by omega, by go_num, by go_num, HF5, HFW1, Lib.hid (by rw [HT.out, List.countP_append, ← HQ.out]; simp [HV.out]), by omega⟩
            case measure => simp [RowKit.intOf]; omega
          · rw [ho] at c0
            have hv : inReg s1 x = false := by unfold inReg; rw [ho]; rfl
            have HV := Lib.hid hv
            clear hcu ho c1 c2 hx hv
            go_wp2_with fail
            go_roundw
            case rel => exact ⟨j + 1, q, by omega, by go_num, rfl, HF5, HFW1, Lib.hid (by rw [HT.out, List.countP_append, ← HQ.out]; simp [HV.out]), by omega⟩
            case measure => simp [RowKit.intOf]; omega
        · have hje : j = n := by omega
          have e1 : ¬ (j : Int) < (n : Int) := by omega
          have hq2 : q = L.countP (inReg s1) := by rw [HQ.out, List.take_of_length_le (by omega)]
          clear hje
          have HSD := Lib.hid (fun sR (hR : Scanned L r sR) => regs_said HSC1.out hR hokL hr.1)
          go_wp2_with (go_at_call 10; refine (HAR.out _ HF5.out).mono ?_; rintro e w4 ⟨pb2, sR, cur2, rfl, hF, hpb, hcu, hpc, hsc⟩; obtain ⟨k1, k2, k3⟩ := HSD.out sR hsc; rw [← HCE.out] at k1 k3; rw [← hq2] at k1 k2; obtain ⟨cR, hcR⟩ : ∃ cR, cR = sR.cells := ⟨_, rfl⟩; rw [← hcR] at k3 ⊢; rw [hn] at k1 k2; have HF6 := Lib.hid (HF5.out.trans hF); clear hF hcu hpc hsc hpb; have wq : IntKind.i64.wrap ((q : Int) + (c : Int)) = (q : Int) + (c : Int) := (by rw [IntKind.wrap_i64]; omega); have b1 : (((q : Int) + (c : Int)) == (n : Int)) = true := (by simp; omega); have b2 : (q : Int) + (c : Int) = (n : Int) := (by omega); have b4 : (cR : Int) ≤ (c : Int) := (by omega); have b5 : decide ((cR : Int) ≤ (c : Int)) = true := (by simp; omega))
          all_goals
            go_ret
            exact ⟨ret1 (vb (by simp; omega)), HF6.out⟩
set_option maxRecDepth 100000 in
set_option maxHeartbeats 8000000 in
theorem scanRegs_b (la : Option Addr) (lc n : Nat) (L : List Iv) (a : Int) (w : World) (hL : IvM w la L) (hn : L.length = n) (hnn : n < 1099511627776 * 8) (hcap : n ≤ lc) (hbig : ¬ 7 < n) (hokK : okL L = false) (hokL : okL L = false) : Calls Try.prog 8 #[.slice la n lc, .int .i64 a] w (Still (.bool true) w) := by
  obtain ⟨K, hK⟩ : ∃ K, K = L := ⟨_, rfl⟩
  obtain ⟨kn, hkn⟩ : ∃ kn, kn = n := ⟨_, rfl⟩
  have hKl : K.length = n := by rw [hK, hn]
  have hLK : IvM w la K := by rw [hK]; exact hL
  rw [← hK] at hokK
  have v1 : ¬ (7 : Int) < (n : Int) := by omega
  have v2 : decide ((7 : Int) < (n : Int)) = false := by simp; omega
  have v6 : decide (7 < n) = false := by simp; omega
  have HA8 := Lib.hid (fun (W : World) (hF : Fr [] w W) => sc_Assign_no la lc n K 8 W (hLK.fr hF) hKl (by omega) (Or.inr (Or.inr hokK)))
  have HA1 := Lib.hid (fun (W : World) (hF : Fr [] w W) => sc_Assign_no la lc n L 1 W (hL.fr hF) hn hnn (Or.inr (Or.inr hokL)))
  clear hL hLK
  go_enter Try.func8, Try.ntmps8
  go_wp2_with (first
    | (go_at_call 9; refine (awake14 _).mono ?_; rintro e w1 ⟨rfl, hF⟩; have HF1 := Lib.hid hF; clear hF)
    | (go_at_call 10; refine (HA8.out _ HF1.out).mono ?_; rintro e w2 ⟨rfl, hF⟩; have HF2 := Lib.hid (HF1.out.trans hF); clear hF))
  go_loopw [10] (fun iv wr => iv = .int .i64 0 ∧ Hid (Fr [] w wr)) (fun _ _ => 0)
  case atStart => exact ⟨rfl, HF2⟩
  case round =>
    obtain ⟨rfl, HF3⟩ := hrel
    · skip
      go_wp2_with (go_at_call 10; refine (HA1.out _ HF3.out).mono ?_; rintro e w3 ⟨rfl, hF⟩; have HF4 := Lib.hid (HF3.out.trans hF); clear hF)
      go_ret
      exact ⟨rfl, HF4.out⟩
set_option maxRecDepth 100000 in
set_option maxHeartbeats 8000000 in
theorem scanRegs_c (la : Option Addr) (lc n : Nat) (L : List Iv) (a : Int) (w : World) (hL : IvM w la L) (hn : L.length = n) (hnn : n < 1099511627776 * 8) (hcap : n ≤ lc) (hbig : 7 < n) (hokK : okL (L.take 7) = true) (hokL : okL L = true) : Calls Try.prog 8 #[.slice la n lc, .int .i64 a] w (Still (.bool true) w) := by
  obtain ⟨gl, ol, rfl⟩ : ∃ g o, la = some ⟨g, o, none⟩ := by
    obtain ⟨g, o, e, -⟩ := hL 0 _ (List.getElem?_eq_getElem (by omega))
    exact ⟨g, o, e⟩
  obtain ⟨K, hK⟩ : ∃ K, K = L.take 7 := ⟨_, rfl⟩
  rw [← hK] at hokK
  obtain ⟨kn, hkn⟩ : ∃ kn, kn = 7 := ⟨_, rfl⟩
  have hKl : K.length = 7 := by rw [hK]; simp; omega
  have hLK : IvM w (some ⟨gl, ol, none⟩) K := fun k x hx => hL k x (by rw [hK, List.getElem?_take] at hx; split at hx; exact hx; cases hx)
  have v1 : (7 : Int) < (n : Int) := by omega
  have v2 : decide ((7 : Int) < (n : Int)) = true := by simp; omega
  have v3 : (7 : Int) ≤ (lc : Int) := by omega
  have v4 : 7 ≤ lc := by omega
  have v5 : 7 < n := hbig
  have v6 : decide (7 < n) = true := by simpa using hbig
  have v7 : ¬ lc < 7 := by omega
  have HA8 := Lib.hid (fun (W : World) (hF : Fr [] w W) => sc_Assign_yes (some ⟨gl, ol, none⟩) lc 7 K 8 W (hLK.fr hF) hKl (by omega) (by omega) hokK)
  have HA1 := Lib.hid (fun (W : World) (hF : Fr [] w W) => sc_Assign_yes (some ⟨gl, ol, none⟩) lc n L 1 W (hL.fr hF) hn hnn (by omega) hokL)
  obtain ⟨r1, hr1, hb2⟩ := mask_nat a 7 (by omega)
  have hr1' : bits .and .i64 a 7 = (r1 : Int) := hr1
  obtain ⟨r, hrr⟩ : ∃ r, r = 1 + r1 := ⟨_, rfl⟩
  have wr1 : IntKind.i64.wrap (1 + (r1 : Int)) = (r : Int) := by rw [IntKind.wrap_i64]; omega
  have hr : 1 ≤ r ∧ r ≤ 8 := by omega
  have HAR := Lib.hid (fun (W : World) (hF : Fr [] w W) => sc_Assign_yes (some ⟨gl, ol, none⟩) lc n L r W (hL.fr hF) hn hnn hr hokL)
  have hnd := okL_nd hokL
  clear hr1 hrr hb2
  clear hL hLK
  go_enter Try.func8, Try.ntmps8
  go_wp2_with (first
    | (go_at_call 9; refine (awake14 _).mono ?_; rintro e w1 ⟨rfl, hF⟩; have HF1 := Lib.hid hF; clear hF)
    | (go_at_call 10; refine (HA8.out _ HF1.out).mono ?_; rintro e w2 ⟨pb, s8, cur, rfl, hF, hpb, hcu, hpc, hsc⟩; obtain ⟨hc8, hpl⟩ := regs_first hsc hokK (by omega); rw [hc8]; have HPL := Lib.hid hpl; have HF2 := Lib.hid (HF1.out.trans hF); have HCU := Lib.hid hcu; have HPC := Lib.hid hpc; clear hF hcu hpc hsc hpb hc8 hpl))
  go_loopw [10] (fun iv wr => ∃ j : Nat, j ≤ 7 ∧ iv = .int .i64 j ∧ Hid (Fr [] w wr) ∧ Hid (Fr [] w2 wr)) (fun iv _ => 7 - (RowKit.intOf iv).toNat)
  case atStart => exact ⟨0, Nat.zero_le _, rfl, HF2, Fr.refl _ _⟩
  case round =>
    obtain ⟨j, hj, rfl, HF3, HFW⟩ := hrel
    by_cases hjk : j < 7
    · obtain ⟨x, hx⟩ : ∃ x, K[j]? = some x := ⟨_, List.getElem?_eq_getElem (by omega)⟩
      obtain ⟨q, hq, ho⟩ := HPL.out x (List.mem_of_getElem? hx)
      have hcu := HFW.out.heap (by simp) HCU.out
      obtain ⟨c0, c1, c2⟩ := HPC.out.at_ j x hx
      have c0 := cell_of_heap hcu c0
      have c1 := cell_of_heap hcu c1
      rw [ho] at c0 c1
      have e1 : (j : Int) < (7 : Int) := by omega
      have e2 : (0 : Int) ≤ (j : Int) := by omega
      have e3 : ¬ (7 : Int) < (q : Int) := by omega
      have e4 : decide ((7 : Int) < (q : Int)) = false := by simp; omega
      clear hcu ho c2 hx
      go_wp2_with fail
      go_roundw
      case rel => exact ⟨j + 1, by omega, by go_num, HF3, HFW⟩
      case measure => simp [RowKit.intOf]; omega
    · have e1 : ¬ (j : Int) < (7 : Int) := by omega
      go_wp2_with (go_at_call 10; refine (HA1.out _ HF3.out).mono ?_; rintro e w3 ⟨pb1, s1, cur1, rfl, hF, hpb, hcu, hpc, hsc⟩; have HF4 := Lib.hid (HF3.out.trans hF); have HCU1 := Lib.hid hcu; have HPC1 := Lib.hid hpc; have HSC1 := Lib.hid hsc; clear hF hcu hpc hsc hpb)
      obtain ⟨c, hc⟩ : ∃ c, c = s1.cells := ⟨_, rfl⟩
      rw [← hc]
      have HCE := Lib.hid hc
      clear hc
      go_loopw [14, 15] (fun qv iv wr => ∃ (j q : Nat), j ≤ n ∧ iv = .int .i64 j ∧ qv = .int .i64 q ∧ Hid (Fr [] w wr) ∧ Hid (Fr [] w3 wr) ∧ Hid (q = (L.take j).countP (inReg s1)) ∧ q ≤ j) (fun _ iv _ => n - (RowKit.intOf iv).toNat)
      case atStart => exact ⟨0, 0, Nat.zero_le _, rfl, rfl, HF4, Fr.refl _ _, Lib.hid (by simp), Nat.le_refl _⟩
      case round =>
        obtain ⟨j, q, hj, rfl, rfl, HF5, HFW1, HQ, hqj⟩ := hrel
        by_cases hjn : j < n
        · obtain ⟨x, hx⟩ : ∃ x, L[j]? = some x := ⟨_, List.getElem?_eq_getElem (by omega)⟩
          have hcu := HFW1.out.heap (by simp) HCU1.out
          obtain ⟨c0, c1, c2⟩ := HPC1.out.at_ j x hx
          have c0 := cell_of_heap hcu c0
          have HT : Hid (L.take (j + 1) = L.take j ++ [x]) := Lib.hid (by rw [List.take_add_one, hx]; rfl)
          have e1 : (j : Int) < (n : Int) := by omega
          have e2 : (0 : Int) ≤ (j : Int) := by omega
          rcases (apart_said HSC1.out hnd).1 x (List.mem_of_getElem? hx) with ⟨p, -, -, ho⟩ | ⟨p, -, ho⟩
          · rw [ho] at c0
            have hv : inReg s1 x = true := by unfold inReg; rw [ho]; rfl
            have HV := Lib.hid hv
            clear hcu ho c1 c2 hx hv
            go_wp2_with fail
            go_roundw
            case rel => exact ⟨j + 1, q + 1, by omega, by go_num, by go_num, HF5, HFW1, Lib.hid (by rw [HT.out, List.countP_append, ← HQ.out]; simp [HV.out]), by omega⟩
            case measure => simp [RowKit.intOf]; omega
          · rw [ho] at c0
            have hv : inReg s1 x = false := by unfold inReg; rw [ho]; rfl
            have HV := Lib.hid hv
            clear hcu ho c1 c2 hx hv
            go_wp2_with fail
            go_roundw
            case rel => exact ⟨j + 1, q, by omega, by go_num, rfl, HF5, HFW1, Lib.hid (by rw [HT.out, List.countP_append, ← HQ.out]; simp [HV.out]), by omega⟩
            case measure => simp [RowKit.intOf]; omega
        · have hje : j = n := by omega
          have e1 : ¬ (j : Int) < (n : Int) := by omega
          have hq2 : q = L.countP (inReg s1) := by rw [HQ.out, List.take_of_length_le (by omega)]
          clear hje
          have HSD := Lib.hid (fun sR (hR : Scanned L r sR) => regs_said HSC1.out hR hokL hr.1)
          go_wp2_with (go_at_call 10; refine (HAR.out _ HF5.out).mono ?_; rintro e w4 ⟨pb2, sR, cur2, rfl, hF, hpb, hcu, hpc, hsc⟩; obtain ⟨k1, k2, k3⟩ := HSD.out sR hsc; rw [← HCE.out] at k1 k3; rw [← hq2] at k1 k2; obtain ⟨cR, hcR⟩ : ∃ cR, cR = sR.cells := ⟨_, rfl⟩; rw [← hcR] at k3 ⊢; rw [hn] at k1 k2; have HF6 := Lib.hid (HF5.out.trans hF); clear hF hcu hpc hsc hpb; have wq : IntKind.i64.wrap ((q : Int) + (c : Int)) = (q : Int) + (c : Int) := (by rw [IntKind.wrap_i64]; omega); have b1 : (((q : Int) + (c : Int)) == (n : Int)) = true := (by simp; omega); have b2 : (q : Int) + (c : Int) = (n : Int) := (by omega); have b4 : (cR : Int) ≤ (c : Int) := (by omega); have b5 : decide ((cR : Int) ≤ (c : Int)) = true := (by simp; omega))
          all_goals
            go_ret
            exact ⟨ret1 (vb (by simp; omega)), HF6.out⟩
set_option maxRecDepth 100000 in
set_option maxHeartbeats 8000000 in
theorem scanRegs_d (la : Option Addr) (lc n : Nat) (L : List Iv) (a : Int) (w : World) (hL : IvM w la L) (hn : L.length = n) (hnn : n < 1099511627776 * 8) (hcap : n ≤ lc) (hbig : 7 < n) (hokK : okL (L.take 7) = true) (hokL : okL L = false) : Calls Try.prog 8 #[.slice la n lc, .int .i64 a] w (Still (.bool true) w) := by
  obtain ⟨gl, ol, rfl⟩ : ∃ g o, la = some ⟨g, o, none⟩ := by
    obtain ⟨g, o, e, -⟩ := hL 0 _ (List.getElem?_eq_getElem (by omega))
    exact ⟨g, o, e⟩
  obtain ⟨K, hK⟩ : ∃ K, K = L.take 7 := ⟨_, rfl⟩
  rw [← hK] at hokK
  obtain ⟨kn, hkn⟩ : ∃ kn, kn = 7 := ⟨_, rfl⟩
  have hKl : K.length = 7 := by rw [hK]; simp; omega
  have hLK : IvM w (some ⟨gl, ol, none⟩) K := fun k x hx => hL k x (by rw [hK, List.getElem?_take] at hx; split at hx; exact hx; cases hx)
  have v1 : (7 : Int) < (n : Int) := by omega
  have v2 : decide ((7 : Int) < (n : Int)) = true := by simp; omega
  have v3 : (7 : Int) ≤ (lc : Int) := by omega
  have v4 : 7 ≤ lc := by omega
  have v5 : 7 < n := hbig
  have v6 : decide (7 < n) = true := by simpa using hbig
  have v7 : ¬ lc < 7 := by omega
  have HA8 := Lib.hid (fun (W : World) (hF : Fr [] w W) => sc_Assign_yes (some ⟨gl, ol, none⟩) lc 7 K 8 W (hLK.fr hF) hKl (by omega) (by omega) hokK)
  have HA1 := Lib.hid (fun (W : World) (hF : Fr [] w W) => sc_Assign_no (some ⟨gl, ol, none⟩) lc n L 1 W (hL.fr hF) hn hnn (Or.inr (Or.inr hokL)))
  clear hL hLK
  go_enter Try.func8, Try.ntmps8
  go_wp2_with (first
    | (go_at_call 9; refine (awake14 _).mono ?_; rintro e w1 ⟨rfl, hF⟩; have HF1 := Lib.hid hF; clear hF)
    | (go_at_call 10; refine (HA8.out _ HF1.out).mono ?_; rintro e w2 ⟨pb, s8, cur, rfl, hF, hpb, hcu, hpc, hsc⟩; obtain ⟨hc8, hpl⟩ := regs_first hsc hokK (by omega); rw [hc8]; have HPL := Lib.hid hpl; have HF2 := Lib.hid (HF1.out.trans hF); have HCU := Lib.hid hcu; have HPC := Lib.hid hpc; clear hF hcu hpc hsc hpb hc8 hpl))
  go_loopw [10] (fun iv wr => ∃ j : Nat, j ≤ 7 ∧ iv = .int .i64 j ∧ Hid (Fr [] w wr) ∧ Hid (Fr [] w2 wr)) (fun iv _ => 7 - (RowKit.intOf iv).toNat)
  case atStart => exact ⟨0, Nat.zero_le _, rfl, HF2, Fr.refl _ _⟩
  case round =>
    obtain ⟨j, hj, rfl, HF3, HFW⟩ := hrel
    by_cases hjk : j < 7
    · obtain ⟨x, hx⟩ : ∃ x, K[j]? = some x := ⟨_, List.getElem?_eq_getElem (by omega)⟩
      obtain ⟨q, hq, ho⟩ := HPL.out x (List.mem_of_getElem? hx)
      have hcu := HFW.out.heap (by simp) HCU.out
      obtain ⟨c0, c1, c2⟩ := HPC.out.at_ j x hx
      have c0 := cell_of_heap hcu c0
      have c1 := cell_of_heap hcu c1
      rw [ho] at c0 c1
      have e1 : (j : Int) < (7 : Int) := by omega
      have e2 : (0 : Int) ≤ (j : Int) := by omega
      have e3 : ¬ (7 : Int) < (q : Int) := by omega
      have e4 : decide ((7 : Int) < (q : Int)) = false := by simp; omega
      clear hcu ho c2 hx
      go_wp2_with fail
      go_roundw
      case rel => exact ⟨j + 1, by omega, by go_num, HF3, HFW⟩
      case measure => simp [RowKit.intOf]; omega
    · have e1 : ¬ (j : Int) < (7 : Int) := by omega
      go_wp2_with (go_at_call 10; refine (HA1.out _ HF3.out).mono ?_; rintro e w3 ⟨rfl, hF⟩; have HF4 := Lib.hid (HF3.out.trans hF); clear hF)
      go_ret
      exact ⟨rfl, HF4.out⟩
set_option maxRecDepth 100000 in
set_option maxHeartbeats 8000000 in
theorem scanRegs_e (la : Option Addr) (lc n : Nat) (L : List Iv) (a : Int) (w : World) (hL : IvM w la L) (hn : L.length = n) (hnn : n < 1099511627776 * 8) (hcap : n ≤ lc) (hbig : 7 < n) (hokK : okL (L.take 7) = false) (hokL : okL L = false) : Calls Try.prog 8 #[.slice la n lc, .int .i64 a] w (Still (.bool true) w) := by
  obtain ⟨gl, ol, rfl⟩ : ∃ g o, la = some ⟨g, o, none⟩ := by
    obtain ⟨g, o, e, -⟩ := hL 0 _ (List.getElem?_eq_getElem (by omega))
    exact ⟨g, o, e⟩
  obtain ⟨K, hK⟩ : ∃ K, K = L.take 7 := ⟨_, rfl⟩
  rw [← hK] at hokK
  obtain ⟨kn, hkn⟩ : ∃ kn, kn = 7 := ⟨_, rfl⟩
  have hKl : K.length = 7 := by rw [hK]; simp; omega
  have hLK : IvM w (some ⟨gl, ol, none⟩) K := fun k x hx => hL k x (by rw [hK, List.getElem?_take] at hx; split at hx; exact hx; cases hx)
  have v1 : (7 : Int) < (n : Int) := by omega
  have v2 : decide ((7 : Int) < (n : Int)) = true := by simp; omega
  have v3 : (7 : Int) ≤ (lc : Int) := by omega
  have v4 : 7 ≤ lc := by omega
  have v5 : 7 < n := hbig
  have v6 : decide (7 < n) = true := by simpa using hbig
  have v7 : ¬ lc < 7 := by omega
  have HA8 := Lib.hid (fun (W : World) (hF : Fr [] w W) => sc_Assign_no (some ⟨gl, ol, none⟩) lc 7 K 8 W (hLK.fr hF) hKl (by omega) (Or.inr (Or.inr hokK)))
  have HA1 := Lib.hid (fun (W : World) (hF : Fr [] w W) => sc_Assign_no (some ⟨gl, ol, none⟩) lc n L 1 W (hL.fr hF) hn hnn (Or.inr (Or.inr hokL)))
  clear hL hLK
  go_enter Try.func8, Try.ntmps8
  go_wp2_with (first
    | (go_at_call 9; refine (awake14 _).mono ?_; rintro e w1 ⟨rfl, hF⟩; have HF1 := Lib.hid hF; clear hF)
    | (go_at_call 10; refine (HA8.out _ HF1.out).mono ?_; rintro e w2 ⟨rfl, hF⟩; have HF2 := Lib.hid (HF1.out.trans hF); clear hF))
  go_loopw [10] (fun iv wr => iv = .int .i64 0 ∧ Hid (Fr [] w wr)) (fun _ _ => 0)
  case atStart => exact ⟨rfl, HF2⟩
  case round =>
    obtain ⟨rfl, HF3⟩ := hrel
    · skip
      go_wp2_with (go_at_call 10; refine (HA1.out _ HF3.out).mono ?_; rintro e w3 ⟨rfl, hF⟩; have HF4 := Lib.hid (HF3.out.trans hF); clear hF)
      go_ret
      exact ⟨rfl, HF4.out⟩
theorem scanRegs_walk (la : Option Addr) (lc n : Nat) (L : List Iv) (a : Int) (w : World) (hL : IvM w la L) (hn : L.length = n) (hnn : n < 1099511627776 * 8) (hcap : n ≤ lc) : Calls Try.prog 8 #[.slice la n lc, .int .i64 a] w (Still (.bool true) w) := by
  by_cases hb : 7 < n
  · cases hk : okL (L.take 7) with
    | false =>
      cases hl : okL L with
      | false => exact scanRegs_e la lc n L a w hL hn hnn hcap hb hk hl
      | true => rw [okL_take hl 7] at hk; cases hk
    | true =>
      cases hl : okL L with
      | false => exact scanRegs_d la lc n L a w hL hn hnn hcap hb hk hl
      | true => exact scanRegs_c la lc n L a w hL hn hnn hcap hb hk hl
  · cases hl : okL L with
    | false => exact scanRegs_b la lc n L a w hL hn hnn hcap hb hl hl
    | true => exact scanRegs_a la lc n L a w hL hn hnn hcap hb hl hl
end Go.Proofs.Ytomcfjckhajhmaa
