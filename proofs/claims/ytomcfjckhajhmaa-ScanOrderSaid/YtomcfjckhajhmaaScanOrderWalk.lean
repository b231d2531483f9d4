/- ScanOrder: the walk. -/
import Derived.Test.YtomcfjckhajhmaaScanRegsWalk
namespace Go.Proofs.Ytomcfjckhajhmaa
open Go.RowKit

/-- the intervals turned round, from the b-th on -/
def turnL (L : List Iv) (b : Nat) : List Iv := (L.take b).reverse ++ (L.drop b).reverse
theorem turnL_perm (L : List Iv) (b : Nat) : (turnL L b).Perm L := by
  unfold turnL
  have h1 : ((L.take b).reverse ++ (L.drop b).reverse).Perm (L.take b ++ L.drop b) := (List.reverse_perm _).append (List.reverse_perm _)
  rwa [List.take_append_drop] at h1
theorem turn_num {n i B : Nat} (hi : i < n) : (n - 1 - i + B) % n = if i < B % n then B % n - 1 - i else n - 1 - i + B % n := by
  have hn : 0 < n := by omega
  have hb := Nat.mod_lt B hn
  have e : (n - 1 - i + B) % n = (n - 1 - i + B % n) % n := by rw [Nat.add_mod, Nat.add_mod (n - 1 - i) (B % n), Nat.mod_mod]
  rw [e]
  by_cases h : i < B % n
  · rw [if_pos h]
    have : n - 1 - i + B % n = B % n - 1 - i + n := by omega
    rw [this, Nat.add_mod_right, Nat.mod_eq_of_lt (by omega)]
  · rw [if_neg h, Nat.mod_eq_of_lt (by omega)]
theorem turnL_at {L : List Iv} {n i B : Nat} (hn : L.length = n) (hi : i < n) : (turnL L (B % n))[i]? = L[(n - 1 - i + B) % n]? := by
  have hb := Nat.mod_lt B (show 0 < n by omega)
  rw [turn_num hi]
  unfold turnL
  by_cases h : i < B % n
  · rw [if_pos h, List.getElem?_append_left (by simp; omega), List.getElem?_reverse (by simp; omega), List.getElem?_take, if_pos (by simp; omega)]
    congr 1
    simp
    omega
  · rw [if_neg h, List.getElem?_append_right (by simp; omega), List.getElem?_reverse (by simp; omega), List.getElem?_drop]
    congr 1
    simp
    omega
theorem okL_perm {L K : List Iv} (h : K.Perm L) : okL K = okL L := by
  unfold okL
  rw [Bool.eq_iff_iff]
  simp only [Bool.and_eq_true, decide_eq_true_eq]
  rw [(h.map (fun x => x.v)).nodup_iff, List.all_eq_true, List.all_eq_true]
  constructor
  · rintro ⟨a, b⟩; exact ⟨fun x hx => a x (h.mem_iff.2 hx), b⟩
  · rintro ⟨a, b⟩; exact ⟨fun x hx => a x (h.mem_iff.1 hx), b⟩
set_option maxRecDepth 100000 in
set_option maxHeartbeats 8000000 in
theorem scanOrder_walk (la : Option Addr) (lc n : Nat) (L : List Iv) (r a : Int) (w : World) (hL : IvM w la L) (hn : L.length = n) (hnn : n ≤ 5864062014805) : Calls Try.prog 6 #[.slice la n lc, .int .i64 r, .int .i64 a] w (Still (.bool true) w) := by
  obtain ⟨i0, hi, hz0, hz1, hz2⟩ := info_parts infoIv3
  obtain ⟨B, hB, hB2⟩ := mask_nat a 1023 (by omega)
  have hB' : bits .and .i64 a 1023 = (B : Int) := hB
  have HL := Lib.hid hL
  have HN := Lib.hid hn
  obtain ⟨K, hK⟩ : ∃ K, K = turnL L (B % n) := ⟨_, rfl⟩
  have HKP : Hid (K.Perm L) := Lib.hid (by rw [hK]; exact turnL_perm _ _)
  have HKL : Hid (K.length = n) := Lib.hid (by rw [HKP.out.length_eq]; exact hn)
  have HKA : Hid (∀ i, i < n → K[i]? = L[(n - 1 - i + B) % n]?) := Lib.hid fun i hi => by rw [hK]; exact turnL_at hn hi
  have HFI : Hid (∀ i : Nat, i < n → ∃ fi : Nat, fi < n ∧ fi = (n - 1 - i + B) % n ∧ IntKind.i64.wrap ((n : Int) - 1) = (n : Int) - 1 ∧ IntKind.i64.wrap ((n : Int) - 1 - (i : Int)) = (n : Int) - 1 - (i : Int) ∧ IntKind.i64.wrap ((n : Int) - 1 - (i : Int) + (B : Int)) = (n : Int) - 1 - (i : Int) + (B : Int) ∧ ((n : Int) - 1 - (i : Int) + (B : Int)).tmod (n : Int) = (fi : Int) ∧ ((n : Int) - 1 - (i : Int) + (B : Int)) % (n : Int) = (fi : Int) ∧ IntKind.i64.wrap (fi : Int) = (fi : Int)) := Lib.hid fun i hi => by
    have hfl : (n - 1 - i + B) % n < n := Nat.mod_lt _ (by omega)
    have e : (n : Int) - 1 - (i : Int) + (B : Int) = ((n - 1 - i + B : Nat) : Int) := by omega
    refine ⟨_, hfl, rfl, by rw [IntKind.wrap_i64]; omega, by rw [IntKind.wrap_i64]; omega, by rw [IntKind.wrap_i64]; omega, ?_, ?_, by rw [IntKind.wrap_i64]; omega⟩
    · rw [e, Int.tmod_eq_emod_of_nonneg (by omega)]; rfl
    · rw [e]; rfl
  clear hL hn hB hK
  go_enter Try.func6, Try.ntmps6
  go_wp2_with (go_at_call 9; refine (awake14 _).mono ?_; rintro e w1 ⟨rfl, hF⟩; have HF1 := Lib.hid hF; clear hF)
  have HLN : Hid (LRow w (K.take 0) 0 (.slice none 0 0) w1) := Lib.hid ⟨⟨rfl, .inl ⟨rfl, rfl⟩⟩, HF1.out, fun b h => by cases h⟩
  go_loopw [8, 10] (fun lv iv wr => ∃ (k : Nat) (ao : Option Addr) (cap : Nat), k ≤ n ∧ iv = .int .i64 k ∧ lv = .slice ao k cap ∧ Hid (LRow w (K.take k) k (.slice ao k cap) wr)) (fun _ iv _ => n - (RowKit.intOf iv).toNat)
  case atStart => exact ⟨0, none, 0, Nat.zero_le _, rfl, rfl, HLN⟩
  case round =>
    obtain ⟨k, ao, cap, hk, rfl, rfl, HR⟩ := hrel
    by_cases hkm : k < n
    · have k1 : (k : Int) < (n : Int) := by omega
      obtain ⟨fi, f1, f2, f3, f4, f5, f6, f7, f8⟩ := HFI.out k hkm
      obtain ⟨x, hx⟩ : ∃ x, L[fi]? = some x := ⟨_, List.getElem?_eq_getElem (by rw [HN.out]; exact f1)⟩
      have HT : Hid (K.take (k + 1) = K.take k ++ [x]) := Lib.hid (by rw [List.take_add_one, HKA.out k hkm, ← f2, hx]; rfl)
      obtain ⟨gl, ol, rfl, c0, c1, c2⟩ := (HL.out.fr HR.out.fr) fi x hx
      have hmx : k + 1 ≤ maxLen := by unfold maxLen; omega
      have hby : (k + 1) * 24 ≤ 140737488355328 := by omega
      have n0 : (n : Int) ≠ 0 := by omega
      have g0 : (0 : Int) ≤ (fi : Int) := by omega
      have g1 : (fi : Int) < (n : Int) := by omega
      have n1 : ((n : Int) == 0) = false := by simp; omega
      clear f2 hx
      go_wp2_with (at_builtin; refine wpList_append_at _ rfl (.tmp 26) (.tmp 39) 22 rfl 35 i0 (.agg #[.int .i64 0, .int .i64 0, .int .i64 0]) 3 24 Try.underlying22 hi hz0 hz1 hz2 rfl (by decide) (.slice ao k cap) k _ rfl (Fr.row (S := []) (by (repeat (first | (with_reducible refine Fr.setCell ?_ (fun h => absurd h (Nat.lt_irrefl _)) _) | (with_reducible refine Fr.setCell ?_ (fun h => absurd h (by first | omega | (simp; done) | (simp; omega) | (dsimp only; omega))) _) | (with_reducible refine Fr.alloc ?_ _) | (with_reducible refine Fr.drew ?_) | (with_reducible refine Fr.drewN ?_ _) | (with_reducible exact Fr.refl _ _)))) HR.out.row (fun _ _ => by simp)) ⟨wr.heap.size, 0, none⟩ 1 1 [.int .i64 x.v, .int .i64 x.f, .int .i64 x.t] (by first | rfl | (go_simp; done)) rfl (by intro j u hj; rw [Lib.add_plain, Nat.zero_add]; exact cell_of_heap (heap_new _ _) (by simpa using hj)) (by simp [Value.oneCell']) hmx hby ?_; intro v5 w5 ho5 hg5 hf5; have hst := HR.out.step (W1 := _) (x := x) (by (repeat (first | (with_reducible refine Fr.setCell ?_ (fun h => absurd h (Nat.lt_irrefl _)) _) | (with_reducible refine Fr.setCell ?_ (fun h => absurd h (by first | omega | (simp; done) | (simp; omega) | (dsimp only; omega))) _) | (with_reducible refine Fr.alloc ?_ _) | (with_reducible refine Fr.drew ?_) | (with_reducible refine Fr.drewN ?_ _) | (with_reducible exact Fr.refl _ _)))) ho5 hg5 hf5; obtain ⟨a5, p5, rfl⟩ := nrow_shape ho5; have HST := Lib.hid hst; clear hst ho5 hg5 hf5)
      go_roundw
      case rel => exact ⟨k + 1, a5, p5, by omega, by go_num, rfl, Lib.hid (by rw [HT.out]; exact HST.out)⟩
      case measure => simp [RowKit.intOf]; omega
    · have hke : k = n := by omega
      have k1 : ¬ (k : Int) < (n : Int) := by omega
      have hKM : IvM wr ao K := by
        have := HR.out.iv
        rwa [List.take_of_length_le (by rw [HKL.out]; omega)] at this
      have HKM := Lib.hid hKM
      rw [hke] at HR ⊢
      rw [hke] at k1
      have HFR := Lib.hid HR.out.fr
      clear hKM hke hk HR HLN hi hz0 hz1 hz2
      by_cases hy : (1 ≤ r ∧ r ≤ 8) ∧ okL L = true
      · obtain ⟨⟨hr1, hr8⟩, hok⟩ := hy
        obtain ⟨r, rfl⟩ : ∃ k : Nat, r = (k : Int) := ⟨r.toNat, by omega⟩
        have HA1 := Lib.hid (fun (W : World) (hF : Fr [] wr W) => sc_Assign_yes la lc n L r W (HL.out.fr (HFR.out.trans hF)) HN.out (by omega) (by omega) hok)
        have HA2 := Lib.hid (fun (W : World) (hF : Fr [] wr W) => sc_Assign_yes ao cap n K r W (HKM.out.fr hF) HKL.out (by omega) (by omega) (by rw [okL_perm HKP.out]; exact hok))
        clear hok
        go_wp2_with (first
          | (go_at_call 10; (with_reducible refine (HA1.out _ (by (repeat (first | (with_reducible refine Fr.setCell ?_ (fun h => absurd h (Nat.lt_irrefl _)) _) | (with_reducible refine Fr.setCell ?_ (fun h => absurd h (by first | omega | (simp; done) | (simp; omega) | (dsimp only; omega))) _) | (with_reducible refine Fr.alloc ?_ _) | (with_reducible refine Fr.drew ?_) | (with_reducible refine Fr.drewN ?_ _) | (with_reducible exact Fr.refl _ _))))).mono ?_); rintro e w2 ⟨pb, s, cur, rfl, hF, hpb, hcu, hpc, hsc⟩; have HF2 := Lib.hid hF; have HSC := Lib.hid hsc; have HCU := Lib.hid hcu; have HPC := Lib.hid hpc; clear hF hcu hpc hsc hpb)
          | (go_at_call 10; (with_reducible refine (HA2.out _ HF2.out).mono ?_); rintro e w3 ⟨pb2, s2, cur2, rfl, hF, hpb, hcu, hpc, hsc⟩; have hss := HSC.out.unique hsc HKP.out.symm; subst hss; have HF3 := Lib.hid hF; have HCU2 := Lib.hid hcu; have HPC2 := Lib.hid hpc; clear hF hcu hpc hsc hpb))
        have HFW := Lib.hid (HFR.out.trans (HF2.out.trans HF3.out))
        go_loopw [17] (fun iv wr => ∃ j : Nat, j ≤ n ∧ iv = .int .i64 j ∧ Hid (Fr [] w wr) ∧ Hid (Fr [] w2 wr) ∧ Hid (Fr [] w3 wr)) (fun iv _ => n - (RowKit.intOf iv).toNat)
        case atStart => exact ⟨0, Nat.zero_le _, rfl, HFW, HF3, Fr.refl _ _⟩
        case round =>
          obtain ⟨j, hj, rfl, G1, G2, G3⟩ := hrel
          by_cases hjn : j < n
          · obtain ⟨fi, f1, f2, f3, f4, f5, f6, f7, f8⟩ := HFI.out j hjn
            obtain ⟨x, hx⟩ : ∃ x, L[fi]? = some x := ⟨_, List.getElem?_eq_getElem (by rw [HN.out]; exact f1)⟩
            have hKx : K[j]? = some x := by rw [HKA.out j hjn, ← f2]; exact hx
            have hcu := G2.out.heap (by simp) HCU.out
            have hcu2 := G3.out.heap (by simp) HCU2.out
            obtain ⟨c0, c1, c2⟩ := HPC.out.at_ fi x hx
            obtain ⟨d0, d1, d2⟩ := HPC2.out.at_ j x hKx
            have c0 := cell_of_heap hcu c0
            have c1 := cell_of_heap hcu c1
            have c2 := cell_of_heap hcu c2
            have d0 := cell_of_heap hcu2 d0
            have d1 := cell_of_heap hcu2 d1
            have d2 := cell_of_heap hcu2 d2
            have n0 : (n : Int) ≠ 0 := by omega
            have g0 : (0 : Int) ≤ (fi : Int) := by omega
            have g1 : (fi : Int) < (n : Int) := by omega
            have n1 : ((n : Int) == 0) = false := by simp; omega
            have k2 : (j : Int) < (n : Int) := by omega
            have k3 : (0 : Int) ≤ (j : Int) := by omega
            generalize (s.out x.v).1 = p at c0 d0
            generalize (s.out x.v).2 = q at c1 d1
            clear f2 hx hKx hcu hcu2
            go_wp2_with fail
            go_quiet (fail)
            go_wp2_with fail
            go_roundw
            case rel => exact ⟨j + 1, by omega, by go_num, Lib.hid (G1.out.drewN _), Lib.hid (G2.out.drewN _), Lib.hid (G3.out.drewN _)⟩
            case measure => simp [RowKit.intOf]; omega
          · have k2 : ¬ (j : Int) < (n : Int) := by omega
            go_wp2_with fail
            go_ret
            exact ⟨rfl, G1.out⟩
      · have hno : r < 1 ∨ 8 < r ∨ okL L = false := by
          by_cases h1 : r < 1
          · exact Or.inl h1
          · by_cases h2 : 8 < r
            · exact Or.inr (Or.inl h2)
            · cases h3 : okL L with
              | false => exact Or.inr (Or.inr rfl)
              | true => exact absurd ⟨⟨by omega, by omega⟩, h3⟩ hy
        have HA1 := Lib.hid (fun (W : World) (hF : Fr [] wr W) => sc_Assign_no la lc n L r W (HL.out.fr (HFR.out.trans hF)) HN.out (by omega) hno)
        have HA2 := Lib.hid (fun (W : World) (hF : Fr [] wr W) => sc_Assign_no ao cap n K r W (HKM.out.fr hF) HKL.out (by omega) (by rw [okL_perm HKP.out]; exact hno))
        clear hno hy
        go_wp2_with (first
          | (go_at_call 10; (with_reducible refine (HA1.out _ (by (repeat (first | (with_reducible refine Fr.setCell ?_ (fun h => absurd h (Nat.lt_irrefl _)) _) | (with_reducible refine Fr.setCell ?_ (fun h => absurd h (by first | omega | (simp; done) | (simp; omega) | (dsimp only; omega))) _) | (with_reducible refine Fr.alloc ?_ _) | (with_reducible refine Fr.drew ?_) | (with_reducible refine Fr.drewN ?_ _) | (with_reducible exact Fr.refl _ _))))).mono ?_); rintro e w2 ⟨rfl, hF⟩; have HF2 := Lib.hid hF; clear hF)
          | (go_at_call 10; (with_reducible refine (HA2.out _ HF2.out).mono ?_); rintro e w3 ⟨rfl, hF⟩; have HF3 := Lib.hid hF; clear hF))
        have HFW := Lib.hid (HFR.out.trans (HF2.out.trans HF3.out))
        go_loopw [17] (fun iv wr => iv = .int .i64 0 ∧ Hid (Fr [] w wr)) (fun _ _ => 0)
        case atStart => exact ⟨rfl, HFW⟩
        case round =>
          obtain ⟨rfl, G1⟩ := hrel
          go_wp2_with fail
          go_ret
          exact ⟨rfl, G1.out⟩
end Go.Proofs.Ytomcfjckhajhmaa
