/- ScanAssigns: the walk. -/
import Derived.Test.YtomcfjckhajhmaaScnRefA
import Derived.Test.YtomcfjckhajhmaaScnAwake
namespace Go.Proofs.Ytomcfjckhajhmaa
open Go.RowKit

set_option maxRecDepth 100000 in
set_option maxHeartbeats 8000000 in
theorem scanAssigns_walk (la : Option Addr) (lc n : Nat) (L : List Iv) (r : Int) (w : World) (hL : IvM w la L) (hn : L.length = n) (hnn : n ≤ 5864062014805) : Calls Try.prog 3 #[.slice la n lc, .int .i64 r] w (Still (.bool true) w) := by
  have HL := Lib.hid hL
  have HN := Lib.hid hn
  clear hL hn
  by_cases hy : (1 ≤ r ∧ r ≤ 8) ∧ okL L = true
  · obtain ⟨⟨hr1, hr8⟩, hok⟩ := hy
    obtain ⟨r, rfl⟩ : ∃ k : Nat, r = (k : Int) := ⟨r.toNat, by omega⟩
    have HA1 := Lib.hid (fun (W : World) (hF : Fr [] w W) => sc_Assign_yes la lc n L r W (HL.out.fr hF) HN.out (by omega) (by omega) hok)
    have HA2 := Lib.hid (fun (W : World) (hF : Fr [] w W) => r14_Assign_yes la lc n L r W (HL.out.fr hF) HN.out (by omega) (by omega) hok)
    clear hok
    go_enter Try.func3, Try.ntmps3
    go_wp2_with (first
      | (go_at_call 9; refine (awake14 _).mono ?_; rintro e w1 ⟨rfl, hF⟩; have HF1 := Lib.hid hF; clear hF)
      | (go_at_call 10; (with_reducible refine (HA1.out _ HF1.out).mono ?_); rintro e w2 ⟨pb, s, cur, rfl, hF, hpb, hcu, hpc, hsc⟩; have HF2 := Lib.hid hF; have HSC := Lib.hid hsc; have HCU := Lib.hid hcu; have HPC := Lib.hid hpc; clear hF hcu hpc hsc hpb)
      | (go_at_call 11; (with_reducible refine (HA2.out _ (HF1.out.trans HF2.out)).mono ?_); rintro e w3 ⟨pb2, s2, cur2, rfl, hF, hpb, hcu, hpc, hsc⟩; have hss := HSC.out.unique hsc (List.Perm.refl _); subst hss; have HF3 := Lib.hid hF; have HCU2 := Lib.hid hcu; have HPC2 := Lib.hid hpc; clear hF hcu hpc hsc hpb))
    have HFW := Lib.hid (HF1.out.trans (HF2.out.trans HF3.out))
    go_loopw [12] (fun iv wr => ∃ j : Nat, j ≤ n ∧ iv = .int .i64 j ∧ Hid (Fr [] w wr) ∧ Hid (Fr [] w2 wr) ∧ Hid (Fr [] w3 wr)) (fun iv _ => n - (RowKit.intOf iv).toNat)
    case atStart => exact ⟨0, Nat.zero_le _, rfl, HFW, HF3, Fr.refl _ _⟩
    case round =>
      obtain ⟨j, hj, rfl, G1, G2, G3⟩ := hrel
      by_cases hjn : j < n
      · obtain ⟨x, hx⟩ : ∃ x, L[j]? = some x := ⟨_, List.getElem?_eq_getElem (by rw [HN.out]; exact hjn)⟩
        have hcu := G2.out.heap (by simp) HCU.out
        have hcu2 := G3.out.heap (by simp) HCU2.out
        obtain ⟨c0, c1, c2⟩ := HPC.out.at_ j x hx
        obtain ⟨d0, d1, d2⟩ := HPC2.out.at_ j x hx
        have c0 := cell_of_heap hcu c0
        have c1 := cell_of_heap hcu c1
        have c2 := cell_of_heap hcu c2
        have d0 := cell_of_heap hcu2 d0
        have d1 := cell_of_heap hcu2 d1
        have d2 := cell_of_heap hcu2 d2
        have k2 : (j : Int) < (n : Int) := by omega
        have k3 : (0 : Int) ≤ (j : Int) := by omega
        generalize (s.out x.v).1 = p at c0 d0
        generalize (s.out x.v).2 = q at c1 d1
        clear hx hcu hcu2
        go_wp2_with fail
        go_quiet (fail)
        go_wp2_with fail
        go_roundw
        case rel => exact ⟨j + 1, by omega, by go_num, Lib.hid (G1.out.drewN _), Lib.hid (G2.out.drewN _), Lib.hid (G3.out.drewN _)⟩
        case measure => simp [RowKit.intOf]; omega
      · have k2 : ¬ (j : Int) < (n : Int) := by omega
        go_wp2_with fail
        go_ret
        exact ⟨rfl, G1.out⟩
  · have hno : r < 1 ∨ 8 < r ∨ okL L = false := by
      by_cases h1 : r < 1
      · exact Or.inl h1
      · by_cases h2 : 8 < r
        · exact Or.inr (Or.inl h2)
        · cases h3 : okL L with
          | false => exact Or.inr (Or.inr rfl)
          | true => exact absurd ⟨⟨by omega, by omega⟩, h3⟩ hy
    have HA1 := Lib.hid (fun (W : World) (hF : Fr [] w W) => sc_Assign_no la lc n L r W (HL.out.fr hF) HN.out (by omega) hno)
    have HA2 := Lib.hid (fun (W : World) (hF : Fr [] w W) => r14_Assign_no la lc n L r W (HL.out.fr hF) HN.out (by omega) hno)
    clear hno hy
    go_enter Try.func3, Try.ntmps3
    go_wp2_with (first
      | (go_at_call 9; refine (awake14 _).mono ?_; rintro e w1 ⟨rfl, hF⟩; have HF1 := Lib.hid hF; clear hF)
      | (go_at_call 10; (with_reducible refine (HA1.out _ HF1.out).mono ?_); rintro e w2 ⟨rfl, hF⟩; have HF2 := Lib.hid hF; clear hF)
      | (go_at_call 11; (with_reducible refine (HA2.out _ (HF1.out.trans HF2.out)).mono ?_); rintro e w3 ⟨rfl, hF⟩; have HF3 := Lib.hid hF; clear hF))
    have HFW := Lib.hid (HF1.out.trans (HF2.out.trans HF3.out))
    go_loopw [12] (fun iv wr => iv = .int .i64 0 ∧ Hid (Fr [] w wr)) (fun _ _ => 0)
    case atStart => exact ⟨rfl, HFW⟩
    case round =>
      obtain ⟨rfl, G1⟩ := hrel
      go_wp2_with fail
      go_ret
      exact ⟨rfl, G1.out⟩
end Go.Proofs.Ytomcfjckhajhmaa
