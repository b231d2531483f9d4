/- ScanEnough: the walk. -/
import Derived.Test.YtomcfjckhajhmaaScnAwake
import Derived.Test.YtomcfjckhajhmaaScnLaws
namespace Go.Proofs.Ytomcfjckhajhmaa
open Go.RowKit

/-- what the greatest number of intervals at one beginning says of the cells -/
theorem enough_said {L : List Iv} {r : Nat} {s : St} (hs : Scanned L r s) (hok : okL L = true) {M : Nat} (h1 : ∀ x, x ∈ L → L.countP (conts x.f) ≤ M) (h2 : M = 0 ∨ ∃ x, x ∈ L ∧ M = L.countP (conts x.f)) : (M ≤ r → s.cells = 0) ∧ (r < M → 1 ≤ s.cells ∧ s.cells + r ≤ L.length) := by
  unfold okL at hok
  simp only [Bool.and_eq_true, decide_eq_true_eq] at hok
  obtain ⟨S, p, hg, ru⟩ := hs.good (List.pairwise_map.1 hok.2)
  have hI := ru.inv hg
  have hw : ∀ x, x ∈ S → x.f ≤ x.t := fun x hx => by
    have := List.all_eq_true.1 hok.1 x (p.mem_iff.1 hx)
    unfold okI at this
    simp at this
    exact this.2
  constructor
  · intro hM
    exact ru.enough hg hw (L := L) (fun x hx => p.mem_iff.1 hx) (fun i hi => Nat.le_trans (h1 i hi) hM)
  · intro hM
    rcases h2 with h2 | ⟨x, hx, h2⟩
    · omega
    · have hc := hI.some_cell hg.nodup (i := x) (by rw [p.countP_eq]; omega)
      have := hI.few hc
      rw [p.length_eq] at this
      exact ⟨hc, this⟩
set_option maxRecDepth 100000 in
set_option maxHeartbeats 8000000 in
theorem scanEnough_walk (la : Option Addr) (lc n : Nat) (L : List Iv) (r : Int) (w : World) (hL : IvM w la L) (hn : L.length = n) (hnn : n < 1099511627776 * 8) : Calls Try.prog 5 #[.slice la n lc, .int .i64 r] w (Still (.bool true) w) := by
  have HL := Lib.hid hL
  have HN := Lib.hid hn
  by_cases hy : (1 ≤ r ∧ r ≤ 8) ∧ okL L = true
  · obtain ⟨⟨hr1, hr8⟩, hok⟩ := hy
    obtain ⟨r, rfl⟩ : ∃ k : Nat, r = (k : Int) := ⟨r.toNat, by omega⟩
    have HAS := Lib.hid (fun (W : World) (hF : Fr [] w W) => sc_Assign_yes la lc n L r W (HL.out.fr hF) HN.out hnn (by omega) hok)
    have HOK := Lib.hid hok
    clear hL hn hok
    go_enter Try.func5, Try.ntmps5
    go_wp2_with (first
      | (go_at_call 9; refine (awake14 _).mono ?_; rintro e w1 ⟨rfl, hF⟩; have HF1 := Lib.hid hF; clear hF)
      | (go_at_call 10; refine (HAS.out _ HF1.out).mono ?_; rintro e w2 ⟨pb, s, cur, rfl, hF, hpb, hcu, hpc, hsc⟩; have HF2 := Lib.hid (HF1.out.trans hF); have HSC := Lib.hid hsc; have HCU := Lib.hid hcu; have HPC := Lib.hid hpc; clear hF hcu hpc hsc hpb))
    obtain ⟨c, hc⟩ : ∃ c, c = s.cells := ⟨_, rfl⟩
    rw [← hc]
    have HCE := Lib.hid hc
    clear hc
    go_loopw [9, 10] (fun m i wr => ∃ (k M : Nat), k ≤ n ∧ i = .int .i64 k ∧ m = .int .i64 M ∧ Hid (Fr [] w wr) ∧ Hid (∀ x, x ∈ L.take k → L.countP (conts x.f) ≤ M) ∧ Hid (M = 0 ∨ ∃ x, x ∈ L ∧ M = L.countP (conts x.f)) ∧ M ≤ n) (fun _ i _ => n - (RowKit.intOf i).toNat)
    case atStart => exact ⟨0, 0, Nat.zero_le _, rfl, rfl, HF2, Lib.hid (fun x hx => by simp at hx), Lib.hid (Or.inl rfl), Nat.zero_le _⟩
    case round =>
      obtain ⟨k, M, hk, rfl, rfl, HF, H1, H2, hMn⟩ := hrel
      by_cases hkn : k < n
      · obtain ⟨x, hx⟩ : ∃ x, L[k]? = some x := ⟨_, List.getElem?_eq_getElem (by rw [HN.out]; exact hkn)⟩
        have k0 : (0 : Int) ≤ (k : Int) := by omega
        have k1 : (k : Int) < (n : Int) := by omega
        have HX := Lib.hid hx
        clear hx
        go_wp2
        go_loopw [11, 12] (fun m i wr => ∃ (j q : Nat), j ≤ n ∧ i = .int .i64 j ∧ m = .int .i64 q ∧ Hid (Fr [] w wr) ∧ Hid (q = (L.take j).countP (conts x.f)) ∧ q ≤ j) (fun _ i _ => n - (RowKit.intOf i).toNat)
        case atStart => exact ⟨0, 0, Nat.zero_le _, rfl, rfl, HF, Lib.hid (by simp), Nat.le_refl _⟩
        case round =>
          obtain ⟨j, q, hj, rfl, rfl, HF3, HQ, hqj⟩ := hrel
          by_cases hjn : j < n
          · obtain ⟨y, hy⟩ : ∃ y, L[j]? = some y := ⟨_, List.getElem?_eq_getElem (by rw [HN.out]; exact hjn)⟩
            obtain ⟨gl, ol, rfl, c0, c1, c2⟩ := (HL.out.fr HF3.out) k x HX.out
            obtain ⟨gl', ol', he, d0, d1, d2⟩ := (HL.out.fr HF3.out) j y hy
            cases he
            have j0 : (0 : Int) ≤ (j : Int) := by omega
            have j1 : (j : Int) < (n : Int) := by omega
            have HT : Hid (L.take (j + 1) = L.take j ++ [y]) := Lib.hid (by rw [List.take_add_one, hy]; rfl)
            have HCN : Hid (conts x.f y = decide (y.f ≤ x.f ∧ x.f ≤ y.t)) := Lib.hid rfl
            clear hy
            by_cases hc1 : y.f ≤ x.f
            · have e1 : decide (y.f ≤ x.f) = true := by simpa using hc1
              by_cases hc2 : x.f ≤ y.t
              · have e2 : decide (x.f ≤ y.t) = true := by simpa using hc2
                go_wp2_with fail
                go_quiet (fail)
                go_wp2_with fail
                go_roundw
                case rel =>
                  refine ⟨j + 1, q + 1, by omega, by go_num, by go_num, HF3.out.drewN _, Lib.hid ?_, by omega⟩
                  rw [HT.out, List.countP_append, ← HQ.out]
                  have hv : conts x.f y = true := by rw [HCN.out]; simp; omega
                  simp [hv]
                case measure => simp [RowKit.intOf]; omega
              · have e2 : decide (x.f ≤ y.t) = false := by simpa using hc2
                go_wp2_with fail
                go_quiet (fail)
                go_wp2_with fail
                go_roundw
                case rel =>
                  refine ⟨j + 1, q, by omega, by go_num, rfl, HF3.out.drewN _, Lib.hid ?_, by omega⟩
                  rw [HT.out, List.countP_append, ← HQ.out]
                  have hv : conts x.f y = false := by rw [HCN.out]; simp; omega
                  simp [hv]
                case measure => simp [RowKit.intOf]; omega
            · have e1 : decide (y.f ≤ x.f) = false := by simpa using hc1
              go_wp2_with fail
              go_quiet (fail)
              go_wp2_with fail
              go_roundw
              case rel =>
                refine ⟨j + 1, q, by omega, by go_num, rfl, HF3.out.drewN _, Lib.hid ?_, by omega⟩
                rw [HT.out, List.countP_append, ← HQ.out]
                have hv : conts x.f y = false := by rw [HCN.out]; simp; omega
                simp [hv]
              case measure => simp [RowKit.intOf]; omega
          · have hje : j = n := by omega
            have j1 : ¬ (j : Int) < (n : Int) := by omega
            have HQ2 : Hid (q = L.countP (conts x.f)) := Lib.hid (by rw [HQ.out, List.take_of_length_le (by rw [HN.out]; omega)])
            have HT : Hid (L.take (k + 1) = L.take k ++ [x]) := Lib.hid (by rw [List.take_add_one, HX.out]; rfl)
            clear hje
            go_wp2_with fail
            go_roundw
            case rel =>
              refine ⟨k + 1, max M q, by omega, by go_num, vi (by omega), HF3.out, Lib.hid (fun z hz => ?_), Lib.hid ?_, by omega⟩
              · rw [HT.out] at hz
                rcases List.mem_append.1 hz with hz | hz
                · exact Nat.le_trans (H1.out z hz) (Nat.le_max_left _ _)
                · have e : z = x := by simpa using hz
                  rw [e, ← HQ2.out]
                  exact Nat.le_max_right _ _
              · rcases Nat.le_total q M with hl | hl
                · rw [Nat.max_eq_left hl]
                  exact H2.out
                · rw [Nat.max_eq_right hl]
                  exact Or.inr ⟨x, List.mem_of_getElem? HX.out, HQ2.out⟩
            case measure => simp [RowKit.intOf]; omega
      · have hke : k = n := by omega
        have k1 : ¬ (k : Int) < (n : Int) := by omega
        have H3 := Lib.hid (enough_said HSC.out HOK.out (M := M) (fun x hx => H1.out x (by rw [List.take_of_length_le (by rw [HN.out]; omega)]; exact hx)) H2.out)
        clear hke
        by_cases hM : M ≤ r
        · have e1 : decide ((M : Int) ≤ (r : Int)) = true := by simpa using hM
          have hM' : (M : Int) ≤ (r : Int) := by omega
          have hc0 : (c : Int) = 0 := by have := H3.out.1 hM; rw [← HCE.out] at this; omega
          have e2 : ((c : Int) == 0) = true := by simpa using hc0
          have HC0 := Lib.hid hc0
          clear hc0
          go_wp2_with fail
          go_ret
          exact ⟨ret1 (vb (by simp)), HF.out⟩
        · have e1 : decide ((M : Int) ≤ (r : Int)) = false := by simpa using hM
          have hM' : ¬ (M : Int) ≤ (r : Int) := by omega
          obtain ⟨q1, q2⟩ := H3.out.2 (by omega)
          rw [← HCE.out] at q1 q2
          rw [HN.out] at q2
          have wr1 : IntKind.i64.wrap ((n : Int) - (r : Int)) = (n : Int) - (r : Int) := by rw [IntKind.wrap_i64]; omega
          have hc1 : (1 : Int) ≤ (c : Int) := by omega
          have hc2 : (c : Int) ≤ (n : Int) - (r : Int) := by omega
          go_wp2_with fail
          go_ret
          exact ⟨ret1 (vb (by simp)), HF.out⟩
  · have hno : r < 1 ∨ 8 < r ∨ okL L = false := by
      by_cases h1 : r < 1
      · exact Or.inl h1
      · by_cases h2 : 8 < r
        · exact Or.inr (Or.inl h2)
        · cases h3 : okL L with
          | false => exact Or.inr (Or.inr rfl)
          | true => exact absurd ⟨⟨by omega, by omega⟩, h3⟩ hy
    have HAS := Lib.hid (fun (W : World) (hF : Fr [] w W) => sc_Assign_no la lc n L r W (HL.out.fr hF) HN.out hnn hno)
    clear hL hn hno hy
    go_enter Try.func5, Try.ntmps5
    go_wp2_with (first
      | (go_at_call 9; refine (awake14 _).mono ?_; rintro e w1 ⟨rfl, hF⟩; have HF1 := Lib.hid hF; clear hF)
      | (go_at_call 10; refine (HAS.out _ HF1.out).mono ?_; rintro e w2 ⟨rfl, hF⟩; have HF2 := Lib.hid (HF1.out.trans hF); clear hF))
    go_ret
    exact ⟨rfl, HF2.out⟩
end Go.Proofs.Ytomcfjckhajhmaa
