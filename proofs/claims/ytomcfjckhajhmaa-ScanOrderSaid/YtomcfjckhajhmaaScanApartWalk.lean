/- ScanApart: the walk. -/
import Derived.Test.YtomcfjckhajhmaaScnAwake
import Derived.Test.YtomcfjckhajhmaaScnLaws
import Derived.Shelf.SlSortCmp.QuietGrown
namespace Go.Proofs.Ytomcfjckhajhmaa
open Go.RowKit

theorem apart_said {L : List Iv} {r : Nat} {s : St} (hs : Scanned L r s) (nd : L.Pairwise (fun a b => a.v ≠ b.v)) : (∀ x, x ∈ L → (∃ q, q < r ∧ q < L.length ∧ s.out x.v = (0, q)) ∨ ∃ c, c < s.cells ∧ s.out x.v = (3, c)) ∧ ∀ x, x ∈ L → ∀ y, y ∈ L → x ≠ y → s.out x.v = s.out y.v → x.t < y.f ∨ y.t < x.f := by
  obtain ⟨S, p, hg, ru⟩ := hs.good nd
  have hI := ru.inv hg
  refine ⟨fun x hx => ?_, fun x hx y hy => hI.apart x (p.mem_iff.2 hx) y (p.mem_iff.2 hy)⟩
  rcases hI.reg x (p.mem_iff.2 hx) with ⟨q, h1, h2, h3, -⟩ | h
  · exact Or.inl ⟨q, h1, by rw [← p.length_eq]; exact h2, h3⟩
  · exact Or.inr h
set_option maxRecDepth 100000 in
set_option maxHeartbeats 1600000 in
theorem sc_Meet (x y : Iv) (w : World) (h : x.t < y.f ∨ y.t < x.f) : Calls Try.prog 12 #[x.val, y.val] w (Grows (.bool false) w) := by
  obtain ⟨v1, f1, t1⟩ := x
  obtain ⟨v2, f2, t2⟩ := y
  unfold Iv.val
  dsimp only at h ⊢
  go_enter Try.func12, Try.ntmps12
  go_wp2_with fail
  all_goals
    go_ret
    exact ⟨ret1 (vb (by simp; omega)), by (repeat (first | (with_reducible refine Gw.alloc ?_ _) | (with_reducible refine Gw.drew ?_) | (with_reducible refine Gw.drewN ?_ _) | (with_reducible exact Gw.refl _)))⟩
set_option maxRecDepth 100000 in
set_option maxHeartbeats 8000000 in
theorem scanApart_walk (la : Option Addr) (lc n : Nat) (L : List Iv) (r : Int) (w : World) (hL : IvM w la L) (hn : L.length = n) (hnn : n < 1099511627776 * 8) : Calls Try.prog 4 #[.slice la n lc, .int .i64 r] w (Still (.bool true) w) := by
  have HL := Lib.hid hL
  have HN := Lib.hid hn
  by_cases hy : (1 ≤ r ∧ r ≤ 8) ∧ okL L = true
  · obtain ⟨⟨hr1, hr8⟩, hok⟩ := hy
    obtain ⟨r, rfl⟩ : ∃ k : Nat, r = (k : Int) := ⟨r.toNat, by omega⟩
    have HAS := Lib.hid (fun (W : World) (hF : Fr [] w W) => sc_Assign_yes la lc n L r W (HL.out.fr hF) HN.out hnn (by omega) hok)
    have hnd : L.Pairwise (fun a b => a.v ≠ b.v) := by
      unfold okL at hok
      simp only [Bool.and_eq_true, decide_eq_true_eq] at hok
      exact List.pairwise_map.1 hok.2
    have HND := Lib.hid hnd
    clear hL hn hok hnd
    go_enter Try.func4, Try.ntmps4
    go_wp2_with (first
      | (go_at_call 9; refine (awake14 _).mono ?_; rintro e w1 ⟨rfl, hF⟩; have HF1 := Lib.hid hF; clear hF)
      | (go_at_call 10; refine (HAS.out _ HF1.out).mono ?_; rintro e w2 ⟨pb, s, cur, rfl, hF, hpb, hcu, hpc, hsc⟩; have HF2 := Lib.hid (HF1.out.trans hF); have HSC := Lib.hid hsc; have HCU := Lib.hid hcu; have HPC := Lib.hid hpc; clear hF hcu hpc hsc hpb))
    obtain ⟨c, hc⟩ : ∃ c, c = s.cells := ⟨_, rfl⟩
    rw [← hc]
    obtain ⟨hpl, hnm⟩ := apart_said HSC.out HND.out
    rw [← hc] at hpl
    have HPL := Lib.hid hpl
    have HNMA := Lib.hid hnm
    clear hc hpl hnm
    go_loopw [9] (fun iv wr => ∃ i : Nat, i ≤ n ∧ iv = .int .i64 i ∧ Hid (Fr [] w wr) ∧ Hid (Fr [] w2 wr)) (fun iv _ => n - (RowKit.intOf iv).toNat)
    case atStart => exact ⟨0, Nat.zero_le _, rfl, HF2, Fr.refl _ _⟩
    case round =>
      obtain ⟨i, hi, rfl, HF, HFW⟩ := hrel
      by_cases hin : i < n
      rotate_left
      · have t6 : ¬ (i : Int) < (n : Int) := by omega
        go_wp2_with fail
        go_ret
        exact ⟨rfl, HF.out⟩
      obtain ⟨x, hx⟩ : ∃ x, L[i]? = some x := ⟨_, List.getElem?_eq_getElem (by rw [HN.out]; exact hin)⟩
      have HX := Lib.hid hx
      have HNM := Lib.hid (HNMA.out x (List.mem_of_getElem? hx))
      have hcu := HFW.out.heap (by simp) HCU.out
      obtain ⟨c0, c1, c2⟩ := HPC.out.at_ i x hx
      have c0 := cell_of_heap hcu c0
      have c1 := cell_of_heap hcu c1
      have c2 := cell_of_heap hcu c2
      clear hcu
      rcases HPL.out x (List.mem_of_getElem? hx) with ⟨p, hp, -, hox⟩ | ⟨p, hp, hox⟩
      all_goals clear hx
      · -- kind 0
        rw [hox] at c0 c1
        have HOX := Lib.hid hox
        have t1 : decide ((p : Int) < 0) = false := by simp <;> omega
        have t2 : ¬ (p : Int) < 0 := by omega
        have t4 : decide ((r : Int) ≤ (p : Int)) = false := by simp <;> omega
        have t5 : ¬ (r : Int) ≤ (p : Int) := by omega
        have t6 : (i : Int) < (n : Int) := by omega
        have t7 : (0 : Int) ≤ (i : Int) := by omega
        clear hox
        go_wp2_with fail
        obtain ⟨W1, hW1⟩ : ∃ W1, W1 = wr.alloc (.cells #[.int .i64 0, .int .i64 p, .int .u64 0] 31) := ⟨_, rfl⟩
        obtain ⟨cp, hcp⟩ : ∃ cp, cp = wr.heap.size := ⟨_, rfl⟩
        rw [← hW1, ← hcp]
        have hB : W1.heap[cp]? = some (.cells #[.int .i64 0, .int .i64 p, .int .u64 0] 31 (0, 0)) := by rw [hW1, hcp]; exact heap_new _ _
        have HB := Lib.hid hB
        have HF1 : Hid (Fr [] w W1) := Lib.hid (by rw [hW1]; exact HF.out.trans ((Fr.refl _ _).alloc _))
        have HF1' : Hid (Fr [] w2 W1) := Lib.hid (by rw [hW1]; exact HFW.out.trans ((Fr.refl _ _).alloc _))
        clear hW1 hcp hB c0 c1 c2
        go_loopw [11] (fun jv wr2 => ∃ j : Nat, j ≤ i ∧ jv = .int .i64 j ∧ Hid (Fr [] W1 wr2)) (fun jv _ => i - (RowKit.intOf jv).toNat)
        case atStart => exact ⟨0, Nat.zero_le _, rfl, Fr.refl _ _⟩
        case round =>
          obtain ⟨j, hj, rfl, HF3⟩ := hrel
          by_cases hji : j < i
          · obtain ⟨y, hy⟩ : ∃ y, L[j]? = some y := ⟨_, List.getElem?_eq_getElem (by rw [HN.out]; omega)⟩
            have HY := Lib.hid hy
            have hne : L[j]? = some y → x ≠ y := fun h e => by
              have := nd_inj HND.out HX.out h (by rw [e])
              omega
            have hcu := (HF1'.out.trans HF3.out).heap (by simp) HCU.out
            obtain ⟨d0, d1, d2⟩ := HPC.out.at_ j y hy
            have d0 := cell_of_heap hcu d0
            have d1 := cell_of_heap hcu d1
            have d2 := cell_of_heap hcu d2
            have hcb := HF3.out.heap (by simp) HB.out
            have q0 := cell_of_heap (o := 0) hcb rfl; have q1 := cell_of_heap (o := 1) hcb rfl; have q2 := cell_of_heap (o := 2) hcb rfl
            simp only [List.getElem_toArray, List.getElem_cons_zero, List.getElem_cons_succ] at q0 q1 q2
            have e7 : (j : Int) < (n : Int) := by omega
            have e8 : (0 : Int) ≤ (j : Int) := by omega
            have e9 : (j : Int) < (i : Int) := by omega
            clear hcu hcb
            rcases HPL.out y (List.mem_of_getElem? hy) with ⟨p2, hp2, -, ho2⟩ | ⟨p2, hp2, ho2⟩
            all_goals clear hy
            · -- the other's kind 0
              rw [ho2] at d0 d1
              by_cases he : p2 = p
              · subst he
                have hnm := HNM.out y (List.mem_of_getElem? HY.out) (hne HY.out) (by rw [HOX.out, ho2])
                have HMT : Hid (∀ W, Calls Try.prog 12 #[x.val, y.val] W (Grows (.bool false) W)) := Lib.hid fun W => sc_Meet x y W hnm
                unfold Iv.val at HMT
                obtain ⟨gl, ol, rfl, i0, i1, i2⟩ := (HL.out.fr (HF1.out.trans HF3.out)) i x HX.out
                obtain ⟨gl', ol', hee, j0, j1, j2⟩ := (HL.out.fr (HF1.out.trans HF3.out)) j y HY.out
                cases hee
                clear hnm hne ho2
                go_wp2_with fail
                have hmx : Try.prog.follows .mixedOrders = true := by kernel_rfl
                have G0 := fun n os => cell_grown (World.block_lt_of_cell? _ _ d0) d0 n os
                have G1 := fun n os => cell_grown (World.block_lt_of_cell? _ _ d1) d1 n os
                have G2 := fun n os => cell_grown (World.block_lt_of_cell? _ _ d2) d2 n os
                have G3 := fun n os => cell_grown (World.block_lt_of_cell? _ _ q0) q0 n os
                have G4 := fun n os => cell_grown (World.block_lt_of_cell? _ _ q1) q1 n os
                have G5 := fun n os => cell_grown (World.block_lt_of_cell? _ _ q2) q2 n os
                have G6 := fun n os => cell_grown (World.block_lt_of_cell? _ _ i0) i0 n os
                have G7 := fun n os => cell_grown (World.block_lt_of_cell? _ _ i1) i1 n os
                have G8 := fun n os => cell_grown (World.block_lt_of_cell? _ _ i2) i2 n os
                have G9 := fun n os => cell_grown (World.block_lt_of_cell? _ _ j0) j0 n os
                have GA := fun n os => cell_grown (World.block_lt_of_cell? _ _ j1) j1 n os
                have GB := fun n os => cell_grown (World.block_lt_of_cell? _ _ j2) j2 n os
                clear d0 d1 d2 q0 q1 q2 i0 i1 i2 j0 j1 j2
                go_quiet_grown (exact Calls.grown_of (HMT.out _))
                go_wp2_with fail
                go_roundw
                case rel => exact ⟨j + 1, by omega, by go_num, Lib.hid (HF3.out.trans (Fr.grow _ _))⟩
                case measure => simp [RowKit.intOf]; omega
              · have t1 : ((p2 : Int) == (p : Int)) = false := by simpa using fun h : (p2 : Int) = (p : Int) => he (by omega)
                have t2 : decide ((p2 : Int) = (p : Int)) = false := by simpa using fun h : (p2 : Int) = (p : Int) => he (by omega)
                have t3 : (p2 : Int) ≠ (p : Int) := fun h => he (by omega)
                clear hne ho2
                go_wp2_with fail
                go_quiet (fail)
                go_wp2_with fail
                go_roundw
                case rel => exact ⟨j + 1, by omega, by go_num, Lib.hid (HF3.out.drewN _)⟩
                case measure => simp [RowKit.intOf]; omega
            · -- the other's kind 3
              rw [ho2] at d0 d1
              clear hne ho2
              go_wp2_with fail
              go_quiet (fail)
              go_wp2_with fail
              go_roundw
              case rel => exact ⟨j + 1, by omega, by go_num, Lib.hid (HF3.out.drewN _)⟩
              case measure => simp [RowKit.intOf]; omega

          · have hje : j = i := by omega
            have e9 : ¬ (j : Int) < (i : Int) := by omega
            clear hje
            go_wp2_with fail
            go_roundw
            case rel => exact ⟨i + 1, by omega, by go_num, Lib.hid (HF1.out.trans HF3.out), Lib.hid (HF1'.out.trans HF3.out)⟩
            case measure => simp [RowKit.intOf]; omega
      · -- kind 3
        rw [hox] at c0 c1
        have HOX := Lib.hid hox
        have t1 : decide ((p : Int) < 0) = false := by simp <;> omega
        have t2 : ¬ (p : Int) < 0 := by omega
        have t4 : decide ((c : Int) ≤ (p : Int)) = false := by simp <;> omega
        have t5 : ¬ (c : Int) ≤ (p : Int) := by omega
        have t6 : (i : Int) < (n : Int) := by omega
        have t7 : (0 : Int) ≤ (i : Int) := by omega
        clear hox
        go_wp2_with fail
        obtain ⟨W1, hW1⟩ : ∃ W1, W1 = wr.alloc (.cells #[.int .i64 3, .int .i64 p, .int .u64 0] 31) := ⟨_, rfl⟩
        obtain ⟨cp, hcp⟩ : ∃ cp, cp = wr.heap.size := ⟨_, rfl⟩
        rw [← hW1, ← hcp]
        have hB : W1.heap[cp]? = some (.cells #[.int .i64 3, .int .i64 p, .int .u64 0] 31 (0, 0)) := by rw [hW1, hcp]; exact heap_new _ _
        have HB := Lib.hid hB
        have HF1 : Hid (Fr [] w W1) := Lib.hid (by rw [hW1]; exact HF.out.trans ((Fr.refl _ _).alloc _))
        have HF1' : Hid (Fr [] w2 W1) := Lib.hid (by rw [hW1]; exact HFW.out.trans ((Fr.refl _ _).alloc _))
        clear hW1 hcp hB c0 c1 c2
        go_loopw [11] (fun jv wr2 => ∃ j : Nat, j ≤ i ∧ jv = .int .i64 j ∧ Hid (Fr [] W1 wr2)) (fun jv _ => i - (RowKit.intOf jv).toNat)
        case atStart => exact ⟨0, Nat.zero_le _, rfl, Fr.refl _ _⟩
        case round =>
          obtain ⟨j, hj, rfl, HF3⟩ := hrel
          by_cases hji : j < i
          · obtain ⟨y, hy⟩ : ∃ y, L[j]? = some y := ⟨_, List.getElem?_eq_getElem (by rw [HN.out]; omega)⟩
            have HY := Lib.hid hy
            have hne : L[j]? = some y → x ≠ y := fun h e => by
              have := nd_inj HND.out HX.out h (by rw [e])
              omega
            have hcu := (HF1'.out.trans HF3.out).heap (by simp) HCU.out
            obtain ⟨d0, d1, d2⟩ := HPC.out.at_ j y hy
            have d0 := cell_of_heap hcu d0
            have d1 := cell_of_heap hcu d1
            have d2 := cell_of_heap hcu d2
            have hcb := HF3.out.heap (by simp) HB.out
            have q0 := cell_of_heap (o := 0) hcb rfl; have q1 := cell_of_heap (o := 1) hcb rfl; have q2 := cell_of_heap (o := 2) hcb rfl
            simp only [List.getElem_toArray, List.getElem_cons_zero, List.getElem_cons_succ] at q0 q1 q2
            have e7 : (j : Int) < (n : Int) := by omega
            have e8 : (0 : Int) ≤ (j : Int) := by omega
            have e9 : (j : Int) < (i : Int) := by omega
            clear hcu hcb
            rcases HPL.out y (List.mem_of_getElem? hy) with ⟨p2, hp2, -, ho2⟩ | ⟨p2, hp2, ho2⟩
            all_goals clear hy
            · -- the other's kind 0
              rw [ho2] at d0 d1
              clear hne ho2
              go_wp2_with fail
              go_quiet (fail)
              go_wp2_with fail
              go_roundw
              case rel => exact ⟨j + 1, by omega, by go_num, Lib.hid (HF3.out.drewN _)⟩
              case measure => simp [RowKit.intOf]; omega
            · -- the other's kind 3
              rw [ho2] at d0 d1
              by_cases he : p2 = p
              · subst he
                have hnm := HNM.out y (List.mem_of_getElem? HY.out) (hne HY.out) (by rw [HOX.out, ho2])
                have HMT : Hid (∀ W, Calls Try.prog 12 #[x.val, y.val] W (Grows (.bool false) W)) := Lib.hid fun W => sc_Meet x y W hnm
                unfold Iv.val at HMT
                obtain ⟨gl, ol, rfl, i0, i1, i2⟩ := (HL.out.fr (HF1.out.trans HF3.out)) i x HX.out
                obtain ⟨gl', ol', hee, j0, j1, j2⟩ := (HL.out.fr (HF1.out.trans HF3.out)) j y HY.out
                cases hee
                clear hnm hne ho2
                go_wp2_with fail
                have hmx : Try.prog.follows .mixedOrders = true := by kernel_rfl
                have G0 := fun n os => cell_grown (World.block_lt_of_cell? _ _ d0) d0 n os
                have G1 := fun n os => cell_grown (World.block_lt_of_cell? _ _ d1) d1 n os
                have G2 := fun n os => cell_grown (World.block_lt_of_cell? _ _ d2) d2 n os
                have G3 := fun n os => cell_grown (World.block_lt_of_cell? _ _ q0) q0 n os
                have G4 := fun n os => cell_grown (World.block_lt_of_cell? _ _ q1) q1 n os
                have G5 := fun n os => cell_grown (World.block_lt_of_cell? _ _ q2) q2 n os
                have G6 := fun n os => cell_grown (World.block_lt_of_cell? _ _ i0) i0 n os
                have G7 := fun n os => cell_grown (World.block_lt_of_cell? _ _ i1) i1 n os
                have G8 := fun n os => cell_grown (World.block_lt_of_cell? _ _ i2) i2 n os
                have G9 := fun n os => cell_grown (World.block_lt_of_cell? _ _ j0) j0 n os
                have GA := fun n os => cell_grown (World.block_lt_of_cell? _ _ j1) j1 n os
                have GB := fun n os => cell_grown (World.block_lt_of_cell? _ _ j2) j2 n os
                clear d0 d1 d2 q0 q1 q2 i0 i1 i2 j0 j1 j2
                go_quiet_grown (exact Calls.grown_of (HMT.out _))
                go_wp2_with fail
                go_roundw
                case rel => exact ⟨j + 1, by omega, by go_num, Lib.hid (HF3.out.trans (Fr.grow _ _))⟩
                case measure => simp [RowKit.intOf]; omega
              · have t1 : ((p2 : Int) == (p : Int)) = false := by simpa using fun h : (p2 : Int) = (p : Int) => he (by omega)
                have t2 : decide ((p2 : Int) = (p : Int)) = false := by simpa using fun h : (p2 : Int) = (p : Int) => he (by omega)
                have t3 : (p2 : Int) ≠ (p : Int) := fun h => he (by omega)
                clear hne ho2
                go_wp2_with fail
                go_quiet (fail)
                go_wp2_with fail
                go_roundw
                case rel => exact ⟨j + 1, by omega, by go_num, Lib.hid (HF3.out.drewN _)⟩
                case measure => simp [RowKit.intOf]; omega

          · have hje : j = i := by omega
            have e9 : ¬ (j : Int) < (i : Int) := by omega
            clear hje
            go_wp2_with fail
            go_roundw
            case rel => exact ⟨i + 1, by omega, by go_num, Lib.hid (HF1.out.trans HF3.out), Lib.hid (HF1'.out.trans HF3.out)⟩
            case measure => simp [RowKit.intOf]; omega
  · have hno : r < 1 ∨ 8 < r ∨ okL L = false := by
      by_cases h1 : r < 1
      · exact Or.inl h1
      · by_cases h2 : 8 < r
        · exact Or.inr (Or.inl h2)
        · cases h3 : okL L with
          | false => exact Or.inr (Or.inr rfl)
          | true => exact absurd ⟨⟨by omega, by omega⟩, h3⟩ hy
    have HAS := Lib.hid (fun (W : World) (hF : Fr [] w W) => sc_Assign_no la lc n L r W (HL.out.fr hF) HN.out hnn hno)
    clear hL hn hno hy
    go_enter Try.func4, Try.ntmps4
    go_wp2_with (first
      | (go_at_call 9; refine (awake14 _).mono ?_; rintro e w1 ⟨rfl, hF⟩; have HF1 := Lib.hid hF; clear hF)
      | (go_at_call 10; refine (HAS.out _ HF1.out).mono ?_; rintro e w2 ⟨rfl, hF⟩; have HF2 := Lib.hid (HF1.out.trans hF); clear hF))
    go_ret
    exact ⟨rfl, HF2.out⟩
end Go.Proofs.Ytomcfjckhajhmaa
