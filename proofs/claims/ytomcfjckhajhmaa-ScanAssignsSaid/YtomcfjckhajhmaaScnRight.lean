/- scan: the document's: may intervals be? -/
import Derived.Test.YtomcfjckhajhmaaScnAwake
import Derived.Test.YtomcfjckhajhmaaScnLaws
namespace Go.Proofs.Ytomcfjckhajhmaa
open Go.RowKit

theorem okL_bad {L : List Iv} {x : Iv} (hx : x ∈ L) (h : okI x = false) : okL L = false := by
  unfold okL
  rw [Bool.and_eq_false_iff]
  exact Or.inl (List.all_eq_false.2 ⟨x, hx, by rw [h]; simp⟩)
theorem okL_twice {L : List Iv} {j i : Nat} {x y : Iv} (hji : j < i) (hy : L[j]? = some y) (hx : L[i]? = some x) (h : y.v = x.v) : okL L = false := by
  unfold okL
  rw [Bool.and_eq_false_iff]
  refine Or.inr (decide_eq_false fun hn => ?_)
  obtain ⟨h1, rfl⟩ := List.getElem?_eq_some_iff.1 hy
  obtain ⟨h2, rfl⟩ := List.getElem?_eq_some_iff.1 hx
  exact List.pairwise_iff_getElem.1 (List.pairwise_map.1 hn) j i h1 h2 hji h
set_option maxRecDepth 100000 in
set_option maxHeartbeats 8000000 in
theorem r14_right (la : Option Addr) (lc n : Nat) (L : List Iv) (r : Int) (w : World) (hL : IvM w la L) (hn : L.length = n) (hnn : n < 1099511627776 * 8) : Calls Try.prog 16 #[.slice la n lc, .int .i64 r] w (Still (.bool (decide (1 ≤ r ∧ r ≤ 8) && okL L)) w) := by
  have HL := Lib.hid hL
  have HN := Lib.hid hn
  clear hL hn
  by_cases h1 : r < 1
  · have e1 : decide (r < 1) = true := by simpa using h1
    have hf : (decide (1 ≤ r ∧ r ≤ 8) && okL L) = false := by rw [decide_eq_false (by omega)]; rfl
    rw [hf]
    go_enter Try.func16, Try.ntmps16
    go_wp2_with fail
    go_ret
    exact ⟨rfl, by (repeat (first | (with_reducible refine Fr.setCell ?_ (fun h => absurd h (Nat.lt_irrefl _)) _) | (with_reducible refine Fr.setCell ?_ (fun h => absurd h (by first | omega | (simp; done) | (simp; omega) | (dsimp only; omega))) _) | (with_reducible refine Fr.alloc ?_ _) | (with_reducible refine Fr.drew ?_) | (with_reducible refine Fr.drewN ?_ _) | (with_reducible exact Fr.refl _ _)))⟩
  by_cases h2 : 8 < r
  · have e1 : decide (r < 1) = false := by simpa using h1
    have e2 : decide (8 < r) = true := by simpa using h2
    have hf : (decide (1 ≤ r ∧ r ≤ 8) && okL L) = false := by rw [decide_eq_false (by omega)]; rfl
    rw [hf]
    go_enter Try.func16, Try.ntmps16
    go_wp2_with fail
    go_ret
    exact ⟨rfl, by (repeat (first | (with_reducible refine Fr.setCell ?_ (fun h => absurd h (Nat.lt_irrefl _)) _) | (with_reducible refine Fr.setCell ?_ (fun h => absurd h (by first | omega | (simp; done) | (simp; omega) | (dsimp only; omega))) _) | (with_reducible refine Fr.alloc ?_ _) | (with_reducible refine Fr.drew ?_) | (with_reducible refine Fr.drewN ?_ _) | (with_reducible exact Fr.refl _ _)))⟩
  have e1 : decide (r < 1) = false := by simpa using h1
  have e2 : decide (8 < r) = false := by simpa using h2
  have hf : (decide (1 ≤ r ∧ r ≤ 8) && okL L) = okL L := by rw [decide_eq_true (by omega)]; rfl
  rw [hf]
  obtain ⟨ok, hok⟩ : ∃ ok, ok = okL L := ⟨_, rfl⟩
  have HOK := Lib.hid hok
  rw [← hok]
  clear hf hok
  go_enter Try.func16, Try.ntmps16
  go_wp2_with fail
  go_loopw [5] (fun iv wr => ∃ i : Nat, i ≤ n ∧ iv = .int .i64 i ∧ Hid (Fr [] w wr) ∧ Hid ((L.take i).all okI = true) ∧ Hid ((L.take i).Pairwise (fun a b => a.v ≠ b.v))) (fun iv _ => n - (RowKit.intOf iv).toNat)
  case atStart => exact ⟨0, Nat.zero_le _, rfl, Fr.refl _ _, Lib.hid (by simp), Lib.hid (by simp)⟩
  case round =>
    obtain ⟨i, hi, rfl, HF, HA, HP⟩ := hrel
    by_cases hin : i < n
    · obtain ⟨x, hx⟩ : ∃ x, L[i]? = some x := ⟨_, List.getElem?_eq_getElem (by rw [HN.out]; exact hin)⟩
      obtain ⟨gl, ol, rfl, c0, c1, c2⟩ := (HL.out.fr HF.out) i x hx
      have HT : Hid (L.take (i + 1) = L.take i ++ [x]) := Lib.hid (by rw [List.take_add_one, hx]; rfl)
      have HX := Lib.hid hx
      have k0 : (0 : Int) ≤ (i : Int) := by omega
      have k1 : (i : Int) < (n : Int) := by omega
      clear hx
      by_cases hf : x.f < 0
      · have t1 : decide (x.f < 0) = true := by simpa using hf
        have hno : ok = false := by rw [HOK.out]; exact okL_bad (List.mem_of_getElem? HX.out) (by unfold okI; simp; omega)
        have HNO := Lib.hid hno
        clear hno
        go_wp2_with fail
        go_quiet (fail)
        go_wp2_with fail
        go_ret
        exact ⟨ret1 (vb HNO.out.symm), HF.out.drewN _⟩
      by_cases ht : x.t < x.f
      · have t1 : decide (x.f < 0) = false := by simpa using hf
        have t2 : decide (x.t < x.f) = true := by simpa using ht
        have hno : ok = false := by rw [HOK.out]; exact okL_bad (List.mem_of_getElem? HX.out) (by unfold okI; simp; omega)
        have HNO := Lib.hid hno
        clear hno
        go_wp2_with fail
        go_quiet (fail)
        go_wp2_with fail
        go_ret
        exact ⟨ret1 (vb HNO.out.symm), HF.out.drewN _⟩
      have t1 : decide (x.f < 0) = false := by simpa using hf
      have t2 : decide (x.t < x.f) = false := by simpa using ht
      have HOI : Hid (okI x = true) := Lib.hid (by unfold okI; simp; omega)
      go_wp2_with fail
      go_quiet (fail)
      go_wp2_with fail
      have HF2 := Lib.hid (HF.out.drewN nq)
      go_loopw [6] (fun jv wr => ∃ j : Nat, j ≤ i ∧ jv = .int .i64 j ∧ Hid (Fr [] w wr) ∧ Hid (∀ (a : Nat) (y : Iv), a < j → L[a]? = some y → y.v ≠ x.v)) (fun jv _ => i - (RowKit.intOf jv).toNat)
      case atStart => exact ⟨0, Nat.zero_le _, rfl, HF2, Lib.hid (fun a y h => by omega)⟩
      case round =>
        obtain ⟨j, hj, rfl, HF3, HV⟩ := hrel
        by_cases hji : j < i
        · obtain ⟨y, hy⟩ : ∃ y, L[j]? = some y := ⟨_, List.getElem?_eq_getElem (by rw [HN.out]; omega)⟩
          obtain ⟨gl', ol', he, d0, d1, d2⟩ := (HL.out.fr HF3.out) j y hy
          cases he
          obtain ⟨gl', ol', he, i0, i1, i2⟩ := (HL.out.fr HF3.out) i x HX.out
          cases he
          have HY := Lib.hid hy
          have j0 : (0 : Int) ≤ (j : Int) := by omega
          have j1 : (j : Int) < (n : Int) := by omega
          have j2 : (j : Int) < (i : Int) := by omega
          clear hy
          by_cases hv : y.v = x.v
          · have u1 : (y.v == x.v) = true := by simpa using hv
            have hno : ok = false := by rw [HOK.out]; exact okL_twice hji HY.out HX.out hv
            have HNO := Lib.hid hno
            clear hno
            rw [hv] at d0
            go_wp2_with fail
            go_quiet (fail)
            go_wp2_with fail
            go_ret
            exact ⟨ret1 (vb HNO.out.symm), HF3.out.drewN _⟩
          · have u1 : (y.v == x.v) = false := by simpa using hv
            have u2 : decide (y.v = x.v) = false := by simpa using hv
            go_wp2_with fail
            go_quiet (fail)
            go_wp2_with fail
            go_roundw
            case rel =>
              refine ⟨j + 1, by omega, by go_num, HF3.out.drewN _, Lib.hid (fun a z ha hz => ?_)⟩
              by_cases e : a = j
              · subst e
                rw [HY.out] at hz
                cases hz
                exact hv
              · exact HV.out a z (by omega) hz
            case measure => simp [RowKit.intOf]; omega
        · have hje : j = i := by omega
          have j2 : ¬ (j : Int) < (i : Int) := by omega
          go_wp2_with fail
          go_roundw
          case rel =>
            refine ⟨i + 1, by omega, by go_num, HF3.out, Lib.hid ?_, Lib.hid ?_⟩
            · rw [HT.out, List.all_append, HA.out]
              simp [HOI.out]
            · rw [HT.out]
              refine List.pairwise_append.2 ⟨HP.out, by simp, fun y hy z hz => ?_⟩
              have e : z = x := by simpa using hz
              subst e
              obtain ⟨a, ha⟩ := List.getElem?_of_mem hy
              have hal := (List.getElem?_eq_some_iff.1 ha).1
              rw [List.getElem?_take] at ha
              split at ha
              · exact HV.out a y (by omega) ha
              · cases ha
          case measure => simp [RowKit.intOf]; omega
    · have hie : i = n := by omega
      have k1 : ¬ (i : Int) < (n : Int) := by omega
      have hyes : ok = true := by
        rw [HOK.out]
        have h1 := HA.out
        have h2 := HP.out
        rw [List.take_of_length_le (by rw [HN.out]; omega)] at h1 h2
        unfold okL
        rw [h1, Bool.true_and]
        exact decide_eq_true (List.pairwise_map.2 h2)
      have HYES := Lib.hid hyes
      clear hyes hie
      go_wp2_with fail
      go_ret
      exact ⟨ret1 (vb HYES.out.symm), HF.out⟩
end Go.Proofs.Ytomcfjckhajhmaa
