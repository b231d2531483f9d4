/- ir: the starts of a unit. -/
import Derived.Test.YtcdpgchkdjjfgaaIrNums
import Derived.Deep.QuietTactic
import Derived.BigQuiet
namespace Go.Proofs.Ytcdpgchkdjjfgaa
open Go.RowKit

/-- no start is behind the next one -/
def rising (l : List Int) : Prop := ∀ (k : Nat) (a b : Int), l[k]? = some a → l[k + 1]? = some b → a ≤ b
open Classical in
noncomputable def startsOk (u : Un) : Bool := decide (2 ≤ u.starts.length ∧ u.starts.length ≤ 129 ∧ u.maps.length + 1 = u.starts.length ∧ u.starts[0]? = some 0 ∧ u.starts[u.starts.length - 1]? = some (u.code.length : Int) ∧ rising u.starts)
theorem startsOk_iff (u : Un) : startsOk u = true ↔ (2 ≤ u.starts.length ∧ u.starts.length ≤ 129 ∧ u.maps.length + 1 = u.starts.length ∧ u.starts[0]? = some 0 ∧ u.starts[u.starts.length - 1]? = some (u.code.length : Int) ∧ rising u.starts) := by
  unfold startsOk
  simp
set_option maxRecDepth 100000 in
set_option maxHeartbeats 4000000 in
theorem ir_areStarts (u : Un) (w : World) (hA : IntsAt w u.sa u.starts) (hB : UB u) : Calls Try.prog 27 #[u.v] w (Still (.bool (startsOk u)) w) := by
  have hsn := hB.sn
  have hmn := hB.mn
  have hcn := hB.cn
  have hI := startsOk_iff u
  have hw := fun W => ir_within ((u.starts.length : Int) - 1) 1 128 W
  generalize startsOk u = v at *
  obtain ⟨method, args, temps, R, P, S, ea, en, ec, ca, co, cc, sa, st, sc, ma, mp, mc⟩ := u
  unfold Un.v
  simp only at hsn hmn hcn hI hw hA ⊢
  clear hB
  generalize en.length = el at *
  generalize co.length = cl at *
  obtain ⟨sl, hsl⟩ : ∃ n, n = st.length := ⟨_, rfl⟩
  rw [← hsl] at hI hsn hw ⊢
  generalize mp.length = ml at *
  have HS := Lib.hid hsl
  have HA := Lib.hid hA
  have HI := Lib.hid hI
  clear hsl hA hI
  by_cases h1 : 2 ≤ sl ∧ sl ≤ 129
  · have hb : wtn ((sl : Int) - 1) 1 128 = true := by unfold wtn; simp; omega
    simp only [hb] at hw
    clear hb
    obtain ⟨h1a, h1b⟩ := h1
    have e1 : IntKind.i64.wrap ((sl : Int) - 1) = (sl : Int) - 1 := IntWalk.i64_in _ (by omega)
    by_cases h2 : ml + 1 = sl
    · have e2 : (sl : Int) - 1 = (ml : Int) := by omega
      rw [e2] at hw
      obtain ⟨a0, ha0⟩ : ∃ x, st[0]? = some x := ⟨_, List.getElem?_eq_getElem (by rw [← HS.out]; omega)⟩
      obtain ⟨aL, haL⟩ : ∃ x, st[ml]? = some x := ⟨_, List.getElem?_eq_getElem (by rw [← HS.out]; omega)⟩
      obtain ⟨g, o, rfl, c0⟩ := HA.out _ _ ha0
      obtain ⟨_, _, e, cL⟩ := HA.out _ _ haL
      cases e
      rw [Nat.add_zero] at c0
      have hg : g < w.heap.size := World.block_lt_of_cell? w _ c0
      have eL : sl - 1 = ml := by omega
      have HJ : Hid (v = true ↔ a0 = 0 ∧ aL = (cl : Int) ∧ rising st) := Lib.hid (by
        rw [HI.out, ha0, eL, haL]
        simp only [Option.some.injEq]
        constructor
        · rintro ⟨-, -, -, h, k, r⟩; exact ⟨h, k, r⟩
        · rintro ⟨h, k, r⟩; exact ⟨h1a, h1b, h2, h, k, r⟩)
      have hml0 : (0 : Int) ≤ (ml : Int) := by omega
      have hml1 : (1 : Int) ≤ (ml : Int) := by omega
      have hmls : (ml : Int) < (sl : Int) := by omega
      have hsl0 : (0 : Int) < (sl : Int) := by omega
      have H2 := Lib.hid h2
      clear HI eL h2 ha0 haL
      by_cases hz : a0 = 0
      · subst hz
        by_cases hy : aL = (cl : Int)
        · have HR : Hid (v = true ↔ rising st) := Lib.hid (by rw [HJ.out]; simp [hy])
          have hy1 : (aL == (cl : Int)) = true := by simp [hy]
          have hy2 : (aL != (cl : Int)) = false := by simp [hy]
          clear HJ hy
          go_enter Try.func27, Try.ntmps27
          go_wp2_with (go_at_call 39; (with_reducible refine (hw _).mono ?_); rintro e w' ⟨rfl, rfl⟩)
          go_quiet (fail)
          go_wp2_with fail
          go_loopw [36] (fun i wr => ∃ k : Nat, k ≤ ml ∧ i = .int .i64 k ∧ Hid (Fr [] w wr) ∧ Hid (wr.heap[w.heap.size]? = some (.cells #[.int .u64 method, .int .i64 args, .int .i64 temps, .int .i64 R, .int .i64 P, .int .i64 S, .slice ea el ec, .slice ca cl cc, .slice (some ⟨g, o, none⟩) sl sc, .slice ma ml mc] 43)) ∧ Hid (∀ j a b, j < k → st[j]? = some a → st[j + 1]? = some b → a ≤ b)) (fun i _ => ml - (intOf i).toNat)
          case atStart => exact ⟨0, Nat.zero_le _, rfl, ((Fr.refl [] w).alloc _).drewN _, heap_new _ _, Lib.hid (fun j a b hj => absurd hj (by omega))⟩
          case round =>
            obtain ⟨k, hk, rfl, HF, HB, HT⟩ := hrel
            have hw0 : w.heap.size < wr.heap.size := lt_of_heap HB.out
            by_cases hlt : k < ml
            · obtain ⟨x, hx⟩ : ∃ x, st[k]? = some x := ⟨_, List.getElem?_eq_getElem (by rw [← HS.out, ← H2.out]; omega)⟩
              obtain ⟨y, hy⟩ : ∃ y, st[k + 1]? = some y := ⟨_, List.getElem?_eq_getElem (by rw [← HS.out, ← H2.out]; omega)⟩
              obtain ⟨_, _, e, cx⟩ := (HA.out.fr HF.out) _ _ hx
              cases e
              obtain ⟨_, _, e, cy⟩ := (HA.out.fr HF.out) _ _ hy
              cases e
              have hgr : g < wr.heap.size := World.block_lt_of_cell? wr _ cx
              have b0 := cell_of_heap (o := 0) HB.out rfl; have b1 := cell_of_heap (o := 1) HB.out rfl; have b2 := cell_of_heap (o := 2) HB.out rfl; have b3 := cell_of_heap (o := 3) HB.out rfl; have b4 := cell_of_heap (o := 4) HB.out rfl; have b5 := cell_of_heap (o := 5) HB.out rfl; have b6 := cell_of_heap (o := 6) HB.out rfl; have b7 := cell_of_heap (o := 7) HB.out rfl; have b8 := cell_of_heap (o := 8) HB.out rfl; have b9 := cell_of_heap (o := 9) HB.out rfl
              have k0 : (0 : Int) ≤ (k : Int) := by omega
              have k1 : (k : Int) < (ml : Int) := by omega
              have k2 : (k : Int) < (sl : Int) := by omega
              have k3 : (k : Int) + 1 < (sl : Int) := by omega
              have k4 : (0 : Int) ≤ (k : Int) + 1 := by omega
              have k5 : IntKind.i64.wrap ((k : Int) + 1) = (k : Int) + 1 := IntWalk.i64_in _ (by omega)
              have k6 : ((k : Int) + 1).toNat = k + 1 := by omega
              by_cases hxy : x ≤ y
              · have HE : Hid (∀ j a b, j < k + 1 → st[j]? = some a → st[j + 1]? = some b → a ≤ b) := Lib.hid (fun j a b hj ha hb => by
                  by_cases hjk : j = k
                  · subst hjk; rw [hx] at ha; rw [hy] at hb; cases ha; cases hb; exact hxy
                  · exact HT.out j a b (by omega) ha hb)
                have hd : decide (y < x) = false := by simp; omega
                clear hx hy hxy
                go_wp2_with fail
                go_quiet (fail)
                clear k5 k6
                go_wp2_with fail
                go_roundw
                case rel => exact ⟨k + 1, by omega, by go_num, HF.out.drewN _, HB.out, HE⟩
                case measure => simp [intOf]; omega
              · have HV : Hid (v = false) := Lib.hid (by
                  cases v
                  · rfl
                  · exact absurd (HR.out.1 rfl k x y hx hy) hxy)
                have hd : decide (y < x) = true := by simp; omega
                clear hx hy hxy
                go_wp2_with fail
                go_quiet (fail)
                clear k5 k6
                go_wp2_with fail
                go_ret
                exact ⟨ret1 (vb HV.out.symm), HF.out.drewN _⟩
            · have hkn : k = ml := by omega
              subst hkn
              have hkd : decide (k < k) = false := by simp
              have HV : Hid (v = true) := Lib.hid (HR.out.2 (fun j a b ha hb => HT.out j a b (by
                have := (List.getElem?_eq_some_iff.1 hb).1
                rw [← HS.out, ← H2.out] at this
                omega) ha hb))
              go_wp2_with fail
              go_ret
              exact ⟨ret1 (vb HV.out.symm), HF.out⟩
        · have HV : Hid (v = false) := Lib.hid (by
            cases v
            · rfl
            · exact absurd (HJ.out.1 rfl).2.1 hy)
          have hy1 : (aL == (cl : Int)) = false := by simp [hy]
          have hy2 : (aL != (cl : Int)) = true := by simp [hy]
          clear HJ hy
          go_enter Try.func27, Try.ntmps27
          go_wp2_with (go_at_call 39; (with_reducible refine (hw _).mono ?_); rintro e w' ⟨rfl, rfl⟩)
          go_quiet (fail)
          go_wp2_with fail
          go_ret
          exact ⟨ret1 (vb HV.out.symm), by (repeat (first | (with_reducible refine Fr.setCell ?_ (fun h => absurd h (Nat.lt_irrefl _)) _) | (with_reducible refine Fr.setCell ?_ (fun h => absurd h (by first | omega | (simp; done) | (simp; omega) | (dsimp only; omega))) _) | (with_reducible refine Fr.alloc ?_ _) | (with_reducible refine Fr.drew ?_) | (with_reducible refine Fr.drewN ?_ _) | (with_reducible exact Fr.refl [] w)))⟩
      · have HV : Hid (v = false) := Lib.hid (by
          cases v
          · rfl
          · exact absurd (HJ.out.1 rfl).1 hz)
        have hz1 : (a0 == 0) = false := by simp [hz]
        have hz2 : (a0 != 0) = true := by simp [hz]
        clear HJ hz
        go_enter Try.func27, Try.ntmps27
        go_wp2_with (go_at_call 39; (with_reducible refine (hw _).mono ?_); rintro e w' ⟨rfl, rfl⟩)
        go_quiet (fail)
        go_wp2_with fail
        go_ret
        exact ⟨ret1 (vb HV.out.symm), by (repeat (first | (with_reducible refine Fr.setCell ?_ (fun h => absurd h (Nat.lt_irrefl _)) _) | (with_reducible refine Fr.setCell ?_ (fun h => absurd h (by first | omega | (simp; done) | (simp; omega) | (dsimp only; omega))) _) | (with_reducible refine Fr.alloc ?_ _) | (with_reducible refine Fr.drew ?_) | (with_reducible refine Fr.drewN ?_ _) | (with_reducible exact Fr.refl [] w)))⟩
    · have HV : Hid (v = false) := Lib.hid (by
        cases v
        · rfl
        · exact absurd (HI.out.1 rfl).2.2.1 h2)
      have h2a : ((ml : Int) == (sl : Int) - 1) = false := by simp; omega
      have h2b : ((ml : Int) != (sl : Int) - 1) = true := by simp; omega
      go_enter Try.func27, Try.ntmps27
      go_wp2_with (go_at_call 39; (with_reducible refine (hw _).mono ?_); rintro e w' ⟨rfl, rfl⟩)
      go_ret
      exact ⟨ret1 (vb HV.out.symm), by (repeat (first | (with_reducible refine Fr.setCell ?_ (fun h => absurd h (Nat.lt_irrefl _)) _) | (with_reducible refine Fr.setCell ?_ (fun h => absurd h (by first | omega | (simp; done) | (simp; omega) | (dsimp only; omega))) _) | (with_reducible refine Fr.alloc ?_ _) | (with_reducible refine Fr.drew ?_) | (with_reducible refine Fr.drewN ?_ _) | (with_reducible exact Fr.refl [] w)))⟩
  · have hb : wtn ((sl : Int) - 1) 1 128 = false := by unfold wtn; simp; omega
    simp only [hb] at hw
    have HV : Hid (v = false) := Lib.hid (by
      cases v
      · rfl
      · exact absurd ⟨(HI.out.1 rfl).1, (HI.out.1 rfl).2.1⟩ h1)
    clear hb h1
    go_enter Try.func27, Try.ntmps27
    go_wp2_with (go_at_call 39; (with_reducible refine (hw _).mono ?_); rintro e w' ⟨rfl, rfl⟩)
    go_ret
    exact ⟨ret1 (vb HV.out.symm), by (repeat (first | (with_reducible refine Fr.setCell ?_ (fun h => absurd h (Nat.lt_irrefl _)) _) | (with_reducible refine Fr.setCell ?_ (fun h => absurd h (by first | omega | (simp; done) | (simp; omega) | (dsimp only; omega))) _) | (with_reducible refine Fr.alloc ?_ _) | (with_reducible refine Fr.drew ?_) | (with_reducible refine Fr.drewN ?_ _) | (with_reducible exact Fr.refl [] w)))⟩
end Go.Proofs.Ytcdpgchkdjjfgaa
