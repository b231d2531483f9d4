/- ir: the starts of a unit. ir: may all of some sources be? ir: the maps of a unit. ir: operationOf: the table of the operations, and what a number's row says. ir: Takes, Leaves, Writes, and the document's Writes. -/
import Derived.Test.YtomcfjckhajhmabGreatDoorMIrB
import Derived.Test.YtomcfjckhajhmabGreatDoorMIrA
import Derived.Deep.QuietTactic
import Derived.BigQuiet
import Derived.IntWalk
import Derived.Deep.Cut
import Derived.Great.BuildSlice
import Derived.Tactics
import Derived.Laws.ResultCell
namespace Go.Proofs.YtomcfjckhajhmabGreatDoor
open Go.RowKit

/-- no start is behind the next one -/
def rising (l : List Int) : Prop := ∀ (k : Nat) (a b : Int), l[k]? = some a → l[k + 1]? = some b → a ≤ b
open Classical in
noncomputable def startsOk (u : Un) : Bool := decide (2 ≤ u.starts.length ∧ u.starts.length ≤ 129 ∧ u.maps.length + 1 = u.starts.length ∧ u.starts[0]? = some 0 ∧ u.starts[u.starts.length - 1]? = some (u.code.length : Int) ∧ rising u.starts)
theorem startsOk_iff (u : Un) : startsOk u = true ↔ (2 ≤ u.starts.length ∧ u.starts.length ≤ 129 ∧ u.maps.length + 1 = u.starts.length ∧ u.starts[0]? = some 0 ∧ u.starts[u.starts.length - 1]? = some (u.code.length : Int) ∧ rising u.starts) := by
  unfold startsOk
  simp
set_option maxRecDepth 100000 in
set_option maxHeartbeats 4000000 in
theorem ir_areStarts (u : Un) (w : World) (hA : IntsAt w u.sa u.starts) (hB : UB u) : Calls Tryz.prog 23 #[u.v] w (Still (.bool (startsOk u)) w) := by
  have hsn := hB.sn
  have hmn := hB.mn
  have hcn := hB.cn
  have hI := startsOk_iff u
  have hw := fun W => ir_within ((u.starts.length : Int) - 1) 1 128 W
  generalize startsOk u = v at *
  obtain ⟨method, args, temps, R, P, S, ea, en, ec, ca, co, cc, sa, st, sc, ma, mp, mc⟩ := u
  unfold Un.v
  simp only at hsn hmn hcn hI hw hA ⊢
  clear hB
  generalize en.length = el at *
  generalize co.length = cl at *
  obtain ⟨sl, hsl⟩ : ∃ n, n = st.length := ⟨_, rfl⟩
  rw [← hsl] at hI hsn hw ⊢
  generalize mp.length = ml at *
  have HS := Lib.hid hsl
  have HA := Lib.hid hA
  have HI := Lib.hid hI
  clear hsl hA hI
  by_cases h1 : 2 ≤ sl ∧ sl ≤ 129
  · have hb : wtn ((sl : Int) - 1) 1 128 = true := by unfold wtn; simp; omega
    simp only [hb] at hw
    clear hb
    obtain ⟨h1a, h1b⟩ := h1
    have e1 : IntKind.i64.wrap ((sl : Int) - 1) = (sl : Int) - 1 := IntWalk.i64_in _ (by omega)
    by_cases h2 : ml + 1 = sl
    · have e2 : (sl : Int) - 1 = (ml : Int) := by omega
      rw [e2] at hw
      obtain ⟨a0, ha0⟩ : ∃ x, st[0]? = some x := ⟨_, List.getElem?_eq_getElem (by rw [← HS.out]; omega)⟩
      obtain ⟨aL, haL⟩ : ∃ x, st[ml]? = some x := ⟨_, List.getElem?_eq_getElem (by rw [← HS.out]; omega)⟩
      obtain ⟨g, o, rfl, c0⟩ := HA.out _ _ ha0
      obtain ⟨_, _, e, cL⟩ := HA.out _ _ haL
      cases e
      rw [Nat.add_zero] at c0
      have hg : g < w.heap.size := World.block_lt_of_cell? w _ c0
      have eL : sl - 1 = ml := by omega
      have HJ : Hid (v = true ↔ a0 = 0 ∧ aL = (cl : Int) ∧ rising st) := Lib.hid (by
        rw [HI.out, ha0, eL, haL]
        simp only [Option.some.injEq]
        constructor
        · rintro ⟨-, -, -, h, k, r⟩; exact ⟨h, k, r⟩
        · rintro ⟨h, k, r⟩; exact ⟨h1a, h1b, h2, h, k, r⟩)
      have hml0 : (0 : Int) ≤ (ml : Int) := by omega
      have hml1 : (1 : Int) ≤ (ml : Int) := by omega
      have hmls : (ml : Int) < (sl : Int) := by omega
      have hsl0 : (0 : Int) < (sl : Int) := by omega
      have H2 := Lib.hid h2
      clear HI eL h2 ha0 haL
      by_cases hz : a0 = 0
      · subst hz
        by_cases hy : aL = (cl : Int)
        · have HR : Hid (v = true ↔ rising st) := Lib.hid (by rw [HJ.out]; simp [hy])
          have hy1 : (aL == (cl : Int)) = true := by simp [hy]
          have hy2 : (aL != (cl : Int)) = false := by simp [hy]
          clear HJ hy
          go_enter Tryz.func23, Tryz.ntmps23
          go_wp2_with (go_at_call 44; (with_reducible refine (hw _).mono ?_); rintro e w' ⟨rfl, rfl⟩)
          go_quiet (fail)
          go_wp2_with fail
          go_loopw [36] (fun i wr => ∃ k : Nat, k ≤ ml ∧ i = .int .i64 k ∧ Hid (Fr [] w wr) ∧ Hid (wr.heap[w.heap.size]? = some (.cells #[.int .u64 method, .int .i64 args, .int .i64 temps, .int .i64 R, .int .i64 P, .int .i64 S, .slice ea el ec, .slice ca cl cc, .slice (some ⟨g, o, none⟩) sl sc, .slice ma ml mc] 34)) ∧ Hid (∀ j a b, j < k → st[j]? = some a → st[j + 1]? = some b → a ≤ b)) (fun i _ => ml - (intOf i).toNat)
          case atStart => exact ⟨0, Nat.zero_le _, rfl, ((Fr.refl [] w).alloc _).drewN _, heap_new _ _, Lib.hid (fun j a b hj => absurd hj (by omega))⟩
          case round =>
            obtain ⟨k, hk, rfl, HF, HB, HTq⟩ := hrel
            have hw0 : w.heap.size < wr.heap.size := lt_of_heap HB.out
            by_cases hlt : k < ml
            · obtain ⟨x, hx⟩ : ∃ x, st[k]? = some x := ⟨_, List.getElem?_eq_getElem (by rw [← HS.out, ← H2.out]; omega)⟩
              obtain ⟨y, hy⟩ : ∃ y, st[k + 1]? = some y := ⟨_, List.getElem?_eq_getElem (by rw [← HS.out, ← H2.out]; omega)⟩
              obtain ⟨_, _, e, cx⟩ := (HA.out.fr HF.out) _ _ hx
              cases e
              obtain ⟨_, _, e, cy⟩ := (HA.out.fr HF.out) _ _ hy
              cases e
              have hgr : g < wr.heap.size := World.block_lt_of_cell? wr _ cx
              have b0 := cell_of_heap (o := 0) HB.out rfl; have b1 := cell_of_heap (o := 1) HB.out rfl; have b2 := cell_of_heap (o := 2) HB.out rfl; have b3 := cell_of_heap (o := 3) HB.out rfl; have b4 := cell_of_heap (o := 4) HB.out rfl; have b5 := cell_of_heap (o := 5) HB.out rfl; have b6 := cell_of_heap (o := 6) HB.out rfl; have b7 := cell_of_heap (o := 7) HB.out rfl; have b8 := cell_of_heap (o := 8) HB.out rfl; have b9 := cell_of_heap (o := 9) HB.out rfl
              have k0 : (0 : Int) ≤ (k : Int) := by omega
              have k1 : (k : Int) < (ml : Int) := by omega
              have k2 : (k : Int) < (sl : Int) := by omega
              have k3 : (k : Int) + 1 < (sl : Int) := by omega
              have k4 : (0 : Int) ≤ (k : Int) + 1 := by omega
              have k5 : IntKind.i64.wrap ((k : Int) + 1) = (k : Int) + 1 := IntWalk.i64_in _ (by omega)
              have k6 : ((k : Int) + 1).toNat = k + 1 := by omega
              by_cases hxy : x ≤ y
              · have HE : Hid (∀ j a b, j < k + 1 → st[j]? = some a → st[j + 1]? = some b → a ≤ b) := Lib.hid (fun j a b hj ha hb => by
                  by_cases hjk : j = k
                  · subst hjk; rw [hx] at ha; rw [hy] at hb; cases ha; cases hb; exact hxy
                  · exact HTq.out j a b (by omega) ha hb)
                have hd : decide (y < x) = false := by simp; omega
                clear hx hy hxy
                go_wp2_with fail
                go_quiet (fail)
                clear k5 k6
                go_wp2_with fail
                go_roundw
                case rel => exact ⟨k + 1, by omega, by go_num, HF.out.drewN _, HB.out, HE⟩
                case measure => simp [intOf]; omega
              · have HV : Hid (v = false) := Lib.hid (by
                  cases v
                  · rfl
                  · exact absurd (HR.out.1 rfl k x y hx hy) hxy)
                have hd : decide (y < x) = true := by simp; omega
                clear hx hy hxy
                go_wp2_with fail
                go_quiet (fail)
                clear k5 k6
                go_wp2_with fail
                go_ret
                exact ⟨ret1 (vb HV.out.symm), HF.out.drewN _⟩
            · have hkn : k = ml := by omega
              subst hkn
              have hkd : decide (k < k) = false := by simp
              have HV : Hid (v = true) := Lib.hid (HR.out.2 (fun j a b ha hb => HTq.out j a b (by
                have := (List.getElem?_eq_some_iff.1 hb).1
                rw [← HS.out, ← H2.out] at this
                omega) ha hb))
              go_wp2_with fail
              go_ret
              exact ⟨ret1 (vb HV.out.symm), HF.out⟩
        · have HV : Hid (v = false) := Lib.hid (by
            cases v
            · rfl
            · exact absurd (HJ.out.1 rfl).2.1 hy)
          have hy1 : (aL == (cl : Int)) = false := by simp [hy]
          have hy2 : (aL != (cl : Int)) = true := by simp [hy]
          clear HJ hy
          go_enter Tryz.func23, Tryz.ntmps23
          go_wp2_with (go_at_call 44; (with_reducible refine (hw _).mono ?_); rintro e w' ⟨rfl, rfl⟩)
          go_quiet (fail)
          go_wp2_with fail
          go_ret
          exact ⟨ret1 (vb HV.out.symm), by (repeat (first | (with_reducible refine Fr.setCell ?_ (fun h => absurd h (Nat.lt_irrefl _)) _) | (with_reducible refine Fr.setCell ?_ (fun h => absurd h (by first | omega | (simp; done) | (simp; omega) | (dsimp only; omega))) _) | (with_reducible refine Fr.alloc ?_ _) | (with_reducible refine Fr.drew ?_) | (with_reducible refine Fr.drewN ?_ _) | (with_reducible exact Fr.refl [] w)))⟩
      · have HV : Hid (v = false) := Lib.hid (by
          cases v
          · rfl
          · exact absurd (HJ.out.1 rfl).1 hz)
        have hz1 : (a0 == 0) = false := by simp [hz]
        have hz2 : (a0 != 0) = true := by simp [hz]
        clear HJ hz
        go_enter Tryz.func23, Tryz.ntmps23
        go_wp2_with (go_at_call 44; (with_reducible refine (hw _).mono ?_); rintro e w' ⟨rfl, rfl⟩)
        go_quiet (fail)
        go_wp2_with fail
        go_ret
        exact ⟨ret1 (vb HV.out.symm), by (repeat (first | (with_reducible refine Fr.setCell ?_ (fun h => absurd h (Nat.lt_irrefl _)) _) | (with_reducible refine Fr.setCell ?_ (fun h => absurd h (by first | omega | (simp; done) | (simp; omega) | (dsimp only; omega))) _) | (with_reducible refine Fr.alloc ?_ _) | (with_reducible refine Fr.drew ?_) | (with_reducible refine Fr.drewN ?_ _) | (with_reducible exact Fr.refl [] w)))⟩
    · have HV : Hid (v = false) := Lib.hid (by
        cases v
        · rfl
        · exact absurd (HI.out.1 rfl).2.2.1 h2)
      have h2a : ((ml : Int) == (sl : Int) - 1) = false := by simp; omega
      have h2b : ((ml : Int) != (sl : Int) - 1) = true := by simp; omega
      go_enter Tryz.func23, Tryz.ntmps23
      go_wp2_with (go_at_call 44; (with_reducible refine (hw _).mono ?_); rintro e w' ⟨rfl, rfl⟩)
      go_ret
      exact ⟨ret1 (vb HV.out.symm), by (repeat (first | (with_reducible refine Fr.setCell ?_ (fun h => absurd h (Nat.lt_irrefl _)) _) | (with_reducible refine Fr.setCell ?_ (fun h => absurd h (by first | omega | (simp; done) | (simp; omega) | (dsimp only; omega))) _) | (with_reducible refine Fr.alloc ?_ _) | (with_reducible refine Fr.drew ?_) | (with_reducible refine Fr.drewN ?_ _) | (with_reducible exact Fr.refl [] w)))⟩
  · have hb : wtn ((sl : Int) - 1) 1 128 = false := by unfold wtn; simp; omega
    simp only [hb] at hw
    have HV : Hid (v = false) := Lib.hid (by
      cases v
      · rfl
      · exact absurd ⟨(HI.out.1 rfl).1, (HI.out.1 rfl).2.1⟩ h1)
    clear hb h1
    go_enter Tryz.func23, Tryz.ntmps23
    go_wp2_with (go_at_call 44; (with_reducible refine (hw _).mono ?_); rintro e w' ⟨rfl, rfl⟩)
    go_ret
    exact ⟨ret1 (vb HV.out.symm), by (repeat (first | (with_reducible refine Fr.setCell ?_ (fun h => absurd h (Nat.lt_irrefl _)) _) | (with_reducible refine Fr.setCell ?_ (fun h => absurd h (by first | omega | (simp; done) | (simp; omega) | (dsimp only; omega))) _) | (with_reducible refine Fr.alloc ?_ _) | (with_reducible refine Fr.drew ?_) | (with_reducible refine Fr.drewN ?_ _) | (with_reducible exact Fr.refl [] w)))⟩
end Go.Proofs.YtomcfjckhajhmabGreatDoor
namespace Go.Proofs.YtomcfjckhajhmabGreatDoor
open Go.RowKit

set_option maxHeartbeats 1000000 in
theorem ir_areSources (R P S M : Int) (l : List Sr) (a : Option Addr) (c : Nat) (w : World) (hl : l.length ≤ 5864062014805) (h : SrcsAt w a l) : Calls Tryz.prog 46 #[rgV R P S M, .slice a l.length c] w (Still (.bool (l.all (srcOk R P))) w) := by
  have HC := Lib.hid (fun s W => ir_isSource R P S M s W)
  have HA := Lib.hid h
  obtain ⟨v, hv⟩ : ∃ v, v = l.all (srcOk R P) := ⟨_, rfl⟩
  rw [← hv]
  have HV := Lib.hid hv
  obtain ⟨n, hn⟩ : ∃ n, n = l.length := ⟨_, rfl⟩
  rw [← hn]
  rw [← hn] at hl
  have HN := Lib.hid hn
  clear h hv hn
  unfold rgV at HC ⊢
  go_enter Tryz.func46, Tryz.ntmps46
  go_wp2_with fail
  go_loopw [9] (fun i wr => ∃ k : Nat, k ≤ n ∧ i = .int .i64 k ∧ Hid (Fr [] w wr) ∧ Hid (wr.heap[w.heap.size]? = some (.cells #[.int .i64 R, .int .i64 P, .int .i64 S, .int .i64 M] 104)) ∧ Hid ((l.take k).all (srcOk R P) = true)) (fun i _ => n - (intOf i).toNat)
  case atStart => exact ⟨0, Nat.zero_le _, rfl, (Fr.refl [] w).alloc _, heap_new _ _, Lib.hid (by simp)⟩
  case round =>
    obtain ⟨k, hk, rfl, HF, HB, HTq⟩ := hrel
    by_cases hlt : k < n
    · have hkl : k < l.length := by rw [← HN.out]; exact hlt
      obtain ⟨s, hs⟩ : ∃ s, l[k]? = some s := ⟨_, List.getElem?_eq_getElem hkl⟩
      obtain ⟨g, o, rfl, c0, c1, c2⟩ := (HA.out.fr HF.out) k s hs
      have hc := HC.out s
      have HY := Lib.hid (fun hp => all_snoc hs HTq.out (p := srcOk R P) hp)
      have HNO := Lib.hid (fun hp => all_no (p := srcOk R P) hs hp)
      obtain ⟨b, hb⟩ : ∃ b, b = srcOk R P s := ⟨_, rfl⟩
      simp only [← hb] at hc HY HNO
      have k0 : (0 : Int) ≤ (k : Int) := by omega
      have k1 : (k : Int) < (n : Int) := by omega
      have b0 := cell_of_heap (o := 0) HB.out rfl; have b1 := cell_of_heap (o := 1) HB.out rfl; have b2 := cell_of_heap (o := 2) HB.out rfl; have b3 := cell_of_heap (o := 3) HB.out rfl
      have hwl := HF.out.size
      obtain ⟨sk, sn, sw⟩ := s
      unfold Sr.v at hc
      simp only at c0 c1 c2 hc
      have hw0 : w.heap.size < wr.heap.size := lt_of_heap HB.out
      clear hb hkl hs
      cases b
      · have HE := Lib.hid (HNO.out rfl)
        clear HNO HY
        go_wp2_with (go_at_call 66; refine (hc _).mono ?_; rintro e w1 ⟨rfl, hF⟩; have HF1 := Lib.hid hF; clear hF)
        go_ret
        exact ⟨ret1 (vb (by rw [HV.out, HE.out])), HF.out.trans (((Fr.refl [] wr).alloc _).trans HF1.out)⟩
      · have HE := Lib.hid (HY.out rfl)
        clear HNO HY
        go_wp2_with (go_at_call 66; refine (hc _).mono ?_; rintro e w1 ⟨rfl, hF⟩; have HF1 := Lib.hid hF; clear hF)
        go_roundw
        case rel => exact ⟨k + 1, by omega, by go_num, HF.out.trans (((Fr.refl [] wr).alloc _).trans HF1.out), HF1.out.heap (by simp) (((Fr.refl [] wr).alloc _).heap (by simp) HB.out), HE⟩
        case measure => simp [intOf]; omega
    · have hkn : k = n := by omega
      subst hkn
      have hkd : decide (k < k) = false := by simp
      have HE := Lib.hid (all_end HTq.out HN.out)
      go_wp2_with fail
      go_ret
      exact ⟨ret1 (vb (by rw [HV.out, HE.out])), HF.out⟩
end Go.Proofs.YtomcfjckhajhmabGreatDoor
namespace Go.Proofs.YtomcfjckhajhmabGreatDoor
open Go.RowKit

def mapOk (R P T : Int) (m : Mp) : Bool := (decide (m.l.length = 0) || wtn m.l.length T (T + 16)) && m.l.all (srcOk R P)
set_option maxRecDepth 100000 in
set_option maxHeartbeats 4000000 in
theorem ir_areMaps (u : Un) (w : World) (hA : MapsAt w u.ma u.maps) (hB : UB u) (hT : 0 ≤ u.temps ∧ u.temps ≤ 16) : Calls Tryz.prog 24 #[u.v] w (Still (.bool (u.maps.all (mapOk u.regs u.spills u.temps))) w) := by
  have hmn := hB.mn
  have hml := fun m hm => (hB.maps m hm).1
  have hr := fun W => ir_rangesOf u W
  have HS : Hid (∀ (m : Mp) (W : World), m ∈ u.maps → SrcsAt W m.a m.l → Calls Tryz.prog 46 #[rgV u.regs u.spills u.sites u.maps.length, .slice m.a m.l.length m.c] W (Still (.bool (m.l.all (srcOk u.regs u.spills))) W)) := Lib.hid fun m W hm h => ir_areSources u.regs u.spills u.sites u.maps.length m.l m.a m.c W (hml m hm) h
  have HM : Hid (∀ m, mapOk u.regs u.spills u.temps m = ((decide (m.l.length = 0) || wtn m.l.length u.temps (u.temps + 16)) && m.l.all (srcOk u.regs u.spills))) := Lib.hid fun m => rfl
  obtain ⟨v, hv⟩ : ∃ v, v = u.maps.all (mapOk u.regs u.spills u.temps) := ⟨_, rfl⟩
  rw [← hv]
  generalize hq : mapOk u.regs u.spills u.temps = q at *
  clear hq
  obtain ⟨method, args, T, R, P, S, ea, en, ec, ca, co, cc, sa, st, sc, ma, mp, mc⟩ := u
  unfold Un.v at hr ⊢
  unfold rgV at hr HS
  simp only at hmn hml hr HS HM hv hA hT ⊢
  obtain ⟨t0, t16⟩ := hT
  clear hB
  generalize en.length = el at *
  generalize co.length = cl at *
  generalize st.length = sl at *
  obtain ⟨ml, hll⟩ : ∃ n, n = mp.length := ⟨_, rfl⟩
  rw [← hll] at hmn hr ⊢
  simp only [← hll] at HS
  have HL := Lib.hid hll
  have HA := Lib.hid hA
  have HV := Lib.hid hv
  have HML := Lib.hid hml
  clear hll hA hv hml
  go_enter Tryz.func24, Tryz.ntmps24
  go_wp2_with (go_at_call 45; refine (hr _).mono ?_; rintro e w1 ⟨rfl, hF⟩; have HF1 : Hid (Fr [] w w1) := ((Fr.refl [] w).alloc _).trans hF; have HU := Lib.hid (hF.heap (by simp) (heap_new w _)); have b0 := cell_of_heap (o := 0) HU.out rfl; have b1 := cell_of_heap (o := 1) HU.out rfl; have b2 := cell_of_heap (o := 2) HU.out rfl; have b3 := cell_of_heap (o := 3) HU.out rfl; have b4 := cell_of_heap (o := 4) HU.out rfl; have b5 := cell_of_heap (o := 5) HU.out rfl; have b6 := cell_of_heap (o := 6) HU.out rfl; have b7 := cell_of_heap (o := 7) HU.out rfl; have b8 := cell_of_heap (o := 8) HU.out rfl; have b9 := cell_of_heap (o := 9) HU.out rfl; have hsz1 := lt_of_heap HU.out; clear hF)
  clear b0 b1 b2 b3 b4 b5 b6 b7 b8 b9
  go_loopw [11] (fun i wr => ∃ k : Nat, k ≤ ml ∧ i = .int .i64 k ∧ Hid (Fr [] w wr) ∧ Hid (wr.heap[w.heap.size]? = some (.cells #[.int .u64 method, .int .i64 args, .int .i64 T, .int .i64 R, .int .i64 P, .int .i64 S, .slice ea el ec, .slice ca cl cc, .slice sa sl sc, .slice ma ml mc] 34)) ∧ Hid (wr.heap[w1.heap.size]? = some (.cells #[.int .i64 R, .int .i64 P, .int .i64 S, .int .i64 ml] 104)) ∧ Hid ((mp.take k).all q = true)) (fun i _ => ml - (intOf i).toNat)
  case atStart => exact ⟨0, Nat.zero_le _, rfl, HF1.out.alloc _, ((Fr.refl [] w1).alloc _).heap (by simp) HU.out, heap_new _ _, Lib.hid (by simp)⟩
  case round =>
    obtain ⟨k, hk, rfl, HF, HB, HR, HTq⟩ := hrel
    have hw0 : w.heap.size < wr.heap.size := lt_of_heap HB.out
    have hw1 : w1.heap.size < wr.heap.size := lt_of_heap HR.out
    by_cases hlt : k < ml
    · have hkl : k < mp.length := by rw [← HL.out]; exact hlt
      obtain ⟨m, hm⟩ : ∃ m, mp[k]? = some m := ⟨_, List.getElem?_eq_getElem hkl⟩
      obtain ⟨⟨g, o, rfl, c0⟩, hs⟩ := (HA.out.fr HF.out) k m hm
      have HSS : Hid (∀ W, Fr [] wr W → Calls Tryz.prog 46 #[.agg #[.int .i64 R, .int .i64 P, .int .i64 S, .int .i64 ml], .slice m.a m.l.length m.c] W (Still (.bool (m.l.all (srcOk R P))) W)) := Lib.hid fun W hF => HS.out m W (List.mem_of_getElem? hm) (hs.fr hF)
      have hll := HML.out m (List.mem_of_getElem? hm)
      have HY := Lib.hid (fun hp => all_snoc hm HTq.out (p := q) hp)
      have HN := Lib.hid (fun hp => all_no (p := q) hm hp)
      have HQ := Lib.hid (HM.out m)
      obtain ⟨b, hb⟩ : ∃ b, b = q m := ⟨_, rfl⟩
      simp only [← hb] at HY HN HQ
      have k0 : (0 : Int) ≤ (k : Int) := by omega
      have k1 : (k : Int) < (ml : Int) := by omega
      have b0 := cell_of_heap (o := 0) HB.out rfl; have b1 := cell_of_heap (o := 1) HB.out rfl; have b2 := cell_of_heap (o := 2) HB.out rfl; have b3 := cell_of_heap (o := 3) HB.out rfl; have b4 := cell_of_heap (o := 4) HB.out rfl; have b5 := cell_of_heap (o := 5) HB.out rfl; have b6 := cell_of_heap (o := 6) HB.out rfl; have b7 := cell_of_heap (o := 7) HB.out rfl; have b8 := cell_of_heap (o := 8) HB.out rfl; have b9 := cell_of_heap (o := 9) HB.out rfl
      have r0 := cell_of_heap (o := 0) HR.out rfl; have r1 := cell_of_heap (o := 1) HR.out rfl; have r2 := cell_of_heap (o := 2) HR.out rfl; have r3 := cell_of_heap (o := 3) HR.out rfl
      obtain ⟨a, l, c⟩ := m
      simp only at c0 hs hll HSS HQ
      generalize l.all (srcOk R P) = bs at *
      generalize l.length = ll at *
      have hwi := fun W => ir_within ll T (T + 16) W
      have e1 : IntKind.i64.wrap (T + 16) = T + 16 := IntWalk.i64_in _ (by omega)
      clear hb hkl hm hs
      by_cases hz : ll = 0
      · subst hz
        simp only [decide_true, Bool.true_or, Bool.true_and] at HQ
        cases bs
        · have HE := Lib.hid (HN.out HQ.out)
          clear HN HY
          go_wp2_with (first
            | (go_at_call 46; refine (HSS.out _ (by (repeat (first | (with_reducible refine Fr.setCell ?_ (fun h => absurd h (Nat.lt_irrefl _)) _) | (with_reducible refine Fr.setCell ?_ (fun h => absurd h (by first | omega | (simp; done) | (simp; omega) | (dsimp only; omega))) _) | (with_reducible refine Fr.alloc ?_ _) | (with_reducible refine Fr.drew ?_) | (with_reducible refine Fr.drewN ?_ _) | (with_reducible exact Fr.refl [] wr))))).mono ?_; rintro e w2 ⟨rfl, hF⟩; have HF2 := Lib.hid hF; clear hF))
          go_ret
          exact ⟨ret1 (vb (by rw [HV.out, HE.out])), HF.out.trans HF2.out⟩
        · have HE := Lib.hid (HY.out HQ.out)
          clear HN HY
          go_wp2_with (first
            | (go_at_call 46; refine (HSS.out _ (by (repeat (first | (with_reducible refine Fr.setCell ?_ (fun h => absurd h (Nat.lt_irrefl _)) _) | (with_reducible refine Fr.setCell ?_ (fun h => absurd h (by first | omega | (simp; done) | (simp; omega) | (dsimp only; omega))) _) | (with_reducible refine Fr.alloc ?_ _) | (with_reducible refine Fr.drew ?_) | (with_reducible refine Fr.drewN ?_ _) | (with_reducible exact Fr.refl [] wr))))).mono ?_; rintro e w2 ⟨rfl, hF⟩; have HF2 := Lib.hid hF; clear hF))
          go_roundw
          case rel => exact ⟨k + 1, by omega, by go_num, HF.out.trans HF2.out, HF2.out.heap (by simp) HB.out, HF2.out.heap (by simp) HR.out, HE⟩
          case measure => simp [intOf]; omega
      · have hz0 : (0 : Int) < (ll : Int) := by omega
        have hzd : decide (ll = 0) = false := by simp [hz]
        simp only [hzd, Bool.false_or] at HQ
        clear hz hzd
        generalize wtn ll T (T + 16) = bw at *
        cases bw
        · simp only [Bool.false_and] at HQ
          have HE := Lib.hid (HN.out HQ.out)
          clear HN HY
          go_wp2_with (first
            | (go_at_call 44; (with_reducible refine (hwi _).mono ?_); rintro e w' ⟨rfl, rfl⟩))
          go_ret
          exact ⟨ret1 (vb (by rw [HV.out, HE.out])), HF.out⟩
        · simp only [Bool.true_and] at HQ
          cases bs
          · have HE := Lib.hid (HN.out HQ.out)
            clear HN HY
            go_wp2_with (first
              | (go_at_call 44; (with_reducible refine (hwi _).mono ?_); rintro e w' ⟨rfl, rfl⟩)
              | (go_at_call 46; refine (HSS.out _ (by (repeat (first | (with_reducible refine Fr.setCell ?_ (fun h => absurd h (Nat.lt_irrefl _)) _) | (with_reducible refine Fr.setCell ?_ (fun h => absurd h (by first | omega | (simp; done) | (simp; omega) | (dsimp only; omega))) _) | (with_reducible refine Fr.alloc ?_ _) | (with_reducible refine Fr.drew ?_) | (with_reducible refine Fr.drewN ?_ _) | (with_reducible exact Fr.refl [] wr))))).mono ?_; rintro e w2 ⟨rfl, hF⟩; have HF2 := Lib.hid hF; clear hF))
            go_ret
            exact ⟨ret1 (vb (by rw [HV.out, HE.out])), HF.out.trans HF2.out⟩
          · have HE := Lib.hid (HY.out HQ.out)
            clear HN HY
            go_wp2_with (first
              | (go_at_call 44; (with_reducible refine (hwi _).mono ?_); rintro e w' ⟨rfl, rfl⟩)
              | (go_at_call 46; refine (HSS.out _ (by (repeat (first | (with_reducible refine Fr.setCell ?_ (fun h => absurd h (Nat.lt_irrefl _)) _) | (with_reducible refine Fr.setCell ?_ (fun h => absurd h (by first | omega | (simp; done) | (simp; omega) | (dsimp only; omega))) _) | (with_reducible refine Fr.alloc ?_ _) | (with_reducible refine Fr.drew ?_) | (with_reducible refine Fr.drewN ?_ _) | (with_reducible exact Fr.refl [] wr))))).mono ?_; rintro e w2 ⟨rfl, hF⟩; have HF2 := Lib.hid hF; clear hF))
            go_roundw
            case rel => exact ⟨k + 1, by omega, by go_num, HF.out.trans HF2.out, HF2.out.heap (by simp) HB.out, HF2.out.heap (by simp) HR.out, HE⟩
            case measure => simp [intOf]; omega
    · have hkn : k = ml := by omega
      subst hkn
      have hkd : decide (k < k) = false := by simp
      have HE := Lib.hid (all_end HTq.out HL.out)
      go_wp2_with fail
      go_ret
      exact ⟨ret1 (vb (by rw [HV.out, HE.out])), HF.out⟩
end Go.Proofs.YtomcfjckhajhmabGreatDoor
namespace Go.Proofs.YtomcfjckhajhmabGreatDoor
open Go.RowKit Go.Great

/-- an operation that makes one block, by what it comes to -/
theorem op_alloc_at {P : Program} {ops : Array Oper} {rest : List Oper} {o : Oper} {a : Act} {w : World} {Q : Exit → Act → World → Prop} (hg : o.guard = none) (d : Option Tmp) (hd : o.dst = d) (v : Value) (b : Obj) (hr : (execOp a.eval o).run P w = .ok (.value v) (w.alloc b)) (h : wpList P ops Q rest (a.put d v) (w.alloc b)) : wpList P ops Q (o :: rest) a w :=
  wpList_plain hg fun K hK => by subst hd; unfold Oper.wp; rw [hr, Oper.upon_value]; exact hK _ _ h
def opTbl : Array Value := #[.int .i64 0, .int .i64 (-1), .bool false, .int .i64 1, .int .i64 1, .bool true, .int .i64 2, .int .i64 2, .bool true, .int .i64 0, .int .i64 0, .bool true, .int .i64 1, .int .i64 1, .bool false, .int .i64 0, .int .i64 0, .bool false, .int .i64 1, .int .i64 1, .bool false, .int .i64 1, .int .i64 5, .bool true, .int .i64 1, .int .i64 1, .bool false, .int .i64 0, .int .i64 0, .bool false]
def opZero : Array Value := #[.int .i64 0, .int .i64 0, .bool false, .int .i64 0, .int .i64 0, .bool false, .int .i64 0, .int .i64 0, .bool false, .int .i64 0, .int .i64 0, .bool false, .int .i64 0, .int .i64 0, .bool false, .int .i64 0, .int .i64 0, .bool false, .int .i64 0, .int .i64 0, .bool false, .int .i64 0, .int .i64 0, .bool false, .int .i64 0, .int .i64 0, .bool false, .int .i64 0, .int .i64 0, .bool false]
def opV (op : Int) : Value := .agg #[.int .i64 (lst op), .int .i64 (mst op), .bool (lvs op)]
set_option maxRecDepth 100000 in
set_option maxHeartbeats 1000000 in
theorem ir_operationOf (op : Int) (w : World) : Calls Tryz.prog 51 #[.int .i64 op] w (Still (opV op) w) := by
  go_enter Tryz.func51, Tryz.ntmps51
  go_upto_region 1 with (fail)
  apply wp_region_lit
  have hz0 : w.heap.size < (w.alloc (.cells #[.int .i64 0, .int .i64 0, .bool false] 114)).heap.size := by simp
  have hb0 := heap_new w (.cells #[.int .i64 0, .int .i64 0, .bool false] 114)
  have hF0 : Fr [] w (w.alloc (.cells #[.int .i64 0, .int .i64 0, .bool false] 114)) := (Fr.refl _ _).alloc _
  generalize w.alloc (.cells #[.int .i64 0, .int .i64 0, .bool false] 114) = W at *
  refine wpList_buildTo rfl 114 _ rfl (some 4) rfl #[.int .i64 0, .int .i64 (-1), .bool false] (by as_aux_lemma => kernel_rfl) ?_
  refine wpList_buildTo rfl 114 _ rfl (some 5) rfl #[.int .i64 1, .int .i64 1, .bool true] (by as_aux_lemma => kernel_rfl) ?_
  refine wpList_buildTo rfl 114 _ rfl (some 6) rfl #[.int .i64 2, .int .i64 2, .bool true] (by as_aux_lemma => kernel_rfl) ?_
  refine wpList_buildTo rfl 114 _ rfl (some 7) rfl #[.int .i64 0, .int .i64 0, .bool true] (by as_aux_lemma => kernel_rfl) ?_
  refine wpList_buildTo rfl 114 _ rfl (some 8) rfl #[.int .i64 1, .int .i64 1, .bool false] (by as_aux_lemma => kernel_rfl) ?_
  refine wpList_buildTo rfl 114 _ rfl (some 9) rfl #[.int .i64 0, .int .i64 0, .bool false] (by as_aux_lemma => kernel_rfl) ?_
  refine wpList_buildTo rfl 114 _ rfl (some 10) rfl #[.int .i64 1, .int .i64 1, .bool false] (by as_aux_lemma => kernel_rfl) ?_
  refine wpList_buildTo rfl 114 _ rfl (some 11) rfl #[.int .i64 1, .int .i64 5, .bool true] (by as_aux_lemma => kernel_rfl) ?_
  refine wpList_buildTo rfl 114 _ rfl (some 12) rfl #[.int .i64 1, .int .i64 1, .bool false] (by as_aux_lemma => kernel_rfl) ?_
  refine wpList_buildTo rfl 114 _ rfl (some 13) rfl #[.int .i64 0, .int .i64 0, .bool false] (by as_aux_lemma => kernel_rfl) ?_
  refine wpList_buildTo rfl 137 _ rfl (some 14) rfl opTbl (by as_aux_lemma => kernel_rfl) ?_
  refine op_alloc_at rfl (some 3) rfl (.pointer (some ⟨W.heap.size, 0, none⟩)) (.cells opZero 137) (by as_aux_lemma => kernel_rfl) ?_
  refine wpList_store_row rfl 137 _ _ rfl (W.heap.size) opTbl (by as_aux_lemma => kernel_rfl) (by as_aux_lemma => kernel_rfl) 137 opZero (heap_new W _) (by as_aux_lemma => kernel_rfl) rfl (by as_aux_lemma => kernel_rfl) ?_
  apply wpList_nil
  rename_i K hK
  refine hK _ _ ?_
  clear hK
  have hg := setRow_heap (W.alloc (.cells opZero 137)) W.heap.size opZero opTbl 137 (0, 0) (heap_new W _)
  have hr := (setRow_other (W.alloc (.cells opZero 137)) W.heap.size w.heap.size opTbl (by omega)).trans (((Fr.refl [] W).alloc (.cells opZero 137)).heap (by simp) hb0)
  have hF : Fr [] w ((W.alloc (.cells opZero 137)).setRow W.heap.size opTbl) := by
    have h1 := hF0.alloc (.cells opZero 137)
    have hS := hF0.size
    exact ⟨h1.os, h1.tape, h1.output, by rw [setRow_size]; exact h1.size, fun k hk hn => (setRow_other _ _ _ _ (by omega)).trans (h1.block k hk hn)⟩
  have hgs := lt_of_heap hg
  generalize (W.alloc (.cells opZero 137)).setRow W.heap.size opTbl = W1 at *
  have hgW : w.heap.size ≠ W.heap.size := by omega
  generalize W.heap.size = g at *
  clear hz0 hb0 hF0
  have r0 : W1.cell? ⟨w.heap.size, 0, none⟩ = some (.int .i64 0) := cell_of_heap hr rfl
  have r1 : W1.cell? ⟨w.heap.size, 1, none⟩ = some (.int .i64 0) := cell_of_heap hr rfl
  have r2 : W1.cell? ⟨w.heap.size, 2, none⟩ = some (.bool false) := cell_of_heap hr rfl
  have fr0 := frozen_of_heap (o := 0) hr; have fr1 := frozen_of_heap (o := 1) hr; have fr2 := frozen_of_heap (o := 2) hr
  have HF := Lib.hid hF
  have HG := Lib.hid hg
  clear hF hg hr
  rcases op_casesU op with h | h
  · obtain ⟨e1, e2, e3⟩ := op_none h
    have e : opV op = .agg #[.int .i64 0, .int .i64 (-1), .bool false] := by unfold opV; rw [e1, e2, e3]
    rw [e]
    clear e e1 e2 e3
    have c0 : W1.cell? ⟨g, 0, none⟩ = some (.int .i64 0) := cell_of_heap HG.out rfl
    have c1 : W1.cell? ⟨g, 1, none⟩ = some (.int .i64 (-1)) := cell_of_heap HG.out rfl
    have c2 : W1.cell? ⟨g, 2, none⟩ = some (.bool false) := cell_of_heap HG.out rfl
    by_cases h0 : op = 0
    · subst h0
      clear h
      go_wp2
      exact bodyPost_ret (v := .agg #[.int .i64 0, .int .i64 (-1), .bool false]) (by simp [results, Tryz.results51, go_sem]; go_simp) rfl ⟨rfl, by (repeat (first | (with_reducible refine Fr.setCell ?_ (fun h => absurd h (Nat.lt_irrefl _)) _) | (with_reducible refine Fr.setCell ?_ (fun h => absurd h (by first | omega | (simp; done) | (simp; omega) | (dsimp only; omega))) _) | (with_reducible refine Fr.alloc ?_ _) | (with_reducible refine Fr.drew ?_) | (with_reducible refine Fr.drewN ?_ _) | (with_reducible exact HF.out)))⟩
    · by_cases h1 : op < 0
      · clear h h0
        go_wp2
        exact bodyPost_ret (v := .agg #[.int .i64 0, .int .i64 (-1), .bool false]) (by simp [results, Tryz.results51, go_sem]; go_simp) rfl ⟨rfl, by (repeat (first | (with_reducible refine Fr.setCell ?_ (fun h => absurd h (Nat.lt_irrefl _)) _) | (with_reducible refine Fr.setCell ?_ (fun h => absurd h (by first | omega | (simp; done) | (simp; omega) | (dsimp only; omega))) _) | (with_reducible refine Fr.alloc ?_ _) | (with_reducible refine Fr.drew ?_) | (with_reducible refine Fr.drewN ?_ _) | (with_reducible exact HF.out)))⟩
      · have h2 : 10 ≤ op := by omega
        clear h h0 h1
        go_wp2
        exact bodyPost_ret (v := .agg #[.int .i64 0, .int .i64 (-1), .bool false]) (by simp [results, Tryz.results51, go_sem]; go_simp) rfl ⟨rfl, by (repeat (first | (with_reducible refine Fr.setCell ?_ (fun h => absurd h (Nat.lt_irrefl _)) _) | (with_reducible refine Fr.setCell ?_ (fun h => absurd h (by first | omega | (simp; done) | (simp; omega) | (dsimp only; omega))) _) | (with_reducible refine Fr.alloc ?_ _) | (with_reducible refine Fr.drew ?_) | (with_reducible refine Fr.drewN ?_ _) | (with_reducible exact HF.out)))⟩
  · rcases h with rfl | rfl | rfl | rfl | rfl | rfl | rfl | rfl | rfl
    · have c0 : W1.cell? ⟨g, 3, none⟩ = some (.int .i64 1) := cell_of_heap HG.out rfl
      have c1 : W1.cell? ⟨g, 4, none⟩ = some (.int .i64 1) := cell_of_heap HG.out rfl
      have c2 : W1.cell? ⟨g, 5, none⟩ = some (.bool true) := cell_of_heap HG.out rfl
      go_wp2
      exact bodyPost_ret (v := .agg #[.int .i64 1, .int .i64 1, .bool true]) (by simp [results, Tryz.results51, go_sem]; go_simp) rfl ⟨rfl, by (repeat (first | (with_reducible refine Fr.setCell ?_ (fun h => absurd h (Nat.lt_irrefl _)) _) | (with_reducible refine Fr.setCell ?_ (fun h => absurd h (by first | omega | (simp; done) | (simp; omega) | (dsimp only; omega))) _) | (with_reducible refine Fr.alloc ?_ _) | (with_reducible refine Fr.drew ?_) | (with_reducible refine Fr.drewN ?_ _) | (with_reducible exact HF.out)))⟩
    · have c0 : W1.cell? ⟨g, 6, none⟩ = some (.int .i64 2) := cell_of_heap HG.out rfl
      have c1 : W1.cell? ⟨g, 7, none⟩ = some (.int .i64 2) := cell_of_heap HG.out rfl
      have c2 : W1.cell? ⟨g, 8, none⟩ = some (.bool true) := cell_of_heap HG.out rfl
      go_wp2
      exact bodyPost_ret (v := .agg #[.int .i64 2, .int .i64 2, .bool true]) (by simp [results, Tryz.results51, go_sem]; go_simp) rfl ⟨rfl, by (repeat (first | (with_reducible refine Fr.setCell ?_ (fun h => absurd h (Nat.lt_irrefl _)) _) | (with_reducible refine Fr.setCell ?_ (fun h => absurd h (by first | omega | (simp; done) | (simp; omega) | (dsimp only; omega))) _) | (with_reducible refine Fr.alloc ?_ _) | (with_reducible refine Fr.drew ?_) | (with_reducible refine Fr.drewN ?_ _) | (with_reducible exact HF.out)))⟩
    · have c0 : W1.cell? ⟨g, 9, none⟩ = some (.int .i64 0) := cell_of_heap HG.out rfl
      have c1 : W1.cell? ⟨g, 10, none⟩ = some (.int .i64 0) := cell_of_heap HG.out rfl
      have c2 : W1.cell? ⟨g, 11, none⟩ = some (.bool true) := cell_of_heap HG.out rfl
      go_wp2
      exact bodyPost_ret (v := .agg #[.int .i64 0, .int .i64 0, .bool true]) (by simp [results, Tryz.results51, go_sem]; go_simp) rfl ⟨rfl, by (repeat (first | (with_reducible refine Fr.setCell ?_ (fun h => absurd h (Nat.lt_irrefl _)) _) | (with_reducible refine Fr.setCell ?_ (fun h => absurd h (by first | omega | (simp; done) | (simp; omega) | (dsimp only; omega))) _) | (with_reducible refine Fr.alloc ?_ _) | (with_reducible refine Fr.drew ?_) | (with_reducible refine Fr.drewN ?_ _) | (with_reducible exact HF.out)))⟩
    · have c0 : W1.cell? ⟨g, 12, none⟩ = some (.int .i64 1) := cell_of_heap HG.out rfl
      have c1 : W1.cell? ⟨g, 13, none⟩ = some (.int .i64 1) := cell_of_heap HG.out rfl
      have c2 : W1.cell? ⟨g, 14, none⟩ = some (.bool false) := cell_of_heap HG.out rfl
      go_wp2
      exact bodyPost_ret (v := .agg #[.int .i64 1, .int .i64 1, .bool false]) (by simp [results, Tryz.results51, go_sem]; go_simp) rfl ⟨rfl, by (repeat (first | (with_reducible refine Fr.setCell ?_ (fun h => absurd h (Nat.lt_irrefl _)) _) | (with_reducible refine Fr.setCell ?_ (fun h => absurd h (by first | omega | (simp; done) | (simp; omega) | (dsimp only; omega))) _) | (with_reducible refine Fr.alloc ?_ _) | (with_reducible refine Fr.drew ?_) | (with_reducible refine Fr.drewN ?_ _) | (with_reducible exact HF.out)))⟩
    · have c0 : W1.cell? ⟨g, 15, none⟩ = some (.int .i64 0) := cell_of_heap HG.out rfl
      have c1 : W1.cell? ⟨g, 16, none⟩ = some (.int .i64 0) := cell_of_heap HG.out rfl
      have c2 : W1.cell? ⟨g, 17, none⟩ = some (.bool false) := cell_of_heap HG.out rfl
      go_wp2
      exact bodyPost_ret (v := .agg #[.int .i64 0, .int .i64 0, .bool false]) (by simp [results, Tryz.results51, go_sem]; go_simp) rfl ⟨rfl, by (repeat (first | (with_reducible refine Fr.setCell ?_ (fun h => absurd h (Nat.lt_irrefl _)) _) | (with_reducible refine Fr.setCell ?_ (fun h => absurd h (by first | omega | (simp; done) | (simp; omega) | (dsimp only; omega))) _) | (with_reducible refine Fr.alloc ?_ _) | (with_reducible refine Fr.drew ?_) | (with_reducible refine Fr.drewN ?_ _) | (with_reducible exact HF.out)))⟩
    · have c0 : W1.cell? ⟨g, 18, none⟩ = some (.int .i64 1) := cell_of_heap HG.out rfl
      have c1 : W1.cell? ⟨g, 19, none⟩ = some (.int .i64 1) := cell_of_heap HG.out rfl
      have c2 : W1.cell? ⟨g, 20, none⟩ = some (.bool false) := cell_of_heap HG.out rfl
      go_wp2
      exact bodyPost_ret (v := .agg #[.int .i64 1, .int .i64 1, .bool false]) (by simp [results, Tryz.results51, go_sem]; go_simp) rfl ⟨rfl, by (repeat (first | (with_reducible refine Fr.setCell ?_ (fun h => absurd h (Nat.lt_irrefl _)) _) | (with_reducible refine Fr.setCell ?_ (fun h => absurd h (by first | omega | (simp; done) | (simp; omega) | (dsimp only; omega))) _) | (with_reducible refine Fr.alloc ?_ _) | (with_reducible refine Fr.drew ?_) | (with_reducible refine Fr.drewN ?_ _) | (with_reducible exact HF.out)))⟩
    · have c0 : W1.cell? ⟨g, 21, none⟩ = some (.int .i64 1) := cell_of_heap HG.out rfl
      have c1 : W1.cell? ⟨g, 22, none⟩ = some (.int .i64 5) := cell_of_heap HG.out rfl
      have c2 : W1.cell? ⟨g, 23, none⟩ = some (.bool true) := cell_of_heap HG.out rfl
      go_wp2
      exact bodyPost_ret (v := .agg #[.int .i64 1, .int .i64 5, .bool true]) (by simp [results, Tryz.results51, go_sem]; go_simp) rfl ⟨rfl, by (repeat (first | (with_reducible refine Fr.setCell ?_ (fun h => absurd h (Nat.lt_irrefl _)) _) | (with_reducible refine Fr.setCell ?_ (fun h => absurd h (by first | omega | (simp; done) | (simp; omega) | (dsimp only; omega))) _) | (with_reducible refine Fr.alloc ?_ _) | (with_reducible refine Fr.drew ?_) | (with_reducible refine Fr.drewN ?_ _) | (with_reducible exact HF.out)))⟩
    · have c0 : W1.cell? ⟨g, 24, none⟩ = some (.int .i64 1) := cell_of_heap HG.out rfl
      have c1 : W1.cell? ⟨g, 25, none⟩ = some (.int .i64 1) := cell_of_heap HG.out rfl
      have c2 : W1.cell? ⟨g, 26, none⟩ = some (.bool false) := cell_of_heap HG.out rfl
      go_wp2
      exact bodyPost_ret (v := .agg #[.int .i64 1, .int .i64 1, .bool false]) (by simp [results, Tryz.results51, go_sem]; go_simp) rfl ⟨rfl, by (repeat (first | (with_reducible refine Fr.setCell ?_ (fun h => absurd h (Nat.lt_irrefl _)) _) | (with_reducible refine Fr.setCell ?_ (fun h => absurd h (by first | omega | (simp; done) | (simp; omega) | (dsimp only; omega))) _) | (with_reducible refine Fr.alloc ?_ _) | (with_reducible refine Fr.drew ?_) | (with_reducible refine Fr.drewN ?_ _) | (with_reducible exact HF.out)))⟩
    · have c0 : W1.cell? ⟨g, 27, none⟩ = some (.int .i64 0) := cell_of_heap HG.out rfl
      have c1 : W1.cell? ⟨g, 28, none⟩ = some (.int .i64 0) := cell_of_heap HG.out rfl
      have c2 : W1.cell? ⟨g, 29, none⟩ = some (.bool false) := cell_of_heap HG.out rfl
      go_wp2
      exact bodyPost_ret (v := .agg #[.int .i64 0, .int .i64 0, .bool false]) (by simp [results, Tryz.results51, go_sem]; go_simp) rfl ⟨rfl, by (repeat (first | (with_reducible refine Fr.setCell ?_ (fun h => absurd h (Nat.lt_irrefl _)) _) | (with_reducible refine Fr.setCell ?_ (fun h => absurd h (by first | omega | (simp; done) | (simp; omega) | (dsimp only; omega))) _) | (with_reducible refine Fr.alloc ?_ _) | (with_reducible refine Fr.drew ?_) | (with_reducible refine Fr.drewN ?_ _) | (with_reducible exact HF.out)))⟩
end Go.Proofs.YtomcfjckhajhmabGreatDoor
namespace Go.Proofs.YtomcfjckhajhmabGreatDoor
open Go.RowKit

set_option maxRecDepth 100000 in
theorem ir_Leaves (op : Int) (w : World) : Calls Tryz.prog 37 #[.int .i64 op] w (Still (.bool (lvs op)) w) := by
  have hc := ir_operationOf op w
  unfold opV at hc
  go_enter Tryz.func37, Tryz.ntmps37
  go_wp2_with (go_at_call 51; refine hc.mono ?_; rintro e w1 ⟨rfl, hF⟩)
  have hr : (Instr.field 114 (.agg #[.int .i64 (lst op), .int .i64 (mst op), .bool (lvs op)]) 2).run Tryz.prog w1 = .ok (.bool (lvs op)) w1 := by rfl
  rw [hr]
  go_wp2
  go_ret
  exact ⟨rfl, hF⟩
set_option maxRecDepth 100000 in
theorem ir_Takes (op : Int) (w : World) : Calls Tryz.prog 67 #[.int .i64 op] w (Still (.tuple #[.int .i64 (lst op), .int .i64 (mst op)]) w) := by
  have hc := ir_operationOf op w
  unfold opV at hc
  go_enter Tryz.func67, Tryz.ntmps67
  go_wp2_with (go_at_call 51; refine hc.mono ?_; rintro e w1 ⟨rfl, hF⟩; have HF := Lib.hid hF; clear hF)
  go_quiet (fail)
  go_wp2
  go_ret2
  exact ⟨rfl, by (repeat (first | (with_reducible refine Fr.setCell ?_ (fun h => absurd h (Nat.lt_irrefl _)) _) | (with_reducible refine Fr.setCell ?_ (fun h => absurd h (by first | omega | (simp; done) | (simp; omega) | (dsimp only; omega))) _) | (with_reducible refine Fr.alloc ?_ _) | (with_reducible refine Fr.drew ?_) | (with_reducible refine Fr.drewN ?_ _) | (with_reducible exact HF.out)))⟩
/-- the place of a result -/
def wrS (i : Ii) : Sr := if lvs i.op = true then i.d else zeroS
set_option maxHeartbeats 1000000 in
theorem ir_Writes (i : Ii) (w : World) : Calls Tryz.prog 14 #[i.v] w (Still (.tuple #[(wrS i).v, .bool (lvs i.op)]) w) := by
  have hc := fun W => ir_Leaves i.op W
  obtain ⟨op, n, ⟨dk, dn, dw⟩, la, l, lc, x⟩ := i
  unfold Ii.v wrS Sr.v
  simp only at hc ⊢
  cases h : lvs op
  all_goals
    rw [h] at hc
    simp only [Bool.false_eq_true, if_false, if_true, zeroS]
    clear h
    go_enter Tryz.func14, Tryz.ntmps14
    go_wp2_with (go_at_call 37; refine (hc _).mono ?_; rintro e w1 ⟨rfl, hF⟩; have hb1 := hF.heap (by simp) (hp1 _ _ _); have hb2 := hF.heap (by simp) (hp2 _ _ _); have k0 := cell_of_heap (o := 0) hb1 rfl; have k1 := cell_of_heap (o := 1) hb1 rfl; have k2 := cell_of_heap (o := 2) hb1 rfl; have k3 := cell_of_heap (o := 3) hb1 rfl; have k4 := cell_of_heap (o := 4) hb1 rfl; have r0 := cell_of_heap (o := 0) hb2 rfl; have r1 := cell_of_heap (o := 1) hb2 rfl; have r2 := cell_of_heap (o := 2) hb2 rfl; have fr0 := frozen_of_heap (o := 0) hb2; have fr1 := frozen_of_heap (o := 1) hb2; have fr2 := frozen_of_heap (o := 2) hb2; have HF := Lib.hid hF; clear hF hb1 hb2)
    refine bodyPost_ret (v := .tuple #[.agg #[.int .i64 _, .int .i64 _, .int .u64 _], .bool _]) (by rw [results_cell_tmp rfl]; go_simp) rfl ⟨rfl, ?_⟩
    (repeat (first | (with_reducible refine Fr.setCell ?_ (fun h => absurd h (Nat.lt_irrefl _)) _) | (with_reducible refine Fr.setCell ?_ (fun h => absurd h (by first | omega | (simp; done) | (simp; omega) | (dsimp only; omega))) _) | (with_reducible refine Fr.alloc ?_ _) | (with_reducible refine Fr.drew ?_) | (with_reducible refine Fr.drewN ?_ _) | (with_reducible exact (((Fr.refl [] w).alloc _).alloc _).trans HF.out)))
end Go.Proofs.YtomcfjckhajhmabGreatDoor
