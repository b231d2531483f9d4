/- ir: the maps of a unit. -/
import Derived.Test.YtcdpgchkdjjfgaaIrNums
import Derived.Test.YtcdpgchkdjjfgaaIrSrcs
import Derived.IntWalk
namespace Go.Proofs.Ytcdpgchkdjjfgaa
open Go.RowKit

def mapOk (R P T : Int) (m : Mp) : Bool := (decide (m.l.length = 0) || wtn m.l.length T (T + 16)) && m.l.all (srcOk R P)
set_option maxRecDepth 100000 in
set_option maxHeartbeats 4000000 in
theorem ir_areMaps (u : Un) (w : World) (hA : MapsAt w u.ma u.maps) (hB : UB u) (hT : 0 ≤ u.temps ∧ u.temps ≤ 16) : Calls Try.prog 28 #[u.v] w (Still (.bool (u.maps.all (mapOk u.regs u.spills u.temps))) w) := by
  have hmn := hB.mn
  have hml := fun m hm => (hB.maps m hm).1
  have hr := fun W => ir_rangesOf u W
  have HS : Hid (∀ (m : Mp) (W : World), m ∈ u.maps → SrcsAt W m.a m.l → Calls Try.prog 41 #[rgV u.regs u.spills u.sites u.maps.length, .slice m.a m.l.length m.c] W (Still (.bool (m.l.all (srcOk u.regs u.spills))) W)) := Lib.hid fun m W hm h => ir_areSources u.regs u.spills u.sites u.maps.length m.l m.a m.c W (hml m hm) h
  have HM : Hid (∀ m, mapOk u.regs u.spills u.temps m = ((decide (m.l.length = 0) || wtn m.l.length u.temps (u.temps + 16)) && m.l.all (srcOk u.regs u.spills))) := Lib.hid fun m => rfl
  obtain ⟨v, hv⟩ : ∃ v, v = u.maps.all (mapOk u.regs u.spills u.temps) := ⟨_, rfl⟩
  rw [← hv]
  generalize hq : mapOk u.regs u.spills u.temps = q at *
  clear hq
  obtain ⟨method, args, T, R, P, S, ea, en, ec, ca, co, cc, sa, st, sc, ma, mp, mc⟩ := u
  unfold Un.v at hr ⊢
  unfold rgV at hr HS
  simp only at hmn hml hr HS HM hv hA hT ⊢
  obtain ⟨t0, t16⟩ := hT
  clear hB
  generalize en.length = el at *
  generalize co.length = cl at *
  generalize st.length = sl at *
  obtain ⟨ml, hll⟩ : ∃ n, n = mp.length := ⟨_, rfl⟩
  rw [← hll] at hmn hr ⊢
  simp only [← hll] at HS
  have HL := Lib.hid hll
  have HA := Lib.hid hA
  have HV := Lib.hid hv
  have HML := Lib.hid hml
  clear hll hA hv hml
  go_enter Try.func28, Try.ntmps28
  go_wp2_with (go_at_call 40; refine (hr _).mono ?_; rintro e w1 ⟨rfl, hF⟩; have HF1 : Hid (Fr [] w w1) := ((Fr.refl [] w).alloc _).trans hF; have HU := Lib.hid (hF.heap (by simp) (heap_new w _)); have b0 := cell_of_heap (o := 0) HU.out rfl; have b1 := cell_of_heap (o := 1) HU.out rfl; have b2 := cell_of_heap (o := 2) HU.out rfl; have b3 := cell_of_heap (o := 3) HU.out rfl; have b4 := cell_of_heap (o := 4) HU.out rfl; have b5 := cell_of_heap (o := 5) HU.out rfl; have b6 := cell_of_heap (o := 6) HU.out rfl; have b7 := cell_of_heap (o := 7) HU.out rfl; have b8 := cell_of_heap (o := 8) HU.out rfl; have b9 := cell_of_heap (o := 9) HU.out rfl; have hsz1 := lt_of_heap HU.out; clear hF)
  clear b0 b1 b2 b3 b4 b5 b6 b7 b8 b9
  go_loopw [11] (fun i wr => ∃ k : Nat, k ≤ ml ∧ i = .int .i64 k ∧ Hid (Fr [] w wr) ∧ Hid (wr.heap[w.heap.size]? = some (.cells #[.int .u64 method, .int .i64 args, .int .i64 T, .int .i64 R, .int .i64 P, .int .i64 S, .slice ea el ec, .slice ca cl cc, .slice sa sl sc, .slice ma ml mc] 43)) ∧ Hid (wr.heap[w1.heap.size]? = some (.cells #[.int .i64 R, .int .i64 P, .int .i64 S, .int .i64 ml] 63)) ∧ Hid ((mp.take k).all q = true)) (fun i _ => ml - (intOf i).toNat)
  case atStart => exact ⟨0, Nat.zero_le _, rfl, HF1.out.alloc _, ((Fr.refl [] w1).alloc _).heap (by simp) HU.out, heap_new _ _, Lib.hid (by simp)⟩
  case round =>
    obtain ⟨k, hk, rfl, HF, HB, HR, HT⟩ := hrel
    have hw0 : w.heap.size < wr.heap.size := lt_of_heap HB.out
    have hw1 : w1.heap.size < wr.heap.size := lt_of_heap HR.out
    by_cases hlt : k < ml
    · have hkl : k < mp.length := by rw [← HL.out]; exact hlt
      obtain ⟨m, hm⟩ : ∃ m, mp[k]? = some m := ⟨_, List.getElem?_eq_getElem hkl⟩
      obtain ⟨⟨g, o, rfl, c0⟩, hs⟩ := (HA.out.fr HF.out) k m hm
      have HSS : Hid (∀ W, Fr [] wr W → Calls Try.prog 41 #[.agg #[.int .i64 R, .int .i64 P, .int .i64 S, .int .i64 ml], .slice m.a m.l.length m.c] W (Still (.bool (m.l.all (srcOk R P))) W)) := Lib.hid fun W hF => HS.out m W (List.mem_of_getElem? hm) (hs.fr hF)
      have hll := HML.out m (List.mem_of_getElem? hm)
      have HY := Lib.hid (fun hp => all_snoc hm HT.out (p := q) hp)
      have HN := Lib.hid (fun hp => all_no (p := q) hm hp)
      have HQ := Lib.hid (HM.out m)
      obtain ⟨b, hb⟩ : ∃ b, b = q m := ⟨_, rfl⟩
      simp only [← hb] at HY HN HQ
      have k0 : (0 : Int) ≤ (k : Int) := by omega
      have k1 : (k : Int) < (ml : Int) := by omega
      have b0 := cell_of_heap (o := 0) HB.out rfl; have b1 := cell_of_heap (o := 1) HB.out rfl; have b2 := cell_of_heap (o := 2) HB.out rfl; have b3 := cell_of_heap (o := 3) HB.out rfl; have b4 := cell_of_heap (o := 4) HB.out rfl; have b5 := cell_of_heap (o := 5) HB.out rfl; have b6 := cell_of_heap (o := 6) HB.out rfl; have b7 := cell_of_heap (o := 7) HB.out rfl; have b8 := cell_of_heap (o := 8) HB.out rfl; have b9 := cell_of_heap (o := 9) HB.out rfl
      have r0 := cell_of_heap (o := 0) HR.out rfl; have r1 := cell_of_heap (o := 1) HR.out rfl; have r2 := cell_of_heap (o := 2) HR.out rfl; have r3 := cell_of_heap (o := 3) HR.out rfl
      obtain ⟨a, l, c⟩ := m
      simp only at c0 hs hll HSS HQ
      generalize l.all (srcOk R P) = bs at *
      generalize l.length = ll at *
      have hwi := fun W => ir_within ll T (T + 16) W
      have e1 : IntKind.i64.wrap (T + 16) = T + 16 := IntWalk.i64_in _ (by omega)
      clear hb hkl hm hs
      by_cases hz : ll = 0
      · subst hz
        simp only [decide_true, Bool.true_or, Bool.true_and] at HQ
        cases bs
        · have HE := Lib.hid (HN.out HQ.out)
          clear HN HY
          go_wp2_with (first
            | (go_at_call 41; refine (HSS.out _ (by (repeat (first | (with_reducible refine Fr.setCell ?_ (fun h => absurd h (Nat.lt_irrefl _)) _) | (with_reducible refine Fr.setCell ?_ (fun h => absurd h (by first | omega | (simp; done) | (simp; omega) | (dsimp only; omega))) _) | (with_reducible refine Fr.alloc ?_ _) | (with_reducible refine Fr.drew ?_) | (with_reducible refine Fr.drewN ?_ _) | (with_reducible exact Fr.refl [] wr))))).mono ?_; rintro e w2 ⟨rfl, hF⟩; have HF2 := Lib.hid hF; clear hF))
          go_ret
          exact ⟨ret1 (vb (by rw [HV.out, HE.out])), HF.out.trans HF2.out⟩
        · have HE := Lib.hid (HY.out HQ.out)
          clear HN HY
          go_wp2_with (first
            | (go_at_call 41; refine (HSS.out _ (by (repeat (first | (with_reducible refine Fr.setCell ?_ (fun h => absurd h (Nat.lt_irrefl _)) _) | (with_reducible refine Fr.setCell ?_ (fun h => absurd h (by first | omega | (simp; done) | (simp; omega) | (dsimp only; omega))) _) | (with_reducible refine Fr.alloc ?_ _) | (with_reducible refine Fr.drew ?_) | (with_reducible refine Fr.drewN ?_ _) | (with_reducible exact Fr.refl [] wr))))).mono ?_; rintro e w2 ⟨rfl, hF⟩; have HF2 := Lib.hid hF; clear hF))
          go_roundw
          case rel => exact ⟨k + 1, by omega, by go_num, HF.out.trans HF2.out, HF2.out.heap (by simp) HB.out, HF2.out.heap (by simp) HR.out, HE⟩
          case measure => simp [intOf]; omega
      · have hz0 : (0 : Int) < (ll : Int) := by omega
        have hzd : decide (ll = 0) = false := by simp [hz]
        simp only [hzd, Bool.false_or] at HQ
        clear hz hzd
        generalize wtn ll T (T + 16) = bw at *
        cases bw
        · simp only [Bool.false_and] at HQ
          have HE := Lib.hid (HN.out HQ.out)
          clear HN HY
          go_wp2_with (first
            | (go_at_call 39; (with_reducible refine (hwi _).mono ?_); rintro e w' ⟨rfl, rfl⟩))
          go_ret
          exact ⟨ret1 (vb (by rw [HV.out, HE.out])), HF.out⟩
        · simp only [Bool.true_and] at HQ
          cases bs
          · have HE := Lib.hid (HN.out HQ.out)
            clear HN HY
            go_wp2_with (first
              | (go_at_call 39; (with_reducible refine (hwi _).mono ?_); rintro e w' ⟨rfl, rfl⟩)
              | (go_at_call 41; refine (HSS.out _ (by (repeat (first | (with_reducible refine Fr.setCell ?_ (fun h => absurd h (Nat.lt_irrefl _)) _) | (with_reducible refine Fr.setCell ?_ (fun h => absurd h (by first | omega | (simp; done) | (simp; omega) | (dsimp only; omega))) _) | (with_reducible refine Fr.alloc ?_ _) | (with_reducible refine Fr.drew ?_) | (with_reducible refine Fr.drewN ?_ _) | (with_reducible exact Fr.refl [] wr))))).mono ?_; rintro e w2 ⟨rfl, hF⟩; have HF2 := Lib.hid hF; clear hF))
            go_ret
            exact ⟨ret1 (vb (by rw [HV.out, HE.out])), HF.out.trans HF2.out⟩
          · have HE := Lib.hid (HY.out HQ.out)
            clear HN HY
            go_wp2_with (first
              | (go_at_call 39; (with_reducible refine (hwi _).mono ?_); rintro e w' ⟨rfl, rfl⟩)
              | (go_at_call 41; refine (HSS.out _ (by (repeat (first | (with_reducible refine Fr.setCell ?_ (fun h => absurd h (Nat.lt_irrefl _)) _) | (with_reducible refine Fr.setCell ?_ (fun h => absurd h (by first | omega | (simp; done) | (simp; omega) | (dsimp only; omega))) _) | (with_reducible refine Fr.alloc ?_ _) | (with_reducible refine Fr.drew ?_) | (with_reducible refine Fr.drewN ?_ _) | (with_reducible exact Fr.refl [] wr))))).mono ?_; rintro e w2 ⟨rfl, hF⟩; have HF2 := Lib.hid hF; clear hF))
            go_roundw
            case rel => exact ⟨k + 1, by omega, by go_num, HF.out.trans HF2.out, HF2.out.heap (by simp) HB.out, HF2.out.heap (by simp) HR.out, HE⟩
            case measure => simp [intOf]; omega
    · have hkn : k = ml := by omega
      subst hkn
      have hkd : decide (k < k) = false := by simp
      have HE := Lib.hid (all_end HT.out HL.out)
      go_wp2_with fail
      go_ret
      exact ⟨ret1 (vb (by rw [HV.out, HE.out])), HF.out⟩
end Go.Proofs.Ytcdpgchkdjjfgaa
