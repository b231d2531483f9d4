/- ir: may all of some sources be? -/
import Derived.Test.YtcdpgchkdjjfgaaIrMem
import Derived.Test.YtcdpgchkdjjfgaaIrSrc
namespace Go.Proofs.Ytcdpgchkdjjfgaa
open Go.RowKit

set_option maxHeartbeats 1000000 in
theorem ir_areSources (R P S M : Int) (l : List Sr) (a : Option Addr) (c : Nat) (w : World) (hl : l.length ≤ 5864062014805) (h : SrcsAt w a l) : Calls Try.prog 41 #[rgV R P S M, .slice a l.length c] w (Still (.bool (l.all (srcOk R P))) w) := by
  have HC := Lib.hid (fun s W => ir_isSource R P S M s W)
  have HA := Lib.hid h
  obtain ⟨v, hv⟩ : ∃ v, v = l.all (srcOk R P) := ⟨_, rfl⟩
  rw [← hv]
  have HV := Lib.hid hv
  obtain ⟨n, hn⟩ : ∃ n, n = l.length := ⟨_, rfl⟩
  rw [← hn]
  rw [← hn] at hl
  have HN := Lib.hid hn
  clear h hv hn
  unfold rgV at HC ⊢
  go_enter Try.func41, Try.ntmps41
  go_wp2_with fail
  go_loopw [9] (fun i wr => ∃ k : Nat, k ≤ n ∧ i = .int .i64 k ∧ Hid (Fr [] w wr) ∧ Hid (wr.heap[w.heap.size]? = some (.cells #[.int .i64 R, .int .i64 P, .int .i64 S, .int .i64 M] 63)) ∧ Hid ((l.take k).all (srcOk R P) = true)) (fun i _ => n - (intOf i).toNat)
  case atStart => exact ⟨0, Nat.zero_le _, rfl, (Fr.refl [] w).alloc _, heap_new _ _, Lib.hid (by simp)⟩
  case round =>
    obtain ⟨k, hk, rfl, HF, HB, HT⟩ := hrel
    by_cases hlt : k < n
    · have hkl : k < l.length := by rw [← HN.out]; exact hlt
      obtain ⟨s, hs⟩ : ∃ s, l[k]? = some s := ⟨_, List.getElem?_eq_getElem hkl⟩
      obtain ⟨g, o, rfl, c0, c1, c2⟩ := (HA.out.fr HF.out) k s hs
      have hc := HC.out s
      have HY := Lib.hid (fun hp => all_snoc hs HT.out (p := srcOk R P) hp)
      have HNO := Lib.hid (fun hp => all_no (p := srcOk R P) hs hp)
      obtain ⟨b, hb⟩ : ∃ b, b = srcOk R P s := ⟨_, rfl⟩
      simp only [← hb] at hc HY HNO
      have k0 : (0 : Int) ≤ (k : Int) := by omega
      have k1 : (k : Int) < (n : Int) := by omega
      have b0 := cell_of_heap (o := 0) HB.out rfl; have b1 := cell_of_heap (o := 1) HB.out rfl; have b2 := cell_of_heap (o := 2) HB.out rfl; have b3 := cell_of_heap (o := 3) HB.out rfl
      have hwl := HF.out.size
      obtain ⟨sk, sn, sw⟩ := s
      unfold Sr.v at hc
      simp only at c0 c1 c2 hc
      have hw0 : w.heap.size < wr.heap.size := lt_of_heap HB.out
      clear hb hkl hs
      cases b
      · have HE := Lib.hid (HNO.out rfl)
        clear HNO HY
        go_wp2_with (go_at_call 45; refine (hc _).mono ?_; rintro e w1 ⟨rfl, hF⟩; have HF1 := Lib.hid hF; clear hF)
        go_ret
        exact ⟨ret1 (vb (by rw [HV.out, HE.out])), HF.out.trans (((Fr.refl [] wr).alloc _).trans HF1.out)⟩
      · have HE := Lib.hid (HY.out rfl)
        clear HNO HY
        go_wp2_with (go_at_call 45; refine (hc _).mono ?_; rintro e w1 ⟨rfl, hF⟩; have HF1 := Lib.hid hF; clear hF)
        go_roundw
        case rel => exact ⟨k + 1, by omega, by go_num, HF.out.trans (((Fr.refl [] wr).alloc _).trans HF1.out), HF1.out.heap (by simp) (((Fr.refl [] wr).alloc _).heap (by simp) HB.out), HE⟩
        case measure => simp [intOf]; omega
    · have hkn : k = n := by omega
      subst hkn
      have hkd : decide (k < k) = false := by simp
      have HE := Lib.hid (all_end HT.out HN.out)
      go_wp2_with fail
      go_ret
      exact ⟨ret1 (vb (by rw [HV.out, HE.out])), HF.out⟩
end Go.Proofs.Ytcdpgchkdjjfgaa
