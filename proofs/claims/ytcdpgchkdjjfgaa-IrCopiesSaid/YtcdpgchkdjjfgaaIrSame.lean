/- ir: are two lists of sources the same? -/
import Derived.Test.YtcdpgchkdjjfgaaIrMem
import Derived.Deep.QuietTactic
import Derived.BigQuiet
namespace Go.Proofs.Ytcdpgchkdjjfgaa
open Go.RowKit

set_option maxHeartbeats 4000000 in
theorem sameSrcs {w : World} {a b : Option Addr} {ac bc : Nat} (xs ys : List Sr) (ha : SrcsAt w a xs) (hb : SrcsAt w b ys) (hx : xs.length ≤ 5864062014805) :
    Calls Try.prog 18 #[.slice a xs.length ac, .slice b ys.length bc] w (Still (.bool (decide (xs = ys))) w) := by
  by_cases hl : xs.length = ys.length
  · obtain ⟨n, hn⟩ : ∃ n, n = xs.length := ⟨_, rfl⟩
    rw [← hl, ← hn]
    rw [← hn] at hl hx
    have HA := Lib.hid ha
    have HB := Lib.hid hb
    have HN := Lib.hid hn
    have HL := Lib.hid hl
    clear ha hb hn hl
    obtain ⟨v, hv⟩ : ∃ v, v = decide (xs = ys) := ⟨_, rfl⟩
    rw [← hv]
    have HV : Hid (v = true ↔ xs = ys) := Lib.hid (by rw [hv]; simp)
    clear hv
    go_enter Try.func18, Try.ntmps18
    go_wp2
    go_loopw [5] (fun i wr => ∃ k : Nat, k ≤ n ∧ i = .int .i64 k ∧ Hid (Fr [] w wr) ∧ Hid (xs.take k = ys.take k)) (fun i _ => n - (intOf i).toNat)
    case atStart => exact ⟨0, Nat.zero_le _, rfl, Fr.refl _ _, rfl⟩
    case round =>
      obtain ⟨k, hk, rfl, HF, ht⟩ := hrel
      by_cases hlt : k < n
      · have hkx : k < xs.length := by rw [← HN.out]; exact hlt
        have hky : k < ys.length := by rw [← HL.out]; exact hlt
        obtain ⟨g, o, rfl, c0, c1, c2⟩ := (HA.out.fr HF.out) k _ (List.getElem?_eq_getElem hkx)
        obtain ⟨g2, o2, rfl, d0, d1, d2⟩ := (HB.out.fr HF.out) k _ (List.getElem?_eq_getElem hky)
        have T1 : Hid (xs.take (k + 1) = xs.take k ++ [xs[k]]) := by rw [List.take_add_one, List.getElem?_eq_getElem hkx]; rfl
        have T2 : Hid (ys.take (k + 1) = ys.take k ++ [ys[k]]) := by rw [List.take_add_one, List.getElem?_eq_getElem hky]; rfl
        have hk1 : (k : Int) < (n : Int) := by omega
        have hk0 : (0 : Int) ≤ (k : Int) := Int.natCast_nonneg _
        have hg1 : g < wr.heap.size := World.block_lt_of_cell? wr _ c0
        have hg2 : g2 < wr.heap.size := World.block_lt_of_cell? wr _ d0
        obtain ⟨p, hp⟩ : ∃ p, p = xs[k] := ⟨_, rfl⟩
        obtain ⟨q, hq⟩ : ∃ q, q = ys[k] := ⟨_, rfl⟩
        rw [← hp] at c0 c1 c2 T1
        rw [← hq] at d0 d1 d2 T2
        have HNO : Hid (p ≠ q → v = false) := Lib.hid (fun hne => by
          cases v
          · rfl
          · have h9 := HV.out.1 rfl
            subst h9
            exact absurd (hp.trans hq.symm) hne)
        have HYES : Hid (p = q → xs.take (k + 1) = ys.take (k + 1)) := Lib.hid (fun e => by rw [T1.out, T2.out, ht.out, e])
        clear hp hq hkx hky T1 T2
        obtain ⟨pk, pn, pw⟩ := p
        obtain ⟨qk, qn, qw⟩ := q
        simp only [Sr.mk.injEq, ne_eq] at c0 c1 c2 d0 d1 d2 HNO HYES
        have hc : (pk = qk ∧ pn = qn ∧ pw = qw) ∨ (pk == qk) = false ∧ pk ≠ qk ∨ pk = qk ∧ (pn == qn) = false ∧ pn ≠ qn ∨ pk = qk ∧ pn = qn ∧ (pw == qw) = false ∧ pw ≠ qw := by
          simp only [beq_eq_false_iff_ne]
          omega
        rcases hc with ⟨rfl, rfl, rfl⟩ | ⟨h1, h2⟩ | ⟨rfl, h1, h2⟩ | ⟨rfl, rfl, h1, h2⟩
        case inl =>
          have HE := Lib.hid (HYES.out ⟨rfl, rfl, rfl⟩)
          clear HYES HNO
          go_wp2_with fail
          go_quiet (fail)
          go_wp2
          go_roundw
          case rel => exact ⟨k + 1, by omega, by go_num, HF.out.drewN _, HE⟩
          case measure => simp [intOf]; omega
        all_goals
          have HE : Hid (v = false) := Lib.hid (HNO.out (by simp [h2]))
          clear HYES HNO h2
          go_wp2_with fail
          go_quiet (fail)
          go_wp2
          go_ret
          exact ⟨ret1 (vb HE.out.symm), HF.out.drewN _⟩
      · have hke : k = n := by omega
        have he : xs = ys := by
          have := ht.out
          rw [hke, HN.out, List.take_length, ← HN.out, HL.out, List.take_length] at this
          exact this
        have HE : Hid (v = true) := Lib.hid (HV.out.2 he)
        have hkd : ¬ (k : Int) < (n : Int) := by omega
        clear he hke
        go_wp2
        go_ret
        exact ⟨ret1 (vb HE.out.symm), HF.out⟩
  · have hne : xs ≠ ys := fun e => hl (by rw [e])
    have hd : decide (xs = ys) = false := by simpa using hne
    rw [hd]
    have hl' : ((xs.length : Int) == (ys.length : Int)) = false := by simp; omega
    have hl2 : ((xs.length : Int) != (ys.length : Int)) = true := by simp; omega
    generalize xs.length = p at *
    generalize ys.length = q at *
    clear ha hb hne hd
    go_enter Try.func18, Try.ntmps18
    go_wp2
    go_ret
    exact ⟨rfl, Fr.refl _ _⟩
end Go.Proofs.Ytcdpgchkdjjfgaa
