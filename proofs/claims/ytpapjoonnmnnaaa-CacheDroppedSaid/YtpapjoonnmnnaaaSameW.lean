/- SameWords: are two lists of words the same? -/
import Derived.Test.YtpapjoonnmnnaaaFrame
import Derived.WalkSmall
namespace Go.Proofs.Ytpapjoonnmnnaaa
open Go.RowKit
/-- Returned, and nothing but draws. -/
def Drawn (v : Value) (w : World) (e : Ending) (w' : World) : Prop := e = .returned v ∧ ∃ m, w' = w.drewN m
/-- words that lie in a row -/
def WordsAt (w : World) (ao : Option Addr) (xs : List Int) : Prop := ∀ i x, xs[i]? = some x → ∃ g o, ao = some ⟨g, o, none⟩ ∧ w.cell? ⟨g, o + i, none⟩ = some (.int .u64 x)
theorem WordsAt.fr {S : List Nat} {w w' : World} {ao : Option Addr} {xs : List Int} (h : WordsAt w ao xs) (hF : Fr S w w') (hS : ∀ a, ao = some a → a.block ∉ S) : WordsAt w' ao xs := by
  intro i x hx
  obtain ⟨g, o, rfl, hc⟩ := h i x hx
  exact ⟨g, o, rfl, hF.cell (hS ⟨g, o, none⟩ rfl) hc⟩
set_option maxHeartbeats 1000000 in
/-- are two lists of words the same? -/
theorem sameWords {w : World} {aa ba : Option Addr} {ac bc : Nat} (xs ys : List Int) (ha : WordsAt w aa xs) (hb : WordsAt w ba ys) (hx : xs.length ≤ 17592186044416) :
    Calls Try.prog 11 #[.slice aa xs.length ac, .slice ba ys.length bc] w (Drawn (.bool (decide (xs = ys))) w) := by
  by_cases hl : xs.length = ys.length
  · obtain ⟨n, hn⟩ : ∃ n, n = xs.length := ⟨_, rfl⟩
    rw [← hl, ← hn]
    rw [← hn] at hl hx
    have HA := Lib.hid ha
    have HB := Lib.hid hb
    have HN := Lib.hid hn
    have HL := Lib.hid hl
    clear ha hb hn hl
    go_enter Try.func11, Try.ntmps11
    go_wp2
    go_loopw [5] (fun i wr => ∃ k m : Nat, k ≤ n ∧ i = .int .i64 k ∧ wr = w.drewN m ∧ Hid (xs.take k = ys.take k)) (fun i _ => n - (intOf i).toNat)
    case atStart => exact ⟨0, 0, Nat.zero_le _, rfl, rfl, rfl⟩
    case round =>
      obtain ⟨k, m, hk, rfl, hw, ht⟩ := hrel
      by_cases hlt : k < n
      · have hkx : k < xs.length := by rw [← HN.out]; exact hlt
        have hky : k < ys.length := by rw [← HL.out]; exact hlt
        obtain ⟨g, o, rfl, c1⟩ := HA.out k _ (List.getElem?_eq_getElem hkx)
        obtain ⟨g2, o2, rfl, c2⟩ := HB.out k _ (List.getElem?_eq_getElem hky)
        have d1 : wr.cell? ⟨g, o + k, none⟩ = some (.int .u64 xs[k]) := by rw [hw]; exact c1
        have d2 : wr.cell? ⟨g2, o2 + k, none⟩ = some (.int .u64 ys[k]) := by rw [hw]; exact c2
        have HW := Lib.hid hw
        have T1 : Hid (xs.take (k + 1) = xs.take k ++ [xs[k]]) := by rw [List.take_add_one, List.getElem?_eq_getElem hkx]; rfl
        have T2 : Hid (ys.take (k + 1) = ys.take k ++ [ys[k]]) := by rw [List.take_add_one, List.getElem?_eq_getElem hky]; rfl
        have hk1 : (k : Int) < (n : Int) := by omega
        have hk0 : (0 : Int) ≤ (k : Int) := Int.natCast_nonneg _
        obtain ⟨p, hp⟩ : ∃ p, p = xs[k] := ⟨_, rfl⟩
        obtain ⟨q, hq⟩ : ∃ q, q = ys[k] := ⟨_, rfl⟩
        rw [← hp] at d1 T1
        rw [← hq] at d2 T2
        clear hw c1 c2
        by_cases hpq : p = q
        · have HPQ : Hid (xs.take (k + 1) = ys.take (k + 1)) := by rw [T1.out, T2.out, ht.out, hpq]; exact rfl
          subst hpq
          clear hp hq
          go_wp2_with fail
          go_quiet (fail)
          go_wp2
          go_roundw
          case rel => exact ⟨k + 1, m + nq, by omega, by go_num, by rw [HW.out, World.drewN_drewN], HPQ⟩
          case measure => simp [intOf]; omega
        · have hne : xs ≠ ys := by
            rintro rfl
            exact hpq (hp.trans hq.symm)
          have hd : decide (xs = ys) = false := by simpa using hne
          rw [hd]
          have HQ := Lib.hid hpq
          have hb1 : (p == q) = false := by simpa using hpq
          clear hp hq hne hd hpq
          go_wp2_with fail
          go_quiet (fail)
          go_wp2
          go_ret
          exact ⟨rfl, _, by rw [HW.out, World.drewN_drewN]⟩
      · have hke : k = n := by omega
        have he : xs = ys := by
          have := ht.out
          rw [hke, HN.out, List.take_length, ← HN.out, HL.out, List.take_length] at this
          exact this
        have HE := Lib.hid he
        clear he
        subst hw
        go_wp2
        go_ret
        exact ⟨ret1 (vb (by simp [HE.out])), m, rfl⟩
  · have hne : xs ≠ ys := fun e => hl (by rw [e])
    have hd : decide (xs = ys) = false := by simpa using hne
    rw [hd]
    have hl' : ((xs.length : Int) == (ys.length : Int)) = false := by simp; omega
    generalize xs.length = a at *
    generalize ys.length = b at *
    clear ha hb hne hd
    go_enter Try.func11, Try.ntmps11
    go_wp2
    go_ret
    exact ⟨rfl, 0, rfl⟩
end Go.Proofs.Ytpapjoonnmnnaaa
