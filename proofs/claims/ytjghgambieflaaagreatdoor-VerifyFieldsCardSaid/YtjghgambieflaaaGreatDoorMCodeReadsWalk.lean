/- CodeReads: the method that a word leads to, or none. -/
import Derived.Test.YtjghgambieflaaaGreatDoorMCodeRefR
import Derived.Test.YtjghgambieflaaaGreatDoorMCodeBackWalk
namespace Go.Proofs.YtjghgambieflaaaGreatDoor
open Go.RowKit

/-- a method and a number -/
def ReadAs (M : Mth) (E : Int) (W : World) (e : Ending) (W' : World) : Prop := Fr [] W W' ∧ ∃ la lc ca cc, e = .returned (.tuple #[M.v la lc ca cc, .int .i64 E]) ∧ MAt W' M la lc ca
theorem zero_at (w : World) : MAt w Mth.zero none 0 none := ⟨fun i x hx => by simp [Mth.zero] at hx, fun _ => ⟨rfl, rfl⟩, fun i x hx => by simp [Mth.zero, flatI] at hx⟩
theorem ReadTo.yes {m : Mth} {W W' : World} {e : Ending} (h : ReadTo true m W e W') : ReadAs m 0 W e W' := by
  obtain ⟨hF, ⟨-, la, lc, ca, cc, rfl, hM, -⟩ | ⟨h, -⟩⟩ := h
  · exact ⟨hF, la, lc, ca, cc, rfl, hM⟩
  · cases h
theorem ReadTo.no {m : Mth} {W W' : World} {e : Ending} (h : ReadTo false m W e W') : ReadAs Mth.zero 4 W e W' := by
  obtain ⟨hF, ⟨h, -⟩ | ⟨-, rfl⟩⟩ := h
  · cases h
  · exact ⟨hF, none, 0, none, 0, rfl, zero_at _⟩
theorem dec_lens (fs : List Int) : (decM fs).lits.length ≤ fs.length ∧ (decM fs).code.length ≤ fs.length := by
  unfold decM
  simp
  omega
theorem stB_none (x : Int) : stB Mem.none.M x = false := by simp [stB, Mem.none]
/-- both answer the same -/
theorem reads_both {W : World} {hb mb rb : Nat} {lim root hs : Int} {os : List Ob} {l : List RO} {wv sv lv : Value} (hI : OInv lim os hs) (ha : RAgree 1 l os) (hH : HeapAt W hb mb (absMem lim os root hs) wv sv) (hR : RefAt W rb ⟨lim, l, root, hs⟩ lv) (hE : Field W) (x : Int) (hx : WB x) :
    ∃ M E, (E = 0 ∨ E = 4) ∧ M.lits.length ≤ 65536 ∧ M.code.length ≤ 65536 ∧ (∀ W', Fr [] W W' → Calls Tryz.prog 39 #[.pointer (some ⟨hb, 0, none⟩), .int .u64 x] W' (ReadAs M E W')) ∧ ∀ W', Fr [] W W' → Calls Tryz.prog 20 #[.pointer (some ⟨rb, 0, none⟩), .int .u64 x] W' (ReadAs M E W') := by
  have hHf := fun W' (hF : Fr [] W W') => hH.fr hF (by simp) (fun _ _ => by simp)
  have hRf := fun W' (hF : Fr [] W W') => hR.fr0 hF
  cases hst : stB (absMem lim os root hs).M x
  · refine ⟨Mth.zero, 4, .inr rfl, by simp [Mth.zero], by simp [Mth.zero], fun W' hF => ?_, fun W' hF => ?_⟩
    · exact (read_no (W := W') (fun W'' hF' => ⟨mb, memory_at (hHf W'' (hF.trans hF'))⟩) x hx hst Mth.zero).mono fun _ _ h => h.no
    · exact (rread_no (hRf W' hF) x hx (findR_none ha hst) Mth.zero).mono fun _ _ h => h.no
  · obtain ⟨pre, o, post, r, rfl, rfl, hf, -, hro⟩ := agree_at ha lim root hs hst
    have hfs : r.fs = o.2.2 := by rw [← hro]; rfl
    have hq := endOf_lt pre post o
    have hfit := hI.fit
    have hl2 := hI.l2
    have hnb : o.2.2.length ≤ 65536 := by omega
    have hwb := (hI.bd o (by simp)).2
    have h1 := fun W' (hF : Fr [] W W') => read_at (hE.fr hF) hI (hHf W' hF)
    have h2 := fun W' (hF : Fr [] W W') => rread_at (hRf W' hF) _ hx hf (by rw [hfs]; exact hwb) (by rw [hfs]; exact hnb)
    rw [hfs] at h2
    have hd := dec_lens o.2.2
    cases hok : decOk o.2.2
    · rw [hok] at h1 h2
      exact ⟨Mth.zero, 4, .inr rfl, by simp [Mth.zero], by simp [Mth.zero], fun W' hF => (h1 W' hF).mono fun _ _ h => h.no, fun W' hF => (h2 W' hF).mono fun _ _ h => h.no⟩
    · rw [hok] at h1 h2
      exact ⟨decM o.2.2, 0, .inl rfl, by omega, by omega, fun W' hF => (h1 W' hF).mono fun _ _ h => h.yes, fun W' hF => (h2 W' hF).mono fun _ _ h => h.yes⟩
end Go.Proofs.YtjghgambieflaaaGreatDoor
