/- What both heaps give for each word, as one function. -/
import Derived.Test.YtjghgambieflaaaGreatDoorMVerL
namespace Go.Proofs.YtjghgambieflaaaGreatDoor
open Go.RowKit

theorem dec_wb {fs : List Int} (h : ∀ y ∈ fs, WB y) : ∀ y ∈ (decM fs).lits, WB y := fun y hy => h y (List.mem_of_mem_drop (List.mem_of_mem_take hy))
/-- both answer the same, and what they give is made of words -/
theorem reads_both2 {W : World} {hb mb rb : Nat} {lim root hs : Int} {os : List Ob} {l : List RO} {wv sv lv : Value} (hI : OInv lim os hs) (ha : RAgree 1 l os) (hH : HeapAt W hb mb (absMem lim os root hs) wv sv) (hR : RefAt W rb ⟨lim, l, root, hs⟩ lv) (hE : Field W) (x : Int) (hx : WB x) :
    ∃ M E, (E = 0 ∨ E = 4) ∧ (∀ y ∈ M.lits, WB y) ∧ M.code.length ≤ 65536 ∧ (stB (absMem lim os root hs).M x = false → E = 4) ∧ (∀ W', Fr [] W W' → Calls Tryz.prog 39 #[.pointer (some ⟨hb, 0, none⟩), .int .u64 x] W' (ReadAs M E W')) ∧ ∀ W', Fr [] W W' → Calls Tryz.prog 20 #[.pointer (some ⟨rb, 0, none⟩), .int .u64 x] W' (ReadAs M E W') := by
  have hHf := fun W' (hF : Fr [] W W') => hH.fr hF (by simp) (fun _ _ => by simp)
  have hRf := fun W' (hF : Fr [] W W') => hR.fr0 hF
  cases hst : stB (absMem lim os root hs).M x
  · refine ⟨Mth.zero, 4, .inr rfl, fun y hy => by simp [Mth.zero] at hy, by simp [Mth.zero], fun _ => rfl, fun W' hF => ?_, fun W' hF => ?_⟩
    · exact (read_no (W := W') (fun W'' hF' => ⟨mb, memory_at (hHf W'' (hF.trans hF'))⟩) x hx hst Mth.zero).mono fun _ _ h => h.no
    · exact (rread_no (hRf W' hF) x hx (findR_none ha hst) Mth.zero).mono fun _ _ h => h.no
  · obtain ⟨pre, o, post, r, rfl, rfl, hf, -, hro⟩ := agree_at ha lim root hs hst
    have hfs : r.fs = o.2.2 := by rw [← hro]; rfl
    have hq := endOf_lt pre post o
    have hfit := hI.fit
    have hl2 := hI.l2
    have hnb : o.2.2.length ≤ 65536 := by omega
    have hwb := (hI.bd o (by simp)).2
    have h1 := fun W' (hF : Fr [] W W') => read_at (hE.fr hF) hI (hHf W' hF)
    have h2 := fun W' (hF : Fr [] W W') => rread_at (hRf W' hF) _ hx hf (by rw [hfs]; exact hwb) (by rw [hfs]; exact hnb)
    rw [hfs] at h2
    have hd := dec_lens o.2.2
    cases hok : decOk o.2.2
    · rw [hok] at h1 h2
      exact ⟨Mth.zero, 4, .inr rfl, fun y hy => by simp [Mth.zero] at hy, by simp [Mth.zero], (fun h => by cases h), fun W' hF => (h1 W' hF).mono fun _ _ h => h.no, fun W' hF => (h2 W' hF).mono fun _ _ h => h.no⟩
    · rw [hok] at h1 h2
      exact ⟨decM o.2.2, 0, .inl rfl, dec_wb hwb, by omega, (fun h => by cases h), fun W' hF => (h1 W' hF).mono fun _ _ h => h.yes, fun W' hF => (h2 W' hF).mono fun _ _ h => h.yes⟩
open Classical in
theorem reads_rd {W : World} {hb mb rb : Nat} {lim root hs : Int} {os : List Ob} {l : List RO} {wv sv lv : Value} (hI : OInv lim os hs) (ha : RAgree 1 l os) (hH : HeapAt W hb mb (absMem lim os root hs) wv sv) (hR : RefAt W rb ⟨lim, l, root, hs⟩ lv) (hE : Field W) :
    ∃ rd, RdOk W 39 (.pointer (some ⟨hb, 0, none⟩)) rd ∧ RdOk W 20 (.pointer (some ⟨rb, 0, none⟩)) rd ∧ ∀ x, WB x → stB (absMem lim os root hs).M x = false → (rd x).2 = 4 := by
  have key : ∀ x, ∃ p : Mth × Int, WB x → (p.2 = 0 ∨ p.2 = 4) ∧ (∀ y ∈ p.1.lits, WB y) ∧ p.1.code.length ≤ 65536 ∧ (stB (absMem lim os root hs).M x = false → p.2 = 4) ∧ (∀ W', Fr [] W W' → Calls Tryz.prog 39 #[.pointer (some ⟨hb, 0, none⟩), .int .u64 x] W' (ReadAs p.1 p.2 W')) ∧ ∀ W', Fr [] W W' → Calls Tryz.prog 20 #[.pointer (some ⟨rb, 0, none⟩), .int .u64 x] W' (ReadAs p.1 p.2 W') := fun x => by
    by_cases hx : WB x
    · obtain ⟨M, E, h⟩ := reads_both2 hI ha hH hR hE x hx
      exact ⟨(M, E), fun _ => h⟩
    · exact ⟨(Mth.zero, 0), fun h => absurd h hx⟩
  refine ⟨fun x => Classical.choose (key x), ⟨fun W' x hF hx => ?_, fun x hx => ?_, fun x hx => ?_, fun x hx => ?_⟩, ⟨fun W' x hF hx => ?_, fun x hx => ?_, fun x hx => ?_, fun x hx => ?_⟩, fun x hx => ?_⟩
  · exact (Classical.choose_spec (key x) hx).2.2.2.2.1 W' hF
  · exact (Classical.choose_spec (key x) hx).1
  · exact (Classical.choose_spec (key x) hx).2.1
  · exact (Classical.choose_spec (key x) hx).2.2.1
  · exact (Classical.choose_spec (key x) hx).2.2.2.2.2 W' hF
  · exact (Classical.choose_spec (key x) hx).1
  · exact (Classical.choose_spec (key x) hx).2.1
  · exact (Classical.choose_spec (key x) hx).2.2.1
  · exact (Classical.choose_spec (key x) hx).2.2.2.1
end Go.Proofs.YtjghgambieflaaaGreatDoor
