/- CodeBack: methods there and back; one field turned. -/
import Derived.Test.YtjghgambieflaaaGreatDoorMCodeFieldsWalk
namespace Go.Proofs.YtjghgambieflaaaGreatDoor
open Go.RowKit

theorem okB_snoc {os : List Ob} {o : Ob} {v : Int} (h : okB (marksOf os) v = true) : okB (marksOf (os ++ [o])) v = true := by
  unfold okB at h ⊢
  simp only [Bool.or_eq_true] at h ⊢
  rcases h with (h | h) | h
  · left; left
    obtain ⟨k, rfl, h1, h2, hm⟩ := stB_at h
    refine stB_mk h1 h2 ?_
    unfold marksOf at hm ⊢
    rw [flatM_append]
    have hk : k < (false :: flatM os).length := (List.getElem?_eq_some_iff.1 hm).1
    rw [← List.cons_append, List.getElem?_append_left hk]
    exact hm
  · left; right; exact h
  · right; exact h
theorem writeF_good {lim : Int} {os : List Ob} {cls : Int} {m : Mth} (hok : m.ok = true) (hc : okB (marksOf os) cls = true) (hroom : (endOf os : Int) + 3 + m.fs.length ≤ lim) (hv : ∀ v ∈ m.fs, okB (marksOf (os ++ [(cls, 0, m.fs)])) v = true) : (writeF lim os cls m).2.1 = 0 := by
  have hd := m.head_iff.1 (m.ok_iff.1 hok).1
  have hfl := m.fs_len
  have h1 : okB (marksOf os) 1 = true := by unfold okB; simp [odd]
  have ha : allocF lim os cls m.fs.length 1 = (2 * (endOf os : Int), 0, os ++ [(cls, 0, List.replicate (m.fs.length : Int).toNat 1)]) := by
    rcases allocF_cases lim os cls m.fs.length 1 with ⟨h, -⟩ | ⟨-, h'⟩ | ⟨-, -, -, -, -, h'⟩
    · exact h
    · rw [hc, h1] at h'
      simp at h'
      omega
    · omega
  rw [writeF_stores hok ha]
  simp only [Int.toNat_natCast]
  have hget : (os ++ [(cls, (0 : Int), List.replicate m.fs.length (1 : Int))])[os.length]? = some (cls, 0, List.replicate m.fs.length 1) := by simp
  have hm : marksOf (os ++ [(cls, (0 : Int), List.replicate m.fs.length (1 : Int))]) = marksOf (os ++ [(cls, 0, m.fs)]) := by
    have := flatM_set (o' := (cls, (0 : Int), m.fs)) hget (by simp)
    rw [← this]
    simp
  rw [storesI_all os.length m.fs _ _ 0 hget (by simp) (by rw [hm]; exact hv)]
theorem turn_step {w W W' : World} {hb mb : Nat} {m m' : Mem} {wv sv v : Value} {e : Ending} (hB : Base w W (foot mb wv sv)) (hH : HeapAt W hb mb m wv sv) (hT : Turns v mb m' (foot mb wv sv) W e W') : e = .returned v ∧ ∃ wv' sv', HeapAt W' hb mb m' wv' sv' ∧ Base w W' (foot mb wv' sv') ∧ Fr (foot mb wv sv) W W' := by
  obtain ⟨rfl, wv', sv', hM, hF, hk⟩ := hT
  refine ⟨rfl, wv', sv', ⟨hF.heap hH.apart hH.heap, hM⟩, ⟨hB.fr.join hF hB.new, fun k h => ?_⟩, hF⟩
  rcases hk k h with h | h
  · exact hB.new k h
  · exact Nat.le_trans hB.fr.size h
theorem Base.still {w W W' : World} {S : List Nat} (h : Base w W S) (hF : Fr [] W W') : Base w W' S := ⟨h.fr.trans hF, h.new⟩
theorem fresh_word (v : Int) : IntKind.u64.wrap (IntKind.u64.wrap (IntKind.u64.wrap v * 2) + 1) = wordOf v := by
  simp only [wrap_u64_eq]
  unfold wordOf
  omega
end Go.Proofs.YtjghgambieflaaaGreatDoor
