/- gen: a method that verify takes is in order for gen: plain, of no program. -/
import Derived.Test.YtomcfjckhajhmabGreatDoorMGenA
import Derived.Test.YtomcfjckhajhmabGreatDoorMVerA
namespace Go.Proofs.YtomcfjckhajhmabGreatDoor

/-- a method with its depths -/
noncomputable def gmOf (m : Mth) : GM := ⟨m.args, m.temps, m.stack, m.lits, m.code.map fun i => ⟨i.op, i.a, i.b⟩, m.depths⟩
theorem gm_code {m : Mth} {p : Nat} {x : GI} (h : (gmOf m).code[p]? = some x) : ∃ i, m.code[p]? = some i ∧ x = ⟨i.op, i.a, i.b⟩ := by
  simp only [gmOf, List.getElem?_map] at h
  cases hi : m.code[p]? with
  | none => rw [hi] at h; cases h
  | some i => rw [hi] at h; exact ⟨i, rfl, by cases h; rfl⟩
theorem gm_dep {m : Mth} {p : Nat} (h : p < m.code.length) : (gmOf m).dep.getD p (-1) = m.depthAt p := by
  rw [List.getD_eq_getElem?_getD]
  show (m.depths[p]?).getD (-1) = _
  rw [Mth.depths_at h]
  rfl
theorem gm_way {m : Mth} (g : m.good) {p d : Nat} (h : Way m p d) : (gmOf m).on p ∧ (gmOf m).at p = d := by
  have hl := (h.lt g.ok g.op).1
  unfold GM.on GM.at
  rw [gm_dep hl, Mth.depthAt_way (g.nb p hl) h]
  omega
theorem gm_on {m : Mth} {p : Nat} (h : (gmOf m).on p) : p < m.code.length ∧ ∃ d, Way m p d := by
  unfold GM.on at h
  by_cases hp : p < m.code.length
  · refine ⟨hp, ?_⟩
    rw [gm_dep hp] at h
    by_cases hw : ∃ d, Way m p d
    · exact hw
    · rw [Mth.depthAt_none hw] at h
      omega
  · rw [List.getD_eq_getElem?_getD, List.getElem?_eq_none (by show m.depths.length ≤ p; rw [Mth.depths_len]; omega)] at h
    simp at h
theorem gi_same {i : Ins} (h : i.op < 20) : (⟨i.op, i.a, i.b⟩ : GI).need = i.need ∧ (⟨i.op, i.a, i.b⟩ : GI).left = i.leave := by
  unfold GI.need GI.left Ins.need Ins.leave
  simp only
  refine ⟨?_, ?_⟩ <;> (repeat' split) <;> omega
/-- a method that verify takes, that is no block's, and of whose words none that is reached is 0 -/
theorem wf_of {m : Mth} (g : m.good) (hb : ∀ i ∈ m.code, i.op < 20) (hz : ∀ (p : Nat) (i : Ins), m.code[p]? = some i → (gmOf m).on p → (i.op = 3 ∨ i.op = 11) → m.lits.getD i.a.toNat 0 ≠ 0) : (gmOf m).wf := by
  obtain ⟨hh, hc⟩ := m.ok_iff.1 g.ok
  have hd := m.head_iff.1 hh
  have hio : ∀ i ∈ m.code, 1 ≤ i.op ∧ i.op ≤ 23 ∧ 0 ≤ i.a ∧ i.a ≤ 4095 ∧ 0 ≤ i.b ∧ i.b ≤ 4095 := fun i hi => (Ins.ok_iff i).1 (hc i hi)
  refine ⟨⟨hd.1, hd.2.1⟩, ⟨hd.2.2.1, hd.2.2.2.1⟩, ⟨hd.2.2.2.2.1, hd.2.2.2.2.2.1⟩, ?_, ?_, ?_, ?_, ?_, ?_, ?_, ?_, ?_, ?_, ?_⟩
  · simp only [gmOf, List.length_map]
    omega
  · simp only [gmOf, List.length_map, Mth.depths_len]
  · have h0 : 0 < m.code.length := by omega
    show m.depths[0]? = some 0
    rw [Mth.depths_at h0, Mth.depthAt_way (g.nb 0 h0) .start]
    rfl
  · intro p hp
    obtain ⟨-, d, hw⟩ := gm_on hp
    rw [(gm_way g hw).2]
    exact (hw.lt g.ok g.op).2
  · intro x hx
    simp only [gmOf, List.mem_map] at hx
    obtain ⟨i, hi, rfl⟩ := hx
    have h1 := hio i hi
    have h2 := hb i hi
    simp only
    omega
  · intro x hx
    simp only [gmOf, List.mem_map] at hx
    obtain ⟨i, hi, rfl⟩ := hx
    have ho := g.op i hi
    have h1 := hio i hi
    unfold Mth.opOk at ho
    unfold GI.jumps
    simp only [gmOf, List.length_map]
    split at ho
    · simp only [decide_eq_true_eq] at ho; omega
    split at ho
    · omega
    split at ho
    · simp only [Bool.and_eq_true, decide_eq_true_eq] at ho; omega
    split at ho
    · simp only [decide_eq_true_eq] at ho; omega
    split at ho
    · simp only [decide_eq_true_eq] at ho; omega
    · omega
  · intro p x hx hon h
    obtain ⟨i, hi, rfl⟩ := gm_code hx
    exact hz p i hi hon h
  · intro p x hx hon
    obtain ⟨i, hi, rfl⟩ := gm_code hx
    obtain ⟨-, d, hw⟩ := gm_on hon
    have h20 := hb i (List.mem_of_getElem? hi)
    rw [(gi_same h20).1, (gi_same h20).2, (gm_way g hw).2]
    have hf := g.fine hw hi
    unfold Mth.fine at hf
    exact of_decide_eq_true hf
  · intro p x hx hon hgo
    obtain ⟨i, hi, rfl⟩ := gm_code hx
    obtain ⟨-, d, hw⟩ := gm_on hon
    have hm := List.mem_of_getElem? hi
    have h20 := hb i hm
    have hf := g.fine hw hi
    have hg : i.goesOn = true := by
      unfold GI.goes at hgo
      simp only at hgo
      unfold Ins.goesOn Ins.ends
      simp
      omega
    have hl := g.goes hw hi hg
    have hw2 : Way m (p + 1) (i.after d) := .next hw hi hf hg hl
    have ha := Ins.after_int (hc i hm) hf
    rw [(gi_same h20).1, (gi_same h20).2, (gm_way g hw).2, (gm_way g hw2).2]
    exact ⟨by simp only [gmOf, List.length_map]; exact hl, (gm_way g hw2).1, ha.1⟩
  · intro p x hx hon hj
    obtain ⟨i, hi, rfl⟩ := gm_code hx
    obtain ⟨-, d, hw⟩ := gm_on hon
    have hm := List.mem_of_getElem? hi
    have h20 := hb i hm
    have hf := g.fine hw hi
    have hjj : i.jumps = true := by
      unfold GI.jumps at hj
      simp only at hj
      unfold Ins.jumps
      simp
      omega
    have hw2 : Way m i.a.toNat (i.after d) := .jump hw hi hf hjj
    have ha := Ins.after_int (hc i hm) hf
    rw [(gi_same h20).1, (gi_same h20).2, (gm_way g hw).2]
    simp only
    rw [(gm_way g hw2).2]
    exact ⟨(gm_way g hw2).1, ha.1⟩
  · intro p hp hon
    obtain ⟨-, d, hw⟩ := gm_on hon
    generalize hq : p + 1 = q at hw
    cases hw with
    | start => omega
    | @jump pc d2 i h1 h2 h3 h4 =>
      refine .inl ⟨pc, ⟨i.op, i.a, i.b⟩, ?_, (gm_way g h1).1, ?_, ?_⟩
      · simp [gmOf, h2]
      · unfold Ins.jumps at h4
        unfold GI.jumps
        simpa using h4
      · have := hio i (List.mem_of_getElem? h2)
        simp only
        omega
    | @next pc d2 i h1 h2 h3 h4 h5 =>
      obtain rfl : p = pc := by omega
      refine .inr ⟨⟨i.op, i.a, i.b⟩, ?_, (gm_way g h1).1, ?_⟩
      · simp [gmOf, h2]
      · unfold Ins.goesOn Ins.ends at h4
        unfold GI.goes
        simp at h4
        simp only
        omega
end Go.Proofs.YtomcfjckhajhmabGreatDoor
