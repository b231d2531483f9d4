/- The memory's place, walked. -/
import Derived.Test.YtfcigjicikpabaaDoorPlace
namespace Go.Proofs.YtfcigjicikpabaaDoor
open Go.RowKit

theorem infoBool : (Tryd.prog.info? 4).map (fun i => (i.zero, i.size, i.bytes)) = some (some (.bool false), 1, 1) := by kernel_rfl
/-- the memory with one more object -/
def Mem.push (m : Mem) (x h : Int) (fs : List Int) : Mem := { m with W := m.W ++ [x, h, (fs.length : Int)] ++ fs, M := m.M ++ (true :: List.replicate (2 + fs.length) false) }
/-- Returned v; at block mb lies the memory m', with rows of its own; nothing but the old blocks has changed. -/
def Acts (v : Value) (mb : Nat) (m' : Mem) (S : List Nat) (w : World) (e : Ending) (w' : World) : Prop :=
  e = .returned v ∧ ∃ wv' sv', MemAt w' mb m' wv' sv' ∧ Fr S w w' ∧ ∀ k ∈ foot mb wv' sv', k ∈ S ∨ w.heap.size ≤ k
theorem news3 (w : World) (a b c : Value) : ∀ j u, [a, b, c][j]? = some u → (w.alloc (.cells #[a, b, c] 23)).cell? ((⟨w.heap.size, 0, none⟩ : Addr).add j) = some u := by
  intro j u hj
  rw [Lib.add_plain, Nat.zero_add, World.cell?_alloc_new]
  simpa using hj
/-- the blocks of a row behind an append lie among those of S, or are new -/
theorem fresh_step {S : List Nat} {w : World} {n : Nat} {v v' : Value} (h : v'.ownBlock = v.ownBlock ∨ v'.ownBlock = some n) (hn : w.heap.size ≤ n) (hv : ∀ k, v.ownBlock = some k → k ∈ S ∨ w.heap.size ≤ k) : ∀ k, v'.ownBlock = some k → k ∈ S ∨ w.heap.size ≤ k := by
  intro k hk
  rcases h with h | h
  · exact hv k (h ▸ hk)
  · rw [h] at hk; cases hk; exact .inr hn
/-- the cells of the fields, as an append wants them -/
def FieldsAt (w : World) (fb fo : Nat) (fs : List Int) : Prop := ∀ j u, (fs.map (Value.int .u64))[j]? = some u → w.cell? ((⟨fb, fo, none⟩ : Addr).add j) = some u
theorem FieldsAt.fr {S : List Nat} {w w' : World} {fb fo : Nat} {fs : List Int} (h : FieldsAt w fb fo fs) (hF : Fr S w w') (hb : fb ∉ S) : FieldsAt w' fb fo fs := by
  intro j u hu
  have := h j u hu
  rw [Lib.add_plain] at this ⊢
  exact hF.cell hb this
theorem ints_one (fs : List Int) : ∀ u ∈ fs.map (Value.int .u64), u.oneCell' = true := ints_oneCell .u64 fs
set_option maxHeartbeats 4000000 in
set_option maxRecDepth 100000 in
theorem place_some {w : World} {mb : Nat} {m : Mem} {wv sv : Value} (h : MemAt w mb m wv sv) (hpos : 0 < m.W.length) (x hh : Int) (fb fo fcap : Nat) (fs : List Int)
    (hfs : FieldsAt w fb fo fs) (hfa : fb ∉ foot mb wv sv) (b1 : 0 ≤ hh) (b2 : hh ≤ 1099511627775) (hfit : m.W.length + 3 + fs.length ≤ 65536) :
    Calls Tryd.prog 27 #[.pointer (some ⟨mb, 0, none⟩), .int .u64 x, .int .i64 hh, .slice (some ⟨fb, fo, none⟩) fs.length fcap] w (Acts (.int .i64 m.W.length) mb (m.push x hh fs) (foot mb wv sv) w) := by
  obtain ⟨i0, hi, hz0, hz1, hz2⟩ := info_parts infoWord
  obtain ⟨i1, hi1, hy0, hy1, hy2⟩ := info_parts infoBool
  have hfl512 : fs.length ≤ 65536 := by omega
  have hm := h.most
  have ha := h.alike
  obtain ⟨wa, wcap, rfl⟩ := row_shape h.words
  obtain ⟨sg, scap, rfl, -⟩ := row_at h.starts (i := 0) (by omega)
  obtain ⟨S, hS⟩ : ∃ S, S = foot mb (.slice wa m.W.length wcap) (.slice (some ⟨sg, 0, none⟩) m.M.length scap) := ⟨_, rfl⟩
  rw [← hS] at hfa ⊢
  have c1 := h.cell.2.1
  have hR0 : Raw (w.alloc (.cells #[.int .u64 x, .int .u64 hh, .int .u64 fs.length] 23)) mb m (.slice wa m.W.length wcap) (.slice (some ⟨sg, 0, none⟩) m.M.length scap) := h.raw.fr0 ((Fr.refl _ _).alloc _)
  have HR0 := Lib.hid hR0
  have e3 := Lib.hid (news3 w (.int .u64 x) (.int .u64 hh) (.int .u64 fs.length))
  have e4 := Lib.hid (show ∀ u ∈ [Value.int .u64 x, .int .u64 hh, .int .u64 fs.length], u.oneCell' = true by simp [Value.oneCell'])
  have HH := Lib.hid h
  have HFS := Lib.hid hfs
  have HFA := Lib.hid hfa
  have HS := Lib.hid hS
  clear hR0 h hfs hfa hS
  have c1' : (w.alloc (.cells #[.int .u64 x, .int .u64 hh, .int .u64 fs.length] 23)).cell? ⟨mb, 1, none⟩ = some (.slice wa m.W.length wcap) := cell_of_heap HR0.out.mem rfl
  have HA := Lib.hid ha
  clear ha
  go_enter Tryd.func27, Tryd.ntmps27
  go_upto_region 3 with (first
    | (at_builtin; refine wpList_append_at _ rfl (.tmp 19) (.tmp 26) 44 rfl 23 i0 (.int .u64 0) 1 8 Tryd.underlying44 hi hz0 hz1 hz2 rfl (by decide) (.slice wa m.W.length wcap) m.W.length _ rfl HR0.out.words ⟨w.heap.size, 0, none⟩ 3 3 [.int .u64 x, .int .u64 hh, .int .u64 fs.length] rfl rfl e3.out e4.out (by unfold maxLen; omega) (by omega) ?_; intro v1 w1 ho1 hg1 hf1; obtain ⟨a1, cp1, rfl⟩ := row_shape ho1; have hap := Raw.appW (news := [x, hh, (fs.length : Int)]) HR0.out rfl ho1 hg1; have hc1 := hap.1; have hz1' := hap.2.1; have HR1 := Lib.hid hap.2.2; have HG1 := Lib.hid hg1; have HF1 := Lib.hid hf1; clear hap ho1 hg1 hf1))
  obtain ⟨W1, hW1⟩ : ∃ W1, W1 = w1.setCell ⟨mb, 1, none⟩ (.slice a1 (m.W.length + 3) cp1) := ⟨_, rfl⟩
  have FR1 : Hid (Fr S w W1) := by
    rw [hW1]
    refine Fr.setCell (Fr.grown ((Fr.refl _ _).alloc _) HG1.out (fun k hk _ => ?_)) (fun _ => ?_) _
    · rw [HS.out]; exact foot_w hk
    · rw [HS.out]; exact foot_mb
  have FB1 : Hid (∀ k, (Value.slice a1 (m.W.length + 3) cp1).ownBlock = some k → k ∈ S ∨ w.heap.size ≤ k) :=
    fresh_step HF1.out (by simp) (fun k hk => .inl (by rw [HS.out]; exact foot_w hk))
  have FS1 : Hid (FieldsAt W1 fb fo fs) := HFS.out.fr FR1.out HFA.out
  rw [← hW1] at HR1 ⊢
  have c2 : W1.cell? ⟨mb, 1, none⟩ = some (.slice a1 (m.W.length + 3) cp1) := cell_of_heap HR1.out.mem rfl
  have HW1 : Hid (W1.ownsRow 0 23 1 (.slice a1 (m.W.length + 3) cp1) (m.W.length + 3) ((m.W ++ [x, hh, (fs.length : Int)]).map (Value.int .u64))) := by have := HR1.out.words; simp only [List.length_append] at this; exact this
  clear hW1 hc1 hz1' HG1 HF1 c1 c1' e3 e4 HR0 HFS
  go_upto_region 4 with (first
    | (at_builtin; refine wpList_append_at _ rfl (.tmp 34) (.tmp 35) 44 rfl 23 i0 (.int .u64 0) 1 8 Tryd.underlying44 hi hz0 hz1 hz2 rfl (by decide) (.slice a1 (m.W.length + 3) cp1) (m.W.length + 3) _ rfl HW1.out ⟨fb, fo, none⟩ fs.length fcap (fs.map (Value.int .u64)) rfl (by simp) FS1.out (ints_one fs) (by unfold maxLen; omega) (by omega) ?_; intro v1 w2 ho1 hg1 hf1; obtain ⟨a2, cp2, rfl⟩ := row_shape ho1; have hap := Raw.appW (m := { m with W := m.W ++ [x, hh, (fs.length : Int)] }) (k := fs.length) (news := fs) HR1.out rfl (by simpa using ho1) hg1; have hc1 := hap.1; have hz1' := hap.2.1; have HR2 := Lib.hid hap.2.2; have HG2 := Lib.hid hg1; have HF2 := Lib.hid hf1; clear hap ho1 hg1 hf1))
  obtain ⟨W2, hW2⟩ : ∃ W2, W2 = w2.setCell ⟨mb, 1, none⟩ (.slice a2 (m.W.length + 3 + fs.length) cp2) := ⟨_, rfl⟩
  have FR2 : Hid (Fr S w W2) := by
    rw [hW2]
    refine Fr.setCell (Fr.grown FR1.out HG2.out (fun k hk hl => ?_)) (fun _ => ?_) _
    · rcases FB1.out k hk with h' | h'
      · exact h'
      · omega
    · rw [HS.out]; exact foot_mb
  have FB2 : Hid (∀ k, (Value.slice a2 (m.W.length + 3 + fs.length) cp2).ownBlock = some k → k ∈ S ∨ w.heap.size ≤ k) :=
    fresh_step HF2.out FR1.out.size FB1.out
  rw [← hW2] at HR2 ⊢
  have c3 : W2.cell? ⟨mb, 2, none⟩ = some (.slice (some ⟨sg, 0, none⟩) m.M.length scap) := cell_of_heap HR2.out.mem rfl
  have HW2 : Hid (W2.ownsRow 0 4 1 (.slice (some ⟨sg, 0, none⟩) m.M.length scap) m.M.length (m.M.map Value.bool)) := HR2.out.starts
  have hml : m.M.length ≤ 65536 := by rw [HA.out]; exact hm
  clear hW2 hc1 hz1' HG2 HF2 c2 HR1 FS1 HW1 FR1 FB1
  go_upto_region 5 with (first
    | (at_builtin; refine wpList_append_zeros _ rfl (.tmp 43) (.tmp 46) 64 3 rfl 4 i1 (.bool false) .i64 Tryd.underlying64 Tryd.underlying3 hi1 hy0 hy1 (by rw [hy2]; decide) rfl rfl sg m.M.length scap _ rfl HW2.out _ (3 + fs.length) (by omega) rfl (by omega) (by omega) ?_; intro v1 w3 ho1 hg1 hf1; obtain ⟨a3, cp3, rfl, -⟩ := row_at ho1 (i := 0) (by omega); have hap := Raw.appS (k := 3 + fs.length) (news := List.replicate (3 + fs.length) false) HR2.out (by simp) (by simpa using ho1) hg1; have hc1 := hap.1; have hz1' := hap.2.1; have HR3 := Lib.hid hap.2.2; have HG3 := Lib.hid hg1; have HF3 := Lib.hid hf1; clear hap ho1 hg1 hf1))
  obtain ⟨W3, hW3⟩ : ∃ W3, W3 = w3.setCell ⟨mb, 2, none⟩ (.slice (some ⟨a3, 0, none⟩) (m.M.length + (3 + fs.length)) cp3) := ⟨_, rfl⟩
  have FR3 : Hid (Fr S w W3) := by
    rw [hW3]
    refine Fr.setCell (Fr.grown FR2.out HG3.out (fun k hk hl => ?_)) (fun _ => ?_) _
    · rw [HS.out]; exact foot_s hk
    · rw [HS.out]; exact foot_mb
  have FB3 : Hid (a3 ∈ S ∨ w.heap.size ≤ a3) :=
    fresh_step (v := .slice (some ⟨sg, 0, none⟩) m.M.length scap) (v' := .slice (some ⟨a3, 0, none⟩) (m.M.length + (3 + fs.length)) cp3) HF3.out FR2.out.size (fun k hk => .inl (by rw [HS.out]; exact foot_s hk)) a3 rfl
  rw [← hW3] at HR3 ⊢
  have c4 : W3.cell? ⟨mb, 2, none⟩ = some (.slice (some ⟨a3, 0, none⟩) (m.M.length + (3 + fs.length)) cp3) := cell_of_heap HR3.out.mem rfl
  have hidx : m.W.length < m.M.length + (3 + fs.length) := by rw [HA.out]; omega
  have hst : Hid (W3.ownsRow 0 4 1 (.slice (some ⟨a3, 0, none⟩) (m.M.length + (3 + fs.length)) cp3) (m.M.length + (3 + fs.length)) ((m.M ++ List.replicate (3 + fs.length) false).map Value.bool)) := by have := HR3.out.starts; simp only [List.length_append, List.length_replicate] at this; exact this
  obtain ⟨b0, hb0⟩ : ∃ b0 : Bool, W3.cell? ⟨a3, m.W.length, none⟩ = some (.bool b0) := by
    have := hst.out.cellAt m.W.length (by omega)
    rw [this, List.getElem?_map, List.getElem?_append_right (by rw [HA.out]; exact Nat.le_refl _), HA.out, Nat.sub_self, List.getElem?_replicate, if_pos (by omega)]
    exact ⟨false, rfl⟩
  have hf0 := hst.out.frozenAt m.W.length
  have HE := Lib.hid (Raw.setMark (m := { m with W := m.W ++ [x, hh, (fs.length : Int)] ++ fs, M := m.M ++ List.replicate (3 + fs.length) false }) (cap := cp3) (g := a3) (wv := .slice a2 (m.W.length + 3 + fs.length) cp2) (by have := HR3.out; simp only [List.length_append, List.length_replicate]; exact this) m.W.length true)
  have FR4 : Hid (Fr S w (W3.setCell ⟨a3, m.W.length, none⟩ (.bool true))) := by
    refine Fr.setCell FR3.out (fun hl => ?_) _
    rcases FB3.out with h' | h'
    · exact h'
    · simp only at hl; omega
  clear hW3 hc1 hz1' HG3 HF3 c3 HR3 HR2 HW2 FR2 FR3 hst
  go_wp2
  go_ret
  refine ⟨rfl, .slice a2 (m.W.length + 3 + fs.length) cp2, .slice (some ⟨a3, 0, none⟩) (m.M.length + (3 + fs.length)) cp3, ?_, FR4.out, ?_⟩
  · have h := HE.out
    have e1 : (m.M ++ List.replicate (3 + fs.length) false).set m.W.length true = m.M ++ (true :: List.replicate (2 + fs.length) false) := by
      rw [← HA.out, List.set_append_right _ _ (Nat.le_refl _), Nat.sub_self, show 3 + fs.length = (2 + fs.length) + 1 by omega, List.replicate_succ, List.set_cons_zero]
    rw [e1] at h
    have hM : (m.push x hh fs).M.length = m.M.length + (3 + fs.length) := by simp [Mem.push]; omega
    have hW : (m.push x hh fs).W.length = m.W.length + 3 + fs.length := by simp [Mem.push]; omega
    refine ⟨?_, ?_, ?_, by rw [hW]; omega, by rw [hM, hW, HA.out]; omega⟩
    · have := h.mem; simpa [Mem.push] using this
    · have := h.words; rw [hW]; simpa [Mem.push, Nat.add_assoc, Nat.add_comm, Nat.add_left_comm] using this
    · have := h.starts; rw [hM]; simpa [Mem.push, Nat.add_assoc, Nat.add_comm, Nat.add_left_comm] using this
  · intro k hk
    simp only [foot, List.mem_cons, List.mem_append, Option.mem_toList] at hk
    rcases hk with rfl | hk | hk
    · left; rw [HS.out]; exact foot_mb
    · exact FB2.out k hk
    · simp [Value.ownBlock] at hk; subst hk; exact FB3.out
end Go.Proofs.YtfcigjicikpabaaDoor
