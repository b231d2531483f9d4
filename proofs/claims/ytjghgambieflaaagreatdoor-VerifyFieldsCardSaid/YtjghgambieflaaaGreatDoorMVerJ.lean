/- verify: a block that is pushed (checkBlock). verify: what one instruction of a body may be (checkInstr). verify: what an instruction that names an outer temporary, or pushes a block, may be; checkInstr. -/
import Derived.Test.YtjghgambieflaaaGreatDoorMVerI
import Derived.Test.YtjghgambieflaaaGreatDoorMVerC
import Derived.Deep.RegionHeld3
import Derived.Deep.AppendLies
namespace Go.Proofs.YtjghgambieflaaaGreatDoor
open Go.RowKit

theorem ChkPost.one {S : Prop} {W W' : World} {e : Ending} (h : ChkPost S W e W') : ∃ r, e = .returned r ∧ Fr [] W W' ∧ ((S ∧ r = .nilIface) ∨ (¬ S ∧ ∃ u y, r = .iface u y)) := by
  obtain ⟨hF, ⟨hs, rfl⟩ | ⟨hs, u, y, rfl⟩⟩ := h
  · exact ⟨_, rfl, hF, .inl ⟨hs, rfl⟩⟩
  · exact ⟨_, rfl, hF, .inr ⟨hs, u, y, rfl⟩⟩
theorem inner_run (w : World) (b : Nat) (t : Int) (ty : TypeId) (hb : w.heap[b]? = some (.cells #[.int .i64 t] 3 (0, 0))) (outers : List Int) (oa : Option Addr) (oc : Nat) (hon : oa = none → oc = 0 ∧ outers = []) (hX : RowAt w oa (outers.map (Value.int .i64))) (hl : outers.length ≤ 17592186043904) :
    ∃ ia ic w', (Builtin.append_ #[27, 27] ty #[.slice (some ⟨b, 0, none⟩) 1 1, .slice oa outers.length oc]).run Tryz.prog w = .ok (.slice ia (1 + outers.length) ic) w' ∧ Fr [b] w w' ∧ RowAt w' ia ((t :: outers).map (Value.int .i64)) := by
  obtain ⟨i0, hi, hz0, hz1, hz2⟩ := info_parts infoI
  have hown : w.ownsRow 0 3 1 (.slice (some ⟨b, 0, none⟩) 1 1) 1 [.int .i64 t] := ⟨rfl, .inr ⟨b, 1, _, rfl, Nat.zero_le _, hb, Nat.le_refl _, by unfold maxLen; omega, rfl, rfl⟩⟩
  have hrow : RowAt w (some ⟨b, 0, none⟩) [.int .i64 t] := row_rowAt hown
  cases oa with
  | none =>
    obtain ⟨rfl, rfl⟩ := hon rfl
    exact ⟨some ⟨b, 0, none⟩, 1, w, run_append_owned_none (P := Tryz.prog) (w := w) 0 27 ty 3 i0 1 Tryz.underlying27 hi _ 1 _ hown, Fr.refl _ _, hrow⟩
  | some ad =>
    obtain ⟨v', w', hrun, h1, h2, h3⟩ := run_append_at (P := Tryz.prog) w 27 ty 3 i0 (.int .i64 0) 1 8 Tryz.underlying27 hi hz0 hz1 hz2 rfl (by decide) _ 1 _ hown ad outers.length oc (outers.map (Value.int .i64)) (by simp) (fun j u hj => by
      obtain ⟨g, of, e, hc⟩ := hX j u hj
      cases e
      rw [Lib.add_plain]
      exact hc) (fun u hu => by obtain ⟨y, -, rfl⟩ := List.mem_map.1 hu; rfl) (by unfold maxLen; omega) (by omega)
    obtain ⟨ia, ic, rfl⟩ := row_shape' h1
    exact ⟨ia, ic, w', hrun, (Fr.refl _ _).grown h2 (fun k hk _ => by cases hk; simp), row_rowAt h1⟩
theorem step_inner {ops : Array Oper} {w : World} {o : Oper} {a : Act} {K : Act → World → Prop} {Q : Exit → Act → World → Prop} {E : Prop} (hgd : o.guard = none) (s x : Operand) (ho : o.op = .call { callee := .builtin .append, args := #[s, x], argTypes := #[27, 27] })
    (b : Nat) (t : Int) (outers : List Int) (oa : Option Addr) (oc : Nat) (hs : a.eval s = .slice (some ⟨b, 0, none⟩) 1 1) (hx : a.eval x = .slice oa outers.length oc) (hb : w.heap[b]? = some (.cells #[.int .i64 t] 3 (0, 0))) (hon : oa = none → oc = 0 ∧ outers = []) (hX : RowAt w oa (outers.map (Value.int .i64))) (hl : outers.length ≤ 17592186043904)
    (h : ∀ ia ic w', Fr [b] w w' → RowAt w' ia ((t :: outers).map (Value.int .i64)) → K (a.put o.dst (.slice ia (1 + outers.length) ic)) w') : if Region.wanted o (yielded ops a.tmps) = true then Oper.wp Tryz.prog o a w K Q else E := by
  have hw : Region.wanted o (yielded ops a.tmps) = true := by simp [Region.wanted, hgd]
  rw [if_pos hw]
  obtain ⟨ia, ic, w', hrun, h1, h2⟩ := inner_run w b t o.type hb outers oa oc hon hX hl
  exact Lib.wp_append_run w s x 27 27 ho _ _ hs hx _ w' hrun (h ia ic w' h1 h2)
set_option maxRecDepth 100000 in
set_option maxHeartbeats 1600000 in
theorem checkBlock_at {w0 W : World} {bb : Nat} {m : Mth} {la ca : Option Addr} {lc n cc : Nat} {hv : Value} {fields : Int} {oa : Option Addr} {oc : Nat} {outers : List Int} {acc : List Bool} {S : Int → Prop} {k : Nat} {x : Int}
    (hFW : Fr [] w0 W) (_hbb : w0.heap.size ≤ bb) (hB : BodyAt bb m la m.lits.length lc ca n cc hv fields oa outers.length oc acc W) (hlits : RowAt w0 la (m.lits.map (Value.int .u64))) (ho : RowAt w0 oa (outers.map (Value.int .i64))) (hon : oa = none → oc = 0 ∧ outers = []) (hE : CErrs w0) (hk : m.lits[k]? = some x) (hk32 : k < 32) (_hll : m.lits.length ≤ 32)
    (hacc : ∀ j : Nat, acc[j]? = some true → ∀ y, m.lits[j]? = some y → outers.length < 2 ∧ S y) (hS : outers.length < 2 → SubCalls w0 hv m fields outers S) :
    Calls Tryz.prog 78 #[.pointer (some ⟨bb, 0, none⟩), .int .i64 k] W (InstrPost bb m la lc ca n cc hv fields oa oc outers S (outers.length < 2 ∧ S x) W) := by
  obtain ⟨c1, c4, c6, c7, c8⟩ := hB.cells
  have HB := Lib.hid hB
  have HFW := Lib.hid hFW
  have HACC := Lib.hid hacc
  have HS := Lib.hid hS
  have HO := Lib.hid ho
  have HK := Lib.hid hk
  have HON := Lib.hid hon
  obtain ⟨ol, hol⟩ : ∃ v, v = outers.length := ⟨_, rfl⟩
  obtain ⟨ll, hl⟩ : ∃ v, v = m.lits.length := ⟨_, rfl⟩
  have hkl : k < ll := by rw [hl]; exact (List.getElem?_eq_some_iff.1 hk).1
  obtain ⟨g, off, rfl, lx⟩ := hlits k (.int .u64 x) (by rw [List.getElem?_map, hk]; rfl)
  have lx1 := hFW.cell (by simp) lx
  obtain ⟨en, hen⟩ := (hE.fr hFW).nested
  rw [← hol] at c8
  rw [← hl] at c4
  have HOL := Lib.hid hol
  have HLL := Lib.hid hl
  have z0 : (0 : Int) ≤ (k : Int) := by omega
  have z1 : (k : Int) < (ll : Int) := by omega
  have z2 : (k : Int) < 32 := by omega
  clear hB hFW hacc hS ho hk hlits lx hE hol hl hon
  by_cases h2 : ol < 2
  · have hd2 : decide ((ol : Int) ≥ 2) = false := by simp; omega
    have hb0 : ∃ b, acc[k]? = some b := ⟨_, List.getElem?_eq_getElem (by rw [HB.out.acc]; exact hk32)⟩
    obtain ⟨b, hb⟩ := hb0
    obtain ⟨f1, f2⟩ := HB.out.flag hb
    have HBV := Lib.hid hb
    clear hb
    cases b
    · go_enter Tryz.func78, Tryz.ntmps78
      go_wp2_with fail
      have HBL : Hid (bb < W.heap.size) := Lib.hid (lt_of_heap HB.out.at_)
      have HOLL : Hid (outers.length ≤ 17592186043904) := Lib.hid (by rw [← HOL.out]; omega)
      go_region_held3 (fun w' => w'.cell? ⟨bb, 1, none⟩ = some (.int .i64 m.temps) ∧ w'.cell? ⟨bb, 8, none⟩ = some (.slice oa ol oc))
        (first | go_keep | exact ⟨hF5.cell (by simp; have := HBL.out; omega) (((Fr.refl [] W).drew.alloc _).cell (by simp) c1), hF5.cell (by simp; have := HBL.out; omega) (((Fr.refl [] W).drew.alloc _).cell (by simp) c8)⟩)
        (first | (refine step_inner (by rfl) (.tmp 25) (.tmp 29) (by rfl) W.heap.size m.temps outers oa oc (by rfl) (by rw [← HOL.out]; rfl) (heap_new W.drew _) HON.out (row_fr (row_fr HO.out HFW.out) ((Fr.refl [] W).drew.alloc _)) HOLL.out ?_; intro ia ic w5 hF5 hR5))
      have HF5 : Hid (Fr [] W w5) := Lib.hid ((((Fr.refl [] W).alloc _).drew).join' hF5 (fun z hz => by simp only [List.mem_singleton] at hz; rw [hz]; exact Nat.le_refl _))
      have HB5 := Lib.hid (HB.out.still HF5.out)
      obtain ⟨b1, b4, b6, b7, b8⟩ := HB5.out.cells
      rw [← HLL.out] at b4
      have lx5 := HF5.out.cell (by simp) lx1
      have hsub : ∀ W', Fr [] w5 W' → Calls Tryz.prog 19 #[hv, .int .u64 x, .int .i64 fields, .slice ia (1 + outers.length) ic] W' (ChkPost (S x) W') := fun W' hF => by
        rw [Nat.add_comm]
        exact HS.out (by rw [← HOL.out]; exact h2) W' x ia ic ((HFW.out.trans HF5.out).trans hF) (List.mem_of_getElem? HK.out) (row_fr hR5 hF)
      have HSUB := Lib.hid hsub
      clear hsub hF5 hR5 c1 c4 c6 c7 c8 lx1 f1 f2 b1 b8
      refine ?_
      go_wp2_with fail
      go_region_held3 (fun w' => w'.cell? ⟨bb, 4, none⟩ = some (.slice (some ⟨g, off, none⟩) ll lc) ∧ w'.cell? ⟨bb, 6, none⟩ = some hv ∧ w'.cell? ⟨bb, 7, none⟩ = some (.int .i64 fields) ∧ w'.cell? ⟨g, off + k, none⟩ = some (.int .u64 x))
        (first | go_keep | exact ⟨HF6.out.cell (by simp) b4, HF6.out.cell (by simp) b6, HF6.out.cell (by simp) b7, HF6.out.cell (by simp) lx5⟩)
        (first | (go_at_call 19; refine (HSUB.out _ ((Fr.refl [] w5).drew)).mono ?_; intro e w6 hpo; obtain ⟨r, rfl, hF6, hr⟩ := hpo.one; have HF6 : Hid (Fr [] w5 w6) := (Fr.refl [] w5).drew.trans hF6; have HR := Lib.hid hr; clear hF6 hr hpo))
      have HB6 := Lib.hid (HB5.out.still HF6.out)
      obtain ⟨f3, f4⟩ := HB6.out.flag HBV.out
      have HNB := Lib.hid (HB6.out.mark k true)
      have HFF : Hid (Fr [] W w6) := Lib.hid (HF5.out.trans HF6.out)
      clear b4 b6 b7 lx5
      rcases HR.out with ⟨hs, rfl⟩ | ⟨hs, u, y, rfl⟩
      · have HAC : Hid (∀ j : Nat, (acc.set k true)[j]? = some true → ∀ y, m.lits[j]? = some y → outers.length < 2 ∧ S y) := Lib.hid fun j hj y hy => by
          by_cases e : k = j
          · subst e
            rw [HK.out] at hy
            cases hy
            exact ⟨by rw [← HOL.out]; exact h2, hs⟩
          · rw [List.getElem?_set_ne e] at hj
            exact HACC.out j hj y hy
        have HFS : Hid (Fr [bb] W (w6.setCell ⟨bb, 9 + k, none⟩ (.bool true))) := Lib.hid (HFF.out.weak.setCell (fun _ => by simp) _)
        go_wp2_with fail
        go_ret
        rw [HOL.out] at h2
        exact ⟨_, HNB.out, HAC.out, HFS.out, .inl ⟨⟨h2, hs⟩, rfl⟩⟩
      · have hnn := ne_nil
        go_wp2_with fail
        go_ret
        exact ⟨_, HB6.out, HACC.out, HFF.out.weak, .inr ⟨fun h => hs h.2, _, _, rfl⟩⟩
    · have HSX := Lib.hid (HACC.out k HBV.out x HK.out)
      go_enter Tryz.func78, Tryz.ntmps78
      go_wp2_with fail
      go_ret
      exact ⟨acc, HB.out, HACC.out, Fr.refl _ _, .inl ⟨HSX.out, rfl⟩⟩
  · have hd2 : decide ((ol : Int) ≥ 2) = true := by simp; omega
    go_enter Tryz.func78, Tryz.ntmps78
    go_wp2_with fail
    go_ret
    rw [HOL.out] at h2
    exact ⟨acc, HB.out, HACC.out, Fr.refl _ _, .inr ⟨fun h => h2 h.1, _, _, rfl⟩⟩
end Go.Proofs.YtjghgambieflaaaGreatDoor
namespace Go.Proofs.YtjghgambieflaaaGreatDoor
open Go.RowKit

section
variable {w0 W : World} {bb : Nat} {m : Mth} {la ca : Option Addr} {lc n cc : Nat} {hv : Value} {fields : Int} {oa : Option Addr} {oc : Nat} {outers : List Int} {acc : List Bool} {S : Int → Prop}
theorem InstrPost.mk0 {P : Prop} {W' : World} {e : Ending} (hB : BodyAt bb m la m.lits.length lc ca n cc hv fields oa outers.length oc acc W) (hacc : ∀ j : Nat, acc[j]? = some true → ∀ y, m.lits[j]? = some y → outers.length < 2 ∧ S y) (hF : Fr [] W W') (h : (P ∧ e = .returned .nilIface) ∨ (¬ P ∧ ∃ u y, e = .returned (.iface u y))) : InstrPost bb m la lc ca n cc hv fields oa oc outers S P W e W' :=
  ⟨acc, hB.still hF, hacc, hF.weak, h⟩
set_option maxRecDepth 100000 in
set_option maxHeartbeats 1600000 in
theorem instr_field (op a b : Int) (h : op = 4 ∨ op = 5) (sub : Int → List Int → Prop) (hB : BodyAt bb m la m.lits.length lc ca n cc hv fields oa outers.length oc acc W) (hE : CErrs W) (hacc : ∀ j : Nat, acc[j]? = some true → ∀ y, m.lits[j]? = some y → outers.length < 2 ∧ S y) :
    Calls Tryz.prog 41 #[.pointer (some ⟨bb, 0, none⟩), .agg #[.int .i64 op, .int .i64 a, .int .i64 b]] W (InstrPost bb m la lc ca n cc hv fields oa oc outers S (m.mayOk sub fields outers ⟨op, a, b⟩) W) := by
  obtain ⟨c1, c4, c6, c7, c8⟩ := hB.cells
  obtain ⟨e1, he1⟩ := hE.field
  obtain ⟨e2, he2⟩ := hE.inside
  obtain ⟨e3, he3⟩ := hE.outside
  have HPO := Lib.hid (fun (P : Prop) (W' : World) (e : Ending) hF h => @InstrPost.mk0 W bb m la ca lc n cc hv fields oa oc outers acc S P W' e hB hacc hF h)
  have HIB := Lib.hid (fun W' (hF : Fr [] W W') => isBlock_at bb oa outers.length oc W' (hF.cell (by simp) c8))
  obtain ⟨M, hM⟩ : ∃ M, M = m.mayOk sub fields outers ⟨op, a, b⟩ := ⟨_, rfl⟩
  have HOE : Hid (outers = [] ↔ outers.length = 0) := Lib.hid List.length_eq_zero_iff.symm
  have HME := hM
  simp only [Mth.mayOk] at HME
  have HM := Lib.hid HME
  obtain ⟨ol, hol⟩ : ∃ v, v = outers.length := ⟨_, rfl⟩
  rw [← hol] at c8 HIB HOE
  rw [← hM]
  clear hB hE hacc hol hM HME
  have HMI : Hid (M ↔ a < fields) := Lib.hid (by rw [HM.out, if_pos h])
  by_cases ha : a < fields
  · have HP : Hid M := Lib.hid (HMI.out.2 ha)
    obtain ⟨W1, hW1⟩ : ∃ W1, W1 = W.alloc (.cells #[.int .i64 op, .int .i64 a, .int .i64 b] 42) := ⟨_, rfl⟩
    have d7 : W1.cell? ⟨bb, 7, none⟩ = some (.int .i64 fields) := by rw [hW1]; exact ((Fr.refl [] W).alloc _).cell (by simp) c7
    have i1 : W1.cell? ⟨W.heap.size, 1, none⟩ = some (.int .i64 a) := by rw [hW1]; exact cell_of_heap (heap_new _ _) rfl
    have HW1 := Lib.hid hW1
    have HFW : Hid (Fr [] W W1) := Lib.hid (by rw [hW1]; exact (Fr.refl _ _).alloc _)
    clear hW1
    rcases h with rfl | rfl <;>
    · go_enter Tryz.func41, Tryz.ntmps41
      go_wp2_with fail
      rw [← HW1.out]
      go_quiet (fail)
      go_wp2_with fail
      go_ret
      exact HPO.out _ _ _ (HFW.out.drewN _) (.inl ⟨HP.out, rfl⟩)
  · have HP : Hid (¬ M) := Lib.hid (fun h => ha (HMI.out.1 h))
    have ha' : fields ≤ a := by omega
    obtain ⟨W1, hW1⟩ : ∃ W1, W1 = W.alloc (.cells #[.int .i64 op, .int .i64 a, .int .i64 b] 42) := ⟨_, rfl⟩
    have d7 : W1.cell? ⟨bb, 7, none⟩ = some (.int .i64 fields) := by rw [hW1]; exact ((Fr.refl [] W).alloc _).cell (by simp) c7
    have i1 : W1.cell? ⟨W.heap.size, 1, none⟩ = some (.int .i64 a) := by rw [hW1]; exact cell_of_heap (heap_new _ _) rfl
    have he1' : W1.cell? ⟨4, 0, none⟩ = some (.iface 224 (.pointer (some e1))) := by rw [hW1]; exact ((Fr.refl [] W).alloc _).cell (by simp) he1
    have HW1 := Lib.hid hW1
    have HFW : Hid (Fr [] W W1) := Lib.hid (by rw [hW1]; exact (Fr.refl _ _).alloc _)
    clear hW1
    rcases h with rfl | rfl <;>
    · go_enter Tryz.func41, Tryz.ntmps41
      go_wp2_with fail
      rw [← HW1.out]
      go_quiet (fail)
      go_wp2_with fail
      go_ret
      exact HPO.out _ _ _ (HFW.out.drewN _) (.inr ⟨HP.out, _, _, rfl⟩)
set_option maxRecDepth 100000 in
set_option maxHeartbeats 1600000 in
theorem instr_return (op a b : Int) (h : op = 17 ∨ op = 18) (sub : Int → List Int → Prop) (hB : BodyAt bb m la m.lits.length lc ca n cc hv fields oa outers.length oc acc W) (hE : CErrs W) (hacc : ∀ j : Nat, acc[j]? = some true → ∀ y, m.lits[j]? = some y → outers.length < 2 ∧ S y) :
    Calls Tryz.prog 41 #[.pointer (some ⟨bb, 0, none⟩), .agg #[.int .i64 op, .int .i64 a, .int .i64 b]] W (InstrPost bb m la lc ca n cc hv fields oa oc outers S (m.mayOk sub fields outers ⟨op, a, b⟩) W) := by
  obtain ⟨c1, c4, c6, c7, c8⟩ := hB.cells
  obtain ⟨e1, he1⟩ := hE.field
  obtain ⟨e2, he2⟩ := hE.inside
  obtain ⟨e3, he3⟩ := hE.outside
  have HPO := Lib.hid (fun (P : Prop) (W' : World) (e : Ending) hF h => @InstrPost.mk0 W bb m la ca lc n cc hv fields oa oc outers acc S P W' e hB hacc hF h)
  have HIB := Lib.hid (fun W' (hF : Fr [] W W') => isBlock_at bb oa outers.length oc W' (hF.cell (by simp) c8))
  obtain ⟨M, hM⟩ : ∃ M, M = m.mayOk sub fields outers ⟨op, a, b⟩ := ⟨_, rfl⟩
  have HOE : Hid (outers = [] ↔ outers.length = 0) := Lib.hid List.length_eq_zero_iff.symm
  have HME := hM
  simp only [Mth.mayOk] at HME
  have HM := Lib.hid HME
  obtain ⟨ol, hol⟩ : ∃ v, v = outers.length := ⟨_, rfl⟩
  rw [← hol] at c8 HIB HOE
  rw [← hM]
  clear hB hE hacc hol hM HME
  have n1 : ¬ (op = 4 ∨ op = 5) := by omega
  have HMI : Hid (M ↔ outers = []) := Lib.hid (by rw [HM.out, if_neg n1, if_pos h])
  obtain ⟨W1, hW1⟩ : ∃ W1, W1 = W.alloc (.cells #[.int .i64 op, .int .i64 a, .int .i64 b] 42) := ⟨_, rfl⟩
  have he2' : W1.cell? ⟨5, 0, none⟩ = some (.iface 224 (.pointer (some e2))) := by rw [hW1]; exact ((Fr.refl [] W).alloc _).cell (by simp) he2
  have he3' : W1.cell? ⟨7, 0, none⟩ = some (.iface 224 (.pointer (some e3))) := by rw [hW1]; exact ((Fr.refl [] W).alloc _).cell (by simp) he3
  have HW1 := Lib.hid hW1
  have HFW : Hid (Fr [] W W1) := Lib.hid (by rw [hW1]; exact (Fr.refl _ _).alloc _)
  clear hW1
  by_cases hb : 0 < ol
  · have hbd : decide (0 < ol) = true := by simpa using hb
    have HP : Hid (¬ M) := Lib.hid (fun h0 => by have := HOE.out.1 (HMI.out.1 h0); omega)
    rw [hbd] at HIB
    rcases h with rfl | rfl <;>
    · go_enter Tryz.func41, Tryz.ntmps41
      go_wp2_with (go_at_call 40; rw [← HW1.out]; refine (HIB.out W1 HFW.out).mono ?_; rintro e w1 ⟨rfl, rfl⟩)
      go_ret
      exact HPO.out _ _ _ HFW.out (.inr ⟨HP.out, _, _, rfl⟩)
  · have hbd : decide (0 < ol) = false := by simpa using hb
    have HP : Hid (M) := Lib.hid (HMI.out.2 (HOE.out.2 (by omega)))
    rw [hbd] at HIB
    rcases h with rfl | rfl <;>
    · go_enter Tryz.func41, Tryz.ntmps41
      go_wp2_with (go_at_call 40; rw [← HW1.out]; refine (HIB.out W1 HFW.out).mono ?_; rintro e w1 ⟨rfl, rfl⟩)
      go_ret
      exact HPO.out _ _ _ HFW.out (.inl ⟨HP.out, rfl⟩)
set_option maxRecDepth 100000 in
set_option maxHeartbeats 1600000 in
theorem instr_inner (op a b : Int) (h : op = 22 ∨ op = 23) (sub : Int → List Int → Prop) (hB : BodyAt bb m la m.lits.length lc ca n cc hv fields oa outers.length oc acc W) (hE : CErrs W) (hacc : ∀ j : Nat, acc[j]? = some true → ∀ y, m.lits[j]? = some y → outers.length < 2 ∧ S y) :
    Calls Tryz.prog 41 #[.pointer (some ⟨bb, 0, none⟩), .agg #[.int .i64 op, .int .i64 a, .int .i64 b]] W (InstrPost bb m la lc ca n cc hv fields oa oc outers S (m.mayOk sub fields outers ⟨op, a, b⟩) W) := by
  obtain ⟨c1, c4, c6, c7, c8⟩ := hB.cells
  obtain ⟨e1, he1⟩ := hE.field
  obtain ⟨e2, he2⟩ := hE.inside
  obtain ⟨e3, he3⟩ := hE.outside
  have HPO := Lib.hid (fun (P : Prop) (W' : World) (e : Ending) hF h => @InstrPost.mk0 W bb m la ca lc n cc hv fields oa oc outers acc S P W' e hB hacc hF h)
  have HIB := Lib.hid (fun W' (hF : Fr [] W W') => isBlock_at bb oa outers.length oc W' (hF.cell (by simp) c8))
  obtain ⟨M, hM⟩ : ∃ M, M = m.mayOk sub fields outers ⟨op, a, b⟩ := ⟨_, rfl⟩
  have HOE : Hid (outers = [] ↔ outers.length = 0) := Lib.hid List.length_eq_zero_iff.symm
  have HME := hM
  simp only [Mth.mayOk] at HME
  have HM := Lib.hid HME
  obtain ⟨ol, hol⟩ : ∃ v, v = outers.length := ⟨_, rfl⟩
  rw [← hol] at c8 HIB HOE
  rw [← hM]
  clear hB hE hacc hol hM HME
  have n1 : ¬ (op = 4 ∨ op = 5) := by omega
  have n2 : ¬ (op = 17 ∨ op = 18) := by omega
  have HMI : Hid (M ↔ outers ≠ []) := Lib.hid (by rw [HM.out, if_neg n1, if_neg n2, if_pos h])
  obtain ⟨W1, hW1⟩ : ∃ W1, W1 = W.alloc (.cells #[.int .i64 op, .int .i64 a, .int .i64 b] 42) := ⟨_, rfl⟩
  have he2' : W1.cell? ⟨5, 0, none⟩ = some (.iface 224 (.pointer (some e2))) := by rw [hW1]; exact ((Fr.refl [] W).alloc _).cell (by simp) he2
  have he3' : W1.cell? ⟨7, 0, none⟩ = some (.iface 224 (.pointer (some e3))) := by rw [hW1]; exact ((Fr.refl [] W).alloc _).cell (by simp) he3
  have HW1 := Lib.hid hW1
  have HFW : Hid (Fr [] W W1) := Lib.hid (by rw [hW1]; exact (Fr.refl _ _).alloc _)
  clear hW1
  by_cases hb : 0 < ol
  · have hbd : decide (0 < ol) = true := by simpa using hb
    have HP : Hid (M) := Lib.hid (HMI.out.2 (fun h0 => by have := HOE.out.1 h0; omega))
    rw [hbd] at HIB
    rcases h with rfl | rfl <;>
    · go_enter Tryz.func41, Tryz.ntmps41
      go_wp2_with (go_at_call 40; rw [← HW1.out]; refine (HIB.out W1 HFW.out).mono ?_; rintro e w1 ⟨rfl, rfl⟩)
      go_ret
      exact HPO.out _ _ _ HFW.out (.inl ⟨HP.out, rfl⟩)
  · have hbd : decide (0 < ol) = false := by simpa using hb
    have HP : Hid (¬ M) := Lib.hid (fun h0 => (HMI.out.1 h0) (HOE.out.2 (by omega)))
    rw [hbd] at HIB
    rcases h with rfl | rfl <;>
    · go_enter Tryz.func41, Tryz.ntmps41
      go_wp2_with (go_at_call 40; rw [← HW1.out]; refine (HIB.out W1 HFW.out).mono ?_; rintro e w1 ⟨rfl, rfl⟩)
      go_ret
      exact HPO.out _ _ _ HFW.out (.inr ⟨HP.out, _, _, rfl⟩)
set_option maxRecDepth 100000 in
set_option maxHeartbeats 1600000 in
theorem instr_other (op a b : Int) (h1 : 1 ≤ op) (h23 : op ≤ 23) (h : ¬ (op = 4 ∨ op = 5) ∧ ¬ (op = 17 ∨ op = 18) ∧ ¬ (op = 22 ∨ op = 23) ∧ ¬ (op = 20 ∨ op = 21) ∧ op ≠ 19) (sub : Int → List Int → Prop) (hB : BodyAt bb m la m.lits.length lc ca n cc hv fields oa outers.length oc acc W) (hE : CErrs W) (hacc : ∀ j : Nat, acc[j]? = some true → ∀ y, m.lits[j]? = some y → outers.length < 2 ∧ S y) :
    Calls Tryz.prog 41 #[.pointer (some ⟨bb, 0, none⟩), .agg #[.int .i64 op, .int .i64 a, .int .i64 b]] W (InstrPost bb m la lc ca n cc hv fields oa oc outers S (m.mayOk sub fields outers ⟨op, a, b⟩) W) := by
  obtain ⟨c1, c4, c6, c7, c8⟩ := hB.cells
  obtain ⟨e1, he1⟩ := hE.field
  obtain ⟨e2, he2⟩ := hE.inside
  obtain ⟨e3, he3⟩ := hE.outside
  have HPO := Lib.hid (fun (P : Prop) (W' : World) (e : Ending) hF h => @InstrPost.mk0 W bb m la ca lc n cc hv fields oa oc outers acc S P W' e hB hacc hF h)
  have HIB := Lib.hid (fun W' (hF : Fr [] W W') => isBlock_at bb oa outers.length oc W' (hF.cell (by simp) c8))
  obtain ⟨M, hM⟩ : ∃ M, M = m.mayOk sub fields outers ⟨op, a, b⟩ := ⟨_, rfl⟩
  have HOE : Hid (outers = [] ↔ outers.length = 0) := Lib.hid List.length_eq_zero_iff.symm
  have HME := hM
  simp only [Mth.mayOk] at HME
  have HM := Lib.hid HME
  obtain ⟨ol, hol⟩ : ∃ v, v = outers.length := ⟨_, rfl⟩
  rw [← hol] at c8 HIB HOE
  rw [← hM]
  clear hB hE hacc hol hM HME
  have HP : Hid M := Lib.hid (by rw [HM.out, if_neg h.1, if_neg h.2.1, if_neg h.2.2.1, if_neg h.2.2.2.1, if_neg h.2.2.2.2]; trivial)
  rcases op_cases h1 h23 with rfl | rfl | rfl | rfl | rfl | rfl | rfl | rfl | rfl | rfl | rfl | rfl | rfl | rfl | rfl | rfl | rfl | rfl | rfl | rfl | rfl | rfl | rfl <;> first
    | (exfalso; simp at h; done)
    | (go_enter Tryz.func41, Tryz.ntmps41
       go_wp2_with fail
       go_ret
       exact HPO.out _ _ _ (by first | exact (Fr.refl _ _).alloc _ | exact ((Fr.refl _ _).alloc _).drewN _ | exact ((Fr.refl _ _).alloc _).drew) (.inl ⟨HP.out, rfl⟩))
end
end Go.Proofs.YtjghgambieflaaaGreatDoor
namespace Go.Proofs.YtjghgambieflaaaGreatDoor
open Go.RowKit
section
variable {w0 W : World} {bb : Nat} {m : Mth} {la ca : Option Addr} {lc n cc : Nat} {hv : Value} {fields : Int} {oa : Option Addr} {oc : Nat} {outers : List Int} {acc : List Bool} {S : Int → Prop}
set_option maxRecDepth 100000 in
set_option maxHeartbeats 1600000 in
theorem instr_outer (op a b : Int) (h : op = 20 ∨ op = 21) (ha0 : 0 ≤ a) (ha1 : a ≤ 4096) (ho : RowAt W oa (outers.map (Value.int .i64))) (sub : Int → List Int → Prop) (hB : BodyAt bb m la m.lits.length lc ca n cc hv fields oa outers.length oc acc W) (hE : CErrs W) (hacc : ∀ j : Nat, acc[j]? = some true → ∀ y, m.lits[j]? = some y → outers.length < 2 ∧ S y) :
    Calls Tryz.prog 41 #[.pointer (some ⟨bb, 0, none⟩), .agg #[.int .i64 op, .int .i64 a, .int .i64 b]] W (InstrPost bb m la lc ca n cc hv fields oa oc outers S (m.mayOk sub fields outers ⟨op, a, b⟩) W) := by
  obtain ⟨c1, c4, c6, c7, c8⟩ := hB.cells
  obtain ⟨e1, he1⟩ := hE.field
  obtain ⟨e2, he2⟩ := hE.inside
  obtain ⟨e3, he3⟩ := hE.outside
  obtain ⟨e4, he4⟩ := hE.outer
  have HPO := Lib.hid (fun (P : Prop) (W' : World) (e : Ending) hF h => @InstrPost.mk0 W bb m la ca lc n cc hv fields oa oc outers acc S P W' e hB hacc hF h)
  have HIB := Lib.hid (fun W' (hF : Fr [] W W') => isBlock_at bb oa outers.length oc W' (hF.cell (by simp) c8))
  have HHO := Lib.hid (fun W' (hF : Fr [] W W') => hasOuter_at bb outers oa oc a b (by omega) (by omega) W' (hF.cell (by simp) c8) (row_fr ho hF))
  obtain ⟨M, hM⟩ : ∃ M, M = m.mayOk sub fields outers ⟨op, a, b⟩ := ⟨_, rfl⟩
  have HOE : Hid (outers = [] ↔ outers.length = 0) := Lib.hid List.length_eq_zero_iff.symm
  have HME := hM
  simp only [Mth.mayOk] at HME
  have HM := Lib.hid HME
  obtain ⟨ol, hol⟩ : ∃ v, v = outers.length := ⟨_, rfl⟩
  have HOL := Lib.hid hol
  rw [← hol] at c8 HIB HOE
  rw [← hM]
  clear hB hE hacc hol hM HME
  have n1 : ¬ (op = 4 ∨ op = 5) := by omega
  have n2 : ¬ (op = 17 ∨ op = 18) := by omega
  have n3 : ¬ (op = 22 ∨ op = 23) := by omega
  have HMI : Hid (M = (1 ≤ a ∧ a ≤ (outers.length : Int) ∧ ∀ t, outers[(a - 1).toNat]? = some t → b < t)) := Lib.hid (by rw [HM.out, if_neg n1, if_neg n2, if_neg n3, if_pos h])
  rw [← HMI.out] at HHO
  clear ho
  obtain ⟨W1, hW1⟩ : ∃ W1, W1 = W.alloc (.cells #[.int .i64 op, .int .i64 a, .int .i64 b] 42) := ⟨_, rfl⟩
  have he3' : W1.cell? ⟨7, 0, none⟩ = some (.iface 224 (.pointer (some e3))) := by rw [hW1]; exact ((Fr.refl [] W).alloc _).cell (by simp) he3
  have he4' : W1.cell? ⟨6, 0, none⟩ = some (.iface 224 (.pointer (some e4))) := by rw [hW1]; exact ((Fr.refl [] W).alloc _).cell (by simp) he4
  have i1 : W1.cell? ⟨W.heap.size, 1, none⟩ = some (.int .i64 a) := by rw [hW1]; exact cell_of_heap (heap_new _ _) rfl
  have i2 : W1.cell? ⟨W.heap.size, 2, none⟩ = some (.int .i64 b) := by rw [hW1]; exact cell_of_heap (heap_new _ _) rfl
  have HW1 := Lib.hid hW1
  have HFW : Hid (Fr [] W W1) := Lib.hid (by rw [hW1]; exact (Fr.refl _ _).alloc _)
  clear hW1
  by_cases hb : 0 < ol
  · have hbd : decide (0 < ol) = true := by simpa using hb
    rw [hbd] at HIB
    rcases h with rfl | rfl <;>
    · go_enter Tryz.func41, Tryz.ntmps41
      go_wp2_with (go_at_call 40; rw [← HW1.out]; refine (HIB.out W1 HFW.out).mono ?_; rintro e w1 ⟨rfl, rfl⟩)
      refine (HHO.out W1 HFW.out).mono ?_
      rintro e w2 ⟨⟨bo, rfl, hbo⟩, hF2⟩
      have HF2 : Hid (Fr [] W w2) := Lib.hid (HFW.out.trans hF2)
      have he3'' := hF2.cell (by simp) he3'
      have he4'' := hF2.cell (by simp) he4'
      have HBO := Lib.hid hbo
      clear hF2 hbo
      cases bo
      · have HP : Hid (¬ M) := Lib.hid (fun h => by have := HBO.out.2 h; cases this)
        go_wp2_with fail
        go_ret
        exact HPO.out _ _ _ HF2.out (.inr ⟨HP.out, _, _, rfl⟩)
      · have HP : Hid M := Lib.hid (HBO.out.1 rfl)
        go_wp2_with (go_at_call 40; refine (HIB.out w2 HF2.out).mono ?_; rintro e w3 ⟨rfl, rfl⟩)
        go_ret
        exact HPO.out _ _ _ HF2.out (.inl ⟨HP.out, rfl⟩)
  · have hbd : decide (0 < ol) = false := by simpa using hb
    have HP : Hid (¬ M) := Lib.hid (fun h0 => by rw [HMI.out] at h0; have h1 := h0.1; have h2 := h0.2.1; have := HOL.out; omega)
    rw [hbd] at HIB
    rcases h with rfl | rfl <;>
    · go_enter Tryz.func41, Tryz.ntmps41
      go_wp2_with (first | (go_at_call 40; rw [← HW1.out]; refine (HIB.out W1 HFW.out).mono ?_; rintro e w1 ⟨rfl, rfl⟩) | (go_at_call 40; refine (HIB.out W1 HFW.out).mono ?_; rintro e w1 ⟨rfl, rfl⟩))
      go_ret
      exact HPO.out _ _ _ HFW.out (.inr ⟨HP.out, _, _, rfl⟩)
theorem InstrPost.iff {P P' : Prop} {W1 W' : World} {e : Ending} (h : InstrPost bb m la lc ca n cc hv fields oa oc outers S P W1 e W') (hi : P ↔ P') (hF : Fr [] W W1) : InstrPost bb m la lc ca n cc hv fields oa oc outers S P' W e W' := by
  obtain ⟨acc', h1, h2, h3, h4⟩ := h
  exact ⟨acc', h1, h2, hF.weak.trans h3, h4.imp (fun h => ⟨hi.1 h.1, h.2⟩) (fun h => ⟨fun h' => h.1 (hi.2 h'), h.2⟩)⟩
theorem InstrPost.one {P : Prop} {W' : World} {e : Ending} (h : InstrPost bb m la lc ca n cc hv fields oa oc outers S P W e W') : ∃ r, e = .returned r := by
  obtain ⟨_, -, -, -, ⟨-, rfl⟩ | ⟨-, u, y, rfl⟩⟩ := h
  · exact ⟨_, rfl⟩
  · exact ⟨_, rfl⟩
set_option maxRecDepth 100000 in
set_option maxHeartbeats 1600000 in
theorem instr_block (a b : Int) (ha0 : 0 ≤ a) {x : Int} (hk : m.lits[a.toNat]? = some x) (hll : m.lits.length ≤ 32) (sub : Int → List Int → Prop) (hFW : Fr [] w0 W) (hbb : w0.heap.size ≤ bb) (hB : BodyAt bb m la m.lits.length lc ca n cc hv fields oa outers.length oc acc W) (hlits : RowAt w0 la (m.lits.map (Value.int .u64))) (ho : RowAt w0 oa (outers.map (Value.int .i64))) (hon : oa = none → oc = 0 ∧ outers = []) (hE : CErrs w0)
    (hacc : ∀ j : Nat, acc[j]? = some true → ∀ y, m.lits[j]? = some y → outers.length < 2 ∧ sub y (m.temps :: outers)) (hS : outers.length < 2 → SubCalls w0 hv m fields outers (fun y => sub y (m.temps :: outers))) :
    Calls Tryz.prog 41 #[.pointer (some ⟨bb, 0, none⟩), .agg #[.int .i64 19, .int .i64 a, .int .i64 b]] W (InstrPost bb m la lc ca n cc hv fields oa oc outers (fun y => sub y (m.temps :: outers)) (m.mayOk sub fields outers ⟨19, a, b⟩) W) := by
  obtain ⟨k, rfl⟩ : ∃ k : Nat, a = k := ⟨a.toNat, by omega⟩
  rw [Int.toNat_natCast] at hk
  have hkl := (List.getElem?_eq_some_iff.1 hk).1
  have HMI : Hid ((outers.length < 2 ∧ sub x (m.temps :: outers)) ↔ m.mayOk sub fields outers ⟨19, (k : Int), b⟩) := Lib.hid (by
    simp only [Mth.mayOk]
    rw [if_neg (by omega), if_neg (by omega), if_neg (by omega), if_neg (by omega), if_pos trivial, Int.toNat_natCast, hk]
    exact ⟨fun h => ⟨h.1, fun y hy => by cases hy; exact h.2⟩, fun h => ⟨h.1, h.2 x rfl⟩⟩)
  obtain ⟨W1, hW1⟩ : ∃ W1, W1 = W.alloc (.cells #[.int .i64 19, .int .i64 (k : Int), .int .i64 b] 42) := ⟨_, rfl⟩
  have hF1 : Fr [] W W1 := by rw [hW1]; exact (Fr.refl _ _).alloc _
  have HCB := Lib.hid (checkBlock_at (hFW.trans hF1) hbb (hB.still hF1) hlits ho hon hE hk (by omega) hll hacc hS)
  have HW1 := Lib.hid hW1
  have HFW : Hid (Fr [] W W1) := Lib.hid hF1
  obtain ⟨M, hM⟩ : ∃ M, M = m.mayOk sub fields outers ⟨19, (k : Int), b⟩ := ⟨_, rfl⟩
  rw [← hM] at HMI ⊢
  have i1 : W1.cell? ⟨W.heap.size, 1, none⟩ = some (.int .i64 (k : Int)) := by rw [hW1]; exact cell_of_heap (heap_new _ _) rfl
  clear hk hkl hFW hbb hB hlits ho hon hE hacc hS hF1 hW1 hM
  go_enter Tryz.func41, Tryz.ntmps41
  go_wp2_with (go_at_call 78; rw [← HW1.out]; refine HCB.out.mono ?_; intro e w2 hp; obtain ⟨r, rfl⟩ := hp.one; have HP := Lib.hid (hp.iff HMI.out HFW.out); clear hp)
  go_ret
  exact HP.out
theorem checkInstr_at6 (i : Ins) (hio : i.ok = true) (hop : m.opOk i = true) (hll : m.lits.length ≤ 32) (sub : Int → List Int → Prop) (hFW : Fr [] w0 W) (hbb : w0.heap.size ≤ bb) (hB : BodyAt bb m la m.lits.length lc ca n cc hv fields oa outers.length oc acc W) (hlits : RowAt w0 la (m.lits.map (Value.int .u64))) (ho : RowAt w0 oa (outers.map (Value.int .i64))) (hon : oa = none → oc = 0 ∧ outers = []) (hE : CErrs w0)
    (hacc : ∀ j : Nat, acc[j]? = some true → ∀ y, m.lits[j]? = some y → outers.length < 2 ∧ sub y (m.temps :: outers)) (hS : outers.length < 2 → SubCalls w0 hv m fields outers (fun y => sub y (m.temps :: outers))) :
    Calls Tryz.prog 41 #[.pointer (some ⟨bb, 0, none⟩), i.v] W (InstrPost bb m la lc ca n cc hv fields oa oc outers (fun y => sub y (m.temps :: outers)) (m.mayOk sub fields outers i) W) := by
  obtain ⟨op, a, b⟩ := i
  have hi := (Ins.ok_iff _).1 hio
  simp only at hi
  unfold Ins.v
  simp only
  have hEW := hE.fr hFW
  by_cases h1 : op = 4 ∨ op = 5
  · exact instr_field op a b h1 sub hB hEW hacc
  by_cases h2 : op = 17 ∨ op = 18
  · exact instr_return op a b h2 sub hB hEW hacc
  by_cases h3 : op = 22 ∨ op = 23
  · exact instr_inner op a b h3 sub hB hEW hacc
  by_cases h4 : op = 20 ∨ op = 21
  · exact instr_outer op a b h4 (by omega) (by omega) (row_fr ho hFW) sub hB hEW hacc
  by_cases h5 : op = 19
  · subst h5
    have ha : a < m.lits.length := by
      unfold Mth.opOk at hop
      simpa using hop
    have hk : m.lits[a.toNat]? = some m.lits[a.toNat] := List.getElem?_eq_getElem (by omega)
    exact instr_block a b (by omega) hk hll sub hFW hbb hB hlits ho hon hE hacc hS
  · exact instr_other op a b (by omega) (by omega) ⟨h1, h2, h3, h4, h5⟩ sub hB hEW hacc
end
end Go.Proofs.YtjghgambieflaaaGreatDoor
