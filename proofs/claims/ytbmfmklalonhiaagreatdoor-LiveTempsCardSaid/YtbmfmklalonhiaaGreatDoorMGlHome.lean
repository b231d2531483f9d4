/- gen: what a unit that Gen answers holds, where answers come to. -/
import Derived.Test.YtbmfmklalonhiaaGreatDoorMGlC
import Derived.Test.YtbmfmklalonhiaaGreatDoorMVerH
namespace Go.Proofs.YtbmfmklalonhiaaGreatDoor
open Go.RowKit

def Src3 (w : World) (g o : Nat) (q : Nat) : Prop := w.cell? ⟨g, o, none⟩ = some (.int .i64 0) ∧ w.cell? ⟨g, o + 1, none⟩ = some (.int .i64 q) ∧ w.cell? ⟨g, o + 2, none⟩ = some (.int .u64 0)
theorem Src3.fr {w w' : World} {g o q : Nat} (h : Src3 w g o q) (hF : Fr [] w w') : Src3 w' g o q := ⟨hF.cell (by simp) h.1, hF.cell (by simp) h.2.1, hF.cell (by simp) h.2.2⟩
theorem maps_at {m : Mth} {method : Int} {v : Un} {w : World} (hs : SameU ((gmOf m).unit method) v) (hA : UAt w v) {p : Nat} {i : Ins} (hi : m.code[p]? = some i) (ho : (gmOf m).on p) {q : Nat} (hl : (tregs m.temps ++ (gmOf m).N p).length = q + 1) (hq : (tregs m.temps ++ (gmOf m).N p)[q]? = some ⟨0, q, 0⟩) : ∃ gm om g2 o2 c2, v.ma = some ⟨gm, om, none⟩ ∧ w.cell? ⟨gm, om + p, none⟩ = some (.slice (some ⟨g2, o2, none⟩) (q + 1) c2) ∧ Src3 w g2 (o2 + q * 3) q := by
  obtain ⟨b, -, -, -, h4⟩ := (gmOf m).unit_at method (gm_at hi)
  rw [if_pos ho] at h4
  have h5 := congrArg (fun l => l[p]?) hs.maps
  simp only [List.getElem?_map, h4, Option.map_some] at h5
  cases hx : v.maps[p]? with
  | none => rw [hx] at h5; cases h5
  | some x =>
    rw [hx] at h5
    have h6 : x.l = tregs m.temps ++ (gmOf m).N p := Option.some.inj h5
    obtain ⟨⟨g, o, e, c0⟩, hS⟩ := hA.maps p x hx
    obtain ⟨g2, o2, e2, d0, d1, d2⟩ := hS q ⟨0, q, 0⟩ (by rw [h6]; exact hq)
    rw [h6, hl, e2] at c0
    exact ⟨g, o, g2, o2, _, e, c0, d0, d1, d2⟩
theorem map_home {m : Mth} {T : Nat} (hT : m.temps = T) {N : List Sr} {q : Nat} (hl : N.length = q + 1) (hq : N[q]? = some (home m.temps q)) : (tregs m.temps ++ N).length = (T + q) + 1 ∧ (tregs m.temps ++ N)[T + q]? = some ⟨0, ((T + q : Nat) : Int), 0⟩ := by
  have ht : (tregs m.temps).length = T := by have := tregs_len (T := m.temps) (by omega); omega
  refine ⟨by rw [List.length_append, ht, hl]; omega, ?_⟩
  rw [List.getElem?_append_right (by omega), ht, show T + q - T = q by omega, hq, hT]
  simp [home]
structure StAt (w : World) (v : Un) (p b n : Nat) : Prop where
  at_ : ∃ gs os, v.sa = some ⟨gs, os, none⟩ ∧ w.cell? ⟨gs, os + p, none⟩ = some (.int .i64 b) ∧ w.cell? ⟨gs, os + (p + 1), none⟩ = some (.int .i64 ((b + n : Nat) : Int))
theorem starts_of {m : Mth} {method : Int} {v : Un} {w : World} (hs : SameU ((gmOf m).unit method) v) (hA : UAt w v) {p : Nat} {i : Ins} (hi : m.code[p]? = some i) : ∃ b, StAt w v p b (if (gmOf m).on p then ((gmOf m).cd p ⟨i.op, i.a, i.b⟩).1 else []).length ∧ ∀ j x, (if (gmOf m).on p then ((gmOf m).cd p ⟨i.op, i.a, i.b⟩).1 else [])[j]? = some x → ∃ gc oc la lc, v.ca = some ⟨gc, oc, none⟩ ∧ b + j < v.code.length ∧ w.cell? ⟨gc, oc + (b + j) * 7, none⟩ = some (.int .i64 x.op) ∧ w.cell? ⟨gc, oc + (b + j) * 7 + 1, none⟩ = some (.int .i64 x.n) ∧ w.cell? ⟨gc, oc + (b + j) * 7 + 2, none⟩ = some (.int .i64 x.d.kind) ∧ w.cell? ⟨gc, oc + (b + j) * 7 + 3, none⟩ = some (.int .i64 x.d.n) ∧ w.cell? ⟨gc, oc + (b + j) * 7 + 4, none⟩ = some (.int .u64 x.d.w) ∧ w.cell? ⟨gc, oc + (b + j) * 7 + 5, none⟩ = some (.slice la x.l.length lc) ∧ w.cell? ⟨gc, oc + (b + j) * 7 + 6, none⟩ = some (.int .u64 x.w) := by
  obtain ⟨b, h1, h2, h3, -⟩ := (gmOf m).unit_at method (gm_at hi)
  refine ⟨b, ⟨?_⟩, fun j x hj => ?_⟩
  · rw [← hs.starts] at h1 h2
    obtain ⟨g, o, e, c0⟩ := hA.starts p _ h1
    obtain ⟨_, _, e1, c1⟩ := hA.starts (p + 1) _ h2
    rw [e] at e1
    cases e1
    exact ⟨g, o, e, c0, c1⟩
  · have hjl := (List.getElem?_eq_some_iff.1 hj).1
    have h4 := h3 j hjl
    rw [hj] at h4
    have h5 := congrArg (fun l => l[b + j]?) hs.code
    simp only [List.getElem?_map, h4, Option.map_some] at h5
    cases hy : v.code[b + j]? with
    | none => rw [hy] at h5; cases h5
    | some y =>
      rw [hy] at h5
      obtain ⟨e1, e2, e3, e4, e5⟩ := er_fields (Option.some.inj h5)
      obtain ⟨⟨g, o, e, c0, c1, c2, c3, c4, c5, c6⟩, -⟩ := hA.code (b + j) y hy
      rw [e1] at c0
      rw [e2] at c1
      rw [e3] at c2 c3 c4
      rw [e4] at c5
      rw [e5] at c6
      exact ⟨g, o, _, _, e, (List.getElem?_eq_some_iff.1 hy).1, c0, c1, c2, c3, c4, c5, c6⟩
theorem gen_lens {m : Mth} {method : Int} {v : Un} (hs : SameU ((gmOf m).unit method) v) : v.maps.length = m.code.length ∧ v.starts.length = m.code.length + 1 := by
  refine ⟨?_, ?_⟩
  · rw [maps_len hs]
    show ((gmOf m).parts.map _).length = _
    rw [List.length_map, (gmOf m).parts_length]
    simp [gmOf]
  · rw [hs.starts]
    show (startsL 0 _).length = _
    rw [starts_lenG, List.length_map, (gmOf m).parts_length]
    simp [gmOf]
theorem gen_code_le {m : Mth} {method : Int} (H : GenOk m method) {v : Un} (hs : SameU ((gmOf m).unit method) v) : v.code.length ≤ 10000 := by
  have W := H.wf
  have hlen := W.len
  have h9 := GM.code_le W (gmOf m).code.length (Nat.le_refl _)
  rw [← (gmOf m).parts_length, List.take_length] at h9
  rw [(gmOf m).parts_length] at h9
  rw [er_len hs.code]
  show ((gmOf m).parts.flatMap (·.1)).length ≤ _
  omega
/-- behind what asks -/
theorem ask_at {m : Mth} {method : Int} (H : GenOk m method) {v : Un} {w : World} (hs : SameU ((gmOf m).unit method) v) (hA : UAt w v) {p : Nat} {i : Ins} (hi : m.code[p]? = some i) (ho : (gmOf m).on p) (h : i.op = 13 ∨ i.op = 11) : p + 1 < m.code.length ∧ ∃ b n q gm om g2 o2 c2 gc oc, StAt w v p b (n + 1) ∧ v.ma = some ⟨gm, om, none⟩ ∧ w.cell? ⟨gm, om + (p + 1), none⟩ = some (.slice (some ⟨g2, o2, none⟩) (q + 1) c2) ∧ Src3 w g2 (o2 + q * 3) q ∧ v.ca = some ⟨gc, oc, none⟩ ∧ b + n < v.code.length ∧ Src3 w gc (oc + (b + n) * 7 + 2) q ∧ q ≤ 1000 := by
  obtain ⟨h1, h2, c, x, q, e1, e2, e3, e4⟩ := GM.ask_home H.wf (gm_at hi) ho h
  have h2' : p + 1 < m.code.length := by simpa [gmOf] using h2
  obtain ⟨b, hst, hcd⟩ := starts_of hs hA hi
  rw [if_pos ho, e1] at hst hcd
  rw [List.length_append, List.length_singleton] at hst
  obtain ⟨gc, oc, la, lc, k1, k2, -, -, k5, k6, k7, -, -⟩ := hcd c.length x (by simp)
  obtain ⟨i2, hi2⟩ : ∃ i2, m.code[p + 1]? = some i2 := ⟨_, List.getElem?_eq_getElem h2'⟩
  have W := H.wf
  have ht : 0 ≤ m.temps ∧ m.temps ≤ 100 := by have := W.temps; have := W.args; have h9 : (gmOf m).temps = m.temps := rfl; have h8 := m.head_iff.1 (m.ok_iff.1 H.good.ok).1; omega
  obtain ⟨T, hT⟩ : ∃ T : Nat, m.temps = T := ⟨m.temps.toNat, by omega⟩
  obtain ⟨f1, f2⟩ := map_home hT e2 e3
  obtain ⟨gm, om, g2, o2, c2, l1, l2, l3⟩ := maps_at hs hA hi2 h1 f1 f2
  have hN := GM.N_len W h1
  have hf := W.fits (p + 1) h1
  have hk := W.stack
  rw [e4] at k5 k6 k7
  refine ⟨h2', b, c.length, T + q, gm, om, g2, o2, c2, gc, oc, hst, l1, l2, l3, k1, k2, ⟨k5, ?_, k7⟩, by omega⟩
  rw [show oc + (b + c.length) * 7 + 2 + 1 = oc + (b + c.length) * 7 + 3 by omega, k6]
  show some (Value.int .i64 ((gmOf m).temps + (q : Int))) = _
  have h9 : (gmOf m).temps = m.temps := rfl
  rw [h9, hT]
  rfl
/-- ahead of a branch -/
theorem branch_at {m : Mth} {method : Int} (H : GenOk m method) {v : Un} {w : World} (hs : SameU ((gmOf m).unit method) v) (hA : UAt w v) {p : Nat} {i : Ins} (hi : m.code[p]? = some i) (ho : (gmOf m).on p) (h : i.op = 15 ∨ i.op = 16) : ∃ (q gm om g2 o2 c2 : Nat), m.temps + (((gmOf m).at p : Nat) : Int) = (q + 1 : Nat) ∧ v.ma = some ⟨gm, om, none⟩ ∧ w.cell? ⟨gm, om + p, none⟩ = some (.slice (some ⟨g2, o2, none⟩) (q + 1) c2) ∧ Src3 w g2 (o2 + q * 3) q ∧ q ≤ 1000 := by
  have W := H.wf
  obtain ⟨h1, h2⟩ := GM.branch_home W (gm_at hi) ho h
  have ht : 0 ≤ m.temps ∧ m.temps ≤ 100 := by have h8 := m.head_iff.1 (m.ok_iff.1 H.good.ok).1; omega
  obtain ⟨T, hT⟩ : ∃ T : Nat, m.temps = T := ⟨m.temps.toNat, by omega⟩
  have hN := GM.N_len W ho
  have hf := W.fits p ho
  have hk := W.stack
  obtain ⟨q, hq⟩ : ∃ q, (gmOf m).at p = q + 1 := ⟨(gmOf m).at p - 1, by omega⟩
  rw [hq, Nat.add_sub_cancel] at h2
  obtain ⟨f1, f2⟩ := map_home hT (by rw [hN, hq]) h2
  obtain ⟨gm, om, g2, o2, c2, l1, l2, l3⟩ := maps_at hs hA hi ho f1 f2
  exact ⟨T + q, gm, om, g2, o2, c2, by rw [hT, hq]; omega, l1, l2, l3, by omega⟩
theorem gm_at_depth {m : Mth} {p : Nat} (ho : (gmOf m).on p) : m.depths[p]? = some (((gmOf m).at p : Nat) : Int) := by
  have h : (0 : Int) ≤ (gmOf m).dep.getD p (-1) := ho
  have e : (gmOf m).dep = m.depths := rfl
  unfold GM.at
  rw [e] at h ⊢
  rw [List.getD_eq_getElem?_getD] at h ⊢
  cases hx : m.depths[p]? with
  | none => rw [hx] at h; simp at h
  | some x => rw [hx] at h; simp at h ⊢; omega
end Go.Proofs.YtbmfmklalonhiaaGreatDoor
