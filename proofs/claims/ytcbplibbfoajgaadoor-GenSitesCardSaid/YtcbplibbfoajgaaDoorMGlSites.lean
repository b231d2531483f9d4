/- gen: the Sends of a unit that Gen answers. -/
import Derived.Test.YtcbplibbfoajgaaDoorMGlA
namespace Go.Proofs.YtcbplibbfoajgaaDoor
open Go.RowKit

theorem numd_same : ∀ (k : Int) (a b : List Ii), a.map Ii.er = b.map Ii.er → numd k a = numd k b
  | k, [], [], _ => rfl
  | k, [], y :: b, h => by cases h
  | k, x :: a, [], h => by cases h
  | k, x :: a, y :: b, h => by
    rw [List.map_cons, List.map_cons, List.cons.injEq] at h
    obtain ⟨e1, e2, -, -, -⟩ := er_fields h.1
    rw [numd, numd, numd_same (k + 1) a b h.2, numd_same k a b h.2, e1, e2]
theorem gen_numd {m : Mth} {method : Int} {v : Un} (hs : SameU ((gmOf m).unit method) v) : numd 0 v.code = some v.sites := by
  rw [numd_same 0 _ _ hs.code, unit_numd, hs.sites]
theorem gen_sends {m : Mth} {method : Int} {v : Un} (hs : SameU ((gmOf m).unit method) v) : v.sites = sends (gmOf m) 0 ((gmOf m).code.drop 0) := by
  rw [hs.sites]
  rfl
theorem sends_step {m : Mth} {k : Nat} {i : Ins} (hi : m.code[k]? = some i) : sends (gmOf m) k ((gmOf m).code.drop k) = (if (gmOf m).on k ∧ i.op = 11 then 1 else 0) + sends (gmOf m) (k + 1) ((gmOf m).code.drop (k + 1)) := by
  have h := gm_at hi
  obtain ⟨hl, e⟩ := List.getElem?_eq_some_iff.1 h
  rw [List.drop_eq_getElem_cons hl, e]
  rfl
theorem sends_none {m : Mth} {k : Nat} (h : k = m.code.length) : sends (gmOf m) k ((gmOf m).code.drop k) = 0 := by
  rw [List.drop_of_length_le (by simp [gmOf, h])]
  rfl
/-- a Send that is come to: its code ends with a Send -/
theorem send_of {m : Mth} {method : Int} (H : GenOk m method) {v : Un} {w : World} (hs : SameU ((gmOf m).unit method) v) (hA : UAt w v) {p : Nat} {i : Ins} (hi : m.code[p]? = some i) (ho : (gmOf m).on p) (h : i.op = 11) : ∃ b nn nb gc oc la lc, StAt w v p b (nn + 1) ∧ v.ca = some ⟨gc, oc, none⟩ ∧ b + nn < v.code.length ∧ w.cell? ⟨gc, oc + (b + nn) * 7, none⟩ = some (.int .i64 7) ∧ w.cell? ⟨gc, oc + (b + nn) * 7 + 5, none⟩ = some (.slice la (nb + 1) lc) ∧ w.cell? ⟨gc, oc + (b + nn) * 7 + 6, none⟩ = some (.int .u64 ((gmOf m).lit i.a)) ∧ i.b = (nb : Nat) ∧ nb ≤ 4095 ∧ 0 ≤ i.a ∧ i.a < m.lits.length := by
  obtain ⟨c, x, e1, e2, e3, e4⟩ := GM.send_at H.wf (gm_at hi) ho h
  obtain ⟨b, hst, hcd⟩ := starts_of hs hA hi
  rw [if_pos ho, e1] at hst hcd
  rw [List.length_append, List.length_singleton] at hst
  obtain ⟨gc, oc, la, lc, k1, k2, k3, -, -, -, -, k8, k9⟩ := hcd c.length x (by simp)
  have hok := (Ins.ok_iff i).1 ((m.ok_iff.1 H.good.ok).2 i (List.mem_of_getElem? hi))
  have hop := (opOk_lit (H.good.op i (List.mem_of_getElem? hi))).2 h
  obtain ⟨nb, hnb⟩ : ∃ nb : Nat, i.b = nb := ⟨i.b.toNat, by omega⟩
  simp only at e3 e4
  have hl : x.l.length = nb + 1 := by omega
  rw [e2] at k3
  rw [e3] at k9
  rw [hl] at k8
  exact ⟨b, c.length, nb, gc, oc, la, lc, hst, k1, k2, k3, k8, k9, hnb, by omega, hok.2.2.1, hop.1⟩
end Go.Proofs.YtcbplibbfoajgaaDoor
