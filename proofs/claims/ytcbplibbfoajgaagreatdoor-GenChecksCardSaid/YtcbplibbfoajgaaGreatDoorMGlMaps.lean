/- gen: how long the maps of a unit that Gen answers are. -/
import Derived.Test.YtcbplibbfoajgaaGreatDoorMGlA
import Derived.Test.YtcbplibbfoajgaaGreatDoorMGlUB
namespace Go.Proofs.YtcbplibbfoajgaaGreatDoor
open Go.RowKit

theorem map_len_at {m : Mth} {method : Int} (H : GenOk m method) {v : Un} {w : World} (hs : SameU ((gmOf m).unit method) v) (hA : UAt w v) {p : Nat} {i : Ins} (hi : m.code[p]? = some i) : ∃ gm om a2 q c2, v.ma = some ⟨gm, om, none⟩ ∧ w.cell? ⟨gm, om + p, none⟩ = some (.slice a2 q c2) ∧ ((gmOf m).on p → (q : Int) = m.temps + (((gmOf m).at p : Nat) : Int)) ∧ (¬ (gmOf m).on p → q = 0) := by
  obtain ⟨b, -, -, -, h4⟩ := (gmOf m).unit_at method (gm_at hi)
  have h5 := congrArg (fun l => l[p]?) hs.maps
  simp only [List.getElem?_map, h4, Option.map_some] at h5
  cases hx : v.maps[p]? with
  | none => rw [hx] at h5; cases h5
  | some x =>
    rw [hx] at h5
    have h6 : x.l = if (gmOf m).on p then tregs m.temps ++ (gmOf m).N p else [] := Option.some.inj h5
    obtain ⟨⟨g, o, e, c0⟩, -⟩ := hA.maps p x hx
    refine ⟨g, o, _, _, _, e, c0, fun ho => ?_, fun ho => ?_⟩
    · rw [h6, if_pos ho, List.length_append, GM.N_len H.wf ho]
      have h8 := m.head_iff.1 (m.ok_iff.1 H.good.ok).1
      have := tregs_len (T := m.temps) (by omega)
      omega
    · rw [h6, if_neg ho]
      rfl
theorem gen_depth_off {m : Mth} {p : Nat} (h : ¬ (gmOf m).on p) : (gmOf m).dep.getD p (-1) < 0 := by
  unfold GM.on at h
  omega
theorem gen_temps {m : Mth} {method : Int} {v : Un} (hs : SameU ((gmOf m).unit method) v) : v.temps = m.temps ∧ v.args = m.args := ⟨hs.temps, hs.args⟩
end Go.Proofs.YtcbplibbfoajgaaGreatDoor
