/- ir: Takes, Leaves, Writes, and the document's Writes. -/
import Derived.Test.YtcdpgchkdjjfgaaIrOp
import Derived.Laws.ResultCell
namespace Go.Proofs.Ytcdpgchkdjjfgaa
open Go.RowKit

theorem ir_Leaves (op : Int) (w : World) : Calls Try.prog 14 #[.int .i64 op] w (Still (.bool (lvs op)) w) := by
  have hc := ir_operationOf op w
  unfold opV at hc
  go_enter Try.func14, Try.ntmps14
  go_wp2_with (go_at_call 25; refine hc.mono ?_; rintro e w1 ⟨rfl, hF⟩)
  have hr : (Instr.field 51 (.agg #[.int .i64 (lst op), .int .i64 (mst op), .bool (lvs op)]) 2).run Try.prog w1 = .ok (.bool (lvs op)) w1 := by rfl
  rw [hr]
  go_wp2
  go_ret
  exact ⟨rfl, hF⟩
theorem ir_Takes (op : Int) (w : World) : Calls Try.prog 10 #[.int .i64 op] w (Still (.tuple #[.int .i64 (lst op), .int .i64 (mst op)]) w) := by
  have hc := ir_operationOf op w
  unfold opV at hc
  go_enter Try.func10, Try.ntmps10
  go_wp2_with (go_at_call 25; refine hc.mono ?_; rintro e w1 ⟨rfl, hF⟩; have HF := Lib.hid hF; clear hF)
  go_quiet (fail)
  go_wp2
  go_ret2
  exact ⟨rfl, by (repeat (first | (with_reducible refine Fr.setCell ?_ (fun h => absurd h (Nat.lt_irrefl _)) _) | (with_reducible refine Fr.setCell ?_ (fun h => absurd h (by first | omega | (simp; done) | (simp; omega) | (dsimp only; omega))) _) | (with_reducible refine Fr.alloc ?_ _) | (with_reducible refine Fr.drew ?_) | (with_reducible refine Fr.drewN ?_ _) | (with_reducible exact HF.out)))⟩
/-- the place of a result -/
def wrS (i : Ii) : Sr := if lvs i.op = true then i.d else zeroS
set_option maxHeartbeats 1000000 in
theorem ir_Writes (i : Ii) (w : World) : Calls Try.prog 12 #[i.v] w (Still (.tuple #[(wrS i).v, .bool (lvs i.op)]) w) := by
  have hc := fun W => ir_Leaves i.op W
  obtain ⟨op, n, ⟨dk, dn, dw⟩, la, l, lc, x⟩ := i
  unfold Ii.v wrS Sr.v
  simp only at hc ⊢
  cases h : lvs op
  all_goals
    rw [h] at hc
    simp only [Bool.false_eq_true, if_false, if_true, zeroS]
    clear h
    go_enter Try.func12, Try.ntmps12
    go_wp2_with (go_at_call 14; refine (hc _).mono ?_; rintro e w1 ⟨rfl, hF⟩; have hb1 := hF.heap (by simp) (hp1 _ _ _); have hb2 := hF.heap (by simp) (hp2 _ _ _); have k0 := cell_of_heap (o := 0) hb1 rfl; have k1 := cell_of_heap (o := 1) hb1 rfl; have k2 := cell_of_heap (o := 2) hb1 rfl; have k3 := cell_of_heap (o := 3) hb1 rfl; have k4 := cell_of_heap (o := 4) hb1 rfl; have r0 := cell_of_heap (o := 0) hb2 rfl; have r1 := cell_of_heap (o := 1) hb2 rfl; have r2 := cell_of_heap (o := 2) hb2 rfl; have fr0 := frozen_of_heap (o := 0) hb2; have fr1 := frozen_of_heap (o := 1) hb2; have fr2 := frozen_of_heap (o := 2) hb2; have HF := Lib.hid hF; clear hF hb1 hb2)
    refine bodyPost_ret (v := .tuple #[.agg #[.int .i64 _, .int .i64 _, .int .u64 _], .bool _]) (by rw [results_cell_tmp rfl]; go_simp) rfl ⟨rfl, ?_⟩
    (repeat (first | (with_reducible refine Fr.setCell ?_ (fun h => absurd h (Nat.lt_irrefl _)) _) | (with_reducible refine Fr.setCell ?_ (fun h => absurd h (by first | omega | (simp; done) | (simp; omega) | (dsimp only; omega))) _) | (with_reducible refine Fr.alloc ?_ _) | (with_reducible refine Fr.drew ?_) | (with_reducible refine Fr.drewN ?_ _) | (with_reducible exact (((Fr.refl [] w).alloc _).alloc _).trans HF.out)))
theorem r11_Writes (i : Ii) (w : World) : Calls Try.prog 13 #[i.v] w (Still (.tuple #[(wrS i).v, .bool (lvs i.op)]) w) := by
  have hc := fun W => r11_Leaves i.op W
  obtain ⟨op, n, ⟨dk, dn, dw⟩, la, l, lc, x⟩ := i
  unfold Ii.v wrS Sr.v
  simp only at hc ⊢
  cases h : lvs op
  all_goals
    rw [h] at hc
    simp only [Bool.false_eq_true, if_false, if_true, zeroS]
    clear h
    go_enter Try.func13, Try.ntmps13
    go_wp2_with (go_at_call 15; refine (hc _).mono ?_; rintro e w1 ⟨rfl, rfl⟩)
    refine bodyPost_ret (v := .tuple #[.agg #[.int .i64 _, .int .i64 _, .int .u64 _], .bool _]) (by rw [results_cell_tmp rfl]; go_simp) rfl ⟨rfl, ?_⟩
    (repeat (first | (with_reducible refine Fr.setCell ?_ (fun h => absurd h (Nat.lt_irrefl _)) _) | (with_reducible refine Fr.setCell ?_ (fun h => absurd h (by first | omega | (simp; done) | (simp; omega) | (dsimp only; omega))) _) | (with_reducible refine Fr.alloc ?_ _) | (with_reducible refine Fr.drew ?_) | (with_reducible refine Fr.drewN ?_ _) | (with_reducible exact Fr.refl [] w)))
end Go.Proofs.Ytcdpgchkdjjfgaa
