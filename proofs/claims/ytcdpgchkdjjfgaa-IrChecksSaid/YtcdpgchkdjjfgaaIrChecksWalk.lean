/- IrChecks: the walk. -/
import Derived.Test.YtcdpgchkdjjfgaaIrRChk
import Derived.Test.YtcdpgchkdjjfgaaIrAwake
namespace Go.Proofs.Ytcdpgchkdjjfgaa
open Go.RowKit

set_option maxRecDepth 100000 in
set_option maxHeartbeats 4000000 in
theorem irChecks_walk (u : Un) (w : World) (hA : UAt w u) (hB : UB u) : Calls Try.prog 4 #[u.v] w (Still (.bool true) w) := by
  have h1 : Hid (∀ W, Fr [] w W → Calls Try.prog 21 #[u.v] W (Still (.int .i64 (errU u)) W)) := Lib.hid fun W hF => ir_Check u W (hA.fr hF) hB
  have h2 : Hid (∀ W, Fr [] w W → Calls Try.prog 22 #[u.v] W (Still (.int .i64 (errU u)) W)) := Lib.hid fun W hF => r11_Check u W (hA.fr hF) hB
  generalize errU u = er at *
  obtain ⟨method, args, T, R, P, S, ea, en, ec, ca, co, cc, sa, st, sc, ma, mp, mc⟩ := u
  unfold Un.v at *
  simp only at h1 h2 ⊢
  clear hA hB
  generalize en.length = el at *
  generalize co.length = cl at *
  generalize st.length = sl at *
  generalize mp.length = ml at *
  go_enter Try.func4, Try.ntmps4
  go_wp2_with (go_at_call 9; refine (awake11 _).mono ?_; rintro e w1 ⟨rfl, hF⟩; have HF1 : Hid (Fr [] w w1) := Lib.hid (((Fr.refl [] w).alloc _).trans hF); have hb := hF.heap (by simp) (heap_new w _); have b0 := cell_of_heap (o := 0) hb rfl; have b1 := cell_of_heap (o := 1) hb rfl; have b2 := cell_of_heap (o := 2) hb rfl; have b3 := cell_of_heap (o := 3) hb rfl; have b4 := cell_of_heap (o := 4) hb rfl; have b5 := cell_of_heap (o := 5) hb rfl; have b6 := cell_of_heap (o := 6) hb rfl; have b7 := cell_of_heap (o := 7) hb rfl; have b8 := cell_of_heap (o := 8) hb rfl; have b9 := cell_of_heap (o := 9) hb rfl; clear hF hb)
  go_region_held3 (fun w' => w'.cell? ⟨w.heap.size, 0, none⟩ = some (.int .u64 method) ∧ w'.cell? ⟨w.heap.size, 1, none⟩ = some (.int .i64 args) ∧ w'.cell? ⟨w.heap.size, 2, none⟩ = some (.int .i64 T) ∧ w'.cell? ⟨w.heap.size, 3, none⟩ = some (.int .i64 R) ∧ w'.cell? ⟨w.heap.size, 4, none⟩ = some (.int .i64 P) ∧ w'.cell? ⟨w.heap.size, 5, none⟩ = some (.int .i64 S) ∧ w'.cell? ⟨w.heap.size, 6, none⟩ = some (.slice ea el ec) ∧ w'.cell? ⟨w.heap.size, 7, none⟩ = some (.slice ca cl cc) ∧ w'.cell? ⟨w.heap.size, 8, none⟩ = some (.slice sa sl sc) ∧ w'.cell? ⟨w.heap.size, 9, none⟩ = some (.slice ma ml mc))
    (first | exact ⟨HF3.out.cell (by simp) b0, HF3.out.cell (by simp) b1, HF3.out.cell (by simp) b2, HF3.out.cell (by simp) b3, HF3.out.cell (by simp) b4, HF3.out.cell (by simp) b5, HF3.out.cell (by simp) b6, HF3.out.cell (by simp) b7, HF3.out.cell (by simp) b8, HF3.out.cell (by simp) b9⟩ | exact ⟨HF2.out.cell (by simp) b0, HF2.out.cell (by simp) b1, HF2.out.cell (by simp) b2, HF2.out.cell (by simp) b3, HF2.out.cell (by simp) b4, HF2.out.cell (by simp) b5, HF2.out.cell (by simp) b6, HF2.out.cell (by simp) b7, HF2.out.cell (by simp) b8, HF2.out.cell (by simp) b9⟩ | go_keep)
    (first
      | (go_at_call 21; refine (h1.out _ HF1.out.drew).mono ?_; rintro e w2 ⟨rfl, hF⟩; have HF2 : Hid (Fr [] w1 w2) := Lib.hid ((Fr.refl [] w1).drew.trans hF); clear hF)
      | (go_at_call 22; refine (h2.out _ (HF1.out.trans HF2.out)).mono ?_; rintro e w3 ⟨rfl, hF⟩; have HF3 : Hid (Fr [] w1 w3) := Lib.hid (HF2.out.trans hF); clear hF))
  go_wp2_with fail
  go_ret
  exact ⟨ret1 (vb (by simp)), HF1.out.trans HF3.out⟩
end Go.Proofs.Ytcdpgchkdjjfgaa
