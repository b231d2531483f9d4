/- HeapNone, walked. -/
import Derived.Test.YtfcigjicikpabaaDoorNone
import Derived.Test.YtfcigjicikpabaaDoorAwake
namespace Go.Proofs.YtfcigjicikpabaaDoor
open Go.RowKit
set_option maxRecDepth 100000 in
set_option maxHeartbeats 4000000 in
theorem heapNone_walk (x n : Int) (w : World) (hg : Glob w) (h1 : 0 ≤ x) (h2 : x ≤ 18446744073709551615) : Calls Tryd.prog 3 #[.int .u64 x, .int .i64 n] w (Still (.bool true) w) := by
  have hA := awake_still w hg
  have HG := Lib.hid hg
  clear hg
  go_enter Tryd.func3, Tryd.ntmps3
  go_wp2_with (go_at_call 5; refine hA.mono ?_; rintro e w1 ⟨rfl, hF⟩; have HF := Lib.hid hF; clear hF)
  obtain ⟨W2, hW2⟩ : ∃ W2, W2 = (w1.alloc (.cells #[.pointer none] 28)).alloc (.cells #[.pointer none, .pointer (some ⟨w1.heap.size, 0, none⟩)] 25) := ⟨_, rfl⟩
  have c0 : Hid (W2.cell? ⟨w1.heap.size + 1, 0, none⟩ = some (.pointer none)) := by rw [hW2]; simp [Hid]
  have c1 : Hid (W2.cell? ⟨w1.heap.size + 1, 1, none⟩ = some (.pointer (some ⟨w1.heap.size, 0, none⟩))) := by rw [hW2]; simp [Hid]
  have c2 : Hid (W2.cell? ⟨w1.heap.size, 0, none⟩ = some (.pointer none)) := by
    rw [hW2, World.cell?_alloc_lt _ _ ⟨w1.heap.size, 0, none⟩ (by simp)]; simp [Hid]
  have HF2 : Hid (Fr [] w W2) := by rw [hW2]; exact (HF.out.alloc _).alloc _
  have HG2 : Hid (Glob W2) := HG.out.fr HF2.out
  rw [← hW2]
  clear hW2 hA HF HG
  go_loopw [8] (fun v wr => ∃ k : Nat, k ≤ 2 ∧ v = .int .i64 k ∧ Hid (Fr [] W2 wr)) (fun v _ => 2 - (intOf v).toNat)
  case atStart => exact ⟨0, by omega, rfl, Fr.refl _ _⟩
  case round =>
    obtain ⟨k, hk, rfl, hF⟩ := hrel
    have hk3 : k = 0 ∨ k = 1 ∨ k = 2 := by omega
    rcases hk3 with rfl | rfl | rfl
    · have hc : wr.cell? ⟨w1.heap.size + 1, 0, none⟩ = some (.pointer none) := hF.out.cell (by simp) c0.out
      have hD : Dead W2 (.pointer none) wr := ⟨.inl rfl, HG2.out.fr hF.out, hF.out⟩
      clear hF
      go_wp2_with (first
        | (go_at_call 6; refine (dead_alloc (by assumption) x n).mono ?_; rintro e w' ⟨rfl, hD⟩)
        | (go_at_call 7; refine (dead_size (by assumption) x h1 h2).mono ?_; rintro e w' ⟨rfl, hD⟩)
        | (go_at_call 8; refine (dead_class (by assumption) x h1 h2).mono ?_; rintro e w' ⟨rfl, hD⟩)
        | (go_at_call 9; refine (dead_hash (by assumption) x h1 h2).mono ?_; rintro e w' ⟨rfl, hD⟩)
        | (go_at_call 10; refine (dead_fetch (by assumption) x h1 h2 n).mono ?_; rintro e w' ⟨rfl, hD⟩)
        | (go_at_call 11; refine (dead_setClass (by assumption) x h1 h2).mono ?_; rintro e w' ⟨rfl, hD⟩)
        | (go_at_call 12; refine (dead_store (by assumption) x h1 h2 n).mono ?_; rintro e w' ⟨rfl, hD⟩)
        | (go_at_call 13; refine (dead_setRoot (by assumption) x h1 h2).mono ?_; rintro e w' ⟨rfl, hD⟩)
        | (go_at_call 14; refine (dead_load (by assumption)).mono ?_; rintro e w' ⟨rfl, hD⟩)
        | (go_at_call 15; refine (dead_has (by assumption) x h1 h2).mono ?_; rintro e w' ⟨rfl, hD⟩)
        | (go_at_call 16; refine (dead_words (by assumption)).mono ?_; rintro e w' ⟨rfl, hD⟩)
        | (go_at_call 17; refine (dead_used (by assumption)).mono ?_; rintro e w' ⟨rfl, hD⟩)
        | (go_at_call 18; refine (dead_hashes (by assumption)).mono ?_; rintro e w' ⟨rfl, hD⟩)
        | (go_at_call 19; refine (dead_root (by assumption)).mono ?_; rintro e w' ⟨rfl, hD⟩)
        | (go_at_call 20; refine (dead_objects (by assumption)).mono ?_; rintro e w' ⟨ao, cap, rfl, hD⟩)
        | (go_at_call 21; refine (dead_dump (by assumption)).mono ?_; rintro e w' ⟨rfl, hD⟩; have HL := Lib.hid hD.2.2))
      go_roundw
      case rel => exact ⟨1, by omega, by go_num, HL⟩
      case measure => simp [intOf]
    · have hc : wr.cell? ⟨w1.heap.size + 1, 1, none⟩ = some (.pointer (some ⟨w1.heap.size, 0, none⟩)) := hF.out.cell (by simp) c1.out
      have hD : Dead W2 (.pointer (some ⟨w1.heap.size, 0, none⟩)) wr := ⟨.inr ⟨_, rfl, hF.out.cell (by simp) c2.out⟩, HG2.out.fr hF.out, hF.out⟩
      clear hF
      go_wp2_with (first
        | (go_at_call 6; refine (dead_alloc (by assumption) x n).mono ?_; rintro e w' ⟨rfl, hD⟩)
        | (go_at_call 7; refine (dead_size (by assumption) x h1 h2).mono ?_; rintro e w' ⟨rfl, hD⟩)
        | (go_at_call 8; refine (dead_class (by assumption) x h1 h2).mono ?_; rintro e w' ⟨rfl, hD⟩)
        | (go_at_call 9; refine (dead_hash (by assumption) x h1 h2).mono ?_; rintro e w' ⟨rfl, hD⟩)
        | (go_at_call 10; refine (dead_fetch (by assumption) x h1 h2 n).mono ?_; rintro e w' ⟨rfl, hD⟩)
        | (go_at_call 11; refine (dead_setClass (by assumption) x h1 h2).mono ?_; rintro e w' ⟨rfl, hD⟩)
        | (go_at_call 12; refine (dead_store (by assumption) x h1 h2 n).mono ?_; rintro e w' ⟨rfl, hD⟩)
        | (go_at_call 13; refine (dead_setRoot (by assumption) x h1 h2).mono ?_; rintro e w' ⟨rfl, hD⟩)
        | (go_at_call 14; refine (dead_load (by assumption)).mono ?_; rintro e w' ⟨rfl, hD⟩)
        | (go_at_call 15; refine (dead_has (by assumption) x h1 h2).mono ?_; rintro e w' ⟨rfl, hD⟩)
        | (go_at_call 16; refine (dead_words (by assumption)).mono ?_; rintro e w' ⟨rfl, hD⟩)
        | (go_at_call 17; refine (dead_used (by assumption)).mono ?_; rintro e w' ⟨rfl, hD⟩)
        | (go_at_call 18; refine (dead_hashes (by assumption)).mono ?_; rintro e w' ⟨rfl, hD⟩)
        | (go_at_call 19; refine (dead_root (by assumption)).mono ?_; rintro e w' ⟨rfl, hD⟩)
        | (go_at_call 20; refine (dead_objects (by assumption)).mono ?_; rintro e w' ⟨ao, cap, rfl, hD⟩)
        | (go_at_call 21; refine (dead_dump (by assumption)).mono ?_; rintro e w' ⟨rfl, hD⟩; have HL := Lib.hid hD.2.2))
      go_roundw
      case rel => exact ⟨2, by omega, by go_num, HL⟩
      case measure => simp [intOf]
    · go_wp2
      go_ret
      exact ⟨rfl, HF2.out.trans hF.out⟩
end Go.Proofs.YtfcigjicikpabaaDoor
