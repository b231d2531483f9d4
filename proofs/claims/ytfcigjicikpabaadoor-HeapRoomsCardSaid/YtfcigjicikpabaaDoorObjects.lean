/- The memory's objects, ranged over: it yields the places where objects begin, in order. -/
import Derived.Test.YtfcigjicikpabaaDoorHeap2
import Derived.Test.YtfcigjicikpabaaDoorRange
import Derived.OwnWalkIn
import Derived.TacticsInMore
import Derived.LoopNIn
import Derived.LoopIn
import Derived.Shelf.Abstract
namespace Go.Proofs.YtfcigjicikpabaaDoor
open Go.RowKit
attribute [local go_sem] Oper.semAt_some

/-- the places where objects begin, from p on -/
def Chain (W : List Int) : Nat → List Nat → Prop
  | p, [] => W.length ≤ p
  | p, q :: rest => q = p ∧ p < W.length ∧ ∃ z : Nat, W[p + 2]? = some (z : Int) ∧ z ≤ 65536 ∧ Chain W (p + 3 + z) rest

set_option maxRecDepth 100000 in
set_option maxHeartbeats 1000000 in
theorem objects_yields (n : Nat) (hn : 1 ≤ n) {mb : Nat} {m : Mem} {wv sv : Value} (ps : List Nat) (hC : Chain m.W 1 ps) : Yields Fence.wide n Tryd.prog 37 (.pointer (some ⟨mb, 0, none⟩)) (fun p : Nat => #[Value.int .i64 p]) (fun W => MemAt W mb m wv sv) ps := by
  intro l J Jx W hR hY h0
  have HR := Lib.hid hR
  have HY := Lib.hid hY
  clear hR hY
  refine callsIn_of_wp Tryd.func37 rfl trivial ?_ rfl
  simp only [Tryd.ntmps37, List.size_toArray, List.length_cons, List.length_nil, Nat.reduceAdd, Nat.reduceSub, Array.replicate_succ, Array.replicate_zero, List.push_toArray, List.append_toArray, List.nil_append, List.cons_append]
  gi_wp2
  gi_loopw [4] (fun v wr => ∃ (pre rest : List Nat) (p : Nat), v = .int .i64 p ∧ Hid (ps = pre ++ rest) ∧ Hid (Chain m.W p rest) ∧ Hid (J pre wr)) (fun v _ => m.W.length - (intOf v).toNat)
  case atStart => exact ⟨[], ps, 1, rfl, rfl, hC, h0⟩
  case round =>
    obtain ⟨pre, rest, p, rfl, hx, hch, hJ⟩ := hrel
    have hM := HR.out pre wr hJ.out
    obtain ⟨ao, cap, rfl⟩ := row_shape hM.words
    have hw := hM.cell.2.1
    have hmost := hM.most
    cases rest with
    | nil =>
      have hle : m.W.length ≤ p := hch.out
      have HM := Lib.hid hM
      clear hM
      gi_wp2
      go_end0
      exact ⟨⟨_, rfl⟩, .inl (by have := hJ.out; rw [hx.out, List.append_nil]; exact this)⟩
    | cons q rest =>
      obtain ⟨rfl, hlt, z, hz, hz2, hch2⟩ := hch.out
      obtain ⟨fn, tmps, assign, body, hy, hRd⟩ := HY.out pre q wr hJ.out (by rw [hx.out]; exact ⟨rest, by simp⟩)
      have HZ := Lib.hid hz
      have HC2 := Lib.hid hch2
      clear hM hz hch2 hch
      gi_wp2
      refine hRd.mono ?_
      rintro e W3 (⟨rfl, hJ3⟩ | ⟨rfl, hJx3⟩)
      · have hM3 := HR.out (pre ++ [q]) W3 hJ3
        have hs := size_gives hM3 q z HZ.out hz2
        have HJ3 := Lib.hid hJ3
        clear hM3 hJ3
        gi_wp2_with (refine ⟨trivial, ?_⟩; gi_at_call 30; refine (callsIn_wide.2 hs).mono ?_; rintro e w' ⟨rfl, rfl⟩)
        go_roundw
        case rel => exact ⟨pre ++ [q], rest, q + 3 + z, by go_num, by rw [hx.out]; simp [Hid], HC2, HJ3⟩
        case measure => simp [intOf]; omega
      · gi_wp2
        refine bodyPost_ret (results_none rfl _ _ _) rfl ?_
        exact ⟨⟨_, rfl⟩, .inr ⟨pre ++ [q], by rw [hx.out]; exact ⟨rest, by simp⟩, hJx3⟩⟩
end Go.Proofs.YtfcigjicikpabaaDoor
