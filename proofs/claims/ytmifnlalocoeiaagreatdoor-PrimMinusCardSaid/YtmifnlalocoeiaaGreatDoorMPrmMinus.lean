/- What prim.Run answers to the primitive that negates, and to what is no primitive. -/
import Derived.Test.YtmifnlalocoeiaaGreatDoorMPrmArith
namespace Go.Proofs.YtmifnlalocoeiaaGreatDoor
open Go.RowKit

/-- what the primitive answers -/
def negV (o : Option Int) : Value := match o with | some v => .tuple #[.int .u64 v, .int .i64 0] | none => .tuple #[.int .u64 0, .int .i64 6]
set_option maxRecDepth 100000 in
set_option maxHeartbeats 1000000 in
theorem negate_at (x : Int) (hv av : Value) (w : World) (hx : WB x) : Calls Tryz.prog 31 #[.agg #[hv, .int .u64 x, av]] w (Still (negV (minusW x)) w) := by
  have h1 := fun w => wordFromInt 0 w (by decide)
  have h2 := fun w => arith_minus x w hx
  rw [show wordOf 0 = 1 from rfl] at h1
  cases hm : minusW x with
  | none =>
    simp only [hm, minusV, negV] at h2 ⊢
    clear hm hx
    go_enter Tryz.func31, Tryz.ntmps31
    go_wp2_with fail
    refine (h1 _).mono ?_
    rintro e w1 ⟨rfl, rfl⟩
    go_wp2_with fail
    refine (h2 _).mono ?_
    rintro e w2 ⟨rfl, rfl⟩
    go_wp2_with fail
    go_ret2
    exact ⟨rfl, (Fr.refl _ _).alloc _⟩
  | some v =>
    simp only [hm, minusV, negV] at h2 ⊢
    clear hm hx
    go_enter Tryz.func31, Tryz.ntmps31
    go_wp2_with fail
    refine (h1 _).mono ?_
    rintro e w1 ⟨rfl, rfl⟩
    go_wp2_with fail
    refine (h2 _).mono ?_
    rintro e w2 ⟨rfl, rfl⟩
    go_wp2_with fail
    go_ret2
    exact ⟨rfl, (Fr.refl _ _).alloc _⟩
/-- the list of all primitives -/
def plist : Array Value := #[.int .i64 0, .nilFunc, .int .i64 0, .func (.func 21) #[] #[], .int .i64 1, .func (.func 22) #[] #[], .int .i64 0, .func (.func 23) #[] #[], .int .i64 0, .func (.func 24) #[] #[], .int .i64 1, .func (.func 25) #[] #[], .int .i64 2, .func (.func 26) #[] #[], .int .i64 0, .func (.func 27) #[] #[], .int .i64 1, .func (.func 28) #[] #[], .int .i64 1, .func (.func 29) #[] #[], .int .i64 2, .func (.func 30) #[] #[], .int .i64 0, .func (.func 31) #[] #[]]
/-- Returned a row of them, new. -/
def Prims (w : World) (e : Ending) (w' : World) : Prop := e = .returned (.slice (some ⟨w.heap.size, 0, none⟩) 12 12) ∧ w'.heap[w.heap.size]? = some (.cells plist 50 (0, 0)) ∧ Fr [] w w'
set_option maxRecDepth 100000 in
set_option maxHeartbeats 1000000 in
theorem primitives_at (w : World) : Calls Tryz.prog 11 #[] w (Prims w) := by
  go_enter Tryz.func11, Tryz.ntmps11
  go_wp2_with fail
  go_ret
  exact ⟨rfl, heap_new w _, (Fr.refl _ _).alloc _⟩
set_option maxRecDepth 100000 in
set_option maxHeartbeats 1000000 in
theorem run_11 (x : Int) (hp0 : Option Addr) (ao : Option Addr) (cap : Nat) (w : World) (hx : WB x) : Calls Tryz.prog 6 #[.pointer hp0, .int .i64 11, .int .u64 x, .slice ao 0 cap] w (Still (negV (minusW x)) w) := by
  have hp := primitives_at w
  have hn := fun w => negate_at x (.pointer hp0) (.slice ao 0 cap) w hx
  have hv2 : ∃ a b, negV (minusW x) = .tuple #[.int .u64 a, .int .i64 b] := by
    cases minusW x with
    | none => exact ⟨_, _, rfl⟩
    | some v => exact ⟨_, _, rfl⟩
  obtain ⟨a, b, hv2⟩ := hv2
  rw [hv2] at hn ⊢
  clear hv2 hx
  go_enter Tryz.func6, Tryz.ntmps6
  go_wp2_with fail
  refine hp.mono ?_
  rintro e w1 ⟨rfl, hB, hF1⟩
  have c1 : w1.cell? ⟨w.heap.size, 22, none⟩ = some (.int .i64 0) := cell_of_heap (o := 22) hB rfl
  have c2 : w1.cell? ⟨w.heap.size, 23, none⟩ = some (.func (.func 31) #[] #[]) := cell_of_heap (o := 23) hB rfl
  have HF1 := Lib.hid hF1
  clear hB hF1 hp
  go_wp2_with fail
  refine (hn _).mono ?_
  rintro e w2 ⟨rfl, hF2⟩
  have HF2 := Lib.hid hF2
  clear hF2 hn
  go_wp2_with fail
  go_ret2
  exact ⟨rfl, HF1.out.trans HF2.out⟩
set_option maxRecDepth 100000 in
set_option maxHeartbeats 1000000 in
/-- one argument too many -/
theorem run_11_no (x : Int) (hp0 : Option Addr) (ao : Option Addr) (cap : Nat) (w : World) : Calls Tryz.prog 6 #[.pointer hp0, .int .i64 11, .int .u64 x, .slice ao 1 cap] w (Still (.tuple #[.int .u64 0, .int .i64 6]) w) := by
  have hp := primitives_at w
  go_enter Tryz.func6, Tryz.ntmps6
  go_wp2_with fail
  refine hp.mono ?_
  rintro e w1 ⟨rfl, hB, hF1⟩
  have c1 : w1.cell? ⟨w.heap.size, 22, none⟩ = some (.int .i64 0) := cell_of_heap (o := 22) hB rfl
  have HF1 := Lib.hid hF1
  clear hB hF1 hp
  go_wp2_with fail
  go_ret2
  exact ⟨rfl, HF1.out⟩
set_option maxRecDepth 100000 in
set_option maxHeartbeats 1000000 in
/-- no primitive -/
theorem run_12 (x : Int) (hp0 : Option Addr) (ao : Option Addr) (n cap : Nat) (w : World) : Calls Tryz.prog 6 #[.pointer hp0, .int .i64 12, .int .u64 x, .slice ao n cap] w (Still (.tuple #[.int .u64 0, .int .i64 6]) w) := by
  have hp := primitives_at w
  go_enter Tryz.func6, Tryz.ntmps6
  go_wp2_with fail
  refine hp.mono ?_
  rintro e w1 ⟨rfl, hB, hF1⟩
  have HF1 := Lib.hid hF1
  clear hB hF1 hp
  go_wp2_with fail
  go_ret2
  exact ⟨rfl, HF1.out⟩
end Go.Proofs.YtmifnlalocoeiaaGreatDoor
