/- scan: cmp.Compare, cmp.Or, compareEnds: which of two intervals ends first. -/
import Derived.Test.YtomcfjckhajhmaaScnPure
import Derived.RegionTactic
import Derived.Deep.QuietTactic
import Derived.BigQuiet
import Derived.Deep.RegionHeld3
namespace Go.Proofs.Ytomcfjckhajhmaa
open Go.RowKit

/-- new memory, and orders drawn: nothing else -/
def Gw (w w' : World) : Prop := ∃ q os, w' = Sort.grow (w.drewN q) os
theorem Gw.refl (w : World) : Gw w w := ⟨0, #[], by rw [Sort.grow_empty]; rfl⟩
theorem Gw.alloc {w W : World} (h : Gw w W) (o : Obj) : Gw w (W.alloc o) := by
  obtain ⟨q, os, rfl⟩ := h
  exact ⟨q, os ++ #[o], by rw [Sort.alloc_eq_grow, Sort.grow_grow]⟩
theorem Gw.drewN {w W : World} (h : Gw w W) (k : Nat) : Gw w (W.drewN k) := by
  obtain ⟨q, os, rfl⟩ := h
  exact ⟨q + k, os, by rw [← World.drewN_drewN]; rfl⟩
theorem Gw.drew {w W : World} (h : Gw w W) : Gw w W.drew := h.drewN 1
theorem Gw.trans {a b c : World} (h : Gw a b) (k : Gw b c) : Gw a c := by
  obtain ⟨q, os, rfl⟩ := h
  obtain ⟨q', os', rfl⟩ := k
  exact ⟨q + q', os ++ os', by rw [← Sort.grow_grow, ← World.drewN_drewN]; rfl⟩
theorem Gw.fr {w W : World} (h : Gw w W) : Fr [] w W := by
  obtain ⟨q, os, rfl⟩ := h
  exact Fr.grow q os

/-- an exit that is the plain one, hidden from the walk -/
def SNorm (Q : Exit → Act → World → Prop) : Exit → Act → World → Prop
  | .normal, a, w => Q .normal a w
  | _, _, _ => False
theorem SNorm.imp {Q : Exit → Act → World → Prop} : ∀ (e : Exit) (a : Act) (w : World), SNorm Q e a w → Q e a w := fun e a w h => by
  cases e <;> first | exact h | exact (h : False).elim
theorem SNorm.mk {Q : Exit → Act → World → Prop} {a : Act} {w : World} (h : Q .normal a w) : SNorm Q .normal a w := h
/-- -1, 0 or 1 -/
def cmpI (x y : Int) : Int := if x < y then -1 else if y < x then 1 else 0
theorem cmp_isNaN (x : Int) (w : World) : Calls Try.prog 33 #[.int .i64 x] w (Gives (.bool false) w) := by
  go_enter Try.func33, Try.ntmps33
  go_wp2
  go_ret
  exact ⟨by simp, rfl⟩
set_option maxRecDepth 100000 in
set_option maxHeartbeats 1600000 in
theorem cmp_Compare (x y : Int) (w : World) : Calls Try.prog 23 #[.int .i64 x, .int .i64 y] w (Gives (.int .i64 (cmpI x y)) w) := by
  go_enter Try.func23, Try.ntmps23
  go_wp2_with (go_at_call 33; refine (cmp_isNaN _ _).mono ?_; rintro e w' ⟨rfl, rfl⟩)
  all_goals (go_ret; refine ⟨ret1 (vi ?_), rfl⟩; unfold cmpI; (repeat' split) <;> first | rfl | (exfalso; omega))
/-- the first of two numbers that is not 0 -/
def orI (a b : Int) : Int := if a = 0 then b else a
set_option maxRecDepth 100000 in
set_option maxHeartbeats 1600000 in
theorem cmp_Or (g c : Nat) (x y : Int) (w : World) (c0 : w.cell? ⟨g, 0, none⟩ = some (.int .i64 x)) (c1 : w.cell? ⟨g, 1, none⟩ = some (.int .i64 y)) : Calls Try.prog 22 #[.slice (some ⟨g, 0, none⟩) 2 c] w (Gives (.int .i64 (orI x y)) w) := by
  go_enter Try.func22, Try.ntmps22
  go_wp2
  go_loopw [8, 5] (fun i _ wr => ∃ k : Nat, k ≤ 2 ∧ i = .int .i64 k ∧ wr = w ∧ (0 < k → x = 0) ∧ (1 < k → y = 0)) (fun i _ _ => 2 - (RowKit.intOf i).toNat)
  case atStart => exact ⟨0, by omega, rfl, rfl, by omega, by omega⟩
  case round =>
    obtain ⟨k, hk, rfl, rfl, h0, h1⟩ := hrel
    rcases (by omega : k = 0 ∨ k = 1 ∨ k = 2) with rfl | rfl | rfl
    · by_cases hx : x = 0
      · subst hx
        go_wp2
        go_roundw
        case rel => refine ⟨1, by omega, by go_num, ?_⟩; simp
        case measure => simp [RowKit.intOf]
      · have hx' : (x != 0) = true := by simpa using hx
        go_wp2
        go_ret
        exact ⟨ret1 (vi (by unfold orI; rw [if_neg hx])), rfl⟩
    · have hx := h0 (by omega)
      by_cases hy : y = 0
      · subst hy
        go_wp2
        go_roundw
        case rel => refine ⟨2, by omega, by go_num, ?_⟩; simp [hx]
        case measure => simp [RowKit.intOf]
      · have hy' : (y != 0) = true := by simpa using hy
        go_wp2
        go_ret
        exact ⟨ret1 (vi (by unfold orI; rw [if_pos hx])), rfl⟩
    · have hx := h0 (by omega)
      have hy := h1 (by omega)
      go_wp2
      go_ret
      exact ⟨ret1 (vi (by unfold orI; rw [if_pos hx, hy])), rfl⟩
theorem heap1_drew (w : World) (o : Obj) : (w.alloc o).drew.heap[w.heap.size]? = some o := heap_new w o
theorem heap3_drew (w : World) (o1 o2 o3 : Obj) : (((w.alloc o1).alloc o2).alloc o3).drew.heap[w.heap.size + 1 + 1]? = some o3 := by
  have h := heap_new ((w.alloc o1).alloc o2) o3
  have e : ((w.alloc o1).alloc o2).heap.size = w.heap.size + 1 + 1 := by simp
  rw [e] at h
  exact h
/-- an interval, as a value -/
def Iv.val (x : Iv) : Value := .agg #[.int .i64 x.v, .int .i64 x.f, .int .i64 x.t]
/-- which one ends first: below 0 the one, above 0 the other -/
def cmpEnd (a b : Iv) : Int := orI (cmpI a.t b.t) (cmpI a.v b.v)
def cmpBeg (a b : Iv) : Int := orI (cmpI a.f b.f) (cmpI a.v b.v)
theorem cmpEnd_neg {a b : Iv} : cmpEnd a b < 0 ↔ endLt a b := by
  unfold cmpEnd orI cmpI endLt
  (repeat' split) <;> omega
theorem cmpEnd_pos {a b : Iv} : 0 < cmpEnd a b ↔ endLt b a := by
  unfold cmpEnd orI cmpI endLt
  (repeat' split) <;> omega
theorem cmpBeg_neg {a b : Iv} : cmpBeg a b < 0 ↔ begLt a b := by
  unfold cmpBeg orI cmpI begLt
  (repeat' split) <;> omega
/-- returned, and new memory and draws alone -/
def Grows (v : Value) (w : World) (e : Ending) (w' : World) : Prop := e = .returned v ∧ Gw w w'
set_option maxRecDepth 100000 in
set_option maxHeartbeats 3200000 in
theorem sc_compareEnds (x y : Iv) (w : World) : Calls Try.prog 27 #[x.val, y.val] w (Grows (.int .i64 (cmpEnd x y)) w) := by
  obtain ⟨v1, f1, t1⟩ := x
  obtain ⟨v2, f2, t2⟩ := y
  unfold Iv.val cmpEnd
  simp only
  have HC1 : Hid (∀ W, Calls Try.prog 23 #[.int .i64 t1, .int .i64 t2] W (Gives (.int .i64 (cmpI t1 t2)) W)) := Lib.hid fun W => cmp_Compare t1 t2 W
  have HC2 : Hid (∀ W, Calls Try.prog 23 #[.int .i64 v1, .int .i64 v2] W (Gives (.int .i64 (cmpI v1 v2)) W)) := Lib.hid fun W => cmp_Compare v1 v2 W
  generalize cmpI t1 t2 = a at *
  generalize cmpI v1 v2 = b at *
  go_enter Try.func27, Try.ntmps27
  go_wp2_with fail
  have hmx : Try.prog.follows .mixedOrders = true := by kernel_rfl
  refine Code.wp_mono SNorm.imp (wp_region_held_drew (S := fun w' => w'.cell? ⟨w.heap.size, 0, none⟩ = some (.int .i64 v1) ∧ w'.cell? ⟨w.heap.size, 2, none⟩ = some (.int .i64 t1) ∧ w'.cell? ⟨w.heap.size + 1, 0, none⟩ = some (.int .i64 v2) ∧ w'.cell? ⟨w.heap.size + 1, 2, none⟩ = some (.int .i64 t2)) hmx (by refine ⟨?_, ?_, ?_, ?_⟩ <;> go_simp) (fun hHeld => ?_))
  (refine wpAnyH_take (i := 0) (oi := ⟨some 5, _, _, _, _, _⟩) (v := ?_) rfl (by kernel_rfl) (by kernel_rfl) (by kernel_rfl) (fun _ _ _ h => h) (Or.inl ⟨by rfl, ?_⟩) (by assumption) ?_); rotate_left; focus (intro w hSw; (try dsimp only at hSw); go_split_ands; go_simp; try with_reducible rfl); (try simp only [Act.put, List.setIfInBounds_toArray, List.set_cons_zero, List.set_cons_succ])
  (refine wpAnyH_take (i := 1) (oi := ⟨some 6, _, _, _, _, _⟩) (v := ?_) rfl (by kernel_rfl) (by kernel_rfl) (by kernel_rfl) (fun _ _ _ h => h) (Or.inl ⟨by rfl, ?_⟩) (by assumption) ?_); rotate_left; focus (intro w hSw; (try dsimp only at hSw); go_split_ands; go_simp; try with_reducible rfl); (try simp only [Act.put, List.setIfInBounds_toArray, List.set_cons_zero, List.set_cons_succ])
  (refine wpAnyH_take (i := 2) (oi := ⟨some 7, _, _, _, _, _⟩) (v := ?_) rfl (by kernel_rfl) (by kernel_rfl) (by kernel_rfl) (fun _ _ _ h => h) (Or.inl ⟨by rfl, ?_⟩) (by assumption) ?_); rotate_left; focus (intro w hSw; (try dsimp only at hSw); go_split_ands; go_simp; try with_reducible rfl); (try simp only [Act.put, List.setIfInBounds_toArray, List.set_cons_zero, List.set_cons_succ])
  (refine wpAnyH_take (i := 3) (oi := ⟨some 8, _, _, _, _, _⟩) (v := ?_) rfl (by kernel_rfl) (by kernel_rfl) (by kernel_rfl) (fun _ _ _ h => h) (Or.inl ⟨by rfl, ?_⟩) (by assumption) ?_); rotate_left; focus (intro w hSw; (try dsimp only at hSw); go_split_ands; go_simp; try with_reducible rfl); (try simp only [Act.put, List.setIfInBounds_toArray, List.set_cons_zero, List.set_cons_succ])
  (refine wpAnyH_take (i := 5) (oi := ⟨some 10, _, _, _, _, _⟩) (v := ?_) rfl (by kernel_rfl) (by kernel_rfl) (by kernel_rfl) (fun _ _ _ h => h) (Or.inl ⟨by rfl, ?_⟩) (by assumption) ?_); rotate_left; focus (intro w hSw; (try dsimp only at hSw); go_split_ands; go_simp; try with_reducible rfl); (try simp only [Act.put, List.setIfInBounds_toArray, List.set_cons_zero, List.set_cons_succ])
  (refine wpAnyH_take (i := 6) (oi := ⟨some 11, _, _, _, _, _⟩) (v := ?_) rfl (by kernel_rfl) (by kernel_rfl) (by kernel_rfl) (fun _ _ _ h => h) (Or.inl ⟨by rfl, ?_⟩) (by assumption) ?_); rotate_left; focus (intro w hSw; (try dsimp only at hSw); go_split_ands; go_simp; try with_reducible rfl); (try simp only [Act.put, List.setIfInBounds_toArray, List.set_cons_zero, List.set_cons_succ])
  (refine wpAnyH_take (i := 7) (oi := ⟨some 12, _, _, _, _, _⟩) (v := ?_) rfl (by kernel_rfl) (by kernel_rfl) (by kernel_rfl) (fun _ _ _ h => h) (Or.inl ⟨by rfl, ?_⟩) (by assumption) ?_); rotate_left; focus (intro w hSw; (try dsimp only at hSw); go_split_ands; go_simp; try with_reducible rfl); (try simp only [Act.put, List.setIfInBounds_toArray, List.set_cons_zero, List.set_cons_succ])
  (refine wpAnyH_take (i := 8) (oi := ⟨some 13, _, _, _, _, _⟩) (v := ?_) rfl (by kernel_rfl) (by kernel_rfl) (by kernel_rfl) (fun _ _ _ h => h) (Or.inl ⟨by rfl, ?_⟩) (by assumption) ?_); rotate_left; focus (intro w hSw; (try dsimp only at hSw); go_split_ands; go_simp; try with_reducible rfl); (try simp only [Act.put, List.setIfInBounds_toArray, List.set_cons_zero, List.set_cons_succ])
  (refine wpAnyH_ready (rs := [4]) (by kernel_rfl) (by simp) ?_; refine AllReadyH.cons rfl (fun K hK => ?_) AllReadyH.nil); go_simp
  refine (HC1.out _).mono ?_
  rintro e2 w2 ⟨rfl, rfl⟩
  refine hK.out _ _ hHeld (fun _ => ?_)
  clear hK
  (refine wpAnyH_ready (rs := [9]) (by kernel_rfl) (by simp) ?_; refine AllReadyH.cons rfl (fun K hK => ?_) AllReadyH.nil); go_simp
  refine (HC2.out _).mono ?_
  rintro e2 w2 ⟨rfl, rfl⟩
  refine hK.out _ _ hHeld (fun _ => ?_)
  clear hK
  (refine wpAnyH_ready (rs := [10]) (by kernel_rfl) (by simp) ?_; refine AllReadyH.cons rfl (fun K hK => ?_) AllReadyH.nil); go_simp
  refine hK.out _ _ ⟨((Fr.refl [] _).alloc _).cell (by simp) hHeld.1, ((Fr.refl [] _).alloc _).cell (by simp) hHeld.2.1, ((Fr.refl [] _).alloc _).cell (by simp) hHeld.2.2.1, ((Fr.refl [] _).alloc _).cell (by simp) hHeld.2.2.2⟩ (fun hHeld3 => ?_)
  clear hK
  (refine wpAnyH_ready (rs := [11]) (by kernel_rfl) (by simp) ?_; refine AllReadyH.cons rfl (fun K hK => ?_) AllReadyH.nil); go_simp
  refine (cmp_Or _ _ a b _ (cell_of_heap (o := 0) (heap3_drew _ _ _ _) rfl) (cell_of_heap (o := 1) (heap3_drew _ _ _ _) rfl)).mono ?_
  rintro e2 w2 ⟨rfl, rfl⟩
  refine hK.out _ _ hHeld3 (fun hHeld4 => ?_)
  clear hK
  (refine wpAnyH_take (i := 12) (oi := ⟨some 4, _, _, _, _, _⟩) (v := ?_) rfl (by kernel_rfl) (by kernel_rfl) (by kernel_rfl) (fun _ _ _ h => h) (Or.inl ⟨by rfl, ?_⟩) (by assumption) ?_); rotate_left; focus (intro w hSw; (try dsimp only at hSw); go_split_ands; go_simp; try with_reducible rfl); (try simp only [Act.put, List.setIfInBounds_toArray, List.set_cons_zero, List.set_cons_succ])
  refine wpAnyH_done (by kernel_rfl) (SNorm.mk ?_) _
  simp only [Act.put, List.setIfInBounds_toArray, List.set_cons_zero, List.set_cons_succ]
  go_wp2
  go_ret
  exact ⟨rfl, by (repeat (first | (with_reducible refine Gw.alloc ?_ _) | (with_reducible refine Gw.drew ?_) | (with_reducible refine Gw.drewN ?_ _) | (with_reducible exact Gw.refl _)))⟩
end Go.Proofs.Ytomcfjckhajhmaa
