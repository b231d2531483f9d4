/- step: further cases. step: Load. What a list of objects, or of operations, that came in holds: its numbers, where they lie, how long it may be. step, whatever the operation; made. A list of operations that came in, read. made: a heap that a script was done to. -/
import Derived.Test.YtjnccpeeeiafjaaGreatDoorMSteps
import Derived.Test.YtjnccpeeeiafjaaGreatDoorMRLoads
import Derived.Test.YtjnccpeeeiafjaaGreatDoorMRanges
import Derived.Deep.Slices
import Derived.Deep.Fields
import Derived.ChangeSame
import Derived.SizedLaws
namespace Go.Proofs.YtjnccpeeeiafjaaGreatDoor
open Go.RowKit
section
variable {w0 W : World} {X : List (Nat × Obj)} {hb mb rb : Nat} {lim root hashes : Int} {os : List Ob} {l : List RO}
set_option maxRecDepth 100000 in
set_option maxHeartbeats 4000000 in
theorem step_11 (hg : Glob w0) (hI : OInv lim os hashes) (ha : RAgree 1 l os) (hT : Two w0 X hb mb rb (absMem lim os root hashes) ⟨lim, l, root, hashes⟩ W)
    (what V Wd I J N : Int) (hV : WB V) (hW : WB Wd) (i1 : -9223372036854775808 ≤ I) (i2 : I ≤ 9223372036854775807) (j1 : -9223372036854775808 ≤ J) (j2 : J ≤ 9223372036854775807) (n1 : -9223372036854775808 ≤ N) (n2 : N ≤ 9223372036854775807) (lo : Option Addr) (ln lc : Nat) (hw : bits .and .i64 what 15 = 11) :
    Calls Tryz.prog 13 #[.pointer (some ⟨hb, 0, none⟩), .pointer (some ⟨rb, 0, none⟩), .agg (opCells what V Wd I J N lo ln lc)] W (Steps2 w0 X hb mb rb lim) := by
  have hobs := objs2 (hT.keep (.cells (opCells what V Wd I J N lo ln lc) 36))
  have HMV : Hid (∀ x y, WB x → WB y → Moves IsInt1 w0 hb mb rb lim os l root hashes 18 52 [.int .u64 x, .int .i64 N, .int .u64 y]) := Lib.hid fun x y hx hy => moves_store hg hI ha x N y hx.1 hx.2 n1 n2 hy.1 hy.2
  clear hI ha hg hT
  unfold opCells at *
  go_enter Tryz.func13, Tryz.ntmps13
  go_wp2_with (first
    | (go_at_call 42; refine hobs.mono ?_; rintro e w1 ⟨ao, cap, rfl, hwd, hwb, hlen, hT2⟩; have hk := hT2.kept (List.mem_cons_self ..); have q0 := cell_of_heap (o := 0) hk rfl; have q1 := cell_of_heap (o := 1) hk rfl; have q2 := cell_of_heap (o := 2) hk rfl; have q3 := cell_of_heap (o := 3) hk rfl; have q4 := cell_of_heap (o := 4) hk rfl; have q5 := cell_of_heap (o := 5) hk rfl; have hc1 := chosen_gives (cap := cap) (refsI l) hwd hlen V I i1 i2; have hc2 := chosen_gives (cap := cap) (refsI l) hwd hlen Wd J j1 j2; have hx := chosen_WB (i := I) hwb hV; have hy := chosen_WB (i := J) hwb hW; generalize chosenI (refsI l) V I = x at *; generalize chosenI (refsI l) Wd J = y at *; have HMM := HMV.out x y hx hy; obtain ⟨v, os', root', hashes', ⟨a1, rfl⟩, hI', m1, m2⟩ := HMM; have HII := Lib.hid hI'; have HM2 := Lib.hid m2; have hm1d := Lib.hid (m1 _ _ (hT2.still ((Fr.refl _ _).drew))); generalize (refsI l).length = len at *; clear hobs hT2 hk hwd hwb hlen m1 m2 hI' HMV)
    | (go_at_call_of 43 (Value.int .u64 V); refine hc1.mono ?_; rintro e w' ⟨rfl, rfl⟩)
    | (go_at_call_of 43 (Value.int .u64 Wd); refine hc2.mono ?_; rintro e w' ⟨rfl, rfl⟩))
  have hmx : Tryz.prog.follows .mixedOrders = true := by kernel_rfl
  refine Code.wp_mono Norm.imp (wp_region_held_drew (S := fun w' => w'.cell? ⟨W.heap.size, 5, none⟩ = some (.int .i64 N)) hmx q5 (fun hHeld => ?_))
  (refine wpAnyH_take (i := 0) (oi := ⟨some 187, _, _, _, _, _⟩) (v := ?_) rfl (by kernel_rfl) (by kernel_rfl) (by kernel_rfl) (fun _ _ _ h => h) (Or.inl ⟨by rfl, ?_⟩) (by assumption) ?_); rotate_left; focus (intro w hSw; (try dsimp only at hSw); go_split_ands; go_simp; try with_reducible rfl); (try simp only [Act.put, List.setIfInBounds_toArray, List.set_cons_zero, List.set_cons_succ])
  (refine wpAnyH_take (i := 1) (oi := ⟨some 188, _, _, _, _, _⟩) (v := ?_) rfl (by kernel_rfl) (by kernel_rfl) (by kernel_rfl) (fun _ _ _ h => h) (Or.inl ⟨by rfl, ?_⟩) (by assumption) ?_); rotate_left; focus (intro w hSw; (try dsimp only at hSw); go_split_ands; go_simp; try with_reducible rfl); (try simp only [Act.put, List.setIfInBounds_toArray, List.set_cons_zero, List.set_cons_succ])
  (refine wpAnyH_take (i := 2) (oi := ⟨some 189, _, _, _, _, _⟩) (v := ?_) rfl (by kernel_rfl) (by kernel_rfl) (by kernel_rfl) (fun _ _ _ h => h) (Or.inl ⟨by rfl, ?_⟩) (by assumption) ?_); rotate_left; focus (intro w hSw; (try dsimp only at hSw); go_split_ands; go_simp; try with_reducible rfl); (try simp only [Act.put, List.setIfInBounds_toArray, List.set_cons_zero, List.set_cons_succ])
  (refine wpAnyH_take (i := 3) (oi := ⟨some 190, _, _, _, _, _⟩) (v := ?_) rfl (by kernel_rfl) (by kernel_rfl) (by kernel_rfl) (fun _ _ _ h => h) (Or.inl ⟨by rfl, ?_⟩) (by assumption) ?_); rotate_left; focus (intro w hSw; (try dsimp only at hSw); go_split_ands; go_simp; try with_reducible rfl); (try simp only [Act.put, List.setIfInBounds_toArray, List.set_cons_zero, List.set_cons_succ])
  (refine wpAnyH_take (i := 4) (oi := ⟨some 191, _, _, _, _, _⟩) (v := ?_) rfl (by kernel_rfl) (by kernel_rfl) (by kernel_rfl) (fun _ _ _ h => h) (Or.inl ⟨by rfl, ?_⟩) (by assumption) ?_); rotate_left; focus (intro w hSw; (try dsimp only at hSw); go_split_ands; go_simp; try with_reducible rfl); (try simp only [Act.put, List.setIfInBounds_toArray, List.set_cons_zero, List.set_cons_succ])
  (refine wpAnyH_take (i := 6) (oi := ⟨some 193, _, _, _, _, _⟩) (v := ?_) rfl (by kernel_rfl) (by kernel_rfl) (by kernel_rfl) (fun _ _ _ h => h) (Or.inl ⟨by rfl, ?_⟩) (by assumption) ?_); rotate_left; focus (intro w hSw; (try dsimp only at hSw); go_split_ands; go_simp; try with_reducible rfl); (try simp only [Act.put, List.setIfInBounds_toArray, List.set_cons_zero, List.set_cons_succ])
  (refine wpAnyH_take (i := 7) (oi := ⟨some 194, _, _, _, _, _⟩) (v := ?_) rfl (by kernel_rfl) (by kernel_rfl) (by kernel_rfl) (fun _ _ _ h => h) (Or.inl ⟨by rfl, ?_⟩) (by assumption) ?_); rotate_left; focus (intro w hSw; (try dsimp only at hSw); go_split_ands; go_simp; try with_reducible rfl); (try simp only [Act.put, List.setIfInBounds_toArray, List.set_cons_zero, List.set_cons_succ])
  (refine wpAnyH_take (i := 8) (oi := ⟨some 195, _, _, _, _, _⟩) (v := ?_) rfl (by kernel_rfl) (by kernel_rfl) (by kernel_rfl) (fun _ _ _ h => h) (Or.inl ⟨by rfl, ?_⟩) (by assumption) ?_); rotate_left; focus (intro w hSw; (try dsimp only at hSw); go_split_ands; go_simp; try with_reducible rfl); (try simp only [Act.put, List.setIfInBounds_toArray, List.set_cons_zero, List.set_cons_succ])
  (refine wpAnyH_take (i := 9) (oi := ⟨some 196, _, _, _, _, _⟩) (v := ?_) rfl (by kernel_rfl) (by kernel_rfl) (by kernel_rfl) (fun _ _ _ h => h) (Or.inl ⟨by rfl, ?_⟩) (by assumption) ?_); rotate_left; focus (intro w hSw; (try dsimp only at hSw); go_split_ands; go_simp; try with_reducible rfl); (try simp only [Act.put, List.setIfInBounds_toArray, List.set_cons_zero, List.set_cons_succ])
  (refine wpAnyH_take (i := 10) (oi := ⟨some 197, _, _, _, _, _⟩) (v := ?_) rfl (by kernel_rfl) (by kernel_rfl) (by kernel_rfl) (fun _ _ _ h => h) (Or.inl ⟨by rfl, ?_⟩) (by assumption) ?_); rotate_left; focus (intro w hSw; (try dsimp only at hSw); go_split_ands; go_simp; try with_reducible rfl); (try simp only [Act.put, List.setIfInBounds_toArray, List.set_cons_zero, List.set_cons_succ])
  (refine wpAnyH_ready (rs := [5]) (by kernel_rfl) (by simp) ?_; refine AllReadyH.cons rfl (fun K hK => ?_) AllReadyH.nil); go_simp
  refine (hm1d.out).mono ?_
  rintro e w2 ⟨rfl, hT3⟩
  have hk := hT3.kept (List.mem_cons_self ..)
  have p5 := cell_of_heap (o := 5) hk rfl
  have hm2 := HM2.out _ _ hT3
  clear hT3 hk
  refine hK.out _ _ p5 (fun hHeld2 => ?_)
  clear hK
  (refine wpAnyH_ready (rs := [11]) (by kernel_rfl) (by simp) ?_; refine AllReadyH.cons rfl (fun K hK => ?_) AllReadyH.nil); go_simp
  refine hm2.mono ?_
  rintro e w3 ⟨rfl, l', ha', hT4⟩
  have hk4 := hT4.kept (List.mem_cons_self ..)
  have p54 := cell_of_heap (o := 5) hk4 rfl
  have HT4 := Lib.hid hT4.less
  have HA4 := Lib.hid ha'
  clear hT4 ha' hk4
  refine hK.out _ _ p54 (fun hHeld3 => ?_)
  clear hK
  (refine wpAnyH_take (i := 12) (oi := ⟨some 199, _, _, _, _, _⟩) (v := ?_) rfl (by kernel_rfl) (by kernel_rfl) (by kernel_rfl) (fun _ _ _ h => h) (Or.inl ⟨by rfl, ?_⟩) (by assumption) ?_); rotate_left; focus (intro w hSw; (try dsimp only at hSw); go_split_ands; go_simp; try with_reducible rfl); (try simp only [Act.put, List.setIfInBounds_toArray, List.set_cons_zero, List.set_cons_succ])
  (refine wpAnyH_take (i := 13) (oi := ⟨some 6, _, _, _, _, _⟩) (v := ?_) rfl (by kernel_rfl) (by kernel_rfl) (by kernel_rfl) (fun _ _ _ h => h) (Or.inl ⟨by rfl, ?_⟩) (by assumption) ?_); rotate_left; focus (intro w hSw; (try dsimp only at hSw); go_split_ands; go_simp; try with_reducible rfl); (try simp only [Act.put, List.setIfInBounds_toArray, List.set_cons_zero, List.set_cons_succ])
  refine wpAnyH_done (by kernel_rfl) (Norm.mk ?_) _
  go_wp2
  go_ret
  exact ⟨ret1 (vb (by simp)), os', l', root', hashes', HII.out, HA4.out, HT4.out⟩
set_option maxRecDepth 100000 in
set_option maxHeartbeats 4000000 in
theorem step_12 (hg : Glob w0) (hI : OInv lim os hashes) (ha : RAgree 1 l os) (hT : Two w0 X hb mb rb (absMem lim os root hashes) ⟨lim, l, root, hashes⟩ W)
    (what V Wd I J N : Int) (hV : WB V) (hW : WB Wd) (i1 : -9223372036854775808 ≤ I) (i2 : I ≤ 9223372036854775807) (j1 : -9223372036854775808 ≤ J) (j2 : J ≤ 9223372036854775807) (n1 : -9223372036854775808 ≤ N) (n2 : N ≤ 9223372036854775807) (lo : Option Addr) (ln lc : Nat) (hw : bits .and .i64 what 15 = 12) :
    Calls Tryz.prog 13 #[.pointer (some ⟨hb, 0, none⟩), .pointer (some ⟨rb, 0, none⟩), .agg (opCells what V Wd I J N lo ln lc)] W (Steps2 w0 X hb mb rb lim) := by
  have hobs := objs2 (hT.keep (.cells (opCells what V Wd I J N lo ln lc) 36))
  have HMV : Hid (∀ x y, WB x → WB y → Moves IsInt1 w0 hb mb rb lim os l root hashes 18 52 [.int .u64 x, .int .i64 N, .int .u64 y]) := Lib.hid fun x y hx hy => moves_store hg hI ha x N y hx.1 hx.2 n1 n2 hy.1 hy.2
  clear hI ha hg hT
  unfold opCells at *
  go_enter Tryz.func13, Tryz.ntmps13
  go_wp2_with (first
    | (go_at_call 42; refine hobs.mono ?_; rintro e w1 ⟨ao, cap, rfl, hwd, hwb, hlen, hT2⟩; have hk := hT2.kept (List.mem_cons_self ..); have q0 := cell_of_heap (o := 0) hk rfl; have q1 := cell_of_heap (o := 1) hk rfl; have q2 := cell_of_heap (o := 2) hk rfl; have q3 := cell_of_heap (o := 3) hk rfl; have q4 := cell_of_heap (o := 4) hk rfl; have q5 := cell_of_heap (o := 5) hk rfl; have hc1 := chosen_gives (cap := cap) (refsI l) hwd hlen V I i1 i2; have hc2 := chosen_gives (cap := cap) (refsI l) hwd hlen Wd J j1 j2; have hx := chosen_WB (i := I) hwb hV; have hy := chosen_WB (i := J) hwb hW; generalize chosenI (refsI l) V I = x at *; generalize chosenI (refsI l) Wd J = y at *; have HMM := HMV.out x y hx hy; obtain ⟨v, os', root', hashes', ⟨a1, rfl⟩, hI', m1, m2⟩ := HMM; have HII := Lib.hid hI'; have HM2 := Lib.hid m2; have hm1d := Lib.hid (m1 _ _ (hT2.still ((Fr.refl _ _).drew))); generalize (refsI l).length = len at *; clear hobs hT2 hk hwd hwb hlen m1 m2 hI' HMV)
    | (go_at_call_of 43 (Value.int .u64 V); refine hc1.mono ?_; rintro e w' ⟨rfl, rfl⟩)
    | (go_at_call_of 43 (Value.int .u64 Wd); refine hc2.mono ?_; rintro e w' ⟨rfl, rfl⟩))
  have hmx : Tryz.prog.follows .mixedOrders = true := by kernel_rfl
  refine Code.wp_mono Norm.imp (wp_region_held_drew (S := fun w' => w'.cell? ⟨W.heap.size, 5, none⟩ = some (.int .i64 N)) hmx q5 (fun hHeld => ?_))
  (refine wpAnyH_take (i := 0) (oi := ⟨some 187, _, _, _, _, _⟩) (v := ?_) rfl (by kernel_rfl) (by kernel_rfl) (by kernel_rfl) (fun _ _ _ h => h) (Or.inl ⟨by rfl, ?_⟩) (by assumption) ?_); rotate_left; focus (intro w hSw; (try dsimp only at hSw); go_split_ands; go_simp; try with_reducible rfl); (try simp only [Act.put, List.setIfInBounds_toArray, List.set_cons_zero, List.set_cons_succ])
  (refine wpAnyH_take (i := 1) (oi := ⟨some 188, _, _, _, _, _⟩) (v := ?_) rfl (by kernel_rfl) (by kernel_rfl) (by kernel_rfl) (fun _ _ _ h => h) (Or.inl ⟨by rfl, ?_⟩) (by assumption) ?_); rotate_left; focus (intro w hSw; (try dsimp only at hSw); go_split_ands; go_simp; try with_reducible rfl); (try simp only [Act.put, List.setIfInBounds_toArray, List.set_cons_zero, List.set_cons_succ])
  (refine wpAnyH_take (i := 2) (oi := ⟨some 189, _, _, _, _, _⟩) (v := ?_) rfl (by kernel_rfl) (by kernel_rfl) (by kernel_rfl) (fun _ _ _ h => h) (Or.inl ⟨by rfl, ?_⟩) (by assumption) ?_); rotate_left; focus (intro w hSw; (try dsimp only at hSw); go_split_ands; go_simp; try with_reducible rfl); (try simp only [Act.put, List.setIfInBounds_toArray, List.set_cons_zero, List.set_cons_succ])
  (refine wpAnyH_take (i := 3) (oi := ⟨some 190, _, _, _, _, _⟩) (v := ?_) rfl (by kernel_rfl) (by kernel_rfl) (by kernel_rfl) (fun _ _ _ h => h) (Or.inl ⟨by rfl, ?_⟩) (by assumption) ?_); rotate_left; focus (intro w hSw; (try dsimp only at hSw); go_split_ands; go_simp; try with_reducible rfl); (try simp only [Act.put, List.setIfInBounds_toArray, List.set_cons_zero, List.set_cons_succ])
  (refine wpAnyH_take (i := 4) (oi := ⟨some 191, _, _, _, _, _⟩) (v := ?_) rfl (by kernel_rfl) (by kernel_rfl) (by kernel_rfl) (fun _ _ _ h => h) (Or.inl ⟨by rfl, ?_⟩) (by assumption) ?_); rotate_left; focus (intro w hSw; (try dsimp only at hSw); go_split_ands; go_simp; try with_reducible rfl); (try simp only [Act.put, List.setIfInBounds_toArray, List.set_cons_zero, List.set_cons_succ])
  (refine wpAnyH_take (i := 6) (oi := ⟨some 193, _, _, _, _, _⟩) (v := ?_) rfl (by kernel_rfl) (by kernel_rfl) (by kernel_rfl) (fun _ _ _ h => h) (Or.inl ⟨by rfl, ?_⟩) (by assumption) ?_); rotate_left; focus (intro w hSw; (try dsimp only at hSw); go_split_ands; go_simp; try with_reducible rfl); (try simp only [Act.put, List.setIfInBounds_toArray, List.set_cons_zero, List.set_cons_succ])
  (refine wpAnyH_take (i := 7) (oi := ⟨some 194, _, _, _, _, _⟩) (v := ?_) rfl (by kernel_rfl) (by kernel_rfl) (by kernel_rfl) (fun _ _ _ h => h) (Or.inl ⟨by rfl, ?_⟩) (by assumption) ?_); rotate_left; focus (intro w hSw; (try dsimp only at hSw); go_split_ands; go_simp; try with_reducible rfl); (try simp only [Act.put, List.setIfInBounds_toArray, List.set_cons_zero, List.set_cons_succ])
  (refine wpAnyH_take (i := 8) (oi := ⟨some 195, _, _, _, _, _⟩) (v := ?_) rfl (by kernel_rfl) (by kernel_rfl) (by kernel_rfl) (fun _ _ _ h => h) (Or.inl ⟨by rfl, ?_⟩) (by assumption) ?_); rotate_left; focus (intro w hSw; (try dsimp only at hSw); go_split_ands; go_simp; try with_reducible rfl); (try simp only [Act.put, List.setIfInBounds_toArray, List.set_cons_zero, List.set_cons_succ])
  (refine wpAnyH_take (i := 9) (oi := ⟨some 196, _, _, _, _, _⟩) (v := ?_) rfl (by kernel_rfl) (by kernel_rfl) (by kernel_rfl) (fun _ _ _ h => h) (Or.inl ⟨by rfl, ?_⟩) (by assumption) ?_); rotate_left; focus (intro w hSw; (try dsimp only at hSw); go_split_ands; go_simp; try with_reducible rfl); (try simp only [Act.put, List.setIfInBounds_toArray, List.set_cons_zero, List.set_cons_succ])
  (refine wpAnyH_take (i := 10) (oi := ⟨some 197, _, _, _, _, _⟩) (v := ?_) rfl (by kernel_rfl) (by kernel_rfl) (by kernel_rfl) (fun _ _ _ h => h) (Or.inl ⟨by rfl, ?_⟩) (by assumption) ?_); rotate_left; focus (intro w hSw; (try dsimp only at hSw); go_split_ands; go_simp; try with_reducible rfl); (try simp only [Act.put, List.setIfInBounds_toArray, List.set_cons_zero, List.set_cons_succ])
  (refine wpAnyH_ready (rs := [5]) (by kernel_rfl) (by simp) ?_; refine AllReadyH.cons rfl (fun K hK => ?_) AllReadyH.nil); go_simp
  refine (hm1d.out).mono ?_
  rintro e w2 ⟨rfl, hT3⟩
  have hk := hT3.kept (List.mem_cons_self ..)
  have p5 := cell_of_heap (o := 5) hk rfl
  have hm2 := HM2.out _ _ hT3
  clear hT3 hk
  refine hK.out _ _ p5 (fun hHeld2 => ?_)
  clear hK
  (refine wpAnyH_ready (rs := [11]) (by kernel_rfl) (by simp) ?_; refine AllReadyH.cons rfl (fun K hK => ?_) AllReadyH.nil); go_simp
  refine hm2.mono ?_
  rintro e w3 ⟨rfl, l', ha', hT4⟩
  have hk4 := hT4.kept (List.mem_cons_self ..)
  have p54 := cell_of_heap (o := 5) hk4 rfl
  have HT4 := Lib.hid hT4.less
  have HA4 := Lib.hid ha'
  clear hT4 ha' hk4
  refine hK.out _ _ p54 (fun hHeld3 => ?_)
  clear hK
  (refine wpAnyH_take (i := 12) (oi := ⟨some 199, _, _, _, _, _⟩) (v := ?_) rfl (by kernel_rfl) (by kernel_rfl) (by kernel_rfl) (fun _ _ _ h => h) (Or.inl ⟨by rfl, ?_⟩) (by assumption) ?_); rotate_left; focus (intro w hSw; (try dsimp only at hSw); go_split_ands; go_simp; try with_reducible rfl); (try simp only [Act.put, List.setIfInBounds_toArray, List.set_cons_zero, List.set_cons_succ])
  (refine wpAnyH_take (i := 13) (oi := ⟨some 6, _, _, _, _, _⟩) (v := ?_) rfl (by kernel_rfl) (by kernel_rfl) (by kernel_rfl) (fun _ _ _ h => h) (Or.inl ⟨by rfl, ?_⟩) (by assumption) ?_); rotate_left; focus (intro w hSw; (try dsimp only at hSw); go_split_ands; go_simp; try with_reducible rfl); (try simp only [Act.put, List.setIfInBounds_toArray, List.set_cons_zero, List.set_cons_succ])
  refine wpAnyH_done (by kernel_rfl) (Norm.mk ?_) _
  go_wp2
  go_ret
  exact ⟨ret1 (vb (by simp)), os', l', root', hashes', HII.out, HA4.out, HT4.out⟩
end
end Go.Proofs.YtjnccpeeeiafjaaGreatDoor
namespace Go.Proofs.YtjnccpeeeiafjaaGreatDoor
open Go.RowKit

theorem row_rowAt {W : World} {b size : Nat} {e : TypeId} {ao : Option Addr} {n cap : Nat} {xs : List Value} (h : W.ownsRow b e size (.slice ao n cap) n xs) : RowAt W ao xs := by
  intro j u hu
  have hj : j < xs.length := (List.getElem?_eq_some_iff.1 hu).1
  rcases h.2 with ⟨h0, hn⟩ | ⟨g, cp, cur, hv, rest⟩
  · have := h.1
    rw [hn] at this
    simp at this
    subst this
    simp at hj
  · cases hv
    have := h.cellAt j (by have := h.1; omega)
    refine ⟨g, 0, rfl, ?_⟩
    rw [Nat.zero_add]
    exact this.trans hu
section
variable {w0 W : World} {X : List (Nat × Obj)} {hb mb rb : Nat} {lim root hashes : Int} {os : List Ob} {l : List RO}
/-- the document's Dump, of which both heaps know nothing -/
theorem dump2 (hT : Two w0 X hb mb rb (absMem lim os root hashes) ⟨lim, l, root, hashes⟩ W) : Calls Tryz.prog 33 #[.pointer (some ⟨rb, 0, none⟩)] W fun e W2 => ∃ ka kc kts, e = .returned (.slice ka kts.length kc) ∧ G4 W2 ka kts ∧ (OInv lim os hashes → RAgree 1 l os → B4 kts) ∧ (∀ a, ka = some a → W.heap.size ≤ a.block) ∧ (∀ o ∈ kts, ∀ fa n fc, o.1.fv = .slice (some fa) n fc → W.heap.size ≤ fa.block) ∧ Fr [] W W2 := by
  obtain ⟨wv, sv, lv, -, -, hR, -⟩ := hT
  refine (rdump hR).mono ?_
  rintro e W2 ⟨v, its, rfl, hD⟩
  have hr := hD.gr.row
  have hlen : l.length = its.length := by
    have := congrArg List.length hD.keys
    simpa [keys4, keysR] using this.symm
  have hr' : W2.ownsRow 0 57 4 v its.length (flat4 its) := by rw [← hlen]; exact hr
  obtain ⟨ka, kc, rfl⟩ := row_shape' hr'
  have own : ∀ o ∈ its, ∀ fa n fc, o.1.fv = .slice (some fa) n fc → o.1.fv.ownBlock = some fa.block := by
    intro o ho fa n fc hv
    rcases (hD.own o ho).1.2 with ⟨h0, -⟩ | ⟨g, cap, cur, h0, -⟩
    · rw [hv] at h0; cases h0
    · rw [hv] at h0
      cases h0
      rw [hv]
      rfl
  refine ⟨ka, kc, its, rfl, ⟨row_rowAt hr', fun o ho => (hD.own o ho).ok, fun o ho => (hD.own o ho).inn⟩, fun hI ha => ?_, fun a ha => ?_, fun o ho fa n fc hv => hD.fresh o ho _ (own o ho fa n fc hv), hD.gr.fr⟩
  · have hob : ∀ o ∈ its, o.1.key ∈ os := by
      intro o ho
      have hm : (o.1.key, o.2) ∈ keysR l := by rw [← hD.keys]; exact List.mem_map_of_mem ho
      obtain ⟨p, hp, he⟩ := List.mem_map.1 hm
      rw [← ROB ha]
      exact List.mem_map.2 ⟨p, hp, (Prod.mk.inj he).1⟩
    refine ⟨?_, fun o ho => ?_, fun o ho => ?_, fun o ho => hI.bd _ (hob o ho)⟩
    · rw [← hlen]; have := hR.most; simp only at this; omega
    · have := (hD.own o ho).2; omega
    · have h1 := hI.each _ (hob o ho)
      have h2 := hI.h1
      simp only [It.key] at h1
      omega
  · subst ha
    refine hD.gr.new a.block ?_
    rcases hr'.2 with ⟨h0, -⟩ | ⟨g, cap, cur, h0, -⟩
    · cases h0
    · cases h0; rfl
set_option maxRecDepth 100000 in
set_option maxHeartbeats 8000000 in
theorem step_14 (hg : Glob w0) (hI : OInv lim os hashes) (ha : RAgree 1 l os) (hT : Two w0 X hb mb rb (absMem lim os root hashes) ⟨lim, l, root, hashes⟩ W)
    (what V Wd I J N : Int) (hV : WB V) (hW : WB Wd) (i1 : -9223372036854775808 ≤ I) (i2 : I ≤ 9223372036854775807) (j1 : -9223372036854775808 ≤ J) (j2 : J ≤ 9223372036854775807) (n1 : -9223372036854775808 ≤ N) (n2 : N ≤ 9223372036854775807) (lo : Option Addr) (lc : Nat) (its : List (It × Int)) (hG : G4 w0 lo its) (hB : B4 its) (hlo : its ≠ [] → ∀ a, lo = some a → a.block < w0.heap.size) (hfl : ∀ o ∈ its, ∀ fa n fc, o.1.fv = .slice (some fa) n fc → 0 < n → fa.block < w0.heap.size) (hw : bits .and .i64 what 15 = 14) :
    Calls Tryz.prog 13 #[.pointer (some ⟨hb, 0, none⟩), .pointer (some ⟨rb, 0, none⟩), .agg (opCells what V Wd I J N lo its.length lc)] W (Steps2 w0 X hb mb rb lim) := by
  have hobs := objs2 (hT.keep (.cells (opCells what V Wd I J N lo its.length lc) 36))
  have HG := Lib.hid hg
  have HI := Lib.hid hI
  have HA := Lib.hid ha
  have HT0 := Lib.hid hT
  have HG4 := Lib.hid hG
  have HB4 := Lib.hid hB
  have HLO := Lib.hid hlo
  have HFL := Lib.hid hfl
  obtain ⟨ln, hln⟩ : ∃ ln, ln = its.length := ⟨_, rfl⟩
  rw [← hln] at hobs ⊢
  have HLN := Lib.hid hln
  clear hI ha hg hT hG hB hlo hfl hln
  unfold opCells at *
  by_cases hJ : 0 < J
  · go_enter Tryz.func13, Tryz.ntmps13
    go_wp2_with (first
      | (go_at_call 42; refine hobs.mono ?_; rintro e w1 ⟨ao, cap, rfl, hwd, hwb, hlen, hT2⟩; have hk := hT2.kept (List.mem_cons_self ..); have q0 := cell_of_heap (o := 0) hk rfl; have q1 := cell_of_heap (o := 1) hk rfl; have q2 := cell_of_heap (o := 2) hk rfl; have q3 := cell_of_heap (o := 3) hk rfl; have q4 := cell_of_heap (o := 4) hk rfl; have q5 := cell_of_heap (o := 5) hk rfl; have q6 := cell_of_heap (o := 6) hk rfl; have hc1 := chosen_gives (cap := cap) (refsI l) hwd hlen V I i1 i2; have hc2 := chosen_gives (cap := cap) (refsI l) hwd hlen Wd J j1 j2; have hx := chosen_WB (i := I) hwb hV; have hy := chosen_WB (i := J) hwb hW; generalize chosenI (refsI l) V I = x at *; generalize chosenI (refsI l) Wd J = y at *; have HT2 := Lib.hid hT2; have hdm := dump2 hT2; generalize (refsI l).length = len at *; clear hobs hT2 hk hwd hwb hlen)
      | (go_at_call_of 43 (Value.int .u64 V); refine hc1.mono ?_; rintro e w' ⟨rfl, rfl⟩)
      | (go_at_call_of 43 (Value.int .u64 Wd); refine hc2.mono ?_; rintro e w' ⟨rfl, rfl⟩)
      | (go_at_call 33; refine hdm.mono ?_; rintro e wk ⟨ka, kc, kts, rfl, hkg, hkb, hka, hkf, hFk⟩; have r5 : wk.cell? ⟨W.heap.size, 5, none⟩ = some (.int .i64 N) := hFk.cell (by simp) q5; have HTK := Lib.hid (HT2.out.still hFk); have HKG0 := Lib.hid hkg; have HKB := Lib.hid (hkb HI.out HA.out); have HKA := Lib.hid hka; have HKF := Lib.hid hkf; have HFK := Lib.hid hFk; clear hkg hkb hka hkf hFk hdm))
    have HKG : Hid (∀ W', Fr [] wk W' → G4 W' ka kts) := Lib.hid fun W' hF => HKG0.out.fr0 hF
    have HKK : Hid (∀ W3, Fr [] wk W3 → ∀ wv sv W', HeapAt W3 hb mb (absMem lim os root hashes) wv sv → (∀ k ∈ foot mb wv sv, w0.heap.size ≤ k) → Fr (foot mb wv sv) W3 W' → G4 W' ka kts) := by
      refine Lib.hid fun W3 hF3 wv sv W' hHA h2 hF => ?_
      obtain ⟨wv1, sv1, -, -, hH1, -⟩ := HT2.out
      have hF13 : Fr [] w1 W3 := HFK.out.trans hF3
      have hM3 := hF13.heap (by simp) hH1.mem.mem
      have he := hM3.symm.trans hHA.mem.mem
      simp only [Option.some.injEq, Obj.cells.injEq, Array.mk.injEq, List.cons.injEq, and_true, true_and] at he
      obtain ⟨rfl, rfl⟩ : wv1 = wv ∧ sv1 = sv := ⟨he.1, he.2⟩
      have hlt : ∀ q, w1.heap.size ≤ q → q ∉ foot mb wv1 sv1 := fun q hq hk => by have := hH1.mem.lt q hk; omega
      exact (HKG0.out.fr0 hF3).fr hF (fun _ a ha => hlt _ (HKA.out a ha)) (fun o ho fa n fc hv _ => hlt _ (HKF.out o ho fa n fc hv))
    have hmx : Tryz.prog.follows .mixedOrders = true := by kernel_rfl
    obtain ⟨os', root', hs', hOL, hML⟩ := OLoad.ex lim os root hashes (obsOf (kts.map Prod.fst)) x N
    have HML := Lib.hid hML
    have HOL := Lib.hid hOL
    have HNI := Lib.hid (hOL.inv HI.out (fun o ho => by obtain ⟨a, ha, rfl⟩ := List.mem_map.1 ho; obtain ⟨b, hb, rfl⟩ := List.mem_map.1 ha; exact HKB.out.words b hb))
    obtain ⟨kn, hkn⟩ : ∃ kn, kn = kts.length := ⟨_, rfl⟩
    have hmi := fun W' hW' => mine (w := W') (ao := ka) (cap := kc) kts (HKG.out W' hW').row (fun o ho => by obtain ⟨fa, fc, e, -⟩ := (HKG.out W' hW').ok o ho; exact ⟨fa, _, fc, e⟩) HKB.out.len
    rw [← hkn] at hmi
    have HMI := Lib.hid hmi
    have HKN := Lib.hid hkn
    clear hOL hML hmi
    rw [← hkn]
    clear hkn
    go_wp2_with fail
    refine Code.wp_mono Norm.imp (wp_region_held_drew (S := fun w' => w'.cell? ⟨W.heap.size, 5, none⟩ = some (.int .i64 N)) hmx r5 (fun hHeld => ?_))
    (refine wpAnyH_take (i := 0) (oi := ⟨some 218, _, _, _, _, _⟩) (v := ?_) rfl (by kernel_rfl) (by kernel_rfl) (by kernel_rfl) (fun _ _ _ h => h) (Or.inl ⟨by rfl, ?_⟩) (by assumption) ?_); rotate_left; focus (intro w hSw; (try dsimp only at hSw); go_split_ands; go_simp; try with_reducible rfl); (try simp only [Act.put, List.setIfInBounds_toArray, List.set_cons_zero, List.set_cons_succ])
    (refine wpAnyH_take (i := 1) (oi := ⟨some 219, _, _, _, _, _⟩) (v := ?_) rfl (by kernel_rfl) (by kernel_rfl) (by kernel_rfl) (fun _ _ _ h => h) (Or.inl ⟨by rfl, ?_⟩) (by assumption) ?_); rotate_left; focus (intro w hSw; (try dsimp only at hSw); go_split_ands; go_simp; try with_reducible rfl); (try simp only [Act.put, List.setIfInBounds_toArray, List.set_cons_zero, List.set_cons_succ])
    (refine wpAnyH_take (i := 3) (oi := ⟨some 221, _, _, _, _, _⟩) (v := ?_) rfl (by kernel_rfl) (by kernel_rfl) (by kernel_rfl) (fun _ _ _ h => h) (Or.inl ⟨by rfl, ?_⟩) (by assumption) ?_); rotate_left; focus (intro w hSw; (try dsimp only at hSw); go_split_ands; go_simp; try with_reducible rfl); (try simp only [Act.put, List.setIfInBounds_toArray, List.set_cons_zero, List.set_cons_succ])
    (refine wpAnyH_take (i := 4) (oi := ⟨some 222, _, _, _, _, _⟩) (v := ?_) rfl (by kernel_rfl) (by kernel_rfl) (by kernel_rfl) (fun _ _ _ h => h) (Or.inl ⟨by rfl, ?_⟩) (by assumption) ?_); rotate_left; focus (intro w hSw; (try dsimp only at hSw); go_split_ands; go_simp; try with_reducible rfl); (try simp only [Act.put, List.setIfInBounds_toArray, List.set_cons_zero, List.set_cons_succ])
    (refine wpAnyH_take (i := 5) (oi := ⟨some 223, _, _, _, _, _⟩) (v := ?_) rfl (by kernel_rfl) (by kernel_rfl) (by kernel_rfl) (fun _ _ _ h => h) (Or.inl ⟨by rfl, ?_⟩) (by assumption) ?_); rotate_left; focus (intro w hSw; (try dsimp only at hSw); go_split_ands; go_simp; try with_reducible rfl); (try simp only [Act.put, List.setIfInBounds_toArray, List.set_cons_zero, List.set_cons_succ])
    (refine wpAnyH_take (i := 7) (oi := ⟨some 225, _, _, _, _, _⟩) (v := ?_) rfl (by kernel_rfl) (by kernel_rfl) (by kernel_rfl) (fun _ _ _ h => h) (Or.inl ⟨by rfl, ?_⟩) (by assumption) ?_); rotate_left; focus (intro w hSw; (try dsimp only at hSw); go_split_ands; go_simp; try with_reducible rfl); (try simp only [Act.put, List.setIfInBounds_toArray, List.set_cons_zero, List.set_cons_succ])
    (refine wpAnyH_take (i := 8) (oi := ⟨some 226, _, _, _, _, _⟩) (v := ?_) rfl (by kernel_rfl) (by kernel_rfl) (by kernel_rfl) (fun _ _ _ h => h) (Or.inl ⟨by rfl, ?_⟩) (by assumption) ?_); rotate_left; focus (intro w hSw; (try dsimp only at hSw); go_split_ands; go_simp; try with_reducible rfl); (try simp only [Act.put, List.setIfInBounds_toArray, List.set_cons_zero, List.set_cons_succ])
    (refine wpAnyH_take (i := 9) (oi := ⟨some 227, _, _, _, _, _⟩) (v := ?_) rfl (by kernel_rfl) (by kernel_rfl) (by kernel_rfl) (fun _ _ _ h => h) (Or.inl ⟨by rfl, ?_⟩) (by assumption) ?_); rotate_left; focus (intro w hSw; (try dsimp only at hSw); go_split_ands; go_simp; try with_reducible rfl); (try simp only [Act.put, List.setIfInBounds_toArray, List.set_cons_zero, List.set_cons_succ])
    (refine wpAnyH_take (i := 10) (oi := ⟨some 228, _, _, _, _, _⟩) (v := ?_) rfl (by kernel_rfl) (by kernel_rfl) (by kernel_rfl) (fun _ _ _ h => h) (Or.inl ⟨by rfl, ?_⟩) (by assumption) ?_); rotate_left; focus (intro w hSw; (try dsimp only at hSw); go_split_ands; go_simp; try with_reducible rfl); (try simp only [Act.put, List.setIfInBounds_toArray, List.set_cons_zero, List.set_cons_succ])
    (refine wpAnyH_take (i := 11) (oi := ⟨some 229, _, _, _, _, _⟩) (v := ?_) rfl (by kernel_rfl) (by kernel_rfl) (by kernel_rfl) (fun _ _ _ h => h) (Or.inl ⟨by rfl, ?_⟩) (by assumption) ?_); rotate_left; focus (intro w hSw; (try dsimp only at hSw); go_split_ands; go_simp; try with_reducible rfl); (try simp only [Act.put, List.setIfInBounds_toArray, List.set_cons_zero, List.set_cons_succ])
    (refine wpAnyH_ready (rs := [2]) (by kernel_rfl) (by simp) ?_; refine AllReadyH.cons rfl (fun K hK => ?_) AllReadyH.nil); go_simp
    refine (HMI.out _ ((Fr.refl _ _).drew)).mono ?_
    rintro e w3 ⟨v3, rfl, hr3, hF3, hn3⟩
    obtain ⟨ma, mc, rfl⟩ := row_shape' hr3
    have HF3 : Hid (Fr [] wk w3) := ((Fr.refl _ _).drew).trans hF3
    have HT3 := Lib.hid (HTK.out.still HF3.out)
    have HH3 : Hid (Handed w3 ma (kts.map Prod.fst)) := by
      have hg := HKG.out w3 HF3.out
      rw [HKN.out] at hr3
      exact ⟨row_rowAt hr3, fun o ho => by obtain ⟨b, hb, rfl⟩ := List.mem_map.1 ho; exact hg.inn b hb, by simpa using HKB.out.len, fun o ho => by obtain ⟨b, hb, rfl⟩ := List.mem_map.1 ho; exact HKB.out.sizes b hb, fun o ho => by obtain ⟨b, hb, rfl⟩ := List.mem_map.1 ho; exact HKB.out.hash b hb, fun o ho => by obtain ⟨b, hb, rfl⟩ := List.mem_map.1 ho; exact HKB.out.words b hb⟩
    have p5 : w3.cell? ⟨W.heap.size, 5, none⟩ = some (.int .i64 N) := HF3.out.cell (by simp) r5
    refine hK.out _ _ p5 (fun hHeld3 => ?_)
    clear hK hr3 hF3 hn3
    have hhl := hload2 (cap := mc) HG.out HI.out HT3.out (kts.map Prod.fst) HH3.out kts (fun wv sv W' hHA h2 hF => HKK.out w3 HF3.out wv sv W' hHA h2 hF) x N hx n1 n2 HML.out
    rw [List.length_map, ← HKN.out] at hhl
    (refine wpAnyH_ready (rs := [6]) (by kernel_rfl) (by simp) ?_; refine AllReadyH.cons rfl (fun K hK => ?_) AllReadyH.nil); go_simp
    refine hhl.mono ?_
    rintro e w4 ⟨rfl, hT4, hG4⟩
    have hk4 := hT4.kept (List.mem_cons_self ..)
    have p54 := cell_of_heap (o := 5) hk4 rfl
    have hrl := rload2 (cap := kc) HI.out HA.out kts HKB.out x N hx n1 n2 HOL.out hT4 hG4
    rw [← HKN.out] at hrl
    clear hT4 hG4 hk4 hhl
    refine hK.out _ _ p54 (fun hHeld4 => ?_)
    clear hK
    (refine wpAnyH_ready (rs := [12]) (by kernel_rfl) (by simp) ?_; refine AllReadyH.cons rfl (fun K hK => ?_) AllReadyH.nil); go_simp
    refine hrl.mono ?_
    rintro e w5 ⟨rfl, l', ha', hT5⟩
    have hk5 := hT5.kept (List.mem_cons_self ..)
    have p55 := cell_of_heap (o := 5) hk5 rfl
    have HT5 := Lib.hid hT5.less
    have HA5 := Lib.hid ha'
    clear hT5 ha' hk5 hrl
    refine hK.out _ _ p55 (fun hHeld5 => ?_)
    clear hK
    generalize loadE lim (obsOf (kts.map Prod.fst)) x N = E at *
    (refine wpAnyH_take (i := 13) (oi := ⟨some 231, _, _, _, _, _⟩) (v := ?_) rfl (by kernel_rfl) (by kernel_rfl) (by kernel_rfl) (fun _ _ _ h => h) (Or.inl ⟨by rfl, ?_⟩) (by assumption) ?_); rotate_left; focus (intro w hSw; (try dsimp only at hSw); go_split_ands; go_simp; try with_reducible rfl); (try simp only [Act.put, List.setIfInBounds_toArray, List.set_cons_zero, List.set_cons_succ])
    (refine wpAnyH_take (i := 14) (oi := ⟨some 6, _, _, _, _, _⟩) (v := ?_) rfl (by kernel_rfl) (by kernel_rfl) (by kernel_rfl) (fun _ _ _ h => h) (Or.inl ⟨by rfl, ?_⟩) (by assumption) ?_); rotate_left; focus (intro w hSw; (try dsimp only at hSw); go_split_ands; go_simp; try with_reducible rfl); (try simp only [Act.put, List.setIfInBounds_toArray, List.set_cons_zero, List.set_cons_succ])
    refine wpAnyH_done (by kernel_rfl) (Norm.mk ?_) _
    go_wp2
    go_ret
    exact ⟨ret1 (vb (by simp)), os', l', root', hs', HNI.out, HA5.out, HT5.out⟩
  · go_enter Tryz.func13, Tryz.ntmps13
    go_wp2_with (first
      | (go_at_call 42; refine hobs.mono ?_; rintro e w1 ⟨ao, cap, rfl, hwd, hwb, hlen, hT2⟩; have hk := hT2.kept (List.mem_cons_self ..); have q0 := cell_of_heap (o := 0) hk rfl; have q1 := cell_of_heap (o := 1) hk rfl; have q2 := cell_of_heap (o := 2) hk rfl; have q3 := cell_of_heap (o := 3) hk rfl; have q4 := cell_of_heap (o := 4) hk rfl; have q5 := cell_of_heap (o := 5) hk rfl; have q6 := cell_of_heap (o := 6) hk rfl; have hc1 := chosen_gives (cap := cap) (refsI l) hwd hlen V I i1 i2; have hc2 := chosen_gives (cap := cap) (refsI l) hwd hlen Wd J j1 j2; have hx := chosen_WB (i := I) hwb hV; have hy := chosen_WB (i := J) hwb hW; generalize chosenI (refsI l) V I = x at *; generalize chosenI (refsI l) Wd J = y at *; have HT2 := Lib.hid hT2; generalize (refsI l).length = len at *; clear hobs hT2 hk hwd hwb hlen)
      | (go_at_call_of 43 (Value.int .u64 V); refine hc1.mono ?_; rintro e w' ⟨rfl, rfl⟩)
      | (go_at_call_of 43 (Value.int .u64 Wd); refine hc2.mono ?_; rintro e w' ⟨rfl, rfl⟩))
    have hT1 := HT2.out
    have HTK : Hid (Two w0 ((W.heap.size, .cells #[.int .i64 what, .int .u64 V, .int .u64 Wd, .int .i64 I, .int .i64 J, .int .i64 N, .slice lo ln lc] 36) :: X) hb mb rb (absMem lim os root hashes) ⟨lim, l, root, hashes⟩ w1) := HT2
    obtain ⟨kts, hkts⟩ : ∃ kts, kts = its := ⟨_, rfl⟩
    obtain ⟨ka, hka⟩ : ∃ ka, ka = lo := ⟨_, rfl⟩
    obtain ⟨kc, hkc⟩ : ∃ kc, kc = lc := ⟨_, rfl⟩
    obtain ⟨wk, hwk⟩ : ∃ wk, wk = w1 := ⟨_, rfl⟩
    have HKG : Hid (∀ W', Fr [] wk W' → G4 W' ka kts) := by
      refine Lib.hid fun W' hF => ?_
      rw [hkts, hka]
      rw [hwk] at hF
      exact HG4.out.fr0 (hT1.fr.trans hF)
    have HKB : Hid (B4 kts) := by rw [hkts]; exact HB4
    have HKK : Hid (∀ W3, Fr [] wk W3 → ∀ wv sv W', HeapAt W3 hb mb (absMem lim os root hashes) wv sv → (∀ k ∈ foot mb wv sv, w0.heap.size ≤ k) → Fr (foot mb wv sv) W3 W' → G4 W' ka kts) := by
      refine Lib.hid fun W3 hF3 wv sv W' hHA h2 hF => ?_
      refine (HKG.out W3 hF3).fr hF ?_ ?_
      · rw [hkts, hka]
        exact fun hne a ha hk => by have := HLO.out hne a ha; have := h2 _ hk; omega
      · rw [hkts]
        exact fun o ho fa n fc hv hn hk => by have := HFL.out o ho fa n fc hv hn; have := h2 _ hk; omega
    have hln2 : ln = kts.length := by rw [hkts]; exact HLN.out
    subst hwk
    subst hka
    subst hkc
    clear hT1 hkts
    have r5 := q5
    rw [hln2]
    clear hln2
    have hmx : Tryz.prog.follows .mixedOrders = true := by kernel_rfl
    obtain ⟨os', root', hs', hOL, hML⟩ := OLoad.ex lim os root hashes (obsOf (kts.map Prod.fst)) x N
    have HML := Lib.hid hML
    have HOL := Lib.hid hOL
    have HNI := Lib.hid (hOL.inv HI.out (fun o ho => by obtain ⟨a, ha, rfl⟩ := List.mem_map.1 ho; obtain ⟨b, hb, rfl⟩ := List.mem_map.1 ha; exact HKB.out.words b hb))
    obtain ⟨kn, hkn⟩ : ∃ kn, kn = kts.length := ⟨_, rfl⟩
    have hmi := fun W' hW' => mine (w := W') (ao := ka) (cap := kc) kts (HKG.out W' hW').row (fun o ho => by obtain ⟨fa, fc, e, -⟩ := (HKG.out W' hW').ok o ho; exact ⟨fa, _, fc, e⟩) HKB.out.len
    rw [← hkn] at hmi
    have HMI := Lib.hid hmi
    have HKN := Lib.hid hkn
    clear hOL hML hmi
    rw [← hkn]
    clear hkn
    go_wp2_with fail
    refine Code.wp_mono Norm.imp (wp_region_held_drew (S := fun w' => w'.cell? ⟨W.heap.size, 5, none⟩ = some (.int .i64 N)) hmx r5 (fun hHeld => ?_))
    (refine wpAnyH_take (i := 0) (oi := ⟨some 218, _, _, _, _, _⟩) (v := ?_) rfl (by kernel_rfl) (by kernel_rfl) (by kernel_rfl) (fun _ _ _ h => h) (Or.inl ⟨by rfl, ?_⟩) (by assumption) ?_); rotate_left; focus (intro w hSw; (try dsimp only at hSw); go_split_ands; go_simp; try with_reducible rfl); (try simp only [Act.put, List.setIfInBounds_toArray, List.set_cons_zero, List.set_cons_succ])
    (refine wpAnyH_take (i := 1) (oi := ⟨some 219, _, _, _, _, _⟩) (v := ?_) rfl (by kernel_rfl) (by kernel_rfl) (by kernel_rfl) (fun _ _ _ h => h) (Or.inl ⟨by rfl, ?_⟩) (by assumption) ?_); rotate_left; focus (intro w hSw; (try dsimp only at hSw); go_split_ands; go_simp; try with_reducible rfl); (try simp only [Act.put, List.setIfInBounds_toArray, List.set_cons_zero, List.set_cons_succ])
    (refine wpAnyH_take (i := 3) (oi := ⟨some 221, _, _, _, _, _⟩) (v := ?_) rfl (by kernel_rfl) (by kernel_rfl) (by kernel_rfl) (fun _ _ _ h => h) (Or.inl ⟨by rfl, ?_⟩) (by assumption) ?_); rotate_left; focus (intro w hSw; (try dsimp only at hSw); go_split_ands; go_simp; try with_reducible rfl); (try simp only [Act.put, List.setIfInBounds_toArray, List.set_cons_zero, List.set_cons_succ])
    (refine wpAnyH_take (i := 4) (oi := ⟨some 222, _, _, _, _, _⟩) (v := ?_) rfl (by kernel_rfl) (by kernel_rfl) (by kernel_rfl) (fun _ _ _ h => h) (Or.inl ⟨by rfl, ?_⟩) (by assumption) ?_); rotate_left; focus (intro w hSw; (try dsimp only at hSw); go_split_ands; go_simp; try with_reducible rfl); (try simp only [Act.put, List.setIfInBounds_toArray, List.set_cons_zero, List.set_cons_succ])
    (refine wpAnyH_take (i := 5) (oi := ⟨some 223, _, _, _, _, _⟩) (v := ?_) rfl (by kernel_rfl) (by kernel_rfl) (by kernel_rfl) (fun _ _ _ h => h) (Or.inl ⟨by rfl, ?_⟩) (by assumption) ?_); rotate_left; focus (intro w hSw; (try dsimp only at hSw); go_split_ands; go_simp; try with_reducible rfl); (try simp only [Act.put, List.setIfInBounds_toArray, List.set_cons_zero, List.set_cons_succ])
    (refine wpAnyH_take (i := 7) (oi := ⟨some 225, _, _, _, _, _⟩) (v := ?_) rfl (by kernel_rfl) (by kernel_rfl) (by kernel_rfl) (fun _ _ _ h => h) (Or.inl ⟨by rfl, ?_⟩) (by assumption) ?_); rotate_left; focus (intro w hSw; (try dsimp only at hSw); go_split_ands; go_simp; try with_reducible rfl); (try simp only [Act.put, List.setIfInBounds_toArray, List.set_cons_zero, List.set_cons_succ])
    (refine wpAnyH_take (i := 8) (oi := ⟨some 226, _, _, _, _, _⟩) (v := ?_) rfl (by kernel_rfl) (by kernel_rfl) (by kernel_rfl) (fun _ _ _ h => h) (Or.inl ⟨by rfl, ?_⟩) (by assumption) ?_); rotate_left; focus (intro w hSw; (try dsimp only at hSw); go_split_ands; go_simp; try with_reducible rfl); (try simp only [Act.put, List.setIfInBounds_toArray, List.set_cons_zero, List.set_cons_succ])
    (refine wpAnyH_take (i := 9) (oi := ⟨some 227, _, _, _, _, _⟩) (v := ?_) rfl (by kernel_rfl) (by kernel_rfl) (by kernel_rfl) (fun _ _ _ h => h) (Or.inl ⟨by rfl, ?_⟩) (by assumption) ?_); rotate_left; focus (intro w hSw; (try dsimp only at hSw); go_split_ands; go_simp; try with_reducible rfl); (try simp only [Act.put, List.setIfInBounds_toArray, List.set_cons_zero, List.set_cons_succ])
    (refine wpAnyH_take (i := 10) (oi := ⟨some 228, _, _, _, _, _⟩) (v := ?_) rfl (by kernel_rfl) (by kernel_rfl) (by kernel_rfl) (fun _ _ _ h => h) (Or.inl ⟨by rfl, ?_⟩) (by assumption) ?_); rotate_left; focus (intro w hSw; (try dsimp only at hSw); go_split_ands; go_simp; try with_reducible rfl); (try simp only [Act.put, List.setIfInBounds_toArray, List.set_cons_zero, List.set_cons_succ])
    (refine wpAnyH_take (i := 11) (oi := ⟨some 229, _, _, _, _, _⟩) (v := ?_) rfl (by kernel_rfl) (by kernel_rfl) (by kernel_rfl) (fun _ _ _ h => h) (Or.inl ⟨by rfl, ?_⟩) (by assumption) ?_); rotate_left; focus (intro w hSw; (try dsimp only at hSw); go_split_ands; go_simp; try with_reducible rfl); (try simp only [Act.put, List.setIfInBounds_toArray, List.set_cons_zero, List.set_cons_succ])
    (refine wpAnyH_ready (rs := [2]) (by kernel_rfl) (by simp) ?_; refine AllReadyH.cons rfl (fun K hK => ?_) AllReadyH.nil); go_simp
    refine (HMI.out _ ((Fr.refl _ _).drew)).mono ?_
    rintro e w3 ⟨v3, rfl, hr3, hF3, hn3⟩
    obtain ⟨ma, mc, rfl⟩ := row_shape' hr3
    have HF3 : Hid (Fr [] wk w3) := ((Fr.refl _ _).drew).trans hF3
    have HT3 := Lib.hid (HTK.out.still HF3.out)
    have HH3 : Hid (Handed w3 ma (kts.map Prod.fst)) := by
      have hg := HKG.out w3 HF3.out
      rw [HKN.out] at hr3
      exact ⟨row_rowAt hr3, fun o ho => by obtain ⟨b, hb, rfl⟩ := List.mem_map.1 ho; exact hg.inn b hb, by simpa using HKB.out.len, fun o ho => by obtain ⟨b, hb, rfl⟩ := List.mem_map.1 ho; exact HKB.out.sizes b hb, fun o ho => by obtain ⟨b, hb, rfl⟩ := List.mem_map.1 ho; exact HKB.out.hash b hb, fun o ho => by obtain ⟨b, hb, rfl⟩ := List.mem_map.1 ho; exact HKB.out.words b hb⟩
    have p5 : w3.cell? ⟨W.heap.size, 5, none⟩ = some (.int .i64 N) := HF3.out.cell (by simp) r5
    refine hK.out _ _ p5 (fun hHeld3 => ?_)
    clear hK hr3 hF3 hn3
    have hhl := hload2 (cap := mc) HG.out HI.out HT3.out (kts.map Prod.fst) HH3.out kts (fun wv sv W' hHA h2 hF => HKK.out w3 HF3.out wv sv W' hHA h2 hF) x N hx n1 n2 HML.out
    rw [List.length_map, ← HKN.out] at hhl
    (refine wpAnyH_ready (rs := [6]) (by kernel_rfl) (by simp) ?_; refine AllReadyH.cons rfl (fun K hK => ?_) AllReadyH.nil); go_simp
    refine hhl.mono ?_
    rintro e w4 ⟨rfl, hT4, hG4⟩
    have hk4 := hT4.kept (List.mem_cons_self ..)
    have p54 := cell_of_heap (o := 5) hk4 rfl
    have hrl := rload2 (cap := kc) HI.out HA.out kts HKB.out x N hx n1 n2 HOL.out hT4 hG4
    rw [← HKN.out] at hrl
    clear hT4 hG4 hk4 hhl
    refine hK.out _ _ p54 (fun hHeld4 => ?_)
    clear hK
    (refine wpAnyH_ready (rs := [12]) (by kernel_rfl) (by simp) ?_; refine AllReadyH.cons rfl (fun K hK => ?_) AllReadyH.nil); go_simp
    refine hrl.mono ?_
    rintro e w5 ⟨rfl, l', ha', hT5⟩
    have hk5 := hT5.kept (List.mem_cons_self ..)
    have p55 := cell_of_heap (o := 5) hk5 rfl
    have HT5 := Lib.hid hT5.less
    have HA5 := Lib.hid ha'
    clear hT5 ha' hk5 hrl
    refine hK.out _ _ p55 (fun hHeld5 => ?_)
    clear hK
    generalize loadE lim (obsOf (kts.map Prod.fst)) x N = E at *
    (refine wpAnyH_take (i := 13) (oi := ⟨some 231, _, _, _, _, _⟩) (v := ?_) rfl (by kernel_rfl) (by kernel_rfl) (by kernel_rfl) (fun _ _ _ h => h) (Or.inl ⟨by rfl, ?_⟩) (by assumption) ?_); rotate_left; focus (intro w hSw; (try dsimp only at hSw); go_split_ands; go_simp; try with_reducible rfl); (try simp only [Act.put, List.setIfInBounds_toArray, List.set_cons_zero, List.set_cons_succ])
    (refine wpAnyH_take (i := 14) (oi := ⟨some 6, _, _, _, _, _⟩) (v := ?_) rfl (by kernel_rfl) (by kernel_rfl) (by kernel_rfl) (fun _ _ _ h => h) (Or.inl ⟨by rfl, ?_⟩) (by assumption) ?_); rotate_left; focus (intro w hSw; (try dsimp only at hSw); go_split_ands; go_simp; try with_reducible rfl); (try simp only [Act.put, List.setIfInBounds_toArray, List.set_cons_zero, List.set_cons_succ])
    refine wpAnyH_done (by kernel_rfl) (Norm.mk ?_) _
    go_wp2
    go_ret
    exact ⟨ret1 (vb (by simp)), os', l', root', hs', HNI.out, HA5.out, HT5.out⟩
end
end Go.Proofs.YtjnccpeeeiafjaaGreatDoor
namespace Go.Proofs.YtjnccpeeeiafjaaGreatDoor
open Go.ChangeShapes Go.WideShapes Go.RowKit Go.Deep
section
variable {H : Type} {enc : TypeId × Value → H} {w : World} {base : Nat} {spare : Nat → Bool} {held : Bool}

/-- no slice in it takes more bytes than there may be -/
def Light (t : TypeId) (d : DataW H) : Prop := ∀ n ∈ d.weights Tryz.prog t, n ≤ reachBytes
theorem mem_weightsAll {e : TypeId} : ∀ {ds : List (DataW H)} {d : DataW H} {n : Nat}, d ∈ ds → n ∈ d.weights Tryz.prog e → n ∈ DataW.weightsAll Tryz.prog e ds
  | c :: r, d, n, hd, hn => by
    simp only [DataW.weightsAll, List.mem_append]
    rcases List.mem_cons.1 hd with rfl | hd
    · exact .inl hn
    · exact .inr (mem_weightsAll hd hn)
theorem Light.slice {t e : TypeId} {es rs : List (DataW H)} (h : Light t (.slice es rs)) (hu : Tryz.prog.underlying t = some (.slice e)) : (es.length + rs.length) * Tryz.prog.bytesOf e ≤ reachBytes ∧ ∀ d ∈ es, Light e d := by
  unfold Light at h
  simp only [DataW.weights, hu, List.mem_cons, List.mem_append] at h
  exact ⟨h _ (.inl rfl), fun d hd n hn => h n (.inr (.inl (mem_weightsAll hd hn)))⟩
theorem Light.agg {t : TypeId} {fs : Array Field} {ds : List (DataW H)} (h : Light t (.agg ds)) (hu : Tryz.prog.underlying t = some (.struct fs)) {j : Nat} {f : Field} {d : DataW H} (hf : fs[j]? = some f) (hd : ds[j]? = some d) : Light f.type d := by
  intro n hn
  refine h n ?_
  simp only [DataW.weights, hu]
  refine DataW.weights_mem_each (j := j) (t := f.type) ?_ hd n hn
  simp [hf]
theorem list_of {α : Type} {p : Nat → α → Prop} : ∀ (n : Nat), (∀ i, i < n → ∃ z, p i z) → ∃ xs : List α, xs.length = n ∧ ∀ i z, xs[i]? = some z → p i z
  | 0, _ => ⟨[], rfl, fun i z h => by simp at h⟩
  | n + 1, h => by
    obtain ⟨xs, hl, hx⟩ := list_of n (fun i hi => h i (by omega))
    obtain ⟨z, hz⟩ := h n (by omega)
    refine ⟨xs ++ [z], by simp [hl], fun i y hy => ?_⟩
    by_cases hi : i < xs.length
    · rw [List.getElem?_append_left hi] at hy; exact hx i y hy
    · rw [List.getElem?_append_right (by omega)] at hy
      cases hj : i - xs.length with
      | zero =>
        rw [hj] at hy
        simp at hy
        subst hy
        have : i = n := by omega
        rw [this]
        exact hz
      | succ j => rw [hj] at hy; simp at hy
theorem wf_u64' {n : Int} (h : (Lit.int .u64 n).wf = true) : WB n := by
  simp only [Lit.wf, Bool.and_eq_true, decide_eq_true_eq] at h
  exact h
theorem wf_i64' {n : Int} (h : (Lit.int .i64 n).wf = true) : -9223372036854775808 ≤ n ∧ n ≤ 9223372036854775807 := by
  simp only [Lit.wf, Bool.and_eq_true, decide_eq_true_eq] at h
  exact h
theorem cells_Word : Tryz.prog.cellsOf 33 = 1 := by kernel_rfl
theorem bytes_Word : Tryz.prog.bytesOf 33 = 8 := by kernel_rfl
theorem bytes_RO : Tryz.prog.bytesOf 57 = 48 := by kernel_rfl
theorem cells_RO : Tryz.prog.cellsOf 57 = 4 := by kernel_rfl
theorem spot_of {a : Addr} {v : Value} (h : w.cell? a = some v) : ∃ b o, a = ⟨b, o, none⟩ := by
  obtain ⟨b, o, spot⟩ := a
  exact ⟨b, o, by have := World.cell?_spot h; simpa using this⟩
/-- the fields of a struct that was read -/
theorem fields_of {t : TypeId} {fs : Array Field} {n : Nat} {cs : List Value} {x : DataW H × List MemPlace} (hu : Tryz.prog.underlying t = some (.struct fs)) (hone : oneCellFields Tryz.prog fs = true) (hC : Tryz.prog.cellsOf t = fs.size) (h : DataW.trod enc Tryz.prog w base spare held n t cs = some x) :
    ∃ (ys : List (DataW H × List MemPlace)) (k : Nat), x.1 = .agg (ys.map (·.1)) ∧ cs.length = fs.size ∧ ∀ (j : Nat) (f : Field), fs[j]? = some f → ∃ v y, cs[j]? = some v ∧ ys[j]? = some y ∧ DataW.trod enc Tryz.prog w base spare held k f.type [v] = some y := by
  obtain ⟨ys, k, -, rfl, hlen, hyl, hf⟩ := DataW.trod_struct hu h
  rw [hC] at hlen
  refine ⟨ys, k, rfl, hlen, fun j f hj => ?_⟩
  have hjl : j < fs.size := (Array.getElem?_eq_some_iff.1 hj).1
  obtain ⟨ho, hk⟩ := hone_of hone j f hj
  obtain ⟨v, hv⟩ : ∃ v, cs[j]? = some v := ⟨_, List.getElem?_eq_getElem (by omega)⟩
  obtain ⟨y, hy⟩ : ∃ y, ys[j]? = some y := ⟨_, List.getElem?_eq_getElem (by omega)⟩
  have h1 := hf j f hj
  have hd : (cs.drop j).take 1 = [v] := by
    rw [List.getElem?_eq_getElem (by omega)] at hv
    rw [List.drop_eq_getElem_cons (show j < cs.length by omega), Option.some.inj hv]
    rfl
  rw [ho, hk, hd, hy] at h1
  exact ⟨v, y, hv, hy, h1⟩
theorem Light.field {t : TypeId} {fs : Array Field} {ys : List (DataW H × List MemPlace)} (h : Light t (.agg (ys.map (·.1)))) (hu : Tryz.prog.underlying t = some (.struct fs)) {j : Nat} {f : Field} {y : DataW H × List MemPlace} (hf : fs[j]? = some f) (hy : ys[j]? = some y) : Light f.type y.1 := h.agg hu hf (by rw [List.getElem?_map, hy]; rfl)
theorem read_words {n : Nat} {v : Value} {y : DataW H × List MemPlace} (h : DataW.trod enc Tryz.prog w base spare held n 42 [v] = some y) (hl : Light 42 y.1) :
    ∃ fa fc xs, v = .slice fa xs.length fc ∧ WordsAt w fa xs ∧ (∀ x ∈ xs, WB x) ∧ xs.length ≤ 17592186044416 ∧ (fa = none → fc = 0 ∧ xs = []) ∧ (0 < xs.length → ∃ b o, fa = some ⟨b, o, none⟩ ∧ b < w.heap.size) := by
  rcases open_slice Tryz.underlying42 h with ⟨hcs, hx⟩ | ⟨a, len, cap, m, k, D, Pl, hcs, -, hlc, -, hm, hx, hi⟩
  · simp only [List.cons.injEq, and_true] at hcs
    subst hcs
    exact ⟨none, 0, [], rfl, fun i x hx => by simp at hx, fun x hx => by simp at hx, by simp, fun _ => ⟨rfl, rfl⟩, fun h => by simp at h⟩
  · simp only [List.cons.injEq, and_true] at hcs
    subst hcs
    have hml : len ≤ m := by rw [hm]; split <;> omega
    rw [hx] at hl
    have hb := (hl.slice Tryz.underlying42).1
    rw [bytes_Word] at hb
    simp only [List.length_map, List.length_range] at hb
    have hlen : len ≤ 17592186044416 := by unfold reachBytes at hb; omega
    obtain ⟨xs, hxl, hxs⟩ := list_of (p := fun i z => w.cell? (a.add i) = some (.int .u64 z) ∧ WB z) len (fun i hil => by
      obtain ⟨cs', hc, ht⟩ := hi i (by omega)
      rw [cells_Word, Nat.mul_one] at hc
      obtain ⟨-, hcl, hat⟩ := World.cells?_some hc
      obtain ⟨z, rfl, -, hwf⟩ := DataW.trod_int Tryz.underlying33 ht
      have := hat 0 (by omega)
      rw [add_add, Nat.add_zero] at this
      exact ⟨z, this, wf_u64' hwf⟩)
    refine ⟨some a, cap, xs, by rw [hxl], fun i x hxi => ?_, fun x hxm => ?_, by omega, fun h => by simp at h, fun hp => ?_⟩
    · obtain ⟨h0, -⟩ := hxs 0 _ (List.getElem?_eq_getElem (Nat.lt_of_le_of_lt (Nat.zero_le _) (List.getElem?_eq_some_iff.1 hxi).1))
      obtain ⟨b, o, hab⟩ := spot_of (by simpa [Addr.add] using h0)
      subst hab
      refine ⟨b, o, rfl, ?_⟩
      have := (hxs i x hxi).1
      rwa [Lib.add_plain] at this
    · obtain ⟨i, hi'⟩ := List.getElem?_of_mem hxm
      exact (hxs i x hi').2
    · obtain ⟨h0, -⟩ := hxs 0 _ (List.getElem?_eq_getElem hp)
      have h0' : w.cell? a = some (.int .u64 xs[0]) := by simpa [Addr.add] using h0
      obtain ⟨b, o, hab⟩ := spot_of h0'
      subst hab
      exact ⟨b, o, rfl, World.block_lt_of_cell? w _ h0'⟩
theorem flat4_get {l : List (It × Int)} {j : Nat} {u : Value} (h : (flat4 l)[j]? = some u) : ∃ i o, l[i]? = some o ∧ ((j = i * 4 ∧ u = .int .u64 o.1.cls) ∨ (j = i * 4 + 1 ∧ u = .int .i64 o.1.hash) ∨ (j = i * 4 + 2 ∧ u = o.1.fv) ∨ (j = i * 4 + 3 ∧ u = .int .i64 o.2)) := by
  have hj := (List.getElem?_eq_some_iff.1 h).1
  rw [flat4_len] at hj
  have hi : j / 4 < l.length := by omega
  have hio := List.getElem?_eq_getElem hi
  obtain ⟨f0, f1, f2, f3⟩ := flat4_at hio
  refine ⟨j / 4, l[j / 4], hio, ?_⟩
  have hr : j = j / 4 * 4 + j % 4 := by omega
  have h4 : j % 4 = 0 ∨ j % 4 = 1 ∨ j % 4 = 2 ∨ j % 4 = 3 := by omega
  rcases h4 with h4 | h4 | h4 | h4
  · rw [h4] at hr; rw [hr, Nat.add_zero] at h; left; exact ⟨by omega, Option.some.inj (h.symm.trans f0)⟩
  · rw [h4] at hr; rw [hr] at h; right; left; exact ⟨by omega, Option.some.inj (h.symm.trans f1)⟩
  · rw [h4] at hr; rw [hr] at h; right; right; left; exact ⟨by omega, Option.some.inj (h.symm.trans f2)⟩
  · rw [h4] at hr; rw [hr] at h; right; right; right; exact ⟨by omega, Option.some.inj (h.symm.trans f3)⟩
/-- one object of a list -/
def Obj4 (w : World) (a : Addr) (i : Nat) (o : It × Int) : Prop :=
  w.cell? (a.add (i * 4)) = some (.int .u64 o.1.cls) ∧ w.cell? (a.add (i * 4 + 1)) = some (.int .i64 o.1.hash) ∧ w.cell? (a.add (i * 4 + 2)) = some o.1.fv ∧ w.cell? (a.add (i * 4 + 3)) = some (.int .i64 o.2) ∧ ItOk w o.1 ∧ ItIn w o.1 ∧ o.1.fs.length ≤ 17592186044416 ∧ (-9223372036854775808 ≤ o.1.hash ∧ o.1.hash ≤ 9223372036854775807) ∧ ObB o.1.key ∧ ∀ fa n fc, o.1.fv = .slice (some fa) n fc → 0 < n → fa.block < w.heap.size
theorem read_objs {n : Nat} {v : Value} {y : DataW H × List MemPlace} (h : DataW.trod enc Tryz.prog w base spare held n 34 [v] = some y) (hl : Light 34 y.1) :
    ∃ lo lc its, v = .slice lo its.length lc ∧ G4 w lo its ∧ B4 its ∧ (its ≠ [] → ∀ a, lo = some a → a.block < w.heap.size) ∧ ∀ o ∈ its, ∀ fa n fc, o.1.fv = .slice (some fa) n fc → 0 < n → fa.block < w.heap.size := by
  rcases open_slice Tryz.underlying34 h with ⟨hcs, hx⟩ | ⟨a, len, cap, m, k, D, Pl, hcs, -, hlc, -, hm, hx, hi⟩
  · simp only [List.cons.injEq, and_true] at hcs
    subst hcs
    exact ⟨none, 0, [], rfl, ⟨fun i x hx => by simp [flat4] at hx, (fun _ h => by cases h), (fun _ h => by cases h)⟩, ⟨by simp, (fun _ h => by cases h), (fun _ h => by cases h), (fun _ h => by cases h)⟩, fun h => absurd rfl h, (fun _ h => by cases h)⟩
  · simp only [List.cons.injEq, and_true] at hcs
    subst hcs
    have hml : len ≤ m := by rw [hm]; split <;> omega
    rw [hx] at hl
    obtain ⟨hb, hle⟩ := hl.slice Tryz.underlying34
    rw [bytes_RO] at hb
    simp only [List.length_map, List.length_range] at hb
    have hlen : len ≤ 2932031007402 := by unfold reachBytes at hb; omega
    obtain ⟨its, hil, hits⟩ := list_of (p := Obj4 w a) len (fun i hil => by
      obtain ⟨cs', hc, ht⟩ := hi i (by omega)
      rw [cells_RO] at hc
      obtain ⟨-, hcl, hat⟩ := World.cells?_some hc
      have hld := hle (D i) (List.mem_map.2 ⟨i, List.mem_range.2 hil, rfl⟩)
      obtain ⟨ys, k', hx', hsz, hf⟩ := fields_of Tryz.underlying57 (by kernel_rfl) (by kernel_rfl) ht
      simp only at hx'
      rw [hx'] at hld
      obtain ⟨v0, y0, c0, hy0, t0⟩ := hf 0 _ rfl
      obtain ⟨v1, y1, c1, hy1, t1⟩ := hf 1 _ rfl
      obtain ⟨v2, y2, c2, hy2, t2⟩ := hf 2 _ rfl
      obtain ⟨v3, y3, c3, hy3, t3⟩ := hf 3 _ rfl
      have l2 := hld.field Tryz.underlying57 (j := 2) rfl hy2
      obtain ⟨z0, e0, -, g0⟩ := DataW.trod_int Tryz.underlying33 t0
      obtain ⟨z1, e1, -, g1⟩ := DataW.trod_int Tryz.underlying3 t1
      obtain ⟨fa, fc, xs, rfl, hwd, hwb, hxl, hnil, hpos⟩ := read_words t2 l2
      obtain ⟨z3, e3, -, g3⟩ := DataW.trod_int Tryz.underlying3 t3
      simp only [List.cons.injEq, and_true] at e0 e1 e3
      subst e0
      subst e1
      subst e3
      have a0 := (hat 0 (by omega)).trans c0
      have a1 := (hat 1 (by omega)).trans c1
      have a2 := (hat 2 (by omega)).trans c2
      have a3 := (hat 3 (by omega)).trans c3
      rw [add_add] at a0 a1 a2 a3
      refine ⟨(⟨z0, z1, .slice fa xs.length fc, xs⟩, z3), by simpa using a0, a1, a2, a3, ⟨fa, fc, rfl, hwd, hxl⟩, ?_, hxl, wf_i64' g1, ⟨wf_u64' g0, hwb⟩, fun fa' n' fc' e hn => ?_⟩
      · by_cases hp : 0 < xs.length
        · obtain ⟨b, o, rfl, hbl⟩ := hpos hp
          refine .inl ⟨b, o, fc, rfl, hbl, fun j u hu => ?_⟩
          rw [List.getElem?_map] at hu
          cases hj : xs[j]? with
          | none => rw [hj] at hu; cases hu
          | some z =>
            rw [hj] at hu
            cases hu
            obtain ⟨g, oo, e, hcc⟩ := hwd j z hj
            cases e
            rw [Lib.add_plain]
            exact hcc
        · have h0 : xs = [] := List.length_eq_zero_iff.1 (by omega)
          subst h0
          rcases fa with _ | fa
          · exact .inr (.inl ⟨by rw [(hnil rfl).1]; rfl, rfl⟩)
          · exact .inr (.inr ⟨fa, fc, rfl, rfl⟩)
      · cases e
        obtain ⟨b, o, e, hbl⟩ := hpos hn
        cases e
        exact hbl)
    have mem : ∀ o ∈ its, ∃ i, Obj4 w a i o := fun o ho => by obtain ⟨i, hi'⟩ := List.getElem?_of_mem ho; exact ⟨i, hits i o hi'⟩
    refine ⟨some a, cap, its, by rw [hil], ⟨fun j u hu => ?_, fun o ho => ?_, fun o ho => ?_⟩, ⟨by omega, fun o ho => ?_, fun o ho => ?_, fun o ho => ?_⟩, fun hne a' ha' => ?_, fun o ho => ?_⟩
    · obtain ⟨i, o, hio, hc⟩ := flat4_get hu
      have ho := hits i o hio
      have h0 : 0 < its.length := Nat.lt_of_le_of_lt (Nat.zero_le _) (List.getElem?_eq_some_iff.1 hio).1
      have hz := (hits 0 _ (List.getElem?_eq_getElem h0)).1
      obtain ⟨b, oo, hab⟩ := spot_of (by simpa [Addr.add] using hz)
      subst hab
      refine ⟨b, oo, rfl, ?_⟩
      rw [← Lib.add_plain]
      rcases hc with ⟨rfl, rfl⟩ | ⟨rfl, rfl⟩ | ⟨rfl, rfl⟩ | ⟨rfl, rfl⟩
      · exact ho.1
      · exact ho.2.1
      · exact ho.2.2.1
      · exact ho.2.2.2.1
    · obtain ⟨i, h⟩ := mem o ho; exact h.2.2.2.2.1
    · obtain ⟨i, h⟩ := mem o ho; exact h.2.2.2.2.2.1
    · obtain ⟨i, h⟩ := mem o ho; exact h.2.2.2.2.2.2.1
    · obtain ⟨i, h⟩ := mem o ho; exact h.2.2.2.2.2.2.2.1
    · obtain ⟨i, h⟩ := mem o ho; exact h.2.2.2.2.2.2.2.2.1
    · cases ha'
      have hz := (hits 0 _ (List.getElem?_eq_getElem (List.length_pos_iff.2 hne))).1
      exact World.block_lt_of_cell? w _ (by simpa [Addr.add] using hz)
    · obtain ⟨i, h⟩ := mem o ho; exact h.2.2.2.2.2.2.2.2.2
end
end Go.Proofs.YtjnccpeeeiafjaaGreatDoor
namespace Go.Proofs.YtjnccpeeeiafjaaGreatDoor
open Go.RowKit

/-! a number, cut by a mask -/
def uns (n : Int) : Nat := (n % 18446744073709551616).toNat
theorem uns_lt (n : Int) : uns n < 18446744073709551616 := by unfold uns; omega
theorem ofInt_uns (n : Int) : BitVec.ofInt 64 n = BitVec.ofNat 64 (uns n) := by
  apply BitVec.eq_of_toNat_eq
  rw [BitVec.toNat_ofInt, BitVec.toNat_ofNat]
  unfold uns
  have : ((2 ^ 64 : Nat) : Int) = 18446744073709551616 := by decide
  rw [this]
  rw [Nat.mod_eq_of_lt (by omega)]
theorem uns_toNat (n : Int) : (BitVec.ofInt 64 n).toNat = uns n := by
  rw [ofInt_uns, BitVec.toNat_ofNat]; exact Nat.mod_eq_of_lt (uns_lt n)
theorem and_i64 (a b : Int) : bits .and .i64 a b = wrap64 ((uns a &&& uns b : Nat) : Int) := by
  show IntKind.i64.wrap ((BitVec.ofInt 64 a &&& BitVec.ofInt 64 b).toNat : Int) = _
  rw [BitVec.toNat_and, uns_toNat, uns_toNat]; exact IntWalk.i64_left _
theorem and_mask (a : Int) (b : Nat) (hb : b < 1000000) : 0 ≤ bits .and .i64 a b ∧ bits .and .i64 a b ≤ b := by
  rw [and_i64]
  have e : uns (b : Int) = b := by unfold uns; omega
  rw [e]
  have := Nat.and_le_right (n := uns a) (m := b)
  unfold wrap64
  omega
/-- an operation that came in -/
structure OpIn (w : World) (what V Wd I J N : Int) (lo : Option Addr) (lc : Nat) (its : List (It × Int)) : Prop where
  V : WB V
  W : WB Wd
  i1 : -9223372036854775808 ≤ I
  i2 : I ≤ 9223372036854775807
  j1 : -9223372036854775808 ≤ J
  j2 : J ≤ 9223372036854775807
  n1 : -9223372036854775808 ≤ N
  n2 : N ≤ 9223372036854775807
  g : G4 w lo its
  b : B4 its
  lo : its ≠ [] → ∀ a, lo = some a → a.block < w.heap.size
  fl : ∀ o ∈ its, ∀ fa n fc, o.1.fv = .slice (some fa) n fc → 0 < n → fa.block < w.heap.size
theorem step_any {w0 W : World} {X : List (Nat × Obj)} {hb mb rb : Nat} {lim : Int} (hg : Glob w0) (hP : Pair w0 X hb mb rb lim W) {what V Wd I J N : Int} {lo : Option Addr} {lc : Nat} {its : List (It × Int)} (h : OpIn w0 what V Wd I J N lo lc its) :
    Calls Tryz.prog 13 #[.pointer (some ⟨hb, 0, none⟩), .pointer (some ⟨rb, 0, none⟩), .agg (opCells what V Wd I J N lo its.length lc)] W (Steps2 w0 X hb mb rb lim) := by
  obtain ⟨os, l, root, hashes, hI, ha, hT⟩ := hP
  obtain ⟨m1, m2⟩ := and_mask what 15 (by omega)
  have hc : bits .and .i64 what (15 : Nat) = 0 ∨ bits .and .i64 what (15 : Nat) = 1 ∨ bits .and .i64 what (15 : Nat) = 2 ∨ bits .and .i64 what (15 : Nat) = 3 ∨ bits .and .i64 what (15 : Nat) = 4 ∨ bits .and .i64 what (15 : Nat) = 5 ∨ bits .and .i64 what (15 : Nat) = 6 ∨ bits .and .i64 what (15 : Nat) = 7 ∨ bits .and .i64 what (15 : Nat) = 8 ∨ bits .and .i64 what (15 : Nat) = 9 ∨ bits .and .i64 what (15 : Nat) = 10 ∨ bits .and .i64 what (15 : Nat) = 11 ∨ bits .and .i64 what (15 : Nat) = 12 ∨ bits .and .i64 what (15 : Nat) = 13 ∨ bits .and .i64 what (15 : Nat) = 14 ∨ bits .and .i64 what (15 : Nat) = 15 := by omega
  rcases hc with hc | hc | hc | hc | hc | hc | hc | hc | hc | hc | hc | hc | hc | hc | hc | hc
  · exact step_0 hg hI ha hT what V Wd I J N h.V h.W h.i1 h.i2 h.j1 h.j2 h.n1 h.n2 lo its.length lc hc
  · exact step_1 hg hI ha hT what V Wd I J N h.V h.W h.i1 h.i2 h.j1 h.j2 h.n1 h.n2 lo its.length lc hc
  · exact step_2 hg hI ha hT what V Wd I J N h.V h.W h.i1 h.i2 h.j1 h.j2 h.n1 h.n2 lo its.length lc hc
  · exact step_3 hg hI ha hT what V Wd I J N h.V h.W h.i1 h.i2 h.j1 h.j2 h.n1 h.n2 lo its.length lc hc
  · exact step_4 hg hI ha hT what V Wd I J N h.V h.W h.i1 h.i2 h.j1 h.j2 h.n1 h.n2 lo its.length lc hc
  · exact step_5 hg hI ha hT what V Wd I J N h.V h.W h.i1 h.i2 h.j1 h.j2 h.n1 h.n2 lo its.length lc hc
  · exact step_6 hg hI ha hT what V Wd I J N h.V h.W h.i1 h.i2 h.j1 h.j2 h.n1 h.n2 lo its.length lc hc
  · exact step_7 hg hI ha hT what V Wd I J N h.V h.W h.i1 h.i2 h.j1 h.j2 h.n1 h.n2 lo its.length lc hc
  · exact step_8 hg hI ha hT what V Wd I J N h.V h.W h.i1 h.i2 h.j1 h.j2 h.n1 h.n2 lo its.length lc hc
  · exact step_9 hg hI ha hT what V Wd I J N h.V h.W h.i1 h.i2 h.j1 h.j2 h.n1 h.n2 lo its.length lc hc
  · exact step_10 hg hI ha hT what V Wd I J N h.V h.W h.i1 h.i2 h.j1 h.j2 h.n1 h.n2 lo its.length lc hc
  · exact step_11 hg hI ha hT what V Wd I J N h.V h.W h.i1 h.i2 h.j1 h.j2 h.n1 h.n2 lo its.length lc hc
  · exact step_12 hg hI ha hT what V Wd I J N h.V h.W h.i1 h.i2 h.j1 h.j2 h.n1 h.n2 lo its.length lc hc
  · exact step_13 hg hI ha hT what V Wd I J N h.V h.W h.i1 h.i2 h.j1 h.j2 h.n1 h.n2 lo its.length lc hc
  · exact step_14 hg hI ha hT what V Wd I J N h.V h.W h.i1 h.i2 h.j1 h.j2 h.n1 h.n2 lo lc its h.g h.b h.lo h.fl hc
  · exact step_15 hg hI ha hT what V Wd I J N h.V h.W h.i1 h.i2 h.j1 h.j2 h.n1 h.n2 lo its.length lc hc
/-- a list of operations that came in -/
def OpsAt (w : World) (ao : Option Addr) (len : Nat) : Prop := ∀ i, i < len → ∃ g o what V Wd I J N lo lc its, ao = some ⟨g, o, none⟩ ∧ OpIn w what V Wd I J N lo lc its ∧ w.cell? ⟨g, o + i * 7, none⟩ = some (.int .i64 what) ∧ w.cell? ⟨g, o + i * 7 + 1, none⟩ = some (.int .u64 V) ∧ w.cell? ⟨g, o + i * 7 + 2, none⟩ = some (.int .u64 Wd) ∧ w.cell? ⟨g, o + i * 7 + 3, none⟩ = some (.int .i64 I) ∧ w.cell? ⟨g, o + i * 7 + 4, none⟩ = some (.int .i64 J) ∧ w.cell? ⟨g, o + i * 7 + 5, none⟩ = some (.int .i64 N) ∧ w.cell? ⟨g, o + i * 7 + 6, none⟩ = some (.slice lo its.length lc)
theorem Pair.fr {w0 W : World} {X : List (Nat × Obj)} {hb mb rb : Nat} {lim : Int} (h : Pair w0 X hb mb rb lim W) : Fr [] w0 W := by obtain ⟨_, _, _, _, _, _, h⟩ := h; exact h.fr
theorem OpIn.fr0 {w w' : World} {what V Wd I J N : Int} {lo : Option Addr} {lc : Nat} {its : List (It × Int)} (h : OpIn w what V Wd I J N lo lc its) (hF : Fr [] w w') : OpIn w' what V Wd I J N lo lc its :=
  ⟨h.V, h.W, h.i1, h.i2, h.j1, h.j2, h.n1, h.n2, h.g.fr0 hF, h.b, fun hn a ha => Nat.lt_of_lt_of_le (h.lo hn a ha) hF.size, fun o ho fa n fc hv hn => Nat.lt_of_lt_of_le (h.fl o ho fa n fc hv hn) hF.size⟩
theorem OpsAt.fr0 {w w' : World} {ao : Option Addr} {len : Nat} (h : OpsAt w ao len) (hF : Fr [] w w') : OpsAt w' ao len := by
  intro i hi
  obtain ⟨g, o, what, V, Wd, I, J, N, lo, lc, its, e, hO, c0, c1, c2, c3, c4, c5, c6⟩ := h i hi
  exact ⟨g, o, what, V, Wd, I, J, N, lo, lc, its, e, hO.fr0 hF, hF.cell (by simp) c0, hF.cell (by simp) c1, hF.cell (by simp) c2, hF.cell (by simp) c3, hF.cell (by simp) c4, hF.cell (by simp) c5, hF.cell (by simp) c6⟩
/-- both heaps, just made -/
theorem pair_new {w W W' : World} {hb mb rb : Nat} {lim : Int} {lv : Value} (l1 : 64 ≤ lim) (l2 : lim ≤ 65536) (hL : Live w hb mb (Mem.fresh lim) W) (hF : Fr [] W W') (hR : RefAt W' rb ⟨lim, [], 0, 0⟩ lv) (hnew : ∀ k ∈ rfoot rb ⟨lim, [], 0, 0⟩ lv, W.heap.size ≤ k) : Pair w [] hb mb rb lim W' := by
  refine ⟨[], [], 0, 0, ⟨l1, l2, by simp [endOf, flatW]; omega, by omega, by omega, (fun _ h => by cases h), (fun _ h => by cases h), ⟨by omega, by omega, fun i x hx => by simp at hx⟩⟩, trivial, ?_⟩
  exact two_new (m := absMem lim [] 0 0) hL hF hR hnew
end Go.Proofs.YtjnccpeeeiafjaaGreatDoor
namespace Go.Proofs.YtjnccpeeeiafjaaGreatDoor
open Go.ChangeShapes Go.WideShapes Go.RowKit Go.Deep
section
variable {H : Type} {enc : TypeId × Value → H} {w : World} {base : Nat} {spare : Nat → Bool} {held : Bool}
theorem cells_Op : Tryz.prog.cellsOf 36 = 7 := by kernel_rfl
set_option maxRecDepth 100000 in
theorem read_ops {n : Nat} {v : Value} {y : DataW H × List MemPlace} (h : DataW.trod enc Tryz.prog w base spare held n 22 [v] = some y) (hl : Light 22 y.1) : ∃ ao len cap, v = .slice ao len cap ∧ OpsAt w ao len := by
  rcases open_slice Tryz.underlying22 h with ⟨hcs, hx⟩ | ⟨a, len, cap, m, k, D, Pl, hcs, -, hlc, -, hm, hx, hi⟩
  · simp only [List.cons.injEq, and_true] at hcs
    subst hcs
    exact ⟨none, 0, 0, rfl, fun i hi => by omega⟩
  · simp only [List.cons.injEq, and_true] at hcs
    subst hcs
    have hml : len ≤ m := by rw [hm]; split <;> omega
    rw [hx] at hl
    obtain ⟨-, hle⟩ := hl.slice Tryz.underlying22
    refine ⟨some a, len, cap, rfl, fun i hil => ?_⟩
    have hfst : ∃ b o, a = ⟨b, o, none⟩ := by
      obtain ⟨cs', hc, ht⟩ := hi 0 (by omega)
      rw [cells_Op] at hc
      obtain ⟨-, hcl, hat⟩ := World.cells?_some hc
      have h0 := hat 0 (by omega)
      rw [add_add] at h0
      have h0' : w.cell? a = cs'[0]? := by simpa [Addr.add] using h0
      rw [List.getElem?_eq_getElem (by omega)] at h0'
      exact spot_of h0'
    obtain ⟨b, o, rfl⟩ := hfst
    obtain ⟨cs', hc, ht⟩ := hi i (by omega)
    rw [cells_Op] at hc
    obtain ⟨-, hcl, hat⟩ := World.cells?_some hc
    have hld := hle (D i) (List.mem_map.2 ⟨i, List.mem_range.2 hil, rfl⟩)
    obtain ⟨ys, k', hx', hsz, hf⟩ := fields_of Tryz.underlying36 (by kernel_rfl) (by kernel_rfl) ht
    simp only at hx'
    rw [hx'] at hld
    obtain ⟨v0, y0, c0, hy0, t0⟩ := hf 0 _ rfl
    obtain ⟨v1, y1, c1, hy1, t1⟩ := hf 1 _ rfl
    obtain ⟨v2, y2, c2, hy2, t2⟩ := hf 2 _ rfl
    obtain ⟨v3, y3, c3, hy3, t3⟩ := hf 3 _ rfl
    obtain ⟨v4, y4, c4, hy4, t4⟩ := hf 4 _ rfl
    obtain ⟨v5, y5, c5, hy5, t5⟩ := hf 5 _ rfl
    obtain ⟨v6, y6, c6, hy6, t6⟩ := hf 6 _ rfl
    have l6 := hld.field Tryz.underlying36 (j := 6) rfl hy6
    obtain ⟨z0, e0, -, g0⟩ := DataW.trod_int Tryz.underlying3 t0
    obtain ⟨z1, e1, -, g1⟩ := DataW.trod_int Tryz.underlying33 t1
    obtain ⟨z2, e2, -, g2⟩ := DataW.trod_int Tryz.underlying33 t2
    obtain ⟨z3, e3, -, g3⟩ := DataW.trod_int Tryz.underlying3 t3
    obtain ⟨z4, e4, -, g4⟩ := DataW.trod_int Tryz.underlying3 t4
    obtain ⟨z5, e5, -, g5⟩ := DataW.trod_int Tryz.underlying3 t5
    obtain ⟨lo, lc, its, rfl, hG, hB, hlo, hfl⟩ := read_objs t6 l6
    simp only [List.cons.injEq, and_true] at e0 e1 e2 e3 e4 e5
    subst e0
    subst e1
    subst e2
    subst e3
    subst e4
    subst e5
    have a0 := (hat 0 (by omega)).trans c0
    have a1 := (hat 1 (by omega)).trans c1
    have a2 := (hat 2 (by omega)).trans c2
    have a3 := (hat 3 (by omega)).trans c3
    have a4 := (hat 4 (by omega)).trans c4
    have a5 := (hat 5 (by omega)).trans c5
    have a6 := (hat 6 (by omega)).trans c6
    rw [add_add, Lib.add_plain] at a0 a1 a2 a3 a4 a5 a6
    exact ⟨b, o, z0, z1, z2, z3, z4, z5, lo, lc, its, rfl, ⟨wf_u64' g1, wf_u64' g2, (wf_i64' g3).1, (wf_i64' g3).2, (wf_i64' g4).1, (wf_i64' g4).2, (wf_i64' g5).1, (wf_i64' g5).2, hG, hB, hlo, hfl⟩, a0, a1, a2, a3, a4, a5, a6⟩
end
end Go.Proofs.YtjnccpeeeiafjaaGreatDoor
namespace Go.Proofs.YtjnccpeeeiafjaaGreatDoor
open Go.RowKit

/-- Returned a heap, beside which the document's holds the same. -/
def Makes (lim : Int) (w : World) (e : Ending) (w' : World) : Prop := ∃ hb mb rb, e = .returned (.pointer (some ⟨hb, 0, none⟩)) ∧ Pair w [] hb mb rb lim w'
set_option maxRecDepth 100000 in
set_option maxHeartbeats 4000000 in
theorem made_makes (a0 : Int) {ao : Option Addr} {len cap : Nat} {w : World} (hg : Glob w) (hO : OpsAt w ao len) :
    ∃ lim : Int, 64 ≤ lim ∧ lim ≤ 65536 ∧ Calls Tryz.prog 15 #[.int .i64 a0, .slice ao len cap] w (Makes lim w) := by
  obtain ⟨L0, hL0⟩ : ∃ L0, bits .and .i64 a0 1023 = L0 := ⟨_, rfl⟩
  have hL1 : 0 ≤ L0 ∧ L0 ≤ 1023 := by rw [← hL0]; exact and_mask a0 1023 (by omega)
  obtain ⟨l1, l2⟩ := hL1
  refine ⟨64 + L0, by omega, by omega, ?_⟩
  have HG := Lib.hid hg
  have HO := Lib.hid hO
  have hNew := live_new (64 + L0) w (by omega) (by omega)
  have hRN := fun W => rnew (64 + L0) W (by omega) (by omega)
  have HRN := Lib.hid hRN
  clear hg hO hRN
  go_enter Tryz.func15, Tryz.ntmps15
  go_wp2_with (first
    | (go_at_call 11; refine hNew.mono ?_; rintro e w1 ⟨hb, mb, rfl, hLv⟩; have HLV := Lib.hid hLv; have hrn := HRN.out w1; clear hLv)
    | (go_at_call 12; refine hrn.mono ?_; rintro e w2 ⟨rfl, hR, hF⟩; obtain ⟨rb, hrb⟩ : ∃ rb, rb = w1.heap.size := ⟨_, rfl⟩; have HP : Hid (Pair w [] hb mb rb (64 + L0) w2) := (by rw [hrb]; exact pair_new (by omega) (by omega) HLV.out hF hR (fun k hk => by simp [rfoot, Value.ownBlock] at hk; omega)); rw [← hrb]; clear hR hF hrb))
  go_loopw [9] (fun i wr => ∃ k : Nat, k ≤ 200 ∧ i = .int .i64 k ∧ Hid (Pair w [] hb mb rb (64 + L0) wr)) (fun i _ => 200 - (intOf i).toNat)
  case atStart => exact ⟨0, Nat.zero_le _, rfl, HP⟩
  case round =>
    obtain ⟨k, hk, rfl, hPk⟩ := hrel
    by_cases hlt : k < len ∧ k < 200
    · obtain ⟨h1, h2⟩ := hlt
      obtain ⟨g, o, what, V, Wd, I, J, N, lo, lc, its, rfl, hOp, c0, c1, c2, c3, c4, c5, c6⟩ := HO.out k h1
      have hFk := hPk.out.fr
      have d0 := hFk.cell (by simp) c0
      have d1 := hFk.cell (by simp) c1
      have d2 := hFk.cell (by simp) c2
      have d3 := hFk.cell (by simp) c3
      have d4 := hFk.cell (by simp) c4
      have d5 := hFk.cell (by simp) c5
      have d6 := hFk.cell (by simp) c6
      have hst := step_any HG.out hPk.out hOp
      unfold opCells at hst
      generalize its.length = il at *
      clear c0 c1 c2 c3 c4 c5 c6 hFk hOp hNew hrn HP
      go_wp2_with (first | (go_at_call 13; refine hst.mono ?_; rintro e w3 ⟨rfl, hP3⟩; have HP3 := Lib.hid hP3; clear hP3))
      go_roundw
      case rel => exact ⟨k + 1, by omega, by go_num, HP3⟩
      case measure => simp [intOf]; omega
    · have hd : decide (k < len) = false ∨ decide (k < 200) = false := by simp; omega
      by_cases h1 : k < len
      · have h2 : 200 ≤ k := by omega
        clear hd hlt
        go_wp2
        go_ret
        exact ⟨hb, mb, rb, rfl, hPk.out⟩
      · clear hd hlt
        go_wp2
        go_ret
        exact ⟨hb, mb, rb, rfl, hPk.out⟩
end Go.Proofs.YtjnccpeeeiafjaaGreatDoor
