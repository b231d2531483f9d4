/- step: what both heaps answer is the same, whatever is asked: the cases but Load. step: further cases. step: further cases. step: further cases. -/
import Derived.Test.YtjnccpeeeiafjaaGreatDoorMBoth
import Derived.Test.YtjnccpeeeiafjaaGreatDoorMLists
import Derived.Test.YtjnccpeeeiafjaaGreatDoorMRanges
namespace Go.Proofs.YtjnccpeeeiafjaaGreatDoor
open Go.RowKit

/-- the references of the document's objects, as numbers -/
def refsI (l : List RO) : List Int := l.map fun o => 2 * (o.pos : Int)
theorem refsI_len (l : List RO) : (refsI l).length = l.length := by simp [refsI]
theorem robjs {W : World} {rb : Nat} {r : RH} {lv : Value} (h : RefAt W rb r lv) : Calls Tryz.prog 42 #[.pointer (some ⟨rb, 0, none⟩)] W fun e W' => ∃ ao cap, e = .returned (.slice ao (refsI r.l).length cap) ∧ WordsAt W' ao (refsI r.l) ∧ Fr [] W W' := by
  refine (robjects h).mono ?_
  rintro e W' ⟨v, rfl, hr, hF, -⟩
  obtain ⟨ao, cap, rfl⟩ := row_shape hr
  refine ⟨ao, cap, by rw [refsI_len], fun i x hx => ?_, hF⟩
  have hi : i < r.l.length := by have := (List.getElem?_eq_some_iff.1 hx).1; rwa [refsI_len] at this
  obtain ⟨g, c, e, hc, -, -⟩ := row_at hr hi
  cases e
  refine ⟨g, 0, rfl, ?_⟩
  rw [Nat.zero_add, hc]
  simp only [refsI, List.getElem?_map] at hx
  simp only [refsR, List.getElem?_map]
  cases hl : r.l[i]? with
  | none => rw [hl] at hx; cases hx
  | some o => rw [hl] at hx; cases hx; rfl
theorem chosen_WB {l : List Int} (hl : ∀ x ∈ l, WB x) {x i : Int} (hx : WB x) : WB (chosenI l x i) := by
  unfold chosenI
  split
  · rename_i h
    have hlt : i.toNat % l.length < l.length := Nat.mod_lt _ (List.length_pos_iff.2 h.2)
    rw [List.getD_eq_getElem?_getD, List.getElem?_eq_getElem hlt]
    exact hl _ (List.getElem_mem _)
  · exact hx
theorem refs_WB {W : World} {rb : Nat} {r : RH} {lv : Value} (h : RefAt W rb r lv) : ∀ x ∈ refsI r.l, WB x := by
  intro x hx
  obtain ⟨o, ho, rfl⟩ := List.mem_map.1 hx
  have := h.small o ho
  unfold WB
  omega
/-- both heaps hold the same objects -/
def Pair (w0 : World) (X : List (Nat × Obj)) (hb mb rb : Nat) (lim : Int) (W : World) : Prop := ∃ os l root hashes, OInv lim os hashes ∧ RAgree 1 l os ∧ Two w0 X hb mb rb (absMem lim os root hashes) ⟨lim, l, root, hashes⟩ W
/-- an operation's cells -/
def opCells (what V Wd I J N : Int) (lo : Option Addr) (ln lc : Nat) : Array Value := #[.int .i64 what, .int .u64 V, .int .u64 Wd, .int .i64 I, .int .i64 J, .int .i64 N, .slice lo ln lc]
/-- what step promises -/
def Steps2 (w0 : World) (X : List (Nat × Obj)) (hb mb rb : Nat) (lim : Int) (e : Ending) (W' : World) : Prop := e = .returned (.bool true) ∧ Pair w0 X hb mb rb lim W'
section
variable {w0 W : World} {X : List (Nat × Obj)} {hb mb rb : Nat} {lim root hashes : Int} {os : List Ob} {l : List RO}
/-- the document's Objects, and chosen words of it -/
theorem objs2 (hT : Two w0 X hb mb rb (absMem lim os root hashes) ⟨lim, l, root, hashes⟩ W) : Calls Tryz.prog 42 #[.pointer (some ⟨rb, 0, none⟩)] W fun e W2 => ∃ ao cap, e = .returned (.slice ao (refsI l).length cap) ∧ WordsAt W2 ao (refsI l) ∧ (∀ x ∈ refsI l, WB x) ∧ (refsI l).length ≤ 65536 ∧ Two w0 X hb mb rb (absMem lim os root hashes) ⟨lim, l, root, hashes⟩ W2 := by
  have h' := hT
  obtain ⟨wv, sv, lv, -, -, hR, -⟩ := h'
  refine (robjs hR).mono ?_
  rintro e W2 ⟨ao, cap, rfl, hwd, hF⟩
  exact ⟨ao, cap, rfl, hwd, refs_WB hR, by rw [refsI_len]; exact hR.most, hT.still hF⟩
set_option maxRecDepth 100000 in
set_option maxHeartbeats 4000000 in
theorem step_0 (hg : Glob w0) (hI : OInv lim os hashes) (ha : RAgree 1 l os) (hT : Two w0 X hb mb rb (absMem lim os root hashes) ⟨lim, l, root, hashes⟩ W)
    (what V Wd I J N : Int) (hV : WB V) (hW : WB Wd) (i1 : -9223372036854775808 ≤ I) (i2 : I ≤ 9223372036854775807) (j1 : -9223372036854775808 ≤ J) (j2 : J ≤ 9223372036854775807) (n1 : -9223372036854775808 ≤ N) (n2 : N ≤ 9223372036854775807) (lo : Option Addr) (ln lc : Nat) (hw : bits .and .i64 what 15 = 0) :
    Calls Tryz.prog 13 #[.pointer (some ⟨hb, 0, none⟩), .pointer (some ⟨rb, 0, none⟩), .agg (opCells what V Wd I J N lo ln lc)] W (Steps2 w0 X hb mb rb lim) := by
  have hobs := objs2 (hT.keep (.cells (opCells what V Wd I J N lo ln lc) 36))
  have HMV : Hid (∀ x y, WB x → WB y → Moves (IsTwo .u64) w0 hb mb rb lim os l root hashes 22 44 [.int .u64 x, .int .i64 N, .int .u64 y]) := Lib.hid fun x y hx hy => moves_alloc hg hI ha x N y hx.1 hx.2 n1 n2 hy.1 hy.2
  clear hI ha hg hT
  unfold opCells at *
  go_enter Tryz.func13, Tryz.ntmps13
  go_wp2_with (first
    | (go_at_call 42; refine hobs.mono ?_; rintro e w1 ⟨ao, cap, rfl, hwd, hwb, hlen, hT2⟩; have hk := hT2.kept (List.mem_cons_self ..); have q0 := cell_of_heap (o := 0) hk rfl; have q1 := cell_of_heap (o := 1) hk rfl; have q2 := cell_of_heap (o := 2) hk rfl; have q3 := cell_of_heap (o := 3) hk rfl; have q4 := cell_of_heap (o := 4) hk rfl; have q5 := cell_of_heap (o := 5) hk rfl; have hc1 := chosen_gives (cap := cap) (refsI l) hwd hlen V I i1 i2; have hc2 := chosen_gives (cap := cap) (refsI l) hwd hlen Wd J j1 j2; have hx := chosen_WB (i := I) hwb hV; have hy := chosen_WB (i := J) hwb hW; generalize chosenI (refsI l) V I = x at *; generalize chosenI (refsI l) Wd J = y at *; have HMM := HMV.out x y hx hy; obtain ⟨v, os', root', hashes', ⟨a1, e1, rfl⟩, hI', m1, m2⟩ := HMM; have HII := Lib.hid hI'; have HM2 := Lib.hid m2; have hm1 := m1 _ _ hT2; generalize (refsI l).length = len at *; clear hobs hT2 hk hwd hwb hlen m1 m2 hI' HMV)
    | (go_at_call_of 43 (Value.int .u64 V); refine hc1.mono ?_; rintro e w' ⟨rfl, rfl⟩)
    | (go_at_call_of 43 (Value.int .u64 Wd); refine hc2.mono ?_; rintro e w' ⟨rfl, rfl⟩)
    | (go_at_call 22; refine hm1.mono ?_; rintro e w2 ⟨rfl, hT3⟩; have hk := hT3.kept (List.mem_cons_self ..); have p5 := cell_of_heap (o := 5) hk rfl; have hm2 := HM2.out _ _ hT3; clear hT3 hk)
    | (go_at_call 44; refine hm2.mono ?_; rintro e w3 ⟨rfl, l', ha', hT4⟩; have HT4 := Lib.hid hT4.less; have HA4 := Lib.hid ha'; clear hT4 ha'))
  go_ret
  exact ⟨ret1 (vb (by simp)), os', l', root', hashes', HII.out, HA4.out, HT4.out⟩
end
end Go.Proofs.YtjnccpeeeiafjaaGreatDoor
namespace Go.Proofs.YtjnccpeeeiafjaaGreatDoor
open Go.RowKit
section
variable {w0 W : World} {X : List (Nat × Obj)} {hb mb rb : Nat} {lim root hashes : Int} {os : List Ob} {l : List RO}
set_option maxRecDepth 100000 in
set_option maxHeartbeats 4000000 in
theorem step_1 (hg : Glob w0) (hI : OInv lim os hashes) (ha : RAgree 1 l os) (hT : Two w0 X hb mb rb (absMem lim os root hashes) ⟨lim, l, root, hashes⟩ W)
    (what V Wd I J N : Int) (hV : WB V) (hW : WB Wd) (i1 : -9223372036854775808 ≤ I) (i2 : I ≤ 9223372036854775807) (j1 : -9223372036854775808 ≤ J) (j2 : J ≤ 9223372036854775807) (n1 : -9223372036854775808 ≤ N) (n2 : N ≤ 9223372036854775807) (lo : Option Addr) (ln lc : Nat) (hw : bits .and .i64 what 15 = 1) :
    Calls Tryz.prog 13 #[.pointer (some ⟨hb, 0, none⟩), .pointer (some ⟨rb, 0, none⟩), .agg (opCells what V Wd I J N lo ln lc)] W (Steps2 w0 X hb mb rb lim) := by
  have hobs := objs2 (hT.keep (.cells (opCells what V Wd I J N lo ln lc) 36))
  have HMV : Hid (∀ x y, WB x → WB y → Moves (IsTwo .u64) w0 hb mb rb lim os l root hashes 22 44 [.int .u64 x, .int .i64 N, .int .u64 y]) := Lib.hid fun x y hx hy => moves_alloc hg hI ha x N y hx.1 hx.2 n1 n2 hy.1 hy.2
  clear hI ha hg hT
  unfold opCells at *
  go_enter Tryz.func13, Tryz.ntmps13
  go_wp2_with (first
    | (go_at_call 42; refine hobs.mono ?_; rintro e w1 ⟨ao, cap, rfl, hwd, hwb, hlen, hT2⟩; have hk := hT2.kept (List.mem_cons_self ..); have q0 := cell_of_heap (o := 0) hk rfl; have q1 := cell_of_heap (o := 1) hk rfl; have q2 := cell_of_heap (o := 2) hk rfl; have q3 := cell_of_heap (o := 3) hk rfl; have q4 := cell_of_heap (o := 4) hk rfl; have q5 := cell_of_heap (o := 5) hk rfl; have hc1 := chosen_gives (cap := cap) (refsI l) hwd hlen V I i1 i2; have hc2 := chosen_gives (cap := cap) (refsI l) hwd hlen Wd J j1 j2; have hx := chosen_WB (i := I) hwb hV; have hy := chosen_WB (i := J) hwb hW; generalize chosenI (refsI l) V I = x at *; generalize chosenI (refsI l) Wd J = y at *; have HMM := HMV.out x y hx hy; obtain ⟨v, os', root', hashes', ⟨a1, e1, rfl⟩, hI', m1, m2⟩ := HMM; have HII := Lib.hid hI'; have HM2 := Lib.hid m2; have hm1 := m1 _ _ hT2; generalize (refsI l).length = len at *; clear hobs hT2 hk hwd hwb hlen m1 m2 hI' HMV)
    | (go_at_call_of 43 (Value.int .u64 V); refine hc1.mono ?_; rintro e w' ⟨rfl, rfl⟩)
    | (go_at_call_of 43 (Value.int .u64 Wd); refine hc2.mono ?_; rintro e w' ⟨rfl, rfl⟩)
    | (go_at_call 22; refine hm1.mono ?_; rintro e w2 ⟨rfl, hT3⟩; have hk := hT3.kept (List.mem_cons_self ..); have p5 := cell_of_heap (o := 5) hk rfl; have hm2 := HM2.out _ _ hT3; clear hT3 hk)
    | (go_at_call 44; refine hm2.mono ?_; rintro e w3 ⟨rfl, l', ha', hT4⟩; have HT4 := Lib.hid hT4.less; have HA4 := Lib.hid ha'; clear hT4 ha'))
  go_ret
  exact ⟨ret1 (vb (by simp)), os', l', root', hashes', HII.out, HA4.out, HT4.out⟩
set_option maxRecDepth 100000 in
set_option maxHeartbeats 4000000 in
theorem step_2 (hg : Glob w0) (hI : OInv lim os hashes) (ha : RAgree 1 l os) (hT : Two w0 X hb mb rb (absMem lim os root hashes) ⟨lim, l, root, hashes⟩ W)
    (what V Wd I J N : Int) (hV : WB V) (hW : WB Wd) (i1 : -9223372036854775808 ≤ I) (i2 : I ≤ 9223372036854775807) (j1 : -9223372036854775808 ≤ J) (j2 : J ≤ 9223372036854775807) (n1 : -9223372036854775808 ≤ N) (n2 : N ≤ 9223372036854775807) (lo : Option Addr) (ln lc : Nat) (hw : bits .and .i64 what 15 = 2) :
    Calls Tryz.prog 13 #[.pointer (some ⟨hb, 0, none⟩), .pointer (some ⟨rb, 0, none⟩), .agg (opCells what V Wd I J N lo ln lc)] W (Steps2 w0 X hb mb rb lim) := by
  have hobs := objs2 (hT.keep (.cells (opCells what V Wd I J N lo ln lc) 36))
  have HMV : Hid (∀ x y, WB x → WB y → Moves (IsTwo .u64) w0 hb mb rb lim os l root hashes 22 44 [.int .u64 x, .int .i64 N, .int .u64 y]) := Lib.hid fun x y hx hy => moves_alloc hg hI ha x N y hx.1 hx.2 n1 n2 hy.1 hy.2
  clear hI ha hg hT
  unfold opCells at *
  go_enter Tryz.func13, Tryz.ntmps13
  go_wp2_with (first
    | (go_at_call 42; refine hobs.mono ?_; rintro e w1 ⟨ao, cap, rfl, hwd, hwb, hlen, hT2⟩; have hk := hT2.kept (List.mem_cons_self ..); have q0 := cell_of_heap (o := 0) hk rfl; have q1 := cell_of_heap (o := 1) hk rfl; have q2 := cell_of_heap (o := 2) hk rfl; have q3 := cell_of_heap (o := 3) hk rfl; have q4 := cell_of_heap (o := 4) hk rfl; have q5 := cell_of_heap (o := 5) hk rfl; have hc1 := chosen_gives (cap := cap) (refsI l) hwd hlen V I i1 i2; have hc2 := chosen_gives (cap := cap) (refsI l) hwd hlen Wd J j1 j2; have hx := chosen_WB (i := I) hwb hV; have hy := chosen_WB (i := J) hwb hW; generalize chosenI (refsI l) V I = x at *; generalize chosenI (refsI l) Wd J = y at *; have HMM := HMV.out x y hx hy; obtain ⟨v, os', root', hashes', ⟨a1, e1, rfl⟩, hI', m1, m2⟩ := HMM; have HII := Lib.hid hI'; have HM2 := Lib.hid m2; have hm1 := m1 _ _ hT2; generalize (refsI l).length = len at *; clear hobs hT2 hk hwd hwb hlen m1 m2 hI' HMV)
    | (go_at_call_of 43 (Value.int .u64 V); refine hc1.mono ?_; rintro e w' ⟨rfl, rfl⟩)
    | (go_at_call_of 43 (Value.int .u64 Wd); refine hc2.mono ?_; rintro e w' ⟨rfl, rfl⟩)
    | (go_at_call 22; refine hm1.mono ?_; rintro e w2 ⟨rfl, hT3⟩; have hk := hT3.kept (List.mem_cons_self ..); have p5 := cell_of_heap (o := 5) hk rfl; have hm2 := HM2.out _ _ hT3; clear hT3 hk)
    | (go_at_call 44; refine hm2.mono ?_; rintro e w3 ⟨rfl, l', ha', hT4⟩; have HT4 := Lib.hid hT4.less; have HA4 := Lib.hid ha'; clear hT4 ha'))
  go_ret
  exact ⟨ret1 (vb (by simp)), os', l', root', hashes', HII.out, HA4.out, HT4.out⟩
set_option maxRecDepth 100000 in
set_option maxHeartbeats 4000000 in
theorem step_3 (hg : Glob w0) (hI : OInv lim os hashes) (ha : RAgree 1 l os) (hT : Two w0 X hb mb rb (absMem lim os root hashes) ⟨lim, l, root, hashes⟩ W)
    (what V Wd I J N : Int) (hV : WB V) (hW : WB Wd) (i1 : -9223372036854775808 ≤ I) (i2 : I ≤ 9223372036854775807) (j1 : -9223372036854775808 ≤ J) (j2 : J ≤ 9223372036854775807) (n1 : -9223372036854775808 ≤ N) (n2 : N ≤ 9223372036854775807) (lo : Option Addr) (ln lc : Nat) (hw : bits .and .i64 what 15 = 3) :
    Calls Tryz.prog 13 #[.pointer (some ⟨hb, 0, none⟩), .pointer (some ⟨rb, 0, none⟩), .agg (opCells what V Wd I J N lo ln lc)] W (Steps2 w0 X hb mb rb lim) := by
  have hobs := objs2 (hT.keep (.cells (opCells what V Wd I J N lo ln lc) 36))
  have HMV : Hid (∀ x y, WB x → WB y → Moves (IsTwo .u64) w0 hb mb rb lim os l root hashes 22 44 [.int .u64 x, .int .i64 N, .int .u64 y]) := Lib.hid fun x y hx hy => moves_alloc hg hI ha x N y hx.1 hx.2 n1 n2 hy.1 hy.2
  clear hI ha hg hT
  unfold opCells at *
  go_enter Tryz.func13, Tryz.ntmps13
  go_wp2_with (first
    | (go_at_call 42; refine hobs.mono ?_; rintro e w1 ⟨ao, cap, rfl, hwd, hwb, hlen, hT2⟩; have hk := hT2.kept (List.mem_cons_self ..); have q0 := cell_of_heap (o := 0) hk rfl; have q1 := cell_of_heap (o := 1) hk rfl; have q2 := cell_of_heap (o := 2) hk rfl; have q3 := cell_of_heap (o := 3) hk rfl; have q4 := cell_of_heap (o := 4) hk rfl; have q5 := cell_of_heap (o := 5) hk rfl; have hc1 := chosen_gives (cap := cap) (refsI l) hwd hlen V I i1 i2; have hc2 := chosen_gives (cap := cap) (refsI l) hwd hlen Wd J j1 j2; have hx := chosen_WB (i := I) hwb hV; have hy := chosen_WB (i := J) hwb hW; generalize chosenI (refsI l) V I = x at *; generalize chosenI (refsI l) Wd J = y at *; have HMM := HMV.out x y hx hy; obtain ⟨v, os', root', hashes', ⟨a1, e1, rfl⟩, hI', m1, m2⟩ := HMM; have HII := Lib.hid hI'; have HM2 := Lib.hid m2; have hm1 := m1 _ _ hT2; generalize (refsI l).length = len at *; clear hobs hT2 hk hwd hwb hlen m1 m2 hI' HMV)
    | (go_at_call_of 43 (Value.int .u64 V); refine hc1.mono ?_; rintro e w' ⟨rfl, rfl⟩)
    | (go_at_call_of 43 (Value.int .u64 Wd); refine hc2.mono ?_; rintro e w' ⟨rfl, rfl⟩)
    | (go_at_call 22; refine hm1.mono ?_; rintro e w2 ⟨rfl, hT3⟩; have hk := hT3.kept (List.mem_cons_self ..); have p5 := cell_of_heap (o := 5) hk rfl; have hm2 := HM2.out _ _ hT3; clear hT3 hk)
    | (go_at_call 44; refine hm2.mono ?_; rintro e w3 ⟨rfl, l', ha', hT4⟩; have HT4 := Lib.hid hT4.less; have HA4 := Lib.hid ha'; clear hT4 ha'))
  go_ret
  exact ⟨ret1 (vb (by simp)), os', l', root', hashes', HII.out, HA4.out, HT4.out⟩
set_option maxRecDepth 100000 in
set_option maxHeartbeats 4000000 in
theorem step_4 (hg : Glob w0) (hI : OInv lim os hashes) (ha : RAgree 1 l os) (hT : Two w0 X hb mb rb (absMem lim os root hashes) ⟨lim, l, root, hashes⟩ W)
    (what V Wd I J N : Int) (hV : WB V) (hW : WB Wd) (i1 : -9223372036854775808 ≤ I) (i2 : I ≤ 9223372036854775807) (j1 : -9223372036854775808 ≤ J) (j2 : J ≤ 9223372036854775807) (n1 : -9223372036854775808 ≤ N) (n2 : N ≤ 9223372036854775807) (lo : Option Addr) (ln lc : Nat) (hw : bits .and .i64 what 15 = 4) :
    Calls Tryz.prog 13 #[.pointer (some ⟨hb, 0, none⟩), .pointer (some ⟨rb, 0, none⟩), .agg (opCells what V Wd I J N lo ln lc)] W (Steps2 w0 X hb mb rb lim) := by
  have hobs := objs2 (hT.keep (.cells (opCells what V Wd I J N lo ln lc) 36))
  have HMV : Hid (∀ x y, WB x → WB y → Moves (IsTwo .u64) w0 hb mb rb lim os l root hashes 22 44 [.int .u64 x, .int .i64 N, .int .u64 y]) := Lib.hid fun x y hx hy => moves_alloc hg hI ha x N y hx.1 hx.2 n1 n2 hy.1 hy.2
  clear hI ha hg hT
  unfold opCells at *
  go_enter Tryz.func13, Tryz.ntmps13
  go_wp2_with (first
    | (go_at_call 42; refine hobs.mono ?_; rintro e w1 ⟨ao, cap, rfl, hwd, hwb, hlen, hT2⟩; have hk := hT2.kept (List.mem_cons_self ..); have q0 := cell_of_heap (o := 0) hk rfl; have q1 := cell_of_heap (o := 1) hk rfl; have q2 := cell_of_heap (o := 2) hk rfl; have q3 := cell_of_heap (o := 3) hk rfl; have q4 := cell_of_heap (o := 4) hk rfl; have q5 := cell_of_heap (o := 5) hk rfl; have hc1 := chosen_gives (cap := cap) (refsI l) hwd hlen V I i1 i2; have hc2 := chosen_gives (cap := cap) (refsI l) hwd hlen Wd J j1 j2; have hx := chosen_WB (i := I) hwb hV; have hy := chosen_WB (i := J) hwb hW; generalize chosenI (refsI l) V I = x at *; generalize chosenI (refsI l) Wd J = y at *; have HMM := HMV.out x y hx hy; obtain ⟨v, os', root', hashes', ⟨a1, e1, rfl⟩, hI', m1, m2⟩ := HMM; have HII := Lib.hid hI'; have HM2 := Lib.hid m2; have hm1 := m1 _ _ hT2; generalize (refsI l).length = len at *; clear hobs hT2 hk hwd hwb hlen m1 m2 hI' HMV)
    | (go_at_call_of 43 (Value.int .u64 V); refine hc1.mono ?_; rintro e w' ⟨rfl, rfl⟩)
    | (go_at_call_of 43 (Value.int .u64 Wd); refine hc2.mono ?_; rintro e w' ⟨rfl, rfl⟩)
    | (go_at_call 22; refine hm1.mono ?_; rintro e w2 ⟨rfl, hT3⟩; have hk := hT3.kept (List.mem_cons_self ..); have p5 := cell_of_heap (o := 5) hk rfl; have hm2 := HM2.out _ _ hT3; clear hT3 hk)
    | (go_at_call 44; refine hm2.mono ?_; rintro e w3 ⟨rfl, l', ha', hT4⟩; have HT4 := Lib.hid hT4.less; have HA4 := Lib.hid ha'; clear hT4 ha'))
  go_ret
  exact ⟨ret1 (vb (by simp)), os', l', root', hashes', HII.out, HA4.out, HT4.out⟩
end
end Go.Proofs.YtjnccpeeeiafjaaGreatDoor
namespace Go.Proofs.YtjnccpeeeiafjaaGreatDoor
open Go.RowKit
section
variable {w0 W : World} {X : List (Nat × Obj)} {hb mb rb : Nat} {lim root hashes : Int} {os : List Ob} {l : List RO}
set_option maxRecDepth 100000 in
set_option maxHeartbeats 4000000 in
theorem step_5 (hg : Glob w0) (hI : OInv lim os hashes) (ha : RAgree 1 l os) (hT : Two w0 X hb mb rb (absMem lim os root hashes) ⟨lim, l, root, hashes⟩ W)
    (what V Wd I J N : Int) (hV : WB V) (hW : WB Wd) (i1 : -9223372036854775808 ≤ I) (i2 : I ≤ 9223372036854775807) (j1 : -9223372036854775808 ≤ J) (j2 : J ≤ 9223372036854775807) (_n1 : -9223372036854775808 ≤ N) (_n2 : N ≤ 9223372036854775807) (lo : Option Addr) (ln lc : Nat) (hw : bits .and .i64 what 15 = 5) :
    Calls Tryz.prog 13 #[.pointer (some ⟨hb, 0, none⟩), .pointer (some ⟨rb, 0, none⟩), .agg (opCells what V Wd I J N lo ln lc)] W (Steps2 w0 X hb mb rb lim) := by
  have hobs := objs2 (hT.keep (.cells (opCells what V Wd I J N lo ln lc) 36))
  have HMV : Hid (∀ x y, WB x → WB y → Moves (IsTwo .i64) w0 hb mb rb lim os l root hashes 45 46 [.int .u64 x]) := Lib.hid fun x y hx hy => Same.moves hI ha (same_size hg ha (by have := hI.fit; have := hI.l2; omega) x hx.1 hx.2)
  clear hI ha hg hT
  unfold opCells at *
  go_enter Tryz.func13, Tryz.ntmps13
  go_wp2_with (first
    | (go_at_call 42; refine hobs.mono ?_; rintro e w1 ⟨ao, cap, rfl, hwd, hwb, hlen, hT2⟩; have hk := hT2.kept (List.mem_cons_self ..); have q0 := cell_of_heap (o := 0) hk rfl; have q1 := cell_of_heap (o := 1) hk rfl; have q2 := cell_of_heap (o := 2) hk rfl; have q3 := cell_of_heap (o := 3) hk rfl; have q4 := cell_of_heap (o := 4) hk rfl; have q5 := cell_of_heap (o := 5) hk rfl; have hc1 := chosen_gives (cap := cap) (refsI l) hwd hlen V I i1 i2; have hc2 := chosen_gives (cap := cap) (refsI l) hwd hlen Wd J j1 j2; have hx := chosen_WB (i := I) hwb hV; have hy := chosen_WB (i := J) hwb hW; generalize chosenI (refsI l) V I = x at *; generalize chosenI (refsI l) Wd J = y at *; have HMM := HMV.out x y hx hy; obtain ⟨v, os', root', hashes', ⟨a1, e1, rfl⟩, hI', m1, m2⟩ := HMM; have HII := Lib.hid hI'; have HM2 := Lib.hid m2; have hm1 := m1 _ _ hT2; generalize (refsI l).length = len at *; clear hobs hT2 hk hwd hwb hlen m1 m2 hI' HMV)
    | (go_at_call_of 43 (Value.int .u64 V); refine hc1.mono ?_; rintro e w' ⟨rfl, rfl⟩)
    | (go_at_call_of 43 (Value.int .u64 Wd); refine hc2.mono ?_; rintro e w' ⟨rfl, rfl⟩)
    | (go_at_call 45; refine hm1.mono ?_; rintro e w2 ⟨rfl, hT3⟩; have hk := hT3.kept (List.mem_cons_self ..); have p5 := cell_of_heap (o := 5) hk rfl; have hm2 := HM2.out _ _ hT3; clear hT3 hk)
    | (go_at_call 46; refine hm2.mono ?_; rintro e w3 ⟨rfl, l', ha', hT4⟩; have HT4 := Lib.hid hT4.less; have HA4 := Lib.hid ha'; clear hT4 ha'))
  go_ret
  exact ⟨ret1 (vb (by simp)), os', l', root', hashes', HII.out, HA4.out, HT4.out⟩
set_option maxRecDepth 100000 in
set_option maxHeartbeats 4000000 in
theorem step_6 (hg : Glob w0) (hI : OInv lim os hashes) (ha : RAgree 1 l os) (hT : Two w0 X hb mb rb (absMem lim os root hashes) ⟨lim, l, root, hashes⟩ W)
    (what V Wd I J N : Int) (hV : WB V) (hW : WB Wd) (i1 : -9223372036854775808 ≤ I) (i2 : I ≤ 9223372036854775807) (j1 : -9223372036854775808 ≤ J) (j2 : J ≤ 9223372036854775807) (_n1 : -9223372036854775808 ≤ N) (_n2 : N ≤ 9223372036854775807) (lo : Option Addr) (ln lc : Nat) (hw : bits .and .i64 what 15 = 6) :
    Calls Tryz.prog 13 #[.pointer (some ⟨hb, 0, none⟩), .pointer (some ⟨rb, 0, none⟩), .agg (opCells what V Wd I J N lo ln lc)] W (Steps2 w0 X hb mb rb lim) := by
  have hobs := objs2 (hT.keep (.cells (opCells what V Wd I J N lo ln lc) 36))
  have HMV : Hid (∀ x y, WB x → WB y → Moves (IsTwo .u64) w0 hb mb rb lim os l root hashes 24 47 [.int .u64 x]) := Lib.hid fun x y hx hy => Same.moves hI ha (same_class hg ha (by have := hI.fit; have := hI.l2; omega) x hx.1 hx.2)
  clear hI ha hg hT
  unfold opCells at *
  go_enter Tryz.func13, Tryz.ntmps13
  go_wp2_with (first
    | (go_at_call 42; refine hobs.mono ?_; rintro e w1 ⟨ao, cap, rfl, hwd, hwb, hlen, hT2⟩; have hk := hT2.kept (List.mem_cons_self ..); have q0 := cell_of_heap (o := 0) hk rfl; have q1 := cell_of_heap (o := 1) hk rfl; have q2 := cell_of_heap (o := 2) hk rfl; have q3 := cell_of_heap (o := 3) hk rfl; have q4 := cell_of_heap (o := 4) hk rfl; have q5 := cell_of_heap (o := 5) hk rfl; have hc1 := chosen_gives (cap := cap) (refsI l) hwd hlen V I i1 i2; have hc2 := chosen_gives (cap := cap) (refsI l) hwd hlen Wd J j1 j2; have hx := chosen_WB (i := I) hwb hV; have hy := chosen_WB (i := J) hwb hW; generalize chosenI (refsI l) V I = x at *; generalize chosenI (refsI l) Wd J = y at *; have HMM := HMV.out x y hx hy; obtain ⟨v, os', root', hashes', ⟨a1, e1, rfl⟩, hI', m1, m2⟩ := HMM; have HII := Lib.hid hI'; have HM2 := Lib.hid m2; have hm1 := m1 _ _ hT2; generalize (refsI l).length = len at *; clear hobs hT2 hk hwd hwb hlen m1 m2 hI' HMV)
    | (go_at_call_of 43 (Value.int .u64 V); refine hc1.mono ?_; rintro e w' ⟨rfl, rfl⟩)
    | (go_at_call_of 43 (Value.int .u64 Wd); refine hc2.mono ?_; rintro e w' ⟨rfl, rfl⟩)
    | (go_at_call 24; refine hm1.mono ?_; rintro e w2 ⟨rfl, hT3⟩; have hk := hT3.kept (List.mem_cons_self ..); have p5 := cell_of_heap (o := 5) hk rfl; have hm2 := HM2.out _ _ hT3; clear hT3 hk)
    | (go_at_call 47; refine hm2.mono ?_; rintro e w3 ⟨rfl, l', ha', hT4⟩; have HT4 := Lib.hid hT4.less; have HA4 := Lib.hid ha'; clear hT4 ha'))
  go_ret
  exact ⟨ret1 (vb (by simp)), os', l', root', hashes', HII.out, HA4.out, HT4.out⟩
set_option maxRecDepth 100000 in
set_option maxHeartbeats 4000000 in
theorem step_7 (hg : Glob w0) (hI : OInv lim os hashes) (ha : RAgree 1 l os) (hT : Two w0 X hb mb rb (absMem lim os root hashes) ⟨lim, l, root, hashes⟩ W)
    (what V Wd I J N : Int) (hV : WB V) (hW : WB Wd) (i1 : -9223372036854775808 ≤ I) (i2 : I ≤ 9223372036854775807) (j1 : -9223372036854775808 ≤ J) (j2 : J ≤ 9223372036854775807) (_n1 : -9223372036854775808 ≤ N) (_n2 : N ≤ 9223372036854775807) (lo : Option Addr) (ln lc : Nat) (hw : bits .and .i64 what 15 = 7) :
    Calls Tryz.prog 13 #[.pointer (some ⟨hb, 0, none⟩), .pointer (some ⟨rb, 0, none⟩), .agg (opCells what V Wd I J N lo ln lc)] W (Steps2 w0 X hb mb rb lim) := by
  have hobs := objs2 (hT.keep (.cells (opCells what V Wd I J N lo ln lc) 36))
  have HMV : Hid (∀ x y, WB x → WB y → Moves IsInt1 w0 hb mb rb lim os l root hashes 48 49 [.int .u64 x, .int .u64 y]) := Lib.hid fun x y hx hy => moves_setClass hg hI ha x y hx.1 hx.2 hy.1 hy.2
  clear hI ha hg hT
  unfold opCells at *
  go_enter Tryz.func13, Tryz.ntmps13
  go_wp2_with (first
    | (go_at_call 42; refine hobs.mono ?_; rintro e w1 ⟨ao, cap, rfl, hwd, hwb, hlen, hT2⟩; have hk := hT2.kept (List.mem_cons_self ..); have q0 := cell_of_heap (o := 0) hk rfl; have q1 := cell_of_heap (o := 1) hk rfl; have q2 := cell_of_heap (o := 2) hk rfl; have q3 := cell_of_heap (o := 3) hk rfl; have q4 := cell_of_heap (o := 4) hk rfl; have q5 := cell_of_heap (o := 5) hk rfl; have hc1 := chosen_gives (cap := cap) (refsI l) hwd hlen V I i1 i2; have hc2 := chosen_gives (cap := cap) (refsI l) hwd hlen Wd J j1 j2; have hx := chosen_WB (i := I) hwb hV; have hy := chosen_WB (i := J) hwb hW; generalize chosenI (refsI l) V I = x at *; generalize chosenI (refsI l) Wd J = y at *; have HMM := HMV.out x y hx hy; obtain ⟨v, os', root', hashes', ⟨a1, rfl⟩, hI', m1, m2⟩ := HMM; have HII := Lib.hid hI'; have HM2 := Lib.hid m2; have hm1 := m1 _ _ hT2; generalize (refsI l).length = len at *; clear hobs hT2 hk hwd hwb hlen m1 m2 hI' HMV)
    | (go_at_call_of 43 (Value.int .u64 V); refine hc1.mono ?_; rintro e w' ⟨rfl, rfl⟩)
    | (go_at_call_of 43 (Value.int .u64 Wd); refine hc2.mono ?_; rintro e w' ⟨rfl, rfl⟩)
    | (go_at_call 48; refine hm1.mono ?_; rintro e w2 ⟨rfl, hT3⟩; have hk := hT3.kept (List.mem_cons_self ..); have p5 := cell_of_heap (o := 5) hk rfl; have hm2 := HM2.out _ _ hT3; clear hT3 hk)
    | (go_at_call 49; refine hm2.mono ?_; rintro e w3 ⟨rfl, l', ha', hT4⟩; have HT4 := Lib.hid hT4.less; have HA4 := Lib.hid ha'; clear hT4 ha'))
  go_ret
  exact ⟨ret1 (vb (by simp)), os', l', root', hashes', HII.out, HA4.out, HT4.out⟩
set_option maxRecDepth 100000 in
set_option maxHeartbeats 4000000 in
theorem step_8 (hg : Glob w0) (hI : OInv lim os hashes) (ha : RAgree 1 l os) (hT : Two w0 X hb mb rb (absMem lim os root hashes) ⟨lim, l, root, hashes⟩ W)
    (what V Wd I J N : Int) (hV : WB V) (hW : WB Wd) (i1 : -9223372036854775808 ≤ I) (i2 : I ≤ 9223372036854775807) (j1 : -9223372036854775808 ≤ J) (j2 : J ≤ 9223372036854775807) (_n1 : -9223372036854775808 ≤ N) (_n2 : N ≤ 9223372036854775807) (lo : Option Addr) (ln lc : Nat) (hw : bits .and .i64 what 15 = 8) :
    Calls Tryz.prog 13 #[.pointer (some ⟨hb, 0, none⟩), .pointer (some ⟨rb, 0, none⟩), .agg (opCells what V Wd I J N lo ln lc)] W (Steps2 w0 X hb mb rb lim) := by
  have hobs := objs2 (hT.keep (.cells (opCells what V Wd I J N lo ln lc) 36))
  have HMV : Hid (∀ x y, WB x → WB y → Moves (IsTwo .i64) w0 hb mb rb lim os l root hashes 20 50 [.int .u64 x]) := Lib.hid fun x y hx hy => moves_hash hg hI ha x hx.1 hx.2
  clear hI ha hg hT
  unfold opCells at *
  go_enter Tryz.func13, Tryz.ntmps13
  go_wp2_with (first
    | (go_at_call 42; refine hobs.mono ?_; rintro e w1 ⟨ao, cap, rfl, hwd, hwb, hlen, hT2⟩; have hk := hT2.kept (List.mem_cons_self ..); have q0 := cell_of_heap (o := 0) hk rfl; have q1 := cell_of_heap (o := 1) hk rfl; have q2 := cell_of_heap (o := 2) hk rfl; have q3 := cell_of_heap (o := 3) hk rfl; have q4 := cell_of_heap (o := 4) hk rfl; have q5 := cell_of_heap (o := 5) hk rfl; have hc1 := chosen_gives (cap := cap) (refsI l) hwd hlen V I i1 i2; have hc2 := chosen_gives (cap := cap) (refsI l) hwd hlen Wd J j1 j2; have hx := chosen_WB (i := I) hwb hV; have hy := chosen_WB (i := J) hwb hW; generalize chosenI (refsI l) V I = x at *; generalize chosenI (refsI l) Wd J = y at *; have HMM := HMV.out x y hx hy; obtain ⟨v, os', root', hashes', ⟨a1, e1, rfl⟩, hI', m1, m2⟩ := HMM; have HII := Lib.hid hI'; have HM2 := Lib.hid m2; have hm1 := m1 _ _ hT2; generalize (refsI l).length = len at *; clear hobs hT2 hk hwd hwb hlen m1 m2 hI' HMV)
    | (go_at_call_of 43 (Value.int .u64 V); refine hc1.mono ?_; rintro e w' ⟨rfl, rfl⟩)
    | (go_at_call_of 43 (Value.int .u64 Wd); refine hc2.mono ?_; rintro e w' ⟨rfl, rfl⟩)
    | (go_at_call 20; refine hm1.mono ?_; rintro e w2 ⟨rfl, hT3⟩; have hk := hT3.kept (List.mem_cons_self ..); have p5 := cell_of_heap (o := 5) hk rfl; have hm2 := HM2.out _ _ hT3; clear hT3 hk)
    | (go_at_call 50; refine hm2.mono ?_; rintro e w3 ⟨rfl, l', ha', hT4⟩; have HT4 := Lib.hid hT4.less; have HA4 := Lib.hid ha'; clear hT4 ha'))
  go_ret
  exact ⟨ret1 (vb (by simp)), os', l', root', hashes', HII.out, HA4.out, HT4.out⟩
end
end Go.Proofs.YtjnccpeeeiafjaaGreatDoor
namespace Go.Proofs.YtjnccpeeeiafjaaGreatDoor
open Go.RowKit
section
variable {w0 W : World} {X : List (Nat × Obj)} {hb mb rb : Nat} {lim root hashes : Int} {os : List Ob} {l : List RO}
set_option maxRecDepth 100000 in
set_option maxHeartbeats 4000000 in
theorem step_9 (hg : Glob w0) (hI : OInv lim os hashes) (ha : RAgree 1 l os) (hT : Two w0 X hb mb rb (absMem lim os root hashes) ⟨lim, l, root, hashes⟩ W)
    (what V Wd I J N : Int) (hV : WB V) (hW : WB Wd) (i1 : -9223372036854775808 ≤ I) (i2 : I ≤ 9223372036854775807) (j1 : -9223372036854775808 ≤ J) (j2 : J ≤ 9223372036854775807) (n1 : -9223372036854775808 ≤ N) (n2 : N ≤ 9223372036854775807) (lo : Option Addr) (ln lc : Nat) (hw : bits .and .i64 what 15 = 9) :
    Calls Tryz.prog 13 #[.pointer (some ⟨hb, 0, none⟩), .pointer (some ⟨rb, 0, none⟩), .agg (opCells what V Wd I J N lo ln lc)] W (Steps2 w0 X hb mb rb lim) := by
  have hobs := objs2 (hT.keep (.cells (opCells what V Wd I J N lo ln lc) 36))
  have HMV : Hid (∀ x y, WB x → WB y → Moves (IsTwo .u64) w0 hb mb rb lim os l root hashes 40 51 [.int .u64 x, .int .i64 N]) := Lib.hid fun x y hx hy => Same.moves hI ha (same_fetch hg ha (by have := hI.fit; have := hI.l2; omega) x N hx.1 hx.2 n1 n2)
  clear hI ha hg hT
  unfold opCells at *
  go_enter Tryz.func13, Tryz.ntmps13
  go_wp2_with (first
    | (go_at_call 42; refine hobs.mono ?_; rintro e w1 ⟨ao, cap, rfl, hwd, hwb, hlen, hT2⟩; have hk := hT2.kept (List.mem_cons_self ..); have q0 := cell_of_heap (o := 0) hk rfl; have q1 := cell_of_heap (o := 1) hk rfl; have q2 := cell_of_heap (o := 2) hk rfl; have q3 := cell_of_heap (o := 3) hk rfl; have q4 := cell_of_heap (o := 4) hk rfl; have q5 := cell_of_heap (o := 5) hk rfl; have hc1 := chosen_gives (cap := cap) (refsI l) hwd hlen V I i1 i2; have hc2 := chosen_gives (cap := cap) (refsI l) hwd hlen Wd J j1 j2; have hx := chosen_WB (i := I) hwb hV; have hy := chosen_WB (i := J) hwb hW; generalize chosenI (refsI l) V I = x at *; generalize chosenI (refsI l) Wd J = y at *; have HMM := HMV.out x y hx hy; obtain ⟨v, os', root', hashes', ⟨a1, e1, rfl⟩, hI', m1, m2⟩ := HMM; have HII := Lib.hid hI'; have HM2 := Lib.hid m2; have hm1 := m1 _ _ hT2; generalize (refsI l).length = len at *; clear hobs hT2 hk hwd hwb hlen m1 m2 hI' HMV)
    | (go_at_call_of 43 (Value.int .u64 V); refine hc1.mono ?_; rintro e w' ⟨rfl, rfl⟩)
    | (go_at_call_of 43 (Value.int .u64 Wd); refine hc2.mono ?_; rintro e w' ⟨rfl, rfl⟩)
    | (go_at_call 40; refine hm1.mono ?_; rintro e w2 ⟨rfl, hT3⟩; have hk := hT3.kept (List.mem_cons_self ..); have p5 := cell_of_heap (o := 5) hk rfl; have hm2 := HM2.out _ _ hT3; clear hT3 hk)
    | (go_at_call 51; refine hm2.mono ?_; rintro e w3 ⟨rfl, l', ha', hT4⟩; have HT4 := Lib.hid hT4.less; have HA4 := Lib.hid ha'; clear hT4 ha'))
  go_ret
  exact ⟨ret1 (vb (by simp)), os', l', root', hashes', HII.out, HA4.out, HT4.out⟩
set_option maxRecDepth 100000 in
set_option maxHeartbeats 4000000 in
theorem step_10 (hg : Glob w0) (hI : OInv lim os hashes) (ha : RAgree 1 l os) (hT : Two w0 X hb mb rb (absMem lim os root hashes) ⟨lim, l, root, hashes⟩ W)
    (what V Wd I J N : Int) (hV : WB V) (hW : WB Wd) (i1 : -9223372036854775808 ≤ I) (i2 : I ≤ 9223372036854775807) (j1 : -9223372036854775808 ≤ J) (j2 : J ≤ 9223372036854775807) (n1 : -9223372036854775808 ≤ N) (n2 : N ≤ 9223372036854775807) (lo : Option Addr) (ln lc : Nat) (hw : bits .and .i64 what 15 = 10) :
    Calls Tryz.prog 13 #[.pointer (some ⟨hb, 0, none⟩), .pointer (some ⟨rb, 0, none⟩), .agg (opCells what V Wd I J N lo ln lc)] W (Steps2 w0 X hb mb rb lim) := by
  have hobs := objs2 (hT.keep (.cells (opCells what V Wd I J N lo ln lc) 36))
  have HMV : Hid (∀ x y, WB x → WB y → Moves (IsTwo .u64) w0 hb mb rb lim os l root hashes 40 51 [.int .u64 x, .int .i64 N]) := Lib.hid fun x y hx hy => Same.moves hI ha (same_fetch hg ha (by have := hI.fit; have := hI.l2; omega) x N hx.1 hx.2 n1 n2)
  clear hI ha hg hT
  unfold opCells at *
  go_enter Tryz.func13, Tryz.ntmps13
  go_wp2_with (first
    | (go_at_call 42; refine hobs.mono ?_; rintro e w1 ⟨ao, cap, rfl, hwd, hwb, hlen, hT2⟩; have hk := hT2.kept (List.mem_cons_self ..); have q0 := cell_of_heap (o := 0) hk rfl; have q1 := cell_of_heap (o := 1) hk rfl; have q2 := cell_of_heap (o := 2) hk rfl; have q3 := cell_of_heap (o := 3) hk rfl; have q4 := cell_of_heap (o := 4) hk rfl; have q5 := cell_of_heap (o := 5) hk rfl; have hc1 := chosen_gives (cap := cap) (refsI l) hwd hlen V I i1 i2; have hc2 := chosen_gives (cap := cap) (refsI l) hwd hlen Wd J j1 j2; have hx := chosen_WB (i := I) hwb hV; have hy := chosen_WB (i := J) hwb hW; generalize chosenI (refsI l) V I = x at *; generalize chosenI (refsI l) Wd J = y at *; have HMM := HMV.out x y hx hy; obtain ⟨v, os', root', hashes', ⟨a1, e1, rfl⟩, hI', m1, m2⟩ := HMM; have HII := Lib.hid hI'; have HM2 := Lib.hid m2; have hm1 := m1 _ _ hT2; generalize (refsI l).length = len at *; clear hobs hT2 hk hwd hwb hlen m1 m2 hI' HMV)
    | (go_at_call_of 43 (Value.int .u64 V); refine hc1.mono ?_; rintro e w' ⟨rfl, rfl⟩)
    | (go_at_call_of 43 (Value.int .u64 Wd); refine hc2.mono ?_; rintro e w' ⟨rfl, rfl⟩)
    | (go_at_call 40; refine hm1.mono ?_; rintro e w2 ⟨rfl, hT3⟩; have hk := hT3.kept (List.mem_cons_self ..); have p5 := cell_of_heap (o := 5) hk rfl; have hm2 := HM2.out _ _ hT3; clear hT3 hk)
    | (go_at_call 51; refine hm2.mono ?_; rintro e w3 ⟨rfl, l', ha', hT4⟩; have HT4 := Lib.hid hT4.less; have HA4 := Lib.hid ha'; clear hT4 ha'))
  go_ret
  exact ⟨ret1 (vb (by simp)), os', l', root', hashes', HII.out, HA4.out, HT4.out⟩
set_option maxRecDepth 100000 in
set_option maxHeartbeats 4000000 in
theorem step_13 (hg : Glob w0) (hI : OInv lim os hashes) (ha : RAgree 1 l os) (hT : Two w0 X hb mb rb (absMem lim os root hashes) ⟨lim, l, root, hashes⟩ W)
    (what V Wd I J N : Int) (hV : WB V) (hW : WB Wd) (i1 : -9223372036854775808 ≤ I) (i2 : I ≤ 9223372036854775807) (j1 : -9223372036854775808 ≤ J) (j2 : J ≤ 9223372036854775807) (_n1 : -9223372036854775808 ≤ N) (_n2 : N ≤ 9223372036854775807) (lo : Option Addr) (ln lc : Nat) (hw : bits .and .i64 what 15 = 13) :
    Calls Tryz.prog 13 #[.pointer (some ⟨hb, 0, none⟩), .pointer (some ⟨rb, 0, none⟩), .agg (opCells what V Wd I J N lo ln lc)] W (Steps2 w0 X hb mb rb lim) := by
  have hobs := objs2 (hT.keep (.cells (opCells what V Wd I J N lo ln lc) 36))
  have HMV : Hid (∀ x y, WB x → WB y → Moves IsInt1 w0 hb mb rb lim os l root hashes 53 54 [.int .u64 x]) := Lib.hid fun x y hx hy => moves_setRoot hg hI ha x hx.1 hx.2
  clear hI ha hg hT
  unfold opCells at *
  go_enter Tryz.func13, Tryz.ntmps13
  go_wp2_with (first
    | (go_at_call 42; refine hobs.mono ?_; rintro e w1 ⟨ao, cap, rfl, hwd, hwb, hlen, hT2⟩; have hk := hT2.kept (List.mem_cons_self ..); have q0 := cell_of_heap (o := 0) hk rfl; have q1 := cell_of_heap (o := 1) hk rfl; have q2 := cell_of_heap (o := 2) hk rfl; have q3 := cell_of_heap (o := 3) hk rfl; have q4 := cell_of_heap (o := 4) hk rfl; have q5 := cell_of_heap (o := 5) hk rfl; have hc1 := chosen_gives (cap := cap) (refsI l) hwd hlen V I i1 i2; have hc2 := chosen_gives (cap := cap) (refsI l) hwd hlen Wd J j1 j2; have hx := chosen_WB (i := I) hwb hV; have hy := chosen_WB (i := J) hwb hW; generalize chosenI (refsI l) V I = x at *; generalize chosenI (refsI l) Wd J = y at *; have HMM := HMV.out x y hx hy; obtain ⟨v, os', root', hashes', ⟨a1, rfl⟩, hI', m1, m2⟩ := HMM; have HII := Lib.hid hI'; have HM2 := Lib.hid m2; have hm1 := m1 _ _ hT2; generalize (refsI l).length = len at *; clear hobs hT2 hk hwd hwb hlen m1 m2 hI' HMV)
    | (go_at_call_of 43 (Value.int .u64 V); refine hc1.mono ?_; rintro e w' ⟨rfl, rfl⟩)
    | (go_at_call_of 43 (Value.int .u64 Wd); refine hc2.mono ?_; rintro e w' ⟨rfl, rfl⟩)
    | (go_at_call 53; refine hm1.mono ?_; rintro e w2 ⟨rfl, hT3⟩; have hk := hT3.kept (List.mem_cons_self ..); have p5 := cell_of_heap (o := 5) hk rfl; have hm2 := HM2.out _ _ hT3; clear hT3 hk)
    | (go_at_call 54; refine hm2.mono ?_; rintro e w3 ⟨rfl, l', ha', hT4⟩; have HT4 := Lib.hid hT4.less; have HA4 := Lib.hid ha'; clear hT4 ha'))
  go_ret
  exact ⟨ret1 (vb (by simp)), os', l', root', hashes', HII.out, HA4.out, HT4.out⟩
set_option maxRecDepth 100000 in
set_option maxHeartbeats 4000000 in
theorem step_15 (_hg : Glob w0) (hI : OInv lim os hashes) (ha : RAgree 1 l os) (hT : Two w0 X hb mb rb (absMem lim os root hashes) ⟨lim, l, root, hashes⟩ W)
    (what V Wd I J N : Int) (hV : WB V) (hW : WB Wd) (i1 : -9223372036854775808 ≤ I) (i2 : I ≤ 9223372036854775807) (j1 : -9223372036854775808 ≤ J) (j2 : J ≤ 9223372036854775807) (_n1 : -9223372036854775808 ≤ N) (_n2 : N ≤ 9223372036854775807) (lo : Option Addr) (ln lc : Nat) (hw : bits .and .i64 what 15 = 15) :
    Calls Tryz.prog 13 #[.pointer (some ⟨hb, 0, none⟩), .pointer (some ⟨rb, 0, none⟩), .agg (opCells what V Wd I J N lo ln lc)] W (Steps2 w0 X hb mb rb lim) := by
  have hobs := objs2 (hT.keep (.cells (opCells what V Wd I J N lo ln lc) 36))
  have HMV : Hid (∀ x y, WB x → WB y → Moves IsBool1 w0 hb mb rb lim os l root hashes 38 56 [.int .u64 x]) := Lib.hid fun x y hx hy => Same.moves hI ha (same_has ha x hx.1 hx.2)
  clear hI ha hT
  unfold opCells at *
  go_enter Tryz.func13, Tryz.ntmps13
  go_wp2_with (first
    | (go_at_call 42; refine hobs.mono ?_; rintro e w1 ⟨ao, cap, rfl, hwd, hwb, hlen, hT2⟩; have hk := hT2.kept (List.mem_cons_self ..); have q0 := cell_of_heap (o := 0) hk rfl; have q1 := cell_of_heap (o := 1) hk rfl; have q2 := cell_of_heap (o := 2) hk rfl; have q3 := cell_of_heap (o := 3) hk rfl; have q4 := cell_of_heap (o := 4) hk rfl; have q5 := cell_of_heap (o := 5) hk rfl; have hc1 := chosen_gives (cap := cap) (refsI l) hwd hlen V I i1 i2; have hc2 := chosen_gives (cap := cap) (refsI l) hwd hlen Wd J j1 j2; have hx := chosen_WB (i := I) hwb hV; have hy := chosen_WB (i := J) hwb hW; generalize chosenI (refsI l) V I = x at *; generalize chosenI (refsI l) Wd J = y at *; have HMM := HMV.out x y hx hy; obtain ⟨v, os', root', hashes', ⟨a1, rfl⟩, hI', m1, m2⟩ := HMM; have HII := Lib.hid hI'; have HM2 := Lib.hid m2; have hm1 := m1 _ _ hT2; generalize (refsI l).length = len at *; clear hobs hT2 hk hwd hwb hlen m1 m2 hI' HMV)
    | (go_at_call_of 43 (Value.int .u64 V); refine hc1.mono ?_; rintro e w' ⟨rfl, rfl⟩)
    | (go_at_call_of 43 (Value.int .u64 Wd); refine hc2.mono ?_; rintro e w' ⟨rfl, rfl⟩)
    | (go_at_call 38; refine hm1.mono ?_; rintro e w2 ⟨rfl, hT3⟩; have hk := hT3.kept (List.mem_cons_self ..); have p5 := cell_of_heap (o := 5) hk rfl; have hm2 := HM2.out _ _ hT3; clear hT3 hk)
    | (go_at_call 56; refine hm2.mono ?_; rintro e w3 ⟨rfl, l', ha', hT4⟩; have HT4 := Lib.hid hT4.less; have HA4 := Lib.hid ha'; clear hT4 ha'))
  go_ret
  exact ⟨ret1 (vb (by simp)), os', l', root', hashes', HII.out, HA4.out, HT4.out⟩
end
end Go.Proofs.YtjnccpeeeiafjaaGreatDoor
