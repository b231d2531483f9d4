/- ir: the document's examples. -/
import Derived.Test.YtcdpgchkdjjfgaaIrCheck
import Derived.Test.YtcdpgchkdjjfgaaIrOps
namespace Go.Proofs.Ytcdpgchkdjjfgaa
open Go.RowKit

/-- the unit of the examples -/
def exU (b1 b2 b3 b4 : Nat) : Un := ⟨1, 0, 0, 1, 0, 0, none, [], 0, some ⟨b4, 0, none⟩, [⟨8, 0, ⟨0, 0, 0⟩, some ⟨b3, 0, none⟩, [⟨0, 0, 0⟩], 1, 0⟩], 1, some ⟨b1, 0, none⟩, [0, 1], 2, some ⟨b2, 0, none⟩, [⟨none, [], 0⟩], 1⟩
theorem exU_ok (b1 b2 b3 b4 : Nat) : errU (exU b1 b2 b3 b4) = 0 := by
  have h1 : numsOk (exU b1 b2 b3 b4) = true := rfl
  have h2 : startsOk (exU b1 b2 b3 b4) = true := (startsOk_iff _).2 ⟨by simp [exU], by simp [exU], rfl, rfl, rfl, fun k a b ha hb => by
    match k, ha, hb with
    | 0, ha, hb => simp [exU] at ha hb; omega
    | k + 1, ha, hb => simp [exU] at hb⟩
  have h3 : (exU b1 b2 b3 b4).maps.all (mapOk (exU b1 b2 b3 b4).regs (exU b1 b2 b3 b4).spills (exU b1 b2 b3 b4).temps) = true := rfl
  have h4 : codeOk (exU b1 b2 b3 b4) = true := (codeOk_iff _).2 ⟨fun i hi => by simp [exU] at hi, rfl, rfl, fun i j a b hij ha hb => by
    simp only [exU] at ha hb
    have h5 := (List.getElem?_eq_some_iff.1 hb).1
    simp at h5
    omega⟩
  unfold errU okU
  rw [h1, h2, h3, h4]
  rfl
theorem exU_UB (b1 b2 b3 b4 : Nat) : UB (exU b1 b2 b3 b4) := by
  refine ⟨fun i hi => by simp [exU] at hi, fun i hi => ?_, fun m hm => ?_, SlOk.nil, ⟨fun h => by simp [exU] at h, by simp [exU], by simp [exU, maxLen]⟩, ⟨fun h => by simp [exU] at h, by simp [exU], by simp [exU, maxLen]⟩, ⟨fun h => by simp [exU] at h, by simp [exU], by simp [exU, maxLen]⟩, by simp [exU], by simp [exU], by simp [exU], by simp [exU], ⟨by simp [exU], by simp [exU]⟩, fun n hn => ?_, by simp [exU], by simp [exU], by simp [exU], by simp [exU], by simp [exU]⟩
  · simp only [exU, List.mem_singleton] at hi
    subst hi
    exact ⟨⟨fun h => by simp at h, by simp, by simp [maxLen]⟩, ⟨by simp, by simp⟩, ⟨by simp, by simp⟩, fun s hs => by simp at hs; subst hs; exact ⟨by simp, by simp⟩, by simp⟩
  · simp only [exU, List.mem_singleton] at hm
    subst hm
    exact ⟨by simp, fun s hs => by simp at hs, SlOk.nil⟩
  · simp [exU] at hn
    omega
theorem exU_at {w : World} {b1 b2 b3 b4 : Nat} (h1 : w.heap[b1]? = some (.cells #[.int .i64 0, .int .i64 1] 3 (0, 0))) (h2 : w.heap[b2]? = some (.cells #[.slice none 0 0] 26 (0, 0))) (h3 : w.heap[b3]? = some (.cells #[.int .i64 0, .int .i64 0, .int .u64 0] 25 (0, 0))) (h4 : w.heap[b4]? = some (.cells #[.int .i64 8, .int .i64 0, .int .i64 0, .int .i64 0, .int .u64 0, .slice (some ⟨b3, 0, none⟩) 1 1, .int .u64 0] 28 (0, 0))) : UAt w (exU b1 b2 b3 b4) := by
  refine ⟨fun k i hi => by simp [exU] at hi, fun k i hi => ?_, fun k n hn => ?_, fun k m hm => ?_⟩
  · match k, hi with
    | 0, hi =>
      simp only [exU, List.getElem?_cons_zero, Option.some.injEq] at hi
      subst hi
      refine ⟨⟨b4, 0, rfl, cell_of_heap h4 rfl, cell_of_heap h4 rfl, cell_of_heap h4 rfl, cell_of_heap h4 rfl, cell_of_heap h4 rfl, cell_of_heap h4 rfl, cell_of_heap h4 rfl⟩, fun k s hs => ?_⟩
      match k, hs with
      | 0, hs =>
        simp at hs
        subst hs
        exact ⟨b3, 0, rfl, cell_of_heap h3 rfl, cell_of_heap h3 rfl, cell_of_heap h3 rfl⟩
      | k + 1, hs => simp at hs
    | k + 1, hi => simp [exU] at hi
  · match k, hn with
    | 0, hn => simp [exU] at hn; subst hn; exact ⟨b1, 0, rfl, cell_of_heap h1 rfl⟩
    | 1, hn => simp [exU] at hn; subst hn; exact ⟨b1, 0, rfl, cell_of_heap h1 rfl⟩
    | k + 2, hn => simp [exU] at hn
  · match k, hm with
    | 0, hm =>
      simp only [exU, List.getElem?_cons_zero, Option.some.injEq] at hm
      subst hm
      exact ⟨⟨b2, 0, rfl, cell_of_heap h2 rfl⟩, fun k s hs => by simp at hs⟩
    | k + 1, hm => simp [exU] at hm
/-- the zero unit -/
def zeroU : Un := ⟨0, 0, 0, 0, 0, 0, none, [], 0, none, [], 0, none, [], 0, none, [], 0⟩
theorem zeroU_no : errU zeroU = 1 := by
  have h1 : numsOk zeroU = false := rfl
  unfold errU okU
  rw [h1]
  rfl
theorem zeroU_UB : UB zeroU := ⟨fun i hi => by simp [zeroU] at hi, fun i hi => by simp [zeroU] at hi, fun i hi => by simp [zeroU] at hi, SlOk.nil, SlOk.nil, SlOk.nil, SlOk.nil, by simp [zeroU], by simp [zeroU], by simp [zeroU], by simp [zeroU], ⟨by simp [zeroU], by simp [zeroU]⟩, fun i hi => by simp [zeroU] at hi, by simp [zeroU], by simp [zeroU], by simp [zeroU], by simp [zeroU], by simp [zeroU]⟩
theorem zeroU_at (w : World) : UAt w zeroU := ⟨fun k i hi => by simp [zeroU] at hi, fun k i hi => by simp [zeroU] at hi, fun k i hi => by simp [zeroU] at hi, fun k i hi => by simp [zeroU] at hi⟩
theorem hp6 (w : World) (o0 o1 o2 o3 o4 o5 : Obj) :
    ((((((w.alloc o0).alloc o1).alloc o2).alloc o3).alloc o4).alloc o5).heap[w.heap.size]? = some o0 ∧ ((((((w.alloc o0).alloc o1).alloc o2).alloc o3).alloc o4).alloc o5).heap[w.heap.size + 1]? = some o1 ∧ ((((((w.alloc o0).alloc o1).alloc o2).alloc o3).alloc o4).alloc o5).heap[w.heap.size + 1 + 1]? = some o2 ∧ ((((((w.alloc o0).alloc o1).alloc o2).alloc o3).alloc o4).alloc o5).heap[w.heap.size + 1 + 1 + 1]? = some o3 ∧ ((((((w.alloc o0).alloc o1).alloc o2).alloc o3).alloc o4).alloc o5).heap[w.heap.size + 1 + 1 + 1 + 1]? = some o4 ∧ ((((((w.alloc o0).alloc o1).alloc o2).alloc o3).alloc o4).alloc o5).heap[w.heap.size + 1 + 1 + 1 + 1 + 1]? = some o5 := by
  have a (v : World) (o p : Obj) (k : Nat) (h : v.heap[k]? = some o) : (v.alloc p).heap[k]? = some o := ((Fr.refl [] v).alloc p).heap (by simp) h
  have n (v : World) (o : Obj) (k : Nat) (h : v.heap.size = k) : (v.alloc o).heap[k]? = some o := by rw [← h]; exact heap_new v o
  refine ⟨?_, ?_, ?_, ?_, ?_, ?_⟩
  · exact a _ _ _ _ (a _ _ _ _ (a _ _ _ _ (a _ _ _ _ (a _ _ _ _ (n _ _ _ rfl)))))
  · exact a _ _ _ _ (a _ _ _ _ (a _ _ _ _ (a _ _ _ _ (n _ _ _ (by simp)))))
  · exact a _ _ _ _ (a _ _ _ _ (a _ _ _ _ (n _ _ _ (by simp))))
  · exact a _ _ _ _ (a _ _ _ _ (n _ _ _ (by simp)))
  · exact a _ _ _ _ (n _ _ _ (by simp))
  · exact n _ _ _ (by simp)
set_option maxRecDepth 100000 in
set_option maxHeartbeats 4000000 in
theorem awake11 (w : World) : Calls Try.prog 9 #[] w (Still (.bool true) w) := by
  have ht7 : ∀ W, Calls Try.prog 10 #[.int .i64 7] W (Still (.tuple #[.int .i64 1, .int .i64 5]) W) := fun W => ir_Takes 7 W
  have ht10 : ∀ W, Calls Try.prog 10 #[.int .i64 10] W (Still (.tuple #[.int .i64 0, .int .i64 (-1)]) W) := fun W => ir_Takes 10 W
  have hw4 : ∀ W, Calls Try.prog 12 #[.agg #[.int .i64 4, .int .i64 0, .int .i64 0, .int .i64 0, .int .u64 0, .slice none 0 0, .int .u64 0]] W (Still (.tuple #[.agg #[.int .i64 0, .int .i64 0, .int .u64 0], .bool false]) W) := fun W => ir_Writes ⟨4, 0, ⟨0, 0, 0⟩, none, [], 0, 0⟩ W
  have hw1 : ∀ W, Calls Try.prog 12 #[.agg #[.int .i64 1, .int .i64 0, .int .i64 0, .int .i64 3, .int .u64 0, .slice none 0 0, .int .u64 0]] W (Still (.tuple #[.agg #[.int .i64 0, .int .i64 3, .int .u64 0], .bool true]) W) := fun W => ir_Writes ⟨1, 0, ⟨0, 3, 0⟩, none, [], 0, 0⟩ W
  have hl4 : ∀ W, Calls Try.prog 14 #[.int .i64 4] W (Still (.bool false) W) := fun W => ir_Leaves 4 W
  have hl2 : ∀ W, Calls Try.prog 14 #[.int .i64 2] W (Still (.bool true) W) := fun W => ir_Leaves 2 W
  have hp1 : ∀ W, Calls Try.prog 16 #[.agg #[.int .i64 1, .int .i64 0, .int .u64 5]] W (Still (.bool false) W) := fun W => ir_Place ⟨1, 0, 5⟩ W
  have hp3 : ∀ W, Calls Try.prog 16 #[.agg #[.int .i64 3, .int .i64 2, .int .u64 0]] W (Still (.bool true) W) := fun W => ir_Place ⟨3, 2, 0⟩ W
  have hz : ∀ W, Calls Try.prog 21 #[zeroU.v] W (Still (.int .i64 1) W) := fun W => by
    have h := ir_Check zeroU W (zeroU_at W) zeroU_UB
    rw [zeroU_no] at h
    exact h
  unfold Un.v zeroU at hz
  simp only [List.length_nil] at hz
  have hex : ∀ {b1 b2 b3 b4 : Nat} W, UAt W (exU b1 b2 b3 b4) → Calls Try.prog 21 #[.agg #[.int .u64 1, .int .i64 0, .int .i64 0, .int .i64 1, .int .i64 0, .int .i64 0, .slice none 0 0, .slice (some ⟨b4, 0, none⟩) 1 1, .slice (some ⟨b1, 0, none⟩) 2 2, .slice (some ⟨b2, 0, none⟩) 1 1]] W (Still (.int .i64 0) W) := fun {b1 b2 b3 b4} W hA => by
    have h := ir_Check (exU b1 b2 b3 b4) W hA (exU_UB b1 b2 b3 b4)
    rw [exU_ok] at h
    exact h
  have HT7 := Lib.hid ht7
  have HT10 := Lib.hid ht10
  clear ht7 ht10
  go_enter Try.func9, Try.ntmps9
  go_wp2_with (first
    | (go_at_call 10; (with_reducible refine (HT7.out _).mono ?_); rintro e w1 ⟨rfl, hF⟩; have HF1 : Hid (Fr [] w w1) := Lib.hid hF; clear hF)
    | (go_at_call 10; (with_reducible refine (HT10.out _).mono ?_); rintro e w2 ⟨rfl, hF⟩; have HF2 : Hid (Fr [] w w2) := Lib.hid (HF1.out.trans hF); clear hF)
    | (go_at_call 12; (with_reducible refine (hw4 _).mono ?_); rintro e w3 ⟨rfl, hF⟩; have HF3 : Hid (Fr [] w w3) := Lib.hid (HF2.out.trans hF); clear hF)
    | (go_at_call 12; (with_reducible refine (hw1 _).mono ?_); rintro e w4 ⟨rfl, hF⟩; have HF4 : Hid (Fr [] w w4) := Lib.hid ((HF3.out.alloc _).trans hF); clear hF)
    | (go_at_call 14; (with_reducible refine (hl4 _).mono ?_); rintro e w5 ⟨rfl, hF⟩; have HF5 : Hid (Fr [] w w5) := Lib.hid (((((((HF4.out.alloc _).alloc _).alloc _).alloc _).alloc _).alloc _).trans hF); have HB5 := Lib.hid (And.intro (hF.heap (by simp) (hp6 _ _ _ _ _ _ _).1) (And.intro (hF.heap (by simp) (hp6 _ _ _ _ _ _ _).2.1) (And.intro (hF.heap (by simp) (hp6 _ _ _ _ _ _ _).2.2.1) (And.intro (hF.heap (by simp) (hp6 _ _ _ _ _ _ _).2.2.2.1) (And.intro (hF.heap (by simp) (hp6 _ _ _ _ _ _ _).2.2.2.2.1) (hF.heap (by simp) (hp6 _ _ _ _ _ _ _).2.2.2.2.2)))))); clear hF)
    | (go_at_call 14; (with_reducible refine (hl2 _).mono ?_); rintro e w6 ⟨rfl, hF⟩; have HF6 : Hid (Fr [] w5 w6) := Lib.hid hF; clear hF)
    | (go_at_call 16; (with_reducible refine (hp1 _).mono ?_); rintro e w7 ⟨rfl, hF⟩; have HF7 : Hid (Fr [] w5 w7) := Lib.hid (HF6.out.trans hF); clear hF)
    | (go_at_call 16; (with_reducible refine (hp3 _).mono ?_); rintro e w8 ⟨rfl, hF⟩; have HF8 : Hid (Fr [] w5 w8) := Lib.hid (HF7.out.trans hF); have hb0 := HF8.out.heap (by simp) HB5.out.1; have hb5 := HF8.out.heap (by simp) HB5.out.2.2.2.2.2; have n0 := cell_of_heap (o := 0) hb0 rfl; have n1 := cell_of_heap (o := 1) hb0 rfl; have n2 := cell_of_heap (o := 2) hb0 rfl; have u0 := cell_of_heap (o := 0) hb5 rfl; have u1 := cell_of_heap (o := 1) hb5 rfl; have u2 := cell_of_heap (o := 2) hb5 rfl; have u3 := cell_of_heap (o := 3) hb5 rfl; have u4 := cell_of_heap (o := 4) hb5 rfl; have u5 := cell_of_heap (o := 5) hb5 rfl; have u6 := cell_of_heap (o := 6) hb5 rfl; have u7 := cell_of_heap (o := 7) hb5 rfl; have u8 := cell_of_heap (o := 8) hb5 rfl; have u9 := cell_of_heap (o := 9) hb5 rfl; clear hF hb0 hb5)
    | (go_at_call 21; (with_reducible refine (hz _).mono ?_); rintro e w10 ⟨rfl, hF⟩; have HF10 : Hid (Fr [] w5 w10) := Lib.hid (HF9.out.trans hF); clear hF)
    | (go_at_call 21; (refine (hex _ (exU_at (HF8.out.heap (by simp) HB5.out.2.1) (HF8.out.heap (by simp) HB5.out.2.2.1) (HF8.out.heap (by simp) HB5.out.2.2.2.1) (HF8.out.heap (by simp) HB5.out.2.2.2.2.1))).mono ?_); rintro e w9 ⟨rfl, hF⟩; have HF9 : Hid (Fr [] w5 w9) := Lib.hid (HF8.out.trans hF); clear hF)
    | fail)
  go_ret
  exact ⟨rfl, HF5.out.trans HF10.out⟩
end Go.Proofs.Ytcdpgchkdjjfgaa
