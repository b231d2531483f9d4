/- errors.Is, asked whether an error is one of image's two. image.Encode: the bytes of a heap. loaded: a heap, and the document's, with the same objects (image). image.Decode: the heap of bytes. -/
import Derived.Test.YtbiccjkgobehoaaDoorMCodeA
import Derived.Test.YtbiccjkgobehoaaDoorMImgB
import Derived.Test.YtbiccjkgobehoaaDoorMImgA
import Derived.Test.YtbiccjkgobehoaaDoorMSnaps
import Derived.Test.YtbiccjkgobehoaaDoorMBoth
import Derived.Test.YtbiccjkgobehoaaDoorMRLoads
import Derived.Test.YtbiccjkgobehoaaDoorMImgC
import Derived.Test.YtbiccjkgobehoaaDoorMLoads
namespace Go.Proofs.YtbiccjkgobehoaaDoor
open Go.RowKit Go.Extern.Stop Go.Stop Go.Extern

theorem no_isI (v : Value) (xT : TypeId) (w : World) : (Instr.typeAssert (.iface 68 v) xT 93 true).run Tryd.prog w = .ok (.tuple #[.nilIface, .bool false]) w := run_typeAssert_lacksB Tryd.underlying93 (by kernel_rfl) (by kernel_rfl) v xT w
theorem has_unwrapI (v : Value) (xT : TypeId) (w : World) : (Instr.typeAssert (.iface 68 v) xT 96 true).run Tryd.prog w = .ok (.tuple #[.iface 68 v, .bool true]) w := run_typeAssert_hasB Tryd.underlying96 (by kernel_rfl) v xT w
theorem method_unwrapI (v : Value) (w : World) : (Go.method 285 68 v "Unwrap").run Tryd.prog w = .ok (93, v) w := by kernel_rfl
theorem no_isE (v : Value) (xT : TypeId) (w : World) : (Instr.typeAssert (.iface 153 v) xT 93 true).run Tryd.prog w = .ok (.tuple #[.nilIface, .bool false]) w := run_typeAssert_lacksB Tryd.underlying93 (by kernel_rfl) (by kernel_rfl) v xT w
theorem no_unwrapE (v : Value) (xT : TypeId) (w : World) : (Instr.typeAssert (.iface 153 v) xT 96 true).run Tryd.prog w = .ok (.tuple #[.nilIface, .bool false]) w := run_typeAssert_lacksB Tryd.underlying96 (by kernel_rfl) (by kernel_rfl) v xT w
theorem no_unwrapsE (v : Value) (xT : TypeId) (w : World) : (Instr.typeAssert (.iface 153 v) xT 98 true).run Tryd.prog w = .ok (.tuple #[.nilIface, .bool false]) w := run_typeAssert_lacksB Tryd.underlying98 (by kernel_rfl) (by kernel_rfl) v xT w
set_option maxHeartbeats 1600000 in
theorem unwrapI (n : Int) (b : Addr) (w : World) :
    Calls Tryd.prog 93 #[.agg #[.int .i64 n, .iface 153 (.pointer (some b))]] w (Still (.iface 153 (.pointer (some b))) w) := by
  go_enter Tryd.func93, Tryd.ntmps93
  go_wp2
  go_ret
  exact ⟨rfl, by first | exact Fr.refl _ _ | exact (Fr.refl _ _).alloc _⟩
set_option maxRecDepth 100000 in
set_option maxHeartbeats 3200000 in
theorem is_ifault (n : Int) (b : Addr) (w : World) :
    Calls Tryd.prog 13 #[.iface 68 (.agg #[.int .i64 n, .iface 153 (.pointer (some b))]), .iface 153 (.pointer (some b))] w (Still (.bool true) w) := by
  obtain ⟨i, hi, hcmp⟩ := Option.map_eq_some_iff.1 is_comp
  obtain ⟨j, hj, hjs⟩ := Option.map_eq_some_iff.1 is_size
  have h8 := @run_callFunc_extern Tryd.prog 28 _ Extern.ReflectliteType.typeOf Tryd.func28 (by kernel_rfl) (by kernel_rfl) (by kernel_rfl) (by kernel_rfl)
  have h32 := @run_callFunc_extern Tryd.prog 96 _ (Extern.ReflectliteType.method fun t => do Rtype.noPackHeld "Comparable" t; pure (.bool (← typeInfo t).comparable)) Tryd.func96 (by kernel_rfl) (by kernel_rfl) (by kernel_rfl) (by kernel_rfl)
  have tT := is_typeOf
  have cT := is_comparable
  have cT2 := is_comparable2
  have mR := is_methodComparable
  have nW := no_isI
  have uW := has_unwrapI
  have mU := method_unwrapI
  have hu := unwrapI n b w
  have heq := fun w => run_eql_iface_ptr_same (P := Tryd.prog) w b Tryd.underlying44 Tryd.underlying153 hi hcmp hj
  have hty := run_eql_iface_types (P := Tryd.prog) 68 153 (.agg #[.int .i64 n, .iface 153 (.pointer (some b))]) (.pointer (some b)) Tryd.underlying44 (by decide)
  go_enter Tryd.func13, Tryd.ntmps13
  go_wp2_with (first | (go_at_call 93; refine hu.mono ?_; rintro e w' ⟨rfl, hF⟩) | go_in)
  refine wp_loop_rounds 2 ?_
  rw [rounds_succ]
  go_wp2_with (first | (go_at_call 93; refine hu.mono ?_; rintro e w' ⟨rfl, hF⟩) | go_in)
  rw [rounds_succ]
  go_wp2_with (first | (go_at_call 93; refine hu.mono ?_; rintro e w' ⟨rfl, hF⟩) | go_in)
  go_ret
  exact ⟨rfl, hF⟩
set_option maxRecDepth 100000 in
set_option maxHeartbeats 3200000 in
theorem isnot_ifault (n : Int) (b a : Addr) (w : World) (hne : b ≠ a) {ca cb : Array Value} {ta tb : TypeId} (ha : w.heap[a.block]? = some (.cells ca ta (0, 0))) (hb : w.heap[b.block]? = some (.cells cb tb (0, 0))) :
    Calls Tryd.prog 13 #[.iface 68 (.agg #[.int .i64 n, .iface 153 (.pointer (some b))]), .iface 153 (.pointer (some a))] w (Still (.bool false) w) := by
  obtain ⟨i, hi, hcmp⟩ := Option.map_eq_some_iff.1 is_comp
  obtain ⟨j, hj, hjs⟩ := Option.map_eq_some_iff.1 is_size
  have h8 := @run_callFunc_extern Tryd.prog 28 _ Extern.ReflectliteType.typeOf Tryd.func28 (by kernel_rfl) (by kernel_rfl) (by kernel_rfl) (by kernel_rfl)
  have h32 := @run_callFunc_extern Tryd.prog 96 _ (Extern.ReflectliteType.method fun t => do Rtype.noPackHeld "Comparable" t; pure (.bool (← typeInfo t).comparable)) Tryd.func96 (by kernel_rfl) (by kernel_rfl) (by kernel_rfl) (by kernel_rfl)
  have tT := is_typeOf
  have cT := is_comparable
  have cT2 := is_comparable2
  have mR := is_methodComparable
  have nW := no_isI
  have uW := has_unwrapI
  have mU := method_unwrapI
  have nE := no_isE
  have uE := no_unwrapE
  have sE := no_unwrapsE
  have hu := unwrapI n b w
  have heq := fun w' (hF : Fr [] w w') => run_eql_iface_ptr_other (P := Tryd.prog) w' Tryd.underlying44 Tryd.underlying153 hi hcmp hj (by rw [hjs]; decide) hne (hF.heap (by simp) hb) (hF.heap (by simp) ha)
  have hty := run_eql_iface_types (P := Tryd.prog) 68 153 (.agg #[.int .i64 n, .iface 153 (.pointer (some b))]) (.pointer (some a)) Tryd.underlying44 (by decide)
  go_enter Tryd.func13, Tryd.ntmps13
  go_wp2_with (first | (go_at_call 93; refine hu.mono ?_; rintro e w' ⟨rfl, hF⟩; have hq := heq w' hF) | go_in)
  refine wp_loop_rounds 2 ?_
  rw [rounds_succ]
  go_wp2_with (first | (go_at_call 93; refine hu.mono ?_; rintro e w' ⟨rfl, hF⟩; have hq := heq w' hF) | go_in)
  rw [rounds_succ]
  go_wp2_with (first | (go_at_call 93; refine hu.mono ?_; rintro e w' ⟨rfl, hF⟩; have hq := heq w' hF) | go_in)
  go_ret
  exact ⟨rfl, hF⟩
end Go.Proofs.YtbiccjkgobehoaaDoor
namespace Go.Proofs.YtbiccjkgobehoaaDoor
open Go.RowKit

/-- objects that a heap may hold -/
theorem OLoad.fine {lim : Int} {os : List Ob} {root n : Int} {os' : List Ob} {root' h' : Int} (l1 : 64 ≤ lim) (h : OLoad lim [] 0 0 os root n os' root' h') : loadE lim os' root' h' = 0 := by
  rcases h with ⟨h1, rfl, rfl, rfl⟩ | ⟨-, rfl, rfl, rfl⟩
  · exact h1
  · refine loadE_ok (fun o h => by cases h) (by simp [endOf, flatW]; omega) ⟨by omega, by omega, fun i x h => by simp at h⟩ ?_
    exact wordsOk_mk (fun o h => by cases h) (.inl rfl)
theorem words3_end (os : List Ob) : 1 + words3 os = endOf os := by
  unfold words3 endOf
  induction os with
  | nil => rfl
  | cons a l ih => rw [flatW_cons, List.length_append, wordsOb_len]; simp only [List.map_cons, List.sum_cons]; omega
theorem words3_its (its : List It) : words3I its = words3 (obsOf its) := by
  unfold words3I words3 obsOf
  simp [It.key, Function.comp_def]
theorem good_obs {lim hashes : Int} {os : List Ob} (hI : OInv lim os hashes) (h5 : ∀ o ∈ os, o.2.2.length ≤ 512) : ∀ o ∈ os, GoodOb o := by
  intro o ho
  have h1 := hI.bd o ho
  have h2 := hI.each o ho
  have h3 := hI.h1
  exact ⟨h1.1, ⟨h2.1, by omega⟩, h5 o ho, fun x hx => h1.2 x hx⟩
set_option maxRecDepth 100000 in
set_option maxHeartbeats 2000000 in
theorem encode_at {w : World} {hb mb : Nat} {lim root hashes : Int} {os : List Ob} {wv sv : Value} (hH : HeapAt w hb mb (absMem lim os root hashes) wv sv) (hI : OInv lim os hashes) (h5 : ∀ o ∈ os, o.2.2.length ≤ 512) (hr : WB root) :
    Calls Tryd.prog 9 #[.pointer (some ⟨hb, 0, none⟩)] w (More8 (28 + 8 * words3 os) (encI root hashes os) (.slice none 0 0) w) := by
  have l1 := hI.l1
  have l2 := hI.l2
  have hfit := hI.fit
  have hw3 := words3_end os
  have hlen : os.length ≤ 65536 := by
    have h := words3_end os
    have : os.length ≤ words3 os := by
      clear hw3 h hfit hH hI h5
      unfold words3
      induction os with
      | nil => simp
      | cons a l ih => simp only [List.length_cons, List.map_cons, List.sum_cons]; omega
    omega
  have HWD : Hid (∀ W, Fr [] w W → Calls Tryd.prog 10 #[.pointer (some ⟨hb, 0, none⟩)] W (Still (.int .i64 lim) W)) := Lib.hid fun W hF => words_still (memory_at (hH.fr hF (by simp) (fun _ _ => by simp)))
  have HRT : Hid (∀ W, Fr [] w W → Calls Tryd.prog 22 #[.pointer (some ⟨hb, 0, none⟩)] W (Still (.int .u64 root) W)) := Lib.hid fun W hF => root_still (memory_at (hH.fr hF (by simp) (fun _ _ => by simp)))
  have HHS : Hid (∀ W, Fr [] w W → Calls Tryd.prog 23 #[.pointer (some ⟨hb, 0, none⟩)] W (Still (.int .i64 hashes) W)) := Lib.hid fun W hF => hashes_still (memory_at (hH.fr hF (by simp) (fun _ _ => by simp)))
  have HDU : Hid (∀ W, Fr [] w W → Calls Tryd.prog 6 #[.pointer (some ⟨hb, 0, none⟩)] W (DumpsTo os W)) := Lib.hid fun W hF => dump_lists (memory_at (hH.fr hF (by simp) (fun _ _ => by simp))) (by omega) (fun o ho => ⟨(hI.each o ho).1, by have := (hI.each o ho).2; have := hI.h1; omega⟩)
  have HEN : Hid (∀ W ao cap its, RowAt W ao (flat3 its) → (∀ o ∈ its, ItOwn W o) → obsOf its = os → Calls Tryd.prog 21 #[contV root hashes ao its.length cap] W (More8 (28 + 8 * words3 os) (encI root hashes os) (.slice none 0 0) W)) := Lib.hid fun W ao cap its h1 h2 h3 => by
    have hl : its.length = os.length := by rw [← h3]; simp [obsOf]
    have := iencoded_at (w := W) (cap := cap) its h1 (fun o ho => (h2 o ho).ok) (by rw [words3_its, h3]; omega) (by omega) (fun o ho => good_obs hI h5 _ (by rw [← h3]; exact List.mem_map_of_mem ho)) root hashes hr ⟨hI.h0, hI.h1⟩
    rw [words3_its, h3] at this
    exact this
  have hl0 : (lim == 0) = false := by simp; omega
  clear hH hI h5 hr hfit hw3 hlen
  go_enter Tryd.func9, Tryd.ntmps9
  go_wp2_with fail
  refine (HWD.out _ (Fr.refl _ _)).mono ?_
  rintro e w1 ⟨rfl, hF1⟩
  have HF1 := Lib.hid hF1
  clear hF1
  go_wp2_with fail
  refine (HRT.out _ HF1.out).mono ?_
  rintro e w2 ⟨rfl, hF⟩
  have HF2 := Lib.hid (HF1.out.trans hF)
  clear hF
  go_wp2_with fail
  refine (HHS.out _ HF2.out).mono ?_
  rintro e w3 ⟨rfl, hF⟩
  have HF3 := Lib.hid (HF2.out.trans hF)
  clear hF
  go_wp2_with fail
  refine (HDU.out _ HF3.out).mono ?_
  rintro e w4 ⟨v, its, rfl, hrow, hob, hown, hF, hnew, -⟩
  obtain ⟨da, dc, rfl⟩ := row_shape' hrow
  have hen := HEN.out w4 da dc its (row_rowAt hrow) hown hob
  unfold contV at hen
  have HF4 := Lib.hid (HF3.out.trans hF)
  generalize its.length = n at *
  clear hF hrow hob hown hnew
  go_wp2_with fail
  refine hen.mono ?_
  rintro e w5 ⟨v, rfl, h1, h2, h3⟩
  obtain ⟨va, vc, rfl⟩ := row_shape h1
  have HR5 : Hid (More8 (28 + 8 * words3 os) (encI root hashes os) (.slice none 0 0) w (.returned (.slice va (28 + 8 * words3 os) vc)) w5) :=
    ⟨_, rfl, h1, HF4.out.trans h2, fun b hb => by
      rcases h3 b hb with e | e
      · exact .inl e
      · exact .inr (Nat.le_trans HF4.out.size e)⟩
  clear h1 h2 h3 hen
  go_wp2_with fail
  go_ret
  exact HR5.out
set_option maxRecDepth 100000 in
set_option maxHeartbeats 1000000 in
/-- of no heap -/
theorem encode_nil (w : World) : Calls Tryd.prog 9 #[.pointer none] w (Still (.slice none 0 0) w) := by
  have hwd : Calls Tryd.prog 10 #[.pointer none] w (Still (.int .i64 0) w) := words_still (m := Mem.none) (memory_none (.inl rfl))
  go_enter Tryd.func9, Tryd.ntmps9
  go_wp2_with fail
  refine hwd.mono ?_
  rintro e w1 ⟨rfl, hF1⟩
  have HF1 := Lib.hid hF1
  clear hF1
  go_wp2_with fail
  go_ret
  exact ⟨rfl, HF1.out⟩
end Go.Proofs.YtbiccjkgobehoaaDoor
namespace Go.Proofs.YtbiccjkgobehoaaDoor
open Go.RowKit

theorem inv_fresh6 (lim : Int) (h1 : 64 ≤ lim) (h2 : lim ≤ 65536) : OInv lim [] 0 :=
  { l1 := h1, l2 := h2, fit := (by simp [endOf, flatW]; omega), h0 := (by omega), h1 := (by omega), each := (fun o h => by cases h), bd := (fun o h => by cases h), uq := ⟨by omega, by omega, fun i x h => by simp at h⟩ }
end Go.Proofs.YtbiccjkgobehoaaDoor
namespace Go.Proofs.YtbiccjkgobehoaaDoor
open Go.RowKit

/-- the two errors, and that they are two -/
structure IGlob (w : World) (bT bF : Addr) : Prop where
  errs : IErrs w bT bF
  ne : bT ≠ bF
  t : ∃ c ty, w.heap[bT.block]? = some (.cells c ty (0, 0))
  f : ∃ c ty, w.heap[bF.block]? = some (.cells c ty (0, 0))
theorem IGlob.still {w w' : World} {bT bF : Addr} (h : IGlob w bT bF) (hF : Fr [] w w') : IGlob w' bT bF :=
  ⟨h.errs.still hF, h.ne, by obtain ⟨c, ty, e⟩ := h.t; exact ⟨c, ty, hF.heap (by simp) e⟩, by obtain ⟨c, ty, e⟩ := h.f; exact ⟨c, ty, hF.heap (by simp) e⟩⟩
def I64 (x : Int) : Prop := -9223372036854775808 ≤ x ∧ x ≤ 9223372036854775807
theorem sgn_I64 {x : Int} (h0 : 0 ≤ x) (h1 : x ≤ 18446744073709551615) : I64 (sgn x) := by
  unfold sgn I64
  split <;> omega
theorem rdOb_bd {l r : List Int} {o : Int × Int × List Int} (hb : ∀ y ∈ l, B y) (h : rdOb l = some (o, r)) : ObB o ∧ I64 o.2.1 ∧ ∀ y ∈ r, B y := by
  unfold rdOb at h
  cases h1 : rdNs 3 l with
  | none => simp [h1] at h
  | some p =>
    obtain ⟨xs, q⟩ := p
    obtain ⟨e1, e2, e3⟩ := rdNs_inv 3 l hb xs q h1
    simp only [h1] at h
    match xs, e2 with
    | [a, b, c], _ =>
      simp only [List.getD_cons_zero, List.getD_cons_succ] at h
      split at h
      · cases h
      · next hc =>
        cases h2 : rdNs c.toNat q with
        | none => simp [h2] at h
        | some p2 =>
          obtain ⟨fs, q2⟩ := p2
          have hq : ∀ y ∈ q, B y := fun y hy => hb y (by rw [e1]; simp [hy])
          obtain ⟨i1, i2, i3⟩ := rdNs_inv _ q hq fs q2 h2
          simp only [h2] at h
          obtain ⟨h3, h4⟩ := Prod.mk.inj (Option.some.inj h)
          subst h3
          subst h4
          have ha := e3 a (by simp)
          have hb' := e3 b (by simp)
          exact ⟨⟨ha, i3⟩, sgn_I64 hb'.1 hb'.2, fun y hy => hq y (by rw [i1]; simp [hy])⟩
theorem rdObs_bd : ∀ (n : Nat) (l : List Int) (_ : ∀ y ∈ l, B y) (os : List (Int × Int × List Int)) (r : List Int), rdObs n l = some (os, r) → ∀ o ∈ os, ObB o ∧ I64 o.2.1
  | 0, l, hb, os, r, h => by
    obtain ⟨h1, h2⟩ := Prod.mk.inj (Option.some.inj h)
    subst h1
    exact fun o h => by cases h
  | n + 1, l, hb, os, r, h => by
    rw [rdObs] at h
    cases h1 : rdOb l with
    | none => simp [h1] at h
    | some p =>
      obtain ⟨x, q⟩ := p
      simp only [h1] at h
      obtain ⟨b1, b2, b3⟩ := rdOb_bd hb h1
      cases h2 : rdObs n q with
      | none => simp [h2] at h
      | some p2 =>
        obtain ⟨ys, q2⟩ := p2
        simp only [h2] at h
        obtain ⟨h3, h4⟩ := Prod.mk.inj (Option.some.inj h)
        subst h3
        have ih := rdObs_bd n q b3 ys q2 h2
        intro o ho
        rcases List.mem_cons.1 ho with rfl | ho
        · exact ⟨b1, b2⟩
        · exact ih o ho
theorem dec_bd {bs : List Int} {root hashes : Int} {os : List Ob} (hb : ∀ y ∈ bs, B y) (h : decI bs = some (root, hashes, os)) : WB root ∧ I64 hashes ∧ (∀ o ∈ os, ObB o ∧ I64 o.2.1) ∧ 24 * os.length ≤ bs.length := by
  unfold decI at h
  cases hq : decQ bs with
  | none => simp [hq] at h
  | some p =>
    obtain ⟨c, q⟩ := p
    simp only [hq] at h
    split at h
    · obtain rfl := Option.some.inj h
      unfold decQ at hq
      split at hq
      · have hd : ∀ y ∈ bs.drop 4, B y := fun y hy => hb y (List.mem_of_mem_drop hy)
        cases h1 : rdNs 3 (bs.drop 4) with
        | none => simp [h1] at hq
        | some p1 =>
          obtain ⟨xs, r⟩ := p1
          obtain ⟨e1, e2, e3⟩ := rdNs_inv 3 _ hd xs r h1
          have e4 := rdNs_len 3 _ _ _ h1
          simp only [h1] at hq
          match xs, e2 with
          | [a, b, c], _ =>
            simp only [List.getD_cons_zero, List.getD_cons_succ] at hq
            cases h2 : rdObs c.toNat r with
            | none => simp [h2] at hq
            | some p2 =>
              obtain ⟨os2, q2⟩ := p2
              simp only [h2] at hq
              obtain ⟨h3, h4⟩ := Prod.mk.inj (Option.some.inj hq)
              obtain ⟨h5, h6⟩ := Prod.mk.inj h3
              obtain ⟨h7, h8⟩ := Prod.mk.inj h6
              subst h5
              subst h8
              have ha := e3 a (by simp)
              have hb' := e3 b (by simp)
              have hl := rdObs_len _ _ _ _ h2
              refine ⟨ha, by rw [← h7]; exact sgn_I64 hb'.1 hb'.2, rdObs_bd _ r (fun y hy => hd y (by rw [e1]; simp [hy])) os2 q2 h2, ?_⟩
              rw [hl.2]
              simp at e4
              omega
      · cases hq
    · cases h
theorem loadE_012 (lim : Int) (os : List Ob) (root n : Int) : loadE lim os root n = 0 ∨ loadE lim os root n = 1 ∨ loadE lim os root n = 2 := by
  unfold loadE
  repeat' split
  all_goals simp
section
variable {w0 w : World} {hb mb : Nat}
theorem live_load {lim r0 h0 : Int} {os0 : List Ob} (hL : Live w0 hb mb (absMem lim os0 r0 h0) w) (hg : Glob w) (l1 : 64 ≤ lim) (l2 : lim ≤ 65536) {ao : Option Addr} {cap : Nat} (its : List It) (hI : Handed w ao its) (root n : Int) (hr : WB root) (n1 : -9223372036854775808 ≤ n) (n2 : n ≤ 9223372036854775807) :
    Calls Tryd.prog 30 #[.pointer (some ⟨hb, 0, none⟩), .slice ao its.length cap, .int .u64 root, .int .i64 n] w (LStill (.int .i64 (loadE lim (obsOf its) root n)) w0 hb mb (memLoad lim os0 r0 h0 (obsOf its) root n)) := by
  obtain ⟨wv, sv, hH, hF0, h1, h2⟩ := hL
  refine (load_turns hH hg l1 l2 its hI root n hr n1 n2).mono ?_
  rintro e w' ⟨rfl, wv', sv', hM, hF, hfr⟩
  exact ⟨rfl, Live.turn hH hF0 h1 h2 hM hF hfr⟩
/-- the heap with these contents, or an error -/
def LdE (E : Int) (w0 : World) (hb mb : Nat) (lim : Int) (os : List Ob) (root n : Int) (e : Ending) (w' : World) : Prop :=
  (E = 0 ∧ e = .returned (.tuple #[.pointer (some ⟨hb, 0, none⟩), .int .i64 0]) ∧ Live w0 hb mb (absMem lim os root n) w') ∨
  (E ≠ 0 ∧ e = .returned (.tuple #[.pointer none, .int .i64 (if E = 2 then 2 else 3)]) ∧ Live w0 hb mb (absMem lim [] 0 0) w')
def LdTo (w0 : World) (hb mb : Nat) (lim : Int) (os : List Ob) (root n : Int) : Ending → World → Prop := LdE (loadE lim os root n) w0 hb mb lim os root n
set_option maxRecDepth 100000 in
set_option maxHeartbeats 1600000 in
theorem iloaded_at {lim : Int} (hL : Live w0 hb mb (absMem lim [] 0 0) w) (hg : Glob w) (l1 : 64 ≤ lim) (l2 : lim ≤ 65536) {ao : Option Addr} {cap : Nat} (its : List It) (hI : Handed w ao its) (root n : Int) (hr : WB root) (hn : I64 n) :
    Calls Tryd.prog 14 #[.pointer (some ⟨hb, 0, none⟩), contV root n ao its.length cap] w (LdTo w0 hb mb lim (obsOf its) root n) := by
  have HLD : Hid (∀ W, Fr [] w W → Calls Tryd.prog 30 #[.pointer (some ⟨hb, 0, none⟩), .slice ao its.length cap, .int .u64 root, .int .i64 n] W (LStill (.int .i64 (loadE lim (obsOf its) root n)) w0 hb mb (memLoad lim [] 0 0 (obsOf its) root n))) := Lib.hid fun W hF => live_load (hL.still hF) (hg.fr hF) l1 l2 its (hI.fr hF) root n hr hn.1 hn.2
  unfold contV LdTo
  have hc := loadE_012 lim (obsOf its) root n
  have HM1 : Hid (loadE lim (obsOf its) root n = 0 → memLoad lim [] 0 0 (obsOf its) root n = absMem lim (obsOf its) root n) := Lib.hid fun h => memLoad_ok h
  have HM2 : Hid (loadE lim (obsOf its) root n ≠ 0 → memLoad lim [] 0 0 (obsOf its) root n = absMem lim [] 0 0) := Lib.hid fun h => memLoad_no h
  generalize loadE lim (obsOf its) root n = E at *
  generalize memLoad lim [] 0 0 (obsOf its) root n = M at *
  generalize its.length = k at *
  clear hL hg hI hr
  go_enter Tryd.func14, Tryd.ntmps14
  go_wp2_with fail
  refine (HLD.out _ (by first | exact Fr.refl _ _ | exact (Fr.refl _ _).alloc _)).mono ?_
  rintro e w1 ⟨rfl, hL1⟩
  have HL1 := Lib.hid hL1
  clear hL1 HLD
  rcases hc with hc | hc | hc
  · have hm := HM1.out hc
    subst hc
    subst hm
    go_wp2_with fail
    go_ret2
    exact Or.inl ⟨rfl, rfl, HL1.out⟩
  · have hm := HM2.out (by rw [hc]; decide)
    subst hc
    subst hm
    go_wp2_with fail
    go_ret2
    exact Or.inr ⟨by decide, rfl, HL1.out⟩
  · have hm := HM2.out (by rw [hc]; decide)
    subst hc
    subst hm
    go_wp2_with fail
    go_ret2
    exact Or.inr ⟨by decide, rfl, HL1.out⟩
end
/-- the error that Decode answers -/
noncomputable def decE (lim : Int) (bs : List Int) : Int := match decI bs with
  | none => 3
  | some (root, hashes, os) => if loadE lim os root hashes = 0 then 0 else if loadE lim os root hashes = 2 then 2 else 3
/-- the heap of bytes, or an error -/
def Decoded6 (lim : Int) (bs : List Int) (w : World) (e : Ending) (w' : World) : Prop :=
  (∃ root hashes os hb mb, decI bs = some (root, hashes, os) ∧ loadE lim os root hashes = 0 ∧ OInv lim os hashes ∧ e = .returned (.tuple #[.pointer (some ⟨hb, 0, none⟩), .int .i64 0]) ∧ Live w hb mb (absMem lim os root hashes) w') ∨
  (decE lim bs ≠ 0 ∧ e = .returned (.tuple #[.pointer none, .int .i64 (decE lim bs)]) ∧ Fr [] w w')
set_option maxRecDepth 100000 in
set_option maxHeartbeats 1600000 in
theorem decode_no (n : Int) (v : Value) (w : World) (h : n < 64 ∨ 65536 < n) : Calls Tryd.prog 5 #[v, .int .i64 n] w (Still (.tuple #[.pointer none, .int .i64 1]) w) := by
  have hn := new_no n
  go_enter Tryd.func5, Tryd.ntmps5
  go_wp2_with (first | (go_at_call 11; refine (hn _ h).mono ?_; rintro e w' ⟨rfl, rfl⟩))
  go_ret2
  exact ⟨rfl, by first | exact Fr.refl _ _ | exact (Fr.refl _ _).alloc _⟩
theorem ObsIn.handed {w W : World} {ao : Option Addr} {cap : Nat} {its : List It} {bs : List Int} {root hashes : Int} (h : ObsIn w (.slice ao its.length cap) its W) (hb : ∀ y ∈ bs, B y) (hl : bs.length ≤ 35184372088832) (hd : decI bs = some (root, hashes, obsOf its)) : Handed W ao its := by
  obtain ⟨-, -, h3, h4⟩ := dec_bd hb hd
  have hlen : (obsOf its).length = its.length := by simp [obsOf]
  have hk : ∀ o ∈ its, o.key ∈ obsOf its := fun o ho => List.mem_map_of_mem ho
  exact ⟨row_rowAt h.row, fun o ho => (h.own o ho).inn, by omega, fun o ho => Nat.le_trans (h.own o ho).2 (by decide), fun o ho => (h3 _ (hk o ho)).2, fun o ho => (h3 _ (hk o ho)).1⟩
set_option maxRecDepth 100000 in
set_option maxHeartbeats 3200000 in
theorem decode_at {w : World} {a : Option Addr} {bs : List Int} {cap : Nat} {bT bF : Addr} (n : Int) (h1 : 64 ≤ n) (h2 : n ≤ 65536) (hg : Glob w) (hI : IGlob w bT bF) (hA : BytesAt w a bs) (hB : ∀ x ∈ bs, B x) (hc : bs.length ≤ cap) (hl : bs.length ≤ 35184372088832) : Calls Tryd.prog 5 #[.slice a bs.length cap, .int .i64 n] w (Decoded6 n bs w) := by
  have HG := Lib.hid hg
  have HI := Lib.hid hI
  have HB := Lib.hid hB
  have HHD : Hid (∀ (w0 W : World) (ao : Option Addr) (ac : Nat) (its : List It) (root hashes : Int), ObsIn w0 (.slice ao its.length ac) its W → decI bs = some (root, hashes, obsOf its) → Handed W ao its) := Lib.hid fun _ _ _ _ _ _ _ h hd => h.handed hB hl hd
  have HDC : Hid (∀ W, Fr [] w W → Calls Tryd.prog 12 #[.slice a bs.length cap] W (DecTo6 bs bT bF W)) := Lib.hid fun W hF => idecoded_at (hA.fr hF (fun _ _ => by simp)) hB (hI.errs.still hF) hc hl
  generalize bs.length = k at *
  clear hA hB hc hl hg hI
  go_enter Tryd.func5, Tryd.ntmps5
  go_wp2_with fail
  refine (live_new n _ h1 h2).mono ?_
  rintro e w1 ⟨hb, mb, rfl, hL⟩
  have HLV := Lib.hid hL
  clear hL
  go_wp2_with fail
  refine (HDC.out _ HLV.out.fr).mono ?_
  intro e w2 hd
  unfold DecTo6 at hd
  cases hq : decI bs with
  | none =>
    rw [hq] at hd
    obtain ⟨m, b, hb, rfl, hF2⟩ := hd
    have HNO : Hid (decE n bs = 3) := Lib.hid (by unfold decE; rw [hq])
    have HF2 := Lib.hid (HLV.out.fr.trans hF2)
    clear hF2 hq HDC
    have HI2 := Lib.hid (HI.out.still (HF2.out.alloc (.cells #[.int .u64 0, .int .i64 0, .slice none 0 0] 42)))
    have hgT := (HI.out.errs.still HF2.out).t
    have hgF := (HI.out.errs.still HF2.out).f
    obtain ⟨hlT, hlF⟩ := (HI.out.errs.still HF2.out).lt
    obtain ⟨cT, yT, hT⟩ := HI2.out.t
    obtain ⟨cF, yF, hF⟩ := HI2.out.f
    have HT := Lib.hid hT
    have HF := Lib.hid hF
    have hne := HI.out.ne
    clear hT hF
    rcases hb with rfl | rfl
    · go_wp2_with fail
      refine (is_ifault m b _).mono ?_
      rintro e w3 ⟨rfl, hF3⟩
      have HF3 := Lib.hid ((HF2.out.alloc _).trans hF3)
      clear hF3
      go_wp2_with fail
      go_ret2
      exact Or.inr ⟨by rw [HNO.out]; decide, by rw [HNO.out]; rfl, HF3.out⟩
    · go_wp2_with fail
      refine (isnot_ifault m b bT _ (Ne.symm hne) HT.out HF.out).mono ?_
      rintro e w3 ⟨rfl, hF3⟩
      have hgF3 := ((HI2.out.errs).still hF3).f
      have HF3 := Lib.hid ((HF2.out.alloc _).trans hF3)
      clear hF3
      go_wp2_with fail
      refine (is_ifault m b _).mono ?_
      rintro e w4 ⟨rfl, hF4⟩
      have HF4 := Lib.hid (HF3.out.trans hF4)
      clear hF4
      go_wp2_with fail
      go_ret2
      exact Or.inr ⟨by rw [HNO.out]; decide, by rw [HNO.out]; rfl, HF4.out⟩
  | some p =>
    obtain ⟨root, hashes, os⟩ := p
    rw [hq] at hd
    obtain ⟨ao, ac, its, rfl, hob, hin, hF2⟩ := hd
    subst hob
    have HBD := Lib.hid (dec_bd HB.out hq)
    have HQ := Lib.hid hq
    have HIN := Lib.hid hin
    have HL2 := Lib.hid (HLV.out.still hF2)
    have HF2 := Lib.hid (HLV.out.fr.trans hF2)
    have hld : Hid (∀ W, Fr [] w2 W → Calls Tryd.prog 14 #[.pointer (some ⟨hb, 0, none⟩), contV root hashes ao its.length ac] W (LdTo w hb mb n (obsOf its) root hashes)) := Lib.hid fun W hF =>
      iloaded_at (HL2.out.still hF) (HG.out.fr (HF2.out.trans hF)) h1 h2 its (HHD.out _ _ _ _ _ _ _ (HIN.out.fr hF (fun _ h => by cases h)) HQ.out) root hashes HBD.out.1 HBD.out.2.1
    have HLD := hld
    unfold contV at HLD ⊢
    clear hF2 hq HDC hin hld HHD
    generalize its.length = q at *
    have hgT := (HI.out.errs.still HF2.out).t
    have hgF := (HI.out.errs.still HF2.out).f
    obtain ⟨hlT, hlF⟩ := (HI.out.errs.still HF2.out).lt
    have HBX : Hid ((w2.alloc (.cells #[.int .u64 root, .int .i64 hashes, .slice ao q ac] 42)).heap[w2.heap.size]? = some (.cells #[.int .u64 root, .int .i64 hashes, .slice ao q ac] 42 (0, 0))) := heap_new w2 _
    go_wp2_with fail
    refine (is_nil bT _).mono ?_
    rintro e w3 ⟨rfl, hF3⟩
    have hgF3 := ((HI.out.errs.still (HF2.out.alloc _)).still hF3).f
    have hb3 := hF3.heap (by simp) HBX.out
    have HB3 := Lib.hid hb3
    have k0 := cell_of_heap (o := 0) HB3.out rfl; have k1 := cell_of_heap (o := 1) HB3.out rfl; have k2 := cell_of_heap (o := 2) HB3.out rfl
    have HF3 : Hid (Fr [] w2 w3) := ((Fr.refl _ _).alloc _).trans hF3
    clear hF3 hb3
    go_wp2_with fail
    refine (is_nil bF _).mono ?_
    rintro e w4 ⟨rfl, hF4⟩
    have hb4 := hF4.heap (by simp) HB3.out
    have HF4 := Lib.hid (HF3.out.trans hF4)
    have j0 := cell_of_heap (o := 0) hb4 rfl; have j1 := cell_of_heap (o := 1) hb4 rfl; have j2 := cell_of_heap (o := 2) hb4 rfl
    clear hF4 hb4 k0 k1 k2
    go_wp2_with fail
    refine (HLD.out _ HF4.out).mono ?_
    rintro e w5 (⟨hz, rfl, hL5⟩ | ⟨hz, rfl, hL5⟩)
    · have HZ := Lib.hid hz
      have HL5 := Lib.hid hL5
      clear hz hL5 HLD
      go_wp2_with fail
      go_ret2
      exact Or.inl ⟨root, hashes, obsOf its, hb, mb, HQ.out, HZ.out, OLoad.inv (r0 := 0) (.inl ⟨HZ.out, rfl, rfl, rfl⟩) (inv_fresh6 n h1 h2) (fun o ho => (HBD.out.2.2.1 o ho).1), rfl, HL5.out⟩
    · have HE : Hid (decE n bs = if loadE n (obsOf its) root hashes = 2 then 2 else 3) := Lib.hid (by
        unfold decE
        rw [HQ.out]
        simp only [if_neg hz])
      have HEN : Hid ((if loadE n (obsOf its) root hashes = 2 then (2 : Int) else 3) ≠ 0) := by show _ ≠ _; split <;> decide
      have HF5 := Lib.hid hL5.fr
      generalize (if loadE n (obsOf its) root hashes = 2 then (2 : Int) else 3) = E at *
      clear hz hL5 HLD
      go_wp2_with fail
      go_ret2
      exact Or.inr ⟨by rw [HE.out]; exact HEN.out, by rw [HE.out]; rfl, HF5.out⟩
end Go.Proofs.YtbiccjkgobehoaaDoor
