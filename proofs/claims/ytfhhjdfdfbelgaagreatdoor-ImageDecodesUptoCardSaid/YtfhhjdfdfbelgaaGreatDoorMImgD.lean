/- errors.Is, asked whether an error is one of image's two. image.Encode: the bytes of a heap. loaded: a heap, and the document's, with the same objects (image). image.Decode: the heap of bytes. -/
import Derived.Test.YtfhhjdfdfbelgaaGreatDoorMCodeA
import Derived.Test.YtfhhjdfdfbelgaaGreatDoorMImgB
import Derived.Test.YtfhhjdfdfbelgaaGreatDoorMImgA
import Derived.Test.YtfhhjdfdfbelgaaGreatDoorMSnaps
import Derived.Test.YtfhhjdfdfbelgaaGreatDoorMBoth
import Derived.Test.YtfhhjdfdfbelgaaGreatDoorMRLoads
import Derived.Test.YtfhhjdfdfbelgaaGreatDoorMImgC
import Derived.Test.YtfhhjdfdfbelgaaGreatDoorMLoads
namespace Go.Proofs.YtfhhjdfdfbelgaaGreatDoor
open Go.RowKit Go.Extern.Stop Go.Stop Go.Extern

theorem no_isI (v : Value) (xT : TypeId) (w : World) : (Instr.typeAssert (.iface 95 v) xT 123 true).run Tryz.prog w = .ok (.tuple #[.nilIface, .bool false]) w := run_typeAssert_lacksB Tryz.underlying123 (by kernel_rfl) (by kernel_rfl) v xT w
theorem has_unwrapI (v : Value) (xT : TypeId) (w : World) : (Instr.typeAssert (.iface 95 v) xT 126 true).run Tryz.prog w = .ok (.tuple #[.iface 95 v, .bool true]) w := run_typeAssert_hasB Tryz.underlying126 (by kernel_rfl) v xT w
theorem method_unwrapI (v : Value) (w : World) : (Go.method 317 95 v "Unwrap").run Tryz.prog w = .ok (118, v) w := by kernel_rfl
theorem no_isE (v : Value) (xT : TypeId) (w : World) : (Instr.typeAssert (.iface 185 v) xT 123 true).run Tryz.prog w = .ok (.tuple #[.nilIface, .bool false]) w := run_typeAssert_lacksB Tryz.underlying123 (by kernel_rfl) (by kernel_rfl) v xT w
theorem no_unwrapE (v : Value) (xT : TypeId) (w : World) : (Instr.typeAssert (.iface 185 v) xT 126 true).run Tryz.prog w = .ok (.tuple #[.nilIface, .bool false]) w := run_typeAssert_lacksB Tryz.underlying126 (by kernel_rfl) (by kernel_rfl) v xT w
theorem no_unwrapsE (v : Value) (xT : TypeId) (w : World) : (Instr.typeAssert (.iface 185 v) xT 128 true).run Tryz.prog w = .ok (.tuple #[.nilIface, .bool false]) w := run_typeAssert_lacksB Tryz.underlying128 (by kernel_rfl) (by kernel_rfl) v xT w
set_option maxHeartbeats 1600000 in
theorem unwrapI (n : Int) (b : Addr) (w : World) :
    Calls Tryz.prog 118 #[.agg #[.int .i64 n, .iface 185 (.pointer (some b))]] w (Still (.iface 185 (.pointer (some b))) w) := by
  go_enter Tryz.func118, Tryz.ntmps118
  go_wp2
  go_ret
  exact ⟨rfl, by first | exact Fr.refl _ _ | exact (Fr.refl _ _).alloc _⟩
set_option maxRecDepth 100000 in
set_option maxHeartbeats 3200000 in
theorem is_ifault (n : Int) (b : Addr) (w : World) :
    Calls Tryz.prog 24 #[.iface 95 (.agg #[.int .i64 n, .iface 185 (.pointer (some b))]), .iface 185 (.pointer (some b))] w (Still (.bool true) w) := by
  obtain ⟨i, hi, hcmp⟩ := Option.map_eq_some_iff.1 is_comp
  obtain ⟨j, hj, hjs⟩ := Option.map_eq_some_iff.1 is_size
  have h8 := @run_callFunc_extern Tryz.prog 46 _ Extern.ReflectliteType.typeOf Tryz.func46 (by kernel_rfl) (by kernel_rfl) (by kernel_rfl) (by kernel_rfl)
  have h32 := @run_callFunc_extern Tryz.prog 121 _ (Extern.ReflectliteType.method fun t => do Rtype.noPackHeld "Comparable" t; pure (.bool (← typeInfo t).comparable)) Tryz.func121 (by kernel_rfl) (by kernel_rfl) (by kernel_rfl) (by kernel_rfl)
  have tT := is_typeOf
  have cT := is_comparable
  have cT2 := is_comparable2
  have mR := is_methodComparable
  have nW := no_isI
  have uW := has_unwrapI
  have mU := method_unwrapI
  have hu := unwrapI n b w
  have heq := fun w => run_eql_iface_ptr_same (P := Tryz.prog) w b Tryz.underlying54 Tryz.underlying185 hi hcmp hj
  have hty := run_eql_iface_types (P := Tryz.prog) 95 185 (.agg #[.int .i64 n, .iface 185 (.pointer (some b))]) (.pointer (some b)) Tryz.underlying54 (by decide)
  go_enter Tryz.func24, Tryz.ntmps24
  go_wp2_with (first | (go_at_call 118; refine hu.mono ?_; rintro e w' ⟨rfl, hF⟩) | go_in)
  refine wp_loop_rounds 2 ?_
  rw [rounds_succ]
  go_wp2_with (first | (go_at_call 118; refine hu.mono ?_; rintro e w' ⟨rfl, hF⟩) | go_in)
  rw [rounds_succ]
  go_wp2_with (first | (go_at_call 118; refine hu.mono ?_; rintro e w' ⟨rfl, hF⟩) | go_in)
  go_ret
  exact ⟨rfl, hF⟩
set_option maxRecDepth 100000 in
set_option maxHeartbeats 3200000 in
theorem isnot_ifault (n : Int) (b a : Addr) (w : World) (hne : b ≠ a) {ca cb : Array Value} {ta tb : TypeId} (ha : w.heap[a.block]? = some (.cells ca ta (0, 0))) (hb : w.heap[b.block]? = some (.cells cb tb (0, 0))) :
    Calls Tryz.prog 24 #[.iface 95 (.agg #[.int .i64 n, .iface 185 (.pointer (some b))]), .iface 185 (.pointer (some a))] w (Still (.bool false) w) := by
  obtain ⟨i, hi, hcmp⟩ := Option.map_eq_some_iff.1 is_comp
  obtain ⟨j, hj, hjs⟩ := Option.map_eq_some_iff.1 is_size
  have h8 := @run_callFunc_extern Tryz.prog 46 _ Extern.ReflectliteType.typeOf Tryz.func46 (by kernel_rfl) (by kernel_rfl) (by kernel_rfl) (by kernel_rfl)
  have h32 := @run_callFunc_extern Tryz.prog 121 _ (Extern.ReflectliteType.method fun t => do Rtype.noPackHeld "Comparable" t; pure (.bool (← typeInfo t).comparable)) Tryz.func121 (by kernel_rfl) (by kernel_rfl) (by kernel_rfl) (by kernel_rfl)
  have tT := is_typeOf
  have cT := is_comparable
  have cT2 := is_comparable2
  have mR := is_methodComparable
  have nW := no_isI
  have uW := has_unwrapI
  have mU := method_unwrapI
  have nE := no_isE
  have uE := no_unwrapE
  have sE := no_unwrapsE
  have hu := unwrapI n b w
  have heq := fun w' (hF : Fr [] w w') => run_eql_iface_ptr_other (P := Tryz.prog) w' Tryz.underlying54 Tryz.underlying185 hi hcmp hj (by rw [hjs]; decide) hne (hF.heap (by simp) hb) (hF.heap (by simp) ha)
  have hty := run_eql_iface_types (P := Tryz.prog) 95 185 (.agg #[.int .i64 n, .iface 185 (.pointer (some b))]) (.pointer (some a)) Tryz.underlying54 (by decide)
  go_enter Tryz.func24, Tryz.ntmps24
  go_wp2_with (first | (go_at_call 118; refine hu.mono ?_; rintro e w' ⟨rfl, hF⟩; have hq := heq w' hF) | go_in)
  refine wp_loop_rounds 2 ?_
  rw [rounds_succ]
  go_wp2_with (first | (go_at_call 118; refine hu.mono ?_; rintro e w' ⟨rfl, hF⟩; have hq := heq w' hF) | go_in)
  rw [rounds_succ]
  go_wp2_with (first | (go_at_call 118; refine hu.mono ?_; rintro e w' ⟨rfl, hF⟩; have hq := heq w' hF) | go_in)
  go_ret
  exact ⟨rfl, hF⟩
end Go.Proofs.YtfhhjdfdfbelgaaGreatDoor
namespace Go.Proofs.YtfhhjdfdfbelgaaGreatDoor
open Go.RowKit

/-- objects that a heap may hold -/
theorem OLoad.fine {lim : Int} {os : List Ob} {root n : Int} {os' : List Ob} {root' h' : Int} (l1 : 64 ≤ lim) (h : OLoad lim [] 0 0 os root n os' root' h') : loadE lim os' root' h' = 0 := by
  rcases h with ⟨h1, rfl, rfl, rfl⟩ | ⟨-, rfl, rfl, rfl⟩
  · exact h1
  · refine loadE_ok (fun o h => by cases h) (by simp [endOf, flatW]; omega) ⟨by omega, by omega, fun i x h => by simp at h⟩ ?_
    exact wordsOk_mk (fun o h => by cases h) (.inl rfl)
theorem words3_end (os : List Ob) : 1 + words3 os = endOf os := by
  unfold words3 endOf
  induction os with
  | nil => rfl
  | cons a l ih => rw [flatW_cons, List.length_append, wordsOb_len]; simp only [List.map_cons, List.sum_cons]; omega
theorem words3_its (its : List It) : words3I its = words3 (obsOf its) := by
  unfold words3I words3 obsOf
  simp [It.key, Function.comp_def]
theorem good_obs {lim hashes : Int} {os : List Ob} (hI : OInv lim os hashes) (h5 : ∀ o ∈ os, o.2.2.length ≤ 512) : ∀ o ∈ os, GoodOb o := by
  intro o ho
  have h1 := hI.bd o ho
  have h2 := hI.each o ho
  have h3 := hI.h1
  exact ⟨h1.1, ⟨h2.1, by omega⟩, h5 o ho, fun x hx => h1.2 x hx⟩
set_option maxRecDepth 100000 in
set_option maxHeartbeats 2000000 in
theorem encode_at {w : World} {hb mb : Nat} {lim root hashes : Int} {os : List Ob} {wv sv : Value} (hH : HeapAt w hb mb (absMem lim os root hashes) wv sv) (hI : OInv lim os hashes) (h5 : ∀ o ∈ os, o.2.2.length ≤ 512) (hr : WB root) :
    Calls Tryz.prog 13 #[.pointer (some ⟨hb, 0, none⟩)] w (More8 (28 + 8 * words3 os) (encI root hashes os) (.slice none 0 0) w) := by
  have l1 := hI.l1
  have l2 := hI.l2
  have hfit := hI.fit
  have hw3 := words3_end os
  have hlen : os.length ≤ 65536 := by
    have h := words3_end os
    have : os.length ≤ words3 os := by
      clear hw3 h hfit hH hI h5
      unfold words3
      induction os with
      | nil => simp
      | cons a l ih => simp only [List.length_cons, List.map_cons, List.sum_cons]; omega
    omega
  have HWD : Hid (∀ W, Fr [] w W → Calls Tryz.prog 22 #[.pointer (some ⟨hb, 0, none⟩)] W (Still (.int .i64 lim) W)) := Lib.hid fun W hF => words_still (memory_at (hH.fr hF (by simp) (fun _ _ => by simp)))
  have HRT : Hid (∀ W, Fr [] w W → Calls Tryz.prog 17 #[.pointer (some ⟨hb, 0, none⟩)] W (Still (.int .u64 root) W)) := Lib.hid fun W hF => root_still (memory_at (hH.fr hF (by simp) (fun _ _ => by simp)))
  have HHS : Hid (∀ W, Fr [] w W → Calls Tryz.prog 30 #[.pointer (some ⟨hb, 0, none⟩)] W (Still (.int .i64 hashes) W)) := Lib.hid fun W hF => hashes_still (memory_at (hH.fr hF (by simp) (fun _ _ => by simp)))
  have HDU : Hid (∀ W, Fr [] w W → Calls Tryz.prog 20 #[.pointer (some ⟨hb, 0, none⟩)] W (DumpsTo os W)) := Lib.hid fun W hF => dump_lists (memory_at (hH.fr hF (by simp) (fun _ _ => by simp))) (by omega) (fun o ho => ⟨(hI.each o ho).1, by have := (hI.each o ho).2; have := hI.h1; omega⟩)
  have HEN : Hid (∀ W ao cap its, RowAt W ao (flat3 its) → (∀ o ∈ its, ItOwn W o) → obsOf its = os → Calls Tryz.prog 34 #[contV root hashes ao its.length cap] W (More8 (28 + 8 * words3 os) (encI root hashes os) (.slice none 0 0) W)) := Lib.hid fun W ao cap its h1 h2 h3 => by
    have hl : its.length = os.length := by rw [← h3]; simp [obsOf]
    have := iencoded_at (w := W) (cap := cap) its h1 (fun o ho => (h2 o ho).ok) (by rw [words3_its, h3]; omega) (by omega) (fun o ho => good_obs hI h5 _ (by rw [← h3]; exact List.mem_map_of_mem ho)) root hashes hr ⟨hI.h0, hI.h1⟩
    rw [words3_its, h3] at this
    exact this
  have hl0 : (lim == 0) = false := by simp; omega
  clear hH hI h5 hr hfit hw3 hlen
  go_enter Tryz.func13, Tryz.ntmps13
  go_wp2_with fail
  refine (HWD.out _ (Fr.refl _ _)).mono ?_
  rintro e w1 ⟨rfl, hF1⟩
  have HF1 := Lib.hid hF1
  clear hF1
  go_wp2_with fail
  refine (HRT.out _ HF1.out).mono ?_
  rintro e w2 ⟨rfl, hF⟩
  have HF2 := Lib.hid (HF1.out.trans hF)
  clear hF
  go_wp2_with fail
  refine (HHS.out _ HF2.out).mono ?_
  rintro e w3 ⟨rfl, hF⟩
  have HF3 := Lib.hid (HF2.out.trans hF)
  clear hF
  go_wp2_with fail
  refine (HDU.out _ HF3.out).mono ?_
  rintro e w4 ⟨v, its, rfl, hrow, hob, hown, hF, hnew, -⟩
  obtain ⟨da, dc, rfl⟩ := row_shape' hrow
  have hen := HEN.out w4 da dc its (row_rowAt hrow) hown hob
  unfold contV at hen
  have HF4 := Lib.hid (HF3.out.trans hF)
  generalize its.length = n at *
  clear hF hrow hob hown hnew
  go_wp2_with fail
  refine hen.mono ?_
  rintro e w5 ⟨v, rfl, h1, h2, h3⟩
  obtain ⟨va, vc, rfl⟩ := row_shape h1
  have HR5 : Hid (More8 (28 + 8 * words3 os) (encI root hashes os) (.slice none 0 0) w (.returned (.slice va (28 + 8 * words3 os) vc)) w5) :=
    ⟨_, rfl, h1, HF4.out.trans h2, fun b hb => by
      rcases h3 b hb with e | e
      · exact .inl e
      · exact .inr (Nat.le_trans HF4.out.size e)⟩
  clear h1 h2 h3 hen
  go_wp2_with fail
  go_ret
  exact HR5.out
set_option maxRecDepth 100000 in
set_option maxHeartbeats 1000000 in
/-- of no heap -/
theorem encode_nil (w : World) : Calls Tryz.prog 13 #[.pointer none] w (Still (.slice none 0 0) w) := by
  have hwd : Calls Tryz.prog 22 #[.pointer none] w (Still (.int .i64 0) w) := words_still (m := Mem.none) (memory_none (.inl rfl))
  go_enter Tryz.func13, Tryz.ntmps13
  go_wp2_with fail
  refine hwd.mono ?_
  rintro e w1 ⟨rfl, hF1⟩
  have HF1 := Lib.hid hF1
  clear hF1
  go_wp2_with fail
  go_ret
  exact ⟨rfl, HF1.out⟩
end Go.Proofs.YtfhhjdfdfbelgaaGreatDoor
namespace Go.Proofs.YtfhhjdfdfbelgaaGreatDoor
open Go.RowKit

theorem inv_fresh6 (lim : Int) (h1 : 64 ≤ lim) (h2 : lim ≤ 65536) : OInv lim [] 0 :=
  { l1 := h1, l2 := h2, fit := (by simp [endOf, flatW]; omega), h0 := (by omega), h1 := (by omega), each := (fun o h => by cases h), bd := (fun o h => by cases h), uq := ⟨by omega, by omega, fun i x h => by simp at h⟩ }
set_option maxRecDepth 100000 in
set_option maxHeartbeats 1600000 in
theorem loaded6_no (n : Int) (lv : Value) (rt hs0 : Int) (w : World) (h : n < 64 ∨ 65536 < n) (b1 : -9223372036854775808 ≤ n) (b2 : n ≤ 9223372036854775807) : Calls Tryz.prog 12 #[.int .i64 n, lv, .int .u64 rt, .int .i64 hs0] w (Still (.tuple #[.pointer none, .pointer none]) w) := by
  have hn := new_no n
  have hr := rnew_no n
  go_enter Tryz.func12, Tryz.ntmps12
  go_wp2_with (first | (go_at_call 21; refine (hn _ h).mono ?_; rintro e w' ⟨rfl, rfl⟩) | (go_at_call 26; refine (hr _ h b1 b2).mono ?_; rintro e w' ⟨rfl, rfl⟩))
  go_ret2
  exact ⟨rfl, Fr.refl _ _⟩
/-- two heaps that hold the same -/
def Both6 (lim : Int) (os0 : List Ob) (rt hs0 : Int) (w : World) (e : Ending) (W : World) : Prop := ∃ hb mb rb os root hs l, e = .returned (.tuple #[.pointer (some ⟨hb, 0, none⟩), .pointer (some ⟨rb, 0, none⟩)]) ∧ OInv lim os hs ∧ RAgree 1 l os ∧ Two w [] hb mb rb (absMem lim os root hs) ⟨lim, l, root, hs⟩ W ∧ OLoad lim [] 0 0 os0 rt hs0 os root hs
set_option maxRecDepth 100000 in
set_option maxHeartbeats 3200000 in
theorem loaded6 (n : Int) (h1 : 64 ≤ n) (h2 : n ≤ 65536) {w : World} (hg : Glob w) {ao : Option Addr} {cap : Nat} (its : List (It × Int)) (hG : G4 w ao its) (hB : B4 its) (rt hs0 : Int) (hrt : WB rt) (hh1 : -9223372036854775808 ≤ hs0) (hh2 : hs0 ≤ 9223372036854775807) : Calls Tryz.prog 12 #[.int .i64 n, .slice ao its.length cap, .int .u64 rt, .int .i64 hs0] w (Both6 n (obsOf (its.map Prod.fst)) rt hs0 w) := by
  have HRT := Lib.hid hrt
  obtain ⟨i0, hi, hz0, hz1, hz2⟩ := info_parts infoHO
  have HGL := Lib.hid hg
  have HG := Lib.hid hG
  have HB := Lib.hid hB
  obtain ⟨os', root', hs', hOL, hML⟩ := OLoad.ex n [] 0 0 (obsOf (its.map Prod.fst)) rt hs0
  have HML := Lib.hid hML
  have HOL := Lib.hid hOL
  have HNI := Lib.hid (hOL.inv (inv_fresh6 n h1 h2) (fun o ho => by obtain ⟨a, ha, rfl⟩ := List.mem_map.1 ho; obtain ⟨b, hb, rfl⟩ := List.mem_map.1 ha; exact hB.words b hb))
  have hlen := hB.len
  obtain ⟨N, hN⟩ : ∃ N, N = its.length := ⟨_, rfl⟩
  rw [← hN] at hlen ⊢
  have HN := Lib.hid hN
  clear hg hG hB hOL hML hN
  go_enter Tryz.func12, Tryz.ntmps12
  go_wp2_with fail
  refine (live_new n _ h1 h2).mono ?_
  rintro e w1 ⟨hb, mb, rfl, hL⟩
  have HL := Lib.hid hL
  clear hL
  go_wp2_with fail
  refine (rnew n _ h1 h2).mono ?_
  rintro e w2 ⟨rfl, hR, hF2⟩
  have HT2 : Hid (Two w [] hb mb w1.heap.size (absMem n [] 0 0) ⟨n, [], 0, 0⟩ w2) := two_new HL.out hF2 hR (fun k hk => by simp [rfoot, Value.ownBlock] at hk; omega)
  have HF2 : Hid (Fr [] w w2) := HL.out.fr.trans hF2
  obtain ⟨rb, hrb⟩ : ∃ rb, rb = w1.heap.size := ⟨_, rfl⟩
  rw [← hrb] at HT2
  rw [← hrb]
  clear hR hF2 hrb HL
  go_wp2_with fail
  go_loopw [14, 15] (fun v i wr => ∃ k : Nat, k ≤ N ∧ i = .int .i64 k ∧ Hid (Grows w2 74 3 k (flat3 ((its.take k).map Prod.fst)) v wr)) (fun _ i _ => N - (intOf i).toNat)
  case atStart => exact ⟨0, Nat.zero_le _, rfl, World.ownsRow_nil _ _ _ _, Fr.refl _ _, fun _ h => by cases h⟩
  case round =>
    obtain ⟨k, hk, rfl, hG⟩ := hrel
    obtain ⟨vo, vc, rfl⟩ := row_shape' hG.out.row
    by_cases hlt : k < N
    · have hkl : k < its.length := by rw [← HN.out]; exact hlt
      obtain ⟨o, ho⟩ : ∃ o, o = its[k] := ⟨_, rfl⟩
      have hik : its[k]? = some o := by rw [List.getElem?_eq_getElem hkl, ho]
      obtain ⟨f1, f2, f3, -⟩ := flat4_at hik
      obtain ⟨g, off, rfl, c1⟩ := HG.out.row _ _ f1
      obtain ⟨g2, off2, e2, c2⟩ := HG.out.row _ _ f2
      cases e2
      obtain ⟨g3, off3, e3, c3⟩ := HG.out.row _ _ f3
      cases e3
      have hgw : g < w.heap.size := World.block_lt_of_cell? w _ c1
      obtain ⟨fa, fc, hov, -⟩ := HG.out.ok o (List.mem_of_getElem? hik)
      obtain ⟨z, hz⟩ : ∃ z, z = o.1.fs.length := ⟨_, rfl⟩
      rw [← hz] at hov
      rw [hov] at c3
      have HFW := Lib.hid (HF2.out.trans hG.out.fr)
      have d1 := HFW.out.cell (by simp) c1
      have d2 := HFW.out.cell (by simp) c2
      have d3 := HFW.out.cell (by simp) c3
      rw [← Nat.add_assoc] at d2 d3
      have hs2 := HF2.out.size
      have hov1 : (Value.slice vo k vc).ownBlock ≠ some g := fun e => by have := hG.out.new g e; omega
      have HT : Hid (its.take (k + 1) = its.take k ++ [o]) := by rw [List.take_add_one, hik]; rfl
      have HO := Lib.hid hov
      have hgr : g < wr.heap.size := Nat.lt_of_lt_of_le hgw HFW.out.size
      have hk0 : (0 : Int) ≤ (k : Int) := Int.natCast_nonneg _
      have hk1 : (k : Int) < (N : Int) := by omega
      have HROW : Hid (wr.ownsRow 0 74 3 (.slice vo k vc) k (flat3 ((its.take k).map Prod.fst))) := hG.out.row
      have hmx : k + 1 ≤ maxLen := by unfold maxLen; omega
      clear ho hik f1 f2 f3 c1 c2 c3 hkl hov hz
      go_wp2_with fail
      go_region_held3 (fun w' => w'.cell? ⟨g, off + k * 4, none⟩ = some (.int .u64 o.1.cls) ∧ w'.cell? ⟨g, off + k * 4 + 1, none⟩ = some (.int .i64 o.1.hash) ∧ w'.cell? ⟨g, off + k * 4 + 2, none⟩ = some (.slice fa z fc))
        (first
          | go_keep
          | (go_split_ands
             refine ⟨?_, ?_, ?_⟩
             · (rw [hgrow.cell_far _ (by simp; omega) (Ne.symm hov1)]; assumption)
             · (rw [hgrow.cell_far _ (by simp; omega) (Ne.symm hov1)]; assumption)
             · (rw [hgrow.cell_far _ (by simp; omega) (Ne.symm hov1)]; assumption)))
        ((refine step_append_lies _ (by rfl) _ _ _ (by rfl) 0 74 i0 _ 3 40 Tryz.underlying46 hi hz0 hz1 hz2 rfl (by omega) (.slice vo k vc) k (flat3 ((its.take k).map Prod.fst)) (by rfl) ((HROW.out.alloc _).drew) ⟨wr.heap.size, 0, none⟩ 1 1 [.int .u64 o.1.cls, .int .i64 o.1.hash, .slice fa z fc] (by rfl) (by rfl) (World.news_of_block (cs := #[.int .u64 o.1.cls, .int .i64 o.1.hash, .slice fa z fc]) (t := 74) (fr := (0, 0)) (heap_alloc_new wr _)) (by simp [Value.oneCell']) (by omega) hmx (by omega) (by simp) (wr.heap.size + 1) (by simp) ?_; intro gg cp w1 hown1 hgrow hat hlt1))
      have HGn : Hid (Grows w2 74 3 (k + 1) (flat3 ((its.take (k + 1)).map Prod.fst)) (.slice (some ⟨gg, 0, none⟩) (k + 1) cp) w1) := by
        rw [HT.out, List.map_append, List.map_singleton, flat3_snoc]
        rw [HO.out]
        exact hG.out.step (W1 := (wr.alloc _).drew) (((Fr.refl _ _).alloc _).drew) hown1 hgrow (hat.imp (fun h => h.symm) (fun h => by rw [h]; simp [Value.ownBlock]))
      clear hown1 hgrow hat hlt1 HROW hG
      go_wp2_with fail
      go_roundw
      case rel => exact ⟨k + 1, by omega, by go_num, HGn⟩
      case measure => simp [intOf]; omega
    · have hke : k = N := by omega
      subst hke
      have hkd : decide (k < k) = false := by simp
      have HR : Hid (wr.ownsRow 0 74 3 (.slice vo k vc) k (flat3 (its.map Prod.fst))) := by
        have := hG.out.row
        rw [HN.out, List.take_length, ← HN.out] at this
        exact this
      have HF := Lib.hid hG.out.fr
      have HT3 := Lib.hid (HT2.out.still HF.out)
      have HH3 : Hid (Handed wr vo (its.map Prod.fst)) := by
        have hg := HG.out.fr0 (HF2.out.trans HF.out)
        have hB := HB.out
        exact ⟨row_rowAt HR.out, fun o ho => by obtain ⟨b, hb, rfl⟩ := List.mem_map.1 ho; exact hg.inn b hb, by simpa using hB.len, fun o ho => by obtain ⟨b, hb, rfl⟩ := List.mem_map.1 ho; exact hB.sizes b hb, fun o ho => by obtain ⟨b, hb, rfl⟩ := List.mem_map.1 ho; exact hB.hash b hb, fun o ho => by obtain ⟨b, hb, rfl⟩ := List.mem_map.1 ho; exact hB.words b hb⟩
      have hhl := hload2 (cap := vc) (lo := ao) HGL.out (inv_fresh6 n h1 h2) HT3.out (its.map Prod.fst) HH3.out its (fun wv sv W' hHA h2' hF' => HG.out.fr (HF2.out.trans HF.out |>.join hF' h2') (fun _ a _ => by simp) (fun _ _ fa _ _ _ _ => by simp)) rt hs0 HRT.out hh1 hh2 HML.out
      rw [List.length_map, ← HN.out] at hhl
      have HHL := Lib.hid hhl
      clear hG hhl
      go_wp2_with fail
      refine HHL.out.mono ?_
      rintro e w4 ⟨rfl, hT4, hG4⟩
      have hrl := rload2 (cap := cap) (l := []) (inv_fresh6 n h1 h2) (show RAgree 1 [] [] from trivial) its HB.out rt hs0 HRT.out hh1 hh2 HOL.out hT4 hG4
      rw [← HN.out] at hrl
      have HRL := Lib.hid hrl
      clear hT4 hG4 hrl
      go_wp2_with fail
      refine HRL.out.mono ?_
      rintro e w5 ⟨rfl, l', ha', hT5⟩
      have HT5 := Lib.hid hT5
      have HA5 := Lib.hid ha'
      clear hT5 ha'
      go_wp2_with fail
      go_ret2
      exact ⟨hb, mb, rb, os', root', hs', l', rfl, HNI.out, HA5.out, HT5.out, HOL.out⟩
end Go.Proofs.YtfhhjdfdfbelgaaGreatDoor
namespace Go.Proofs.YtfhhjdfdfbelgaaGreatDoor
open Go.RowKit

/-- the two errors, and that they are two -/
structure IGlob (w : World) (bT bF : Addr) : Prop where
  errs : IErrs w bT bF
  ne : bT ≠ bF
  t : ∃ c ty, w.heap[bT.block]? = some (.cells c ty (0, 0))
  f : ∃ c ty, w.heap[bF.block]? = some (.cells c ty (0, 0))
theorem IGlob.still {w w' : World} {bT bF : Addr} (h : IGlob w bT bF) (hF : Fr [] w w') : IGlob w' bT bF :=
  ⟨h.errs.still hF, h.ne, by obtain ⟨c, ty, e⟩ := h.t; exact ⟨c, ty, hF.heap (by simp) e⟩, by obtain ⟨c, ty, e⟩ := h.f; exact ⟨c, ty, hF.heap (by simp) e⟩⟩
def I64 (x : Int) : Prop := -9223372036854775808 ≤ x ∧ x ≤ 9223372036854775807
theorem sgn_I64 {x : Int} (h0 : 0 ≤ x) (h1 : x ≤ 18446744073709551615) : I64 (sgn x) := by
  unfold sgn I64
  split <;> omega
theorem rdOb_bd {l r : List Int} {o : Int × Int × List Int} (hb : ∀ y ∈ l, B y) (h : rdOb l = some (o, r)) : ObB o ∧ I64 o.2.1 ∧ ∀ y ∈ r, B y := by
  unfold rdOb at h
  cases h1 : rdNs 3 l with
  | none => simp [h1] at h
  | some p =>
    obtain ⟨xs, q⟩ := p
    obtain ⟨e1, e2, e3⟩ := rdNs_inv 3 l hb xs q h1
    simp only [h1] at h
    match xs, e2 with
    | [a, b, c], _ =>
      simp only [List.getD_cons_zero, List.getD_cons_succ] at h
      split at h
      · cases h
      · next hc =>
        cases h2 : rdNs c.toNat q with
        | none => simp [h2] at h
        | some p2 =>
          obtain ⟨fs, q2⟩ := p2
          have hq : ∀ y ∈ q, B y := fun y hy => hb y (by rw [e1]; simp [hy])
          obtain ⟨i1, i2, i3⟩ := rdNs_inv _ q hq fs q2 h2
          simp only [h2] at h
          obtain ⟨h3, h4⟩ := Prod.mk.inj (Option.some.inj h)
          subst h3
          subst h4
          have ha := e3 a (by simp)
          have hb' := e3 b (by simp)
          exact ⟨⟨ha, i3⟩, sgn_I64 hb'.1 hb'.2, fun y hy => hq y (by rw [i1]; simp [hy])⟩
theorem rdObs_bd : ∀ (n : Nat) (l : List Int) (_ : ∀ y ∈ l, B y) (os : List (Int × Int × List Int)) (r : List Int), rdObs n l = some (os, r) → ∀ o ∈ os, ObB o ∧ I64 o.2.1
  | 0, l, hb, os, r, h => by
    obtain ⟨h1, h2⟩ := Prod.mk.inj (Option.some.inj h)
    subst h1
    exact fun o h => by cases h
  | n + 1, l, hb, os, r, h => by
    rw [rdObs] at h
    cases h1 : rdOb l with
    | none => simp [h1] at h
    | some p =>
      obtain ⟨x, q⟩ := p
      simp only [h1] at h
      obtain ⟨b1, b2, b3⟩ := rdOb_bd hb h1
      cases h2 : rdObs n q with
      | none => simp [h2] at h
      | some p2 =>
        obtain ⟨ys, q2⟩ := p2
        simp only [h2] at h
        obtain ⟨h3, h4⟩ := Prod.mk.inj (Option.some.inj h)
        subst h3
        have ih := rdObs_bd n q b3 ys q2 h2
        intro o ho
        rcases List.mem_cons.1 ho with rfl | ho
        · exact ⟨b1, b2⟩
        · exact ih o ho
theorem dec_bd {bs : List Int} {root hashes : Int} {os : List Ob} (hb : ∀ y ∈ bs, B y) (h : decI bs = some (root, hashes, os)) : WB root ∧ I64 hashes ∧ (∀ o ∈ os, ObB o ∧ I64 o.2.1) ∧ 24 * os.length ≤ bs.length := by
  unfold decI at h
  cases hq : decQ bs with
  | none => simp [hq] at h
  | some p =>
    obtain ⟨c, q⟩ := p
    simp only [hq] at h
    split at h
    · obtain rfl := Option.some.inj h
      unfold decQ at hq
      split at hq
      · have hd : ∀ y ∈ bs.drop 4, B y := fun y hy => hb y (List.mem_of_mem_drop hy)
        cases h1 : rdNs 3 (bs.drop 4) with
        | none => simp [h1] at hq
        | some p1 =>
          obtain ⟨xs, r⟩ := p1
          obtain ⟨e1, e2, e3⟩ := rdNs_inv 3 _ hd xs r h1
          have e4 := rdNs_len 3 _ _ _ h1
          simp only [h1] at hq
          match xs, e2 with
          | [a, b, c], _ =>
            simp only [List.getD_cons_zero, List.getD_cons_succ] at hq
            cases h2 : rdObs c.toNat r with
            | none => simp [h2] at hq
            | some p2 =>
              obtain ⟨os2, q2⟩ := p2
              simp only [h2] at hq
              obtain ⟨h3, h4⟩ := Prod.mk.inj (Option.some.inj hq)
              obtain ⟨h5, h6⟩ := Prod.mk.inj h3
              obtain ⟨h7, h8⟩ := Prod.mk.inj h6
              subst h5
              subst h8
              have ha := e3 a (by simp)
              have hb' := e3 b (by simp)
              have hl := rdObs_len _ _ _ _ h2
              refine ⟨ha, by rw [← h7]; exact sgn_I64 hb'.1 hb'.2, rdObs_bd _ r (fun y hy => hd y (by rw [e1]; simp [hy])) os2 q2 h2, ?_⟩
              rw [hl.2]
              simp at e4
              omega
      · cases hq
    · cases h
theorem loadE_012 (lim : Int) (os : List Ob) (root n : Int) : loadE lim os root n = 0 ∨ loadE lim os root n = 1 ∨ loadE lim os root n = 2 := by
  unfold loadE
  repeat' split
  all_goals simp
section
variable {w0 w : World} {hb mb : Nat}
theorem live_load {lim r0 h0 : Int} {os0 : List Ob} (hL : Live w0 hb mb (absMem lim os0 r0 h0) w) (hg : Glob w) (l1 : 64 ≤ lim) (l2 : lim ≤ 65536) {ao : Option Addr} {cap : Nat} (its : List It) (hI : Handed w ao its) (root n : Int) (hr : WB root) (n1 : -9223372036854775808 ≤ n) (n2 : n ≤ 9223372036854775807) :
    Calls Tryz.prog 33 #[.pointer (some ⟨hb, 0, none⟩), .slice ao its.length cap, .int .u64 root, .int .i64 n] w (LStill (.int .i64 (loadE lim (obsOf its) root n)) w0 hb mb (memLoad lim os0 r0 h0 (obsOf its) root n)) := by
  obtain ⟨wv, sv, hH, hF0, h1, h2⟩ := hL
  refine (load_turns hH hg l1 l2 its hI root n hr n1 n2).mono ?_
  rintro e w' ⟨rfl, wv', sv', hM, hF, hfr⟩
  exact ⟨rfl, Live.turn hH hF0 h1 h2 hM hF hfr⟩
/-- the heap with these contents, or an error -/
def LdE (E : Int) (w0 : World) (hb mb : Nat) (lim : Int) (os : List Ob) (root n : Int) (e : Ending) (w' : World) : Prop :=
  (E = 0 ∧ e = .returned (.tuple #[.pointer (some ⟨hb, 0, none⟩), .int .i64 0]) ∧ Live w0 hb mb (absMem lim os root n) w') ∨
  (E ≠ 0 ∧ e = .returned (.tuple #[.pointer none, .int .i64 (if E = 2 then 2 else 3)]) ∧ Live w0 hb mb (absMem lim [] 0 0) w')
def LdTo (w0 : World) (hb mb : Nat) (lim : Int) (os : List Ob) (root n : Int) : Ending → World → Prop := LdE (loadE lim os root n) w0 hb mb lim os root n
set_option maxRecDepth 100000 in
set_option maxHeartbeats 1600000 in
theorem iloaded_at {lim : Int} (hL : Live w0 hb mb (absMem lim [] 0 0) w) (hg : Glob w) (l1 : 64 ≤ lim) (l2 : lim ≤ 65536) {ao : Option Addr} {cap : Nat} (its : List It) (hI : Handed w ao its) (root n : Int) (hr : WB root) (hn : I64 n) :
    Calls Tryz.prog 25 #[.pointer (some ⟨hb, 0, none⟩), contV root n ao its.length cap] w (LdTo w0 hb mb lim (obsOf its) root n) := by
  have HLD : Hid (∀ W, Fr [] w W → Calls Tryz.prog 33 #[.pointer (some ⟨hb, 0, none⟩), .slice ao its.length cap, .int .u64 root, .int .i64 n] W (LStill (.int .i64 (loadE lim (obsOf its) root n)) w0 hb mb (memLoad lim [] 0 0 (obsOf its) root n))) := Lib.hid fun W hF => live_load (hL.still hF) (hg.fr hF) l1 l2 its (hI.fr hF) root n hr hn.1 hn.2
  unfold contV LdTo
  have hc := loadE_012 lim (obsOf its) root n
  have HM1 : Hid (loadE lim (obsOf its) root n = 0 → memLoad lim [] 0 0 (obsOf its) root n = absMem lim (obsOf its) root n) := Lib.hid fun h => memLoad_ok h
  have HM2 : Hid (loadE lim (obsOf its) root n ≠ 0 → memLoad lim [] 0 0 (obsOf its) root n = absMem lim [] 0 0) := Lib.hid fun h => memLoad_no h
  generalize loadE lim (obsOf its) root n = E at *
  generalize memLoad lim [] 0 0 (obsOf its) root n = M at *
  generalize its.length = k at *
  clear hL hg hI hr
  go_enter Tryz.func25, Tryz.ntmps25
  go_wp2_with fail
  refine (HLD.out _ (by first | exact Fr.refl _ _ | exact (Fr.refl _ _).alloc _)).mono ?_
  rintro e w1 ⟨rfl, hL1⟩
  have HL1 := Lib.hid hL1
  clear hL1 HLD
  rcases hc with hc | hc | hc
  · have hm := HM1.out hc
    subst hc
    subst hm
    go_wp2_with fail
    go_ret2
    exact Or.inl ⟨rfl, rfl, HL1.out⟩
  · have hm := HM2.out (by rw [hc]; decide)
    subst hc
    subst hm
    go_wp2_with fail
    go_ret2
    exact Or.inr ⟨by decide, rfl, HL1.out⟩
  · have hm := HM2.out (by rw [hc]; decide)
    subst hc
    subst hm
    go_wp2_with fail
    go_ret2
    exact Or.inr ⟨by decide, rfl, HL1.out⟩
end
/-- the error that Decode answers -/
noncomputable def decE (lim : Int) (bs : List Int) : Int := match decI bs with
  | none => 3
  | some (root, hashes, os) => if loadE lim os root hashes = 0 then 0 else if loadE lim os root hashes = 2 then 2 else 3
/-- the heap of bytes, or an error -/
def Decoded6 (lim : Int) (bs : List Int) (w : World) (e : Ending) (w' : World) : Prop :=
  (∃ root hashes os hb mb, decI bs = some (root, hashes, os) ∧ loadE lim os root hashes = 0 ∧ OInv lim os hashes ∧ e = .returned (.tuple #[.pointer (some ⟨hb, 0, none⟩), .int .i64 0]) ∧ Live w hb mb (absMem lim os root hashes) w') ∨
  (decE lim bs ≠ 0 ∧ e = .returned (.tuple #[.pointer none, .int .i64 (decE lim bs)]) ∧ Fr [] w w')
set_option maxRecDepth 100000 in
set_option maxHeartbeats 1600000 in
theorem decode_no (n : Int) (v : Value) (w : World) (h : n < 64 ∨ 65536 < n) : Calls Tryz.prog 9 #[v, .int .i64 n] w (Still (.tuple #[.pointer none, .int .i64 1]) w) := by
  have hn := new_no n
  go_enter Tryz.func9, Tryz.ntmps9
  go_wp2_with (first | (go_at_call 21; refine (hn _ h).mono ?_; rintro e w' ⟨rfl, rfl⟩))
  go_ret2
  exact ⟨rfl, by first | exact Fr.refl _ _ | exact (Fr.refl _ _).alloc _⟩
theorem ObsIn.handed {w W : World} {ao : Option Addr} {cap : Nat} {its : List It} {bs : List Int} {root hashes : Int} (h : ObsIn w (.slice ao its.length cap) its W) (hb : ∀ y ∈ bs, B y) (hl : bs.length ≤ 35184372088832) (hd : decI bs = some (root, hashes, obsOf its)) : Handed W ao its := by
  obtain ⟨-, -, h3, h4⟩ := dec_bd hb hd
  have hlen : (obsOf its).length = its.length := by simp [obsOf]
  have hk : ∀ o ∈ its, o.key ∈ obsOf its := fun o ho => List.mem_map_of_mem ho
  exact ⟨row_rowAt h.row, fun o ho => (h.own o ho).inn, by omega, fun o ho => Nat.le_trans (h.own o ho).2 (by decide), fun o ho => (h3 _ (hk o ho)).2, fun o ho => (h3 _ (hk o ho)).1⟩
set_option maxRecDepth 100000 in
set_option maxHeartbeats 3200000 in
theorem decode_at {w : World} {a : Option Addr} {bs : List Int} {cap : Nat} {bT bF : Addr} (n : Int) (h1 : 64 ≤ n) (h2 : n ≤ 65536) (hg : Glob w) (hI : IGlob w bT bF) (hA : BytesAt w a bs) (hB : ∀ x ∈ bs, B x) (hc : bs.length ≤ cap) (hl : bs.length ≤ 35184372088832) : Calls Tryz.prog 9 #[.slice a bs.length cap, .int .i64 n] w (Decoded6 n bs w) := by
  have HG := Lib.hid hg
  have HI := Lib.hid hI
  have HB := Lib.hid hB
  have HHD : Hid (∀ (w0 W : World) (ao : Option Addr) (ac : Nat) (its : List It) (root hashes : Int), ObsIn w0 (.slice ao its.length ac) its W → decI bs = some (root, hashes, obsOf its) → Handed W ao its) := Lib.hid fun _ _ _ _ _ _ _ h hd => h.handed hB hl hd
  have HDC : Hid (∀ W, Fr [] w W → Calls Tryz.prog 23 #[.slice a bs.length cap] W (DecTo6 bs bT bF W)) := Lib.hid fun W hF => idecoded_at (hA.fr hF (fun _ _ => by simp)) hB (hI.errs.still hF) hc hl
  generalize bs.length = k at *
  clear hA hB hc hl hg hI
  go_enter Tryz.func9, Tryz.ntmps9
  go_wp2_with fail
  refine (live_new n _ h1 h2).mono ?_
  rintro e w1 ⟨hb, mb, rfl, hL⟩
  have HLV := Lib.hid hL
  clear hL
  go_wp2_with fail
  refine (HDC.out _ HLV.out.fr).mono ?_
  intro e w2 hd
  unfold DecTo6 at hd
  cases hq : decI bs with
  | none =>
    rw [hq] at hd
    obtain ⟨m, b, hb, rfl, hF2⟩ := hd
    have HNO : Hid (decE n bs = 3) := Lib.hid (by unfold decE; rw [hq])
    have HF2 := Lib.hid (HLV.out.fr.trans hF2)
    clear hF2 hq HDC
    have HI2 := Lib.hid (HI.out.still (HF2.out.alloc (.cells #[.int .u64 0, .int .i64 0, .slice none 0 0] 52)))
    have hgT := (HI.out.errs.still HF2.out).t
    have hgF := (HI.out.errs.still HF2.out).f
    obtain ⟨hlT, hlF⟩ := (HI.out.errs.still HF2.out).lt
    obtain ⟨cT, yT, hT⟩ := HI2.out.t
    obtain ⟨cF, yF, hF⟩ := HI2.out.f
    have HT := Lib.hid hT
    have HF := Lib.hid hF
    have hne := HI.out.ne
    clear hT hF
    rcases hb with rfl | rfl
    · go_wp2_with fail
      refine (is_ifault m b _).mono ?_
      rintro e w3 ⟨rfl, hF3⟩
      have HF3 := Lib.hid ((HF2.out.alloc _).trans hF3)
      clear hF3
      go_wp2_with fail
      go_ret2
      exact Or.inr ⟨by rw [HNO.out]; decide, by rw [HNO.out]; rfl, HF3.out⟩
    · go_wp2_with fail
      refine (isnot_ifault m b bT _ (Ne.symm hne) HT.out HF.out).mono ?_
      rintro e w3 ⟨rfl, hF3⟩
      have hgF3 := ((HI2.out.errs).still hF3).f
      have HF3 := Lib.hid ((HF2.out.alloc _).trans hF3)
      clear hF3
      go_wp2_with fail
      refine (is_ifault m b _).mono ?_
      rintro e w4 ⟨rfl, hF4⟩
      have HF4 := Lib.hid (HF3.out.trans hF4)
      clear hF4
      go_wp2_with fail
      go_ret2
      exact Or.inr ⟨by rw [HNO.out]; decide, by rw [HNO.out]; rfl, HF4.out⟩
  | some p =>
    obtain ⟨root, hashes, os⟩ := p
    rw [hq] at hd
    obtain ⟨ao, ac, its, rfl, hob, hin, hF2⟩ := hd
    subst hob
    have HBD := Lib.hid (dec_bd HB.out hq)
    have HQ := Lib.hid hq
    have HIN := Lib.hid hin
    have HL2 := Lib.hid (HLV.out.still hF2)
    have HF2 := Lib.hid (HLV.out.fr.trans hF2)
    have hld : Hid (∀ W, Fr [] w2 W → Calls Tryz.prog 25 #[.pointer (some ⟨hb, 0, none⟩), contV root hashes ao its.length ac] W (LdTo w hb mb n (obsOf its) root hashes)) := Lib.hid fun W hF =>
      iloaded_at (HL2.out.still hF) (HG.out.fr (HF2.out.trans hF)) h1 h2 its (HHD.out _ _ _ _ _ _ _ (HIN.out.fr hF (fun _ h => by cases h)) HQ.out) root hashes HBD.out.1 HBD.out.2.1
    have HLD := hld
    unfold contV at HLD ⊢
    clear hF2 hq HDC hin hld HHD
    generalize its.length = q at *
    have hgT := (HI.out.errs.still HF2.out).t
    have hgF := (HI.out.errs.still HF2.out).f
    obtain ⟨hlT, hlF⟩ := (HI.out.errs.still HF2.out).lt
    have HBX : Hid ((w2.alloc (.cells #[.int .u64 root, .int .i64 hashes, .slice ao q ac] 52)).heap[w2.heap.size]? = some (.cells #[.int .u64 root, .int .i64 hashes, .slice ao q ac] 52 (0, 0))) := heap_new w2 _
    go_wp2_with fail
    refine (is_nil bT _).mono ?_
    rintro e w3 ⟨rfl, hF3⟩
    have hgF3 := ((HI.out.errs.still (HF2.out.alloc _)).still hF3).f
    have hb3 := hF3.heap (by simp) HBX.out
    have HB3 := Lib.hid hb3
    have k0 := cell_of_heap (o := 0) HB3.out rfl; have k1 := cell_of_heap (o := 1) HB3.out rfl; have k2 := cell_of_heap (o := 2) HB3.out rfl
    have HF3 : Hid (Fr [] w2 w3) := ((Fr.refl _ _).alloc _).trans hF3
    clear hF3 hb3
    go_wp2_with fail
    refine (is_nil bF _).mono ?_
    rintro e w4 ⟨rfl, hF4⟩
    have hb4 := hF4.heap (by simp) HB3.out
    have HF4 := Lib.hid (HF3.out.trans hF4)
    have j0 := cell_of_heap (o := 0) hb4 rfl; have j1 := cell_of_heap (o := 1) hb4 rfl; have j2 := cell_of_heap (o := 2) hb4 rfl
    clear hF4 hb4 k0 k1 k2
    go_wp2_with fail
    refine (HLD.out _ HF4.out).mono ?_
    rintro e w5 (⟨hz, rfl, hL5⟩ | ⟨hz, rfl, hL5⟩)
    · have HZ := Lib.hid hz
      have HL5 := Lib.hid hL5
      clear hz hL5 HLD
      go_wp2_with fail
      go_ret2
      exact Or.inl ⟨root, hashes, obsOf its, hb, mb, HQ.out, HZ.out, OLoad.inv (r0 := 0) (.inl ⟨HZ.out, rfl, rfl, rfl⟩) (inv_fresh6 n h1 h2) (fun o ho => (HBD.out.2.2.1 o ho).1), rfl, HL5.out⟩
    · have HE : Hid (decE n bs = if loadE n (obsOf its) root hashes = 2 then 2 else 3) := Lib.hid (by
        unfold decE
        rw [HQ.out]
        simp only [if_neg hz])
      have HEN : Hid ((if loadE n (obsOf its) root hashes = 2 then (2 : Int) else 3) ≠ 0) := by show _ ≠ _; split <;> decide
      have HF5 := Lib.hid hL5.fr
      generalize (if loadE n (obsOf its) root hashes = 2 then (2 : Int) else 3) = E at *
      clear hz hL5 HLD
      go_wp2_with fail
      go_ret2
      exact Or.inr ⟨by rw [HE.out]; exact HEN.out, by rw [HE.out]; rfl, HF5.out⟩
end Go.Proofs.YtfhhjdfdfbelgaaGreatDoor
