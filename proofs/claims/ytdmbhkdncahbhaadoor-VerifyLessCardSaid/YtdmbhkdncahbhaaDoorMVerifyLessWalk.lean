/- VerifyLess: more room on the stack changes nothing. -/
import Derived.Test.YtdmbhkdncahbhaaDoorMVerE
import Derived.Test.YtdmbhkdncahbhaaDoorMMask
import Derived.Test.YtdmbhkdncahbhaaDoorMVerF
namespace Go.Proofs.YtdmbhkdncahbhaaDoor
open Go.RowKit

theorem less_pure {m : Mth} {x : Int} (h0 : 0 ≤ x) (h15 : x ≤ 15) (s1 : -9223372036854775808 ≤ m.stack) (s2 : m.stack ≤ 9223372036854775807) {l l' : List Int} {p p' en' : Int} (h : DepthsTo m l p 0) (hS : IntKind.i64.wrap (m.stack + x) ≤ 16) (h' : DepthsTo (m.room (IntKind.i64.wrap (m.stack + x))) l' p' en') : p = -1 ∧ p' = -1 ∧ en' = 0 ∧ l' = l := by
  obtain ⟨g, rfl, rfl⟩ := h.ok_good
  have hd := m.head_iff.1 (m.ok_iff.1 g.ok).1
  have e : IntKind.i64.wrap (m.stack + x) = m.stack + x := by rw [IntKind.wrap_i64]; omega
  rw [e] at hS h'
  obtain ⟨e1, e2, e3⟩ := DepthsTo.of_good (g.room (s := m.stack + x) (by omega) hS) h'
  rw [g.depths_room (by omega) hS] at e1
  exact ⟨rfl, e2, e3, e1⟩
set_option maxRecDepth 100000 in
set_option maxHeartbeats 1600000 in
theorem verifyLess_walk (m : Mth) (la ca : Option Addr) (lc cc : Nat) (more : Int) (w : World) (hcode : RowAt w ca (flatI m.code)) (s1 : -9223372036854775808 ≤ m.stack) (s2 : m.stack ≤ 9223372036854775807) (hg : VG w) : Calls Tryd.prog 5 #[m.v la lc ca cc, .int .i64 more] w (Still (.bool true) w) := by
  have HAW := Lib.hid (fun W (hF : Fr [] w W) => awake5 W (hg.fr hF))
  have HD := Lib.hid (fun W (hF : Fr [] w W) => Depths_at m la ca lc cc W (row_fr hcode hF) (hg.fr hF).errs (hg.fr hF).field (hg.fr hF).db (hg.fr hF).et)
  obtain ⟨h0, h15⟩ := and_mask more 15 (by omega)
  obtain ⟨x, hx⟩ : ∃ x, x = bits .and .i64 more 15 := ⟨_, rfl⟩
  have hx' : bits .and .i64 more 15 = x := hx.symm
  change 0 ≤ bits .and .i64 more 15 at h0
  change bits .and .i64 more 15 ≤ 15 at h15
  rw [hx'] at h0 h15
  have HPU := Lib.hid (fun l p l' p' en' => @less_pure m x h0 h15 s1 s2 l l' p p' en')
  have HD2 := Lib.hid (fun W (hF : Fr [] w W) => Depths_at (m.room (IntKind.i64.wrap (m.stack + x))) la ca lc cc W (row_fr hcode hF) (hg.fr hF).errs (hg.fr hF).field (hg.fr hF).db (hg.fr hF).et)
  obtain ⟨S, hS⟩ : ∃ S, S = IntKind.i64.wrap (m.stack + x) := ⟨_, rfl⟩
  have hS' : IntKind.i64.wrap (m.stack + x) = S := hS.symm
  rw [hS'] at HD2 HPU
  unfold Mth.v at HD
  unfold Mth.v Mth.room at HD2
  simp only at HD2
  unfold Mth.v
  obtain ⟨ll, hll⟩ : ∃ n, n = m.lits.length := ⟨_, rfl⟩
  obtain ⟨n, hN⟩ : ∃ n, n = m.code.length := ⟨_, rfl⟩
  rw [← hll, ← hN] at HD HD2 ⊢
  have HNN := Lib.hid hN
  clear hcode hg hx hS h0 h15 hll hN s1 s2
  go_enter Tryd.func5, Tryd.ntmps5
  go_wp2_with fail
  refine (HAW.out _ ((Fr.refl _ _).alloc _)).mono ?_
  rintro e w2 ⟨rfl, hF2⟩
  have HF2 : Hid (Fr [] w w2) := ((Fr.refl _ _).alloc _).trans hF2
  have HB2 := Lib.hid (hF2.heap (by simp) (heap_new w _))
  have k0 := cell_of_heap (o := 0) HB2.out rfl; have k1 := cell_of_heap (o := 1) HB2.out rfl; have k2 := cell_of_heap (o := 2) HB2.out rfl; have k3 := cell_of_heap (o := 3) HB2.out rfl; have k4 := cell_of_heap (o := 4) HB2.out rfl; have k5 := cell_of_heap (o := 5) HB2.out rfl
  clear hF2
  go_wp2_with fail
  refine (HD.out w2 HF2.out).mono ?_
  rintro e w3 ⟨l, p, en, ra, rc, hto, rfl, hF3, hR3, -⟩
  have HTO := Lib.hid hto
  have HF3 : Hid (Fr [] w w3) := HF2.out.trans hF3
  have HB3 := Lib.hid (hF3.heap (by simp) HB2.out)
  have HR3 := Lib.hid hR3
  obtain ⟨n1, hn1⟩ : ∃ n, n = l.length := ⟨_, rfl⟩
  rw [← hn1]
  have HN1 := Lib.hid hn1
  clear hF3 hR3 hto hn1 k0 k1 k2 k3 k4 k5
  have k0 := cell_of_heap (o := 0) HB3.out rfl; have k1 := cell_of_heap (o := 1) HB3.out rfl; have k2 := cell_of_heap (o := 2) HB3.out rfl; have k3 := cell_of_heap (o := 3) HB3.out rfl; have k4 := cell_of_heap (o := 4) HB3.out rfl; have k5 := cell_of_heap (o := 5) HB3.out rfl
  go_upto_region 4 with (fail)
  obtain ⟨W4, hW4⟩ : ∃ W4, W4 = w3.alloc (.cells #[.int .i64 m.args, .int .i64 m.temps, .int .i64 m.stack, .int .i64 m.prim, .slice la ll lc, .slice ca n cc] 25) := ⟨_, rfl⟩
  rw [← hW4]
  have HF4 : Hid (Fr [] w3 W4) := Lib.hid (by rw [hW4]; exact (Fr.refl _ _).alloc _)
  have HM4 := Lib.hid (HF4.out.heap (by simp) HB3.out)
  have HK4 : Hid (W4.heap[w3.heap.size]? = some (.cells #[.int .i64 m.args, .int .i64 m.temps, .int .i64 m.stack, .int .i64 m.prim, .slice la ll lc, .slice ca n cc] 25 (0, 0))) := Lib.hid (by rw [hW4]; exact heap_new _ _)
  have HLT : Hid (w.heap.size < w3.heap.size) := Lib.hid (lt_of_heap HB3.out)
  clear hW4 k0 k1 k2 k3 k4 k5
  have k0 := cell_of_heap (o := 0) HM4.out rfl; have k1 := cell_of_heap (o := 1) HM4.out rfl; have k2 := cell_of_heap (o := 2) HM4.out rfl; have k3 := cell_of_heap (o := 3) HM4.out rfl; have k4 := cell_of_heap (o := 4) HM4.out rfl; have k5 := cell_of_heap (o := 5) HM4.out rfl
  have j0 := cell_of_heap (o := 0) HK4.out rfl; have j1 := cell_of_heap (o := 1) HK4.out rfl; have j2 := cell_of_heap (o := 2) HK4.out rfl; have j3 := cell_of_heap (o := 3) HK4.out rfl; have j4 := cell_of_heap (o := 4) HK4.out rfl; have j5 := cell_of_heap (o := 5) HK4.out rfl
  have z0 := frozen_of_heap (o := 0) HK4.out; have z1 := frozen_of_heap (o := 1) HK4.out; have z2 := frozen_of_heap (o := 2) HK4.out; have z3 := frozen_of_heap (o := 3) HK4.out; have z4 := frozen_of_heap (o := 4) HK4.out; have z5 := frozen_of_heap (o := 5) HK4.out
  go_upto_region 5 with (fail)
  obtain ⟨W5, hW5⟩ : ∃ W5, W5 = W4.setCell ⟨w3.heap.size, 2, none⟩ (.int .i64 S) := ⟨_, rfl⟩
  rw [← hW5]
  have hF5 : Fr [w3.heap.size] W4 W5 := by rw [hW5]; exact (Fr.refl _ _).setCell (fun _ => by simp) _
  have HF5 : Hid (Fr [] w W5) := Lib.hid (by rw [hW5]; exact (HF3.out.trans HF4.out).setCell (fun h => absurd h (by have := HLT.out; simp only; omega)) _)
  have HM5 := Lib.hid (hF5.heap (by have := HLT.out; simp; omega) HM4.out)
  have HK5 : Hid (W5.heap[w3.heap.size]? = some (.cells #[.int .i64 m.args, .int .i64 m.temps, .int .i64 S, .int .i64 m.prim, .slice la ll lc, .slice ca n cc] 25 (0, 0))) := Lib.hid (by rw [hW5]; exact heap_setCell_same HK4.out _)
  have HR5 : Hid (RowAt W5 ra (l.map (Value.int .i64))) := Lib.hid (by
    intro j u hj
    obtain ⟨g, o, e, hc⟩ := row_fr HR3.out HF4.out j u hj
    refine ⟨g, o, e, hF5.cell ?_ hc⟩
    simp only [List.mem_singleton]
    rintro rfl
    obtain ⟨g', o', e', hc'⟩ := HR3.out j u hj
    have := World.block_lt_of_cell? w3 _ hc'
    rw [e] at e'
    cases e'
    simp at this)
  clear hW5 hF5 k0 k1 k2 k3 k4 k5 j0 j1 j2 j3 j4 j5 z0 z1 z2 z3 z4 z5
  have k0 := cell_of_heap (o := 0) HM5.out rfl; have k1 := cell_of_heap (o := 1) HM5.out rfl; have k2 := cell_of_heap (o := 2) HM5.out rfl; have k3 := cell_of_heap (o := 3) HM5.out rfl; have k4 := cell_of_heap (o := 4) HM5.out rfl; have k5 := cell_of_heap (o := 5) HM5.out rfl
  have j0 := cell_of_heap (o := 0) HK5.out rfl; have j1 := cell_of_heap (o := 1) HK5.out rfl; have j2 := cell_of_heap (o := 2) HK5.out rfl; have j3 := cell_of_heap (o := 3) HK5.out rfl; have j4 := cell_of_heap (o := 4) HK5.out rfl; have j5 := cell_of_heap (o := 5) HK5.out rfl
  by_cases hS16 : S ≤ 16
  · have HS16 := Lib.hid hS16
    go_wp2_with fail
    refine (HD2.out W5 HF5.out).mono ?_
    rintro e w6 ⟨l', p', en', ra', rc', hto', rfl, hF6, hR6, -⟩
    have HF6 : Hid (Fr [] w w6) := HF5.out.trans hF6
    have HR6 := Lib.hid hR6
    have HL6 := Lib.hid (row_fr HR5.out hF6)
    have HM6 := Lib.hid (hF6.heap (by simp) HM5.out)
    by_cases hen : en = 0
    · subst hen
      obtain ⟨rfl, rfl, rfl, hl⟩ := HPU.out l p l' p' en' HTO.out HS16.out hto'
      subst hl
      rw [← HN1.out]
      have HLL := Lib.hid HTO.out.len
      clear hF6 hR6 hto' k0 k1 k2 k3 k4 k5 j0 j1 j2 j3 j4 j5
      have hsm : Calls Tryd.prog 10 #[.slice ra' n1 rc', .slice ra n1 rc] w6 (Still (.bool true) w6) := by
        have h := sameInts_at _ _ ra' ra rc' rc w6 HR6.out HL6.out (by have := HLL.out; omega) (by have := HLL.out; omega)
        rw [← HN1.out] at h
        simpa using h
      go_wp2_with fail
      refine hsm.mono ?_
      rintro e w7 ⟨rfl, hF7⟩
      have HF7 := Lib.hid (HF6.out.trans hF7)
      clear hF7
      go_wp2_with fail
      go_ret
      exact ⟨rfl, HF7.out⟩
    · have hpl := HTO.out.place
      have e1 : (en != 0) = true := by simp [hen]
      clear hF6 hR6 hto' k0 k1 k2 k3 k4 k5 j0 j1 j2 j3 j4 j5
      have k0 := cell_of_heap (o := 0) HM6.out rfl; have k1 := cell_of_heap (o := 1) HM6.out rfl; have k2 := cell_of_heap (o := 2) HM6.out rfl; have k3 := cell_of_heap (o := 3) HM6.out rfl; have k4 := cell_of_heap (o := 4) HM6.out rfl; have k5 := cell_of_heap (o := 5) HM6.out rfl
      rw [← HNN.out] at hpl
      go_wp2_with fail
      go_ret
      exact ⟨ret1 (vb (by simp)), HF6.out⟩
  · go_wp2_with fail
    go_ret
    exact ⟨rfl, HF5.out⟩
end Go.Proofs.YtdmbhkdncahbhaaDoor
