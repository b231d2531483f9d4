/- IrCopies: the walk. (written by gencopies.py) -/
import Derived.Test.YtcdpgchkdjjfgaaIrKp
import Derived.Test.YtcdpgchkdjjfgaaIrSameU
import Derived.Test.YtcdpgchkdjjfgaaIrAwake
import Derived.Deep.RegionHeld3
namespace Go.Proofs.Ytcdpgchkdjjfgaa
open Go.RowKit

set_option maxRecDepth 100000 in
set_option maxHeartbeats 16000000 in
theorem irCopies_walk (u : Un) (w : World) (hA : UAt w u) (hB : UB u) (hN : u.enter.length ≤ 1954687338211 ∧ u.code.length ≤ 1954687338211) : Calls Try.prog 5 #[u.v] w (Still (.bool true) w) := by
  obtain ⟨u0, hu0⟩ : ∃ u0, u0 = u := ⟨_, rfl⟩
  have H1 : Hid (∀ W, Fr [] w W → Calls Try.prog 21 #[u.v] W (Still (.int .i64 (errU u0)) W)) := Lib.hid fun W hF => by rw [hu0]; exact ir_Check u W (hA.fr hF) hB
  have H2 : Hid (∀ W, Fr [] w W → Calls Try.prog 23 #[u.v] W (CopyTo u0 W)) := Lib.hid fun W hF => by rw [hu0]; exact ir_Copy u W (hA.fr hF) hB hN
  have H3 : Hid (∀ v W, SameU u0 v → Fr [] w W → UAt W v → Calls Try.prog 24 #[u.v, v.v] W (Still (.bool true) W)) := Lib.hid fun v W hs hF hv => by rw [hu0] at hs; exact same_yes u v W hs (hA.fr hF) hv hB
  have H4 : Hid (∀ lo v W, SameU u0 v → OwnU lo W v → Calls Try.prog 21 #[v.v] W (Still (.int .i64 (errU u0)) W)) := Lib.hid fun lo v W hs hO => by
    rw [← errU_same hs]
    rw [hu0] at hs
    exact ir_Check v W hO.at (UB_same hs hB hO)
  have HBU0 : Hid (UB u0) := Lib.hid (by rw [hu0]; exact hB)
  clear hu0 hA hB hN
  generalize errU u0 = er at *
  obtain ⟨um, ua, ut, ur, up, us, uea, uel, uec, uca, ucl, ucc, usa, usl, usc, uma, uml, umc, hu, hue⟩ : ∃ um ua ut ur up us uea uel uec uca ucl ucc usa usl usc uma uml umc, u.v = .agg #[.int .u64 um, .int .i64 ua, .int .i64 ut, .int .i64 ur, .int .i64 up, .int .i64 us, .slice uea uel uec, .slice uca ucl ucc, .slice usa usl usc, .slice uma uml umc] ∧ uea = u.ea ∧ uel = u.enter.length ∧ uca = u.ca ∧ ucl = u.code.length ∧ usa = u.sa ∧ usl = u.starts.length ∧ uma = u.ma ∧ uml = u.maps.length := ⟨_, _, _, _, _, _, _, _, _, _, _, _, _, _, _, _, _, _, rfl, rfl, rfl, rfl, rfl, rfl, rfl, rfl, rfl⟩
  rw [hu] at H1 H2 H3 ⊢
  clear hu hue
  go_enter Try.func5, Try.ntmps5
  go_wp2_with (first
    | (go_at_call 9; refine (awake11 _).mono ?_; rintro e w1 ⟨rfl, hF⟩; have HF1 : Hid (Fr [] w w1) := Lib.hid (((Fr.refl [] w).alloc _).trans hF); have HB1 := Lib.hid (hF.heap (by simp) (heap_new w _)); have b0 := cell_of_heap (o := 0) HB1.out rfl; have b1 := cell_of_heap (o := 1) HB1.out rfl; have b2 := cell_of_heap (o := 2) HB1.out rfl; have b3 := cell_of_heap (o := 3) HB1.out rfl; have b4 := cell_of_heap (o := 4) HB1.out rfl; have b5 := cell_of_heap (o := 5) HB1.out rfl; have b6 := cell_of_heap (o := 6) HB1.out rfl; have b7 := cell_of_heap (o := 7) HB1.out rfl; have b8 := cell_of_heap (o := 8) HB1.out rfl; have b9 := cell_of_heap (o := 9) HB1.out rfl; clear hF)
    | fail)
  clear b0 b1 b2 b3 b4 b5 b6 b7 b8 b9
  refine (H2.out _ HF1.out).mono ?_
  rintro e w2 ⟨v, rfl, hSU, hOU, -, hF⟩
  have HSU := Lib.hid hSU
  have HOU := Lib.hid hOU
  have HUBV := Lib.hid (UB_same hSU HBU0.out hOU)
  have HF2 : Hid (Fr [] w w2) := Lib.hid (HF1.out.trans hF)
  have HB2 := Lib.hid (hF.heap (by simp) HB1.out)
  have HL2 := Lib.hid hF.size
  have HBS : Hid (w.heap.size < w1.heap.size) := Lib.hid (lt_of_heap HB1.out)
  have HS3 : Hid (∀ W, Fr [] w2 W → Calls Try.prog 24 #[.agg #[.int .u64 um, .int .i64 ua, .int .i64 ut, .int .i64 ur, .int .i64 up, .int .i64 us, .slice uea uel uec, .slice uca ucl ucc, .slice usa usl usc, .slice uma uml umc], v.v] W (Still (.bool true) W)) := Lib.hid fun W hF => H3.out v W HSU.out (HF2.out.trans hF) (HOU.out.at.fr hF)
  have HC3 : Hid (∀ W, Fr [] w2 W → Calls Try.prog 21 #[v.v] W (Still (.int .i64 er) W)) := Lib.hid fun W hF => H4.out _ v W HSU.out (HOU.out.fr hF)
  obtain ⟨vm, va, vt, vr, vp, vs, vea, vel, vec, vca, vcl, vcc, vsa, vsl, vsc, vma, vml, vmc, hv, hve⟩ : ∃ vm va vt vr vp vs vea vel vec vca vcl vcc vsa vsl vsc vma vml vmc, v.v = .agg #[.int .u64 vm, .int .i64 va, .int .i64 vt, .int .i64 vr, .int .i64 vp, .int .i64 vs, .slice vea vel vec, .slice vca vcl vcc, .slice vsa vsl vsc, .slice vma vml vmc] ∧ vea = v.ea ∧ vel = v.enter.length ∧ vca = v.ca ∧ vcl = v.code.length ∧ vsa = v.sa ∧ vsl = v.starts.length ∧ vma = v.ma ∧ vml = v.maps.length := ⟨_, _, _, _, _, _, _, _, _, _, _, _, _, _, _, _, _, _, rfl, rfl, rfl, rfl, rfl, rfl, rfl, rfl, rfl⟩
  rw [hv] at HS3 HC3 ⊢
  have HVE := Lib.hid hve
  have hvn := HUBV.out.en
  have hvc := HUBV.out.cn
  have hvs := HUBV.out.sn
  have hvm := HUBV.out.mn
  rw [← hve.2.1] at hvn
  rw [← hve.2.2.2.1] at hvc
  rw [← hve.2.2.2.2.2.1] at hvs
  rw [← hve.2.2.2.2.2.2.2] at hvm
  clear hSU hOU hF hv hve HB1
  have HB3 := Lib.hid (((Fr.refl [] w2).alloc (.cells #[.int .u64 vm, .int .i64 va, .int .i64 vt, .int .i64 vr, .int .i64 vp, .int .i64 vs, .slice vea vel vec, .slice vca vcl vcc, .slice vsa vsl vsc, .slice vma vml vmc] 43)).heap (by simp) HB2.out)
  have HC3b := Lib.hid (heap_new w2 (.cells #[.int .u64 vm, .int .i64 va, .int .i64 vt, .int .i64 vr, .int .i64 vp, .int .i64 vs, .slice vea vel vec, .slice vca vcl vcc, .slice vsa vsl vsc, .slice vma vml vmc] 43))
  have HF23 : Hid (Fr [] w2 (w2.alloc (.cells #[.int .u64 vm, .int .i64 va, .int .i64 vt, .int .i64 vr, .int .i64 vp, .int .i64 vs, .slice vea vel vec, .slice vca vcl vcc, .slice vsa vsl vsc, .slice vma vml vmc] 43))) := Lib.hid ((Fr.refl [] w2).alloc _)
  have b0 := cell_of_heap (o := 0) HB3.out rfl; have b1 := cell_of_heap (o := 1) HB3.out rfl; have b2 := cell_of_heap (o := 2) HB3.out rfl; have b3 := cell_of_heap (o := 3) HB3.out rfl; have b4 := cell_of_heap (o := 4) HB3.out rfl; have b5 := cell_of_heap (o := 5) HB3.out rfl; have b6 := cell_of_heap (o := 6) HB3.out rfl; have b7 := cell_of_heap (o := 7) HB3.out rfl; have b8 := cell_of_heap (o := 8) HB3.out rfl; have b9 := cell_of_heap (o := 9) HB3.out rfl
  have c0 := cell_of_heap (o := 0) HC3b.out rfl; have c1 := cell_of_heap (o := 1) HC3b.out rfl; have c2 := cell_of_heap (o := 2) HC3b.out rfl; have c3 := cell_of_heap (o := 3) HC3b.out rfl; have c4 := cell_of_heap (o := 4) HC3b.out rfl; have c5 := cell_of_heap (o := 5) HC3b.out rfl; have c6 := cell_of_heap (o := 6) HC3b.out rfl; have c7 := cell_of_heap (o := 7) HC3b.out rfl; have c8 := cell_of_heap (o := 8) HC3b.out rfl; have c9 := cell_of_heap (o := 9) HC3b.out rfl
  go_wp2_with fail
  generalize w2.alloc (.cells #[.int .u64 vm, .int .i64 va, .int .i64 vt, .int .i64 vr, .int .i64 vp, .int .i64 vs, .slice vea vel vec, .slice vca vcl vcc, .slice vsa vsl vsc, .slice vma vml vmc] 43) = w3 at *
  go_region_held3 (fun w' => w'.cell? ⟨w.heap.size, 0, none⟩ = some (.int .u64 um) ∧ w'.cell? ⟨w.heap.size, 1, none⟩ = some (.int .i64 ua) ∧ w'.cell? ⟨w.heap.size, 2, none⟩ = some (.int .i64 ut) ∧ w'.cell? ⟨w.heap.size, 3, none⟩ = some (.int .i64 ur) ∧ w'.cell? ⟨w.heap.size, 4, none⟩ = some (.int .i64 up) ∧ w'.cell? ⟨w.heap.size, 5, none⟩ = some (.int .i64 us) ∧ w'.cell? ⟨w.heap.size, 6, none⟩ = some (.slice uea uel uec) ∧ w'.cell? ⟨w.heap.size, 7, none⟩ = some (.slice uca ucl ucc) ∧ w'.cell? ⟨w.heap.size, 8, none⟩ = some (.slice usa usl usc) ∧ w'.cell? ⟨w.heap.size, 9, none⟩ = some (.slice uma uml umc) ∧ w'.cell? ⟨w2.heap.size, 0, none⟩ = some (.int .u64 vm) ∧ w'.cell? ⟨w2.heap.size, 1, none⟩ = some (.int .i64 va) ∧ w'.cell? ⟨w2.heap.size, 2, none⟩ = some (.int .i64 vt) ∧ w'.cell? ⟨w2.heap.size, 3, none⟩ = some (.int .i64 vr) ∧ w'.cell? ⟨w2.heap.size, 4, none⟩ = some (.int .i64 vp) ∧ w'.cell? ⟨w2.heap.size, 5, none⟩ = some (.int .i64 vs) ∧ w'.cell? ⟨w2.heap.size, 6, none⟩ = some (.slice vea vel vec) ∧ w'.cell? ⟨w2.heap.size, 7, none⟩ = some (.slice vca vcl vcc) ∧ w'.cell? ⟨w2.heap.size, 8, none⟩ = some (.slice vsa vsl vsc) ∧ w'.cell? ⟨w2.heap.size, 9, none⟩ = some (.slice vma vml vmc))
    (first | exact ⟨HF6.out.cell (by simp) b0, HF6.out.cell (by simp) b1, HF6.out.cell (by simp) b2, HF6.out.cell (by simp) b3, HF6.out.cell (by simp) b4, HF6.out.cell (by simp) b5, HF6.out.cell (by simp) b6, HF6.out.cell (by simp) b7, HF6.out.cell (by simp) b8, HF6.out.cell (by simp) b9, HF6.out.cell (by simp) c0, HF6.out.cell (by simp) c1, HF6.out.cell (by simp) c2, HF6.out.cell (by simp) c3, HF6.out.cell (by simp) c4, HF6.out.cell (by simp) c5, HF6.out.cell (by simp) c6, HF6.out.cell (by simp) c7, HF6.out.cell (by simp) c8, HF6.out.cell (by simp) c9⟩ | exact ⟨HF5.out.cell (by simp) b0, HF5.out.cell (by simp) b1, HF5.out.cell (by simp) b2, HF5.out.cell (by simp) b3, HF5.out.cell (by simp) b4, HF5.out.cell (by simp) b5, HF5.out.cell (by simp) b6, HF5.out.cell (by simp) b7, HF5.out.cell (by simp) b8, HF5.out.cell (by simp) b9, HF5.out.cell (by simp) c0, HF5.out.cell (by simp) c1, HF5.out.cell (by simp) c2, HF5.out.cell (by simp) c3, HF5.out.cell (by simp) c4, HF5.out.cell (by simp) c5, HF5.out.cell (by simp) c6, HF5.out.cell (by simp) c7, HF5.out.cell (by simp) c8, HF5.out.cell (by simp) c9⟩ | exact ⟨HF4.out.cell (by simp) b0, HF4.out.cell (by simp) b1, HF4.out.cell (by simp) b2, HF4.out.cell (by simp) b3, HF4.out.cell (by simp) b4, HF4.out.cell (by simp) b5, HF4.out.cell (by simp) b6, HF4.out.cell (by simp) b7, HF4.out.cell (by simp) b8, HF4.out.cell (by simp) b9, HF4.out.cell (by simp) c0, HF4.out.cell (by simp) c1, HF4.out.cell (by simp) c2, HF4.out.cell (by simp) c3, HF4.out.cell (by simp) c4, HF4.out.cell (by simp) c5, HF4.out.cell (by simp) c6, HF4.out.cell (by simp) c7, HF4.out.cell (by simp) c8, HF4.out.cell (by simp) c9⟩ | go_keep)
    (first
      | (go_at_call 24; (with_reducible refine (HS3.out _ (HF23.out.drew)).mono ?_); rintro e w4 ⟨rfl, hF⟩; have HF4 : Hid (Fr [] w3 w4) := Lib.hid ((Fr.refl [] w3).drew.trans hF); clear hF)
      | (go_at_call 21; (with_reducible refine (H1.out _ ((HF2.out.trans HF23.out).trans HF4.out)).mono ?_); rintro e w5 ⟨rfl, hF⟩; have HF5 : Hid (Fr [] w3 w5) := Lib.hid (HF4.out.trans hF); clear hF)
      | (go_at_call 21; (with_reducible refine (HC3.out _ (HF23.out.trans HF5.out)).mono ?_); rintro e w6 ⟨rfl, hF⟩; have HF6 : Hid (Fr [] w3 w6) := Lib.hid (HF5.out.trans hF); clear hF))
  have HB6 := Lib.hid (HF6.out.heap (by simp) HB3.out)
  have HC6 := Lib.hid (HF6.out.heap (by simp) HC3b.out)
  clear b0 b1 b2 b3 b4 b5 b6 b7 b8 b9 c0 c1 c2 c3 c4 c5 c6 c7 c8 c9
  have b0 := cell_of_heap (o := 0) HB6.out rfl; have b1 := cell_of_heap (o := 1) HB6.out rfl; have b2 := cell_of_heap (o := 2) HB6.out rfl; have b3 := cell_of_heap (o := 3) HB6.out rfl; have b4 := cell_of_heap (o := 4) HB6.out rfl; have b5 := cell_of_heap (o := 5) HB6.out rfl; have b6 := cell_of_heap (o := 6) HB6.out rfl; have b7 := cell_of_heap (o := 7) HB6.out rfl; have b8 := cell_of_heap (o := 8) HB6.out rfl; have b9 := cell_of_heap (o := 9) HB6.out rfl
  have c0 := cell_of_heap (o := 0) HC6.out rfl; have c1 := cell_of_heap (o := 1) HC6.out rfl; have c2 := cell_of_heap (o := 2) HC6.out rfl; have c3 := cell_of_heap (o := 3) HC6.out rfl; have c4 := cell_of_heap (o := 4) HC6.out rfl; have c5 := cell_of_heap (o := 5) HC6.out rfl; have c6 := cell_of_heap (o := 6) HC6.out rfl; have c7 := cell_of_heap (o := 7) HC6.out rfl; have c8 := cell_of_heap (o := 8) HC6.out rfl; have c9 := cell_of_heap (o := 9) HC6.out rfl
  have hz6 := lt_of_heap HC6.out
  go_wp2_with (fail)
  clear b0 b1 b2 b3 b4 b5 b6 b7 b8 b9 c0 c1 c2 c3 c4 c5 c6 c7 c8 c9 hz6
  refine (H2.out _ ((HF2.out.trans HF23.out).trans HF6.out)).mono ?_
  rintro e w7 ⟨x, rfl, hSX, hOX, -, hF⟩
  have HSX := Lib.hid hSX
  have HL7 : Hid (w2.heap.size ≤ w6.heap.size) := Lib.hid (Nat.le_trans HF23.out.size HF6.out.size)
  obtain ⟨xm, xa, xt, xr, xp, xs, xea, xel, xec, xca, xcl, xcc, xsa, xsl, xsc, xma, xml, xmc, hx, hxe⟩ : ∃ xm xa xt xr xp xs xea xel xec xca xcl xcc xsa xsl xsc xma xml xmc, x.v = .agg #[.int .u64 xm, .int .i64 xa, .int .i64 xt, .int .i64 xr, .int .i64 xp, .int .i64 xs, .slice xea xel xec, .slice xca xcl xcc, .slice xsa xsl xsc, .slice xma xml xmc] ∧ xea = x.ea ∧ xel = x.enter.length ∧ xca = x.ca ∧ xcl = x.code.length ∧ xsa = x.sa ∧ xsl = x.starts.length ∧ xma = x.ma ∧ xml = x.maps.length := ⟨_, _, _, _, _, _, _, _, _, _, _, _, _, _, _, _, _, _, rfl, rfl, rfl, rfl, rfl, rfl, rfl, rfl, rfl⟩
  have HXV := Lib.hid hx
  rw [hx]
  have HOX8 : Hid (OwnU w6.heap.size (w7.alloc (.cells #[.int .u64 xm, .int .i64 xa, .int .i64 xt, .int .i64 xr, .int .i64 xp, .int .i64 xs, .slice xea xel xec, .slice xca xcl xcc, .slice xsa xsl xsc, .slice xma xml xmc] 43)) x) := Lib.hid (hOX.fr ((Fr.refl [] w7).alloc _))
  have HB8 := Lib.hid (((Fr.refl [] w7).alloc (.cells #[.int .u64 xm, .int .i64 xa, .int .i64 xt, .int .i64 xr, .int .i64 xp, .int .i64 xs, .slice xea xel xec, .slice xca xcl xcc, .slice xsa xsl xsc, .slice xma xml xmc] 43)).heap (by simp) (hF.heap (by simp) HB6.out))
  have HC8 := Lib.hid (((Fr.refl [] w7).alloc (.cells #[.int .u64 xm, .int .i64 xa, .int .i64 xt, .int .i64 xr, .int .i64 xp, .int .i64 xs, .slice xea xel xec, .slice xca xcl xcc, .slice xsa xsl xsc, .slice xma xml xmc] 43)).heap (by simp) (hF.heap (by simp) HC6.out))
  have HX8 := Lib.hid (heap_new w7 (.cells #[.int .u64 xm, .int .i64 xa, .int .i64 xt, .int .i64 xr, .int .i64 xp, .int .i64 xs, .slice xea xel xec, .slice xca xcl xcc, .slice xsa xsl xsc, .slice xma xml xmc] 43))
  have HX2 : Hid (w2.heap.size ≤ w7.heap.size) := Lib.hid (Nat.le_trans HL7.out hF.size)
  have HF28 : Hid (Fr [] w2 (w7.alloc (.cells #[.int .u64 xm, .int .i64 xa, .int .i64 xt, .int .i64 xr, .int .i64 xp, .int .i64 xs, .slice xea xel xec, .slice xca xcl xcc, .slice xsa xsl xsc, .slice xma xml xmc] 43))) := Lib.hid (((HF23.out.trans HF6.out).trans hF).alloc _)
  have HF08 : Hid (Fr [] w (w7.alloc (.cells #[.int .u64 xm, .int .i64 xa, .int .i64 xt, .int .i64 xr, .int .i64 xp, .int .i64 xs, .slice xea xel xec, .slice xca xcl xcc, .slice xsa xsl xsc, .slice xma xml xmc] 43))) := Lib.hid (HF2.out.trans HF28.out)
  clear hSX hOX hF hx hxe
  go_wp2_with fail
  generalize w7.alloc (.cells #[.int .u64 xm, .int .i64 xa, .int .i64 xt, .int .i64 xr, .int .i64 xp, .int .i64 xs, .slice xea xel xec, .slice xca xcl xcc, .slice xsa xsl xsc, .slice xma xml xmc] 43) = w8 at *
  clear HB2 HB3 HC3b HB6 HC6 H1 H2 HS3 HC3 HF4 HF5 HF6 HF23
  go_loopw [6] (fun i wr => ∃ k : Nat, k ≤ vcl ∧ i = .int .i64 k ∧ Hid (Kp w1.heap.size w2.heap.size w8 wr)) (fun i _ => vcl - (intOf i).toNat)
  case atStart => exact ⟨0, Nat.zero_le _, rfl, Kp.refl _ _ _⟩
  case round =>
    skip
    obtain ⟨k, hk, rfl, HK⟩ := hrel
    have HBV := Lib.hid (HK.out.heap (.inr (Nat.le_refl _)) HC8.out)
    have b0 := cell_of_heap (o := 0) HBV.out rfl; have b1 := cell_of_heap (o := 1) HBV.out rfl; have b2 := cell_of_heap (o := 2) HBV.out rfl; have b3 := cell_of_heap (o := 3) HBV.out rfl; have b4 := cell_of_heap (o := 4) HBV.out rfl; have b5 := cell_of_heap (o := 5) HBV.out rfl; have b6 := cell_of_heap (o := 6) HBV.out rfl; have b7 := cell_of_heap (o := 7) HBV.out rfl; have b8 := cell_of_heap (o := 8) HBV.out rfl; have b9 := cell_of_heap (o := 9) HBV.out rfl
    have hz := lt_of_heap HBV.out
    by_cases hlt : k < vcl
    · have hex : ∃ i, v.code[k]? = some i := ⟨_, List.getElem?_eq_getElem (by rw [← HVE.out.2.2.2.1]; exact hlt)⟩
      obtain ⟨i, hi⟩ := hex
      obtain ⟨g, hg, hS, c5⟩ := HK.out.ins HF28.out HOU.out.code hi
      obtain rfl : vca = some ⟨g, 0, none⟩ := HVE.out.2.2.1.trans hg
      have HSI : Hid (OwnS w1.heap.size w2 i.la i.l i.lc) := Lib.hid (HOU.out.code.2.2 i (List.mem_of_getElem? hi))
      have hil := (HUBV.out.code i (List.mem_of_getElem? hi)).n
      have HI := Lib.hid hi
      obtain ⟨op, nn, d, la, lw, lc, x9⟩ := i
      simp only at c5 HSI hil
      obtain ⟨lwn, hlw⟩ : ∃ z, z = lw.length := ⟨_, rfl⟩
      rw [← hlw] at c5 hil
      have HLW := Lib.hid hlw
      obtain ⟨ck, cx, c0⟩ := hS.cell
      have cz := hS.frozen
      have hgl := hS.lt
      have k0 : (0 : Int) ≤ (k : Int) := by omega
      have k1 : (k : Int) < (vcl : Int) := by omega
      have HKN := Lib.hid (HK.out.put hS .i64 (-1))
      clear hi hlw hg hS hlt HK HBV
      go_wp2_with fail
      generalize wr.setCell ⟨g, k * 7, none⟩ (.int .i64 (-1)) = wy at *
      clear b0 b1 b2 b3 b4 b5 b6 b7 b8 b9 c0 c5 cz hgl hz
      go_loopw [7] (fun i wr => ∃ j : Nat, j ≤ lwn ∧ i = .int .i64 j ∧ Hid (Kp w1.heap.size w2.heap.size w8 wr)) (fun i _ => lwn - (intOf i).toNat)
      case atStart => exact ⟨0, Nat.zero_le _, rfl, HKN⟩
      case round =>
        clear HKN
        obtain ⟨j, hj, rfl, HK⟩ := hrel
        have HBV := Lib.hid (HK.out.heap (.inr (Nat.le_refl _)) HC8.out)
        have b0 := cell_of_heap (o := 0) HBV.out rfl; have b1 := cell_of_heap (o := 1) HBV.out rfl; have b2 := cell_of_heap (o := 2) HBV.out rfl; have b3 := cell_of_heap (o := 3) HBV.out rfl; have b4 := cell_of_heap (o := 4) HBV.out rfl; have b5 := cell_of_heap (o := 5) HBV.out rfl; have b6 := cell_of_heap (o := 6) HBV.out rfl; have b7 := cell_of_heap (o := 7) HBV.out rfl; have b8 := cell_of_heap (o := 8) HBV.out rfl; have b9 := cell_of_heap (o := 9) HBV.out rfl
        have hz := lt_of_heap HBV.out
        obtain ⟨g', hg, hS, c5⟩ := HK.out.ins HF28.out HOU.out.code HI.out
        obtain rfl : g' = g := by
          have h9 := HVE.out.2.2.1.trans hg
          cases h9
          rfl
        have hgl := hS.lt
        simp only [← HLW.out] at c5
        clear hg hS
        by_cases hjl : j < lwn
        · obtain ⟨g2, hg2, hS2⟩ := HK.out.srcs HF28.out HSI.out (k := j) (by rw [← HLW.out]; exact hjl)
          subst hg2
          obtain ⟨ck2, cx2, d0⟩ := hS2.cell
          have dz := hS2.frozen
          have hdl := hS2.lt
          have j0 : (0 : Int) ≤ (j : Int) := by omega
          have j1 : (j : Int) < (lwn : Int) := by omega
          have HKN := Lib.hid (HK.out.put hS2 .i64 (-7))
          clear hS2 HBV
          go_wp2_with fail
          go_roundw
          case rel => exact ⟨j + 1, by omega, by go_num, HKN⟩
          case measure => simp [intOf]; omega
        · have hkd : ¬ (j : Int) < (lwn : Int) := by omega
          clear hjl
          go_wp2_with fail
          go_roundw
          case rel => exact ⟨k + 1, by omega, by go_num, HK⟩
          case measure => simp [intOf]; omega
    · have hkd : ¬ (k : Int) < (vcl : Int) := by omega
      clear hlt
      go_wp2_with fail
      clear b0 b1 b2 b3 b4 b5 b6 b7 b8 b9 hz hkd HBV
      have HKO := HK
      clear HK
      go_loopw [8] (fun i wr => ∃ k : Nat, k ≤ vel ∧ i = .int .i64 k ∧ Hid (Kp w1.heap.size w2.heap.size w8 wr)) (fun i _ => vel - (intOf i).toNat)
      case atStart => exact ⟨0, Nat.zero_le _, rfl, HKO⟩
      case round =>
        clear HKO
        obtain ⟨k, hk, rfl, HK⟩ := hrel
        have HBV := Lib.hid (HK.out.heap (.inr (Nat.le_refl _)) HC8.out)
        have b0 := cell_of_heap (o := 0) HBV.out rfl; have b1 := cell_of_heap (o := 1) HBV.out rfl; have b2 := cell_of_heap (o := 2) HBV.out rfl; have b3 := cell_of_heap (o := 3) HBV.out rfl; have b4 := cell_of_heap (o := 4) HBV.out rfl; have b5 := cell_of_heap (o := 5) HBV.out rfl; have b6 := cell_of_heap (o := 6) HBV.out rfl; have b7 := cell_of_heap (o := 7) HBV.out rfl; have b8 := cell_of_heap (o := 8) HBV.out rfl; have b9 := cell_of_heap (o := 9) HBV.out rfl
        have hz := lt_of_heap HBV.out
        by_cases hlt : k < vel
        · have hex : ∃ i, v.enter[k]? = some i := ⟨_, List.getElem?_eq_getElem (by rw [← HVE.out.2.1]; exact hlt)⟩
          obtain ⟨i, hi⟩ := hex
          obtain ⟨g, hg, hS, c5⟩ := HK.out.ins HF28.out HOU.out.enter hi
          obtain rfl : vea = some ⟨g, 0, none⟩ := HVE.out.1.trans hg
          have HSI : Hid (OwnS w1.heap.size w2 i.la i.l i.lc) := Lib.hid (HOU.out.enter.2.2 i (List.mem_of_getElem? hi))
          have hil := (HUBV.out.enter i (List.mem_of_getElem? hi)).n
          have HI := Lib.hid hi
          obtain ⟨op, nn, d, la, lw, lc, x9⟩ := i
          simp only at c5 HSI hil
          obtain ⟨lwn, hlw⟩ : ∃ z, z = lw.length := ⟨_, rfl⟩
          rw [← hlw] at c5 hil
          have HLW := Lib.hid hlw
          obtain ⟨ck, cx, c0⟩ := hS.cell
          have cz := hS.frozen
          have hgl := hS.lt
          have k0 : (0 : Int) ≤ (k : Int) := by omega
          have k1 : (k : Int) < (vel : Int) := by omega
          have HKN := Lib.hid (HK.out.put hS .i64 (-1))
          clear hi hlw hg hS hlt HK HBV
          go_wp2_with fail
          generalize wr.setCell ⟨g, k * 7, none⟩ (.int .i64 (-1)) = wy at *
          clear b0 b1 b2 b3 b4 b5 b6 b7 b8 b9 c0 c5 cz hgl hz
          go_loopw [9] (fun i wr => ∃ j : Nat, j ≤ lwn ∧ i = .int .i64 j ∧ Hid (Kp w1.heap.size w2.heap.size w8 wr)) (fun i _ => lwn - (intOf i).toNat)
          case atStart => exact ⟨0, Nat.zero_le _, rfl, HKN⟩
          case round =>
            clear HKN
            obtain ⟨j, hj, rfl, HK⟩ := hrel
            have HBV := Lib.hid (HK.out.heap (.inr (Nat.le_refl _)) HC8.out)
            have b0 := cell_of_heap (o := 0) HBV.out rfl; have b1 := cell_of_heap (o := 1) HBV.out rfl; have b2 := cell_of_heap (o := 2) HBV.out rfl; have b3 := cell_of_heap (o := 3) HBV.out rfl; have b4 := cell_of_heap (o := 4) HBV.out rfl; have b5 := cell_of_heap (o := 5) HBV.out rfl; have b6 := cell_of_heap (o := 6) HBV.out rfl; have b7 := cell_of_heap (o := 7) HBV.out rfl; have b8 := cell_of_heap (o := 8) HBV.out rfl; have b9 := cell_of_heap (o := 9) HBV.out rfl
            have hz := lt_of_heap HBV.out
            obtain ⟨g', hg, hS, c5⟩ := HK.out.ins HF28.out HOU.out.enter HI.out
            obtain rfl : g' = g := by
              have h9 := HVE.out.1.trans hg
              cases h9
              rfl
            have hgl := hS.lt
            simp only [← HLW.out] at c5
            clear hg hS
            by_cases hjl : j < lwn
            · obtain ⟨g2, hg2, hS2⟩ := HK.out.srcs HF28.out HSI.out (k := j) (by rw [← HLW.out]; exact hjl)
              subst hg2
              obtain ⟨ck2, cx2, d0⟩ := hS2.cell
              have dz := hS2.frozen
              have hdl := hS2.lt
              have j0 : (0 : Int) ≤ (j : Int) := by omega
              have j1 : (j : Int) < (lwn : Int) := by omega
              have HKN := Lib.hid (HK.out.put hS2 .i64 (-7))
              clear hS2 HBV
              go_wp2_with fail
              go_roundw
              case rel => exact ⟨j + 1, by omega, by go_num, HKN⟩
              case measure => simp [intOf]; omega
            · have hkd : ¬ (j : Int) < (lwn : Int) := by omega
              clear hjl
              go_wp2_with fail
              go_roundw
              case rel => exact ⟨k + 1, by omega, by go_num, HK⟩
              case measure => simp [intOf]; omega
        · have hkd : ¬ (k : Int) < (vel : Int) := by omega
          clear hlt
          go_wp2_with fail
          clear b0 b1 b2 b3 b4 b5 b6 b7 b8 b9 hz hkd HBV
          have HKO := HK
          clear HK
          go_loopw [10] (fun i wr => ∃ k : Nat, k ≤ vml ∧ i = .int .i64 k ∧ Hid (Kp w1.heap.size w2.heap.size w8 wr)) (fun i _ => vml - (intOf i).toNat)
          case atStart => exact ⟨0, Nat.zero_le _, rfl, HKO⟩
          case round =>
            clear HKO
            obtain ⟨k, hk, rfl, HK⟩ := hrel
            have HBV := Lib.hid (HK.out.heap (.inr (Nat.le_refl _)) HC8.out)
            have b0 := cell_of_heap (o := 0) HBV.out rfl; have b1 := cell_of_heap (o := 1) HBV.out rfl; have b2 := cell_of_heap (o := 2) HBV.out rfl; have b3 := cell_of_heap (o := 3) HBV.out rfl; have b4 := cell_of_heap (o := 4) HBV.out rfl; have b5 := cell_of_heap (o := 5) HBV.out rfl; have b6 := cell_of_heap (o := 6) HBV.out rfl; have b7 := cell_of_heap (o := 7) HBV.out rfl; have b8 := cell_of_heap (o := 8) HBV.out rfl; have b9 := cell_of_heap (o := 9) HBV.out rfl
            have hz := lt_of_heap HBV.out
            by_cases hlt : k < vml
            · have hex : ∃ i, v.maps[k]? = some i := ⟨_, List.getElem?_eq_getElem (by rw [← HVE.out.2.2.2.2.2.2.2]; exact hlt)⟩
              obtain ⟨m, hm⟩ := hex
              have HSI : Hid (OwnS w1.heap.size w2 m.a m.l m.c) := Lib.hid (HOU.out.maps.2.2 m (List.mem_of_getElem? hm))
              have hil := (HUBV.out.maps m (List.mem_of_getElem? hm)).1
              have HI := Lib.hid hm
              obtain ⟨la, lw, lc⟩ := m
              simp only at HSI hil
              obtain ⟨lwn, hlw⟩ : ∃ z, z = lw.length := ⟨_, rfl⟩
              rw [← hlw] at hil
              have HLW := Lib.hid hlw
              have k0 : (0 : Int) ≤ (k : Int) := by omega
              have k1 : (k : Int) < (vml : Int) := by omega
              clear hm hlw hlt HBV
              go_wp2_with fail
              clear b0 b1 b2 b3 b4 b5 b6 b7 b8 b9 hz
              have HKP := HK
              clear HK
              go_loopw [11] (fun i wr => ∃ j : Nat, j ≤ lwn ∧ i = .int .i64 j ∧ Hid (Kp w1.heap.size w2.heap.size w8 wr)) (fun i _ => lwn - (intOf i).toNat)
              case atStart => exact ⟨0, Nat.zero_le _, rfl, HKP⟩
              case round =>
                clear HKP
                obtain ⟨j, hj, rfl, HK⟩ := hrel
                have HBV := Lib.hid (HK.out.heap (.inr (Nat.le_refl _)) HC8.out)
                have b0 := cell_of_heap (o := 0) HBV.out rfl; have b1 := cell_of_heap (o := 1) HBV.out rfl; have b2 := cell_of_heap (o := 2) HBV.out rfl; have b3 := cell_of_heap (o := 3) HBV.out rfl; have b4 := cell_of_heap (o := 4) HBV.out rfl; have b5 := cell_of_heap (o := 5) HBV.out rfl; have b6 := cell_of_heap (o := 6) HBV.out rfl; have b7 := cell_of_heap (o := 7) HBV.out rfl; have b8 := cell_of_heap (o := 8) HBV.out rfl; have b9 := cell_of_heap (o := 9) HBV.out rfl
                have hz := lt_of_heap HBV.out
                obtain ⟨g, hg, hgl, c5⟩ := HK.out.maps HF28.out HOU.out.maps HI.out
                obtain rfl : vma = some ⟨g, 0, none⟩ := HVE.out.2.2.2.2.2.2.1.trans hg
                simp only [← HLW.out] at c5
                clear hg
                by_cases hjl : j < lwn
                · obtain ⟨g2, hg2, hS2⟩ := HK.out.srcs HF28.out HSI.out (k := j) (by rw [← HLW.out]; exact hjl)
                  subst hg2
                  obtain ⟨ck2, cx2, d0⟩ := hS2.cell
                  have dz := hS2.frozen
                  have hdl := hS2.lt
                  have j0 : (0 : Int) ≤ (j : Int) := by omega
                  have j1 : (j : Int) < (lwn : Int) := by omega
                  have HKN := Lib.hid (HK.out.put hS2 .i64 (-7))
                  clear hS2 HBV
                  go_wp2_with fail
                  go_roundw
                  case rel => exact ⟨j + 1, by omega, by go_num, HKN⟩
                  case measure => simp [intOf]; omega
                · have hkd : ¬ (j : Int) < (lwn : Int) := by omega
                  clear hjl
                  go_wp2_with fail
                  go_roundw
                  case rel => exact ⟨k + 1, by omega, by go_num, HK⟩
                  case measure => simp [intOf]; omega
            · have hkd : ¬ (k : Int) < (vml : Int) := by omega
              clear hlt
              go_wp2_with fail
              clear b0 b1 b2 b3 b4 b5 b6 b7 b8 b9 hz hkd HBV
              have HKO := HK
              clear HK
              go_loopw [12] (fun i wr => ∃ k : Nat, k ≤ vsl ∧ i = .int .i64 k ∧ Hid (Kp w1.heap.size w2.heap.size w8 wr)) (fun i _ => vsl - (intOf i).toNat)
              case atStart => exact ⟨0, Nat.zero_le _, rfl, HKO⟩
              case round =>
                clear HKO
                obtain ⟨k, hk, rfl, HK⟩ := hrel
                have HBV := Lib.hid (HK.out.heap (.inr (Nat.le_refl _)) HC8.out)
                have b0 := cell_of_heap (o := 0) HBV.out rfl; have b1 := cell_of_heap (o := 1) HBV.out rfl; have b2 := cell_of_heap (o := 2) HBV.out rfl; have b3 := cell_of_heap (o := 3) HBV.out rfl; have b4 := cell_of_heap (o := 4) HBV.out rfl; have b5 := cell_of_heap (o := 5) HBV.out rfl; have b6 := cell_of_heap (o := 6) HBV.out rfl; have b7 := cell_of_heap (o := 7) HBV.out rfl; have b8 := cell_of_heap (o := 8) HBV.out rfl; have b9 := cell_of_heap (o := 9) HBV.out rfl
                have hz := lt_of_heap HBV.out
                by_cases hlt : k < vsl
                · obtain ⟨g, hg, hS⟩ := HK.out.nums HF28.out HOU.out.starts (k := k) (by rw [← HVE.out.2.2.2.2.2.1]; exact hlt)
                  obtain rfl : vsa = some ⟨g, 0, none⟩ := HVE.out.2.2.2.2.1.trans hg
                  obtain ⟨ck2, cx2, d0⟩ := hS.cell
                  have dz := hS.frozen
                  have hdl := hS.lt
                  have k0 : (0 : Int) ≤ (k : Int) := by omega
                  have k1 : (k : Int) < (vsl : Int) := by omega
                  have HKN := Lib.hid (HK.out.put hS .i64 (-7))
                  clear hS hg hlt HBV HK
                  go_wp2_with fail
                  go_roundw
                  case rel => exact ⟨k + 1, by omega, by go_num, HKN⟩
                  case measure => simp [intOf]; omega
                · have hkd : ¬ (k : Int) < (vsl : Int) := by omega
                  clear hlt hz
                  have HFW : Hid (Fr [] w wr) := Lib.hid (HF08.out.trans' HK.out.fr (fun _ _ h => h) (fun j hj h => absurd h (by
                    rw [List.mem_range'_1]
                    have h1 := HF1.out.size
                    omega)))
                  have HB := Lib.hid (HK.out.heap (.inl (by have h1 := HF1.out.size; have h2 := HBS.out; omega)) HB8.out)
                  have HX := Lib.hid (HK.out.heap (.inr HX2.out) HX8.out)
                  have hS9 := H3.out x wr HSX.out HFW.out (HK.out.ownU HL7.out HOX8.out).at
                  rw [HXV.out] at hS9
                  have HS9 := Lib.hid hS9
                  clear hS9
                  have p0 := cell_of_heap (o := 0) HB.out rfl; have p1 := cell_of_heap (o := 1) HB.out rfl; have p2 := cell_of_heap (o := 2) HB.out rfl; have p3 := cell_of_heap (o := 3) HB.out rfl; have p4 := cell_of_heap (o := 4) HB.out rfl; have p5 := cell_of_heap (o := 5) HB.out rfl; have p6 := cell_of_heap (o := 6) HB.out rfl; have p7 := cell_of_heap (o := 7) HB.out rfl; have p8 := cell_of_heap (o := 8) HB.out rfl; have p9 := cell_of_heap (o := 9) HB.out rfl
                  have q0 := cell_of_heap (o := 0) HX.out rfl; have q1 := cell_of_heap (o := 1) HX.out rfl; have q2 := cell_of_heap (o := 2) HX.out rfl; have q3 := cell_of_heap (o := 3) HX.out rfl; have q4 := cell_of_heap (o := 4) HX.out rfl; have q5 := cell_of_heap (o := 5) HX.out rfl; have q6 := cell_of_heap (o := 6) HX.out rfl; have q7 := cell_of_heap (o := 7) HX.out rfl; have q8 := cell_of_heap (o := 8) HX.out rfl; have q9 := cell_of_heap (o := 9) HX.out rfl
                  have hz := lt_of_heap HX.out
                  go_wp2_with ((go_at_call 24; (with_reducible refine (HS9.out).mono ?_); rintro e w9 ⟨rfl, hF⟩; have HF9 := Lib.hid (HFW.out.trans hF); clear hF))
                  go_ret
                  exact ⟨rfl, HF9.out⟩
end Go.Proofs.Ytcdpgchkdjjfgaa
