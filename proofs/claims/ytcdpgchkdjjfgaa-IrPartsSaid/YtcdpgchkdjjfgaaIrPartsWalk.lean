/- IrParts: the walk. (written by genparts.py) -/
import Derived.Test.YtcdpgchkdjjfgaaIrAwake
import Derived.Test.YtcdpgchkdjjfgaaIrReads
import Derived.Test.YtcdpgchkdjjfgaaIrSame
import Derived.Deep.RegionHeld3
namespace Go.Proofs.Ytcdpgchkdjjfgaa
open Go.RowKit

theorem two1 (w : World) (o1 o2 : Obj) : ((w.alloc o1).alloc o2).heap[w.heap.size]? = some o1 := hp1 w o1 o2
theorem two2 (w : World) (o1 o2 : Obj) : ((w.alloc o1).alloc o2).heap[w.heap.size + 1]? = some o2 := hp2 w o1 o2
set_option maxRecDepth 100000 in
set_option maxHeartbeats 8000000 in
theorem irParts_walk (i : Ii) (s : Sr) (w : World) (hI : IB i) (h : SrcsAt w i.la i.l) : Calls Try.prog 3 #[i.v, s.v] w (Still (.bool true) w) := by
  have ht1 := fun W => ir_Takes i.op W
  have ht2 := fun W => r11_Takes i.op W
  have hw1 := fun W => ir_Writes i W
  have hw2 := fun W => r11_Writes i W
  have hl1 := fun W => ir_Leaves i.op W
  have hl2 := fun W => r11_Leaves i.op W
  have hp1 := fun W => ir_Place s W
  have hp2 := fun W => r11_Place s W
  have hr1 : Hid (∀ W, Fr [] w W → Calls Try.prog 19 #[i.v] W (ReadsTo (i.l.filter plc) W)) := Lib.hid fun W hF => ir_Reads i W hI (h.fr hF)
  have hr2 : Hid (∀ W, Fr [] w W → Calls Try.prog 20 #[i.v] W (ReadsTo (i.l.filter plc) W)) := Lib.hid fun W hF => r11_Reads i W hI (h.fr hF)
  have hss : Hid (∀ (W : World) (a b : Option Addr) (ac bc : Nat), SrcsAt W a (i.l.filter plc) → SrcsAt W b (i.l.filter plc) → Calls Try.prog 18 #[.slice a (i.l.filter plc).length ac, .slice b (i.l.filter plc).length bc] W (Still (.bool true) W)) := Lib.hid fun W a b ac bc ha hb => by
    have := sameSrcs (i.l.filter plc) (i.l.filter plc) (ac := ac) (bc := bc) ha hb (Nat.le_trans (List.length_filter_le _ _) hI.n)
    rwa [decide_eq_true rfl] at this
  generalize i.l.filter plc = fl at *
  generalize lvs i.op = lv at *
  generalize lst i.op = lo at *
  generalize mst i.op = hi at *
  generalize hps : plc s = ps at *
  clear hps
  generalize wrS i = wr at *
  obtain ⟨op, n, ⟨dk, dn, dw⟩, la, l, lc, x⟩ := i
  obtain ⟨sk, sn, sw⟩ := s
  obtain ⟨rk, rn, rw⟩ := wr
  unfold Ii.v Sr.v at *
  simp only at ht1 ht2 hw1 hw2 hl1 hl2 hp1 hp2 hr1 hr2 ⊢
  generalize l.length = ll at *
  obtain ⟨fn, hfn⟩ : ∃ z, z = fl.length := ⟨_, rfl⟩
  rw [← hfn] at hss
  have HFN := Lib.hid hfn
  clear hI h hfn
  go_enter Try.func3, Try.ntmps3
  go_wp2_with (first
    | (go_at_call 9; refine (awake11 _).mono ?_; rintro e w1 ⟨rfl, hF⟩; have HF1 : Hid (Fr [] w w1) := Lib.hid ((((Fr.refl [] w).alloc _).alloc _).trans hF); have HB1 := Lib.hid (hF.heap (by simp) (two1 _ _ _)); have HC1 := Lib.hid (hF.heap (by simp) (two2 _ _ _)); have a0 := cell_of_heap (o := 0) HB1.out rfl; have a1 := cell_of_heap (o := 1) HB1.out rfl; have a2 := cell_of_heap (o := 2) HB1.out rfl; have a3 := cell_of_heap (o := 3) HB1.out rfl; have a4 := cell_of_heap (o := 4) HB1.out rfl; have a5 := cell_of_heap (o := 5) HB1.out rfl; have a6 := cell_of_heap (o := 6) HB1.out rfl; have hz1 := lt_of_heap HC1.out; clear hF)
    | (go_at_call 10; refine (ht1 _).mono ?_; rintro e w2 ⟨rfl, hF⟩; have HF2 : Hid (Fr [] w1 w2) := Lib.hid hF; have HB2 := Lib.hid (HF2.out.heap (by simp) HB1.out); clear a0 a1 a2 a3 a4 a5 a6 hz1; have a0 := cell_of_heap (o := 0) HB2.out rfl; have a1 := cell_of_heap (o := 1) HB2.out rfl; have a2 := cell_of_heap (o := 2) HB2.out rfl; have a3 := cell_of_heap (o := 3) HB2.out rfl; have a4 := cell_of_heap (o := 4) HB2.out rfl; have a5 := cell_of_heap (o := 5) HB2.out rfl; have a6 := cell_of_heap (o := 6) HB2.out rfl; have hz2 := lt_of_heap HB2.out; clear hF)
    | (go_at_call 11; refine (ht2 _).mono ?_; rintro e w' ⟨rfl, rfl⟩)
    | (go_at_call 12; refine (hw1 _).mono ?_; rintro e w3 ⟨rfl, hF⟩; have HF3 : Hid (Fr [] w1 w3) := Lib.hid (HF2.out.trans hF); have HB3 := Lib.hid (HF3.out.heap (by simp) HB1.out); clear a0 a1 a2 a3 a4 a5 a6 hz2; have a0 := cell_of_heap (o := 0) HB3.out rfl; have a1 := cell_of_heap (o := 1) HB3.out rfl; have a2 := cell_of_heap (o := 2) HB3.out rfl; have a3 := cell_of_heap (o := 3) HB3.out rfl; have a4 := cell_of_heap (o := 4) HB3.out rfl; have a5 := cell_of_heap (o := 5) HB3.out rfl; have a6 := cell_of_heap (o := 6) HB3.out rfl; have hz3 := lt_of_heap HB3.out; clear hF)
    | (go_at_call 13; refine (hw2 _).mono ?_; rintro e w4 ⟨rfl, hF⟩; have HF4 : Hid (Fr [] w1 w4) := Lib.hid ((HF3.out.alloc _).trans hF); have HR4 := Lib.hid (hF.heap (by simp) (heap_new w3 _)); clear a0 a1 a2 a3 a4 a5 a6 hz3; clear hF))
  have HF5 : Hid (Fr [] w1 (w4.alloc (.cells #[.int .i64 rk, .int .i64 rn, .int .u64 rw] 25))) := Lib.hid (HF4.out.alloc _)
  have HQ5 := Lib.hid (heap_new w4 (.cells #[.int .i64 rk, .int .i64 rn, .int .u64 rw] 25))
  have HR5 := Lib.hid (((Fr.refl [] w4).alloc (.cells #[.int .i64 rk, .int .i64 rn, .int .u64 rw] 25)).heap (by simp) HR4.out)
  generalize w4.alloc (.cells #[.int .i64 rk, .int .i64 rn, .int .u64 rw] 25) = w5 at *
  have HB5 := Lib.hid (HF5.out.heap (by simp) HB1.out)
  have HC5 := Lib.hid (HF5.out.heap (by simp) HC1.out)
  have a0 := cell_of_heap (o := 0) HB5.out rfl; have a1 := cell_of_heap (o := 1) HB5.out rfl; have a2 := cell_of_heap (o := 2) HB5.out rfl; have a3 := cell_of_heap (o := 3) HB5.out rfl; have a4 := cell_of_heap (o := 4) HB5.out rfl; have a5 := cell_of_heap (o := 5) HB5.out rfl; have a6 := cell_of_heap (o := 6) HB5.out rfl
  have b0 := cell_of_heap (o := 0) HC5.out rfl; have b1 := cell_of_heap (o := 1) HC5.out rfl; have b2 := cell_of_heap (o := 2) HC5.out rfl
  have c0 := cell_of_heap (o := 0) HR5.out rfl; have c1 := cell_of_heap (o := 1) HR5.out rfl; have c2 := cell_of_heap (o := 2) HR5.out rfl
  have d0 := cell_of_heap (o := 0) HQ5.out rfl; have d1 := cell_of_heap (o := 1) HQ5.out rfl; have d2 := cell_of_heap (o := 2) HQ5.out rfl
  go_region_held3 (fun w' => w'.cell? ⟨w.heap.size, 0, none⟩ = some (.int .i64 op) ∧ w'.cell? ⟨w.heap.size, 1, none⟩ = some (.int .i64 n) ∧ w'.cell? ⟨w.heap.size, 2, none⟩ = some (.int .i64 dk) ∧ w'.cell? ⟨w.heap.size, 3, none⟩ = some (.int .i64 dn) ∧ w'.cell? ⟨w.heap.size, 4, none⟩ = some (.int .u64 dw) ∧ w'.cell? ⟨w.heap.size, 5, none⟩ = some (.slice la ll lc) ∧ w'.cell? ⟨w.heap.size, 6, none⟩ = some (.int .u64 x) ∧ w'.cell? ⟨w.heap.size + 1, 0, none⟩ = some (.int .i64 sk) ∧ w'.cell? ⟨w.heap.size + 1, 1, none⟩ = some (.int .i64 sn) ∧ w'.cell? ⟨w.heap.size + 1, 2, none⟩ = some (.int .u64 sw) ∧ w'.cell? ⟨w3.heap.size, 0, none⟩ = some (.int .i64 rk) ∧ w'.cell? ⟨w3.heap.size, 1, none⟩ = some (.int .i64 rn) ∧ w'.cell? ⟨w3.heap.size, 2, none⟩ = some (.int .u64 rw) ∧ w'.cell? ⟨w4.heap.size, 0, none⟩ = some (.int .i64 rk) ∧ w'.cell? ⟨w4.heap.size, 1, none⟩ = some (.int .i64 rn) ∧ w'.cell? ⟨w4.heap.size, 2, none⟩ = some (.int .u64 rw))
    (first | exact ⟨HF12.out.cell (by simp) a0, HF12.out.cell (by simp) a1, HF12.out.cell (by simp) a2, HF12.out.cell (by simp) a3, HF12.out.cell (by simp) a4, HF12.out.cell (by simp) a5, HF12.out.cell (by simp) a6, HF12.out.cell (by simp) b0, HF12.out.cell (by simp) b1, HF12.out.cell (by simp) b2, HF12.out.cell (by simp) c0, HF12.out.cell (by simp) c1, HF12.out.cell (by simp) c2, HF12.out.cell (by simp) d0, HF12.out.cell (by simp) d1, HF12.out.cell (by simp) d2⟩ | exact ⟨HF11.out.cell (by simp) a0, HF11.out.cell (by simp) a1, HF11.out.cell (by simp) a2, HF11.out.cell (by simp) a3, HF11.out.cell (by simp) a4, HF11.out.cell (by simp) a5, HF11.out.cell (by simp) a6, HF11.out.cell (by simp) b0, HF11.out.cell (by simp) b1, HF11.out.cell (by simp) b2, HF11.out.cell (by simp) c0, HF11.out.cell (by simp) c1, HF11.out.cell (by simp) c2, HF11.out.cell (by simp) d0, HF11.out.cell (by simp) d1, HF11.out.cell (by simp) d2⟩ | exact ⟨HF10.out.cell (by simp) a0, HF10.out.cell (by simp) a1, HF10.out.cell (by simp) a2, HF10.out.cell (by simp) a3, HF10.out.cell (by simp) a4, HF10.out.cell (by simp) a5, HF10.out.cell (by simp) a6, HF10.out.cell (by simp) b0, HF10.out.cell (by simp) b1, HF10.out.cell (by simp) b2, HF10.out.cell (by simp) c0, HF10.out.cell (by simp) c1, HF10.out.cell (by simp) c2, HF10.out.cell (by simp) d0, HF10.out.cell (by simp) d1, HF10.out.cell (by simp) d2⟩ | exact ⟨HF9.out.cell (by simp) a0, HF9.out.cell (by simp) a1, HF9.out.cell (by simp) a2, HF9.out.cell (by simp) a3, HF9.out.cell (by simp) a4, HF9.out.cell (by simp) a5, HF9.out.cell (by simp) a6, HF9.out.cell (by simp) b0, HF9.out.cell (by simp) b1, HF9.out.cell (by simp) b2, HF9.out.cell (by simp) c0, HF9.out.cell (by simp) c1, HF9.out.cell (by simp) c2, HF9.out.cell (by simp) d0, HF9.out.cell (by simp) d1, HF9.out.cell (by simp) d2⟩ | exact ⟨HF8.out.cell (by simp) a0, HF8.out.cell (by simp) a1, HF8.out.cell (by simp) a2, HF8.out.cell (by simp) a3, HF8.out.cell (by simp) a4, HF8.out.cell (by simp) a5, HF8.out.cell (by simp) a6, HF8.out.cell (by simp) b0, HF8.out.cell (by simp) b1, HF8.out.cell (by simp) b2, HF8.out.cell (by simp) c0, HF8.out.cell (by simp) c1, HF8.out.cell (by simp) c2, HF8.out.cell (by simp) d0, HF8.out.cell (by simp) d1, HF8.out.cell (by simp) d2⟩ | exact ⟨HF6.out.cell (by simp) a0, HF6.out.cell (by simp) a1, HF6.out.cell (by simp) a2, HF6.out.cell (by simp) a3, HF6.out.cell (by simp) a4, HF6.out.cell (by simp) a5, HF6.out.cell (by simp) a6, HF6.out.cell (by simp) b0, HF6.out.cell (by simp) b1, HF6.out.cell (by simp) b2, HF6.out.cell (by simp) c0, HF6.out.cell (by simp) c1, HF6.out.cell (by simp) c2, HF6.out.cell (by simp) d0, HF6.out.cell (by simp) d1, HF6.out.cell (by simp) d2⟩ | go_keep)
    (first
      | (go_at_call 14; refine (hl1 _).mono ?_; rintro e w6 ⟨rfl, hF⟩; have HF6 : Hid (Fr [] w5 w6) := Lib.hid ((Fr.refl [] w5).drew.trans hF); clear hF)
      | (go_at_call 15; refine (hl2 _).mono ?_; rintro e w' ⟨rfl, rfl⟩)
      | (go_at_call 16; refine (hp1 _).mono ?_; rintro e w8 ⟨rfl, hF⟩; have HF8 : Hid (Fr [] w5 w8) := Lib.hid (HF6.out.trans hF); clear hF)
      | (go_at_call 17; refine (hp2 _).mono ?_; rintro e w9 ⟨rfl, hF⟩; have HF9 : Hid (Fr [] w5 w9) := Lib.hid (HF8.out.trans hF); clear hF)
      | (go_at_call 19; refine (hr1.out _ ((HF1.out.trans HF5.out).trans HF9.out)).mono ?_; rintro e w10 ⟨v, rfl, hG⟩; obtain ⟨aa, ac, rfl⟩ := irow_shape hG.row; have HF10 : Hid (Fr [] w5 w10) := Lib.hid (HF9.out.trans hG.fr); have HS10 := Lib.hid (srcs_of_row hG.row); clear hG)
      | (go_at_call 20; refine (hr2.out _ ((HF1.out.trans HF5.out).trans HF10.out)).mono ?_; rintro e w11 ⟨v, rfl, hG⟩; obtain ⟨ba, bc, rfl⟩ := irow_shape hG.row; have HF11 : Hid (Fr [] w5 w11) := Lib.hid (HF10.out.trans hG.fr); have HT11 := Lib.hid (srcs_of_row hG.row); have HS11 := Lib.hid (HS10.out.fr hG.fr); clear hG)
      | (go_at_call 18; rw [← HFN.out]; refine (hss.out _ _ _ _ _ HS11.out HT11.out).mono ?_; rintro e w12 ⟨rfl, hF⟩; have HF12 : Hid (Fr [] w5 w12) := Lib.hid (HF11.out.trans hF); clear hF))
  go_wp2_with fail
  go_ret
  exact ⟨ret1 (vb (by simp)), (HF1.out.trans HF5.out).trans HF12.out⟩
end Go.Proofs.Ytcdpgchkdjjfgaa
