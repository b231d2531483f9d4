/- laid: methods in a heap, and in the document's, the blocks as literals of those ahead of them. -/
import Derived.Test.YtjghgambieflaaaGreatDoorMVerM
import Derived.Test.YtjghgambieflaaaGreatDoorMVerN
import Derived.Test.YtjghgambieflaaaGreatDoorMVerFieldsWalk
namespace Go.Proofs.YtjghgambieflaaaGreatDoor
open Go.RowKit

theorem LSt.laid {w W : World} {X : List (Nat × Obj)} {hb mb rb : Nat} {ws : List Int} {x : Int} (h : LSt w X hb mb rb ws W) (hx : WB x) : LaidPost w (.returned (.tuple #[.pointer (some ⟨hb, 0, none⟩), .pointer (some ⟨rb, 0, none⟩), .int .u64 x])) W := by
  obtain ⟨os, l, hI, ha, -, wv, sv, lv, -, hH, hR, hF, -⟩ := h
  exact ⟨hb, mb, rb, 0, os, l, wv, sv, lv, x, rfl, hF, hx, hI, ha, hH, hR⟩
theorem LaidPost.after {w W W' : World} {e : Ending} (h : LaidPost W e W') (hF : Fr [] w W) : LaidPost w e W' := by
  obtain ⟨hb, mb, rb, root, os, l, wv, sv, lv, x, rfl, hF', rest⟩ := h
  exact ⟨hb, mb, rb, root, os, l, wv, sv, lv, x, rfl, hF.trans hF', rest⟩
theorem LSt.still {w W W' : World} {X : List (Nat × Obj)} {hb mb rb : Nat} {ws : List Int} (h : LSt w X hb mb rb ws W) (hF : Fr [] W W') : LSt w X hb mb rb ws W' := by
  obtain ⟨os, l, hI, ha, hN, hT⟩ := h
  exact ⟨os, l, hI, ha, hN, hT.still hF⟩
theorem LSt.one {w W : World} {hb mb rb : Nat} {ws : List Int} (h : LSt w [] hb mb rb ws W) (o : Obj) : LSt w [(W.heap.size, o)] hb mb rb ws (W.alloc o) := by
  obtain ⟨os, l, hI, ha, hN, hT⟩ := h
  exact ⟨os, l, hI, ha, hN, hT.keep o⟩
set_option maxRecDepth 100000 in
set_option maxHeartbeats 3200000 in
theorem laid_at (m : Mth) (la : Option Addr) (lc : Nat) (ca : Option Addr) (cc : Nat) {w : World} (hM : MIn w m la lc ca) (ns : List Nst) (na : Option Addr) (nc : Nat) (hNR : RowAt w na (flatN ns)) (hNI : ∀ o ∈ ns, NIn w o) (_hNL : ns.length ≤ 1466015503658) (hg : VG6 w) (W : World) (hF1 : Fr [] w W) :
    Calls Tryz.prog 6 #[m.v la lc ca cc, .slice na ns.length nc] W (LaidPost W) := by
  have HNR := Lib.hid (row_fr hNR hF1)
  have HNI := Lib.hid (fun o (ho : o ∈ ns) W' (hF : Fr [] W W') => ((hNI o ho).m.at_.fr0 (hF1.trans hF)))
  have HNB := Lib.hid (fun o (ho : o ∈ ns) => And.intro (hNI o ho).m.wb (show o.m.code.length ≤ 17592186044416 from Nat.le_trans (hNI o ho).m.cl (by decide)))
  have HM := Lib.hid (fun W' (hF : Fr [] W W') => hM.at_.fr0 (hF1.trans hF))
  have HMB := Lib.hid (And.intro hM.wb (show m.code.length ≤ 17592186044416 from Nat.le_trans hM.cl (by decide)))
  have HG := Lib.hid (fun W' (hF : Fr [] W W') => hg.glob.fr (hF1.trans hF))
  have HE := Lib.hid (fun W' (hF : Fr [] W W') => hg.field.fr (hF1.trans hF))
  have HWR := Lib.hid (fun X hb mb rb ws W0 W' (hF : Fr [] W W0) (h : LSt W0 X hb mb rb ws W') => h.write (HG.out W0 hF) (HE.out W0 hF) m la ca lc cc HMB.out.1 (HM.out W' (hF.trans h.fr)))
  have HRW := Lib.hid (fun X hb mb rb ws x er W0 W' (hF : Fr [] W W0) (h : LMid W0 X hb mb rb ws m x er W') => h.write la ca lc cc HMB.out.1 HMB.out.2 (HM.out W' (hF.trans h.fr)))
  unfold Mth.v at HWR HRW ⊢
  obtain ⟨ll, hll⟩ : ∃ n, n = m.lits.length := ⟨_, rfl⟩
  obtain ⟨cl, hcl⟩ : ∃ n, n = m.code.length := ⟨_, rfl⟩
  obtain ⟨nl, hnl⟩ : ∃ n, n = ns.length := ⟨_, rfl⟩
  rw [← hll, ← hcl] at HWR HRW ⊢
  rw [← hnl] at _hNL ⊢
  have HNL := Lib.hid hnl
  clear hM hNR hNI hg hF1 hll hcl hnl HM HMB
  go_enter Tryz.func6, Tryz.ntmps6
  go_wp2_with fail
  obtain ⟨W0, hW0⟩ : ∃ W0, W0 = W.alloc (.cells #[.int .i64 m.args, .int .i64 m.temps, .int .i64 m.stack, .int .i64 m.prim, .slice la ll lc, .slice ca cl cc] 25) := ⟨_, rfl⟩
  rw [← hW0]
  have HF0 : Hid (Fr [] W W0) := Lib.hid (by rw [hW0]; exact (Fr.refl _ _).alloc _)
  have HB0 : Hid (W0.heap[W.heap.size]? = some (.cells #[.int .i64 m.args, .int .i64 m.temps, .int .i64 m.stack, .int .i64 m.prim, .slice la ll lc, .slice ca cl cc] 25 (0, 0))) := Lib.hid (by rw [hW0]; exact heap_new _ _)
  clear hW0
  refine (live_new 8192 W0 (by omega) (by omega)).mono ?_
  rintro e w1 ⟨hb, mb, rfl, hL⟩
  have HL := Lib.hid hL
  have hk1 := Lib.hid (hL.fr.heap (by simp) HB0.out)
  have k0 := cell_of_heap (o := 0) hk1.out rfl; have k1 := cell_of_heap (o := 1) hk1.out rfl; have k2 := cell_of_heap (o := 2) hk1.out rfl; have k3 := cell_of_heap (o := 3) hk1.out rfl; have k4 := cell_of_heap (o := 4) hk1.out rfl; have k5 := cell_of_heap (o := 5) hk1.out rfl
  clear hL hk1
  go_wp2_with fail
  refine (rnew 8192 w1 (by omega) (by omega)).mono ?_
  rintro e w2 ⟨rfl, hR, hF2⟩
  have HT2 : Hid (Two W0 [] hb mb w1.heap.size (absMem 8192 [] 0 0) ⟨8192, [], 0, 0⟩ w2) := two_new HL.out hF2 hR (fun k hk => by simp [rfoot, Value.ownBlock] at hk; omega)
  obtain ⟨rb, hrb⟩ : ∃ rb, rb = w1.heap.size := ⟨_, rfl⟩
  rw [← hrb] at HT2
  rw [← hrb]
  have HS2 : Hid (LSt W0 [] hb mb rb [] w2) := Lib.hid ⟨[], [], inv_fresh 8192 (by omega) (by omega), trivial, (fun _ h => by cases h), HT2.out⟩
  have hk2 := Lib.hid (HS2.out.fr.heap (by simp) HB0.out)
  clear hR hF2 hrb HL HT2 k0 k1 k2 k3 k4 k5
  have k0 := cell_of_heap (o := 0) hk2.out rfl; have k1 := cell_of_heap (o := 1) hk2.out rfl; have k2 := cell_of_heap (o := 2) hk2.out rfl; have k3 := cell_of_heap (o := 3) hk2.out rfl; have k4 := cell_of_heap (o := 4) hk2.out rfl; have k5 := cell_of_heap (o := 5) hk2.out rfl
  clear hk2
  go_wp2_with fail
  refine (HWR.out _ _ _ _ _ _ _ HF0.out HS2.out).mono ?_
  rintro e w3 ⟨x, er, rfl, hS3⟩
  have HS3 := Lib.hid hS3
  have hk3 := Lib.hid (hS3.fr.heap (by simp) HB0.out)
  clear hS3 k0 k1 k2 k3 k4 k5
  have k0 := cell_of_heap (o := 0) hk3.out rfl; have k1 := cell_of_heap (o := 1) hk3.out rfl; have k2 := cell_of_heap (o := 2) hk3.out rfl; have k3 := cell_of_heap (o := 3) hk3.out rfl; have k4 := cell_of_heap (o := 4) hk3.out rfl; have k5 := cell_of_heap (o := 5) hk3.out rfl
  clear hk3
  go_wp2_with fail
  refine (HRW.out _ _ _ _ _ _ _ _ _ HF0.out HS3.out).mono ?_
  rintro e w4 ⟨rfl, hx, hS4, hS4'⟩
  have HX := Lib.hid hx
  have HS4 := Lib.hid hS4
  have HS4' := Lib.hid hS4'
  have hk4 := Lib.hid (hS4.fr.heap (by simp) HB0.out)
  clear hS4 hS4' hx k0 k1 k2 k3 k4 k5
  have k0 := cell_of_heap (o := 0) hk4.out rfl; have k1 := cell_of_heap (o := 1) hk4.out rfl; have k2 := cell_of_heap (o := 2) hk4.out rfl; have k3 := cell_of_heap (o := 3) hk4.out rfl; have k4 := cell_of_heap (o := 4) hk4.out rfl; have k5 := cell_of_heap (o := 5) hk4.out rfl
  clear hk4
  by_cases her : er = 0
  rotate_left
  · have e1 : (er == 0) = false := by simp [her]
    have HPO := Lib.hid (fun W' (hF : Fr [] w4 W') => ((HS4.out.still hF).laid HX.out).after HF0.out)
    go_wp2_with fail
    go_loopw [14] (fun i wr => i = .int .i64 0 ∧ Hid (Fr [] w4 wr)) (fun _ _ => 0)
    case atStart => exact ⟨rfl, Lib.hid ((Fr.refl _ _).alloc _)⟩
    case round =>
      obtain ⟨rfl, hF⟩ := hrel
      by_cases hn0 : 0 < nl
      · go_wp2_with fail
        go_ret3
        exact HPO.out _ hF.out
      · go_wp2_with fail
        go_ret3
        exact HPO.out _ hF.out
  · subst her
    have HS5 : Hid (LSt W0 [] hb mb rb [x] w4) := Lib.hid (HS4'.out rfl)
    clear HS4 HS4'
    go_wp2_with fail
    go_loopw [13, 14] (fun v i wr => ∃ (k : Nat) (ws : List Int) (g cap : Nat) (cur : Array Value), k ≤ 12 ∧ 0 < ws.length ∧ ws.length ≤ k + 1 ∧ v = .slice (some ⟨g, 0, none⟩) ws.length cap ∧ i = .int .i64 k ∧ Hid (LSt W0 [(g, .cells cur 32 (0, 0))] hb mb rb ws wr) ∧ Hid (W0.heap.size ≤ g) ∧ Hid (LR cap cur ws)) (fun _ i _ => 12 - (intOf i).toNat)
    case atStart => exact ⟨0, [x], w4.heap.size, 1, #[.int .u64 x], by omega, by simp, by simp, rfl, rfl, Lib.hid (HS5.out.one _), Lib.hid HS5.out.fr.size, Lib.hid ⟨by simp, by unfold maxLen; omega, rfl, rfl⟩⟩
    case round =>
      obtain ⟨k, ws, g, cap, cur, hk, hw0, hw1, rfl, rfl, hS, hgn, hL⟩ := hrel
      by_cases hlt : k < nl
      rotate_left
      · have hPO := Lib.hid ((hS.out.laid HX.out).after HF0.out)
        go_wp2_with fail
        go_ret3
        exact hPO.out
      by_cases hlt2 : k < 12
      rotate_left
      · have hPO := Lib.hid ((hS.out.laid HX.out).after HF0.out)
        go_wp2_with fail
        go_ret3
        exact hPO.out
      obtain ⟨o, hko⟩ : ∃ o, ns[k]? = some o := ⟨_, List.getElem?_eq_getElem (by rw [← HNL.out]; exact hlt)⟩
      have hmem := List.mem_of_getElem? hko
      obtain ⟨ng, off, rfl, c0⟩ := HNR.out _ _ ((flatN_at hko (show 0 < 8 by omega)).trans rfl)
      obtain ⟨_, _, e1, c1⟩ := HNR.out _ _ ((flatN_at hko (show 1 < 8 by omega)).trans rfl)
      cases e1
      obtain ⟨_, _, e2, c2⟩ := HNR.out _ _ ((flatN_at hko (show 2 < 8 by omega)).trans rfl)
      cases e2
      obtain ⟨_, _, e3, c3⟩ := HNR.out _ _ ((flatN_at hko (show 3 < 8 by omega)).trans rfl)
      cases e3
      obtain ⟨_, _, e4, c4⟩ := HNR.out _ _ ((flatN_at hko (show 4 < 8 by omega)).trans rfl)
      cases e4
      obtain ⟨_, _, e5, c5⟩ := HNR.out _ _ ((flatN_at hko (show 5 < 8 by omega)).trans rfl)
      cases e5
      obtain ⟨_, _, e6, c6⟩ := HNR.out _ _ ((flatN_at hko (show 6 < 8 by omega)).trans rfl)
      cases e6
      obtain ⟨_, _, e7, c7⟩ := HNR.out _ _ ((flatN_at hko (show 7 < 8 by omega)).trans rfl)
      cases e7
      rw [← Nat.add_assoc] at c0 c1 c2 c3 c4 c5 c6 c7
      rw [Nat.add_zero] at c0
      have HWO := Lib.hid (fun X ws W' (h : LSt W0 X hb mb rb ws W') => h.write (HG.out W0 HF0.out) (HE.out W0 HF0.out) o.m o.la o.ca o.lc o.cc (HNB.out o hmem).1 (HNI.out o hmem W' (HF0.out.trans h.fr)))
      have HRO := Lib.hid (fun X ws x er W' (h : LMid W0 X hb mb rb ws o.m x er W') => h.write o.la o.ca o.lc o.cc (HNB.out o hmem).1 (HNB.out o hmem).2 (HNI.out o hmem W' (HF0.out.trans h.fr)))
      unfold Mth.v at HWO HRO
      obtain ⟨kl, hkl⟩ : ∃ n, n = o.m.lits.length := ⟨_, rfl⟩
      obtain ⟨kc, hkc⟩ : ∃ n, n = o.m.code.length := ⟨_, rfl⟩
      rw [← hkl, ← hkc] at HWO HRO
      rw [← hkl] at c4
      rw [← hkc] at c5
      obtain ⟨wl, hwl⟩ : ∃ n, n = ws.length := ⟨_, rfl⟩
      rw [← hwl] at hw0 hw1 ⊢
      have HWL := Lib.hid hwl
      have HCC := Lib.hid (And.intro c0 (And.intro c1 (And.intro c2 (And.intro c3 (And.intro c4 (And.intro c5 (And.intro c6 c7)))))))
      have hFr := HF0.out.trans hS.out.fr
      replace c0 := hFr.cell (by simp) c0
      replace c1 := hFr.cell (by simp) c1
      replace c2 := hFr.cell (by simp) c2
      replace c3 := hFr.cell (by simp) c3
      replace c4 := hFr.cell (by simp) c4
      replace c5 := hFr.cell (by simp) c5
      clear hFr c6 c7 hkl hkc hwl hmem hko
      have z0 : (0 : Int) ≤ (k : Int) := by omega
      have z1 : (k : Int) < (nl : Int) := by omega
      go_wp2_with fail
      refine (HWO.out _ _ _ hS.out).mono ?_
      rintro e w5 ⟨x', er', rfl, hS5⟩
      have HS5' := Lib.hid hS5
      have hFr := HF0.out.trans hS5.fr
      replace c0 := hFr.cell (by simp) HCC.out.1
      replace c1 := hFr.cell (by simp) HCC.out.2.1
      replace c2 := hFr.cell (by simp) HCC.out.2.2.1
      replace c3 := hFr.cell (by simp) HCC.out.2.2.2.1
      replace c4 := hFr.cell (by simp) HCC.out.2.2.2.2.1
      replace c5 := hFr.cell (by simp) HCC.out.2.2.2.2.2.1
      clear hFr hS5
      go_wp2_with fail
      refine (HRO.out _ _ _ _ _ HS5'.out).mono ?_
      rintro e w6 ⟨rfl, hx', hS6, hS6'⟩
      have HX' := Lib.hid hx'
      have HS6 := Lib.hid hS6
      have HS6' := Lib.hid hS6'
      have hFr := HF0.out.trans hS6.fr
      clear hx' hS6 hS6' c0 c1 c2 c3 c4 c5
      by_cases her2 : er' = 0
      rotate_left
      · have e1 : (er' != 0) = true := by simp [her2]
        clear hFr
        go_wp2_with fail
        go_roundw
        case rel => exact ⟨k + 1, ws, g, cap, cur, by omega, by rw [← HWL.out]; exact hw0, by rw [← HWL.out]; omega, by rw [← HWL.out], by go_num, HS6, hgn, hL⟩
        case measure => simp [intOf]; omega
      subst her2
      have HS7 : Hid (LSt W0 [(g, .cells cur 32 (0, 0))] hb mb rb (ws ++ [x']) w6) := Lib.hid (HS6'.out rfl)
      obtain ⟨p, hp, hpe⟩ := pick_at (xs := ws) (by rw [← HWL.out]; exact hw0) o.up
      obtain ⟨u, hu⟩ : ∃ u, ws[p]? = some u := ⟨_, List.getElem?_eq_getElem hp⟩
      have hum : u ∈ ws ++ [x'] := List.mem_append_left _ (List.mem_of_getElem? hu)
      have cu : w6.cell? ⟨g, p, none⟩ = some (.int .u64 u) := cell_of_heap (HS6.out.kept (List.mem_singleton.2 rfl)) (hL.out.cell hu)
      rw [← HWL.out] at hp hpe
      obtain ⟨h0, h1⟩ := and_mask o.i 31 (by omega)
      obtain ⟨q, hq⟩ : ∃ q, q = bits .and .i64 o.i 31 := ⟨_, rfl⟩
      have hq' : bits .and .i64 o.i 31 = q := hq.symm
      change 0 ≤ bits .and .i64 o.i 31 at h0
      change bits .and .i64 o.i 31 ≤ 31 at h1
      rw [hq'] at h0 h1
      obtain ⟨S, hSS⟩ : ∃ S, S = IntKind.i64.wrap (5 + q) := ⟨_, rfl⟩
      have hS' : IntKind.i64.wrap (5 + q) = S := hSS.symm
      have hSE : S = 5 + q := by rw [hSS, IntKind.wrap_i64]; omega
      have HST := Lib.hid (HS7.out.store (HG.out W0 HF0.out) hum (k := S) (v := x') (by omega) (by omega) HX'.out)
      have HST2 := Lib.hid (fun W' (h : LMidS W0 [(g, .cells cur 32 (0, 0))] hb mb rb (ws ++ [x']) u S x' W') => h.store (by omega) (by omega) HX'.out)
      clear hq hSS hSE h0 h1 hu hum
      have p0 : (0 : Int) ≤ (p : Int) := by omega
      have p1 : (p : Int) < (wl : Int) := by omega
      have hwl0 : ((wl : Int) == 0) = false := by simp; omega
      replace c6 := hFr.cell (by simp) HCC.out.2.2.2.2.2.2.1
      replace c7 := hFr.cell (by simp) HCC.out.2.2.2.2.2.2.2
      clear hFr
      go_wp2_with fail
      refine HST.out.mono ?_
      rintro e w7 ⟨zz, rfl, hS8⟩
      have HS8 := Lib.hid hS8
      replace c7 := (HF0.out.trans hS8.fr).cell (by simp) HCC.out.2.2.2.2.2.2.2
      clear hS8 c6 cu
      go_wp2_with fail
      refine (HST2.out _ HS8.out).mono ?_
      rintro e w8 ⟨zz2, rfl, hS9⟩
      have HPU := Lib.hid (fun ty => hS9.push hgn.out hL.out x' ty (by rw [← HWL.out]; omega))
      clear hS9 c7
      go_wp2_with (at_builtin; go_loud (obtain ⟨g7, cap7, cur7, w9, hrun, hS10, hgn7, hL7⟩ := HPU.out 22; rw [← HWL.out] at hrun; refine Lib.wpList_append_run _ rfl (.tmp 104) (.tmp 106) 22 22 rfl _ _ rfl rfl _ _ hrun ?_; have HS10 := Lib.hid hS10; have HGN7 := Lib.hid hgn7; have HL7 := Lib.hid hL7; clear hS10 hgn7 hL7 hrun))
      go_roundw
      case rel => exact ⟨k + 1, ws ++ [x'], g7, cap7, cur7, by omega, by simp, by rw [List.length_append, List.length_singleton, ← HWL.out]; omega, by rw [List.length_append, List.length_singleton, ← HWL.out], by go_num, HS10, HGN7, HL7⟩
      case measure => simp [intOf]; omega
end Go.Proofs.YtjghgambieflaaaGreatDoor
