/- same: two graphs, gone through side by side. -/
import Derived.Test.YtninigdcpeijhaaGreatDoorMSim
namespace Go.Proofs.YtninigdcpeijhaaGreatDoor
open Go.RowKit

section
variable {W : World} {gb gm hb hm : Nat} {lim rg ng rh nh : Int} {og oh : List Ob} {gwv gsv hwv hsv : Value}
set_option maxRecDepth 100000 in
set_option maxHeartbeats 4000000 in
theorem same_at (gI : OInv lim og ng) (hI : OInv lim oh nh) (gH : HeapAt W gb gm (absMem lim og rg ng) gwv gsv) (hH : HeapAt W hb hm (absMem lim oh rh nh) hwv hsv) {f : Int → Int} {K : Int → Prop} (hS : Sim og oh f K) {tg toff tcap : Nat} (ps : List (Int × Int)) (hQ : Que W tg toff tcap ps) (hp : ∀ p ∈ ps, Fits f K p) (hl : ps.length ≤ 100) (hs5 : ∀ o ∈ og, o.2.2.length ≤ 512) :
    Calls Tryz.prog 32 #[.pointer (some ⟨gb, 0, none⟩), .pointer (some ⟨hb, 0, none⟩), .slice (some ⟨tg, toff, none⟩) ps.length tcap] W fun e W' => e = .returned (.bool true) ∧ Fr [tg] W W' := by
  have GI := Lib.hid gI
  have HI := Lib.hid hI
  have GH := Lib.hid gH
  have HH := Lib.hid hH
  have HS := Lib.hid hS
  have HQ := Lib.hid hQ
  have HP := Lib.hid hp
  have HS5 := Lib.hid hs5
  obtain ⟨i0, hi0, hz0, hz1, hz2⟩ := info_parts infoPair
  obtain ⟨tcur, htg, -⟩ := hQ.row
  have HGW : Hid (∀ W', Fr [tg] W W' → HeapAt W' gb gm (absMem lim og rg ng) gwv gsv) := Lib.hid fun W' hF => gH.fr hF (by simpa using tag_ne gH.heap htg (by decide)) (fun k hk hm => by rw [List.mem_singleton] at hm; rw [hm] at hk; exact tag_apart htg gH.mem (by decide) (by decide) (by decide) hk)
  have HHW : Hid (∀ W', Fr [tg] W W' → HeapAt W' hb hm (absMem lim oh rh nh) hwv hsv) := Lib.hid fun W' hF => hH.fr hF (by simpa using tag_ne hH.heap htg (by decide)) (fun k hk hm => by rw [List.mem_singleton] at hm; rw [hm] at hk; exact tag_apart htg hH.mem (by decide) (by decide) (by decide) hk)
  clear htg
  clear gI hI gH hH hS hQ hp hs5
  go_enter Tryz.func32, Tryz.ntmps32
  go_wp2
  go_loopg [2, 7] (og.length * 600 + ps.length) (fun k tv mv wr => ∃ (ps : List (Int × Int)) (ms : List (Int × Int)) (g off cap : Nat), tv = .slice (some ⟨g, off, none⟩) ps.length cap ∧ Hid (Que wr g off cap ps) ∧ Hid (g = tg ∨ W.heap.size ≤ g) ∧ Hid (Grows2 W tg ms mv wr) ∧ Hid (∀ p ∈ ps, Fits f K p) ∧ Hid (Met og f K ms) ∧ Hid (ps.length ≤ 100 + 600 * ms.length) ∧ Hid ((og.length - ms.length) * 600 + ps.length ≤ k) ∧ Hid (∀ q, mv.ownBlock = some q → q ≠ g))
  case atStart => exact ⟨ps, [], tg, toff, tcap, rfl, HQ, .inl rfl, ⟨World.ownsRow_nil _ _ _ _, Fr.refl _ _, fun _ h => by cases h⟩, HP, ⟨by simp, by simp⟩, Lib.hid (by simp; omega), Lib.hid (by simp), fun _ h => by cases h⟩
  case round =>
    obtain ⟨ps, ms, g, off, cap, rfl, hQ, hgw, hM, hP, hMt, hb, hk, hne⟩ := hrel
    obtain ⟨ma, mc, rfl⟩ := row_shape' hM.out.row
    cases ps with
    | nil =>
      go_wp2
      go_ret
      exact ⟨rfl, hM.out.fr⟩
    | cons p ps =>
      have hc0 := hQ.out.cells 0 _ (by rfl)
      have hc1 := hQ.out.cells 1 _ (by rfl)
      have hcl := hQ.out.len
      simp only [List.length_cons, Nat.add_zero] at hc0 hc1 hcl
      have hlb : ps.length ≤ 100000000 := by
        have h1 := hb.out
        have h2 := hMt.out.len HS.out
        have h3 := len_end og
        have h4 := GI.out.fit
        have h5 := GI.out.l2
        simp only [List.length_cons] at h1
        omega
      obtain ⟨L, hL⟩ : ∃ L, L = ps.length := ⟨_, rfl⟩
      rw [← hL] at hcl hlb
      simp only [List.length_cons]
      rw [← hL]
      have HL := Lib.hid hL
      clear hL
      --BEGIN REST
      obtain ⟨off2, cap2, hQ2, hsl⟩ := que_pop hQ.out
      rw [← HL.out] at hsl
      have HQT : Hid (Que wr g off2 cap2 ps) := Lib.hid hQ2
      have HX : Hid (Fr [] wr (wr.alloc (.cells #[.int .u64 p.1, .int .u64 p.2] 59))) := (Fr.refl _ _).alloc _
      have hfit := hP.out p (by simp)
      have HPT : Hid (∀ q ∈ ps, Fits f K q) := Lib.hid fun q hq => hP.out q (by simp [hq])
      have HKM : Hid ((og.length - ms.length) * 600 + ps.length < gk) := by have := hk.out; simp only [List.length_cons] at this; exact Lib.hid (by omega)
      have HBT : Hid (ps.length ≤ 100 + 600 * ms.length) := by have := hb.out; simp only [List.length_cons] at this; exact Lib.hid (by omega)
      obtain ⟨hw, hv1, hw1, hcase⟩ := hfit
      obtain ⟨v, v'⟩ := p
      simp only at hw hv1 hw1 hcase hc0 hc1
      obtain ⟨x1, x2⟩ := hv1
      obtain ⟨y1, y2⟩ := hw1
      have HSTAY : Hid (∀ w', Fr [] wr w' → Grows2 W tg ms (.slice ma ms.length mc) w') := Lib.hid fun w' hF => ⟨hF.row hM.out.row (fun _ _ => by simp), hM.out.fr.trans hF.weak, hM.out.new⟩
      rcases hcase with hK | ⟨hfv, h0 | h1⟩
      · obtain ⟨o, o', ho, ho', hcls, hfs, hsucc⟩ := HS.out.obj v hK
        obtain ⟨k1, hk1, hk2, -⟩ := (lookP_ge ho).2
        obtain ⟨k3, hk3, hk4, -⟩ := (lookP_ge ho').2
        rw [← hw] at hk3 ho'
        have t1 : v.tmod 2 = 0 := by rw [Int.tmod_eq_emod_of_nonneg x1]; omega
        have t2 : v'.tmod 2 = 0 := by rw [Int.tmod_eq_emod_of_nonneg y1]; omega
        have t3 : (v == 0) = false := by simp; omega
        have t4 : (v' == 0) = false := by simp; omega
        have HO := Lib.hid ho
        have HO' := Lib.hid ho'
        have HCL := Lib.hid hcls
        have HFS := Lib.hid hfs
        have HSU := Lib.hid hsucc
        have HK := Lib.hid hK
        have HW := Lib.hid hw
        clear ho ho' hcls hfs hsucc hk1 hk2 hk3 hk4 hK hw
        obtain ⟨M, hMl⟩ : ∃ M, M = ms.length := ⟨_, rfl⟩
        have hM1 : M ≤ 65536 := by
          have h1 := hMt.out.len HS.out
          have h2 := len_end og
          have h3 := GI.out.fit
          have h4 := GI.out.l2
          omega
        have HML := Lib.hid hMl
        rw [← hMl] at HSTAY ⊢
        have PH : Hid ((wr.alloc (.cells #[.int .u64 v, .int .u64 v'] 59)).heap[wr.heap.size]? = some (.cells #[.int .u64 v, .int .u64 v'] 59 (0, 0))) := Lib.hid (heap_new _ _)
        have HPM : Hid (∀ q, (Value.slice ma ms.length mc).ownBlock = some q → q ≠ wr.heap.size) := Lib.hid fun q hq e => by
          obtain ⟨cur, hcur⟩ := row_cells hM.out.row hq
          have := lt_of_heap hcur
          omega
        have HPG : Hid (g ≠ wr.heap.size) := by
          obtain ⟨cur, h1, -⟩ := hQ.out.row
          have := lt_of_heap h1
          exact Lib.hid (by omega)
        clear hMl
        go_wp2
        obtain ⟨pb, hpb⟩ : ∃ pb, pb = wr.heap.size := ⟨_, rfl⟩
        rw [← hpb] at PH HPM HPG ⊢
        have PC0 : Hid ((wr.alloc (.cells #[.int .u64 v, .int .u64 v'] 59)).cell? ⟨pb, 0, none⟩ = some (.int .u64 v)) := cell_of_heap PH.out rfl
        have PC1 : Hid ((wr.alloc (.cells #[.int .u64 v, .int .u64 v'] 59)).cell? ⟨pb, 1, none⟩ = some (.int .u64 v')) := cell_of_heap PH.out rfl
        clear hpb
        have HROWM : Hid (RowAt (wr.alloc (.cells #[.int .u64 v, .int .u64 v'] 59)) ma (flat2 ms)) := RowAt.fr' (row_rowAt hM.out.row) HX.out (fun _ _ _ => by simp)
        go_loopw [9, 10] (fun d s w5 => ∃ i : Nat, i ≤ M ∧ s = .int .i64 i ∧ d = .bool (dn v ms i) ∧ Hid (Fr [] (wr.alloc (.cells #[.int .u64 v, .int .u64 v'] 59)) w5)) (fun _ s _ => M - (intOf s).toNat)
        case atStart => exact ⟨0, Nat.zero_le _, rfl, rfl, Fr.refl _ _⟩
        case round =>
          obtain ⟨i, hi, rfl, rfl, hFi⟩ := hrel
          have d0 := hFi.out.cell (by simp) PC0.out
          have d1 := hFi.out.cell (by simp) PC1.out
          by_cases hlt : i < M
          · have hil : i < ms.length := by rw [← HML.out]; exact hlt
            obtain ⟨m, hm⟩ : ∃ m, ms[i]? = some m := ⟨_, List.getElem?_eq_getElem hil⟩
            obtain ⟨fm1, fm2⟩ := flat2_at hm
            obtain ⟨mg, mo, rfl, c1⟩ := HROWM.out _ _ fm1
            obtain ⟨_, _, em, c2⟩ := HROWM.out _ _ fm2
            cases em
            have e1 := hFi.out.cell (by simp) c1
            have e2 := hFi.out.cell (by simp) c2
            rw [← Nat.add_assoc] at e2
            obtain ⟨hmK, hmf⟩ := hMt.out.ok m (List.mem_of_getElem? hm)
            obtain ⟨m1, m2⟩ := m
            simp only at hmK hmf e1 e2
            have HDN : Hid (dn v ms (i + 1) = (dn v ms i || decide (m1 = v))) := Lib.hid (dn_next hm)
            have i0 : (0 : Int) ≤ (i : Int) := by omega
            have i1 : (i : Int) < (M : Int) := by omega
            have HIFF : Hid (m1 = v ↔ m2 = v') := Lib.hid ⟨fun h => by rw [hmf, h, HW.out], fun h => HS.out.inj _ _ hmK HK.out (by rw [← hmf, h, HW.out])⟩
            have HC1 := Lib.hid c1
            have HC2 := Lib.hid c2
            clear hil hm fm1 fm2 c1 c2 hmK hmf
            by_cases hmv : m1 = v
            · have h2 := HIFF.out.1 hmv
              subst hmv
              subst h2
              have HDT : Hid (dn m1 ms (i + 1) = true) := by rw [HDN.out]; exact Lib.hid (by simp)
              cases hd : dn m1 ms i
              · skip
                go_wp2
                go_quiet (fail)
                have HFa := Lib.hid (hFi.out.drewN nq)
                generalize wr.drewN nq = w6 at *
                have d2 := HFa.out.cell (by simp) PC0.out
                have d3 := HFa.out.cell (by simp) PC1.out
                have e3 := HFa.out.cell (by simp) HC1.out
                have e4 := HFa.out.cell (by simp) HC2.out
                rw [← Nat.add_assoc] at e4
                clear d0 d1 e1 e2
                go_wp2
                go_quiet (fail)
                have HFb := Lib.hid (HFa.out.drewN nq)
                generalize w6.drewN nq = w7 at *
                clear d2 d3 e3 e4
                go_wp2
                go_roundw
                case rel => exact ⟨i + 1, by omega, by go_num, by rw [HDT.out], HFb⟩
                case measure => simp [intOf]; omega
              · skip
                go_wp2
                go_quiet (fail)
                have HFa := Lib.hid (hFi.out.drewN nq)
                generalize wr.drewN nq = w6 at *
                have d2 := HFa.out.cell (by simp) PC0.out
                have d3 := HFa.out.cell (by simp) PC1.out
                have e3 := HFa.out.cell (by simp) HC1.out
                have e4 := HFa.out.cell (by simp) HC2.out
                rw [← Nat.add_assoc] at e4
                clear d0 d1 e1 e2
                go_wp2
                go_quiet (fail)
                have HFb := Lib.hid (HFa.out.drewN nq)
                generalize w6.drewN nq = w7 at *
                clear d2 d3 e3 e4
                go_wp2
                go_roundw
                case rel => exact ⟨i + 1, by omega, by go_num, by rw [HDT.out], HFb⟩
                case measure => simp [intOf]; omega
            · have h2 : ¬ m2 = v' := fun h => hmv (HIFF.out.2 h)
              have q1 : (m1 == v) = false := by simpa using hmv
              have q2 : (m2 == v') = false := by simpa using h2
              have q3 : decide (m1 = v) = false := by simpa using hmv
              cases hd : dn v ms i
              · have HDT : Hid (dn v ms (i + 1) = false) := by rw [HDN.out, hd, q3]; exact Lib.hid rfl
                go_wp2
                go_quiet (fail)
                have HFa := Lib.hid (hFi.out.drewN nq)
                generalize wr.drewN nq = w6 at *
                have d2 := HFa.out.cell (by simp) PC0.out
                have d3 := HFa.out.cell (by simp) PC1.out
                have e3 := HFa.out.cell (by simp) HC1.out
                have e4 := HFa.out.cell (by simp) HC2.out
                rw [← Nat.add_assoc] at e4
                clear d0 d1 e1 e2
                go_wp2
                go_quiet (fail)
                have HFb := Lib.hid (HFa.out.drewN nq)
                generalize w6.drewN nq = w7 at *
                clear d2 d3 e3 e4
                go_wp2
                go_roundw
                case rel => exact ⟨i + 1, by omega, by go_num, by rw [HDT.out], HFb⟩
                case measure => simp [intOf]; omega
              · have HDT : Hid (dn v ms (i + 1) = true) := by rw [HDN.out, hd]; exact Lib.hid rfl
                go_wp2
                go_quiet (fail)
                have HFa := Lib.hid (hFi.out.drewN nq)
                generalize wr.drewN nq = w6 at *
                have d2 := HFa.out.cell (by simp) PC0.out
                have d3 := HFa.out.cell (by simp) PC1.out
                have e3 := HFa.out.cell (by simp) HC1.out
                have e4 := HFa.out.cell (by simp) HC2.out
                rw [← Nat.add_assoc] at e4
                clear d0 d1 e1 e2
                go_wp2
                go_quiet (fail)
                have HFb := Lib.hid (HFa.out.drewN nq)
                generalize w6.drewN nq = w7 at *
                clear d2 d3 e3 e4
                go_wp2
                go_roundw
                case rel => exact ⟨i + 1, by omega, by go_num, by rw [HDT.out], HFb⟩
                case measure => simp [intOf]; omega
          · have hiM : i = M := by omega
            subst hiM
            have hid' : decide (i < i) = false := by simp
            cases hd : dn v ms i
            · skip
              have HFX := Lib.hid (HX.out.trans hFi.out)
              have HMR := Lib.hid (HSTAY.out _ HFX.out)
              have HQ5 := Lib.hid (HQT.out.fr HFX.out (by simp))
              have HMR1 : Hid ((wr.alloc (.cells #[.int .u64 v, .int .u64 v'] 59)).ownsRow 0 59 2 (.slice ma i mc) i (flat2 ms)) := by
                have := ((Fr.refl [] wr).alloc (.cells #[.int .u64 v, .int .u64 v'] 59)).row HMR.out.row (fun _ _ => by simp)
                rw [← HML.out] at this
                exact Lib.hid this
              obtain ⟨n, hn⟩ : ∃ n, n = o.2.2.length := ⟨_, rfl⟩
              have hn5 : n ≤ 512 := by rw [hn]; exact HS5.out o (lookP_mem HO.out)
              have HNN := Lib.hid hn
              have HML2 : Hid (i + 1 ≤ og.length) := by
                have h1 : Met og f K (ms ++ [(v, v')]) := hMt.out.snoc (by rw [← HML.out]; exact hd) HK.out HW.out
                have h2 := h1.len HS.out
                rw [List.length_append, ← HML.out] at h2
                exact Lib.hid h2
              have HMT2 : Hid (Met og f K (ms ++ [(v, v')])) := hMt.out.snoc (by rw [← HML.out]; exact hd) HK.out HW.out
              obtain ⟨o1, ho1⟩ : ∃ o1, o1 = o.1 := ⟨_, rfl⟩
              have HO1 := Lib.hid ho1
              clear hn ho1 hid'
              go_wp2_with (first
                | (at_builtin; refine wpList_append_at _ rfl (.tmp 90) (.tmp 92) 60 rfl 59 i0 _ 2 16 Tryz.underlying60 hi0 hz0 hz1 hz2 rfl (by decide) (.slice ma i mc) i (flat2 ms) rfl HMR1.out ⟨wr.heap.size, 0, none⟩ 1 1 [.int .u64 v, .int .u64 v'] rfl rfl (two_cells wr v v') (by simp [Value.oneCell']) (by unfold maxLen; omega) (by omega) ?_; intro v6 w6 ho6 hg6 hf6; obtain ⟨a6, p6, rfl⟩ := row_shape' ho6; have H6 := Lib.hid (met_push HMR.out HML.out HQ5.out hne.out ho6 hg6 hf6); have HP6 : Hid (w6.heap[pb]? = some (.cells #[.int .u64 v, .int .u64 v'] 59 (0, 0))) := H6.out.2.2.2.heap (fun hm => HPM.out pb (by rw [own_any]; simpa using hm) rfl) (hFi.out.heap (by simp) PH.out); have p60 := cell_of_heap (o := 0) HP6.out rfl; have hc6 := (obj_calls GI.out (HGW.out w6 H6.out.1.fr) HO.out).1; rw [← HO1.out] at hc6; clear ho6 hg6 hf6)
                | (go_at_call 78; refine hc6.mono ?_; rintro e w7 ⟨rfl, hF7⟩; have HF7 := Lib.hid hF7; have hc7 := (obj_calls HI.out (HHW.out w7 (H6.out.1.fr.trans hF7.weak)) HO'.out).1; rw [HCL.out, ← HO1.out] at hc7; have p71 := hF7.cell (by simp) (cell_of_heap (o := 1) HP6.out rfl); clear hF7 hc6)
                | (go_at_call 78; refine hc7.mono ?_; rintro e w8 ⟨rfl, hF8⟩; have HF8 : Hid (Fr [] w6 w8) := HF7.out.trans hF8; have hs8 := (obj_calls GI.out (HGW.out w8 (H6.out.1.fr.trans HF8.out.weak)) HO.out).2.1; rw [← HNN.out] at hs8; have p80 := HF8.out.cell (by simp) p60; clear hF8 hc7)
                | (go_at_call 47; refine hs8.mono ?_; rintro e w9 ⟨rfl, hF9⟩; have HF9 : Hid (Fr [] w6 w9) := HF8.out.trans hF9; have hs9 := (obj_calls HI.out (HHW.out w9 (H6.out.1.fr.trans HF9.out.weak)) HO'.out).2.1; rw [HFS.out, List.length_map, ← HNN.out] at hs9; have p91 := HF9.out.cell (by simp) (cell_of_heap (o := 1) HP6.out rfl); clear hF9 hs8)
                | (go_at_call 47; refine hs9.mono ?_; rintro e w10 ⟨rfl, hF10⟩; have HF10 : Hid (Fr [] w6 w10) := HF9.out.trans hF10; have FL10 : FLoop W tg pb g off2 cap2 v v' ps (ms ++ [(v, v')]) (.slice a6 (i + 1) p6) w10 := ⟨H6.out.2.1.fr HF10.out (by simp), ⟨HF10.out.row H6.out.1.row (fun _ _ => by simp), H6.out.1.fr.trans HF10.out.weak, H6.out.1.new⟩, hgw.out, H6.out.2.2.1, HF10.out.heap (by simp) HP6.out, HPG.out⟩; obtain ⟨g11, o11, c11, w11, hr11, hL11⟩ := FL10.push o1 (f o1) (by rw [← HL.out]; omega); rw [← HL.out] at hr11; have FL11 := Lib.hid hL11; clear hF10 hs9 FL10 hL11)
                | (at_builtin; refine Lib.wpList_append_run _ rfl _ _ 60 60 rfl _ _ rfl rfl _ _ hr11 ?_))
              clear p60 p71 p80 p91 HFX HMR HQ5 HMR1 HF7 HF8 HF9 HF10 HP6 H6 hr11
              go_loopw [2, 19] (fun tv s wz => ∃ j : Nat, j ≤ n ∧ s = .int .i64 j ∧ ∃ (gz oz cz : Nat), tv = .slice (some ⟨gz, oz, none⟩) (L + 1 + j) cz ∧ Hid (FLoop W tg pb gz oz cz v v' (ps ++ (o1, f o1) :: (o.2.2.take j).map (fun y => (y, f y))) (ms ++ [(v, v')]) (.slice a6 (i + 1) p6) wz)) (fun _ s _ => n - (intOf s).toNat)
              case atStart => exact ⟨0, Nat.zero_le _, rfl, g11, o11, c11, rfl, FL11⟩
              case round =>
                obtain ⟨j, hj, rfl, gz, oz, cz, rfl, FLj⟩ := hrel
                by_cases hjn : j < n
                · have hjl : j < o.2.2.length := by rw [← HNN.out]; exact hjn
                  obtain ⟨y, hy⟩ : ∃ y, o.2.2[j]? = some y := ⟨_, List.getElem?_eq_getElem hjl⟩
                  have hf1 := (obj_calls GI.out (HGW.out wr FLj.out.met.fr) HO.out).2.2 j y hy
                  have hy' : o'.2.2[j]? = some (f y) := by rw [HFS.out, List.getElem?_map, hy]; rfl
                  have HY' := Lib.hid hy'
                  have HTK : Hid (ps ++ (o1, f o1) :: (o.2.2.take (j + 1)).map (fun y => (y, f y)) = (ps ++ (o1, f o1) :: (o.2.2.take j).map (fun y => (y, f y))) ++ [(y, f y)]) := by
                    rw [List.take_add_one, hy]
                    exact Lib.hid (by simp)
                  have HLN : Hid ((ps ++ (o1, f o1) :: (o.2.2.take j).map (fun y => (y, f y))).length = L + 1 + j) := by
                    rw [List.length_append, List.length_cons, List.length_map, List.length_take, Nat.min_eq_left (by omega), ← HL.out]
                    exact Lib.hid (by omega)
                  have q0 := cell_of_heap (o := 0) FLj.out.pbl rfl
                  have q1 := cell_of_heap (o := 1) FLj.out.pbl rfl
                  have j0 : (0 : Int) ≤ (j : Int) := by omega
                  have j1 : (j : Int) < (n : Int) := by omega
                  clear hjl hy hy'
                  go_wp2_with (first
                    | (go_at_call 48; refine hf1.mono ?_; rintro e w12 ⟨rfl, hF12⟩; have FL12 := Lib.hid (FLj.out.still hF12); have hf2 := (obj_calls HI.out (HHW.out w12 FL12.out.met.fr) HO'.out).2.2 j (f y) HY'.out; have q2 := hF12.cell (by simp) q1; clear hF12 hf1)
                    | (go_at_call 48; refine hf2.mono ?_; rintro e w13 ⟨rfl, hF13⟩; obtain ⟨g14, o14, c14, w14, hr14, hL14⟩ := (FL12.out.still hF13).push y (f y) (by rw [HLN.out]; omega); rw [HLN.out] at hr14; rw [← HTK.out] at hL14; have FL14 := Lib.hid hL14; clear hF13 hf2 hL14)
                    | (at_builtin; refine Lib.wpList_append_run _ rfl _ _ 60 60 rfl _ _ rfl rfl _ _ hr14 ?_))
                  go_roundw
                  case rel => exact ⟨j + 1, by omega, by go_num, g14, o14, c14, rfl, FL14⟩
                  case measure => simp [intOf]; omega
                · have hjn' : j = n := by omega
                  subst hjn'
                  have hjd : decide (j < j) = false := by simp
                  have HTK : Hid (o.2.2.take j = o.2.2) := List.take_of_length_le (by rw [← HNN.out]; omega)
                  have HLN : Hid ((ps ++ (o1, f o1) :: o.2.2.map (fun y => (y, f y))).length = L + 1 + j) := by
                    rw [List.length_append, List.length_cons, List.length_map, ← HNN.out, ← HL.out]
                    exact Lib.hid (by omega)
                  rw [HTK.out] at FLj
                  have HFIT : Hid (∀ q ∈ ps ++ (o1, f o1) :: o.2.2.map (fun y => (y, f y)), Fits f K q) := Lib.hid fun q hq => by
                    rcases List.mem_append.1 hq with hq | hq
                    · exact HPT.out q hq
                    · have hbo := GI.out.bd o (lookP_mem HO.out)
                      rcases List.mem_cons.1 hq with rfl | hq
                      · exact fits_of HS.out HI.out (by rw [HO1.out]; exact hbo.1) (HSU.out o1 (.inl HO1.out))
                      · obtain ⟨y, hy, rfl⟩ := List.mem_map.1 hq
                        exact fits_of HS.out HI.out (hbo.2 y hy) (HSU.out y (.inr hy))
                  go_wp2
                  go_roundg ((og.length - (ms ++ [(v, v')]).length) * 600 + (ps ++ (o1, f o1) :: o.2.2.map (fun y => (y, f y))).length)
                  case measure =>
                    have h1 := HKM.out
                    have h2 := HML2.out
                    have h3 := HML.out
                    rw [HLN.out, List.length_append, List.length_singleton]
                    rw [← HL.out] at h1
                    omega
                  case rel =>
                    refine ⟨ps ++ (o1, f o1) :: o.2.2.map (fun y => (y, f y)), ms ++ [(v, v')], gz, oz, cz, by rw [HLN.out], FLj.out.que, FLj.out.gw, FLj.out.met, HFIT, HMT2, ?_, Nat.le_refl _, FLj.out.ne⟩
                    have h1 := HBT.out
                    rw [← HL.out] at h1
                    refine Lib.hid ?_
                    rw [HLN.out, List.length_append, List.length_singleton]
                    omega
            · go_wp2
              go_roundg ((og.length - ms.length) * 600 + ps.length)
              case measure => exact HKM.out
              case rel => exact ⟨ps, ms, g, off2, cap2, by rw [← HL.out], HQT.out.fr (HX.out.trans hFi.out) (by simp), hgw, HSTAY.out _ (HX.out.trans hFi.out), HPT, hMt, HBT, Nat.le_refl _, fun q hq => hne.out q (by rw [own_any]; exact hq)⟩
      · subst h0
        rw [hfv] at hw
        subst hw
        go_wp2
        go_roundg ((og.length - ms.length) * 600 + ps.length)
        case measure => exact HKM.out
        case rel => exact ⟨ps, ms, g, off2, cap2, by rw [← HL.out], HQT.out.fr HX.out (by simp), hgw, HSTAY.out _ HX.out, HPT, hMt, HBT, Nat.le_refl _, hne⟩
      · rw [hfv] at hw
        subst hw
        have t1 : v'.tmod 2 = 1 := by rw [Int.tmod_eq_emod_of_nonneg x1]; exact h1
        go_wp2
        go_roundg ((og.length - ms.length) * 600 + ps.length)
        case measure => exact HKM.out
        case rel => exact ⟨ps, ms, g, off2, cap2, by rw [← HL.out], HQT.out.fr HX.out (by simp), hgw, HSTAY.out _ HX.out, HPT, hMt, HBT, Nat.le_refl _, hne⟩
end
end Go.Proofs.YtninigdcpeijhaaGreatDoor
