/- HeapFresh, walked. -/
import Derived.Test.YtjnccpeeeiafjaaGreatDoorMSnap
import Derived.Test.YtjnccpeeeiafjaaGreatDoorMHeapHashesWalk
namespace Go.Proofs.YtjnccpeeeiafjaaGreatDoor
open Go.RowKit

theorem okB_odd (M : List Bool) (x : Int) (h : odd x = true) : okB M x = true := by simp [okB, h]
theorem flat4_take (l : List (It × Int)) (n : Nat) {j : Nat} {u : Value} (h : (flat4 (l.take n))[j]? = some u) : (flat4 l)[j]? = some u := by
  have e : flat4 l = flat4 (l.take n) ++ flat4 (l.drop n) := by
    unfold flat4
    rw [← List.flatMap_append, List.take_append_drop]
  rw [e, List.getElem?_append_left (List.getElem?_eq_some_iff.1 h).1]
  exact h
set_option maxRecDepth 100000 in
set_option maxHeartbeats 8000000 in
theorem heapFresh_walk (a0 : Int) {ao : Option Addr} {len cap : Nat} (a2 a3 : Int) (b1 : -9223372036854775808 ≤ a2) (b2 : a2 ≤ 9223372036854775807) (w : World) (hg : Glob w) (hO : OpsAt w ao len) :
    Calls Tryz.prog 6 #[.int .i64 a0, .slice ao len cap, .int .i64 a2, .int .i64 a3] w (Still (.bool true) w) := by
  have hA := awake_still w hg
  have HG := Lib.hid hg
  have HO := Lib.hid hO
  clear hg hO
  go_enter Tryz.func6, Tryz.ntmps6
  go_wp2_with fail
  refine hA.mono ?_
  rintro e w1 ⟨rfl, hF⟩
  have HF := Lib.hid hF
  have HG1 := Lib.hid (HG.out.fr hF)
  obtain ⟨lim, hl1, hl2, hmd⟩ := made_makes (cap := cap) a0 HG1.out (HO.out.fr0 hF)
  clear hF hA
  go_wp2_with fail
  refine hmd.mono ?_
  rintro e w2 ⟨hb, mb, rb, rfl, hP⟩
  obtain ⟨os, root, hashes, hI, hL⟩ := pair_live hP
  have hob := objects_at hI hL
  have HI := Lib.hid hI
  clear hP hmd hL
  go_wp2_with fail
  refine hob.mono ?_
  rintro e w3 ⟨lo, lc, rfl, hwd, -, -, hL3⟩
  have HWD := Lib.hid hwd
  have hlen : (refsO os).length ≤ 65536 := by
    rw [refsO_len]
    have h1 := len_end os
    have h2 := hI.fit
    omega
  have HLO : Hid ((refsO os).length = os.length) := Lib.hid (refsO_len os)
  -- the heap's blocks, named
  obtain ⟨wv, sv, hH3, hF3, -, hfoot⟩ := hL3
  have HH3 := Lib.hid hH3
  have HF3 := Lib.hid hF3
  have HFT := Lib.hid hfoot
  have hlos : os.length ≤ 65536 := by rw [← refsO_len]; exact hlen
  -- the class
  have hcl : ∃ cls, WB cls ∧ okB (marksOf os) cls = true ∧ ((0 < (refsO os).length ∧ ∃ i, i < (refsO os).length ∧ (bits .and .i64 a3 65535).tmod ((refsO os).length : Int) = (i : Int) ∧ (refsO os)[i]? = some cls) ∨ ((refsO os).length = 0 ∧ cls = 7)) := by
    by_cases hz : 0 < (refsO os).length
    · obtain ⟨i, hi, hmi⟩ := pick_at hz a3
      have hio : i < os.length := by rw [← refsO_len]; exact hi
      obtain ⟨h1, h2⟩ := ok_ref hI hio
      exact ⟨_, h2, h1, .inl ⟨hz, i, hi, hmi, refsO_at hio⟩⟩
    · exact ⟨7, ⟨by omega, by omega⟩, okB_odd _ _ (by decide), .inr ⟨by omega, rfl⟩⟩
  obtain ⟨cls, hcw, hco, hcc⟩ := hcl
  have hd1 := snap_at hI hH3
  have HCW := Lib.hid hcw
  have HCO := Lib.hid hco
  clear hob hI hwd hH3 hF3 hfoot hco
  have nine : WB 9 ∧ okB (marksOf os) 9 = true := ⟨⟨by omega, by omega⟩, okB_odd _ _ (by decide)⟩
  rcases hcc with ⟨hz, i, hi, hmi, hci⟩ | ⟨hz, hc7⟩
  · obtain ⟨g, oo, rfl, ci⟩ := HWD.out i _ hci
    clear hci HWD
    generalize (refsO os).length = n at *
    have i0 : (0 : Int) ≤ (i : Int) := by omega
    go_wp2_with (first
      | (go_at_call 16; refine hd1.mono ?_; rintro e w4 ⟨va, vc, its, rfl, hr4, ho4, hown4, hF4, hfr4⟩; have hil : its.length = os.length := (by rw [← ho4]; simp [obsOf]); have ht4 := theirs_at (vc := vc) hr4 hown4 (by omega); have HO4 := Lib.hid ho4; have HF4 := Lib.hid hF4; have HW4 := Lib.hid hown4; have HFR4 := Lib.hid hfr4; have HIL := Lib.hid hil; clear hr4 ho4 hown4 hF4 hfr4 hil hd1)
      | (go_at_call 21; refine ht4.mono ?_; rintro e w5 ⟨ba, bc, rfl, hbc, hG5, hF5, hn5⟩; have HG5 := Lib.hid hG5; have HF5 := Lib.hid hF5; have HN5 := Lib.hid hn5; clear hG5 hF5 hn5 ht4))
    have hHA5 : HeapAt w5 hb mb (absMem lim os root hashes) wv sv := HH3.out.fr (HF4.out.trans HF5.out) (by simp) (fun _ _ => by simp)
    have HG5W := Lib.hid (HG1.out.fr (HF3.out.trans (HF4.out.trans HF5.out)))
    obtain ⟨rw', re, os', hAL, hI', hac⟩ := alloc_any HG5W.out HI.out hHA5 cls a2 9 HCW.out nine.1 b1 b2 HCO.out nine.2
    have HI' := Lib.hid hI'
    have HH5 := Lib.hid hHA5
    have hl' : os'.length ≤ 65536 := by
      have h1 := len_end os'
      have h2 := hI'.fit
      omega
    have HB6 : Hid (∀ w6, Fr (foot mb wv sv) w5 w6 → G4 w6 ba (noPlace its)) := by
      refine Lib.hid fun w6 hF6 => ?_
      have hlt : ∀ q, w3.heap.size ≤ q → q ∉ foot mb wv sv := fun q hq hk => by have := HH3.out.mem.lt q hk; omega
      refine HG5.out.fr hF6 (fun _ a ha => hlt _ (Nat.le_trans HF4.out.size (HN5.out a ha))) (fun o ho fa n' fc hv _ => ?_)
      obtain ⟨p, hp, rfl⟩ := List.mem_map.1 ho
      exact hlt _ (HFR4.out p hp _ (own_block (HW4.out p hp) hv))
    have HX6 : Hid (∀ w6, Fr (foot mb wv sv) w5 w6 → Fr [] w w6) := Lib.hid fun w6 hF6 => HF.out.trans ((HF3.out.trans (HF4.out.trans HF5.out)).join hF6 HFT.out)
    have HNIL : Hid ((noPlace its).map (fun o => o.1.key) = os) := Lib.hid (by rw [noPlace_keys]; exact HO4.out)
    obtain ⟨il, hil⟩ : ∃ il, il = its.length := ⟨_, rfl⟩
    have HILN : Hid (il = its.length) := hil
    have hilo : il ≤ 65536 := by rw [hil, HIL.out]; exact hlos
    rw [← hil] at hbc
    rw [← hil]
    clear hI' hHA5 hil hcw
    rcases hAL with ⟨rfl, rfl, hn0, hn5, hfit5, rfl⟩ | ⟨hre, rfl, rfl⟩
    · refine hac.mono ?_
      rintro e w6 ⟨rfl, wv6, sv6, hM6, hF6, -⟩
      have hH6 : HeapAt w6 hb mb (absMem lim (os ++ [(cls, 0, List.replicate a2.toNat 9)]) root hashes) wv6 sv6 := ⟨hF6.heap HH5.out.apart HH5.out.heap, hM6⟩
      have HG6 := Lib.hid (HB6.out w6 hF6)
      have HFw6 := Lib.hid (HX6.out w6 hF6)
      have hd2 := snap_at HI'.out hH6
      have HH6 := Lib.hid hH6
      clear hac hM6 hF6 hH6
      go_wp2_with fail
      refine hd2.mono ?_
      rintro e w7 ⟨xa, xc, jts, rfl, hr7, ho7, hown7, hF7, hfr7⟩
      have hjl : jts.length = ((os ++ [(cls, 0, List.replicate a2.toNat 9)])).length := by rw [← ho7]; simp [obsOf]
      have ht7 := theirs_at (vc := xc) hr7 hown7 (by omega)
      have HO7 := Lib.hid ho7
      have HF7 := Lib.hid hF7
      have HJL := Lib.hid hjl
      clear hr7 ho7 hown7 hF7 hfr7 hjl hd2
      go_wp2_with fail
      refine ht7.mono ?_
      rintro e w8 ⟨ca, cc, rfl, hcc8, hG8, hF8, -⟩
      have HG8 := Lib.hid hG8
      have HF8 := Lib.hid (HF7.out.trans hF8)
      have HB8 : Hid (G4 w8 ba (noPlace its)) := HG6.out.fr0 HF8.out
      have HFE : Hid (Fr [] w w8) := HFw6.out.trans HF8.out
      have HK8 : Hid ((noPlace jts).map (fun o => o.1.key) = (os ++ [(cls, 0, List.replicate a2.toNat 9)])) := Lib.hid (by rw [noPlace_keys]; exact HO7.out)
      clear hG8 hF8 ht7
      have hjl2 : jts.length = il + 1 := by rw [HJL.out, HILN.out, HIL.out]; simp
      have hjn : (noPlace jts).length = il + 1 := by rw [noPlace_len]; exact hjl2
      obtain ⟨lt, hlt⟩ : ∃ lt, (noPlace jts)[il]? = some lt := ⟨_, List.getElem?_eq_getElem (by omega)⟩
      obtain ⟨f0, f1, f2, f3⟩ := flat4_at hlt
      obtain ⟨cg, co, rfl, k0⟩ := HG8.out.row _ _ f0
      obtain ⟨_, _, eg, k1⟩ := HG8.out.row _ _ f1
      cases eg
      obtain ⟨_, _, eg, k2⟩ := HG8.out.row _ _ f2
      cases eg
      obtain ⟨_, _, eg, k3⟩ := HG8.out.row _ _ f3
      cases eg
      rw [← Nat.add_assoc] at k1 k2 k3
      have hkey : lt.1.key = (cls, 0, List.replicate a2.toNat 9) := by
        have h1 : ((noPlace jts).map (fun o => o.1.key))[il]? = some lt.1.key := by rw [List.getElem?_map, hlt]; rfl
        rw [HK8.out, HILN.out, HIL.out, List.getElem?_append_right (Nat.le_refl _), Nat.sub_self] at h1
        exact (Option.some.inj h1).symm
      have hp0 : lt.2 = 0 := by
        simp only [noPlace, List.getElem?_map] at hlt
        cases hj : jts[il]? with
        | none => rw [hj] at hlt; cases hlt
        | some p => rw [hj] at hlt; cases hlt; rfl
      obtain ⟨fa, fc, hfv, hfw, -⟩ := HG8.out.ok lt (List.mem_of_getElem? hlt)
      simp only [It.key, Prod.mk.injEq] at hkey
      obtain ⟨hk0, hk1, hk2⟩ := hkey
      rw [hk2] at hfv hfw
      rw [hk0] at k0
      rw [hk1] at k1
      rw [hfv] at k2
      rw [hp0] at k3
      have hzl : (List.replicate a2.toNat (9 : Int)).length = a2.toNat := List.length_replicate
      rw [hzl] at k2
      have HFW := Lib.hid hfw
      have htk : ((noPlace jts).take il).map (fun o => o.1.key) = os := by
        rw [List.map_take, HK8.out, HILN.out, HIL.out, List.take_left']
        rfl
      have htl : ((noPlace jts).take il).length = il := by rw [List.length_take, hjn]; omega
      have hso := sameObjects (ac := bc) (bc := cc) (noPlace its) ((noPlace jts).take il) HB8.out.row (fun j u hu => HG8.out.row j u (flat4_take _ _ hu)) HB8.out.ok (fun o ho => HG8.out.ok o (List.mem_of_mem_take ho)) (by rw [noPlace_len, ← HILN.out]; omega)
      rw [HNIL.out, htk, noPlace_len, htl, ← HILN.out] at hso
      have hde : decide (os = os) = true := by simp
      rw [hde] at hso
      rw [hjl2] at hcc8
      rw [hjl2]
      obtain ⟨z, hz⟩ : ∃ z, z = a2.toNat := ⟨_, rfl⟩
      have hza : (z : Int) = a2 := by omega
      rw [← hz] at k2 HFW
      have hP10 := endOf_pos os
      have hcl : Hid (∀ W, Fr [] w6 W → Calls Tryz.prog 24 #[.pointer (some ⟨hb, 0, none⟩), .int .u64 (2 * (endOf os : Nat))] W (Still (.tuple #[.int .u64 cls, .int .i64 0]) W)) := by
        refine Lib.hid fun W hW => ?_
        exact class_yes (memory_at (HH6.out.fr hW (by simp) (fun _ _ => by simp))) (endOf os) cls abs_mark hP10 (by omega) abs_cls
      subst hza
      clear hde hlt f0 f1 f2 f3 hk0 hk1 hk2 hfv hfw hp0 hzl htk htl hjl2 hjn hz
      go_wp2_with (first | (go_at_call 23; refine hso.mono ?_; rintro e w9 ⟨rfl, hd9⟩; have HF9 : Hid (Fr [] w8 w9) := (by obtain ⟨m, rfl⟩ := hd9; exact (Fr.refl _ _).drewN _); have m0 := HF9.out.cell (by simp) k0; have m1 := HF9.out.cell (by simp) k1; have m2 := HF9.out.cell (by simp) k2; have m3 := HF9.out.cell (by simp) k3; clear hd9))
      obtain ⟨wA, hwA⟩ : ∃ wA, wA = w9.alloc (.cells #[.int .u64 cls, .int .i64 0, .slice fa z fc, .int .i64 0] 57) := ⟨_, rfl⟩
      obtain ⟨xb, hxb⟩ : ∃ xb, xb = w9.heap.size := ⟨_, rfl⟩
      have hbk : wA.heap[xb]? = some (.cells #[.int .u64 cls, .int .i64 0, .slice fa z fc, .int .i64 0] 57 (0, 0)) := by rw [hwA, hxb]; exact heap_new _ _
      have x0 := cell_of_heap (o := 0) hbk rfl
      have x1 := cell_of_heap (o := 1) hbk rfl
      have x2 := cell_of_heap (o := 2) hbk rfl
      have HFA : Hid (Fr [] w8 wA) := by rw [hwA]; exact HF9.out.alloc _
      have HFWA : Hid (WordsAt wA fa (List.replicate z (9 : Int))) := HFW.out.fr HFA.out (fun _ _ => by simp)
      have hcc9 := hcl.out wA (HF8.out.trans HFA.out)
      have HWE : Hid (Fr [] w wA) := HFE.out.trans HFA.out
      rw [← hwA]
      rw [← hxb]
      clear hwA hxb hbk m0 m1 m2 m3 k0 k1 k2 k3 HF9 hso
      obtain ⟨eo, heo⟩ : ∃ eo : Int, eo = 2 * ((endOf os : Nat) : Int) := ⟨_, rfl⟩
      rw [← heo] at hcc9
      rw [← heo]
      clear heo
      go_loop [18] (fun i => ∃ q : Nat, q ≤ z ∧ i = .int .i64 q) (fun i => z - (intOf i).toNat)
      case atStart => exact ⟨0, Nat.zero_le _, rfl⟩
      case round =>
        obtain ⟨q, hq, rfl⟩ := hrel
        by_cases hqz : q < z
        · obtain ⟨fg, fo, rfl, hf9⟩ := HFWA.out q 9 (by rw [List.getElem?_replicate, if_pos hqz])
          have q0 : (0 : Int) ≤ (q : Int) := by omega
          have q1 : (q : Int) < (z : Int) := by omega
          go_wp2
          go_round
          case rel => exact ⟨q + 1, by omega, by go_num⟩
          case measure => simp [intOf]; omega
        · have hqd : decide (q < z) = false := by simp; omega
          go_wp2_with (first | (go_at_call 24; refine hcc9.mono ?_; rintro e wB ⟨rfl, hFB⟩; have y0 := hFB.cell (by simp) x0; have y1 := hFB.cell (by simp) x1; have y2 := hFB.cell (by simp) x2; have HFB := Lib.hid hFB; clear hFB))
          go_ret
          exact ⟨ret1 (vb (by first | (simp; done) | (simp; omega))), HWE.out.trans HFB.out⟩
    · rcases hre with rfl | rfl
      · refine hac.mono ?_
        rintro e w6 ⟨rfl, wv6, sv6, hM6, hF6, -⟩
        have hH6 : HeapAt w6 hb mb (absMem lim os' root hashes) wv6 sv6 := ⟨hF6.heap HH5.out.apart HH5.out.heap, hM6⟩
        have HG6 := Lib.hid (HB6.out w6 hF6)
        have HFw6 := Lib.hid (HX6.out w6 hF6)
        have hd2 := snap_at HI'.out hH6
        have HH6 := Lib.hid hH6
        clear hac hM6 hF6 hH6
        go_wp2_with fail
        refine hd2.mono ?_
        rintro e w7 ⟨xa, xc, jts, rfl, hr7, ho7, hown7, hF7, hfr7⟩
        have hjl : jts.length = (os').length := by rw [← ho7]; simp [obsOf]
        have ht7 := theirs_at (vc := xc) hr7 hown7 (by omega)
        have HO7 := Lib.hid ho7
        have HF7 := Lib.hid hF7
        have HJL := Lib.hid hjl
        clear hr7 ho7 hown7 hF7 hfr7 hjl hd2
        go_wp2_with fail
        refine ht7.mono ?_
        rintro e w8 ⟨ca, cc, rfl, hcc8, hG8, hF8, -⟩
        have HG8 := Lib.hid hG8
        have HF8 := Lib.hid (HF7.out.trans hF8)
        have HB8 : Hid (G4 w8 ba (noPlace its)) := HG6.out.fr0 HF8.out
        have HFE : Hid (Fr [] w w8) := HFw6.out.trans HF8.out
        have HK8 : Hid ((noPlace jts).map (fun o => o.1.key) = os') := Lib.hid (by rw [noPlace_keys]; exact HO7.out)
        clear hG8 hF8 ht7
        have hso := sameObjects (ac := bc) (bc := cc) (noPlace its) (noPlace jts) HB8.out.row HG8.out.row HB8.out.ok HG8.out.ok (by rw [noPlace_len, ← HILN.out]; omega)
        rw [HNIL.out, HK8.out, noPlace_len, noPlace_len, ← HILN.out] at hso
        have hde : decide (os' = os') = true := by simp
        rw [hde] at hso
        clear hde
        generalize jts.length = jl at *
        go_wp2_with (first | (go_at_call 23; refine hso.mono ?_; rintro e w9 ⟨rfl, hd9⟩; have HF9 : Hid (Fr [] w8 w9) := (by obtain ⟨m, rfl⟩ := hd9; exact (Fr.refl _ _).drewN _); clear hd9))
        go_ret
        exact ⟨rfl, HFE.out.trans HF9.out⟩
      · refine hac.mono ?_
        rintro e w6 ⟨rfl, wv6, sv6, hM6, hF6, -⟩
        have hH6 : HeapAt w6 hb mb (absMem lim os' root hashes) wv6 sv6 := ⟨hF6.heap HH5.out.apart HH5.out.heap, hM6⟩
        have HG6 := Lib.hid (HB6.out w6 hF6)
        have HFw6 := Lib.hid (HX6.out w6 hF6)
        have hd2 := snap_at HI'.out hH6
        have HH6 := Lib.hid hH6
        clear hac hM6 hF6 hH6
        go_wp2_with fail
        refine hd2.mono ?_
        rintro e w7 ⟨xa, xc, jts, rfl, hr7, ho7, hown7, hF7, hfr7⟩
        have hjl : jts.length = (os').length := by rw [← ho7]; simp [obsOf]
        have ht7 := theirs_at (vc := xc) hr7 hown7 (by omega)
        have HO7 := Lib.hid ho7
        have HF7 := Lib.hid hF7
        have HJL := Lib.hid hjl
        clear hr7 ho7 hown7 hF7 hfr7 hjl hd2
        go_wp2_with fail
        refine ht7.mono ?_
        rintro e w8 ⟨ca, cc, rfl, hcc8, hG8, hF8, -⟩
        have HG8 := Lib.hid hG8
        have HF8 := Lib.hid (HF7.out.trans hF8)
        have HB8 : Hid (G4 w8 ba (noPlace its)) := HG6.out.fr0 HF8.out
        have HFE : Hid (Fr [] w w8) := HFw6.out.trans HF8.out
        have HK8 : Hid ((noPlace jts).map (fun o => o.1.key) = os') := Lib.hid (by rw [noPlace_keys]; exact HO7.out)
        clear hG8 hF8 ht7
        have hso := sameObjects (ac := bc) (bc := cc) (noPlace its) (noPlace jts) HB8.out.row HG8.out.row HB8.out.ok HG8.out.ok (by rw [noPlace_len, ← HILN.out]; omega)
        rw [HNIL.out, HK8.out, noPlace_len, noPlace_len, ← HILN.out] at hso
        have hde : decide (os' = os') = true := by simp
        rw [hde] at hso
        clear hde
        generalize jts.length = jl at *
        go_wp2_with (first | (go_at_call 23; refine hso.mono ?_; rintro e w9 ⟨rfl, hd9⟩; have HF9 : Hid (Fr [] w8 w9) := (by obtain ⟨m, rfl⟩ := hd9; exact (Fr.refl _ _).drewN _); clear hd9))
        go_ret
        exact ⟨rfl, HFE.out.trans HF9.out⟩
  · subst hc7
    rw [hz]
    clear HWD hlen HLO
    go_wp2_with (first
      | (go_at_call 16; refine hd1.mono ?_; rintro e w4 ⟨va, vc, its, rfl, hr4, ho4, hown4, hF4, hfr4⟩; have hil : its.length = os.length := (by rw [← ho4]; simp [obsOf]); have ht4 := theirs_at (vc := vc) hr4 hown4 (by omega); have HO4 := Lib.hid ho4; have HF4 := Lib.hid hF4; have HW4 := Lib.hid hown4; have HFR4 := Lib.hid hfr4; have HIL := Lib.hid hil; clear hr4 ho4 hown4 hF4 hfr4 hil hd1)
      | (go_at_call 21; refine ht4.mono ?_; rintro e w5 ⟨ba, bc, rfl, hbc, hG5, hF5, hn5⟩; have HG5 := Lib.hid hG5; have HF5 := Lib.hid hF5; have HN5 := Lib.hid hn5; clear hG5 hF5 hn5 ht4))
    have hHA5 : HeapAt w5 hb mb (absMem lim os root hashes) wv sv := HH3.out.fr (HF4.out.trans HF5.out) (by simp) (fun _ _ => by simp)
    have HG5W := Lib.hid (HG1.out.fr (HF3.out.trans (HF4.out.trans HF5.out)))
    obtain ⟨rw', re, os', hAL, hI', hac⟩ := alloc_any HG5W.out HI.out hHA5 7 a2 9 HCW.out nine.1 b1 b2 HCO.out nine.2
    have HI' := Lib.hid hI'
    have HH5 := Lib.hid hHA5
    have hl' : os'.length ≤ 65536 := by
      have h1 := len_end os'
      have h2 := hI'.fit
      omega
    have HB6 : Hid (∀ w6, Fr (foot mb wv sv) w5 w6 → G4 w6 ba (noPlace its)) := by
      refine Lib.hid fun w6 hF6 => ?_
      have hlt : ∀ q, w3.heap.size ≤ q → q ∉ foot mb wv sv := fun q hq hk => by have := HH3.out.mem.lt q hk; omega
      refine HG5.out.fr hF6 (fun _ a ha => hlt _ (Nat.le_trans HF4.out.size (HN5.out a ha))) (fun o ho fa n' fc hv _ => ?_)
      obtain ⟨p, hp, rfl⟩ := List.mem_map.1 ho
      exact hlt _ (HFR4.out p hp _ (own_block (HW4.out p hp) hv))
    have HX6 : Hid (∀ w6, Fr (foot mb wv sv) w5 w6 → Fr [] w w6) := Lib.hid fun w6 hF6 => HF.out.trans ((HF3.out.trans (HF4.out.trans HF5.out)).join hF6 HFT.out)
    have HNIL : Hid ((noPlace its).map (fun o => o.1.key) = os) := Lib.hid (by rw [noPlace_keys]; exact HO4.out)
    obtain ⟨il, hil⟩ : ∃ il, il = its.length := ⟨_, rfl⟩
    have HILN : Hid (il = its.length) := hil
    have hilo : il ≤ 65536 := by rw [hil, HIL.out]; exact hlos
    rw [← hil] at hbc
    rw [← hil]
    clear hI' hHA5 hil hcw
    rcases hAL with ⟨rfl, rfl, hn0, hn5, hfit5, rfl⟩ | ⟨hre, rfl, rfl⟩
    · refine hac.mono ?_
      rintro e w6 ⟨rfl, wv6, sv6, hM6, hF6, -⟩
      have hH6 : HeapAt w6 hb mb (absMem lim (os ++ [((7 : Int), 0, List.replicate a2.toNat 9)]) root hashes) wv6 sv6 := ⟨hF6.heap HH5.out.apart HH5.out.heap, hM6⟩
      have HG6 := Lib.hid (HB6.out w6 hF6)
      have HFw6 := Lib.hid (HX6.out w6 hF6)
      have hd2 := snap_at HI'.out hH6
      have HH6 := Lib.hid hH6
      clear hac hM6 hF6 hH6
      go_wp2_with fail
      refine hd2.mono ?_
      rintro e w7 ⟨xa, xc, jts, rfl, hr7, ho7, hown7, hF7, hfr7⟩
      have hjl : jts.length = ((os ++ [((7 : Int), 0, List.replicate a2.toNat 9)])).length := by rw [← ho7]; simp [obsOf]
      have ht7 := theirs_at (vc := xc) hr7 hown7 (by omega)
      have HO7 := Lib.hid ho7
      have HF7 := Lib.hid hF7
      have HJL := Lib.hid hjl
      clear hr7 ho7 hown7 hF7 hfr7 hjl hd2
      go_wp2_with fail
      refine ht7.mono ?_
      rintro e w8 ⟨ca, cc, rfl, hcc8, hG8, hF8, -⟩
      have HG8 := Lib.hid hG8
      have HF8 := Lib.hid (HF7.out.trans hF8)
      have HB8 : Hid (G4 w8 ba (noPlace its)) := HG6.out.fr0 HF8.out
      have HFE : Hid (Fr [] w w8) := HFw6.out.trans HF8.out
      have HK8 : Hid ((noPlace jts).map (fun o => o.1.key) = (os ++ [((7 : Int), 0, List.replicate a2.toNat 9)])) := Lib.hid (by rw [noPlace_keys]; exact HO7.out)
      clear hG8 hF8 ht7
      have hjl2 : jts.length = il + 1 := by rw [HJL.out, HILN.out, HIL.out]; simp
      have hjn : (noPlace jts).length = il + 1 := by rw [noPlace_len]; exact hjl2
      obtain ⟨lt, hlt⟩ : ∃ lt, (noPlace jts)[il]? = some lt := ⟨_, List.getElem?_eq_getElem (by omega)⟩
      obtain ⟨f0, f1, f2, f3⟩ := flat4_at hlt
      obtain ⟨cg, co, rfl, k0⟩ := HG8.out.row _ _ f0
      obtain ⟨_, _, eg, k1⟩ := HG8.out.row _ _ f1
      cases eg
      obtain ⟨_, _, eg, k2⟩ := HG8.out.row _ _ f2
      cases eg
      obtain ⟨_, _, eg, k3⟩ := HG8.out.row _ _ f3
      cases eg
      rw [← Nat.add_assoc] at k1 k2 k3
      have hkey : lt.1.key = ((7 : Int), 0, List.replicate a2.toNat 9) := by
        have h1 : ((noPlace jts).map (fun o => o.1.key))[il]? = some lt.1.key := by rw [List.getElem?_map, hlt]; rfl
        rw [HK8.out, HILN.out, HIL.out, List.getElem?_append_right (Nat.le_refl _), Nat.sub_self] at h1
        exact (Option.some.inj h1).symm
      have hp0 : lt.2 = 0 := by
        simp only [noPlace, List.getElem?_map] at hlt
        cases hj : jts[il]? with
        | none => rw [hj] at hlt; cases hlt
        | some p => rw [hj] at hlt; cases hlt; rfl
      obtain ⟨fa, fc, hfv, hfw, -⟩ := HG8.out.ok lt (List.mem_of_getElem? hlt)
      simp only [It.key, Prod.mk.injEq] at hkey
      obtain ⟨hk0, hk1, hk2⟩ := hkey
      rw [hk2] at hfv hfw
      rw [hk0] at k0
      rw [hk1] at k1
      rw [hfv] at k2
      rw [hp0] at k3
      have hzl : (List.replicate a2.toNat (9 : Int)).length = a2.toNat := List.length_replicate
      rw [hzl] at k2
      have HFW := Lib.hid hfw
      have htk : ((noPlace jts).take il).map (fun o => o.1.key) = os := by
        rw [List.map_take, HK8.out, HILN.out, HIL.out, List.take_left']
        rfl
      have htl : ((noPlace jts).take il).length = il := by rw [List.length_take, hjn]; omega
      have hso := sameObjects (ac := bc) (bc := cc) (noPlace its) ((noPlace jts).take il) HB8.out.row (fun j u hu => HG8.out.row j u (flat4_take _ _ hu)) HB8.out.ok (fun o ho => HG8.out.ok o (List.mem_of_mem_take ho)) (by rw [noPlace_len, ← HILN.out]; omega)
      rw [HNIL.out, htk, noPlace_len, htl, ← HILN.out] at hso
      have hde : decide (os = os) = true := by simp
      rw [hde] at hso
      rw [hjl2] at hcc8
      rw [hjl2]
      obtain ⟨z, hz⟩ : ∃ z, z = a2.toNat := ⟨_, rfl⟩
      have hza : (z : Int) = a2 := by omega
      rw [← hz] at k2 HFW
      have hP10 := endOf_pos os
      have hcl : Hid (∀ W, Fr [] w6 W → Calls Tryz.prog 24 #[.pointer (some ⟨hb, 0, none⟩), .int .u64 (2 * (endOf os : Nat))] W (Still (.tuple #[.int .u64 (7 : Int), .int .i64 0]) W)) := by
        refine Lib.hid fun W hW => ?_
        exact class_yes (memory_at (HH6.out.fr hW (by simp) (fun _ _ => by simp))) (endOf os) (7 : Int) abs_mark hP10 (by omega) abs_cls
      subst hza
      clear hde hlt f0 f1 f2 f3 hk0 hk1 hk2 hfv hfw hp0 hzl htk htl hjl2 hjn hz
      go_wp2_with (first | (go_at_call 23; refine hso.mono ?_; rintro e w9 ⟨rfl, hd9⟩; have HF9 : Hid (Fr [] w8 w9) := (by obtain ⟨m, rfl⟩ := hd9; exact (Fr.refl _ _).drewN _); have m0 := HF9.out.cell (by simp) k0; have m1 := HF9.out.cell (by simp) k1; have m2 := HF9.out.cell (by simp) k2; have m3 := HF9.out.cell (by simp) k3; clear hd9))
      obtain ⟨wA, hwA⟩ : ∃ wA, wA = w9.alloc (.cells #[.int .u64 (7 : Int), .int .i64 0, .slice fa z fc, .int .i64 0] 57) := ⟨_, rfl⟩
      obtain ⟨xb, hxb⟩ : ∃ xb, xb = w9.heap.size := ⟨_, rfl⟩
      have hbk : wA.heap[xb]? = some (.cells #[.int .u64 (7 : Int), .int .i64 0, .slice fa z fc, .int .i64 0] 57 (0, 0)) := by rw [hwA, hxb]; exact heap_new _ _
      have x0 := cell_of_heap (o := 0) hbk rfl
      have x1 := cell_of_heap (o := 1) hbk rfl
      have x2 := cell_of_heap (o := 2) hbk rfl
      have HFA : Hid (Fr [] w8 wA) := by rw [hwA]; exact HF9.out.alloc _
      have HFWA : Hid (WordsAt wA fa (List.replicate z (9 : Int))) := HFW.out.fr HFA.out (fun _ _ => by simp)
      have hcc9 := hcl.out wA (HF8.out.trans HFA.out)
      have HWE : Hid (Fr [] w wA) := HFE.out.trans HFA.out
      rw [← hwA]
      rw [← hxb]
      clear hwA hxb hbk m0 m1 m2 m3 k0 k1 k2 k3 HF9 hso
      obtain ⟨eo, heo⟩ : ∃ eo : Int, eo = 2 * ((endOf os : Nat) : Int) := ⟨_, rfl⟩
      rw [← heo] at hcc9
      rw [← heo]
      clear heo
      go_loop [18] (fun i => ∃ q : Nat, q ≤ z ∧ i = .int .i64 q) (fun i => z - (intOf i).toNat)
      case atStart => exact ⟨0, Nat.zero_le _, rfl⟩
      case round =>
        obtain ⟨q, hq, rfl⟩ := hrel
        by_cases hqz : q < z
        · obtain ⟨fg, fo, rfl, hf9⟩ := HFWA.out q 9 (by rw [List.getElem?_replicate, if_pos hqz])
          have q0 : (0 : Int) ≤ (q : Int) := by omega
          have q1 : (q : Int) < (z : Int) := by omega
          go_wp2
          go_round
          case rel => exact ⟨q + 1, by omega, by go_num⟩
          case measure => simp [intOf]; omega
        · have hqd : decide (q < z) = false := by simp; omega
          go_wp2_with (first | (go_at_call 24; refine hcc9.mono ?_; rintro e wB ⟨rfl, hFB⟩; have y0 := hFB.cell (by simp) x0; have y1 := hFB.cell (by simp) x1; have y2 := hFB.cell (by simp) x2; have HFB := Lib.hid hFB; clear hFB))
          go_ret
          exact ⟨ret1 (vb (by first | (simp; done) | (simp; omega))), HWE.out.trans HFB.out⟩
    · rcases hre with rfl | rfl
      · refine hac.mono ?_
        rintro e w6 ⟨rfl, wv6, sv6, hM6, hF6, -⟩
        have hH6 : HeapAt w6 hb mb (absMem lim os' root hashes) wv6 sv6 := ⟨hF6.heap HH5.out.apart HH5.out.heap, hM6⟩
        have HG6 := Lib.hid (HB6.out w6 hF6)
        have HFw6 := Lib.hid (HX6.out w6 hF6)
        have hd2 := snap_at HI'.out hH6
        have HH6 := Lib.hid hH6
        clear hac hM6 hF6 hH6
        go_wp2_with fail
        refine hd2.mono ?_
        rintro e w7 ⟨xa, xc, jts, rfl, hr7, ho7, hown7, hF7, hfr7⟩
        have hjl : jts.length = (os').length := by rw [← ho7]; simp [obsOf]
        have ht7 := theirs_at (vc := xc) hr7 hown7 (by omega)
        have HO7 := Lib.hid ho7
        have HF7 := Lib.hid hF7
        have HJL := Lib.hid hjl
        clear hr7 ho7 hown7 hF7 hfr7 hjl hd2
        go_wp2_with fail
        refine ht7.mono ?_
        rintro e w8 ⟨ca, cc, rfl, hcc8, hG8, hF8, -⟩
        have HG8 := Lib.hid hG8
        have HF8 := Lib.hid (HF7.out.trans hF8)
        have HB8 : Hid (G4 w8 ba (noPlace its)) := HG6.out.fr0 HF8.out
        have HFE : Hid (Fr [] w w8) := HFw6.out.trans HF8.out
        have HK8 : Hid ((noPlace jts).map (fun o => o.1.key) = os') := Lib.hid (by rw [noPlace_keys]; exact HO7.out)
        clear hG8 hF8 ht7
        have hso := sameObjects (ac := bc) (bc := cc) (noPlace its) (noPlace jts) HB8.out.row HG8.out.row HB8.out.ok HG8.out.ok (by rw [noPlace_len, ← HILN.out]; omega)
        rw [HNIL.out, HK8.out, noPlace_len, noPlace_len, ← HILN.out] at hso
        have hde : decide (os' = os') = true := by simp
        rw [hde] at hso
        clear hde
        generalize jts.length = jl at *
        go_wp2_with (first | (go_at_call 23; refine hso.mono ?_; rintro e w9 ⟨rfl, hd9⟩; have HF9 : Hid (Fr [] w8 w9) := (by obtain ⟨m, rfl⟩ := hd9; exact (Fr.refl _ _).drewN _); clear hd9))
        go_ret
        exact ⟨rfl, HFE.out.trans HF9.out⟩
      · refine hac.mono ?_
        rintro e w6 ⟨rfl, wv6, sv6, hM6, hF6, -⟩
        have hH6 : HeapAt w6 hb mb (absMem lim os' root hashes) wv6 sv6 := ⟨hF6.heap HH5.out.apart HH5.out.heap, hM6⟩
        have HG6 := Lib.hid (HB6.out w6 hF6)
        have HFw6 := Lib.hid (HX6.out w6 hF6)
        have hd2 := snap_at HI'.out hH6
        have HH6 := Lib.hid hH6
        clear hac hM6 hF6 hH6
        go_wp2_with fail
        refine hd2.mono ?_
        rintro e w7 ⟨xa, xc, jts, rfl, hr7, ho7, hown7, hF7, hfr7⟩
        have hjl : jts.length = (os').length := by rw [← ho7]; simp [obsOf]
        have ht7 := theirs_at (vc := xc) hr7 hown7 (by omega)
        have HO7 := Lib.hid ho7
        have HF7 := Lib.hid hF7
        have HJL := Lib.hid hjl
        clear hr7 ho7 hown7 hF7 hfr7 hjl hd2
        go_wp2_with fail
        refine ht7.mono ?_
        rintro e w8 ⟨ca, cc, rfl, hcc8, hG8, hF8, -⟩
        have HG8 := Lib.hid hG8
        have HF8 := Lib.hid (HF7.out.trans hF8)
        have HB8 : Hid (G4 w8 ba (noPlace its)) := HG6.out.fr0 HF8.out
        have HFE : Hid (Fr [] w w8) := HFw6.out.trans HF8.out
        have HK8 : Hid ((noPlace jts).map (fun o => o.1.key) = os') := Lib.hid (by rw [noPlace_keys]; exact HO7.out)
        clear hG8 hF8 ht7
        have hso := sameObjects (ac := bc) (bc := cc) (noPlace its) (noPlace jts) HB8.out.row HG8.out.row HB8.out.ok HG8.out.ok (by rw [noPlace_len, ← HILN.out]; omega)
        rw [HNIL.out, HK8.out, noPlace_len, noPlace_len, ← HILN.out] at hso
        have hde : decide (os' = os') = true := by simp
        rw [hde] at hso
        clear hde
        generalize jts.length = jl at *
        go_wp2_with (first | (go_at_call 23; refine hso.mono ?_; rintro e w9 ⟨rfl, hd9⟩; have HF9 : Hid (Fr [] w8 w9) := (by obtain ⟨m, rfl⟩ := hd9; exact (Fr.refl _ _).drewN _); clear hd9))
        go_ret
        exact ⟨rfl, HFE.out.trans HF9.out⟩
end Go.Proofs.YtjnccpeeeiafjaaGreatDoor
