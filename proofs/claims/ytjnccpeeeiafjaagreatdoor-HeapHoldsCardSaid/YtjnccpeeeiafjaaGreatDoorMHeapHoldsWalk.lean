/- HeapHolds, walked. -/
import Derived.Test.YtjnccpeeeiafjaaGreatDoorMHolds
import Derived.Test.YtjnccpeeeiafjaaGreatDoorMHeapHashesWalk
namespace Go.Proofs.YtjnccpeeeiafjaaGreatDoor
open Go.RowKit

theorem G3.at {W : World} {va : Option Addr} {its : List It} (h : G3 W va its) {x : Nat} {o : It} (hx : its[x]? = some o) : ∃ g off fa fc, va = some ⟨g, off, none⟩ ∧ W.cell? ⟨g, off + x * 3 + 2, none⟩ = some (.slice fa o.fs.length fc) ∧ WordsAt W fa o.fs := by
  obtain ⟨-, -, f2⟩ := flat3_at hx
  obtain ⟨g, off, rfl, c2⟩ := h.row _ _ f2
  obtain ⟨fa, fc, hv, hw, -⟩ := (h.own o (List.mem_of_getElem? hx)).ok
  rw [hv] at c2
  exact ⟨g, off, fa, fc, rfl, by rw [Nat.add_assoc]; exact c2, hw⟩
set_option maxRecDepth 100000 in
set_option maxHeartbeats 8000000 in
theorem heapHolds_walk (a0 : Int) {ao : Option Addr} {len cap : Nat} (a2 a3 a4 : Int) (b1 : -9223372036854775808 ≤ a3) (b2 : a3 ≤ 9223372036854775807) (w : World) (hg : Glob w) (hO : OpsAt w ao len) :
    Calls Tryz.prog 4 #[.int .i64 a0, .slice ao len cap, .int .i64 a2, .int .i64 a3, .int .i64 a4] w (Still (.bool true) w) := by
  have hA := awake_still w hg
  have HG := Lib.hid hg
  have HO := Lib.hid hO
  clear hg hO
  go_enter Tryz.func4, Tryz.ntmps4
  go_wp2_with fail
  refine hA.mono ?_
  rintro e w1 ⟨rfl, hF⟩
  have HF := Lib.hid hF
  have HG1 := Lib.hid (HG.out.fr hF)
  obtain ⟨lim, hl1, hl2, hmd⟩ := made_makes (cap := cap) a0 HG1.out (HO.out.fr0 hF)
  clear hF hA
  go_wp2_with fail
  refine hmd.mono ?_
  rintro e w2 ⟨hb, mb, rb, rfl, hP⟩
  obtain ⟨os, root, hashes, hI, hL⟩ := pair_live hP
  obtain ⟨wv, sv, hH2, hF2, hhb, hfoot⟩ := hL
  have hd1 := snap3_at hI hH2
  have HI := Lib.hid hI
  have HH2 := Lib.hid hH2
  have HF2 := Lib.hid hF2
  have HFT := Lib.hid hfoot
  have HHB := Lib.hid hhb
  have hlos : os.length ≤ 65536 := by
    have h1 := len_end os
    have h2 := hI.fit
    omega
  clear hP hmd hI hH2 hF2 hfoot hhb
  go_wp2_with fail
  refine hd1.mono ?_
  rintro e w3 ⟨va, vc, its, rfl, hg3, ho3, hF3, hn3, hfr3⟩
  have HG3 := Lib.hid hg3
  have HO3 := Lib.hid ho3
  have HF3 := Lib.hid hF3
  have HN3 := Lib.hid hn3
  have HFR3 := Lib.hid hfr3
  have hil : its.length = os.length := by rw [← ho3]; simp [obsOf]
  have HIL := Lib.hid hil
  obtain ⟨il, hile⟩ : ∃ il, il = its.length := ⟨_, rfl⟩
  have HILN := Lib.hid hile
  have hilo : il ≤ 65536 := by omega
  have hH3 : HeapAt w3 hb mb (absMem lim os root hashes) wv sv := HH2.out.fr hF3 (by simp) (fun _ _ => by simp)
  have hob := objects_at HI.out (w := w1) ⟨wv, sv, hH3, HF2.out.trans hF3, HHB.out, HFT.out⟩
  have HH3 := Lib.hid hH3
  rw [← hile]
  clear hg3 ho3 hF3 hn3 hfr3 hil hile hd1 hH3
  go_wp2_with fail
  refine hob.mono ?_
  rintro e w4 ⟨lo, lc, rfl, hwd, hF4, -, -⟩
  have HWD := Lib.hid hwd
  have HF4 := Lib.hid hF4
  have HLN : Hid ((refsO os).length = il) := by rw [HILN.out, HIL.out]; exact Lib.hid (refsO_len os)
  clear hob hwd hF4
  rw [HLN.out]
  by_cases hz : 0 < il
  · obtain ⟨i, hi, hmi⟩ := pick_at (xs := refsO os) (by rw [HLN.out]; exact hz) a2
    rw [HLN.out] at hi hmi
    have hio : i < os.length := by rw [← HIL.out, ← HILN.out]; exact hi
    obtain ⟨g, oo, rfl, ci⟩ := HWD.out i _ (refsO_at hio)
    have HIO := Lib.hid hio
    have HMI := Lib.hid hmi
    have i0 : (0 : Int) ≤ (i : Int) := by omega
    have i1 : (i : Int) < (il : Int) := by omega
    obtain ⟨v, hve⟩ : ∃ v, v = IntKind.u64.wrap (IntKind.u64.wrap (IntKind.u64.wrap a4 * 2) + 1) := ⟨_, rfl⟩
    have hvb : WB v ∧ odd v = true := by
      rw [hve]
      simp only [IntKind.wrap_u64]
      refine ⟨⟨by omega, by omega⟩, ?_⟩
      unfold odd
      simp
    have HF24 : Hid (Fr [] w2 w4) := HF3.out.trans HF4.out
    have hH4 : HeapAt w4 hb mb (absMem lim os root hashes) wv sv := HH3.out.fr HF4.out (by simp) (fun _ _ => by simp)
    obtain ⟨re, os', hST, hI', hac⟩ := store_at (HG1.out.fr (HF2.out.trans HF24.out)) HI.out hH4 hio a3 v b1 b2 hvb.1 hvb.2
    have HH4 := Lib.hid hH4
    have HI' := Lib.hid hI'
    have HST := Lib.hid hST
    have hz0 : ((il : Int) == 0) = false := by simp; omega
    have HB5 : Hid (∀ w5, Fr (foot mb wv sv) w4 w5 → G3 w5 va its) := by
      refine Lib.hid fun w5 hF5 => ?_
      have hlt : ∀ q, w2.heap.size ≤ q → q ∉ foot mb wv sv := fun q hq hk => by have := HH2.out.mem.lt q hk; omega
      exact (HG3.out.fr HF4.out (fun _ _ => by simp) (fun _ _ _ _ => by simp)).fr hF5 (fun a ha => hlt _ (HN3.out a ha)) (fun o ho b hb' => hlt _ (HFR3.out o ho b hb'))
    have HX5 : Hid (∀ w5, Fr (foot mb wv sv) w4 w5 → Fr [] w w5) := Lib.hid fun w5 hF5 => HF.out.trans ((HF2.out.trans HF24.out).join hF5 HFT.out)
    clear hio HWD hH4 hI' hST hvb
    go_wp2_with fail
    rw [← hve]
    have HVE := Lib.hid hve
    clear hve
    refine hac.mono ?_
    rintro e w5 ⟨rfl, wv5, sv5, hM5, hF5, -⟩
    have hH5 : HeapAt w5 hb mb (absMem lim os' root hashes) wv5 sv5 := ⟨hF5.heap HH4.out.apart HH4.out.heap, hM5⟩
    have HG5 := Lib.hid (HB5.out w5 hF5)
    have HE5 := Lib.hid (HX5.out w5 hF5)
    have hd2 := snap3_at HI'.out hH5
    clear hac hM5 hF5 hH5 ci
    go_wp2_with fail
    refine hd2.mono ?_
    rintro e w6 ⟨ca, cc, jts, rfl, hg6, ho6, hF6, -, -⟩
    have HJ6 := Lib.hid hg6
    have HO6 := Lib.hid ho6
    have HG6 : Hid (G3 w6 va its) := HG5.out.fr hF6 (fun _ _ => by simp) (fun _ _ _ _ => by simp)
    have HE6 := Lib.hid (HE5.out.trans hF6)
    have hjl : jts.length = il := by
      have h1 : jts.length = os'.length := by rw [← ho6]; simp [obsOf]
      rw [h1, HST.out.len, HILN.out, HIL.out]
    have HIX : Hid (∀ (x : Nat) (o : It), its[x]? = some o → os[x]? = some o.key) := Lib.hid fun x o hx => by rw [← HO3.out]; simp [obsOf, hx]
    have HJX : Hid (∀ (x : Nat) (o : It), jts[x]? = some o → os'[x]? = some o.key) := Lib.hid fun x o hx => by rw [← HO6.out]; simp [obsOf, hx]
    have HJL := Lib.hid hjl
    rw [hjl]
    clear hg6 ho6 hF6 hd2 hjl
    -- the object that was written
    obtain ⟨pi, hpi⟩ : ∃ pi, its[i]? = some pi := ⟨_, List.getElem?_eq_getElem (by rw [← HILN.out]; exact hi)⟩
    obtain ⟨gv, ov, fa, fc, rfl, cvi, -⟩ := HG6.out.at hpi
    have hre : (re = 0 ∧ 0 ≤ a3 ∧ a3 < pi.fs.length) ∨ (re = 1 ∧ (a3 < 0 ∨ (pi.fs.length : Int) ≤ a3)) := by
      obtain ⟨o, ho, ⟨h1, h2, h3, -⟩ | ⟨h1, h2, -⟩⟩ := HST.out
      · rw [HIX.out i pi hpi] at ho
        cases ho
        exact .inl ⟨h3, h1, h2⟩
      · rw [HIX.out i pi hpi] at ho
        cases ho
        exact .inr ⟨h2, h1⟩
    clear hpi
    generalize pi.fs.length = pz at *
    rcases hre with ⟨rfl, hk0, hk1⟩ | ⟨rfl, hk0 | hk0⟩
    · go_wp2
      go_loop [19, 20, 21] (fun x _ _ => ∃ q : Nat, q ≤ il ∧ x = .int .i64 q) (fun x _ _ => il - (intOf x).toNat)
      case atStart => exact ⟨0, Nat.zero_le _, rfl⟩
      case round =>
        obtain ⟨q, hq, rfl⟩ := hrel
        by_cases hql : q < il
        · obtain ⟨po, hpo⟩ : ∃ po, its[q]? = some po := ⟨_, List.getElem?_eq_getElem (by rw [← HILN.out]; exact hql)⟩
          obtain ⟨jo, hjo⟩ : ∃ jo, jts[q]? = some jo := ⟨_, List.getElem?_eq_getElem (by rw [HJL.out]; exact hql)⟩
          obtain ⟨_, _, fa1, fc1, eg1, m1, wd1⟩ := HG6.out.at hpo
          cases eg1
          obtain ⟨g2, o2, fa2, fc2, rfl, m2, wd2⟩ := HJ6.out.at hjo
          have hfld := fun y => HST.out.field (y := y) (HIX.out q po hpo) (HJX.out q jo hjo)
          have hfl : jo.fs.length = po.fs.length := (hfld 0).1
          have HFD : Hid (∀ t : Nat, t < po.fs.length → jo.fs[t]? = if q = i ∧ (t : Int) = a3 then some v else po.fs[t]?) := Lib.hid fun t ht => by have := (hfld t).2 ht; simp only [true_and] at this; exact this
          have hsz := (HJ6.out.own jo (List.mem_of_getElem? hjo)).2
          rw [hfl] at m2 hsz
          obtain ⟨z, hze⟩ : ∃ z, z = po.fs.length := ⟨_, rfl⟩
          rw [← hze] at m1 m2 hsz
          have HZ := Lib.hid hze
          have HW1 := Lib.hid wd1
          have HW2 := Lib.hid wd2
          have q0 : (0 : Int) ≤ (q : Int) := by omega
          have q1 : (q : Int) < (il : Int) := by omega
          have HFL := Lib.hid hfl
          clear hfld hfl hze wd1 wd2 hpo hjo
          go_wp2
          go_loop [20, 21] (fun y _ => ∃ t : Nat, t ≤ z ∧ y = .int .i64 t) (fun y _ => z - (intOf y).toNat)
          case atStart => exact ⟨0, Nat.zero_le _, rfl⟩
          case round =>
            obtain ⟨t, ht, rfl⟩ := hrel
            by_cases htz : t < z
            · have htp : t < po.fs.length := by rw [← HZ.out]; exact htz
              obtain ⟨pv, hpv⟩ : ∃ pv, po.fs[t]? = some pv := ⟨_, List.getElem?_eq_getElem htp⟩
              obtain ⟨jv, hjvt⟩ : ∃ jv, jo.fs[t]? = some jv := ⟨_, List.getElem?_eq_getElem (by rw [HFL.out]; exact htp)⟩
              obtain ⟨x1, y1, rfl, n1⟩ := HW1.out t pv hpv
              obtain ⟨x2, y2, rfl, n2⟩ := HW2.out t jv hjvt
              have hjv : jv = if q = i ∧ (t : Int) = a3 then v else pv := by
                have := HFD.out t htp
                rw [hjvt, hpv] at this
                split at this
                · rename_i h; rw [if_pos h]; exact Option.some.inj this
                · rename_i h; rw [if_neg h]; exact Option.some.inj this
              have t0 : (0 : Int) ≤ (t : Int) := by omega
              have t1 : (t : Int) < (z : Int) := by omega
              clear hpv hjvt htp
              by_cases hxi : q = i
              · by_cases hyk : (t : Int) = a3
                · have hjv2 : jv = v := by rw [hjv, if_pos ⟨hxi, hyk⟩]
                  subst hjv2
                  subst hxi
                  have d1 : ((t : Int) == a3) = true := by simpa using hyk
                  have d2 : decide ((t : Int) = a3) = true := by simpa using hyk
                  clear hjv hyk
                  go_wp2
                  go_round
                  case rel => exact ⟨t + 1, by omega, by go_num⟩
                  case measure => simp [intOf]; omega
                · have hjv2 : jv = pv := by rw [hjv, if_neg (fun h => hyk h.2)]
                  subst hjv2
                  subst hxi
                  have d1 : ((t : Int) == a3) = false := by simpa using hyk
                  have d2 : decide ((t : Int) = a3) = false := by simpa using hyk
                  clear hjv hyk
                  go_wp2
                  go_round
                  case rel => exact ⟨t + 1, by omega, by go_num⟩
                  case measure => simp [intOf]; omega
              · have hjv2 : jv = pv := by rw [hjv, if_neg (fun h => hxi h.1)]
                subst hjv2
                have d1 : ((q : Int) == (i : Int)) = false := by simp; omega
                have d2 : decide ((q : Int) = (i : Int)) = false := by simp; omega
                have d3 : decide (q = i) = false := by simpa using hxi
                have d4 : (q == i) = false := by simpa using hxi
                clear hjv
                go_wp2
                go_round
                case rel => exact ⟨t + 1, by omega, by go_num⟩
                case measure => simp [intOf]; omega
            · have htd : decide (t < z) = false := by simp; omega
              go_wp2
              go_round
              case rel => exact ⟨q + 1, by omega, by go_num⟩
              case measure => simp [intOf]; omega
        · have hqd : decide (q < il) = false := by simp; omega
          go_wp2
          go_ret
          exact ⟨rfl, HE6.out⟩
    · go_wp2
      go_loop [19, 20, 21] (fun x _ _ => ∃ q : Nat, q ≤ il ∧ x = .int .i64 q) (fun x _ _ => il - (intOf x).toNat)
      case atStart => exact ⟨0, Nat.zero_le _, rfl⟩
      case round =>
        obtain ⟨q, hq, rfl⟩ := hrel
        by_cases hql : q < il
        · obtain ⟨po, hpo⟩ : ∃ po, its[q]? = some po := ⟨_, List.getElem?_eq_getElem (by rw [← HILN.out]; exact hql)⟩
          obtain ⟨jo, hjo⟩ : ∃ jo, jts[q]? = some jo := ⟨_, List.getElem?_eq_getElem (by rw [HJL.out]; exact hql)⟩
          obtain ⟨_, _, fa1, fc1, eg1, m1, wd1⟩ := HG6.out.at hpo
          cases eg1
          obtain ⟨g2, o2, fa2, fc2, rfl, m2, wd2⟩ := HJ6.out.at hjo
          have hfld := fun y => HST.out.field (y := y) (HIX.out q po hpo) (HJX.out q jo hjo)
          have hfl : jo.fs.length = po.fs.length := (hfld 0).1
          have HFD : Hid (∀ t : Nat, t < po.fs.length → jo.fs[t]? = po.fs[t]?) := Lib.hid fun t ht => by have := (hfld t).2 ht; simp only [Int.reduceEq, false_and, if_false] at this; exact this
          have hsz := (HJ6.out.own jo (List.mem_of_getElem? hjo)).2
          rw [hfl] at m2 hsz
          obtain ⟨z, hze⟩ : ∃ z, z = po.fs.length := ⟨_, rfl⟩
          rw [← hze] at m1 m2 hsz
          have HZ := Lib.hid hze
          have HW1 := Lib.hid wd1
          have HW2 := Lib.hid wd2
          have q0 : (0 : Int) ≤ (q : Int) := by omega
          have q1 : (q : Int) < (il : Int) := by omega
          have HFL := Lib.hid hfl
          clear hfld hfl hze wd1 wd2 hpo hjo
          go_wp2
          go_loop [20, 21] (fun y _ => ∃ t : Nat, t ≤ z ∧ y = .int .i64 t) (fun y _ => z - (intOf y).toNat)
          case atStart => exact ⟨0, Nat.zero_le _, rfl⟩
          case round =>
            obtain ⟨t, ht, rfl⟩ := hrel
            by_cases htz : t < z
            · have htp : t < po.fs.length := by rw [← HZ.out]; exact htz
              obtain ⟨pv, hpv⟩ : ∃ pv, po.fs[t]? = some pv := ⟨_, List.getElem?_eq_getElem htp⟩
              obtain ⟨jv, hjvt⟩ : ∃ jv, jo.fs[t]? = some jv := ⟨_, List.getElem?_eq_getElem (by rw [HFL.out]; exact htp)⟩
              obtain ⟨x1, y1, rfl, n1⟩ := HW1.out t pv hpv
              obtain ⟨x2, y2, rfl, n2⟩ := HW2.out t jv hjvt
              have hjv : jv = pv := by
                have := HFD.out t htp
                rw [hjvt, hpv] at this
                exact Option.some.inj this
              have t0 : (0 : Int) ≤ (t : Int) := by omega
              have t1 : (t : Int) < (z : Int) := by omega
              clear hpv hjvt htp
              have hjv2 : jv = pv := hjv
              subst hjv2
              clear hjv
              go_wp2
              go_round
              case rel => exact ⟨t + 1, by omega, by go_num⟩
              case measure => simp [intOf]; omega
            · have htd : decide (t < z) = false := by simp; omega
              go_wp2
              go_round
              case rel => exact ⟨q + 1, by omega, by go_num⟩
              case measure => simp [intOf]; omega
        · have hqd : decide (q < il) = false := by simp; omega
          go_wp2
          go_ret
          exact ⟨rfl, HE6.out⟩
    · have hnn : 0 ≤ a3 := by omega
      go_wp2
      go_loop [19, 20, 21] (fun x _ _ => ∃ q : Nat, q ≤ il ∧ x = .int .i64 q) (fun x _ _ => il - (intOf x).toNat)
      case atStart => exact ⟨0, Nat.zero_le _, rfl⟩
      case round =>
        obtain ⟨q, hq, rfl⟩ := hrel
        by_cases hql : q < il
        · obtain ⟨po, hpo⟩ : ∃ po, its[q]? = some po := ⟨_, List.getElem?_eq_getElem (by rw [← HILN.out]; exact hql)⟩
          obtain ⟨jo, hjo⟩ : ∃ jo, jts[q]? = some jo := ⟨_, List.getElem?_eq_getElem (by rw [HJL.out]; exact hql)⟩
          obtain ⟨_, _, fa1, fc1, eg1, m1, wd1⟩ := HG6.out.at hpo
          cases eg1
          obtain ⟨g2, o2, fa2, fc2, rfl, m2, wd2⟩ := HJ6.out.at hjo
          have hfld := fun y => HST.out.field (y := y) (HIX.out q po hpo) (HJX.out q jo hjo)
          have hfl : jo.fs.length = po.fs.length := (hfld 0).1
          have HFD : Hid (∀ t : Nat, t < po.fs.length → jo.fs[t]? = po.fs[t]?) := Lib.hid fun t ht => by have := (hfld t).2 ht; simp only [Int.reduceEq, false_and, if_false] at this; exact this
          have hsz := (HJ6.out.own jo (List.mem_of_getElem? hjo)).2
          rw [hfl] at m2 hsz
          obtain ⟨z, hze⟩ : ∃ z, z = po.fs.length := ⟨_, rfl⟩
          rw [← hze] at m1 m2 hsz
          have HZ := Lib.hid hze
          have HW1 := Lib.hid wd1
          have HW2 := Lib.hid wd2
          have q0 : (0 : Int) ≤ (q : Int) := by omega
          have q1 : (q : Int) < (il : Int) := by omega
          have HFL := Lib.hid hfl
          clear hfld hfl hze wd1 wd2 hpo hjo
          go_wp2
          go_loop [20, 21] (fun y _ => ∃ t : Nat, t ≤ z ∧ y = .int .i64 t) (fun y _ => z - (intOf y).toNat)
          case atStart => exact ⟨0, Nat.zero_le _, rfl⟩
          case round =>
            obtain ⟨t, ht, rfl⟩ := hrel
            by_cases htz : t < z
            · have htp : t < po.fs.length := by rw [← HZ.out]; exact htz
              obtain ⟨pv, hpv⟩ : ∃ pv, po.fs[t]? = some pv := ⟨_, List.getElem?_eq_getElem htp⟩
              obtain ⟨jv, hjvt⟩ : ∃ jv, jo.fs[t]? = some jv := ⟨_, List.getElem?_eq_getElem (by rw [HFL.out]; exact htp)⟩
              obtain ⟨x1, y1, rfl, n1⟩ := HW1.out t pv hpv
              obtain ⟨x2, y2, rfl, n2⟩ := HW2.out t jv hjvt
              have hjv : jv = pv := by
                have := HFD.out t htp
                rw [hjvt, hpv] at this
                exact Option.some.inj this
              have t0 : (0 : Int) ≤ (t : Int) := by omega
              have t1 : (t : Int) < (z : Int) := by omega
              clear hpv hjvt htp
              have hjv2 : jv = pv := hjv
              subst hjv2
              clear hjv
              go_wp2
              go_round
              case rel => exact ⟨t + 1, by omega, by go_num⟩
              case measure => simp [intOf]; omega
            · have htd : decide (t < z) = false := by simp; omega
              go_wp2
              go_round
              case rel => exact ⟨q + 1, by omega, by go_num⟩
              case measure => simp [intOf]; omega
        · have hqd : decide (q < il) = false := by simp; omega
          go_wp2
          go_ret
          exact ⟨rfl, HE6.out⟩
  · have h0 : il = 0 := by omega
    subst h0
    have HE : Hid (Fr [] w w4) := HF.out.trans (HF2.out.trans (HF3.out.trans HF4.out))
    clear hz hilo
    go_wp2
    go_ret
    exact ⟨rfl, HE.out⟩
end Go.Proofs.YtjnccpeeeiafjaaGreatDoor
