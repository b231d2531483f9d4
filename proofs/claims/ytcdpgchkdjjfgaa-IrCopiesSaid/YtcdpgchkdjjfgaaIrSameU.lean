/- ir: the document's Same, at a unit and itself in other places. -/
import Derived.Test.YtcdpgchkdjjfgaaIrErr
import Derived.Test.YtcdpgchkdjjfgaaIrSame
import Derived.Deep.RegionHeld3
namespace Go.Proofs.Ytcdpgchkdjjfgaa
open Go.RowKit

set_option maxRecDepth 100000 in
set_option maxHeartbeats 4000000 in
theorem sameCode_yes {w : World} {a b : Option Addr} {ac bc : Nat} (l m : List Ii) (ha : InsAt w a l) (hb : InsAt w b m) (h : m.map Ii.er = l.map Ii.er) (hI : ∀ i ∈ l, i.l.length ≤ 5864062014805) (hl : l.length ≤ 5864062014805) :
    Calls Try.prog 38 #[.slice a l.length ac, .slice b m.length bc] w (Still (.bool true) w) := by
  rw [er_len h]
  obtain ⟨n, hn⟩ : ∃ n, n = l.length := ⟨_, rfl⟩
  rw [← hn]
  rw [← hn] at hl
  have HA := Lib.hid ha
  have HB := Lib.hid hb
  have HN := Lib.hid hn
  have HE := Lib.hid h
  have HI := Lib.hid hI
  clear ha hb hn h hI
  go_enter Try.func38, Try.ntmps38
  go_wp2
  go_loopw [5] (fun i wr => ∃ k : Nat, k ≤ n ∧ i = .int .i64 k ∧ Hid (Fr [] w wr)) (fun i _ => n - (intOf i).toNat)
  case atStart => exact ⟨0, Nat.zero_le _, rfl, Fr.refl _ _⟩
  case round =>
    obtain ⟨k, hk, rfl, HF⟩ := hrel
    by_cases hlt : k < n
    · obtain ⟨i, hi⟩ : ∃ i, l[k]? = some i := ⟨_, List.getElem?_eq_getElem (by rw [← HN.out]; exact hlt)⟩
      obtain ⟨j, hj, he⟩ := er_at HE.out hi
      obtain ⟨⟨g, o, rfl, c0, c1, c2, c3, c4, c5, c6⟩, hs1⟩ := (HA.out.fr HF.out) k i hi
      obtain ⟨⟨g2, o2, rfl, d0, d1, d2, d3, d4, d5, d6⟩, hs2⟩ := (HB.out.fr HF.out) k j hj
      obtain ⟨e1, e2, e3, e4, e5⟩ := er_fields he
      rw [e1] at d0
      rw [e2] at d1
      rw [e3] at d2 d3 d4
      rw [e4] at d5 hs2
      rw [e5] at d6
      have hil := HI.out i (List.mem_of_getElem? hi)
      have HSS : Hid (∀ W, Fr [] wr W → Calls Try.prog 18 #[.slice i.la i.l.length i.lc, .slice j.la i.l.length j.lc] W (Still (.bool true) W)) := Lib.hid fun W hF => by
        have h9 := sameSrcs i.l i.l (ac := i.lc) (bc := j.lc) (hs1.fr hF) (hs2.fr hF) hil
        rwa [decide_eq_true rfl] at h9
      have hg1 : g < wr.heap.size := World.block_lt_of_cell? wr _ c0
      have hg2 : g2 < wr.heap.size := World.block_lt_of_cell? wr _ d0
      have k0 : (0 : Int) ≤ (k : Int) := by omega
      have k1 : (k : Int) < (n : Int) := by omega
      clear hi hj he hs1 hs2 e1 e2 e3 e4 e5 hil
      obtain ⟨op, nn, ⟨dk, dn, dw⟩, la, lw, lc, x⟩ := i
      obtain ⟨jop, jn, jd, jla, jl, jlc, jx⟩ := j
      simp only at c0 c1 c2 c3 c4 c5 c6 d0 d1 d2 d3 d4 d5 d6 HSS
      generalize lw.length = lwn at *
      go_wp2_with (go_at_call 18; refine (HSS.out _ (((Fr.refl [] wr).alloc _).alloc _)).mono ?_; rintro e w2 ⟨rfl, hF⟩; have HF2 : Hid (Fr [] wr w2) := Lib.hid ((((Fr.refl [] wr).alloc _).alloc _).trans hF); clear hF)
      go_roundw
      case rel => exact ⟨k + 1, by omega, by go_num, HF.out.trans HF2.out⟩
      case measure => simp [intOf]; omega
    · have hkd : ¬ (k : Int) < (n : Int) := by omega
      go_wp2
      go_ret
      exact ⟨rfl, HF.out⟩
set_option maxRecDepth 100000 in
set_option maxHeartbeats 8000000 in
theorem same_yes (u v : Un) (w : World) (h : SameU u v) (hA : UAt w u) (hC : UAt w v) (hB : UB u) : Calls Try.prog 24 #[u.v, v.v] w (Still (.bool true) w) := by
  have h1 : Hid (∀ W, Fr [] w W → Calls Try.prog 38 #[.slice u.ca u.code.length u.cc, .slice v.ca v.code.length v.cc] W (Still (.bool true) W)) := Lib.hid fun W hF => sameCode_yes u.code v.code (hA.code.fr hF) (hC.code.fr hF) h.code (fun i hi => (hB.code i hi).n) hB.cn
  have h2 : Hid (∀ W, Fr [] w W → Calls Try.prog 38 #[.slice u.ea u.enter.length u.ec, .slice v.ea v.enter.length v.ec] W (Still (.bool true) W)) := Lib.hid fun W hF => sameCode_yes u.enter v.enter (hA.enter.fr hF) (hC.enter.fr hF) h.enter (fun i hi => (hB.enter i hi).n) hB.en
  have HAS := Lib.hid hA.starts
  have HCS := Lib.hid hC.starts
  have HAM := Lib.hid hA.maps
  have HCM := Lib.hid hC.maps
  have HBM := Lib.hid hB.maps
  have HMM := Lib.hid h.maps
  have hml := maps_len h
  have hsn := hB.sn
  have hmn := hB.mn
  obtain ⟨e0, e1, e2, e3, e4, e5, -, -, e8, -⟩ := h
  obtain ⟨method, args, T, R, P, S, ea, en, ec, ca, co, cc, sa, st, sc, ma, mp, mc⟩ := u
  obtain ⟨vm, va, vt, vr, vp, vs, vea, ven, vec, vca, vco, vcc, vsa, vst, vsc, vma, vmp, vmc⟩ := v
  simp only at e0 e1 e2 e3 e4 e5 e8 h1 h2 HAS HCS HAM HCM HBM HMM hml hsn hmn
  subst e0 e1 e2 e3 e4 e5 e8
  unfold Un.v
  simp only [hml] at h1 h2 ⊢
  clear hA hC hB
  obtain ⟨sl, hsl⟩ : ∃ z, z = vst.length := ⟨_, rfl⟩
  obtain ⟨ml, hmm⟩ : ∃ z, z = mp.length := ⟨_, rfl⟩
  rw [← hsl] at hsn
  rw [← hmm] at hmn hml
  simp only [← hsl, ← hmm]
  generalize en.length = el at *
  generalize ven.length = vel at *
  generalize co.length = cl at *
  generalize vco.length = vcl at *
  have HSL := Lib.hid hsl
  have HML := Lib.hid hmm
  clear hsl hmm hml
  go_enter Try.func24, Try.ntmps24
  go_wp2_with (first
    | (go_at_call 38; (with_reducible refine (h1.out _ (((Fr.refl [] w).alloc _).alloc _)).mono ?_); rintro e w1 ⟨rfl, hF⟩; have HF1 : Hid (Fr [] w w1) := Lib.hid ((((Fr.refl [] w).alloc _).alloc _).trans hF); have HB1 := Lib.hid (hF.heap (by simp) (hp1 w _ _)); have HC1 := Lib.hid (hF.heap (by simp) (hp2 w _ _)); have b0 := cell_of_heap (o := 0) HB1.out rfl; have b1 := cell_of_heap (o := 1) HB1.out rfl; have b2 := cell_of_heap (o := 2) HB1.out rfl; have b3 := cell_of_heap (o := 3) HB1.out rfl; have b4 := cell_of_heap (o := 4) HB1.out rfl; have b5 := cell_of_heap (o := 5) HB1.out rfl; have b6 := cell_of_heap (o := 6) HB1.out rfl; have b7 := cell_of_heap (o := 7) HB1.out rfl; have b8 := cell_of_heap (o := 8) HB1.out rfl; have b9 := cell_of_heap (o := 9) HB1.out rfl; have c0 := cell_of_heap (o := 0) HC1.out rfl; have c1 := cell_of_heap (o := 1) HC1.out rfl; have c2 := cell_of_heap (o := 2) HC1.out rfl; have c3 := cell_of_heap (o := 3) HC1.out rfl; have c4 := cell_of_heap (o := 4) HC1.out rfl; have c5 := cell_of_heap (o := 5) HC1.out rfl; have c6 := cell_of_heap (o := 6) HC1.out rfl; have c7 := cell_of_heap (o := 7) HC1.out rfl; have c8 := cell_of_heap (o := 8) HC1.out rfl; have c9 := cell_of_heap (o := 9) HC1.out rfl; have hz1 := lt_of_heap HC1.out; clear hF)
    | (go_at_call 38; (with_reducible refine (h2.out _ HF1.out).mono ?_); rintro e w2 ⟨rfl, hF⟩; have HF2 : Hid (Fr [] w w2) := Lib.hid (HF1.out.trans hF); have HB2 := Lib.hid (hF.heap (by simp) HB1.out); have HC2 := Lib.hid (hF.heap (by simp) HC1.out); clear hF b0 b1 b2 b3 b4 b5 b6 b7 b8 b9 c0 c1 c2 c3 c4 c5 c6 c7 c8 c9 hz1))
  clear h1 h2 HB1 HC1
  go_loopw [5] (fun i wr => ∃ k : Nat, k ≤ sl ∧ i = .int .i64 k ∧ Hid (Fr [] w2 wr)) (fun i _ => sl - (intOf i).toNat)
  case atStart => exact ⟨0, Nat.zero_le _, rfl, Fr.refl _ _⟩
  case round =>
    obtain ⟨k, hk, rfl, HF⟩ := hrel
    have HB := Lib.hid (HF.out.heap (by simp) HB2.out)
    have HC := Lib.hid (HF.out.heap (by simp) HC2.out)
    have b0 := cell_of_heap (o := 0) HB.out rfl; have b1 := cell_of_heap (o := 1) HB.out rfl; have b2 := cell_of_heap (o := 2) HB.out rfl; have b3 := cell_of_heap (o := 3) HB.out rfl; have b4 := cell_of_heap (o := 4) HB.out rfl; have b5 := cell_of_heap (o := 5) HB.out rfl; have b6 := cell_of_heap (o := 6) HB.out rfl; have b7 := cell_of_heap (o := 7) HB.out rfl; have b8 := cell_of_heap (o := 8) HB.out rfl; have b9 := cell_of_heap (o := 9) HB.out rfl
    have c0 := cell_of_heap (o := 0) HC.out rfl; have c1 := cell_of_heap (o := 1) HC.out rfl; have c2 := cell_of_heap (o := 2) HC.out rfl; have c3 := cell_of_heap (o := 3) HC.out rfl; have c4 := cell_of_heap (o := 4) HC.out rfl; have c5 := cell_of_heap (o := 5) HC.out rfl; have c6 := cell_of_heap (o := 6) HC.out rfl; have c7 := cell_of_heap (o := 7) HC.out rfl; have c8 := cell_of_heap (o := 8) HC.out rfl; have c9 := cell_of_heap (o := 9) HC.out rfl
    have hz := lt_of_heap HC.out
    have hz0 := lt_of_heap HB.out
    by_cases hlt : k < sl
    · obtain ⟨x, hx⟩ : ∃ x, vst[k]? = some x := ⟨_, List.getElem?_eq_getElem (by rw [← HSL.out]; exact hlt)⟩
      obtain ⟨g, o, rfl, p0⟩ := (HAS.out.fr (HF2.out.trans HF.out)) k x hx
      obtain ⟨g2, o2, rfl, q0⟩ := (HCS.out.fr (HF2.out.trans HF.out)) k x hx
      have hg1 : g < wr.heap.size := World.block_lt_of_cell? wr _ p0
      have hg2 : g2 < wr.heap.size := World.block_lt_of_cell? wr _ q0
      have k0 : (0 : Int) ≤ (k : Int) := by omega
      have k1 : (k : Int) < (sl : Int) := by omega
      clear hx
      go_wp2_with fail
      go_quiet (fail)
      go_wp2_with fail
      go_roundw
      case rel => exact ⟨k + 1, by omega, by go_num, HF.out.drewN _⟩
      case measure => simp [intOf]; omega
    · have hkd : ¬ (k : Int) < (sl : Int) := by omega
      clear hlt
      go_wp2_with fail
      clear b0 b1 b2 b3 b4 b5 b6 b7 b8 b9 c0 c1 c2 c3 c4 c5 c6 c7 c8 c9 hz hz0 hkd HB HC
      have HFO := HF
      clear HF
      go_loopw [6] (fun i wr => ∃ k : Nat, k ≤ ml ∧ i = .int .i64 k ∧ Hid (Fr [] w2 wr)) (fun i _ => ml - (intOf i).toNat)
      case atStart => exact ⟨0, Nat.zero_le _, rfl, HFO⟩
      case round =>
        clear HFO
        obtain ⟨k, hk, rfl, HF⟩ := hrel
        have HB := Lib.hid (HF.out.heap (by simp) HB2.out)
        have HC := Lib.hid (HF.out.heap (by simp) HC2.out)
        have b0 := cell_of_heap (o := 0) HB.out rfl; have b1 := cell_of_heap (o := 1) HB.out rfl; have b2 := cell_of_heap (o := 2) HB.out rfl; have b3 := cell_of_heap (o := 3) HB.out rfl; have b4 := cell_of_heap (o := 4) HB.out rfl; have b5 := cell_of_heap (o := 5) HB.out rfl; have b6 := cell_of_heap (o := 6) HB.out rfl; have b7 := cell_of_heap (o := 7) HB.out rfl; have b8 := cell_of_heap (o := 8) HB.out rfl; have b9 := cell_of_heap (o := 9) HB.out rfl
        have c0 := cell_of_heap (o := 0) HC.out rfl; have c1 := cell_of_heap (o := 1) HC.out rfl; have c2 := cell_of_heap (o := 2) HC.out rfl; have c3 := cell_of_heap (o := 3) HC.out rfl; have c4 := cell_of_heap (o := 4) HC.out rfl; have c5 := cell_of_heap (o := 5) HC.out rfl; have c6 := cell_of_heap (o := 6) HC.out rfl; have c7 := cell_of_heap (o := 7) HC.out rfl; have c8 := cell_of_heap (o := 8) HC.out rfl; have c9 := cell_of_heap (o := 9) HC.out rfl
        have hz := lt_of_heap HC.out
        have hz0 := lt_of_heap HB.out
        by_cases hlt : k < ml
        · obtain ⟨m, hm⟩ : ∃ x, mp[k]? = some x := ⟨_, List.getElem?_eq_getElem (by rw [← HML.out]; exact hlt)⟩
          obtain ⟨m2, hm2, hme⟩ : ∃ x, vmp[k]? = some x ∧ x.l = m.l := by
            have h9 : (vmp.map Mp.l)[k]? = (mp.map Mp.l)[k]? := by rw [HMM.out]
            rw [List.getElem?_map, List.getElem?_map, hm] at h9
            cases hv : vmp[k]? with
            | none => rw [hv] at h9; cases h9
            | some b => rw [hv] at h9; exact ⟨b, rfl, by simpa using h9⟩
          obtain ⟨⟨g, o, rfl, p0⟩, hs1⟩ := (HAM.out.fr (HF2.out.trans HF.out)) k m hm
          obtain ⟨⟨g2, o2, rfl, q0⟩, hs2⟩ := (HCM.out.fr (HF2.out.trans HF.out)) k m2 hm2
          rw [hme] at q0 hs2
          have hmb := (HBM.out m (List.mem_of_getElem? hm)).1
          have HSS : Hid (∀ W, Fr [] wr W → Calls Try.prog 18 #[.slice m.a m.l.length m.c, .slice m2.a m.l.length m2.c] W (Still (.bool true) W)) := Lib.hid fun W hF => by
            have h9 := sameSrcs m.l m.l (ac := m.c) (bc := m2.c) (hs1.fr hF) (hs2.fr hF) hmb
            rwa [decide_eq_true rfl] at h9
          have hg1 : g < wr.heap.size := World.block_lt_of_cell? wr _ p0
          have hg2 : g2 < wr.heap.size := World.block_lt_of_cell? wr _ q0
          have k0 : (0 : Int) ≤ (k : Int) := by omega
          have k1 : (k : Int) < (ml : Int) := by omega
          clear hm hm2 hme hs1 hs2 hmb hlt
          obtain ⟨a1, l1, c1'⟩ := m
          obtain ⟨a2, l2, c2'⟩ := m2
          simp only at p0 q0 HSS
          generalize l1.length = lwn at *
          go_wp2_with fail
          go_region_held3 (fun w' => w'.cell? ⟨w.heap.size, 9, none⟩ = some (.slice (some ⟨g, o, none⟩) ml mc) ∧ w'.cell? ⟨w.heap.size + 1, 9, none⟩ = some (.slice (some ⟨g2, o2, none⟩) ml vmc) ∧ w'.cell? ⟨g, o + k, none⟩ = some (.slice a1 lwn c1') ∧ w'.cell? ⟨g2, o2 + k, none⟩ = some (.slice a2 lwn c2'))
            (first | exact ⟨HF3.out.cell (by simp) b9, HF3.out.cell (by simp) c9, HF3.out.cell (by simp) p0, HF3.out.cell (by simp) q0⟩ | go_keep)
            ((go_at_call 18; refine (HSS.out _ (Fr.refl [] wr).drew).mono ?_; rintro e w3 ⟨rfl, hF⟩; have HF3 : Hid (Fr [] wr w3) := Lib.hid ((Fr.refl [] wr).drew.trans hF); clear hF))
          go_wp2_with fail
          go_roundw
          case rel => exact ⟨k + 1, by omega, by go_num, HF.out.trans HF3.out⟩
          case measure => simp [intOf]; omega
        · have hkd : ¬ (k : Int) < (ml : Int) := by omega
          clear hlt
          go_wp2_with fail
          go_ret
          exact ⟨rfl, HF2.out.trans HF.out⟩
end Go.Proofs.Ytcdpgchkdjjfgaa
