/- HeapHashes, walked. -/
import Derived.Test.YtjnccpeeeiafjaaGreatDoorMHash3
import Derived.Test.YtjnccpeeeiafjaaGreatDoorMAwake
namespace Go.Proofs.YtjnccpeeeiafjaaGreatDoor
open Go.RowKit

/-- a place in a list, out of a number -/
theorem pick_at {xs : List Int} (hx : 0 < xs.length) (a : Int) : ∃ i, i < xs.length ∧ (bits .and .i64 a 65535).tmod (xs.length : Int) = (i : Int) := by
  obtain ⟨h1, h2⟩ := and_mask a 65535 (by omega)
  have h2' : bits .and .i64 a 65535 ≤ 65535 := h2
  obtain ⟨k, hk⟩ : ∃ k : Nat, bits .and .i64 a 65535 = k := ⟨(bits .and .i64 a 65535).toNat, by have : 0 ≤ bits .and .i64 a 65535 := h1; omega⟩
  refine ⟨k % xs.length, Nat.mod_lt _ hx, ?_⟩
  rw [hk, Int.tmod_eq_emod_of_nonneg (by omega)]
  rfl
set_option maxRecDepth 100000 in
set_option maxHeartbeats 4000000 in
theorem heapHashes_walk (a0 : Int) {ao : Option Addr} {len cap : Nat} (a2 a3 : Int) (w : World) (hg : Glob w) (hO : OpsAt w ao len) :
    Calls Tryz.prog 5 #[.int .i64 a0, .slice ao len cap, .int .i64 a2, .int .i64 a3] w (Still (.bool true) w) := by
  have hA := awake_still w hg
  have HG := Lib.hid hg
  have HO := Lib.hid hO
  clear hg hO
  go_enter Tryz.func5, Tryz.ntmps5
  go_wp2_with fail
  refine hA.mono ?_
  rintro e w1 ⟨rfl, hF⟩
  have HF := Lib.hid hF
  have HG1 := Lib.hid (HG.out.fr hF)
  obtain ⟨lim, hl1, hl2, hmd⟩ := made_makes (cap := cap) a0 HG1.out (HO.out.fr0 hF)
  clear hF hA
  go_wp2_with fail
  refine hmd.mono ?_
  rintro e w2 ⟨hb, mb, rb, rfl, hP⟩
  obtain ⟨os, root, hashes, hI, hL⟩ := pair_live hP
  have hob := objects_at hI hL
  have HI := Lib.hid hI
  clear hP hmd hL
  go_wp2_with fail
  refine hob.mono ?_
  rintro e w3 ⟨lo, lc, rfl, hwd, -, -, hL3⟩
  have HL3 := Lib.hid hL3
  have HWD := Lib.hid hwd
  have hlen : (refsO os).length ≤ 65536 := by
    rw [refsO_len]
    have h1 := len_end os
    have h2 := hI.fit
    omega
  clear hob hI hwd
  by_cases hz : 0 < (refsO os).length
  · obtain ⟨i, hi, hmi⟩ := pick_at hz a2
    obtain ⟨j, hj, hmj⟩ := pick_at hz a3
    have hio : i < os.length := by rw [← refsO_len]; exact hi
    have hjo : j < os.length := by rw [← refsO_len]; exact hj
    obtain ⟨g, oo, rfl, ci⟩ := HWD.out i _ (refsO_at hio)
    obtain ⟨_, _, eg, cj⟩ := HWD.out j _ (refsO_at hjo)
    cases eg
    have hhs : Hid (∀ W os' hs', Live w1 hb mb (absMem lim os' root hs') W → Calls Tryz.prog 19 #[.pointer (some ⟨hb, 0, none⟩)] W (LStill (.int .i64 hs') w1 hb mb (absMem lim os' root hs'))) := Lib.hid fun W os' hs' hL => live_of_still hL fun _ _ hO => hashes_still hO
    have HIO := Lib.hid hio
    have HJO := Lib.hid hjo
    have hc1 := hhs.out _ _ _ hL3
    generalize (refsO os).length = n at *
    have i0 : (0 : Int) ≤ (i : Int) := by omega
    have j0 : (0 : Int) ≤ (j : Int) := by omega
    have HEQ : Hid ((2 * (endOf (os.take i) : Int) = 2 * (endOf (os.take j) : Int)) ↔ i = j) := by
      refine Lib.hid ⟨fun he => ?_, fun he => by rw [he]⟩
      exact end_take_inj HIO.out HJO.out (by omega)
    clear hL3
    obtain ⟨x, hx⟩ : ∃ x, x = 2 * (endOf (os.take i) : Int) := ⟨_, rfl⟩
    obtain ⟨y, hy⟩ : ∃ y, y = 2 * (endOf (os.take j) : Int) := ⟨_, rfl⟩
    rw [← hx] at ci HEQ
    rw [← hy] at cj HEQ
    have HX := Lib.hid hx
    have HY := Lib.hid hy
    clear hx hy hio hjo HWD
    have hbef := HI.out.h0
    have hbef1 := HI.out.h1
    go_wp2_with fail
    refine hc1.mono ?_
    rintro e w4 ⟨rfl, hL4⟩
    have hs1 := hash_at HG1.out HI.out hL4 HIO.out
    rw [← HX.out] at hs1
    clear hL4 hc1
    go_wp2_with fail
    refine hs1.mono ?_
    rintro e w5 ⟨b1, e1, os1, n1, rfl, hH1, hI1, hL5⟩
    have hs2 := hash_at HG1.out hI1 hL5 (i := j) (by rw [hH1.len]; exact HJO.out)
    rw [hH1.pos, ← HY.out] at hs2
    have H1 := Lib.hid hH1
    clear hH1 hI1 hL5 hs1
    go_wp2_with fail
    refine hs2.mono ?_
    rintro e w6 ⟨b2, e2, os2, n2, rfl, hH2, hI2, hL6⟩
    have hs3 := hash_at HG1.out hI2 hL6 (i := i) (by rw [hH2.len, H1.out.len]; exact HIO.out)
    rw [hH2.pos, H1.out.pos, ← HX.out] at hs3
    have H2 := Lib.hid hH2
    clear hH2 hI2 hL6 hs2
    go_wp2_with fail
    refine hs3.mono ?_
    rintro e w7 ⟨b3, e3, os3, n3, rfl, hH3, hI3, hL7⟩
    have hc2 := hhs.out _ _ _ hL7
    have H3 := Lib.hid hH3
    clear hH3 hI3 hL7 hs3
    go_wp2_with fail
    refine hc2.mono ?_
    rintro e w8 ⟨rfl, hL8⟩
    have HFE := Lib.hid (HF.out.trans hL8.fr)
    have hlaw := hashes_law HI.out H1.out H2.out H3.out
    clear hL8 hc2 H1 H2 H3 hhs ci cj hmi hmj
    rcases hlaw with ⟨rfl, hge⟩ | ⟨rfl, rfl, hge⟩ | ⟨rfl, rfl, rfl, rfl, hab, hg1, hg2, hg3, hg4, hg5⟩
    · go_wp2
      go_ret
      exact ⟨ret1 (vb (by first | (simp; done) | (simp; omega))), HFE.out⟩
    · go_wp2
      go_ret
      exact ⟨ret1 (vb (by first | (simp; done) | (simp; omega))), HFE.out⟩
    · have hxy : (x = y ↔ i = j) := HEQ.out
      by_cases hij : i = j
      · have e1' : b3 = b2 := hab.2 hij
        have e2' : x = y := hxy.2 hij
        subst e1'
        subst e2'
        clear hab hxy hij HEQ HX HY HIO HJO
        go_wp2
        go_ret
        exact ⟨ret1 (vb (by first | (simp; done) | (simp; omega))), HFE.out⟩
      · have d1 : (b3 == b2) = false := by simpa using fun h => hij (hab.1 h)
        have d2 : (x == y) = false := by simpa using fun h => hij (hxy.1 h)
        have d3 : decide (b3 = b2) = false := by simpa using fun h => hij (hab.1 h)
        have d4 : decide (x = y) = false := by simpa using fun h => hij (hxy.1 h)
        clear hab hxy hij HEQ HX HY HIO HJO
        go_wp2
        go_ret
        exact ⟨ret1 (vb (by first | (simp; done) | (simp; omega))), HFE.out⟩
  · have h0 : (refsO os).length = 0 := by omega
    have HL := Lib.hid (hL3.fr)
    rw [h0]
    clear hz hlen h0 HWD hL3
    go_wp2
    go_ret
    exact ⟨rfl, HF.out.trans HL.out⟩
end Go.Proofs.YtjnccpeeeiafjaaGreatDoor
