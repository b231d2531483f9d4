/- CodeReads: the method that a word leads to, or none. -/
import Derived.Test.YtgpcidmlogbjbaaGreatDoorMCodeRefR
import Derived.Test.YtgpcidmlogbjbaaGreatDoorMCodeBackWalk
namespace Go.Proofs.YtgpcidmlogbjbaaGreatDoor
open Go.RowKit

/-- a method and a number -/
def ReadAs (M : Mth) (E : Int) (W : World) (e : Ending) (W' : World) : Prop := Fr [] W W' ∧ ∃ la lc ca cc, e = .returned (.tuple #[M.v la lc ca cc, .int .i64 E]) ∧ MAt W' M la lc ca
theorem zero_at (w : World) : MAt w Mth.zero none 0 none := ⟨fun i x hx => by simp [Mth.zero] at hx, fun _ => ⟨rfl, rfl⟩, fun i x hx => by simp [Mth.zero, flatI] at hx⟩
theorem ReadTo.yes {m : Mth} {W W' : World} {e : Ending} (h : ReadTo true m W e W') : ReadAs m 0 W e W' := by
  obtain ⟨hF, ⟨-, la, lc, ca, cc, rfl, hM, -⟩ | ⟨h, -⟩⟩ := h
  · exact ⟨hF, la, lc, ca, cc, rfl, hM⟩
  · cases h
theorem ReadTo.no {m : Mth} {W W' : World} {e : Ending} (h : ReadTo false m W e W') : ReadAs Mth.zero 4 W e W' := by
  obtain ⟨hF, ⟨h, -⟩ | ⟨-, rfl⟩⟩ := h
  · cases h
  · exact ⟨hF, none, 0, none, 0, rfl, zero_at _⟩
theorem dec_lens (fs : List Int) : (decM fs).lits.length ≤ fs.length ∧ (decM fs).code.length ≤ fs.length := by
  unfold decM
  simp
  omega
theorem stB_none (x : Int) : stB Mem.none.M x = false := by simp [stB, Mem.none]
/-- both answer the same -/
theorem reads_both {W : World} {hb mb rb : Nat} {lim root hs : Int} {os : List Ob} {l : List RO} {wv sv lv : Value} (hI : OInv lim os hs) (ha : RAgree 1 l os) (hH : HeapAt W hb mb (absMem lim os root hs) wv sv) (hR : RefAt W rb ⟨lim, l, root, hs⟩ lv) (hE : Field W) (x : Int) (hx : WB x) :
    ∃ M E, (E = 0 ∨ E = 4) ∧ M.lits.length ≤ 65536 ∧ M.code.length ≤ 65536 ∧ (∀ W', Fr [] W W' → Calls Tryz.prog 40 #[.pointer (some ⟨hb, 0, none⟩), .int .u64 x] W' (ReadAs M E W')) ∧ ∀ W', Fr [] W W' → Calls Tryz.prog 41 #[.pointer (some ⟨rb, 0, none⟩), .int .u64 x] W' (ReadAs M E W') := by
  have hHf := fun W' (hF : Fr [] W W') => hH.fr hF (by simp) (fun _ _ => by simp)
  have hRf := fun W' (hF : Fr [] W W') => hR.fr0 hF
  cases hst : stB (absMem lim os root hs).M x
  · refine ⟨Mth.zero, 4, .inr rfl, by simp [Mth.zero], by simp [Mth.zero], fun W' hF => ?_, fun W' hF => ?_⟩
    · exact (read_no (W := W') (fun W'' hF' => ⟨mb, memory_at (hHf W'' (hF.trans hF'))⟩) x hx hst Mth.zero).mono fun _ _ h => h.no
    · exact (rread_no (hRf W' hF) x hx (findR_none ha hst) Mth.zero).mono fun _ _ h => h.no
  · obtain ⟨pre, o, post, r, rfl, rfl, hf, -, hro⟩ := agree_at ha lim root hs hst
    have hfs : r.fs = o.2.2 := by rw [← hro]; rfl
    have hq := endOf_lt pre post o
    have hfit := hI.fit
    have hl2 := hI.l2
    have hnb : o.2.2.length ≤ 65536 := by omega
    have hwb := (hI.bd o (by simp)).2
    have h1 := fun W' (hF : Fr [] W W') => read_at (hE.fr hF) hI (hHf W' hF)
    have h2 := fun W' (hF : Fr [] W W') => rread_at (hRf W' hF) _ hx hf (by rw [hfs]; exact hwb) (by rw [hfs]; exact hnb)
    rw [hfs] at h2
    have hd := dec_lens o.2.2
    cases hok : decOk o.2.2
    · rw [hok] at h1 h2
      exact ⟨Mth.zero, 4, .inr rfl, by simp [Mth.zero], by simp [Mth.zero], fun W' hF => (h1 W' hF).mono fun _ _ h => h.no, fun W' hF => (h2 W' hF).mono fun _ _ h => h.no⟩
    · rw [hok] at h1 h2
      exact ⟨decM o.2.2, 0, .inl rfl, by omega, by omega, fun W' hF => (h1 W' hF).mono fun _ _ h => h.yes, fun W' hF => (h2 W' hF).mono fun _ _ h => h.yes⟩
set_option maxRecDepth 100000 in
set_option maxHeartbeats 3200000 in
theorem codeReads_walk {w : World} {ao : Option Addr} {cap : Nat} (its : List (It × Int)) (hG : G4 w ao its) (hB : B4 its) (x : Int) (hx : WB x) (hg : Glob w) (hE : Field w) : Calls Tryz.prog 6 #[.slice ao its.length cap, .int .u64 x] w (Still (.bool true) w) := by
  have HAW := Lib.hid (fun W (hF : Fr [] w W) => awake4 W (hg.fr hF) (hE.fr hF))
  have HE := Lib.hid hE
  have HBO := Lib.hid (fun W (hF : Fr [] w W) => both_at 4096 (by omega) (by omega) (hg.fr hF) (cap := cap) its (hG.fr0 hF) hB)
  have HNO := Lib.hid (fun W => (read_no (W := W) (hv := .pointer none) (fun W' _ => ⟨_, memory_none (.inl rfl)⟩) x hx (stB_none x) Mth.zero).mono fun _ _ h => h.no)
  obtain ⟨N, hN⟩ : ∃ N, N = its.length := ⟨_, rfl⟩
  rw [← hN] at HBO ⊢
  have HX := Lib.hid hx
  clear hN hG hB hg hE hx
  go_enter Tryz.func6, Tryz.ntmps6
  go_wp2_with fail
  refine (HAW.out _ (Fr.refl _ _)).mono ?_
  rintro e w1 ⟨rfl, hF1⟩
  have HF1 := Lib.hid hF1
  clear hF1
  go_wp2_with fail
  refine (HBO.out _ HF1.out).mono ?_
  rintro e w2 ⟨hb, mb, rb, os, root, hs, l, rfl, hI, ha, hT, -⟩
  obtain ⟨wv, sv, lv, -, hH, hR, hF2, -⟩ := hT
  have HF2 : Hid (Fr [] w w2) := HF1.out.trans hF2
  obtain ⟨M, E, hE4, hml, hmc, h1, h2⟩ := reads_both hI ha hH hR (HE.out.fr HF2.out) x HX.out
  have HR1 := Lib.hid h1
  have HR2 := Lib.hid h2
  have HSA := Lib.hid (fun W la lc ca cc la' lc' ca' cc' (h1 : MAt W M la lc ca) (h2 : MAt W M la' lc' ca') => same_any (cc := cc) (cc' := cc') M M h1 h2 (by omega) (by omega))
  clear hI ha hH hR hF2 h1 h2 hml hmc
  have HZ : Hid (∀ la lc ca cc, Mth.zero.v la lc ca cc = .agg #[.int .i64 0, .int .i64 0, .int .i64 0, .int .i64 0, .slice la 0 lc, .slice ca 0 cc]) := Lib.hid fun _ _ _ _ => rfl
  have HMV : Hid (∃ a b c d n k, ∀ la lc ca cc, M.v la lc ca cc = .agg #[.int .i64 a, .int .i64 b, .int .i64 c, .int .i64 d, .slice la n lc, .slice ca k cc]) := Lib.hid ⟨_, _, _, _, _, _, fun _ _ _ _ => rfl⟩
  obtain ⟨a, b, c, d, n, k, hmv⟩ := HMV.out
  have HMV := Lib.hid hmv
  clear hmv
  go_wp2_with fail
  refine (HR1.out _ (Fr.refl _ _)).mono ?_
  rintro e w3 ⟨hF3, la, lc, ca, cc, rfl, hM3⟩
  have HF3 := Lib.hid hF3
  have HM3 := Lib.hid hM3
  clear hF3 hM3
  rw [HMV.out]
  go_wp2_with fail
  refine (HR2.out _ (HF3.out.alloc _)).mono ?_
  rintro e w4 ⟨hF4, la', lc', ca', cc', rfl, hM4⟩
  have HF4 := Lib.hid hF4
  have HM4 := Lib.hid hM4
  have HB4 := Lib.hid (hF4.heap (by simp) (heap_new w3 _))
  clear hF4 hM4
  rw [HMV.out]
  go_wp2_with fail
  refine (HNO.out _).mono ?_
  rintro e w5 ⟨hF5, la5, lc5, ca5, cc5, rfl, -⟩
  have HF5 := Lib.hid hF5
  have HB5 := Lib.hid (hF5.heap (by simp) (((Fr.refl [] w4).alloc _).heap (by simp) HB4.out))
  have HC5 := Lib.hid (hF5.heap (by simp) (heap_new w4 _))
  clear hF5
  rw [HZ.out]
  have hl1 : w3.heap.size < w5.heap.size := lt_of_heap HB5.out
  have hl2 : w4.heap.size < w5.heap.size := lt_of_heap HC5.out
  have p0 := cell_of_heap (o := 0) HB5.out rfl; have p1 := cell_of_heap (o := 1) HB5.out rfl; have p2 := cell_of_heap (o := 2) HB5.out rfl; have p3 := cell_of_heap (o := 3) HB5.out rfl; have p4 := cell_of_heap (o := 4) HB5.out rfl; have p5 := cell_of_heap (o := 5) HB5.out rfl
  have q0 := cell_of_heap (o := 0) HC5.out rfl; have q1 := cell_of_heap (o := 1) HC5.out rfl; have q2 := cell_of_heap (o := 2) HC5.out rfl; have q3 := cell_of_heap (o := 3) HC5.out rfl; have q4 := cell_of_heap (o := 4) HC5.out rfl; have q5 := cell_of_heap (o := 5) HC5.out rfl
  have HS : Hid (∀ W, Fr [] w5 W → Calls Tryz.prog 42 #[.agg #[.int .i64 a, .int .i64 b, .int .i64 c, .int .i64 d, .slice la n lc, .slice ca k cc], .agg #[.int .i64 a, .int .i64 b, .int .i64 c, .int .i64 d, .slice la' n lc', .slice ca' k cc']] W (Still (.bool true) W)) := Lib.hid fun W hF => by
    have h5 : Fr [] w4 W := (((Fr.refl [] w4).alloc _).trans HF5.out).trans hF
    have h4 : Fr [] w3 W := (((Fr.refl [] w3).alloc _).trans HF4.out).trans h5
    obtain ⟨B, hB, hc⟩ := HSA.out W la lc ca cc la' lc' ca' cc' (HM3.out.fr0 h4) (HM4.out.fr0 h5)
    rw [hB.2 (by trivial), HMV.out, HMV.out] at hc
    exact hc
  have HFW : Hid (Fr [] w w5) := HF2.out.trans (((HF3.out.alloc _).trans HF4.out).trans (((Fr.refl [] w4).alloc _).trans HF5.out))
  clear HAW HBO HR1 HR2 HSA HNO
  rcases hE4 with rfl | rfl
  · go_wp2_with (go_at_call 42; refine (HS.out _ ((Fr.refl [] w5).alloc _)).mono ?_; rintro e w6 ⟨rfl, hF6⟩; have HF6 := Lib.hid hF6; clear hF6)
    go_ret
    exact ⟨rfl, (HFW.out.alloc _).trans HF6.out⟩
  · go_wp2_with (go_at_call 42; refine (HS.out _ ((Fr.refl [] w5).alloc _)).mono ?_; rintro e w6 ⟨rfl, hF6⟩; have HF6 := Lib.hid hF6; clear hF6)
    go_ret
    exact ⟨rfl, (HFW.out.alloc _).trans HF6.out⟩
end Go.Proofs.YtgpcidmlogbjbaaGreatDoor
