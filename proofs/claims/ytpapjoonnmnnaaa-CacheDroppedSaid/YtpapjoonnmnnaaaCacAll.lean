/- What a cache's Drop and Drops do; a cache since a world w0. -/
import Derived.Test.YtpapjoonnmnnaaaCacDrop
namespace Go.Proofs.Ytpapjoonnmnnaaa
open Go.RowKit Go.Lib

section
variable {w : World} {cb tb lb : Nat} {T : Tab} {dv : Value}
set_option maxRecDepth 100000 in
set_option maxHeartbeats 1000000 in
theorem cdrop_at (h : CacAt w cb tb lb T dv) (s : Int) :
    Calls Try.prog 9 #[.pointer (some ⟨cb, 0, none⟩), .int .u64 s] w (CTurns cb tb lb { T with L := dropL T.L s, D := noteL T.D s } (tfoot tb lb dv) w) := by
  have ht := table_at h.box
  have he := fun w' (hF : Fr [] w w') => empty_at (h.fr0 hF).tab s
  have hn : Hid (∀ w' w'', Fr [] w w' → TabAt w'' tb lb { T with L := dropL T.L s } dv → Fr [lb] w' w'' → CacAt w'' cb tb lb { T with L := dropL T.L s } dv) := Lib.hid fun w' w'' hF hT hF2 => ⟨hF2.heap (by simpa using h.cl) (hF.heap (by simp) h.box), hT⟩
  clear h
  go_enter Try.func9, Try.ntmps9
  go_wp2_with (first
    | (go_at_call 12; refine ht.mono ?_; rintro e w1 ⟨rfl, hF1⟩; have HF1 := Lib.hid hF1; clear hF1)
    | (go_at_call 16; refine (he _ HF1.out).mono ?_; rintro e w2 ⟨rfl, hT2, hF2⟩; have HC2 := Lib.hid (hn.out _ _ HF1.out hT2 hF2); have HF2 := Lib.hid hF2; clear hT2 hF2)
    | (go_at_call 17; refine (note_at HC2.out s).mono ?_; rintro e w3 ⟨rfl, dv3, hC3, hF3, hn3⟩; have HC3 := Lib.hid hC3; have HF3 := Lib.hid hF3; have HN3 := Lib.hid hn3; clear hC3 hF3 hn3))
  go_end0
  refine ⟨rfl, dv3, HC3.out, (HF1.out.weak.trans (HF2.out.mono (fun j _ hj => by rw [List.mem_singleton] at hj; simp [tfoot, hj]))).trans HF3.out, fun k hk => ?_⟩
  rcases HN3.out k hk with e | e
  · exact .inl e
  · exact .inr (Nat.le_trans HF1.out.size (Nat.le_trans HF2.out.size e))
/-- Returned the drops; none are kept now. -/
def Told (cb tb lb : Nat) (T : Tab) (dv : Value) (w : World) (e : Ending) (w' : World) : Prop := e = .returned dv ∧ CacAt w' cb tb lb { T with D := [] } (.slice none 0 0) ∧ Fr [tb] w w'
set_option maxRecDepth 100000 in
set_option maxHeartbeats 1000000 in
theorem cdrops_at (h : CacAt w cb tb lb T dv) : Calls Try.prog 10 #[.pointer (some ⟨cb, 0, none⟩)] w (Told cb tb lb T dv w) := by
  have ht := table_at h.box
  obtain ⟨ao, cap, hdv⟩ := row_shp h.tab.drops
  subst hdv
  have hk := fun w' (hF : Fr [] w w') => (h.fr0 hF)
  have H := Lib.hid h
  clear h
  go_enter Try.func10, Try.ntmps10
  go_wp2_with (first
    | (go_at_call 12; refine ht.mono ?_; rintro e w1 ⟨rfl, hF1⟩; have c1 := (hk _ hF1).tab.cell1; have z1 := frozen_of_heap (o := 1) (hk _ hF1).tab.tab; have HF1 := Lib.hid hF1; clear hF1))
  go_ret
  have hC1 := H.out.fr0 HF1.out
  have hF : Fr [tb] w1 (w1.setCell ⟨tb, 1, none⟩ (.slice none 0 0)) := (Fr.refl _ _).setCell (fun _ => by simp) _
  refine ⟨rfl, ⟨hF.heap (by simpa using hC1.ct) hC1.box, hC1.tab.setDrops hF (fun k hk => .inl (by simpa using hk)) ?_ ⟨rfl, .inl ⟨rfl, rfl⟩⟩ (by simp)⟩, (HF1.out.weak).trans hF⟩
  have := heap_setCell_same hC1.tab.tab (o := 1) (.slice none 0 0)
  simpa using this
end
/-- a cache, made since w0, holds T; nothing that was there at w0 has changed -/
def CLive (w0 : World) (cb : Nat) (T : Tab) (w : World) : Prop := ∃ tb lb dv, CacAt w cb tb lb T dv ∧ Fr [] w0 w ∧ w0.heap.size ≤ cb ∧ ∀ k ∈ tfoot tb lb dv, w0.heap.size ≤ k
section
variable {w0 w : World} {cb : Nat} {T : Tab}
theorem CLive.fr (h : CLive w0 cb T w) : Fr [] w0 w := by obtain ⟨_, _, _, _, h, _⟩ := h; exact h
theorem CLive.n (h : CLive w0 cb T w) : 1 ≤ T.L.length ∧ T.L.length ≤ 256 := by obtain ⟨_, _, _, h, _⟩ := h; exact ⟨h.tab.n1, h.tab.n2⟩
theorem CLive.still {w' : World} (h : CLive w0 cb T w) (hF : Fr [] w w') : CLive w0 cb T w' := by
  obtain ⟨tb, lb, dv, h1, h2, h3, h4⟩ := h
  exact ⟨tb, lb, dv, h1.fr0 hF, h2.trans hF, h3, h4⟩
theorem CLive.turn {T' : Tab} {w' : World} {tb lb : Nat} {dv dv' : Value} (h2 : Fr [] w0 w) (h3 : w0.heap.size ≤ cb) (h4 : ∀ k ∈ tfoot tb lb dv, w0.heap.size ≤ k) (hC : CacAt w' cb tb lb T' dv') (hF : Fr (tfoot tb lb dv) w w') (hn : ∀ k, dv'.ownBlock = some k → k ∈ tfoot tb lb dv ∨ w.heap.size ≤ k) : CLive w0 cb T' w' := by
  refine ⟨tb, lb, dv', hC, h2.trans' hF (fun _ _ e => e) (fun j hj hm => absurd (h4 j hm) (by omega)), h3, fun k hk => ?_⟩
  simp only [tfoot, List.mem_cons] at hk
  rcases hk with rfl | rfl | hk
  · exact h4 _ (by simp [tfoot])
  · exact h4 _ (by simp [tfoot])
  · rcases hn k (own_mem.1 hk) with e | e
    · exact h4 k e
    · exact Nat.le_trans h2.size e
/-- Returned v; the cache holds T'. -/
def LTurns (v : Value) (w0 : World) (cb : Nat) (T' : Tab) (e : Ending) (w' : World) : Prop := e = .returned v ∧ CLive w0 cb T' w'
theorem live_cget (h : CLive w0 cb T w) (c s : Int) (c1 : 0 ≤ c) (c2 : c ≤ 18446744073709551615) (s1 : 0 ≤ s) (s2 : s ≤ 18446744073709551615) :
    Calls Try.prog 8 #[.pointer (some ⟨cb, 0, none⟩), .int .u64 c, .int .u64 s] w (LTurns (.tuple #[.int .u64 (getM T.L c s), .bool (getB T.L c s)]) w0 cb T) := by
  have h' := h
  obtain ⟨tb, lb, dv, h1, h2, h3, h4⟩ := h'
  exact (cget_at h1 c s c1 c2 s1 s2).mono fun e w' ⟨he, hF⟩ => ⟨he, h.still hF⟩
theorem live_cput (h : CLive w0 cb T w) (c s m : Int) (c1 : 0 ≤ c) (c2 : c ≤ 18446744073709551615) (s1 : 0 ≤ s) (s2 : s ≤ 18446744073709551615) :
    Calls Try.prog 7 #[.pointer (some ⟨cb, 0, none⟩), .int .u64 c, .int .u64 s, .int .u64 m] w (LTurns (.tuple #[]) w0 cb { T with L := putL T.L c s m }) := by
  obtain ⟨tb, lb, dv, h1, h2, h3, h4⟩ := h
  exact (cput_at h1 c s m c1 c2 s1 s2).mono fun e w' ⟨he, dv', hC, hF, hn⟩ => ⟨he, CLive.turn h2 h3 h4 hC hF hn⟩
theorem live_cdrop (h : CLive w0 cb T w) (s : Int) :
    Calls Try.prog 9 #[.pointer (some ⟨cb, 0, none⟩), .int .u64 s] w (LTurns (.tuple #[]) w0 cb { T with L := dropL T.L s, D := noteL T.D s }) := by
  obtain ⟨tb, lb, dv, h1, h2, h3, h4⟩ := h
  exact (cdrop_at h1 s).mono fun e w' ⟨he, dv', hC, hF, hn⟩ => ⟨he, CLive.turn h2 h3 h4 hC hF hn⟩
theorem live_cnew (w : World) (n : Nat) (h1 : 1 ≤ n) (h2 : n ≤ 256) : Calls Try.prog 6 #[.int .i64 n] w fun e w' => ∃ cb, e = .returned (.tuple #[.pointer (some ⟨cb, 0, none⟩), .int .i64 0]) ∧ CLive w cb (Tab.fresh n) w' :=
  (newYes w n h1 h2).mono fun _ _ ⟨cb, tb, lb, dv, he, hC, hF, hcb, hk⟩ => ⟨cb, he, tb, lb, dv, hC, hF, hcb, hk⟩
theorem CLive.back {w1 : World} (h : CLive w1 cb T w) (hF : Fr [] w0 w1) : CLive w0 cb T w := by
  obtain ⟨tb, lb, dv, h1, h2, h3, h4⟩ := h
  exact ⟨tb, lb, dv, h1, hF.trans h2, Nat.le_trans hF.size h3, fun k hk => Nat.le_trans hF.size (h4 k hk)⟩
end
/-! awake -/
theorem getB_one (l : Ln) (c s : Int) : getB [l] c s = l.is c s ∧ getM [l] c s = if l.is c s then l.m else 0 := by
  have h := ixN_lt (n := 1) (Nat.le_refl _) c s
  have h0 : ixN [l].length c s = 0 := by show ixN 1 c s = 0; omega
  unfold getB getM
  rw [h0]
  exact ⟨rfl, rfl⟩
theorem putL_one (l : Ln) (c s m : Int) : putL [l] c s m = [⟨c, s, true, m⟩] := by
  have h := ixN_lt (n := 1) (Nat.le_refl _) c s
  have h0 : ixN [l].length c s = 0 := by show ixN 1 c s = 0; omega
  unfold putL
  rw [h0]
  rfl
set_option maxRecDepth 100000 in
set_option maxHeartbeats 1000000 in
theorem awake8 (w : World) : Calls Try.prog 5 #[] w (Still (.bool true) w) := by
  have h1 := live_cnew w 1 (by omega) (by omega)
  have h0 := fun w' => newNo w' 0 (by omega)
  go_enter Try.func5, Try.ntmps5
  go_wp2_with fail
  refine h1.mono ?_
  rintro e w1 ⟨cb, rfl, hL1⟩
  have HL1 := Lib.hid hL1
  clear hL1 h1
  go_wp2_with fail
  refine (h0 w1).mono ?_
  rintro e w2 ⟨rfl, hF2⟩
  have HL2 := Lib.hid (HL1.out.still hF2)
  clear hF2 h0
  go_wp2_with fail
  refine (live_cput HL2.out 2 4 6 (by omega) (by omega) (by omega) (by omega)).mono ?_
  rintro e w3 ⟨rfl, hL3⟩
  have e3 : putL (Tab.fresh 1).L 2 4 6 = [⟨2, 4, true, 6⟩] := putL_one _ _ _ _
  rw [e3] at hL3
  have HL3 := Lib.hid hL3
  clear hL3 e3
  go_wp2_with fail
  have g4 := live_cget HL3.out 2 4 (by omega) (by omega) (by omega) (by omega)
  rw [(getB_one _ _ _).1, (getB_one _ _ _).2, show Ln.is ⟨2, 4, true, 6⟩ 2 4 = true from rfl, if_pos rfl] at g4
  refine g4.mono ?_
  rintro e w4 ⟨rfl, hL4⟩
  have HL4 := Lib.hid hL4
  clear hL4 g4
  go_wp2_with fail
  refine (live_cput HL4.out 8 4 6 (by omega) (by omega) (by omega) (by omega)).mono ?_
  rintro e w5 ⟨rfl, hL5⟩
  rw [putL_one] at hL5
  have HL5 := Lib.hid hL5
  clear hL5
  go_wp2_with fail
  have g6 := live_cget HL5.out 2 4 (by omega) (by omega) (by omega) (by omega)
  rw [(getB_one _ _ _).1, (getB_one _ _ _).2, show Ln.is ⟨8, 4, true, 6⟩ 2 4 = false from rfl, if_neg (by decide)] at g6
  refine g6.mono ?_
  rintro e w6 ⟨rfl, hL6⟩
  have HL6 := Lib.hid hL6
  clear hL6 g6
  go_wp2_with fail
  refine (live_cdrop HL6.out 4).mono ?_
  rintro e w7 ⟨rfl, hL7⟩
  have e7 : dropL [(⟨8, 4, true, 6⟩ : Ln)] 4 = [Ln.zero] := rfl
  simp only [e7] at hL7
  have HL7 := Lib.hid hL7
  clear hL7 e7
  go_wp2_with fail
  have g8 := live_cget HL7.out 8 4 (by omega) (by omega) (by omega) (by omega)
  rw [(getB_one _ _ _).1, (getB_one _ _ _).2, show Ln.is Ln.zero 8 4 = false from rfl, if_neg (by decide)] at g8
  refine g8.mono ?_
  rintro e w8 ⟨rfl, hL8⟩
  have HL8 := Lib.hid hL8
  clear hL8 g8
  go_wp2
  go_ret
  exact ⟨rfl, HL8.out.fr⟩
end Go.Proofs.Ytpapjoonnmnnaaa
