/- CodeWrites: which methods may be, and their objects. -/
import Derived.Test.YtjghgambieflaaaGreatDoorMCodeF
import Derived.Test.YtjghgambieflaaaGreatDoorMCodeBackWalk
namespace Go.Proofs.YtjghgambieflaaaGreatDoor
open Go.RowKit

section
variable {w0 W : World} {X : List (Nat × Obj)} {hb mb rb : Nat} {m m' : Mem} {r : RH}
theorem two_turnsH {f : Nat} {args : Array Value} {v : Value} (h : Two w0 X hb mb rb m r W) (hc : ∀ wv sv, HeapAt W hb mb m wv sv → Base w0 W (foot mb wv sv) → Calls Tryz.prog f args W (Turns v mb m' (foot mb wv sv) W)) :
    Calls Tryz.prog f args W fun e W' => e = .returned v ∧ Two w0 X hb mb rb m' r W' := by
  obtain ⟨wv, sv, lv, hX, hH, hR, hF0, h1, h2, h3, h4, h5⟩ := h
  refine (hc wv sv hH ⟨hF0, h2⟩).mono ?_
  rintro e W' ⟨rfl, wv', sv', hM, hF, hfr⟩
  refine ⟨rfl, wv', sv', lv, fun p hp => ⟨hF.heap (hX p hp).2.2.1 (hX p hp).1, (hX p hp).2.1, fun hk => (hfr _ hk).elim (hX p hp).2.2.1 (fun hl => by have := lt_of_heap (hX p hp).1; omega), (hX p hp).2.2.2⟩, ⟨hF.heap hH.apart hH.heap, hM⟩, hR.fr hF h5, hF0.join hF h2, h1, fun k hk => ?_, h3, h4, fun k hk hk' => ?_⟩
  · rcases hfr k hk with h | h
    · exact h2 k h
    · exact Nat.le_trans hF0.size h
  · rcases hfr k hk' with h | h
    · exact h5 k hk h
    · have := hR.lt k hk; omega
theorem two_rt {f : Nat} {args : Array Value} {v : Value} {lim root hs : Int} {l : List RO} {os' : List Ob} (h : Two w0 X hb mb rb m ⟨lim, l, root, hs⟩ W) (hc : ∀ lv, RefAt W rb ⟨lim, l, root, hs⟩ lv → Calls Tryz.prog f args W fun e W' => e = .returned v ∧ RT W rb (rfoot rb ⟨lim, l, root, hs⟩ lv) lim os' root hs W') :
    Calls Tryz.prog f args W fun e W' => e = .returned v ∧ ∃ l', RAgree 1 l' os' ∧ Two w0 X hb mb rb m ⟨lim, l', root, hs⟩ W' := by
  obtain ⟨wv, sv, lv, hX, hH, hR, hF0, h1, h2, h3, h4, h5⟩ := h
  refine (hc lv hR).mono ?_
  rintro e W' ⟨rfl, l', lv', ha', hR', hF, hk⟩
  obtain ⟨-, hT⟩ := Two.rturn (v := v) (e := .returned v) (r' := ⟨lim, l', root, hs⟩) hX hH hF0 h1 h2 h3 h4 h5 ⟨rfl, lv', hR', hF, hk⟩
  exact ⟨rfl, l', ha', hT⟩
end
theorem alloc_nil {w : World} (hg : Glob w) (x n y : Int) : Calls Tryz.prog 27 #[.pointer none, .int .u64 x, .int .i64 n, .int .u64 y] w (Still (.tuple #[.int .u64 0, .int .i64 1]) w) :=
  alloc_fail (memory_none (.inl rfl)) hg x n y 1 (fun _ hM hG => admit_none hM hG x n y rfl)
set_option maxRecDepth 100000 in
set_option maxHeartbeats 1600000 in
theorem write_nil (m : Mth) (la ca : Option Addr) (lc cc : Nat) (cls : Int) {W : World} (hg : Glob W) (hE : Field W) (hM : MAt W m la lc ca) : Calls Tryz.prog 14 #[.pointer none, .int .u64 cls, m.v la lc ca cc] W (Still (.tuple #[.int .u64 0, .int .i64 (if m.ok = true then 1 else 4)]) W) := by
  have HCK := Lib.hid (fun W' (hF : Fr [] W W') => check_at m la ca lc cc W' (row_fr hM.code hF) (hE.fr hF))
  have HAN := Lib.hid (fun W' (hF : Fr [] W W') x n y => alloc_nil (hg.fr hF) x n y)
  cases hok : m.ok
  · rw [hok] at HCK
    simp only [Bool.false_eq_true, if_false] at HCK ⊢
    unfold Mth.v at HCK ⊢
    clear hok hM hE hg
    go_enter Tryz.func14, Tryz.ntmps14
    go_wp2_with fail
    refine (HCK.out _ ((Fr.refl _ _).alloc _)).mono ?_
    rintro e w2 ⟨rfl, hF⟩
    have HF : Hid (Fr [] W w2) := ((Fr.refl [] W).alloc _).trans hF
    clear hF
    go_wp2_with fail
    go_ret2
    exact ⟨rfl, HF.out⟩
  · rw [hok] at HCK
    simp only [if_true] at HCK ⊢
    have HEN := Lib.hid (fun W' (hF : Fr [] W W') => encoded_at m la ca lc cc W' (hM.fr0 hF) hok)
    have hi0 : ∀ W, Calls Tryz.prog 28 #[.int .i64 0] W (Gives (.int .u64 1) W) := by
      have e1 : wordOf 0 = 1 := by decide
      have := fun W => integer_gives 0 W (by decide)
      rw [e1] at this
      exact this
    obtain ⟨N, hN⟩ : ∃ N, N = m.fs.length := ⟨_, rfl⟩
    rw [← hN] at HEN
    unfold Mth.v at HCK HEN ⊢
    clear hM hE hg hok hN
    go_enter Tryz.func14, Tryz.ntmps14
    go_wp2_with fail
    refine (HCK.out _ ((Fr.refl _ _).alloc _)).mono ?_
    rintro e w2 ⟨rfl, hF2⟩
    have HF2 : Hid (Fr [] W w2) := ((Fr.refl [] W).alloc _).trans hF2
    have HB2 := Lib.hid (hF2.heap (by simp) (heap_new _ _))
    have k0 := cell_of_heap (o := 0) HB2.out rfl; have k1 := cell_of_heap (o := 1) HB2.out rfl; have k2 := cell_of_heap (o := 2) HB2.out rfl; have k3 := cell_of_heap (o := 3) HB2.out rfl; have k4 := cell_of_heap (o := 4) HB2.out rfl; have k5 := cell_of_heap (o := 5) HB2.out rfl
    clear hF2
    go_wp2_with fail
    refine (HEN.out _ HF2.out).mono ?_
    rintro e w3 ⟨v, rfl, hrow, hF3, hnew⟩
    obtain ⟨fa, fc, rfl⟩ := row_shape hrow
    have HF3 : Hid (Fr [] W w3) := HF2.out.trans hF3
    clear hrow hF3 hnew k0 k1 k2 k3 k4 k5
    go_wp2_with (first | (go_at_call 28; refine (hi0 _).mono ?_; rintro e w' ⟨rfl, rfl⟩) | (go_at_call 27; refine (HAN.out _ HF3.out _ _ _).mono ?_; rintro e w4 ⟨rfl, hF4⟩; have HF4 := Lib.hid (HF3.out.trans hF4); clear hF4))
    go_ret2
    exact ⟨rfl, HF4.out⟩
end Go.Proofs.YtjghgambieflaaaGreatDoor
