/- What arithmetic and comparison of package word return, and the document's answers to them, for every input of their kinds: the same; nothing in memory changes. -/
import Derived.Test.YtcgmioeclebfgaaWalks
import Derived.RegionTactic
import Derived.Deep.QuietTactic
import Derived.BigQuiet
namespace Go.Proofs.Ytcgmioeclebfgaa
open Go.ChangeShapes Go.WideShapes Go.ChangeAt Go.RowKit

theorem tup3 {a b c d e f : Value} (h1 : a = d) (h2 : b = e) (h3 : c = f) : Ending.returned (.tuple #[a, b, c]) = .returned (.tuple #[d, e, f]) := by rw [h1, h2, h3]

/-! word.numbers -/
theorem c28_yes (v u : Int) (w : World) (h1 : 0 ≤ v) (h2 : v ≤ 18446744073709551615) (h3 : 0 ≤ u) (h4 : u ≤ 18446744073709551615) (hv : odd v = true) (hu : odd u = true) :
    Calls Try.prog 28 #[.int .u64 v, .int .u64 u] w (Gives (.tuple #[.int .i64 (inN v), .int .i64 (inN u), .bool true]) w) := by
  have e1 := (in_yes v hv).2
  have e2 := (in_yes u hu).2
  clear hv hu
  go_enter Try.func28, Try.ntmps28
  go_wp2_with (go_at_call 16; refine (c16 _ _ (by omega) (by omega)).mono ?_; rintro e w' ⟨rfl, rfl⟩)
  go_ret3
  exact ⟨rfl, rfl⟩
theorem c28_no (v u : Int) (w : World) (h1 : 0 ≤ v) (h2 : v ≤ 18446744073709551615) (h3 : 0 ≤ u) (h4 : u ≤ 18446744073709551615) (h : (odd v && odd u) = false) :
    Calls Try.prog 28 #[.int .u64 v, .int .u64 u] w (Gives (.tuple #[.int .i64 0, .int .i64 0, .bool false]) w) := by
  cases hv : odd v
  · have e1 := (in_no v hv).2
    clear hv h
    go_enter Try.func28, Try.ntmps28
    go_wp2_with (go_at_call 16; refine (c16 _ _ (by omega) (by omega)).mono ?_; rintro e w' ⟨rfl, rfl⟩)
    go_ret3
    exact ⟨rfl, rfl⟩
  · have hu : odd u = false := by rw [hv] at h; simpa using h
    have e1 := (in_yes v hv).2
    have e2 := (in_no u hu).2
    clear hv hu h
    go_enter Try.func28, Try.ntmps28
    go_wp2_with (go_at_call 16; refine (c16 _ _ (by omega) (by omega)).mono ?_; rintro e w' ⟨rfl, rfl⟩)
    go_ret3
    exact ⟨rfl, rfl⟩

/-! word.product -/
theorem mul_yes (n m : Int) (h : mulOk n m = true) : mulN n m = n * m := by unfold mulN; simp [h]
theorem mul_no (n m : Int) (h : mulOk n m = false) : mulN n m = 0 := by unfold mulN; simp [h]
theorem c32 (n m : Int) (w : World) (hn : fit n = true) (hm : fit m = true) :
    Calls Try.prog 32 #[.int .i64 n, .int .i64 m] w (Gives (.tuple #[.int .i64 (mulN n m), .bool (mulOk n m)]) w) := by
  by_cases hz : n = 0
  · subst hz
    have e : mulOk 0 m = true := by unfold mulOk; simp
    have e' : mulN 0 m = 0 := by rw [mul_yes 0 m e]; simp
    rw [e, e']
    clear e e' hn hm
    go_enter Try.func32, Try.ntmps32
    go_wp2
    go_ret2
    exact ⟨rfl, rfl⟩
  · cases h : mulOk n m
    · rw [mul_no n m h]
      have hq : (wrap64 ((wrap64 (n * m)).tdiv n) != m) = true := by simpa using mul_quo_no n m hn hm hz h
      have hz' : (n == 0) = false := by simpa using hz
      clear h hn hm
      go_enter Try.func32, Try.ntmps32
      go_wp2
      go_ret2
      exact ⟨rfl, rfl⟩
    · rw [mul_yes n m h]
      have hq : (wrap64 ((wrap64 (n * m)).tdiv n) != m) = false := by simpa using mul_quo n m hz hm h
      have hz' : (n == 0) = false := by simpa using hz
      rw [mulOk_iff] at h
      have H := Lib.hid (IntWalk.wrap64_in (n * m) h)
      clear h hn hm
      go_enter Try.func32, Try.ntmps32
      go_wp2
      go_ret2
      exact ⟨tup2 (vi H.out) rfl, rfl⟩

/-! word.floor -/
/-- The world as it was, but for draws. -/
def Dn (w w' : World) : Prop := ∃ k, w' = w.drewN k
def Drawn (v : Value) (w : World) (e : Ending) (w' : World) : Prop := e = .returned v ∧ Dn w w'
theorem Dn.refl (w : World) : Dn w w := ⟨0, rfl⟩
theorem Dn.trans {a b c : World} (h : Dn a b) (g : Dn b c) : Dn a c := by
  obtain ⟨k, rfl⟩ := h; obtain ⟨j, rfl⟩ := g; exact ⟨k + j, by simp⟩
theorem Dn.grown {a b : World} (h : Dn a b) : Grown a b := by
  obtain ⟨k, rfl⟩ := h; exact Grown.refl a
theorem Dn.drew {a b : World} (h : Dn a b) : Dn a b.drew := h.trans ⟨1, rfl⟩
theorem Gives.drawn {v : Value} {w : World} {e : Ending} {w' : World} (h : Gives v w e w') : Drawn v w e w' := ⟨h.1, by rw [h.2]; exact Dn.refl _⟩
theorem Gives.calls {f : Nat} {args : Array Value} {v : Value} {w : World} (h : Calls Try.prog f args w (Gives v w)) : Calls Try.prog f args w (Drawn v w) := h.mono fun _ _ h => h.drawn

theorem c33_zero (n : Int) (w : World) : Calls Try.prog 33 #[.int .i64 n, .int .i64 0] w (Drawn (.tuple #[.int .i64 0, .int .i64 0, .bool false]) w) := by
  go_enter Try.func33, Try.ntmps33
  go_wp2
  go_ret3
  exact ⟨rfl, Dn.refl _⟩
theorem fl_yes (n m : Int) (h : flC n m = true) : flQ n m = n.tdiv m - 1 ∧ flR n m = n.tmod m + m := by unfold flQ flR; simp [h]
theorem fl_no (n m : Int) (h : flC n m = false) : flQ n m = n.tdiv m ∧ flR n m = n.tmod m := by unfold flQ flR; simp [h]
theorem c33 (n m : Int) (w : World) (hn : fit n = true) (hm : fit m = true) (hz : m ≠ 0) :
    Calls Try.prog 33 #[.int .i64 n, .int .i64 m] w (Drawn (.tuple #[.int .i64 (flQ n m), .int .i64 (flR n m), .bool true]) w) := by
  have hz' : (m == 0) = false := by simpa using hz
  have hb := flQ_bd n m hn
  obtain ⟨_, _, b1, b2⟩ := hb
  have b3 := tmod_abs n m hz
  rw [fit_iff] at hn hm
  by_cases hr : n.tmod m = 0
  · have hr' : (n.tmod m != 0) = false := by simpa using hr
    have e := fl_no n m (by unfold flC; rw [hr']; rfl)
    rw [e.1, e.2]
    clear e hr
    go_enter Try.func33, Try.ntmps33
    go_wp2
    go_region
    go_wp2
    go_ret3
    exact ⟨rfl, (Dn.refl _).drew⟩
  · have hr' : (n.tmod m != 0) = true := by simpa using hr
    by_cases h1 : n.tmod m < 0 <;> by_cases h2 : m < 0
    · have e := fl_no n m (by unfold flC; simp [h1, h2])
      rw [e.1, e.2]
      clear e hr
      go_enter Try.func33, Try.ntmps33
      go_wp2
      go_region
      go_wp2
      go_ret3
      exact ⟨rfl, (Dn.refl _).drew⟩
    · have e := fl_yes n m (by unfold flC; simp [hr, h1, h2])
      rw [e.1, e.2]
      have h2' : decide (m < 0) = false := by simpa using h2
      clear e hr h2
      go_enter Try.func33, Try.ntmps33
      go_wp2
      go_region
      go_wp2
      go_ret3
      exact ⟨rfl, (Dn.refl _).drew⟩
    · have e := fl_yes n m (by unfold flC; simp [hr, h1, h2])
      rw [e.1, e.2]
      have h1' : decide (n.tmod m < 0) = false := by simpa using h1
      clear e hr h1
      go_enter Try.func33, Try.ntmps33
      go_wp2
      go_region
      go_wp2
      go_ret3
      exact ⟨rfl, (Dn.refl _).drew⟩
    · have e := fl_no n m (by unfold flC; simp [h1, h2])
      rw [e.1, e.2]
      have h1' : decide (n.tmod m < 0) = false := by simpa using h1
      have h2' : decide (m < 0) = false := by simpa using h2
      clear e hr h1 h2
      go_enter Try.func33, Try.ntmps33
      go_wp2
      go_region
      go_wp2
      go_ret3
      exact ⟨rfl, (Dn.refl _).drew⟩

/-! word.result -/
theorem c29_0 (n m : Int) (w : World) (hn : fit n = true) (hm : fit m = true) :
    Calls Try.prog 29 #[.int .i64 0, .int .i64 n, .int .i64 m] w (Drawn (.tuple #[.int .i64 (n + m), .bool true]) w) := by
  rw [fit_iff] at hn hm
  go_enter Try.func29, Try.ntmps29
  go_wp2
  go_ret2
  exact ⟨rfl, Dn.refl _⟩
theorem c29_1 (n m : Int) (w : World) (hn : fit n = true) (hm : fit m = true) :
    Calls Try.prog 29 #[.int .i64 1, .int .i64 n, .int .i64 m] w (Drawn (.tuple #[.int .i64 (n - m), .bool true]) w) := by
  rw [fit_iff] at hn hm
  go_enter Try.func29, Try.ntmps29
  go_wp2
  go_ret2
  exact ⟨tup2 (vi (by omega)) rfl, Dn.refl _⟩
theorem c29_2 (n m : Int) (w : World) (hn : fit n = true) (hm : fit m = true) :
    Calls Try.prog 29 #[.int .i64 2, .int .i64 n, .int .i64 m] w (Drawn (.tuple #[.int .i64 (mulN n m), .bool (mulOk n m)]) w) := by
  have Hn := Lib.hid hn
  have Hm := Lib.hid hm
  clear hn hm
  go_enter Try.func29, Try.ntmps29
  go_wp2_with (go_at_call 32; refine (c32 _ _ _ Hn.out Hm.out).mono ?_; rintro e w' ⟨rfl, rfl⟩)
  go_ret2
  exact ⟨rfl, Dn.refl _⟩
theorem c29_3 (n m : Int) (w : World) (hn : fit n = true) (hm : fit m = true) (hz : m ≠ 0) :
    Calls Try.prog 29 #[.int .i64 3, .int .i64 n, .int .i64 m] w (Drawn (.tuple #[.int .i64 (flQ n m), .bool true]) w) := by
  have Hn := Lib.hid hn
  have Hm := Lib.hid hm
  clear hn hm
  go_enter Try.func29, Try.ntmps29
  go_wp2_with (go_at_call 33; refine (c33 _ _ _ Hn.out Hm.out hz).mono ?_; rintro e w' ⟨rfl, hd⟩)
  go_ret2
  exact ⟨rfl, hd⟩
theorem c29_4 (n m : Int) (w : World) (hn : fit n = true) (hm : fit m = true) (hz : m ≠ 0) :
    Calls Try.prog 29 #[.int .i64 4, .int .i64 n, .int .i64 m] w (Drawn (.tuple #[.int .i64 (flR n m), .bool true]) w) := by
  have Hn := Lib.hid hn
  have Hm := Lib.hid hm
  clear hn hm
  go_enter Try.func29, Try.ntmps29
  go_wp2_with (go_at_call 33; refine (c33 _ _ _ Hn.out Hm.out hz).mono ?_; rintro e w' ⟨rfl, hd⟩)
  go_ret2
  exact ⟨rfl, hd⟩
theorem c29_3z (n : Int) (w : World) :
    Calls Try.prog 29 #[.int .i64 3, .int .i64 n, .int .i64 0] w (Drawn (.tuple #[.int .i64 0, .bool false]) w) := by
  go_enter Try.func29, Try.ntmps29
  go_wp2_with (go_at_call 33; refine (c33_zero _ _).mono ?_; rintro e w' ⟨rfl, hd⟩)
  go_ret2
  exact ⟨rfl, hd⟩
theorem c29_4z (n : Int) (w : World) :
    Calls Try.prog 29 #[.int .i64 4, .int .i64 n, .int .i64 0] w (Drawn (.tuple #[.int .i64 0, .bool false]) w) := by
  go_enter Try.func29, Try.ntmps29
  go_wp2_with (go_at_call 33; refine (c33_zero _ _).mono ?_; rintro e w' ⟨rfl, hd⟩)
  go_ret2
  exact ⟨rfl, hd⟩
theorem c29_5 (n m : Int) (w : World) :
    Calls Try.prog 29 #[.int .i64 5, .int .i64 n, .int .i64 m] w (Drawn (.tuple #[.int .i64 (bits .and .i64 n m), .bool true]) w) := by
  go_enter Try.func29, Try.ntmps29
  go_wp2
  go_ret2
  exact ⟨rfl, Dn.refl _⟩
theorem c29_6 (n m : Int) (w : World) :
    Calls Try.prog 29 #[.int .i64 6, .int .i64 n, .int .i64 m] w (Drawn (.tuple #[.int .i64 (bits .or .i64 n m), .bool true]) w) := by
  go_enter Try.func29, Try.ntmps29
  go_wp2
  go_ret2
  exact ⟨rfl, Dn.refl _⟩
theorem c29_7 (n m : Int) (w : World) :
    Calls Try.prog 29 #[.int .i64 7, .int .i64 n, .int .i64 m] w (Drawn (.tuple #[.int .i64 (bits .xor .i64 n m), .bool true]) w) := by
  go_enter Try.func29, Try.ntmps29
  go_wp2
  go_ret2
  exact ⟨rfl, Dn.refl _⟩
theorem c29_no (k n m : Int) (w : World) (h0 : k ≠ 0) (h1 : k ≠ 1) (h2 : k ≠ 2) (h3 : k ≠ 3) (h4 : k ≠ 4) (h5 : k ≠ 5) (h6 : k ≠ 6) (h7 : k ≠ 7) :
    Calls Try.prog 29 #[.int .i64 k, .int .i64 n, .int .i64 m] w (Drawn (.tuple #[.int .i64 0, .bool false]) w) := by
  go_enter Try.func29, Try.ntmps29
  go_wp2
  go_ret2
  exact ⟨rfl, Dn.refl _⟩
theorem c29 (k n m : Int) (w : World) (hn : fit n = true) (hm : fit m = true) :
    Calls Try.prog 29 #[.int .i64 k, .int .i64 n, .int .i64 m] w (Drawn (.tuple #[.int .i64 (resN k n m), .bool (resOk k n m)]) w) := by
  by_cases h0 : k = 0
  · subst h0; exact c29_0 n m w hn hm
  by_cases h1 : k = 1
  · subst h1; exact c29_1 n m w hn hm
  by_cases h2 : k = 2
  · subst h2; exact c29_2 n m w hn hm
  by_cases h3 : k = 3
  · subst h3
    by_cases hz : m = 0
    · subst hz; exact c29_3z n w
    · have e1 : resN 3 n m = flQ n m := by simp [resN, hz]
      have e2 : resOk 3 n m = true := by simp [resOk, hz]
      rw [e1, e2]; exact c29_3 n m w hn hm hz
  by_cases h4 : k = 4
  · subst h4
    by_cases hz : m = 0
    · subst hz; exact c29_4z n w
    · have e1 : resN 4 n m = flR n m := by simp [resN, hz]
      have e2 : resOk 4 n m = true := by simp [resOk, hz]
      rw [e1, e2]; exact c29_4 n m w hn hm hz
  by_cases h5 : k = 5
  · subst h5; exact c29_5 n m w
  by_cases h6 : k = 6
  · subst h6; exact c29_6 n m w
  by_cases h7 : k = 7
  · subst h7; exact c29_7 n m w
  have e1 : resN k n m = 0 := by simp [resN, h0, h1, h2, h3, h4, h5, h6, h7]
  have e2 : resOk k n m = false := by simp [resOk, h0, h1, h2, h3, h4, h5, h6, h7]
  rw [e1, e2]; exact c29_no k n m w h0 h1 h2 h3 h4 h5 h6 h7

/-! word.Arith -/
theorem ar_yes (k v u : Int) (h : arOk k v u = true) : arW k v u = fiW (resN k (inN v) (inN u)) := by unfold arW; simp [h]
theorem ar_no (k v u : Int) (h : arOk k v u = false) : arW k v u = 0 := by unfold arW; simp [h]
theorem c22 (k v u : Int) (w : World) (h1 : 0 ≤ v) (h2 : v ≤ 18446744073709551615) (h3 : 0 ≤ u) (h4 : u ≤ 18446744073709551615) :
    Calls Try.prog 22 #[.int .i64 k, .int .u64 v, .int .u64 u] w (Drawn (.tuple #[.int .u64 (arW k v u), .bool (arOk k v u)]) w) := by
  cases ho : (odd v && odd u)
  · have e : arOk k v u = false := by unfold arOk; rw [← Bool.and_assoc, ho]; rfl
    rw [ar_no k v u e, e]
    clear e
    have HO := Lib.hid ho
    clear ho
    go_enter Try.func22, Try.ntmps22
    go_wp2_with (go_at_call 28; refine (c28_no _ _ _ (by omega) (by omega) (by omega) (by omega) HO.out).mono ?_; rintro e w' ⟨rfl, rfl⟩)
    go_ret2
    exact ⟨rfl, Dn.refl _⟩
  · have hv : odd v = true := by simp at ho; exact ho.1
    have hu : odd u = true := by simp at ho; exact ho.2
    have Hv := Lib.hid hv
    have Hu := Lib.hid hu
    have Fv := Lib.hid (inN_fit v)
    have Fu := Lib.hid (inN_fit u)
    cases hr : resOk k (inN v) (inN u)
    · have e : arOk k v u = false := by unfold arOk; rw [hr, hv, hu]; rfl
      rw [ar_no k v u e, e]
      clear e ho hv hu
      go_enter Try.func22, Try.ntmps22
      go_wp2_with (first
        | (go_at_call 28; refine (c28_yes _ _ _ (by omega) (by omega) (by omega) (by omega) Hv.out Hu.out).mono ?_; rintro e w' ⟨rfl, rfl⟩)
        | (go_at_call 29; refine (c29 _ _ _ _ Fv.out Fu.out).mono ?_; rintro e w' ⟨rfl, hd⟩))
      go_ret2
      exact ⟨rfl, hd⟩
    · cases hf : fit (resN k (inN v) (inN u))
      · have e : arOk k v u = false := by unfold arOk; rw [hr, hv, hu, hf]; rfl
        rw [ar_no k v u e, e]
        have HF := Lib.hid hf
        clear e ho hv hu hf
        go_enter Try.func22, Try.ntmps22
        go_wp2_with (first
          | (go_at_call 28; refine (c28_yes _ _ _ (by omega) (by omega) (by omega) (by omega) Hv.out Hu.out).mono ?_; rintro e w' ⟨rfl, rfl⟩)
          | (go_at_call 29; refine (c29 _ _ _ _ Fv.out Fu.out).mono ?_; rintro e w' ⟨rfl, hd⟩)
          | (go_at_call 12; refine (c12_no _ _ HF.out).mono ?_; rintro e w' ⟨rfl, rfl⟩))
        go_ret2
        exact ⟨rfl, hd⟩
      · have e : arOk k v u = true := by unfold arOk; rw [hr, hv, hu, hf]; rfl
        rw [ar_yes k v u e, e]
        have HF := Lib.hid hf
        clear e ho hv hu hf
        go_enter Try.func22, Try.ntmps22
        go_wp2_with (first
          | (go_at_call 28; refine (c28_yes _ _ _ (by omega) (by omega) (by omega) (by omega) Hv.out Hu.out).mono ?_; rintro e w' ⟨rfl, rfl⟩)
          | (go_at_call 29; refine (c29 _ _ _ _ Fv.out Fu.out).mono ?_; rintro e w' ⟨rfl, hd⟩)
          | (go_at_call 12; refine (c12_yes _ _ HF.out).mono ?_; rintro e w' ⟨rfl, rfl⟩))
        go_ret2
        exact ⟨rfl, hd⟩

/-! word.Less, and the document's -/
def leOk (k v u : Int) : Bool := odd v && (odd u && (decide (k = 0) || (decide (k = 1) || decide (k = 2))))
def leB (k v u : Int) : Bool := leOk k v u && (if k = 0 then decide (inN v < inN u) else if k = 1 then decide (inN v ≤ inN u) else decide (inN v = inN u))
theorem le_no (k v u : Int) (h : (odd v && odd u) = false) : leOk k v u = false ∧ leB k v u = false := by
  have e : leOk k v u = false := by unfold leOk; rw [← Bool.and_assoc, h]; rfl
  exact ⟨e, by unfold leB; rw [e]; rfl⟩
theorem c24 (k v u : Int) (w : World) (h1 : 0 ≤ v) (h2 : v ≤ 18446744073709551615) (h3 : 0 ≤ u) (h4 : u ≤ 18446744073709551615) :
    Calls Try.prog 24 #[.int .i64 k, .int .u64 v, .int .u64 u] w (Gives (.tuple #[.bool (leB k v u), .bool (leOk k v u)]) w) := by
  cases ho : (odd v && odd u)
  · have e := le_no k v u ho
    rw [e.1, e.2]
    clear e
    have HO := Lib.hid ho
    clear ho
    go_enter Try.func24, Try.ntmps24
    go_wp2_with (go_at_call 28; refine (c28_no _ _ _ (by omega) (by omega) (by omega) (by omega) HO.out).mono ?_; rintro e w' ⟨rfl, rfl⟩)
    go_ret2
    exact ⟨rfl, rfl⟩
  · have hv : odd v = true := by simp at ho; exact ho.1
    have hu : odd u = true := by simp at ho; exact ho.2
    have Hv := Lib.hid hv
    have Hu := Lib.hid hu
    by_cases k0 : k = 0
    · subst k0
      have e1 : leOk 0 v u = true := by simp [leOk, hv, hu]
      have e2 : leB 0 v u = decide (inN v < inN u) := by simp [leB, e1]
      rw [e1, e2]
      clear e1 e2 ho hv hu
      go_enter Try.func24, Try.ntmps24
      go_wp2_with (go_at_call 28; refine (c28_yes _ _ _ (by omega) (by omega) (by omega) (by omega) Hv.out Hu.out).mono ?_; rintro e w' ⟨rfl, rfl⟩)
      go_ret2
      exact ⟨rfl, rfl⟩
    by_cases k1 : k = 1
    · subst k1
      have e1 : leOk 1 v u = true := by simp [leOk, hv, hu]
      have e2 : leB 1 v u = decide (inN v ≤ inN u) := by simp [leB, e1]
      rw [e1, e2]
      clear e1 e2 ho hv hu k0
      go_enter Try.func24, Try.ntmps24
      go_wp2_with (go_at_call 28; refine (c28_yes _ _ _ (by omega) (by omega) (by omega) (by omega) Hv.out Hu.out).mono ?_; rintro e w' ⟨rfl, rfl⟩)
      go_ret2
      exact ⟨rfl, rfl⟩
    by_cases k2 : k = 2
    · subst k2
      have e1 : leOk 2 v u = true := by simp [leOk, hv, hu]
      have e2 : leB 2 v u = decide (inN v = inN u) := by simp [leB, e1]
      rw [e1, e2]
      clear e1 e2 ho hv hu k0 k1
      go_enter Try.func24, Try.ntmps24
      go_wp2_with (go_at_call 28; refine (c28_yes _ _ _ (by omega) (by omega) (by omega) (by omega) Hv.out Hu.out).mono ?_; rintro e w' ⟨rfl, rfl⟩)
      go_ret2
      exact ⟨rfl, rfl⟩
    have e1 : leOk k v u = false := by simp [leOk, k0, k1, k2]
    have e2 : leB k v u = false := by simp [leB, e1]
    rw [e1, e2]
    clear e1 e2 ho hv hu
    go_enter Try.func24, Try.ntmps24
    go_wp2_with (go_at_call 28; refine (c28_yes _ _ _ (by omega) (by omega) (by omega) (by omega) Hv.out Hu.out).mono ?_; rintro e w' ⟨rfl, rfl⟩)
    go_ret2
    exact ⟨rfl, rfl⟩
theorem c25 (k v u : Int) (w : World) (h1 : 0 ≤ v) (h2 : v ≤ 18446744073709551615) (h3 : 0 ≤ u) (h4 : u ≤ 18446744073709551615) :
    Calls Try.prog 25 #[.int .i64 k, .int .u64 v, .int .u64 u] w (Gives (.tuple #[.bool (leB k v u), .bool (leOk k v u)]) w) := by
  cases hv : odd v
  · have e := le_no k v u (by rw [hv]; rfl)
    have e1 := (in_no v hv).2
    rw [e.1, e.2]
    clear e hv
    go_enter Try.func25, Try.ntmps25
    go_wp2_with (go_at_call 17; refine (c17 _ _ (by omega) (by omega)).mono ?_; rintro e w' ⟨rfl, rfl⟩)
    go_ret2
    exact ⟨rfl, rfl⟩
  cases hu : odd u
  · have e := le_no k v u (by rw [hu, hv]; rfl)
    have e1 := (in_yes v hv).2
    have e2 := (in_no u hu).2
    rw [e.1, e.2]
    clear e hv hu
    go_enter Try.func25, Try.ntmps25
    go_wp2_with (go_at_call 17; refine (c17 _ _ (by omega) (by omega)).mono ?_; rintro e w' ⟨rfl, rfl⟩)
    go_ret2
    exact ⟨rfl, rfl⟩
  have e1 := (in_yes v hv).2
  have e2 := (in_yes u hu).2
  by_cases k0 : k = 0
  · subst k0
    have g1 : leOk 0 v u = true := by simp [leOk, hv, hu]
    have g2 : leB 0 v u = decide (inN v < inN u) := by simp [leB, g1]
    rw [g1, g2]
    clear g1 g2 hv hu
    by_cases hc : inN v < inN u
    all_goals
      go_enter Try.func25, Try.ntmps25
      go_wp2_with (go_at_call 17; refine (c17 _ _ (by omega) (by omega)).mono ?_; rintro e w' ⟨rfl, rfl⟩)
      go_ret2
      exact ⟨tup2 (vb (by simp [hc])) rfl, rfl⟩
  by_cases k1 : k = 1
  · subst k1
    have g1 : leOk 1 v u = true := by simp [leOk, hv, hu]
    have g2 : leB 1 v u = decide (inN v ≤ inN u) := by simp [leB, g1]
    rw [g1, g2]
    clear g1 g2 hv hu k0
    by_cases hc : inN v ≤ inN u
    all_goals
      go_enter Try.func25, Try.ntmps25
      go_wp2_with (go_at_call 17; refine (c17 _ _ (by omega) (by omega)).mono ?_; rintro e w' ⟨rfl, rfl⟩)
      go_ret2
      exact ⟨tup2 (vb (by simp [hc])) rfl, rfl⟩
  by_cases k2 : k = 2
  · subst k2
    have g1 : leOk 2 v u = true := by simp [leOk, hv, hu]
    have g2 : leB 2 v u = decide (inN v = inN u) := by simp [leB, g1]
    rw [g1, g2]
    clear g1 g2 hv hu k0 k1
    cases hc : (inN v == inN u)
    all_goals
      have hc' := Lib.hid hc
      go_enter Try.func25, Try.ntmps25
      go_wp2_with (go_at_call 17; refine (c17 _ _ (by omega) (by omega)).mono ?_; rintro e w' ⟨rfl, rfl⟩)
      go_ret2
      exact ⟨tup2 (vb (by have := hc'.out; simp at this; simp [this])) rfl, rfl⟩
  have g1 : leOk k v u = false := by simp [leOk, k0, k1, k2]
  have g2 : leB k v u = false := by simp [leB, g1]
  rw [g1, g2]
  clear g1 g2 hv hu
  by_cases hk : k < 0
  · go_enter Try.func25, Try.ntmps25
    go_wp2_with (go_at_call 17; refine (c17 _ _ (by omega) (by omega)).mono ?_; rintro e w' ⟨rfl, rfl⟩)
    go_ret2
    exact ⟨rfl, rfl⟩
  · have hk' : 2 < k := by omega
    have hk'' : decide (k < 0) = false := by simpa using hk
    clear hk
    go_enter Try.func25, Try.ntmps25
    go_wp2_with (go_at_call 17; refine (c17 _ _ (by omega) (by omega)).mono ?_; rintro e w' ⟨rfl, rfl⟩)
    go_ret2
    exact ⟨rfl, rfl⟩
end Go.Proofs.Ytcgmioeclebfgaa
