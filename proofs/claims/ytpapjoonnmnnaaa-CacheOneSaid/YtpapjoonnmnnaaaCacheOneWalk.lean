/- CacheOne, walked. -/
import Derived.Test.YtpapjoonnmnnaaaCacAll
import Derived.Test.YtpapjoonnmnnaaaMask
namespace Go.Proofs.Ytpapjoonnmnnaaa
open Go.RowKit Go.Lib

theorem put_len (L : List Ln) (c s m : Int) : (putL L c s m).length = L.length := by simp [putL]
theorem get_put {L : List Ln} (hn : 1 ≤ L.length) (c s m : Int) : getB (putL L c s m) c s = true ∧ getM (putL L c s m) c s = m := by
  have h := ixN_lt hn c s
  have e : (putL L c s m)[ixN L.length c s]? = some ⟨c, s, true, m⟩ := by unfold putL; rw [List.getElem?_set_self h]
  unfold getB getM
  rw [put_len, e]
  simp [Ln.is]
theorem get_other {L : List Ln} (hn : 1 ≤ L.length) (c s m c' s' : Int) (h : ixN L.length c' s' ≠ ixN L.length c s) : getB (putL L c s m) c' s' = getB L c' s' ∧ getM (putL L c s m) c' s' = getM L c' s' := by
  unfold getB getM
  rw [put_len]
  unfold putL
  rw [List.getElem?_set_ne (fun e => h e.symm)]
  exact ⟨rfl, rfl⟩
theorem get_same {L : List Ln} (hn : 1 ≤ L.length) (c s m c' s' : Int) (h : ixN L.length c' s' = ixN L.length c s) (hne : ¬ (c = c' ∧ s = s')) : getB (putL L c s m) c' s' = false ∧ getM (putL L c s m) c' s' = 0 := by
  have hl := ixN_lt hn c s
  have e : (putL L c s m)[ixN L.length c s]? = some ⟨c, s, true, m⟩ := by unfold putL; rw [List.getElem?_set_self hl]
  unfold getB getM
  rw [put_len, h, e]
  have : Ln.is ⟨c, s, true, m⟩ c' s' = false := by
    unfold Ln.is
    simpa using hne
  simp [this]
theorem drop_len (L : List Ln) (s : Int) : (dropL L s).length = L.length := by simp [dropL]
theorem get_drop {L : List Ln} (c s : Int) : getB (dropL L s) c s = false ∧ getM (dropL L s) c s = 0 := by
  unfold getB getM
  rw [drop_len]
  unfold dropL
  rw [List.getElem?_map]
  cases h : L[ixN L.length c s]? with
  | none => simp
  | some l =>
    have : (dropLn s l).is c s = false := by
      unfold dropLn Ln.is
      split
      · simp [Ln.zero]
      · next hh => simp [hh]
    simp [this]
theorem get_drop_other {L : List Ln} (c s t : Int) (h : s ≠ t) : getB (dropL L t) c s = getB L c s ∧ getM (dropL L t) c s = getM L c s := by
  unfold getB getM
  rw [drop_len]
  unfold dropL
  rw [List.getElem?_map]
  cases hh : L[ixN L.length c s]? with
  | none => simp
  | some l =>
    simp only [Option.map_some]
    unfold dropLn
    split
    · next e =>
      have h1 : l.is c s = false := by unfold Ln.is; rw [e]; simp; intro _ e2; exact absurd e2.symm h
      have h2 : Ln.zero.is c s = false := by simp [Ln.is, Ln.zero]
      rw [h1, h2]
      exact ⟨rfl, rfl⟩
    · exact ⟨rfl, rfl⟩
/-- what the law finds of another key, by cases -/
theorem one_cases {L : List Ln} (hn : 1 ≤ L.length) (a b m x y : Int) :
    (a = x ∧ b = y ∧ ixN L.length a b = ixN L.length x y ∧ getB (putL (putL L x y 10) a b m) x y = true ∧ getM (putL (putL L x y 10) a b m) x y = m ∧ getB (dropL (putL (putL L x y 10) a b m) b) x y = false) ∨
    (a ≠ x ∧ ixN L.length a b = ixN L.length x y ∧ getB (putL (putL L x y 10) a b m) x y = false ∧ getM (putL (putL L x y 10) a b m) x y = 0 ∧ getB (dropL (putL (putL L x y 10) a b m) b) x y = false) ∨
    (a = x ∧ b ≠ y ∧ ixN L.length a b = ixN L.length x y ∧ getB (putL (putL L x y 10) a b m) x y = false ∧ getM (putL (putL L x y 10) a b m) x y = 0 ∧ getB (dropL (putL (putL L x y 10) a b m) b) x y = false) ∨
    (a ≠ x ∧ b = y ∧ ixN L.length a b ≠ ixN L.length x y ∧ getB (putL (putL L x y 10) a b m) x y = true ∧ getM (putL (putL L x y 10) a b m) x y = 10 ∧ getB (dropL (putL (putL L x y 10) a b m) b) x y = false) ∨
    (a ≠ x ∧ b ≠ y ∧ ixN L.length a b ≠ ixN L.length x y ∧ getB (putL (putL L x y 10) a b m) x y = true ∧ getM (putL (putL L x y 10) a b m) x y = 10 ∧ getB (dropL (putL (putL L x y 10) a b m) b) x y = true) ∨
    (a = x ∧ b ≠ y ∧ ixN L.length a b ≠ ixN L.length x y ∧ getB (putL (putL L x y 10) a b m) x y = true ∧ getM (putL (putL L x y 10) a b m) x y = 10 ∧ getB (dropL (putL (putL L x y 10) a b m) b) x y = true) := by
  have hn1 : 1 ≤ (putL L x y 10).length := by rw [put_len]; exact hn
  have p1 := get_put hn x y 10
  have p2 := get_put hn1 a b m
  have s1 := get_same hn1 a b m x y
  have o1 := get_other hn1 a b m x y
  rw [put_len] at s1 o1
  have d2 := fun h => (get_drop_other (L := putL (putL L x y 10) a b m) x y b h).1
  have d1 := (get_drop (L := putL (putL L x y 10) a b m) x b).1
  by_cases hi : ixN L.length a b = ixN L.length x y
  · by_cases ha : a = x
    · subst ha
      by_cases hb : b = y
      · subst hb
        exact .inl ⟨rfl, rfl, rfl, p2.1, p2.2, d1⟩
      · have e := s1 hi.symm (fun h => hb h.2)
        exact .inr (.inr (.inl ⟨rfl, hb, hi, e.1, e.2, by rw [d2 (fun h => hb h.symm), e.1]⟩))
    · have e := s1 hi.symm (fun h => ha h.1)
      refine .inr (.inl ⟨ha, hi, e.1, e.2, ?_⟩)
      by_cases hb : b = y
      · subst hb; exact d1
      · rw [d2 (fun h => hb h.symm), e.1]
  · have e := o1 (fun h => hi h.symm)
    rw [p1.1, p1.2] at e
    by_cases ha : a = x
    · have hb : b ≠ y := fun hb => hi (by rw [ha, hb])
      exact .inr (.inr (.inr (.inr (.inr ⟨ha, hb, hi, e.1, e.2, by rw [d2 (fun h => hb h.symm), e.1]⟩))))
    · by_cases hb : b = y
      · subst hb
        exact .inr (.inr (.inr (.inl ⟨ha, rfl, hi, e.1, e.2, d1⟩)))
      · exact .inr (.inr (.inr (.inr (.inl ⟨ha, hb, hi, e.1, e.2, by rw [d2 (fun h => hb h.symm), e.1]⟩))))
set_option maxRecDepth 100000 in
set_option maxHeartbeats 4000000 in
theorem cacheOne_walk (a0 a1 a2 a3 a4 a5 : Int) (w : World) (b1 : 0 ≤ a1 ∧ a1 ≤ 18446744073709551615) (b2 : 0 ≤ a2 ∧ a2 ≤ 18446744073709551615) (b4 : 0 ≤ a4 ∧ a4 ≤ 18446744073709551615) (b5 : 0 ≤ a5 ∧ a5 ≤ 18446744073709551615) :
    Calls Try.prog 3 #[.int .i64 a0, .int .u64 a1, .int .u64 a2, .int .u64 a3, .int .u64 a4, .int .u64 a5] w (Still (.bool true) w) := by
  have hA := awake8 w
  obtain ⟨m, hm⟩ : ∃ m, bits .and .i64 a0 255 = m := ⟨_, rfl⟩
  have hm1 : 0 ≤ m ∧ m ≤ 255 := by rw [← hm]; exact and_mask a0 255 (by omega)
  obtain ⟨n, hn⟩ : ∃ n : Nat, 1 + m = (n : Int) := ⟨(1 + m).toNat, by omega⟩
  obtain ⟨m1, m2⟩ := hm1
  have n1 : 1 ≤ n := by omega
  have n2 : n ≤ 256 := by omega
  have hl0 : (List.replicate n Ln.zero).length = n := by simp
  have hc := one_cases (L := List.replicate n Ln.zero) (by rw [hl0]; exact n1) a1 a2 a3 a4 a5
  have hp := get_put (L := putL (List.replicate n Ln.zero) a4 a5 10) (by rw [put_len, hl0]; exact n1) a1 a2 a3
  have hd := get_drop (L := putL (putL (List.replicate n Ln.zero) a4 a5 10) a1 a2 a3) a1 a2
  rw [hl0] at hc
  clear hl0
  generalize hL2 : putL (putL (List.replicate n Ln.zero) a4 a5 10) a1 a2 a3 = L2 at *
  have HL2E := Lib.hid hL2
  generalize hG1 : getB L2 a4 a5 = G1 at *
  generalize hM1 : getM L2 a4 a5 = M1 at *
  generalize hG2 : getB (dropL L2 a2) a4 a5 = G2 at *
  have HG1 := Lib.hid hG1
  have HM1 := Lib.hid hM1
  have HG2 := Lib.hid hG2
  have HP := Lib.hid hp
  have HD := Lib.hid hd
  have HC := Lib.hid hc
  have HM := Lib.hid hn
  clear hL2 hG1 hM1 hG2 hp hd hc
  go_enter Try.func3, Try.ntmps3
  go_wp2_with fail
  refine hA.mono ?_
  rintro e w1 ⟨rfl, hF1⟩
  have HF1 := Lib.hid hF1
  clear hF1 hA
  go_wp2_with fail
  clear hn hm
  refine (live_cnew w1 n n1 n2).mono ?_
  rintro e w2 ⟨cb, rfl, hL⟩
  have HL2 := Lib.hid hL
  clear hL
  go_wp2_with fail
  refine (live_cput HL2.out _ _ 10 b4.1 b4.2 b5.1 b5.2).mono ?_
  rintro e w3 ⟨rfl, hL⟩
  have HL3 := Lib.hid hL
  clear hL
  go_wp2_with fail
  refine (live_cput HL3.out _ _ a3 b1.1 b1.2 b2.1 b2.2).mono ?_
  rintro e w4 ⟨rfl, hL⟩
  have hL' : CLive w1 cb { Tab.fresh n with L := L2 } w4 := by have h := hL; simp only [Tab.fresh] at h; rw [HL2E.out] at h; exact h
  have HL4 := Lib.hid hL'
  clear hL hL'
  have g5 := live_cget HL4.out _ _ b1.1 b1.2 b2.1 b2.2
  simp only [HP.out.1, HP.out.2] at g5
  go_wp2_with fail
  refine g5.mono ?_
  rintro e w5 ⟨rfl, hL⟩
  have HL5 := Lib.hid hL
  clear hL g5
  have g6 := live_cget HL5.out _ _ b4.1 b4.2 b5.1 b5.2
  simp only [HG1.out, HM1.out] at g6
  go_wp2_with fail
  refine g6.mono ?_
  rintro e w6 ⟨rfl, hL⟩
  have HL6 := Lib.hid hL
  clear hL g6
  obtain ⟨i, hi⟩ : ∃ i, i = ixN n a1 a2 := ⟨_, rfl⟩
  obtain ⟨j, hj⟩ : ∃ j, j = ixN n a4 a5 := ⟨_, rfl⟩
  have ti := ixN_tmod n1 a1 a2
  have tj := ixN_tmod n1 a4 a5
  have ki : IntKind.u64.wrap (IntKind.u64.wrap (IntKind.u64.wrap (a1.tdiv 2) * 31) + IntKind.u64.wrap (a2.tdiv 2)) = keyI a1 a2 := rfl
  have kj : IntKind.u64.wrap (IntKind.u64.wrap (IntKind.u64.wrap (a4.tdiv 2) * 31) + IntKind.u64.wrap (a5.tdiv 2)) = keyI a4 a5 := rfl
  have ki2 := keyI_alt b1.1 b1.2 b2.1 b2.2
  have kj2 := keyI_alt b4.1 b4.2 b5.1 b5.2
  have bi := keyI_bd a1 a2
  have bj := keyI_bd a4 a5
  rw [← hi] at ti
  rw [← hj] at tj
  generalize keyI a1 a2 = S1 at *
  generalize keyI a4 a5 = S2 at *
  have hnz' : ¬ n = 0 := by omega
  have HI := Lib.hid hi
  have HJ := Lib.hid hj
  clear hi hj
  have hwn : IntKind.u64.wrap (n : Int) = (n : Int) := by rw [IntKind.wrap_u64]; omega
  go_wp2_with fail
  go_quiet (fail)
  have HL7 := Lib.hid (HL6.out.still ((Fr.refl [] w6).drewN nq))
  have HC2 : Hid ((a1 = a4 ∧ a2 = a5 ∧ i = j ∧ G1 = true ∧ M1 = a3 ∧ G2 = false) ∨ (a1 ≠ a4 ∧ i = j ∧ G1 = false ∧ M1 = 0 ∧ G2 = false) ∨ (a1 = a4 ∧ a2 ≠ a5 ∧ i = j ∧ G1 = false ∧ M1 = 0 ∧ G2 = false) ∨ (a1 ≠ a4 ∧ a2 = a5 ∧ i ≠ j ∧ G1 = true ∧ M1 = 10 ∧ G2 = false) ∨ (a1 ≠ a4 ∧ a2 ≠ a5 ∧ i ≠ j ∧ G1 = true ∧ M1 = 10 ∧ G2 = true) ∨ (a1 = a4 ∧ a2 ≠ a5 ∧ i ≠ j ∧ G1 = true ∧ M1 = 10 ∧ G2 = true)) := by rw [HI.out, HJ.out]; exact HC.out
  have HEND : Hid (∀ v7, CLive w1 cb { Tab.fresh n with L := L2 } v7 → Calls Try.prog 9 #[.pointer (some ⟨cb, 0, none⟩), .int .u64 a2] v7 (LTurns (.tuple #[]) w1 cb { Tab.fresh n with L := dropL L2 a2, D := noteL (Tab.fresh n).D a2 })) := Lib.hid fun v7 h => live_cdrop h a2
  have HE1 : Hid (∀ v8, CLive w1 cb { Tab.fresh n with L := dropL L2 a2, D := noteL (Tab.fresh n).D a2 } v8 → Calls Try.prog 8 #[.pointer (some ⟨cb, 0, none⟩), .int .u64 a1, .int .u64 a2] v8 (LTurns (.tuple #[.int .u64 0, .bool false]) w1 cb { Tab.fresh n with L := dropL L2 a2, D := noteL (Tab.fresh n).D a2 })) := by
    refine Lib.hid fun v8 h => ?_
    have g := live_cget h _ _ b1.1 b1.2 b2.1 b2.2
    simp only [HD.out.1, HD.out.2] at g
    exact g
  obtain ⟨M2, hM2⟩ : ∃ M2, M2 = getM (dropL L2 a2) a4 a5 := ⟨_, rfl⟩
  have HE2 : Hid (∀ v8, CLive w1 cb { Tab.fresh n with L := dropL L2 a2, D := noteL (Tab.fresh n).D a2 } v8 → Calls Try.prog 8 #[.pointer (some ⟨cb, 0, none⟩), .int .u64 a4, .int .u64 a5] v8 (LTurns (.tuple #[.int .u64 M2, .bool G2]) w1 cb { Tab.fresh n with L := dropL L2 a2, D := noteL (Tab.fresh n).D a2 })) := by
    refine Lib.hid fun v8 h => ?_
    have g := live_cget h _ _ b4.1 b4.2 b5.1 b5.2
    simp only [HG2.out, ← hM2] at g
    exact g
  clear ki2 kj2 hM2 HG1 HM1 HG2 HP HD HC HI HJ HL2E HL2 HL3 HL4 HL5 HL6 b1 b2 b4 b5 ti tj ki kj bi bj hwn hnz' HM m1 m2
  rcases HC2.out with ⟨rfl, rfl, rfl, rfl, rfl, rfl⟩ | ⟨ha, rfl, rfl, rfl, rfl⟩ | ⟨rfl, hb, rfl, rfl, rfl, rfl⟩ | ⟨ha, rfl, hij, rfl, rfl, rfl⟩ | ⟨ha, hb, hij, rfl, rfl, rfl⟩ | ⟨rfl, hb, hij, rfl, rfl, rfl⟩
  case' inr.inl => have f1 : (a1 == a4) = false := by simpa using ha
  case' inr.inr.inl => have f1 : (a2 == a5) = false := by simpa using hb
  case' inr.inr.inr.inl => have f1 : (a1 == a4) = false := by simpa using ha
  case' inr.inr.inr.inr.inl => have f1 : (a1 == a4) = false := by simpa using ha
  case' inr.inr.inr.inr.inr => have f1 : (a2 == a5) = false := by simpa using hb
  case' inr.inr.inr.inl => have f2 : ((i : Int) == (j : Int)) = false := by simp; omega
  case' inr.inr.inr.inr.inl => have f2 : ((i : Int) == (j : Int)) = false := by simp; omega
  case' inr.inr.inr.inr.inr => have f2 : ((i : Int) == (j : Int)) = false := by simp; omega
  case' inr.inr.inr.inr.inl => have f3 : (a5 != a2) = true := by simpa using fun e => hb e.symm
  case' inr.inr.inr.inr.inr => have f3 : (a5 != a2) = true := by simpa using fun e => hb e.symm
  all_goals
    (try clear ha)
    (try clear hb)
    (try clear hij)
    clear HC2
    go_wp2_with fail
    refine (HEND.out _ HL7.out).mono ?_
    rintro e w8 ⟨rfl, hL⟩
    have HL8 := Lib.hid hL
    clear hL
    go_wp2_with fail
    refine (HE1.out _ HL8.out).mono ?_
    rintro e w9 ⟨rfl, hL⟩
    have HL9 := Lib.hid hL
    clear hL
    go_wp2_with fail
    refine (HE2.out _ HL9.out).mono ?_
    rintro e w10 ⟨rfl, hL⟩
    have HL10 := Lib.hid hL
    clear hL
    go_wp2_with fail
    go_ret
    exact ⟨rfl, HF1.out.trans HL10.out.fr⟩
end Go.Proofs.Ytpapjoonnmnnaaa
