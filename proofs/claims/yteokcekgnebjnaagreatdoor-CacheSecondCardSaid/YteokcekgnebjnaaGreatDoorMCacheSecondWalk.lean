/- CacheSecond, walked. -/
import Derived.Test.YteokcekgnebjnaaGreatDoorMCacB
import Derived.Test.YteokcekgnebjnaaGreatDoorMMask
namespace Go.Proofs.YteokcekgnebjnaaGreatDoor
open Go.RowKit

theorem objects_of8 {W : World} {hb mb : Nat} {lim root hashes : Int} {os : List Ob} {wv sv : Value} (hI : OInv lim os hashes) (hH : HeapAt W hb mb (absMem lim os root hashes) wv sv) :
    Calls Tryz.prog 7 #[.pointer (some ⟨hb, 0, none⟩)] W fun e W' => ∃ ao cap, e = .returned (.slice ao (refsO os).length cap) ∧ WordsAt W' ao (refsO os) ∧ Fr [] W W' ∧ ∀ a, ao = some a → W.heap.size ≤ a.block :=
  (objects_at hI (w := { W with heap := #[] }) ⟨wv, sv, hH, ⟨rfl, rfl, rfl, Nat.zero_le _, fun k hk => absurd hk (by simp)⟩, Nat.zero_le _, fun _ _ => Nat.zero_le _⟩).mono fun _ _ ⟨ao, cap, h1, h2, h3, h4, _⟩ => ⟨ao, cap, h1, h2, h3, h4⟩
theorem put_got {L : List Ln} (hn : 1 ≤ L.length) (c s m : Int) : getB (putL L c s m) c s = true ∧ getM (putL L c s m) c s = m := by
  have h := ixN_lt hn c s
  have e : (putL L c s m)[ixN L.length c s]? = some ⟨c, s, true, m⟩ := by unfold putL; rw [List.getElem?_set_self h]
  have hl : (putL L c s m).length = L.length := by simp [putL]
  unfold getB getM
  rw [hl, e]
  simp [Ln.is]
theorem fresh_no (n : Nat) (c s : Int) : getB (List.replicate n Ln.zero) c s = false := by
  unfold getB
  rw [List.length_replicate, List.getElem?_replicate]
  split
  · next l hl => split at hl
                 · cases hl; simp [Ln.is, Ln.zero]
                 · cases hl
  · rfl
theorem obs_le (os : List Ob) : os.length ≤ endOf os := by
  unfold endOf
  induction os with
  | nil => simp
  | cons a l ih =>
    rw [flatW_cons, List.length_append, wordsOb_len, List.length_cons]
    omega
/-- a word that was chosen is a word -/
theorem chosenI_WB {l : List Int} (hl : ∀ x ∈ l, WB x) {x i : Int} (hx : WB x) : WB (chosenI l x i) := by
  unfold chosenI
  split
  · next h =>
    rw [List.getD_eq_getElem?_getD]
    cases hk : l[i.toNat % l.length]? with
    | none => exact wb_zero
    | some v => exact hl v (List.mem_of_getElem? hk)
  · exact hx
/-- the words that are found twice: what is answered, what the cache then holds -/
theorem twice_some {w0 : World} {hb mb cb n : Nat} {lim root hashes : Int} {os : List Ob} {wv sv : Value} (h0 : HpAt w0 hb mb lim os root hashes wv sv) (n1 : 1 ≤ n) (a b m : Int) (ha : WB a) (hb' : WB b) (hl : lookR os root a b = some m) : ∃ T1 T2 : Tab, T2.r = 1 ∧ T2.k = 1 ∧
    (∀ v, CLive w0 cb (Tab.fresh n) v → Calls Tryz.prog 9 #[.pointer (some ⟨cb, 0, none⟩), .pointer (some ⟨hb, 0, none⟩), .int .u64 a, .int .u64 b] v (LTurns (.tuple #[.int .u64 m, .int .i64 0]) w0 cb T1)) ∧
    (∀ v, CLive w0 cb T1 v → Calls Tryz.prog 9 #[.pointer (some ⟨cb, 0, none⟩), .pointer (some ⟨hb, 0, none⟩), .int .u64 a, .int .u64 b] v (LTurns (.tuple #[.int .u64 m, .int .i64 0]) w0 cb T2)) := by
  have f0 := fresh_no n a b
  have p0 := put_got (L := List.replicate n Ln.zero) (by simpa using n1) a b m
  refine ⟨⟨putL (List.replicate n Ln.zero) a b m, [], 0, 1⟩, ⟨putL (List.replicate n Ln.zero) a b m, [], 1, 1⟩, rfl, rfl, fun v h => ?_, fun v h => ?_⟩
  · have g := live_cfind h0 h a b ha hb' (by simp [Tab.fresh]) (by simp [Tab.fresh]) (by simp [Tab.fresh]) (by simp [Tab.fresh])
    unfold cfindV cfindT at g
    simp only [Tab.fresh, f0, hl, Bool.false_eq_true, if_false, lookV] at g
    exact g
  · have g := live_cfind h0 h a b ha hb' (by simp) (by simp) (by simp) (by simp)
    unfold cfindV cfindT at g
    simp only [p0.1, p0.2, if_true] at g
    exact g
theorem twice_none {w0 : World} {hb mb cb n : Nat} {lim root hashes : Int} {os : List Ob} {wv sv : Value} (h0 : HpAt w0 hb mb lim os root hashes wv sv) (a b : Int) (ha : WB a) (hb' : WB b) (hl : lookR os root a b = none) : ∃ T1 T2 : Tab, T2.r = 0 ∧ T2.k = 2 ∧
    (∀ v, CLive w0 cb (Tab.fresh n) v → Calls Tryz.prog 9 #[.pointer (some ⟨cb, 0, none⟩), .pointer (some ⟨hb, 0, none⟩), .int .u64 a, .int .u64 b] v (LTurns (.tuple #[.int .u64 0, .int .i64 5]) w0 cb T1)) ∧
    (∀ v, CLive w0 cb T1 v → Calls Tryz.prog 9 #[.pointer (some ⟨cb, 0, none⟩), .pointer (some ⟨hb, 0, none⟩), .int .u64 a, .int .u64 b] v (LTurns (.tuple #[.int .u64 0, .int .i64 5]) w0 cb T2)) := by
  have f0 := fresh_no n a b
  refine ⟨⟨List.replicate n Ln.zero, [], 0, 1⟩, ⟨List.replicate n Ln.zero, [], 0, 2⟩, rfl, rfl, fun v h => ?_, fun v h => ?_⟩
  · have g := live_cfind h0 h a b ha hb' (by simp [Tab.fresh]) (by simp [Tab.fresh]) (by simp [Tab.fresh]) (by simp [Tab.fresh])
    unfold cfindV cfindT at g
    simp only [Tab.fresh, f0, hl, Bool.false_eq_true, if_false, lookV] at g
    exact g
  · have g := live_cfind h0 h a b ha hb' (by simp) (by simp) (by simp) (by simp)
    unfold cfindV cfindT at g
    simp only [f0, hl, Bool.false_eq_true, if_false, lookV] at g
    exact g
set_option maxRecDepth 100000 in
set_option maxHeartbeats 4000000 in
theorem cacheSecond_walk {w : World} (hg : Glob w) {ao : Option Addr} {cap : Nat} (its : List (It × Int)) (hG : G4 w ao its) (hB : B4 its) (ln rt hs0 : Int) (hrt : WB rt) (hh1 : -9223372036854775808 ≤ hs0) (hh2 : hs0 ≤ 9223372036854775807) (o0 o1 o2 o3 o4 : Int) (i1 : -9223372036854775808 ≤ o1 ∧ o1 ≤ 9223372036854775807) (i2 : -9223372036854775808 ≤ o2 ∧ o2 ≤ 9223372036854775807) (h4 : WB o4) :
    Calls Tryz.prog 3 #[.int .i64 ln, .slice ao its.length cap, .int .u64 rt, .int .i64 hs0, .agg #[.int .i64 o0, .int .i64 o1, .int .i64 o2, .int .i64 o3, .int .u64 o4]] w (Still (.bool true) w) := by
  have hA := fun w' => awake8 w'
  have hLd := fun w' (hF : Fr [] w w') => loaded8 (cap := cap) (hg.fr hF) its (hG.fr0 hF) hB rt hs0 hrt hh1 hh2
  obtain ⟨m, hm⟩ : ∃ m, bits .and .i64 ln 255 = m := ⟨_, rfl⟩
  have hm1 : 0 ≤ m ∧ m ≤ 255 := by rw [← hm]; exact and_mask ln 255 (by omega)
  obtain ⟨n, hn⟩ : ∃ n : Nat, 1 + m = (n : Int) := ⟨(1 + m).toNat, by omega⟩
  obtain ⟨m1, m2⟩ := hm1
  have n1 : 1 ≤ n := by omega
  have n2 : n ≤ 256 := by omega
  have HG := Lib.hid hg
  have HRT := Lib.hid hrt
  have H4 := Lib.hid h4
  clear hG hB hg hrt h4
  generalize its.length = N at *
  go_enter Tryz.func3, Tryz.ntmps3
  go_wp2_with fail
  refine (hA _).mono ?_
  rintro e w1 ⟨rfl, hF1⟩
  have HBX1 : Hid (w1.heap[w.heap.size]? = some (.cells #[.int .i64 o0, .int .i64 o1, .int .i64 o2, .int .i64 o3, .int .u64 o4] 26 (0, 0))) := hF1.heap (by simp) (heap_new w _)
  have HF1 : Hid (Fr [] w w1) := ((Fr.refl _ _).alloc _).trans hF1
  clear hF1 hA
  go_wp2_with fail
  refine (hLd _ HF1.out).mono ?_
  rintro e w2 ⟨hb, mb, rb, os, root, hs, l, rfl, hI, -, hT, hO⟩
  obtain ⟨wv, sv, hH⟩ := hT.hp (HG.out.fr HF1.out) hI (hO.root HRT.out)
  have HH := Lib.hid hH
  have HF12 : Hid (Fr [] w1 w2) := hT.fr
  have HI := Lib.hid hI
  clear hI hT hO hH hLd
  go_wp2_with fail
  clear hm hn
  refine (live_cnew w2 n n1 n2).mono ?_
  rintro e w3 ⟨cb, rfl, hL⟩
  have HL3 := Lib.hid hL
  clear hL
  go_wp2_with fail
  refine (objects_of8 HI.out (HH.out.fr0 HL3.out.fr).heap).mono ?_
  rintro e w4 ⟨ko, kc, rfl, hW4, hF4, -⟩
  have HL4 := Lib.hid (HL3.out.still hF4)
  have HW4 := Lib.hid hW4
  have hbx := HL4.out.fr.heap (by simp) (HF12.out.heap (by simp) HBX1.out)
  have q1 := cell_of_heap (o := 1) hbx rfl
  have q2 := cell_of_heap (o := 2) hbx rfl
  have q4 := cell_of_heap (o := 4) hbx rfl
  have hrl : (refsO os).length ≤ 65536 := by
    have h1 := HH.out.le
    have h2 := obs_le os
    rw [refsO_len]
    omega
  have hc1 := chosen8 (cap := kc) (refsO os) hW4 hrl o4 o1 i1.1 i1.2
  have hc2 := chosen8 (cap := kc) (refsO os) hW4 hrl o4 o2 i2.1 i2.2
  have ha := chosenI_WB (i := o1) (refsO_WB HI.out) H4.out
  have hb' := chosenI_WB (i := o2) (refsO_WB HI.out) H4.out
  generalize chosenI (refsO os) o4 o1 = a at *
  generalize chosenI (refsO os) o4 o2 = b at *
  generalize (refsO os).length = kn at *
  cases hlk : lookR os root a b with
  | none =>
    obtain ⟨T1, T2, t1, t2, hf1, hf2⟩ := twice_none (cb := cb) (n := n) HH.out a b ha hb' hlk
    have HF2 := Lib.hid hf2
    have hcn : ∀ v, CLive w2 cb T2 v → Calls Tryz.prog 10 #[.pointer (some ⟨cb, 0, none⟩)] v (LTurns (.tuple #[.int .i64 0, .int .i64 2]) w2 cb T2) := fun v h => by have := live_ccounts h; rw [t1, t2] at this; exact this
    have HCN := Lib.hid hcn
    clear hf2 hcn hbx hrl hW4 hF4 hlk ha hb' t1 t2
    go_wp2_with fail
    refine hc1.mono ?_
    rintro e w5 ⟨rfl, rfl⟩
    go_wp2_with fail
    refine hc2.mono ?_
    rintro e w6 ⟨rfl, rfl⟩
    clear hc1 hc2
    go_wp2_with fail
    refine (hf1 _ HL4.out).mono ?_
    rintro e w7 ⟨rfl, hL⟩
    have HL7 := Lib.hid hL
    clear hL hf1 q1 q2 q4
    go_wp2_with fail
    refine (HF2.out _ HL7.out).mono ?_
    rintro e w8 ⟨rfl, hL⟩
    have HL8 := Lib.hid hL
    clear hL
    go_wp2_with fail
    refine (HCN.out _ HL8.out).mono ?_
    rintro e w9 ⟨rfl, hL⟩
    have HL9 := Lib.hid hL
    clear hL
    go_wp2_with fail
    go_ret
    exact ⟨rfl, (HF1.out.trans HF12.out).trans HL9.out.fr⟩
  | some mm =>
    obtain ⟨T1, T2, t1, t2, hf1, hf2⟩ := twice_some (cb := cb) HH.out n1 a b mm ha hb' hlk
    have HF2 := Lib.hid hf2
    have hcn : ∀ v, CLive w2 cb T2 v → Calls Tryz.prog 10 #[.pointer (some ⟨cb, 0, none⟩)] v (LTurns (.tuple #[.int .i64 1, .int .i64 1]) w2 cb T2) := fun v h => by have := live_ccounts h; rw [t1, t2] at this; exact this
    have HCN := Lib.hid hcn
    clear hf2 hcn hbx hrl hW4 hF4 hlk ha hb' t1 t2
    go_wp2_with fail
    refine hc1.mono ?_
    rintro e w5 ⟨rfl, rfl⟩
    go_wp2_with fail
    refine hc2.mono ?_
    rintro e w6 ⟨rfl, rfl⟩
    clear hc1 hc2
    go_wp2_with fail
    refine (hf1 _ HL4.out).mono ?_
    rintro e w7 ⟨rfl, hL⟩
    have HL7 := Lib.hid hL
    clear hL hf1 q1 q2 q4
    go_wp2_with fail
    refine (HF2.out _ HL7.out).mono ?_
    rintro e w8 ⟨rfl, hL⟩
    have HL8 := Lib.hid hL
    clear hL
    go_wp2_with fail
    refine (HCN.out _ HL8.out).mono ?_
    rintro e w9 ⟨rfl, hL⟩
    have HL9 := Lib.hid hL
    clear hL
    go_wp2_with fail
    go_ret
    exact ⟨rfl, (HF1.out.trans HF12.out).trans HL9.out.fr⟩
end Go.Proofs.YteokcekgnebjnaaGreatDoor
