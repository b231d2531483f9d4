/- CachePlays, walked. -/
import Derived.Test.YtofhgfgipdokbaaGreatDoorMCpA
import Derived.Test.YtofhgfgipdokbaaGreatDoorMCpOpen
import Derived.Test.YtofhgfgipdokbaaGreatDoorMCacB
import Derived.Test.YtofhgfgipdokbaaGreatDoorMMask
namespace Go.Proofs.YtofhgfgipdokbaaGreatDoor
open Go.RowKit

theorem cp_objects {W : World} {hb mb : Nat} {lim root hashes : Int} {os : List Ob} {wv sv : Value} (hI : OInv lim os hashes) (hH : HeapAt W hb mb (absMem lim os root hashes) wv sv) :
    Calls Tryz.prog 8 #[.pointer (some ⟨hb, 0, none⟩)] W fun e W' => ∃ ao cap, e = .returned (.slice ao (refsO os).length cap) ∧ WordsAt W' ao (refsO os) ∧ Fr [] W W' ∧ ∀ a, ao = some a → W.heap.size ≤ a.block :=
  (objects_at hI (w := { W with heap := #[] }) ⟨wv, sv, hH, ⟨rfl, rfl, rfl, Nat.zero_le _, fun k hk => absurd hk (by simp)⟩, Nat.zero_le _, fun _ _ => Nat.zero_le _⟩).mono fun _ _ ⟨ao, cap, h1, h2, h3, h4, _⟩ => ⟨ao, cap, h1, h2, h3, h4⟩
theorem cp_len (os : List Ob) : os.length ≤ endOf os := by
  unfold endOf
  induction os with
  | nil => simp
  | cons a l ih =>
    rw [flatW_cons, List.length_append, wordsOb_len, List.length_cons]
    omega
theorem cp_WB {l : List Int} (hl : ∀ x ∈ l, WB x) {x i : Int} (hx : WB x) : WB (chosenI l x i) := by
  unfold chosenI
  split
  · next h =>
    rw [List.getD_eq_getElem?_getD]
    cases hk : l[i.toNat % l.length]? with
    | none => exact wb_zero
    | some v => exact hl v (List.mem_of_getElem? hk)
  · exact hx
theorem cp_find (T : Tab) (o : Option Int) (c s : Int) : ∃ x e, cfindV T o c s = .tuple #[.int .u64 x, .int .i64 e] := by
  unfold cfindV
  split
  · exact ⟨_, _, rfl⟩
  · cases o with
    | none => exact ⟨_, _, rfl⟩
    | some m => exact ⟨_, _, rfl⟩
theorem cp_bounds {T : Tab} {o : Option Int} {c s : Int} {k : Nat} (h : 0 ≤ T.r ∧ T.r ≤ k ∧ 0 ≤ T.k ∧ T.k ≤ k) : 0 ≤ (cfindT T o c s).r ∧ (cfindT T o c s).r ≤ ((k + 1 : Nat) : Int) ∧ 0 ≤ (cfindT T o c s).k ∧ (cfindT T o c s).k ≤ ((k + 1 : Nat) : Int) := by
  obtain ⟨h1, h2, h3, h4⟩ := h
  unfold cfindT
  split
  · refine ⟨?_, ?_, ?_, ?_⟩ <;> simp only <;> omega
  · cases o with
    | none => refine ⟨?_, ?_, ?_, ?_⟩ <;> simp only <;> omega
    | some m => refine ⟨?_, ?_, ?_, ?_⟩ <;> simp only <;> omega
theorem cs_counts2 {w0 w : World} {X : List (Nat × Obj)} {cb rc : Nat} {T R : Tab} (h : Cs w0 X cb rc T R w) (r k : Int) (hr : T.r = r) (hk : T.k = k) (hr' : R.r = r) (hk' : R.k = k) : Calls Tryz.prog 23 #[.pointer (some ⟨cb, 0, none⟩)] w (fun e w' => e = .returned (.tuple #[.int .i64 r, .int .i64 k]) ∧ Cs w0 X cb rc T R w' ∧ w'.cell? ⟨rc, 1, none⟩ = some (.int .i64 r) ∧ w'.cell? ⟨rc, 2, none⟩ = some (.int .i64 k)) := by
  refine (cs_counts h).mono fun e w' ⟨he, hC⟩ => ?_
  obtain ⟨g1, g2⟩ := cs_cells hC
  exact ⟨by rw [he, hr, hk], hC, by rw [g1, hr'], by rw [g2, hk']⟩
theorem cell_same {w w' : World} {g o : Nat} (h : w'.heap[g]? = w.heap[g]?) : w'.cell? ⟨g, o, none⟩ = w.cell? ⟨g, o, none⟩ := by
  unfold World.cell?
  rw [h]
set_option maxRecDepth 100000 in
set_option maxHeartbeats 8000000 in
theorem cachePlays_at {w : World} (hg : Glob w) {ao : Option Addr} {cap : Nat} (its : List (It × Int)) (hG : G4 w ao its) (hB : B4 its) (n : Nat) (n1 : 1 ≤ n) (n2 : n ≤ 256) (rt hs0 : Int) (hrt : WB rt) (hh1 : -9223372036854775808 ≤ hs0) (hh2 : hs0 ≤ 9223372036854775807) {sa : Option Addr} {sl sc : Nat} (hS : Ops8At w sa sl) :
    Calls Tryz.prog 3 #[.int .i64 n, .slice ao its.length cap, .int .u64 rt, .int .i64 hs0, .slice sa sl sc] w (Still (.bool true) w) := by
  have hA := fun w' => awake8 w'
  have hLd := fun w' (hF : Fr [] w w') => loaded8 (cap := cap) (hg.fr hF) its (hG.fr0 hF) hB rt hs0 hrt hh1 hh2
  have HG := Lib.hid hg
  have HRT := Lib.hid hrt
  have HS := Lib.hid hS
  clear hG hB hg hrt hS
  generalize its.length = N at *
  go_enter Tryz.func3, Tryz.ntmps3
  go_wp2_with fail
  refine (hA _).mono ?_
  rintro e w1 ⟨rfl, hF1⟩
  have HF1 := Lib.hid hF1
  clear hF1 hA
  go_wp2_with fail
  refine (hLd _ HF1.out).mono ?_
  rintro e w2 ⟨hb, mb, rb, os, root, hs, l, rfl, hI, ha, hT, hO⟩
  have hroot := hO.root HRT.out
  have HFT := Lib.hid hT.fr
  obtain ⟨wv, sv, hH⟩ := hT.hp (HG.out.fr HF1.out) hI hroot
  obtain ⟨wv', sv', lv, -, -, hRf, -⟩ := hT
  have HR0 : Hid (RpAt w2 rb 8192 os root hs l lv) := Lib.hid ⟨hI, ha, hRf, hroot⟩
  have HH := Lib.hid hH
  have HF12 : Hid (Fr [] w w2) := Lib.hid (HF1.out.trans HFT.out)
  have HI := Lib.hid hI
  clear hI hO hH hLd hRf ha hroot
  go_wp2_with fail
  refine (newYes w2 n n1 n2).mono ?_
  rintro e w3 ⟨cb, tb, lb, dv, rfl, hC3, hF3, hcb, hk3⟩
  have HC3 := Lib.hid hC3
  have HF3 := Lib.hid hF3
  have HK3 := Lib.hid hk3
  clear hC3 hF3 hk3
  go_wp2_with fail
  refine (rnewYes w3 n n1 n2).mono ?_
  rintro e w4 ⟨rc, rl, rfl, hR4, hF4, hrc, hrl⟩
  have HCS : Hid (Cs w2 [] cb rc (Tab.fresh n) (Tab.fresh n) w4) := Lib.hid ⟨tb, lb, dv, rl, none, 0, HC3.out.fr0 hF4, hR4, HF3.out.trans hF4, hcb, HK3.out, Nat.le_trans HF3.out.size hrc, Nat.le_trans HF3.out.size hrl, (fun a ha => by cases ha), fun p hp => by cases hp⟩
  clear hR4 hF4 hrc hrl hcb
  go_wp2_with fail
  refine (cp_objects HI.out (HH.out.fr0 HCS.out.fr).heap).mono ?_
  rintro e w5 ⟨ko, kc, rfl, hW5, hF5, hkb⟩
  obtain ⟨X, hX5, hXW⟩ : ∃ X, Cs w2 X cb rc (Tab.fresh n) (Tab.fresh n) w5 ∧ ∀ wr T R, Cs w2 X cb rc T R wr → WordsAt wr ko (refsO os) := by
    by_cases h0 : refsO os = []
    · exact ⟨[], HCS.out.still hF5, fun wr T R _ i x hx => by rw [h0] at hx; simp at hx⟩
    · obtain ⟨y, hy⟩ : ∃ y, (refsO os)[0]? = some y := ⟨_, List.getElem?_eq_getElem (List.length_pos_iff.2 h0)⟩
      obtain ⟨g, o, rfl, hc⟩ := hW5 0 y hy
      have hgl := World.block_lt_of_cell? w5 _ hc
      simp only at hgl
      have hgb : w5.heap[g]? = some w5.heap[g] := Array.getElem?_eq_getElem hgl
      refine ⟨[(g, w5.heap[g])], HCS.out.keep hF5 hgb (hkb _ rfl), fun wr T R hC i x hx => ?_⟩
      obtain ⟨g', o', e, hc'⟩ := hW5 i x hx
      cases e
      obtain ⟨tb, lb, dv, rl, ga, gc, -, -, -, -, -, -, -, -, h9⟩ := hC
      have h1 := (h9 (g, w5.heap[g]) (by simp)).1
      exact ⟨g, o, rfl, (cell_same (h1.trans hgb.symm)).trans hc'⟩
  have HC5 := Lib.hid hX5
  have HXW := Lib.hid hXW
  have hrl : (refsO os).length ≤ 65536 := by
    have h1 := HH.out.le
    have h2 := cp_len os
    rw [refsO_len]
    omega
  have HRL := Lib.hid hrl
  obtain ⟨kn, hkn⟩ : ∃ kn, kn = (refsO os).length := ⟨_, rfl⟩
  rw [← hkn]
  have HKN := Lib.hid hkn
  clear hW5 hF5 hrl hkn hkb hX5 hXW
  go_wp2_with fail
  go_loopw [19] (fun iv wr => ∃ (k : Nat) (T : Tab), k ≤ 200 ∧ iv = .int .i64 k ∧ Hid (Cs w2 X cb rc T T wr) ∧ Hid (0 ≤ T.r ∧ T.r ≤ k ∧ 0 ≤ T.k ∧ T.k ≤ k)) (fun iv _ => 200 - (intOf iv).toNat)
  case atStart => exact ⟨0, Tab.fresh n, by omega, rfl, HC5, Lib.hid ⟨by show (0 : Int) ≤ 0; omega, by show (0 : Int) ≤ _; omega, by show (0 : Int) ≤ 0; omega, by show (0 : Int) ≤ _; omega⟩⟩
  case round =>
    obtain ⟨k, T, hk, rfl, hC, hT⟩ := hrel
    by_cases hlt : k < sl ∧ k < 200
    · obtain ⟨h1, h2⟩ := hlt
      obtain ⟨g, o, z0, z1, z2, z3, z4, rfl, ⟨b0, b1, b2, b3, b4⟩, q0, q1, q2, q3, q4⟩ := HS.out k h1
      have hFk := HF12.out.trans hC.out.fr
      have d0 := hFk.cell (by simp) q0
      have d1 := hFk.cell (by simp) q1
      have d2 := hFk.cell (by simp) q2
      have d3 := hFk.cell (by simp) q3
      have d4 := hFk.cell (by simp) q4
      clear q0 q1 q2 q3 q4 hFk
      have k0 : (0 : Int) ≤ (k : Int) := by omega
      have k1 : (k : Int) < (sl : Int) := by omega
      have k2 : (k : Int) < 200 := by omega
      obtain ⟨q, hq⟩ : ∃ q, bits .and .i64 z0 7 = q := ⟨_, rfl⟩
      have hqb : 0 ≤ q ∧ q ≤ 7 := by rw [← hq]; exact and_mask z0 7 (by omega)
      obtain ⟨hq0, hq7⟩ := hqb
      obtain ⟨W1, hW1⟩ : ∃ W1, W1 = wr.alloc (.cells #[.int .i64 z0, .int .i64 z1, .int .i64 z2, .int .i64 z3, .int .u64 z4] 41) := ⟨_, rfl⟩
      obtain ⟨ob, hob⟩ : ∃ ob, ob = wr.heap.size := ⟨_, rfl⟩
      have HC1 : Hid (Cs w2 X cb rc T T W1) := Lib.hid (by rw [hW1]; exact hC.out.still ((Fr.refl _ _).alloc _))
      have hbx : W1.heap[ob]? = some (.cells #[.int .i64 z0, .int .i64 z1, .int .i64 z2, .int .i64 z3, .int .u64 z4] 41 (0, 0)) := by rw [hW1, hob]; exact heap_new wr _
      have e0 := cell_of_heap (o := 0) hbx rfl
      have e1 := cell_of_heap (o := 1) hbx rfl
      have e2 := cell_of_heap (o := 2) hbx rfl
      have e3 := cell_of_heap (o := 3) hbx rfl
      have e4 := cell_of_heap (o := 4) hbx rfl
      have hc1 := chosen8 (cap := kc) (refsO os) (HXW.out _ _ _ HC1.out) HRL.out z4 z1 b1.1 b1.2
      have hc2 := chosen8 (cap := kc) (refsO os) (HXW.out _ _ _ HC1.out) HRL.out z4 z2 b2.1 b2.2
      have hc3 := chosen8 (cap := kc) (refsO os) (HXW.out _ _ _ HC1.out) HRL.out z4 z3 b3.1 b3.2
      rw [← HKN.out] at hc1 hc2 hc3
      have ha := cp_WB (i := z1) (refsO_WB HI.out) b4
      have hb' := cp_WB (i := z2) (refsO_WB HI.out) b4
      generalize chosenI (refsO os) z4 z1 = a at *
      generalize chosenI (refsO os) z4 z2 = b at *
      generalize chosenI (refsO os) z4 z3 = m at *
      have HA := Lib.hid ha
      have HBB := Lib.hid hb'
      have HW1 := Lib.hid hW1
      have HOB := Lib.hid hob
      clear hbx hob hW1 ha hb'
      go_wp2_with fail
      rw [← HOB.out, ← HW1.out]
      clear d0 d1 d2 d3 d4
      refine hc1.mono ?_
      rintro e w' ⟨rfl, rfl⟩
      go_wp2_with fail
      refine hc2.mono ?_
      rintro e w' ⟨rfl, rfl⟩
      go_wp2_with fail
      refine hc3.mono ?_
      rintro e w' ⟨rfl, rfl⟩
      clear hc1 hc2 hc3
      obtain h | h | h | h | h | h | h | h : q = 0 ∨ q = 1 ∨ q = 2 ∨ q = 3 ∨ q = 4 ∨ q = 5 ∨ q = 6 ∨ q = 7 := by omega
      · subst h
        go_wp2_with (first | (go_at_call 21; refine (cs_get HC1.out a b HA.out HBB.out).mono ?_; rintro e w6 ⟨rfl, h6⟩; have HC6 := Lib.hid h6; clear h6) | (go_at_call 22; refine (cs_rget HC6.out a b HA.out HBB.out).mono ?_; rintro e w7 ⟨rfl, h7⟩; have HC7 := Lib.hid h7; clear h7) | (go_at_call 23; refine (cs_counts2 HC7.out T.r T.k rfl rfl rfl rfl).mono ?_; rintro e w8 ⟨rfl, h8, g1, g2⟩; have HC8 := Lib.hid h8; clear h8))
        all_goals (go_wp2_with fail)
        all_goals go_roundw
        case rel => exact ⟨k + 1, _, by omega, by go_num, HC8, Lib.hid ⟨hT.out.1, by have := hT.out.2.1; show T.r ≤ _; omega, hT.out.2.2.1, by have := hT.out.2.2.2; show T.k ≤ _; omega⟩⟩
        case measure => simp [intOf]; omega
      · subst h
        go_wp2_with (first | (go_at_call 21; refine (cs_get HC1.out a b HA.out HBB.out).mono ?_; rintro e w6 ⟨rfl, h6⟩; have HC6 := Lib.hid h6; clear h6) | (go_at_call 22; refine (cs_rget HC6.out a b HA.out HBB.out).mono ?_; rintro e w7 ⟨rfl, h7⟩; have HC7 := Lib.hid h7; clear h7) | (go_at_call 23; refine (cs_counts2 HC7.out T.r T.k rfl rfl rfl rfl).mono ?_; rintro e w8 ⟨rfl, h8, g1, g2⟩; have HC8 := Lib.hid h8; clear h8))
        all_goals (go_wp2_with fail)
        all_goals go_roundw
        case rel => exact ⟨k + 1, _, by omega, by go_num, HC8, Lib.hid ⟨hT.out.1, by have := hT.out.2.1; show T.r ≤ _; omega, hT.out.2.2.1, by have := hT.out.2.2.2; show T.k ≤ _; omega⟩⟩
        case measure => simp [intOf]; omega
      · subst h
        go_wp2_with (first | (go_at_call 10; refine (cs_put HC1.out a b m HA.out HBB.out).mono ?_; rintro e w6 ⟨rfl, h6⟩; have HC6 := Lib.hid h6; clear h6) | (go_at_call 11; refine (cs_rput HC6.out a b m HA.out HBB.out).mono ?_; rintro e w7 ⟨rfl, h7⟩; have HC7 := Lib.hid h7; clear h7) | (go_at_call 23; refine (cs_counts2 HC7.out T.r T.k rfl rfl rfl rfl).mono ?_; rintro e w8 ⟨rfl, h8, g1, g2⟩; have HC8 := Lib.hid h8; clear h8))
        all_goals (go_wp2_with fail)
        all_goals go_roundw
        case rel => exact ⟨k + 1, _, by omega, by go_num, HC8, Lib.hid ⟨hT.out.1, by have := hT.out.2.1; show T.r ≤ _; omega, hT.out.2.2.1, by have := hT.out.2.2.2; show T.k ≤ _; omega⟩⟩
        case measure => simp [intOf]; omega
      · subst h
        go_wp2_with (first | (go_at_call 12; refine (cs_drop HC1.out b).mono ?_; rintro e w6 ⟨rfl, h6⟩; have HC6 := Lib.hid h6; clear h6) | (go_at_call 13; refine (cs_rdrop HC6.out b).mono ?_; rintro e w7 ⟨rfl, h7⟩; have HC7 := Lib.hid h7; clear h7) | (go_at_call 23; refine (cs_counts2 HC7.out T.r T.k rfl rfl rfl rfl).mono ?_; rintro e w8 ⟨rfl, h8, g1, g2⟩; have HC8 := Lib.hid h8; clear h8))
        all_goals (go_wp2_with fail)
        all_goals go_roundw
        case rel => exact ⟨k + 1, _, by omega, by go_num, HC8, Lib.hid ⟨hT.out.1, by have := hT.out.2.1; show T.r ≤ _; omega, hT.out.2.2.1, by have := hT.out.2.2.2; show T.k ≤ _; omega⟩⟩
        case measure => simp [intOf]; omega
      · subst h
        have HD64 : Hid (T.D.length ≤ 64) := Lib.hid (by obtain ⟨tb, lb, dv, rl, ga, gc, h1, -⟩ := HC1.out; exact h1.tab.d64)
        go_wp2_with (first | (go_at_call 14; refine (cs_clear HC1.out).mono ?_; rintro e w6 ⟨rfl, h6⟩; have HC6 := Lib.hid h6; clear h6) | (go_at_call 15; refine (cs_rclear HC6.out).mono ?_; rintro e w7 ⟨rfl, h7⟩; have HC7 := Lib.hid h7; clear h7) | (go_at_call 17; refine (cs_drops HC7.out).mono ?_; rintro e w9 ⟨da, dc, rfl, hW9, h9⟩; have HW9 := Lib.hid hW9; have HC9 := Lib.hid h9; clear hW9 h9) | (go_at_call 18; refine (cs_rdrops HC9.out HW9.out).mono ?_; rintro e wa ⟨⟨ra, rcc, rfl, hWa, ha9⟩, hWb⟩; have hsw := sameWords (ac := dc) (bc := rcc) T.D T.D hWb.1 hWa.1 (by have := HD64.out; omega); rw [decide_eq_true rfl] at hsw; have HCa := Lib.hid ha9; clear hWa hWb ha9) | (go_at_call 16; refine hsw.mono ?_; rintro e wb ⟨rfl, mm, rfl⟩; have HCb := Lib.hid (HCa.out.still ((Fr.refl _ _).drewN mm)); clear hsw) | (go_at_call 23; refine (cs_counts2 HCb.out T.r T.k rfl rfl rfl rfl).mono ?_; rintro e w8 ⟨rfl, h8, g1, g2⟩; have HC8 := Lib.hid h8; clear h8))
        all_goals (go_wp2_with fail)
        all_goals go_roundw
        case rel => exact ⟨k + 1, _, by omega, by go_num, HC8, Lib.hid ⟨hT.out.1, by have := hT.out.2.1; show T.r ≤ _; omega, hT.out.2.2.1, by have := hT.out.2.2.2; show T.k ≤ _; omega⟩⟩
        case measure => simp [intOf]; omega
      · subst h
        obtain ⟨T2, hT2⟩ : ∃ T2, T2 = cfindT T (lookR os root a b) a b := ⟨_, rfl⟩
        obtain ⟨fv, fe, hfv⟩ := cp_find T (lookR os root a b) a b
        have hfi := cs_find HH.out HC1.out a b HA.out HBB.out hT.out.1 (by have := hT.out.2.1; omega) hT.out.2.2.1 (by have := hT.out.2.2.2; omega)
        have hrfi := fun W (hW : Cs w2 X cb rc (cfindT T (lookR os root a b) a b) T W) => cs_rfind HR0.out hW a b HA.out HBB.out hT.out.1 (by have := hT.out.2.1; omega) hT.out.2.2.1 (by have := hT.out.2.2.2; omega)
        have HB2 : Hid (0 ≤ T2.r ∧ T2.r ≤ ((k + 1 : Nat) : Int) ∧ 0 ≤ T2.k ∧ T2.k ≤ ((k + 1 : Nat) : Int)) := Lib.hid (by rw [hT2]; exact cp_bounds hT.out)
        simp only [hfv, ← hT2] at hfi hrfi
        clear hT2 hfv
        go_wp2_with (first | (go_at_call 19; refine hfi.mono ?_; rintro e w6 ⟨rfl, h6⟩; have HC6 := Lib.hid h6; clear h6) | (go_at_call 20; refine (hrfi _ HC6.out).mono ?_; rintro e w7 ⟨rfl, h7⟩; have HC7 := Lib.hid h7; clear h7) | (go_at_call 23; refine (cs_counts2 HC7.out T2.r T2.k rfl rfl rfl rfl).mono ?_; rintro e w8 ⟨rfl, h8, g1, g2⟩; have HC8 := Lib.hid h8; clear h8))
        all_goals (go_wp2_with fail)
        all_goals go_roundw
        case rel => exact ⟨k + 1, _, by omega, by go_num, HC8, HB2⟩
        case measure => simp [intOf]; omega
      · subst h
        obtain ⟨T2, hT2⟩ : ∃ T2, T2 = cfindT T (lookR os root a b) a b := ⟨_, rfl⟩
        obtain ⟨fv, fe, hfv⟩ := cp_find T (lookR os root a b) a b
        have hfi := cs_find HH.out HC1.out a b HA.out HBB.out hT.out.1 (by have := hT.out.2.1; omega) hT.out.2.2.1 (by have := hT.out.2.2.2; omega)
        have hrfi := fun W (hW : Cs w2 X cb rc (cfindT T (lookR os root a b) a b) T W) => cs_rfind HR0.out hW a b HA.out HBB.out hT.out.1 (by have := hT.out.2.1; omega) hT.out.2.2.1 (by have := hT.out.2.2.2; omega)
        have HB2 : Hid (0 ≤ T2.r ∧ T2.r ≤ ((k + 1 : Nat) : Int) ∧ 0 ≤ T2.k ∧ T2.k ≤ ((k + 1 : Nat) : Int)) := Lib.hid (by rw [hT2]; exact cp_bounds hT.out)
        simp only [hfv, ← hT2] at hfi hrfi
        clear hT2 hfv
        go_wp2_with (first | (go_at_call 19; refine hfi.mono ?_; rintro e w6 ⟨rfl, h6⟩; have HC6 := Lib.hid h6; clear h6) | (go_at_call 20; refine (hrfi _ HC6.out).mono ?_; rintro e w7 ⟨rfl, h7⟩; have HC7 := Lib.hid h7; clear h7) | (go_at_call 23; refine (cs_counts2 HC7.out T2.r T2.k rfl rfl rfl rfl).mono ?_; rintro e w8 ⟨rfl, h8, g1, g2⟩; have HC8 := Lib.hid h8; clear h8))
        all_goals (go_wp2_with fail)
        all_goals go_roundw
        case rel => exact ⟨k + 1, _, by omega, by go_num, HC8, HB2⟩
        case measure => simp [intOf]; omega
      · subst h
        obtain ⟨T2, hT2⟩ : ∃ T2, T2 = cfindT T (lookR os root a b) a b := ⟨_, rfl⟩
        obtain ⟨fv, fe, hfv⟩ := cp_find T (lookR os root a b) a b
        have hfi := cs_find HH.out HC1.out a b HA.out HBB.out hT.out.1 (by have := hT.out.2.1; omega) hT.out.2.2.1 (by have := hT.out.2.2.2; omega)
        have hrfi := fun W (hW : Cs w2 X cb rc (cfindT T (lookR os root a b) a b) T W) => cs_rfind HR0.out hW a b HA.out HBB.out hT.out.1 (by have := hT.out.2.1; omega) hT.out.2.2.1 (by have := hT.out.2.2.2; omega)
        have HB2 : Hid (0 ≤ T2.r ∧ T2.r ≤ ((k + 1 : Nat) : Int) ∧ 0 ≤ T2.k ∧ T2.k ≤ ((k + 1 : Nat) : Int)) := Lib.hid (by rw [hT2]; exact cp_bounds hT.out)
        simp only [hfv, ← hT2] at hfi hrfi
        clear hT2 hfv
        go_wp2_with (first | (go_at_call 19; refine hfi.mono ?_; rintro e w6 ⟨rfl, h6⟩; have HC6 := Lib.hid h6; clear h6) | (go_at_call 20; refine (hrfi _ HC6.out).mono ?_; rintro e w7 ⟨rfl, h7⟩; have HC7 := Lib.hid h7; clear h7) | (go_at_call 23; refine (cs_counts2 HC7.out T2.r T2.k rfl rfl rfl rfl).mono ?_; rintro e w8 ⟨rfl, h8, g1, g2⟩; have HC8 := Lib.hid h8; clear h8))
        all_goals (go_wp2_with fail)
        all_goals go_roundw
        case rel => exact ⟨k + 1, _, by omega, by go_num, HC8, HB2⟩
        case measure => simp [intOf]; omega
    · have hd : decide ((k : Int) < (sl : Int)) = false ∨ decide ((k : Int) < 200) = false := by simp; omega
      by_cases h1 : k < sl
      · have h2 : 200 ≤ k := by omega
        clear hd hlt
        go_wp2_with fail
        go_ret
        exact ⟨rfl, HF12.out.trans hC.out.fr⟩
      · clear hd hlt
        go_wp2_with fail
        go_ret
        exact ⟨rfl, HF12.out.trans hC.out.fr⟩
set_option maxRecDepth 100000 in
set_option maxHeartbeats 4000000 in
theorem cachePlays_no {w : World} (hg : Glob w) {ao : Option Addr} {cap : Nat} (its : List (It × Int)) (hG : G4 w ao its) (hB : B4 its) (n : Int) (hn : n < 1 ∨ 256 < n) (rt hs0 : Int) (hrt : WB rt) (hh1 : -9223372036854775808 ≤ hs0) (hh2 : hs0 ≤ 9223372036854775807) {sv0 : Value} :
    Calls Tryz.prog 3 #[.int .i64 n, .slice ao its.length cap, .int .u64 rt, .int .i64 hs0, sv0] w (Still (.bool true) w) := by
  have hA := fun w' => awake8 w'
  have hLd := fun w' (hF : Fr [] w w') => loaded8 (cap := cap) (hg.fr hF) its (hG.fr0 hF) hB rt hs0 hrt hh1 hh2
  have HG := Lib.hid hg
  have HRT := Lib.hid hrt
  have hNo := fun w => newNo w n hn
  have hRNo := fun w => rnewNo w n hn
  clear hG hB hg hrt hn
  generalize its.length = N at *
  go_enter Tryz.func3, Tryz.ntmps3
  go_wp2_with fail
  refine (hA _).mono ?_
  rintro e w1 ⟨rfl, hF1⟩
  have HF1 := Lib.hid hF1
  clear hF1 hA
  go_wp2_with fail
  refine (hLd _ HF1.out).mono ?_
  rintro e w2 ⟨hb, mb, rb, os, root, hs, l, rfl, hI, ha, hT, hO⟩
  have hroot := hO.root HRT.out
  have HFT := Lib.hid hT.fr
  obtain ⟨wv, sv, hH⟩ := hT.hp (HG.out.fr HF1.out) hI hroot
  have HH := Lib.hid hH
  have HI := Lib.hid hI
  clear hI hO hH hLd hroot hT ha
  go_wp2_with fail
  refine (hNo _).mono ?_
  rintro e w3 ⟨rfl, hF3⟩
  have HF3 := Lib.hid hF3
  clear hF3
  go_wp2_with fail
  refine (hRNo _).mono ?_
  rintro e w4 ⟨rfl, hF4⟩
  have HF4 := Lib.hid (HF3.out.trans hF4)
  clear hF4
  go_wp2_with fail
  refine (cp_objects HI.out (HH.out.fr0 HF4.out).heap).mono ?_
  rintro e w5 ⟨ko, kc, rfl, -, hF5, -⟩
  have HF5 : Hid (Fr [] w w5) := Lib.hid (HF1.out.trans (HFT.out.trans (HF4.out.trans hF5)))
  generalize (refsO os).length = kn at *
  clear hF5
  go_wp2_with fail
  go_loopw [19] (fun iv wr => iv = .int .i64 0 ∧ wr = w5) (fun _ _ => 0)
  case atStart => exact ⟨rfl, rfl⟩
  case round =>
    obtain ⟨rfl, rfl⟩ := hrel
    go_wp2_with fail
    go_ret
    exact ⟨rfl, HF5.out⟩
theorem cachePlays_walk {w : World} (hg : Glob w) {ao : Option Addr} {cap : Nat} (its : List (It × Int)) (hG : G4 w ao its) (hB : B4 its) (n rt hs0 : Int) (hrt : WB rt) (hh1 : -9223372036854775808 ≤ hs0) (hh2 : hs0 ≤ 9223372036854775807) {sa : Option Addr} {sl sc : Nat} (hS : Ops8At w sa sl) :
    Calls Tryz.prog 3 #[.int .i64 n, .slice ao its.length cap, .int .u64 rt, .int .i64 hs0, .slice sa sl sc] w (Still (.bool true) w) := by
  by_cases h1 : 1 ≤ n
  · by_cases h2 : n ≤ 256
    · obtain ⟨m, rfl⟩ : ∃ m : Nat, n = m := ⟨n.toNat, by omega⟩
      exact cachePlays_at hg its hG hB m (by omega) (by omega) rt hs0 hrt hh1 hh2 hS
    · exact cachePlays_no hg its hG hB n (.inr (by omega)) rt hs0 hrt hh1 hh2
  · exact cachePlays_no hg its hG hB n (.inl (by omega)) rt hs0 hrt hh1 hh2
end Go.Proofs.YtofhgfgipdokbaaGreatDoor
