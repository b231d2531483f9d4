/- Package class's isOf, isNone, isSelector, readDict. Package class's read: what a word says that is a class. -/
import Derived.Test.YtofhgfgipdokbaaGreatDoorMKls
import Derived.Laws.ResultCell
namespace Go.Proofs.YtofhgfgipdokbaaGreatDoor
open Go.RowKit

section
variable {W : World} {hb mb : Nat} {lim root hashes : Int} {os : List Ob} {wv sv : Value}
theorem sizeE_none {x : Int} (h : lookP 1 os x = none) : sizeE os x = 1 := by unfold sizeE; rw [h]; rfl
theorem sizeE_some {x : Int} {o : Ob} (h : lookP 1 os x = some o) : sizeE os x = 0 := by unfold sizeE; rw [h]; rfl
theorem clsV_some {x : Int} {o : Ob} (h : lookP 1 os x = some o) : clsV os x = o.1 := by unfold clsV; rw [h]
set_option maxRecDepth 100000 in
theorem kisOf (h : HpAt W hb mb lim os root hashes wv sv) (x : Int) (k : Nat) (hk : k < 20) (hx : WB x) : Calls Tryz.prog 99 #[.pointer (some ⟨hb, 0, none⟩), .int .u64 x, .int .i64 k] W (Still (.bool (isOfB os root x k)) W) := by
  have hc := kclass h x hx
  cases ho : lookP 1 os x with
  | none =>
    rw [sizeE_none ho] at hc
    have e : isOfB os root x k = false := by unfold isOfB; rw [ho]
    rw [e]
    generalize clsV os x = C at *
    clear h ho e
    go_enter Tryz.func99, Tryz.ntmps99
    go_wp2_with (go_at_call 108; refine hc.mono ?_; rintro e w1 ⟨rfl, hF1⟩; have HF1 := Lib.hid hF1; clear hF1)
    go_ret
    exact ⟨rfl, HF1.out⟩
  | some o =>
    rw [sizeE_some ho, clsV_some ho] at hc
    rw [isOfB_of ho]
    have hs := fun w' (hF : Fr [] W w') => kspecial (h.fr0 hF) k (by omega) (by omega)
    generalize specK os root k = V at *
    generalize o.1 = C at *
    clear h ho
    go_enter Tryz.func99, Tryz.ntmps99
    go_wp2_with (first
      | (go_at_call 108; refine hc.mono ?_; rintro e w1 ⟨rfl, hF1⟩; have HF1 := Lib.hid hF1; clear hF1)
      | (go_at_call 83; refine (hs _ HF1.out).mono ?_; rintro e w2 ⟨rfl, hF2⟩; have HF2 := Lib.hid (HF1.out.trans hF2); clear hF2))
    go_ret
    exact ⟨rfl, HF2.out⟩
set_option maxRecDepth 100000 in
theorem kisNone (h : HpAt W hb mb lim os root hashes wv sv) (x : Int) : Calls Tryz.prog 100 #[.pointer (some ⟨hb, 0, none⟩), .int .u64 x] W (Still (.bool (isNoneB os root x)) W) := by
  unfold isNoneB
  have hs := kspecial h 0 (by omega) (by omega)
  generalize specK os root 0 = V at *
  clear h
  cases hz : x != 0
  · rw [Bool.false_and]
    have hz' : (x == 0) = true := by simpa using hz
    go_enter Tryz.func100, Tryz.ntmps100
    go_wp2
    go_ret
    exact ⟨rfl, Fr.refl _ _⟩
  · rw [Bool.true_and]
    go_enter Tryz.func100, Tryz.ntmps100
    go_wp2_with (go_at_call 83; refine hs.mono ?_; rintro e w2 ⟨rfl, hF2⟩; have HF2 := Lib.hid hF2; clear hF2)
    go_ret
    exact ⟨rfl, HF2.out⟩
set_option maxRecDepth 100000 in
theorem kisSel (h : HpAt W hb mb lim os root hashes wv sv) (x : Int) (hx : WB x) : Calls Tryz.prog 66 #[.pointer (some ⟨hb, 0, none⟩), .int .u64 x] W (Still (.bool (isSelB os root x)) W) := by
  unfold isSelB
  have hh := khas h x hx
  have hs := fun w' (hF : Fr [] W w') => kspecial (h.fr0 hF) 0 (by omega) (by omega)
  generalize specK os root 0 = V at *
  clear h
  cases hb' : (lookP 1 os x).isSome
  · rw [hb'] at hh
    rw [Bool.false_and]
    clear hb'
    go_enter Tryz.func66, Tryz.ntmps66
    go_wp2_with (go_at_call 82; refine hh.mono ?_; rintro e w2 ⟨rfl, hF2⟩; have HF2 := Lib.hid hF2; clear hF2)
    go_ret
    exact ⟨rfl, HF2.out⟩
  · rw [hb'] at hh
    rw [Bool.true_and]
    clear hb'
    go_enter Tryz.func66, Tryz.ntmps66
    go_wp2_with (first
      | (go_at_call 82; refine hh.mono ?_; rintro e w1 ⟨rfl, hF1⟩; have HF1 := Lib.hid hF1; clear hF1)
      | (go_at_call 83; refine (hs _ HF1.out).mono ?_; rintro e w2 ⟨rfl, hF2⟩; have HF2 := Lib.hid (HF1.out.trans hF2); clear hF2))
    go_ret
    exact ⟨rfl, HF2.out⟩
set_option maxRecDepth 100000 in
theorem kreadDict (h : HpAt W hb mb lim os root hashes wv sv) (x : Int) (hx : WB x) : Calls Tryz.prog 101 #[.pointer (some ⟨hb, 0, none⟩), .int .u64 x] W (Still (.tuple #[.int .u64 (dictV os root x), .bool (dictOk os root x)]) W) := by
  unfold dictV dictOk
  have hn := kisNone h x
  have hsz := fun w' (hF : Fr [] W w') => ksize (h.fr0 hF) x hx
  have ho := fun w' (hF : Fr [] W w') => kisOf (h.fr0 hF) x 8 (by omega) hx
  have hlim : sizeAt os x ≤ 65536 := by
    have h1 := h.le
    unfold sizeAt
    split
    · next o ho =>
      obtain ⟨k, -, -, h3⟩ := (lookP_ge ho).2
      have h4 : endOf os = 1 + (flatW os).length := rfl
      omega
    · omega
  clear h
  cases hb1 : isNoneB os root x
  · rw [hb1] at hn
    simp only [Bool.false_eq_true, if_false, Bool.false_or]
    cases hb2 : isOfB os root x 8
    · simp only [show ((8 : Nat) : Int) = 8 from rfl, hb2] at ho
      simp only [Bool.false_and, Bool.false_eq_true, if_false]
      generalize sizeAt os x = Z at *
      generalize sizeE os x = E at *
      clear hb1 hb2
      go_enter Tryz.func101, Tryz.ntmps101
      go_wp2_with (first
        | (go_at_call 100; refine hn.mono ?_; rintro e w1 ⟨rfl, hF1⟩; have HF1 := Lib.hid hF1; clear hF1)
        | (go_at_call 98; refine (hsz _ HF1.out).mono ?_; rintro e w2 ⟨rfl, hF2⟩; have HF2 := Lib.hid (HF1.out.trans hF2); clear hF2)
        | (go_at_call 99; refine (ho _ HF2.out).mono ?_; rintro e w3 ⟨rfl, hF3⟩; have HF3 := Lib.hid (HF2.out.trans hF3); clear hF3))
      go_ret2
      exact ⟨rfl, HF3.out⟩
    · simp only [show ((8 : Nat) : Int) = 8 from rfl, hb2] at ho
      simp only [Bool.true_and]
      generalize sizeAt os x = Z at *
      generalize sizeE os x = E at *
      clear hb1 hb2
      have hz0 : (0 : Int) ≤ (Z : Int) := by omega
      have hm : (Z : Int).tmod 2 = ((Z % 2 : Nat) : Int) := by rw [Int.tmod_eq_emod_of_nonneg hz0]; rfl
      cases hz : (Z % 2 == 0)
      · have hz1 : Z % 2 = 1 := by simp at hz; omega
        rw [hz1] at hm
        clear hz hz1
        simp only [Bool.false_eq_true, if_false]
        go_enter Tryz.func101, Tryz.ntmps101
        go_wp2_with (first
          | (go_at_call 100; refine hn.mono ?_; rintro e w1 ⟨rfl, hF1⟩; have HF1 := Lib.hid hF1; clear hF1)
          | (go_at_call 98; refine (hsz _ HF1.out).mono ?_; rintro e w2 ⟨rfl, hF2⟩; have HF2 := Lib.hid (HF1.out.trans hF2); clear hF2)
          | (go_at_call 99; refine (ho _ HF2.out).mono ?_; rintro e w3 ⟨rfl, hF3⟩; have HF3 := Lib.hid (HF2.out.trans hF3); clear hF3))
        go_ret2
        exact ⟨rfl, HF3.out⟩
      · have hz1 : Z % 2 = 0 := by simp at hz; omega
        rw [hz1] at hm
        clear hz hz1
        simp only [if_true]
        go_enter Tryz.func101, Tryz.ntmps101
        go_wp2_with (first
          | (go_at_call 100; refine hn.mono ?_; rintro e w1 ⟨rfl, hF1⟩; have HF1 := Lib.hid hF1; clear hF1)
          | (go_at_call 98; refine (hsz _ HF1.out).mono ?_; rintro e w2 ⟨rfl, hF2⟩; have HF2 := Lib.hid (HF1.out.trans hF2); clear hF2)
          | (go_at_call 99; refine (ho _ HF2.out).mono ?_; rintro e w3 ⟨rfl, hF3⟩; have HF3 := Lib.hid (HF2.out.trans hF3); clear hF3))
        go_ret2
        exact ⟨rfl, HF3.out⟩
  · rw [hb1] at hn
    simp only [if_true, Bool.true_or]
    clear hb1
    go_enter Tryz.func101, Tryz.ntmps101
    go_wp2_with (first
      | (go_at_call 100; refine hn.mono ?_; rintro e w1 ⟨rfl, hF1⟩; have HF1 := Lib.hid hF1; clear hF1))
    go_ret2
    exact ⟨rfl, HF1.out⟩
end
end Go.Proofs.YtofhgfgipdokbaaGreatDoor
namespace Go.Proofs.YtofhgfgipdokbaaGreatDoor
open Go.RowKit

/-- what a class says, as a value -/
def Frm.val (f : Frm) : Value := .agg #[.int .u64 f.super, .int .u64 f.dict, .int .i64 f.fields, .bool f.more]
def Frm.zero : Frm := ⟨0, 0, 0, false⟩
def readF (os : List Ob) (root x : Int) : Frm := if isClsB os root x then frmOf os root x else Frm.zero
/-- the fields as they are read -/
def sayA (g : Nat → Int) (k : Nat) : Array Value := ((List.range 4).map fun j => if j < k then Value.int .u64 (g j) else .int .u64 0).toArray
theorem sayA_zero (g : Nat → Int) : sayA g 0 = #[.int .u64 0, .int .u64 0, .int .u64 0, .int .u64 0] := rfl
theorem sayA_next (g : Nat → Int) {k : Nat} (hk : k < 4) : (sayA g k).setIfInBounds k (.int .u64 (g k)) = sayA g (k + 1) := by
  match k, hk with
  | 0, _ => rfl
  | 1, _ => rfl
  | 2, _ => rfl
  | 3, _ => rfl
theorem sayA_all (g : Nat → Int) : sayA g 4 = #[.int .u64 (g 0), .int .u64 (g 1), .int .u64 (g 2), .int .u64 (g 3)] := rfl
theorem sayA_at (g : Nat → Int) {k : Nat} (hk : k < 4) : (sayA g k)[k]? = some (.int .u64 0) := by
  match k, hk with
  | 0, _ => rfl
  | 1, _ => rfl
  | 2, _ => rfl
  | 3, _ => rfl
theorem numOk_cases (x lim : Int) : (numOk x lim = true ∧ odd x = true ∧ 0 ≤ intOfW x ∧ intOfW x ≤ lim) ∨ (numOk x lim = false ∧ (odd x = false ∨ (odd x = true ∧ intOfW x < 0) ∨ (odd x = true ∧ 0 ≤ intOfW x ∧ lim < intOfW x))) := by
  unfold numOk
  cases odd x
  · simp
  · by_cases h1 : 0 ≤ intOfW x
    · by_cases h2 : intOfW x ≤ lim
      · simp [h1, h2]
      · simp [h1]; omega
    · simp [h1]; omega
section
variable {W : World} {hb mb : Nat} {lim root hashes : Int} {os : List Ob} {wv sv : Value}
set_option maxRecDepth 100000 in
set_option maxHeartbeats 1000000 in
theorem kread_no (h : HpAt W hb mb lim os root hashes wv sv) (x : Int) (hx : WB x) (hn : (sizeAt os x == 4 && isOfB os root x 7) = false) : Calls Tryz.prog 86 #[.pointer (some ⟨hb, 0, none⟩), .int .u64 x] W (Still (.tuple #[Frm.zero.val, .bool false]) W) := by
  have hsz := fun w' (hF : Fr [] W w') => ksize (h.fr0 hF) x hx
  have ho := fun w' (hF : Fr [] W w') => kisOf (h.fr0 hF) x 7 (by omega) hx
  generalize sizeAt os x = Z at *
  generalize sizeE os x = E at *
  unfold Frm.val Frm.zero
  clear h
  cases hz : (Z == 4)
  · have hz' : ((Z : Int) == 4) = false := by simp at hz ⊢; omega
    have hz2 : ((Z : Int) != 4) = true := by simp at hz ⊢; omega
    clear hn ho hz
    go_enter Tryz.func86, Tryz.ntmps86
    go_wp2_with fail
    refine (hsz _ ((Fr.refl [] W).alloc _)).mono ?_
    rintro e w2 ⟨rfl, hF2⟩
    have HB := Lib.hid (hF2.heap (by simp) (heap_new _ _))
    have HF2 : Hid (Fr [] W w2) := ((Fr.refl [] W).alloc _).trans hF2
    have r0 := cell_of_heap (o := 0) HB.out rfl; have r1 := cell_of_heap (o := 1) HB.out rfl; have r2 := cell_of_heap (o := 2) HB.out rfl; have r3 := cell_of_heap (o := 3) HB.out rfl
    have f0 := frozen_of_heap (o := 0) HB.out; have f1 := frozen_of_heap (o := 1) HB.out; have f2 := frozen_of_heap (o := 2) HB.out; have f3 := frozen_of_heap (o := 3) HB.out
    have hlt : W.heap.size < w2.heap.size := lt_of_heap HB.out
    clear hF2
    go_wp2_with fail
    (try simp only [Exit.inBlock, Exit.then])
    refine bodyPost_ret (v := .tuple #[.agg #[.int .u64 0, .int .u64 0, .int .i64 0, .bool false], .bool false]) ?_ rfl ⟨rfl, ?_⟩
    · rw [results_cell_tmp rfl]
      go_simp
    · (repeat (first | (with_reducible refine Fr.setCell ?_ (fun h => absurd h (Nat.lt_irrefl _)) _) | (with_reducible refine Fr.alloc ?_ _) | (with_reducible refine Fr.drew ?_) | (with_reducible exact HF2.out)))
  · rw [hz, Bool.true_and] at hn
    have hZ : Z = 4 := by simpa using hz
    subst hZ
    simp only [show ((7 : Nat) : Int) = 7 from rfl, hn] at ho
    clear hn hz
    go_enter Tryz.func86, Tryz.ntmps86
    go_wp2_with fail
    refine (hsz _ ((Fr.refl [] W).alloc _)).mono ?_
    rintro e w2 ⟨rfl, hF2⟩
    have HB := Lib.hid (hF2.heap (by simp) (heap_new _ _))
    have HF2 : Hid (Fr [] W w2) := ((Fr.refl [] W).alloc _).trans hF2
    have r0 := cell_of_heap (o := 0) HB.out rfl; have r1 := cell_of_heap (o := 1) HB.out rfl; have r2 := cell_of_heap (o := 2) HB.out rfl; have r3 := cell_of_heap (o := 3) HB.out rfl
    have f0 := frozen_of_heap (o := 0) HB.out; have f1 := frozen_of_heap (o := 1) HB.out; have f2 := frozen_of_heap (o := 2) HB.out; have f3 := frozen_of_heap (o := 3) HB.out
    have hlt : W.heap.size < w2.heap.size := lt_of_heap HB.out
    clear hF2
    go_wp2_with fail
    refine (ho _ HF2.out).mono ?_
    rintro e w3 ⟨rfl, hF3⟩
    clear r0 r1 r2 r3 f0 f1 f2 f3 hlt; have HB3 := Lib.hid (hF3.heap (by simp) HB.out)
    have HF3 : Hid (Fr [] W w3) := HF2.out.trans hF3
    have r0 := cell_of_heap (o := 0) HB3.out rfl; have r1 := cell_of_heap (o := 1) HB3.out rfl; have r2 := cell_of_heap (o := 2) HB3.out rfl; have r3 := cell_of_heap (o := 3) HB3.out rfl
    have f0 := frozen_of_heap (o := 0) HB3.out; have f1 := frozen_of_heap (o := 1) HB3.out; have f2 := frozen_of_heap (o := 2) HB3.out; have f3 := frozen_of_heap (o := 3) HB3.out
    have hlt : W.heap.size < w3.heap.size := lt_of_heap HB3.out
    clear hF3
    go_wp2_with fail
    (try simp only [Exit.inBlock, Exit.then])
    refine bodyPost_ret (v := .tuple #[.agg #[.int .u64 0, .int .u64 0, .int .i64 0, .bool false], .bool false]) ?_ rfl ⟨rfl, ?_⟩
    · rw [results_cell_tmp rfl]
      go_simp
    · (repeat (first | (with_reducible refine Fr.setCell ?_ (fun h => absurd h (Nat.lt_irrefl _)) _) | (with_reducible refine Fr.alloc ?_ _) | (with_reducible refine Fr.drew ?_) | (with_reducible exact HF3.out)))
set_option maxRecDepth 100000 in
set_option maxHeartbeats 16000000 in
theorem kread_yes (h : HpAt W hb mb lim os root hashes wv sv) (x : Int) (hx : WB x) (hn : (sizeAt os x == 4 && isOfB os root x 7) = true) : Calls Tryz.prog 86 #[.pointer (some ⟨hb, 0, none⟩), .int .u64 x] W (Still (.tuple #[(readF os root x).val, .bool (isClsB os root x)]) W) := by
  have hsz := fun w' (hF : Fr [] W w') => ksize (h.fr0 hF) x hx
  have ho := fun w' (hF : Fr [] W w') => kisOf (h.fr0 hF) x 7 (by omega) hx
  have hZ : sizeAt os x = 4 := by simp at hn; exact hn.1
  simp only [hZ] at hsz
  have HZ := Lib.hid hZ
  have HO7 : Hid (isOfB os root x 7 = true) := by simp at hn; exact hn.2
  generalize sizeE os x = E at *
  simp only [show ((7 : Nat) : Int) = 7 from rfl, (by simp at hn; exact hn.2 : isOfB os root x 7 = true)] at ho
  have H := Lib.hid h
  clear h hn hZ
  go_enter Tryz.func86, Tryz.ntmps86
  go_wp2_with fail
  refine (hsz _ ((Fr.refl [] W).alloc _)).mono ?_
  rintro e w2 ⟨rfl, hF2⟩
  have HB := Lib.hid (hF2.heap (by simp) (heap_new _ _))
  have HF2 : Hid (Fr [] W w2) := ((Fr.refl [] W).alloc _).trans hF2
  have r0 := cell_of_heap (o := 0) HB.out rfl; have r1 := cell_of_heap (o := 1) HB.out rfl; have r2 := cell_of_heap (o := 2) HB.out rfl; have r3 := cell_of_heap (o := 3) HB.out rfl
  have f0 := frozen_of_heap (o := 0) HB.out; have f1 := frozen_of_heap (o := 1) HB.out; have f2 := frozen_of_heap (o := 2) HB.out; have f3 := frozen_of_heap (o := 3) HB.out
  have hlt : W.heap.size < w2.heap.size := lt_of_heap HB.out
  clear hF2
  go_wp2_with fail
  refine (ho _ HF2.out).mono ?_
  rintro e w3 ⟨rfl, hF3⟩
  clear r0 r1 r2 r3 f0 f1 f2 f3 hlt; have HB3 := Lib.hid (hF3.heap (by simp) HB.out)
  have HF3 : Hid (Fr [] W w3) := HF2.out.trans hF3
  have r0 := cell_of_heap (o := 0) HB3.out rfl; have r1 := cell_of_heap (o := 1) HB3.out rfl; have r2 := cell_of_heap (o := 2) HB3.out rfl; have r3 := cell_of_heap (o := 3) HB3.out rfl
  have f0 := frozen_of_heap (o := 0) HB3.out; have f1 := frozen_of_heap (o := 1) HB3.out; have f2 := frozen_of_heap (o := 2) HB3.out; have f3 := frozen_of_heap (o := 3) HB3.out
  have hlt : W.heap.size < w3.heap.size := lt_of_heap HB3.out
  clear hF3
  go_wp2_with fail
  obtain ⟨ab, hab⟩ : ∃ ab, ab = w3.heap.size := ⟨_, rfl⟩
  have HA0 : Hid ((w3.alloc (.cells #[.int .u64 0, .int .u64 0, .int .u64 0, .int .u64 0] 189)).heap[ab]? = some (.cells (sayA (fieldAt os x) 0) 189 (0, 0))) := by rw [hab, sayA_zero]; exact heap_new w3 _
  have HAB : Hid (W.heap.size < ab) := by rw [hab]; exact hlt
  have HB4 := Lib.hid (((Fr.refl [] w3).alloc (.cells #[.int .u64 0, .int .u64 0, .int .u64 0, .int .u64 0] 189)).heap (by simp) HB3.out)
  have HF4 : Hid (Fr [] W (w3.alloc (.cells #[.int .u64 0, .int .u64 0, .int .u64 0, .int .u64 0] 189))) := HF3.out.alloc _
  rw [← hab]
  clear hab ho hsz r0 r1 r2 r3 f0 f1 f2 f3 hlt
  go_loopw [31] (fun i wr => ∃ k : Nat, k ≤ 4 ∧ i = .int .i64 k ∧ Hid (wr.heap[ab]? = some (.cells (sayA (fieldAt os x) k) 189 (0, 0))) ∧ Hid (wr.heap[W.heap.size]? = some (.cells #[.int .u64 0, .int .u64 0, .int .i64 0, .bool false] 134 (0, 0))) ∧ Hid (Fr [] W wr)) (fun i _ => 4 - (intOf i).toNat)
  case atStart => exact ⟨0, Nat.zero_le _, rfl, HA0, HB4, HF4⟩
  case round =>
    obtain ⟨k, hk, rfl, hA, hBk, hFk⟩ := hrel
    clear HA0 HB4 HF4
    by_cases hlt : k < 4
    · have hf := fun w' (hF : Fr [] W w') => kfetch (H.out.fr0 hF) x k hx (by omega) (by omega)
      have c0 := cell_of_heap hA.out (sayA_at (fieldAt os x) hlt)
      have z0 := frozen_of_heap (o := k) hA.out
      have k1 : (k : Int) < 4 := by omega
      have k0 : (0 : Int) ≤ (k : Int) := by omega
      have HLT := Lib.hid hlt
      clear c0 z0
      go_wp2_with fail
      refine (hf _ hFk.out).mono ?_
      rintro e w5 ⟨rfl, hF5⟩
      have hA5 := hF5.heap (k := ab) (by simp) hA.out
      have HA5 := Lib.hid hA5
      have c0 := cell_of_heap hA5 (sayA_at (fieldAt os x) HLT.out)
      have z0 := frozen_of_heap (o := k) hA5
      have HNXT : Hid ((w5.setCell ⟨ab, k, none⟩ (.int .u64 (fieldV os x k))).heap[ab]? = some (.cells (sayA (fieldAt os x) (k + 1)) 189 (0, 0)) ∧ (w5.setCell ⟨ab, k, none⟩ (.int .u64 (fieldV os x k))).heap[W.heap.size]? = some (.cells #[.int .u64 0, .int .u64 0, .int .i64 0, .bool false] 134 (0, 0)) ∧ Fr [] W (w5.setCell ⟨ab, k, none⟩ (.int .u64 (fieldV os x k)))) := by
        have e1 : fieldV os x k = fieldAt os x k := by
          unfold fieldV
          rw [if_pos ⟨by omega, by rw [HZ.out]; omega⟩, Int.toNat_natCast]
        refine ⟨?_, ?_, ?_⟩
        · rw [heap_setCell_same hA5, e1, sayA_next _ HLT.out]
        · rw [Below.heap_setCell _ _ _ _ (by have := HAB.out; show W.heap.size ≠ ab; omega)]
          exact hF5.heap (by simp) hBk.out
        · exact (hFk.out.trans hF5).setCell (fun h => absurd h (by have := HAB.out; show ¬ ab < _; omega)) _
      generalize fieldV os x k = V at *
      generalize fieldE os x k = E2 at *
      clear hF5 hA5 hf
      go_wp2
      go_roundw
      case rel => exact ⟨k + 1, by omega, by go_num, HNXT.out.1, HNXT.out.2.1, HNXT.out.2.2⟩
      case measure => simp [intOf]; omega
    · have hk4 : k = 4 := by omega
      subst hk4
      have hA4 := hA.out
      rw [sayA_all] at hA4
      have HA4 := Lib.hid hA4
      have hO := fun w' (hF : Fr [] W w') => kisOf (H.out.fr0 hF) (fieldAt os x 0) 7 (by omega) (H.out.field x 0)
      have hN := fun w' (hF : Fr [] W w') => kisNone (H.out.fr0 hF) (fieldAt os x 0)
      have hD := fun w' (hF : Fr [] W w') => kreadDict (H.out.fr0 hF) (fieldAt os x 1) (H.out.field x 1)
      have hI2 := fun w' => wordInt (fieldAt os x 2) w' (H.out.field x 2)
      have hI3 := fun w' => wordInt (fieldAt os x 3) w' (H.out.field x 3)
      obtain ⟨F, hF⟩ : ∃ F, F = readF os root x := ⟨_, rfl⟩
      obtain ⟨C, hC⟩ : ∃ C, C = isClsB os root x := ⟨_, rfl⟩
      have hcls : C = (supOk os root (fieldAt os x 0) && dictOk os root (fieldAt os x 1) && numOk (fieldAt os x 2) 64 && numOk (fieldAt os x 3) 1) := by
        rw [hC]; unfold isClsB; rw [HZ.out, HO7.out]; simp
      have hfrm : F = if C then ⟨fieldAt os x 0, dictV os root (fieldAt os x 1), intOfW (fieldAt os x 2), intOfW (fieldAt os x 3) == 1⟩ else Frm.zero := by
        rw [hF, hC]; rfl
      have HFR := Lib.hid hF
      have HCR := Lib.hid hC
      clear hF hC
      unfold supOk at hcls
      simp only [show ((7 : Nat) : Int) = 7 from rfl] at hO
      generalize isOfB os root (fieldAt os x 0) 7 = B1 at *
      generalize isNoneB os root (fieldAt os x 0) = B2 at *
      generalize dictOk os root (fieldAt os x 1) = B3 at *
      generalize dictV os root (fieldAt os x 1) = V3 at *
      obtain ⟨q0, hq0⟩ : ∃ q, q = fieldAt os x 0 := ⟨_, rfl⟩
      obtain ⟨q1, hq1⟩ : ∃ q, q = fieldAt os x 1 := ⟨_, rfl⟩
      obtain ⟨q2, hq2⟩ : ∃ q, q = fieldAt os x 2 := ⟨_, rfl⟩
      obtain ⟨q3, hq3⟩ : ∃ q, q = fieldAt os x 3 := ⟨_, rfl⟩
      simp only [← hq0, ← hq1, ← hq2, ← hq3] at hO hN hD hI2 hI3 hcls hfrm hA4 HA4
      clear hq0 hq1 hq2 hq3
      have c0 := cell_of_heap (o := 0) hA4 rfl; have c1 := cell_of_heap (o := 1) hA4 rfl; have c2 := cell_of_heap (o := 2) hA4 rfl; have c3 := cell_of_heap (o := 3) hA4 rfl
      have HCLS := Lib.hid hcls
      have HFRM := Lib.hid hfrm
      clear hcls hfrm hA4
      have n2 := numOk_cases q2 64
      have n3 := numOk_cases q3 1
      generalize numOk q2 64 = G2 at *
      generalize numOk q3 1 = G3 at *
      cases B1
      · cases B2
        · have hCv : C = false := by rw [HCLS.out]; simp
          have hFv : F = Frm.zero := by rw [HFRM.out, hCv]; exact rfl
          have HCV := Lib.hid hCv
          have HFV := Lib.hid hFv
          clear hCv hFv
          go_wp2_with (first
            | (go_at_call 99; refine (hO _ (by first | exact hFk.out)).mono ?_; rintro e w6 ⟨rfl, hF6⟩; have HB6 : Hid (w6.heap[W.heap.size]? = some (.cells #[.int .u64 0, .int .u64 0, .int .i64 0, .bool false] 134 (0, 0))) := hF6.heap (by simp) (by first | exact hBk.out); have HA6 : Hid (w6.heap[ab]? = some (.cells #[.int .u64 q0, .int .u64 q1, .int .u64 q2, .int .u64 q3] 189 (0, 0))) := hF6.heap (by simp) (by first | exact HA4.out); have HF6 : Hid (Fr [] W w6) := Fr.trans (by first | exact hFk.out) hF6; clear c0 c1 c2 c3; have c61 := cell_of_heap (o := 1) HA6.out rfl; clear hF6)
            | (go_at_call 100; refine (hN _ (by first | exact HF6.out | exact hFk.out)).mono ?_; rintro e w7 ⟨rfl, hF7⟩; have HB7 : Hid (w7.heap[W.heap.size]? = some (.cells #[.int .u64 0, .int .u64 0, .int .i64 0, .bool false] 134 (0, 0))) := hF7.heap (by simp) (by first | exact HB6.out | exact hBk.out); have HA7 : Hid (w7.heap[ab]? = some (.cells #[.int .u64 q0, .int .u64 q1, .int .u64 q2, .int .u64 q3] 189 (0, 0))) := hF7.heap (by simp) (by first | exact HA6.out | exact HA4.out); have HF7 : Hid (Fr [] W w7) := Fr.trans (by first | exact HF6.out | exact hFk.out) hF7; (try clear c61); have r70 := cell_of_heap (o := 0) HB7.out rfl; have r71 := cell_of_heap (o := 1) HB7.out rfl; have r72 := cell_of_heap (o := 2) HB7.out rfl; have r73 := cell_of_heap (o := 3) HB7.out rfl; have f70 := frozen_of_heap (o := 0) HB7.out; have f71 := frozen_of_heap (o := 1) HB7.out; have f72 := frozen_of_heap (o := 2) HB7.out; have f73 := frozen_of_heap (o := 3) HB7.out; have c71 := cell_of_heap (o := 1) HA7.out rfl; have hlt7 : W.heap.size < w7.heap.size := lt_of_heap HB7.out; clear hF7)
            | (go_at_call 101; refine (hD _ (by first | exact HF7.out | exact HF6.out | exact hFk.out)).mono ?_; rintro e w8 ⟨rfl, hF8⟩; have HB8 : Hid (w8.heap[W.heap.size]? = some (.cells #[.int .u64 0, .int .u64 0, .int .i64 0, .bool false] 134 (0, 0))) := hF8.heap (by simp) (by first | exact HB7.out | exact HB6.out | exact hBk.out); have HA8 : Hid (w8.heap[ab]? = some (.cells #[.int .u64 q0, .int .u64 q1, .int .u64 q2, .int .u64 q3] 189 (0, 0))) := hF8.heap (by simp) (by first | exact HA7.out | exact HA6.out | exact HA4.out); have HF8 : Hid (Fr [] W w8) := Fr.trans (by first | exact HF7.out | exact HF6.out | exact hFk.out) hF8; (try clear c61); (try clear c71); (try clear r70 r71 r72 r73 f70 f71 f72 f73 hlt7); have r80 := cell_of_heap (o := 0) HB8.out rfl; have r81 := cell_of_heap (o := 1) HB8.out rfl; have r82 := cell_of_heap (o := 2) HB8.out rfl; have r83 := cell_of_heap (o := 3) HB8.out rfl; have f80 := frozen_of_heap (o := 0) HB8.out; have f81 := frozen_of_heap (o := 1) HB8.out; have f82 := frozen_of_heap (o := 2) HB8.out; have f83 := frozen_of_heap (o := 3) HB8.out; have c82 := cell_of_heap (o := 2) HA8.out rfl; have c83 := cell_of_heap (o := 3) HA8.out rfl; have hlt8 : W.heap.size < w8.heap.size := lt_of_heap HB8.out; clear hF8)
            | (go_at_call 102; (with_reducible refine (hI2 _).mono ?_); rintro e wi ⟨rfl, rfl⟩)
            | (go_at_call 102; (with_reducible refine (hI3 _).mono ?_); rintro e wi ⟨rfl, rfl⟩))
          (try simp only [Exit.inBlock, Exit.then])
          refine bodyPost_ret (v := .tuple #[.agg #[.int .u64 0, .int .u64 0, .int .i64 0, .bool false], .bool false]) ?_ rfl ⟨?_, ?_⟩
          · rw [results_cell_tmp rfl]
            go_simp
          · rw [← HFR.out, ← HCR.out, HFV.out, HCV.out]; exact rfl
          · (repeat (first | (with_reducible refine Fr.setCell ?_ (fun h => absurd h (Nat.lt_irrefl _)) _) | (with_reducible refine Fr.alloc ?_ _) | (with_reducible refine Fr.drew ?_) | (with_reducible exact (by first | exact HF8.out | exact HF7.out | exact HF6.out))))
        · cases B3
          · have hCv : C = false := by rw [HCLS.out]; simp
            have hFv : F = Frm.zero := by rw [HFRM.out, hCv]; exact rfl
            have HCV := Lib.hid hCv
            have HFV := Lib.hid hFv
            clear hCv hFv
            go_wp2_with (first
              | (go_at_call 99; refine (hO _ (by first | exact hFk.out)).mono ?_; rintro e w6 ⟨rfl, hF6⟩; have HB6 : Hid (w6.heap[W.heap.size]? = some (.cells #[.int .u64 0, .int .u64 0, .int .i64 0, .bool false] 134 (0, 0))) := hF6.heap (by simp) (by first | exact hBk.out); have HA6 : Hid (w6.heap[ab]? = some (.cells #[.int .u64 q0, .int .u64 q1, .int .u64 q2, .int .u64 q3] 189 (0, 0))) := hF6.heap (by simp) (by first | exact HA4.out); have HF6 : Hid (Fr [] W w6) := Fr.trans (by first | exact hFk.out) hF6; clear c0 c1 c2 c3; have c61 := cell_of_heap (o := 1) HA6.out rfl; clear hF6)
              | (go_at_call 100; refine (hN _ (by first | exact HF6.out | exact hFk.out)).mono ?_; rintro e w7 ⟨rfl, hF7⟩; have HB7 : Hid (w7.heap[W.heap.size]? = some (.cells #[.int .u64 0, .int .u64 0, .int .i64 0, .bool false] 134 (0, 0))) := hF7.heap (by simp) (by first | exact HB6.out | exact hBk.out); have HA7 : Hid (w7.heap[ab]? = some (.cells #[.int .u64 q0, .int .u64 q1, .int .u64 q2, .int .u64 q3] 189 (0, 0))) := hF7.heap (by simp) (by first | exact HA6.out | exact HA4.out); have HF7 : Hid (Fr [] W w7) := Fr.trans (by first | exact HF6.out | exact hFk.out) hF7; (try clear c61); have r70 := cell_of_heap (o := 0) HB7.out rfl; have r71 := cell_of_heap (o := 1) HB7.out rfl; have r72 := cell_of_heap (o := 2) HB7.out rfl; have r73 := cell_of_heap (o := 3) HB7.out rfl; have f70 := frozen_of_heap (o := 0) HB7.out; have f71 := frozen_of_heap (o := 1) HB7.out; have f72 := frozen_of_heap (o := 2) HB7.out; have f73 := frozen_of_heap (o := 3) HB7.out; have c71 := cell_of_heap (o := 1) HA7.out rfl; have hlt7 : W.heap.size < w7.heap.size := lt_of_heap HB7.out; clear hF7)
              | (go_at_call 101; refine (hD _ (by first | exact HF7.out | exact HF6.out | exact hFk.out)).mono ?_; rintro e w8 ⟨rfl, hF8⟩; have HB8 : Hid (w8.heap[W.heap.size]? = some (.cells #[.int .u64 0, .int .u64 0, .int .i64 0, .bool false] 134 (0, 0))) := hF8.heap (by simp) (by first | exact HB7.out | exact HB6.out | exact hBk.out); have HA8 : Hid (w8.heap[ab]? = some (.cells #[.int .u64 q0, .int .u64 q1, .int .u64 q2, .int .u64 q3] 189 (0, 0))) := hF8.heap (by simp) (by first | exact HA7.out | exact HA6.out | exact HA4.out); have HF8 : Hid (Fr [] W w8) := Fr.trans (by first | exact HF7.out | exact HF6.out | exact hFk.out) hF8; (try clear c61); (try clear c71); (try clear r70 r71 r72 r73 f70 f71 f72 f73 hlt7); have r80 := cell_of_heap (o := 0) HB8.out rfl; have r81 := cell_of_heap (o := 1) HB8.out rfl; have r82 := cell_of_heap (o := 2) HB8.out rfl; have r83 := cell_of_heap (o := 3) HB8.out rfl; have f80 := frozen_of_heap (o := 0) HB8.out; have f81 := frozen_of_heap (o := 1) HB8.out; have f82 := frozen_of_heap (o := 2) HB8.out; have f83 := frozen_of_heap (o := 3) HB8.out; have c82 := cell_of_heap (o := 2) HA8.out rfl; have c83 := cell_of_heap (o := 3) HA8.out rfl; have hlt8 : W.heap.size < w8.heap.size := lt_of_heap HB8.out; clear hF8)
              | (go_at_call 102; (with_reducible refine (hI2 _).mono ?_); rintro e wi ⟨rfl, rfl⟩)
              | (go_at_call 102; (with_reducible refine (hI3 _).mono ?_); rintro e wi ⟨rfl, rfl⟩))
            (try simp only [Exit.inBlock, Exit.then])
            refine bodyPost_ret (v := .tuple #[.agg #[.int .u64 0, .int .u64 0, .int .i64 0, .bool false], .bool false]) ?_ rfl ⟨?_, ?_⟩
            · rw [results_cell_tmp rfl]
              go_simp
            · rw [← HFR.out, ← HCR.out, HFV.out, HCV.out]; exact rfl
            · (repeat (first | (with_reducible refine Fr.setCell ?_ (fun h => absurd h (Nat.lt_irrefl _)) _) | (with_reducible refine Fr.alloc ?_ _) | (with_reducible refine Fr.drew ?_) | (with_reducible exact (by first | exact HF8.out | exact HF7.out | exact HF6.out))))
          · rcases n2 with ⟨rfl, o2, l2, u2⟩ | ⟨rfl, o2 | ⟨o2, l2⟩ | ⟨o2, l2, u2⟩⟩
            · simp only [o2, if_true] at hI2
              have l2' : ¬ intOfW q2 < 0 := by omega
              have u2' : ¬ 64 < intOfW q2 := by omega
              rcases n3 with ⟨rfl, o3, l3, u3⟩ | ⟨rfl, o3 | ⟨o3, l3⟩ | ⟨o3, l3, u3⟩⟩
              · simp only [o3, if_true] at hI3
                have l3' : ¬ intOfW q3 < 0 := by omega
                have u3' : ¬ 1 < intOfW q3 := by omega
                clear o2 o3
                generalize intOfW q2 = i2 at *
                generalize intOfW q3 = i3 at *
                have hCv : C = true := by rw [HCLS.out]; simp
                have hFv : F = ⟨q0, V3, i2, i3 == 1⟩ := by rw [HFRM.out, hCv]; exact rfl
                have HCV := Lib.hid hCv
                have HFV := Lib.hid hFv
                clear hCv hFv
                go_wp2_with (first
                  | (go_at_call 99; refine (hO _ (by first | exact hFk.out)).mono ?_; rintro e w6 ⟨rfl, hF6⟩; have HB6 : Hid (w6.heap[W.heap.size]? = some (.cells #[.int .u64 0, .int .u64 0, .int .i64 0, .bool false] 134 (0, 0))) := hF6.heap (by simp) (by first | exact hBk.out); have HA6 : Hid (w6.heap[ab]? = some (.cells #[.int .u64 q0, .int .u64 q1, .int .u64 q2, .int .u64 q3] 189 (0, 0))) := hF6.heap (by simp) (by first | exact HA4.out); have HF6 : Hid (Fr [] W w6) := Fr.trans (by first | exact hFk.out) hF6; clear c0 c1 c2 c3; have c61 := cell_of_heap (o := 1) HA6.out rfl; clear hF6)
                  | (go_at_call 100; refine (hN _ (by first | exact HF6.out | exact hFk.out)).mono ?_; rintro e w7 ⟨rfl, hF7⟩; have HB7 : Hid (w7.heap[W.heap.size]? = some (.cells #[.int .u64 0, .int .u64 0, .int .i64 0, .bool false] 134 (0, 0))) := hF7.heap (by simp) (by first | exact HB6.out | exact hBk.out); have HA7 : Hid (w7.heap[ab]? = some (.cells #[.int .u64 q0, .int .u64 q1, .int .u64 q2, .int .u64 q3] 189 (0, 0))) := hF7.heap (by simp) (by first | exact HA6.out | exact HA4.out); have HF7 : Hid (Fr [] W w7) := Fr.trans (by first | exact HF6.out | exact hFk.out) hF7; (try clear c61); have r70 := cell_of_heap (o := 0) HB7.out rfl; have r71 := cell_of_heap (o := 1) HB7.out rfl; have r72 := cell_of_heap (o := 2) HB7.out rfl; have r73 := cell_of_heap (o := 3) HB7.out rfl; have f70 := frozen_of_heap (o := 0) HB7.out; have f71 := frozen_of_heap (o := 1) HB7.out; have f72 := frozen_of_heap (o := 2) HB7.out; have f73 := frozen_of_heap (o := 3) HB7.out; have c71 := cell_of_heap (o := 1) HA7.out rfl; have hlt7 : W.heap.size < w7.heap.size := lt_of_heap HB7.out; clear hF7)
                  | (go_at_call 101; refine (hD _ (by first | exact HF7.out | exact HF6.out | exact hFk.out)).mono ?_; rintro e w8 ⟨rfl, hF8⟩; have HB8 : Hid (w8.heap[W.heap.size]? = some (.cells #[.int .u64 0, .int .u64 0, .int .i64 0, .bool false] 134 (0, 0))) := hF8.heap (by simp) (by first | exact HB7.out | exact HB6.out | exact hBk.out); have HA8 : Hid (w8.heap[ab]? = some (.cells #[.int .u64 q0, .int .u64 q1, .int .u64 q2, .int .u64 q3] 189 (0, 0))) := hF8.heap (by simp) (by first | exact HA7.out | exact HA6.out | exact HA4.out); have HF8 : Hid (Fr [] W w8) := Fr.trans (by first | exact HF7.out | exact HF6.out | exact hFk.out) hF8; (try clear c61); (try clear c71); (try clear r70 r71 r72 r73 f70 f71 f72 f73 hlt7); have r80 := cell_of_heap (o := 0) HB8.out rfl; have r81 := cell_of_heap (o := 1) HB8.out rfl; have r82 := cell_of_heap (o := 2) HB8.out rfl; have r83 := cell_of_heap (o := 3) HB8.out rfl; have f80 := frozen_of_heap (o := 0) HB8.out; have f81 := frozen_of_heap (o := 1) HB8.out; have f82 := frozen_of_heap (o := 2) HB8.out; have f83 := frozen_of_heap (o := 3) HB8.out; have c82 := cell_of_heap (o := 2) HA8.out rfl; have c83 := cell_of_heap (o := 3) HA8.out rfl; have hlt8 : W.heap.size < w8.heap.size := lt_of_heap HB8.out; clear hF8)
                  | (go_at_call 102; (with_reducible refine (hI2 _).mono ?_); rintro e wi ⟨rfl, rfl⟩)
                  | (go_at_call 102; (with_reducible refine (hI3 _).mono ?_); rintro e wi ⟨rfl, rfl⟩))
                (try simp only [Exit.inBlock, Exit.then])
                refine bodyPost_ret (v := .tuple #[.agg #[.int .u64 q0, .int .u64 V3, .int .i64 i2, .bool (i3 == 1)], .bool true]) ?_ rfl ⟨?_, ?_⟩
                · rw [results_cell_tmp rfl]
                  go_simp
                · rw [← HFR.out, ← HCR.out, HFV.out, HCV.out]; exact rfl
                · (repeat (first | (with_reducible refine Fr.setCell ?_ (fun h => absurd h (Nat.lt_irrefl _)) _) | (with_reducible refine Fr.alloc ?_ _) | (with_reducible refine Fr.drew ?_) | (with_reducible exact (by first | exact HF8.out | exact HF7.out | exact HF6.out))))
              · simp only [o3, Bool.false_eq_true, if_false] at hI3
                clear o2 o3
                generalize intOfW q2 = i2 at *
                have hCv : C = false := by rw [HCLS.out]; simp
                have hFv : F = Frm.zero := by rw [HFRM.out, hCv]; exact rfl
                have HCV := Lib.hid hCv
                have HFV := Lib.hid hFv
                clear hCv hFv
                go_wp2_with (first
                  | (go_at_call 99; refine (hO _ (by first | exact hFk.out)).mono ?_; rintro e w6 ⟨rfl, hF6⟩; have HB6 : Hid (w6.heap[W.heap.size]? = some (.cells #[.int .u64 0, .int .u64 0, .int .i64 0, .bool false] 134 (0, 0))) := hF6.heap (by simp) (by first | exact hBk.out); have HA6 : Hid (w6.heap[ab]? = some (.cells #[.int .u64 q0, .int .u64 q1, .int .u64 q2, .int .u64 q3] 189 (0, 0))) := hF6.heap (by simp) (by first | exact HA4.out); have HF6 : Hid (Fr [] W w6) := Fr.trans (by first | exact hFk.out) hF6; clear c0 c1 c2 c3; have c61 := cell_of_heap (o := 1) HA6.out rfl; clear hF6)
                  | (go_at_call 100; refine (hN _ (by first | exact HF6.out | exact hFk.out)).mono ?_; rintro e w7 ⟨rfl, hF7⟩; have HB7 : Hid (w7.heap[W.heap.size]? = some (.cells #[.int .u64 0, .int .u64 0, .int .i64 0, .bool false] 134 (0, 0))) := hF7.heap (by simp) (by first | exact HB6.out | exact hBk.out); have HA7 : Hid (w7.heap[ab]? = some (.cells #[.int .u64 q0, .int .u64 q1, .int .u64 q2, .int .u64 q3] 189 (0, 0))) := hF7.heap (by simp) (by first | exact HA6.out | exact HA4.out); have HF7 : Hid (Fr [] W w7) := Fr.trans (by first | exact HF6.out | exact hFk.out) hF7; (try clear c61); have r70 := cell_of_heap (o := 0) HB7.out rfl; have r71 := cell_of_heap (o := 1) HB7.out rfl; have r72 := cell_of_heap (o := 2) HB7.out rfl; have r73 := cell_of_heap (o := 3) HB7.out rfl; have f70 := frozen_of_heap (o := 0) HB7.out; have f71 := frozen_of_heap (o := 1) HB7.out; have f72 := frozen_of_heap (o := 2) HB7.out; have f73 := frozen_of_heap (o := 3) HB7.out; have c71 := cell_of_heap (o := 1) HA7.out rfl; have hlt7 : W.heap.size < w7.heap.size := lt_of_heap HB7.out; clear hF7)
                  | (go_at_call 101; refine (hD _ (by first | exact HF7.out | exact HF6.out | exact hFk.out)).mono ?_; rintro e w8 ⟨rfl, hF8⟩; have HB8 : Hid (w8.heap[W.heap.size]? = some (.cells #[.int .u64 0, .int .u64 0, .int .i64 0, .bool false] 134 (0, 0))) := hF8.heap (by simp) (by first | exact HB7.out | exact HB6.out | exact hBk.out); have HA8 : Hid (w8.heap[ab]? = some (.cells #[.int .u64 q0, .int .u64 q1, .int .u64 q2, .int .u64 q3] 189 (0, 0))) := hF8.heap (by simp) (by first | exact HA7.out | exact HA6.out | exact HA4.out); have HF8 : Hid (Fr [] W w8) := Fr.trans (by first | exact HF7.out | exact HF6.out | exact hFk.out) hF8; (try clear c61); (try clear c71); (try clear r70 r71 r72 r73 f70 f71 f72 f73 hlt7); have r80 := cell_of_heap (o := 0) HB8.out rfl; have r81 := cell_of_heap (o := 1) HB8.out rfl; have r82 := cell_of_heap (o := 2) HB8.out rfl; have r83 := cell_of_heap (o := 3) HB8.out rfl; have f80 := frozen_of_heap (o := 0) HB8.out; have f81 := frozen_of_heap (o := 1) HB8.out; have f82 := frozen_of_heap (o := 2) HB8.out; have f83 := frozen_of_heap (o := 3) HB8.out; have c82 := cell_of_heap (o := 2) HA8.out rfl; have c83 := cell_of_heap (o := 3) HA8.out rfl; have hlt8 : W.heap.size < w8.heap.size := lt_of_heap HB8.out; clear hF8)
                  | (go_at_call 102; (with_reducible refine (hI2 _).mono ?_); rintro e wi ⟨rfl, rfl⟩)
                  | (go_at_call 102; (with_reducible refine (hI3 _).mono ?_); rintro e wi ⟨rfl, rfl⟩))
                (try simp only [Exit.inBlock, Exit.then])
                refine bodyPost_ret (v := .tuple #[.agg #[.int .u64 0, .int .u64 0, .int .i64 0, .bool false], .bool false]) ?_ rfl ⟨?_, ?_⟩
                · rw [results_cell_tmp rfl]
                  go_simp
                · rw [← HFR.out, ← HCR.out, HFV.out, HCV.out]; exact rfl
                · (repeat (first | (with_reducible refine Fr.setCell ?_ (fun h => absurd h (Nat.lt_irrefl _)) _) | (with_reducible refine Fr.alloc ?_ _) | (with_reducible refine Fr.drew ?_) | (with_reducible exact (by first | exact HF8.out | exact HF7.out | exact HF6.out))))
              · simp only [o3, if_true] at hI3
                clear o2 o3
                generalize intOfW q2 = i2 at *
                generalize intOfW q3 = i3 at *
                have hCv : C = false := by rw [HCLS.out]; simp
                have hFv : F = Frm.zero := by rw [HFRM.out, hCv]; exact rfl
                have HCV := Lib.hid hCv
                have HFV := Lib.hid hFv
                clear hCv hFv
                go_wp2_with (first
                  | (go_at_call 99; refine (hO _ (by first | exact hFk.out)).mono ?_; rintro e w6 ⟨rfl, hF6⟩; have HB6 : Hid (w6.heap[W.heap.size]? = some (.cells #[.int .u64 0, .int .u64 0, .int .i64 0, .bool false] 134 (0, 0))) := hF6.heap (by simp) (by first | exact hBk.out); have HA6 : Hid (w6.heap[ab]? = some (.cells #[.int .u64 q0, .int .u64 q1, .int .u64 q2, .int .u64 q3] 189 (0, 0))) := hF6.heap (by simp) (by first | exact HA4.out); have HF6 : Hid (Fr [] W w6) := Fr.trans (by first | exact hFk.out) hF6; clear c0 c1 c2 c3; have c61 := cell_of_heap (o := 1) HA6.out rfl; clear hF6)
                  | (go_at_call 100; refine (hN _ (by first | exact HF6.out | exact hFk.out)).mono ?_; rintro e w7 ⟨rfl, hF7⟩; have HB7 : Hid (w7.heap[W.heap.size]? = some (.cells #[.int .u64 0, .int .u64 0, .int .i64 0, .bool false] 134 (0, 0))) := hF7.heap (by simp) (by first | exact HB6.out | exact hBk.out); have HA7 : Hid (w7.heap[ab]? = some (.cells #[.int .u64 q0, .int .u64 q1, .int .u64 q2, .int .u64 q3] 189 (0, 0))) := hF7.heap (by simp) (by first | exact HA6.out | exact HA4.out); have HF7 : Hid (Fr [] W w7) := Fr.trans (by first | exact HF6.out | exact hFk.out) hF7; (try clear c61); have r70 := cell_of_heap (o := 0) HB7.out rfl; have r71 := cell_of_heap (o := 1) HB7.out rfl; have r72 := cell_of_heap (o := 2) HB7.out rfl; have r73 := cell_of_heap (o := 3) HB7.out rfl; have f70 := frozen_of_heap (o := 0) HB7.out; have f71 := frozen_of_heap (o := 1) HB7.out; have f72 := frozen_of_heap (o := 2) HB7.out; have f73 := frozen_of_heap (o := 3) HB7.out; have c71 := cell_of_heap (o := 1) HA7.out rfl; have hlt7 : W.heap.size < w7.heap.size := lt_of_heap HB7.out; clear hF7)
                  | (go_at_call 101; refine (hD _ (by first | exact HF7.out | exact HF6.out | exact hFk.out)).mono ?_; rintro e w8 ⟨rfl, hF8⟩; have HB8 : Hid (w8.heap[W.heap.size]? = some (.cells #[.int .u64 0, .int .u64 0, .int .i64 0, .bool false] 134 (0, 0))) := hF8.heap (by simp) (by first | exact HB7.out | exact HB6.out | exact hBk.out); have HA8 : Hid (w8.heap[ab]? = some (.cells #[.int .u64 q0, .int .u64 q1, .int .u64 q2, .int .u64 q3] 189 (0, 0))) := hF8.heap (by simp) (by first | exact HA7.out | exact HA6.out | exact HA4.out); have HF8 : Hid (Fr [] W w8) := Fr.trans (by first | exact HF7.out | exact HF6.out | exact hFk.out) hF8; (try clear c61); (try clear c71); (try clear r70 r71 r72 r73 f70 f71 f72 f73 hlt7); have r80 := cell_of_heap (o := 0) HB8.out rfl; have r81 := cell_of_heap (o := 1) HB8.out rfl; have r82 := cell_of_heap (o := 2) HB8.out rfl; have r83 := cell_of_heap (o := 3) HB8.out rfl; have f80 := frozen_of_heap (o := 0) HB8.out; have f81 := frozen_of_heap (o := 1) HB8.out; have f82 := frozen_of_heap (o := 2) HB8.out; have f83 := frozen_of_heap (o := 3) HB8.out; have c82 := cell_of_heap (o := 2) HA8.out rfl; have c83 := cell_of_heap (o := 3) HA8.out rfl; have hlt8 : W.heap.size < w8.heap.size := lt_of_heap HB8.out; clear hF8)
                  | (go_at_call 102; (with_reducible refine (hI2 _).mono ?_); rintro e wi ⟨rfl, rfl⟩)
                  | (go_at_call 102; (with_reducible refine (hI3 _).mono ?_); rintro e wi ⟨rfl, rfl⟩))
                (try simp only [Exit.inBlock, Exit.then])
                refine bodyPost_ret (v := .tuple #[.agg #[.int .u64 0, .int .u64 0, .int .i64 0, .bool false], .bool false]) ?_ rfl ⟨?_, ?_⟩
                · rw [results_cell_tmp rfl]
                  go_simp
                · rw [← HFR.out, ← HCR.out, HFV.out, HCV.out]; exact rfl
                · (repeat (first | (with_reducible refine Fr.setCell ?_ (fun h => absurd h (Nat.lt_irrefl _)) _) | (with_reducible refine Fr.alloc ?_ _) | (with_reducible refine Fr.drew ?_) | (with_reducible exact (by first | exact HF8.out | exact HF7.out | exact HF6.out))))
              · simp only [o3, if_true] at hI3
                have l3' : ¬ intOfW q3 < 0 := by omega
                clear o2 o3
                generalize intOfW q2 = i2 at *
                generalize intOfW q3 = i3 at *
                have hCv : C = false := by rw [HCLS.out]; simp
                have hFv : F = Frm.zero := by rw [HFRM.out, hCv]; exact rfl
                have HCV := Lib.hid hCv
                have HFV := Lib.hid hFv
                clear hCv hFv
                go_wp2_with (first
                  | (go_at_call 99; refine (hO _ (by first | exact hFk.out)).mono ?_; rintro e w6 ⟨rfl, hF6⟩; have HB6 : Hid (w6.heap[W.heap.size]? = some (.cells #[.int .u64 0, .int .u64 0, .int .i64 0, .bool false] 134 (0, 0))) := hF6.heap (by simp) (by first | exact hBk.out); have HA6 : Hid (w6.heap[ab]? = some (.cells #[.int .u64 q0, .int .u64 q1, .int .u64 q2, .int .u64 q3] 189 (0, 0))) := hF6.heap (by simp) (by first | exact HA4.out); have HF6 : Hid (Fr [] W w6) := Fr.trans (by first | exact hFk.out) hF6; clear c0 c1 c2 c3; have c61 := cell_of_heap (o := 1) HA6.out rfl; clear hF6)
                  | (go_at_call 100; refine (hN _ (by first | exact HF6.out | exact hFk.out)).mono ?_; rintro e w7 ⟨rfl, hF7⟩; have HB7 : Hid (w7.heap[W.heap.size]? = some (.cells #[.int .u64 0, .int .u64 0, .int .i64 0, .bool false] 134 (0, 0))) := hF7.heap (by simp) (by first | exact HB6.out | exact hBk.out); have HA7 : Hid (w7.heap[ab]? = some (.cells #[.int .u64 q0, .int .u64 q1, .int .u64 q2, .int .u64 q3] 189 (0, 0))) := hF7.heap (by simp) (by first | exact HA6.out | exact HA4.out); have HF7 : Hid (Fr [] W w7) := Fr.trans (by first | exact HF6.out | exact hFk.out) hF7; (try clear c61); have r70 := cell_of_heap (o := 0) HB7.out rfl; have r71 := cell_of_heap (o := 1) HB7.out rfl; have r72 := cell_of_heap (o := 2) HB7.out rfl; have r73 := cell_of_heap (o := 3) HB7.out rfl; have f70 := frozen_of_heap (o := 0) HB7.out; have f71 := frozen_of_heap (o := 1) HB7.out; have f72 := frozen_of_heap (o := 2) HB7.out; have f73 := frozen_of_heap (o := 3) HB7.out; have c71 := cell_of_heap (o := 1) HA7.out rfl; have hlt7 : W.heap.size < w7.heap.size := lt_of_heap HB7.out; clear hF7)
                  | (go_at_call 101; refine (hD _ (by first | exact HF7.out | exact HF6.out | exact hFk.out)).mono ?_; rintro e w8 ⟨rfl, hF8⟩; have HB8 : Hid (w8.heap[W.heap.size]? = some (.cells #[.int .u64 0, .int .u64 0, .int .i64 0, .bool false] 134 (0, 0))) := hF8.heap (by simp) (by first | exact HB7.out | exact HB6.out | exact hBk.out); have HA8 : Hid (w8.heap[ab]? = some (.cells #[.int .u64 q0, .int .u64 q1, .int .u64 q2, .int .u64 q3] 189 (0, 0))) := hF8.heap (by simp) (by first | exact HA7.out | exact HA6.out | exact HA4.out); have HF8 : Hid (Fr [] W w8) := Fr.trans (by first | exact HF7.out | exact HF6.out | exact hFk.out) hF8; (try clear c61); (try clear c71); (try clear r70 r71 r72 r73 f70 f71 f72 f73 hlt7); have r80 := cell_of_heap (o := 0) HB8.out rfl; have r81 := cell_of_heap (o := 1) HB8.out rfl; have r82 := cell_of_heap (o := 2) HB8.out rfl; have r83 := cell_of_heap (o := 3) HB8.out rfl; have f80 := frozen_of_heap (o := 0) HB8.out; have f81 := frozen_of_heap (o := 1) HB8.out; have f82 := frozen_of_heap (o := 2) HB8.out; have f83 := frozen_of_heap (o := 3) HB8.out; have c82 := cell_of_heap (o := 2) HA8.out rfl; have c83 := cell_of_heap (o := 3) HA8.out rfl; have hlt8 : W.heap.size < w8.heap.size := lt_of_heap HB8.out; clear hF8)
                  | (go_at_call 102; (with_reducible refine (hI2 _).mono ?_); rintro e wi ⟨rfl, rfl⟩)
                  | (go_at_call 102; (with_reducible refine (hI3 _).mono ?_); rintro e wi ⟨rfl, rfl⟩))
                (try simp only [Exit.inBlock, Exit.then])
                refine bodyPost_ret (v := .tuple #[.agg #[.int .u64 0, .int .u64 0, .int .i64 0, .bool false], .bool false]) ?_ rfl ⟨?_, ?_⟩
                · rw [results_cell_tmp rfl]
                  go_simp
                · rw [← HFR.out, ← HCR.out, HFV.out, HCV.out]; exact rfl
                · (repeat (first | (with_reducible refine Fr.setCell ?_ (fun h => absurd h (Nat.lt_irrefl _)) _) | (with_reducible refine Fr.alloc ?_ _) | (with_reducible refine Fr.drew ?_) | (with_reducible exact (by first | exact HF8.out | exact HF7.out | exact HF6.out))))
            · simp only [o2, Bool.false_eq_true, if_false] at hI2
              clear o2 n3
              have hCv : C = false := by rw [HCLS.out]; simp
              have hFv : F = Frm.zero := by rw [HFRM.out, hCv]; exact rfl
              have HCV := Lib.hid hCv
              have HFV := Lib.hid hFv
              clear hCv hFv
              go_wp2_with (first
                | (go_at_call 99; refine (hO _ (by first | exact hFk.out)).mono ?_; rintro e w6 ⟨rfl, hF6⟩; have HB6 : Hid (w6.heap[W.heap.size]? = some (.cells #[.int .u64 0, .int .u64 0, .int .i64 0, .bool false] 134 (0, 0))) := hF6.heap (by simp) (by first | exact hBk.out); have HA6 : Hid (w6.heap[ab]? = some (.cells #[.int .u64 q0, .int .u64 q1, .int .u64 q2, .int .u64 q3] 189 (0, 0))) := hF6.heap (by simp) (by first | exact HA4.out); have HF6 : Hid (Fr [] W w6) := Fr.trans (by first | exact hFk.out) hF6; clear c0 c1 c2 c3; have c61 := cell_of_heap (o := 1) HA6.out rfl; clear hF6)
                | (go_at_call 100; refine (hN _ (by first | exact HF6.out | exact hFk.out)).mono ?_; rintro e w7 ⟨rfl, hF7⟩; have HB7 : Hid (w7.heap[W.heap.size]? = some (.cells #[.int .u64 0, .int .u64 0, .int .i64 0, .bool false] 134 (0, 0))) := hF7.heap (by simp) (by first | exact HB6.out | exact hBk.out); have HA7 : Hid (w7.heap[ab]? = some (.cells #[.int .u64 q0, .int .u64 q1, .int .u64 q2, .int .u64 q3] 189 (0, 0))) := hF7.heap (by simp) (by first | exact HA6.out | exact HA4.out); have HF7 : Hid (Fr [] W w7) := Fr.trans (by first | exact HF6.out | exact hFk.out) hF7; (try clear c61); have r70 := cell_of_heap (o := 0) HB7.out rfl; have r71 := cell_of_heap (o := 1) HB7.out rfl; have r72 := cell_of_heap (o := 2) HB7.out rfl; have r73 := cell_of_heap (o := 3) HB7.out rfl; have f70 := frozen_of_heap (o := 0) HB7.out; have f71 := frozen_of_heap (o := 1) HB7.out; have f72 := frozen_of_heap (o := 2) HB7.out; have f73 := frozen_of_heap (o := 3) HB7.out; have c71 := cell_of_heap (o := 1) HA7.out rfl; have hlt7 : W.heap.size < w7.heap.size := lt_of_heap HB7.out; clear hF7)
                | (go_at_call 101; refine (hD _ (by first | exact HF7.out | exact HF6.out | exact hFk.out)).mono ?_; rintro e w8 ⟨rfl, hF8⟩; have HB8 : Hid (w8.heap[W.heap.size]? = some (.cells #[.int .u64 0, .int .u64 0, .int .i64 0, .bool false] 134 (0, 0))) := hF8.heap (by simp) (by first | exact HB7.out | exact HB6.out | exact hBk.out); have HA8 : Hid (w8.heap[ab]? = some (.cells #[.int .u64 q0, .int .u64 q1, .int .u64 q2, .int .u64 q3] 189 (0, 0))) := hF8.heap (by simp) (by first | exact HA7.out | exact HA6.out | exact HA4.out); have HF8 : Hid (Fr [] W w8) := Fr.trans (by first | exact HF7.out | exact HF6.out | exact hFk.out) hF8; (try clear c61); (try clear c71); (try clear r70 r71 r72 r73 f70 f71 f72 f73 hlt7); have r80 := cell_of_heap (o := 0) HB8.out rfl; have r81 := cell_of_heap (o := 1) HB8.out rfl; have r82 := cell_of_heap (o := 2) HB8.out rfl; have r83 := cell_of_heap (o := 3) HB8.out rfl; have f80 := frozen_of_heap (o := 0) HB8.out; have f81 := frozen_of_heap (o := 1) HB8.out; have f82 := frozen_of_heap (o := 2) HB8.out; have f83 := frozen_of_heap (o := 3) HB8.out; have c82 := cell_of_heap (o := 2) HA8.out rfl; have c83 := cell_of_heap (o := 3) HA8.out rfl; have hlt8 : W.heap.size < w8.heap.size := lt_of_heap HB8.out; clear hF8)
                | (go_at_call 102; (with_reducible refine (hI2 _).mono ?_); rintro e wi ⟨rfl, rfl⟩)
                | (go_at_call 102; (with_reducible refine (hI3 _).mono ?_); rintro e wi ⟨rfl, rfl⟩))
              (try simp only [Exit.inBlock, Exit.then])
              refine bodyPost_ret (v := .tuple #[.agg #[.int .u64 0, .int .u64 0, .int .i64 0, .bool false], .bool false]) ?_ rfl ⟨?_, ?_⟩
              · rw [results_cell_tmp rfl]
                go_simp
              · rw [← HFR.out, ← HCR.out, HFV.out, HCV.out]; exact rfl
              · (repeat (first | (with_reducible refine Fr.setCell ?_ (fun h => absurd h (Nat.lt_irrefl _)) _) | (with_reducible refine Fr.alloc ?_ _) | (with_reducible refine Fr.drew ?_) | (with_reducible exact (by first | exact HF8.out | exact HF7.out | exact HF6.out))))
            · simp only [o2, if_true] at hI2
              clear o2 n3
              generalize intOfW q2 = i2 at *
              have hCv : C = false := by rw [HCLS.out]; simp
              have hFv : F = Frm.zero := by rw [HFRM.out, hCv]; exact rfl
              have HCV := Lib.hid hCv
              have HFV := Lib.hid hFv
              clear hCv hFv
              go_wp2_with (first
                | (go_at_call 99; refine (hO _ (by first | exact hFk.out)).mono ?_; rintro e w6 ⟨rfl, hF6⟩; have HB6 : Hid (w6.heap[W.heap.size]? = some (.cells #[.int .u64 0, .int .u64 0, .int .i64 0, .bool false] 134 (0, 0))) := hF6.heap (by simp) (by first | exact hBk.out); have HA6 : Hid (w6.heap[ab]? = some (.cells #[.int .u64 q0, .int .u64 q1, .int .u64 q2, .int .u64 q3] 189 (0, 0))) := hF6.heap (by simp) (by first | exact HA4.out); have HF6 : Hid (Fr [] W w6) := Fr.trans (by first | exact hFk.out) hF6; clear c0 c1 c2 c3; have c61 := cell_of_heap (o := 1) HA6.out rfl; clear hF6)
                | (go_at_call 100; refine (hN _ (by first | exact HF6.out | exact hFk.out)).mono ?_; rintro e w7 ⟨rfl, hF7⟩; have HB7 : Hid (w7.heap[W.heap.size]? = some (.cells #[.int .u64 0, .int .u64 0, .int .i64 0, .bool false] 134 (0, 0))) := hF7.heap (by simp) (by first | exact HB6.out | exact hBk.out); have HA7 : Hid (w7.heap[ab]? = some (.cells #[.int .u64 q0, .int .u64 q1, .int .u64 q2, .int .u64 q3] 189 (0, 0))) := hF7.heap (by simp) (by first | exact HA6.out | exact HA4.out); have HF7 : Hid (Fr [] W w7) := Fr.trans (by first | exact HF6.out | exact hFk.out) hF7; (try clear c61); have r70 := cell_of_heap (o := 0) HB7.out rfl; have r71 := cell_of_heap (o := 1) HB7.out rfl; have r72 := cell_of_heap (o := 2) HB7.out rfl; have r73 := cell_of_heap (o := 3) HB7.out rfl; have f70 := frozen_of_heap (o := 0) HB7.out; have f71 := frozen_of_heap (o := 1) HB7.out; have f72 := frozen_of_heap (o := 2) HB7.out; have f73 := frozen_of_heap (o := 3) HB7.out; have c71 := cell_of_heap (o := 1) HA7.out rfl; have hlt7 : W.heap.size < w7.heap.size := lt_of_heap HB7.out; clear hF7)
                | (go_at_call 101; refine (hD _ (by first | exact HF7.out | exact HF6.out | exact hFk.out)).mono ?_; rintro e w8 ⟨rfl, hF8⟩; have HB8 : Hid (w8.heap[W.heap.size]? = some (.cells #[.int .u64 0, .int .u64 0, .int .i64 0, .bool false] 134 (0, 0))) := hF8.heap (by simp) (by first | exact HB7.out | exact HB6.out | exact hBk.out); have HA8 : Hid (w8.heap[ab]? = some (.cells #[.int .u64 q0, .int .u64 q1, .int .u64 q2, .int .u64 q3] 189 (0, 0))) := hF8.heap (by simp) (by first | exact HA7.out | exact HA6.out | exact HA4.out); have HF8 : Hid (Fr [] W w8) := Fr.trans (by first | exact HF7.out | exact HF6.out | exact hFk.out) hF8; (try clear c61); (try clear c71); (try clear r70 r71 r72 r73 f70 f71 f72 f73 hlt7); have r80 := cell_of_heap (o := 0) HB8.out rfl; have r81 := cell_of_heap (o := 1) HB8.out rfl; have r82 := cell_of_heap (o := 2) HB8.out rfl; have r83 := cell_of_heap (o := 3) HB8.out rfl; have f80 := frozen_of_heap (o := 0) HB8.out; have f81 := frozen_of_heap (o := 1) HB8.out; have f82 := frozen_of_heap (o := 2) HB8.out; have f83 := frozen_of_heap (o := 3) HB8.out; have c82 := cell_of_heap (o := 2) HA8.out rfl; have c83 := cell_of_heap (o := 3) HA8.out rfl; have hlt8 : W.heap.size < w8.heap.size := lt_of_heap HB8.out; clear hF8)
                | (go_at_call 102; (with_reducible refine (hI2 _).mono ?_); rintro e wi ⟨rfl, rfl⟩)
                | (go_at_call 102; (with_reducible refine (hI3 _).mono ?_); rintro e wi ⟨rfl, rfl⟩))
              (try simp only [Exit.inBlock, Exit.then])
              refine bodyPost_ret (v := .tuple #[.agg #[.int .u64 0, .int .u64 0, .int .i64 0, .bool false], .bool false]) ?_ rfl ⟨?_, ?_⟩
              · rw [results_cell_tmp rfl]
                go_simp
              · rw [← HFR.out, ← HCR.out, HFV.out, HCV.out]; exact rfl
              · (repeat (first | (with_reducible refine Fr.setCell ?_ (fun h => absurd h (Nat.lt_irrefl _)) _) | (with_reducible refine Fr.alloc ?_ _) | (with_reducible refine Fr.drew ?_) | (with_reducible exact (by first | exact HF8.out | exact HF7.out | exact HF6.out))))
            · simp only [o2, if_true] at hI2
              have l2' : ¬ intOfW q2 < 0 := by omega
              clear o2 n3
              generalize intOfW q2 = i2 at *
              have hCv : C = false := by rw [HCLS.out]; simp
              have hFv : F = Frm.zero := by rw [HFRM.out, hCv]; exact rfl
              have HCV := Lib.hid hCv
              have HFV := Lib.hid hFv
              clear hCv hFv
              go_wp2_with (first
                | (go_at_call 99; refine (hO _ (by first | exact hFk.out)).mono ?_; rintro e w6 ⟨rfl, hF6⟩; have HB6 : Hid (w6.heap[W.heap.size]? = some (.cells #[.int .u64 0, .int .u64 0, .int .i64 0, .bool false] 134 (0, 0))) := hF6.heap (by simp) (by first | exact hBk.out); have HA6 : Hid (w6.heap[ab]? = some (.cells #[.int .u64 q0, .int .u64 q1, .int .u64 q2, .int .u64 q3] 189 (0, 0))) := hF6.heap (by simp) (by first | exact HA4.out); have HF6 : Hid (Fr [] W w6) := Fr.trans (by first | exact hFk.out) hF6; clear c0 c1 c2 c3; have c61 := cell_of_heap (o := 1) HA6.out rfl; clear hF6)
                | (go_at_call 100; refine (hN _ (by first | exact HF6.out | exact hFk.out)).mono ?_; rintro e w7 ⟨rfl, hF7⟩; have HB7 : Hid (w7.heap[W.heap.size]? = some (.cells #[.int .u64 0, .int .u64 0, .int .i64 0, .bool false] 134 (0, 0))) := hF7.heap (by simp) (by first | exact HB6.out | exact hBk.out); have HA7 : Hid (w7.heap[ab]? = some (.cells #[.int .u64 q0, .int .u64 q1, .int .u64 q2, .int .u64 q3] 189 (0, 0))) := hF7.heap (by simp) (by first | exact HA6.out | exact HA4.out); have HF7 : Hid (Fr [] W w7) := Fr.trans (by first | exact HF6.out | exact hFk.out) hF7; (try clear c61); have r70 := cell_of_heap (o := 0) HB7.out rfl; have r71 := cell_of_heap (o := 1) HB7.out rfl; have r72 := cell_of_heap (o := 2) HB7.out rfl; have r73 := cell_of_heap (o := 3) HB7.out rfl; have f70 := frozen_of_heap (o := 0) HB7.out; have f71 := frozen_of_heap (o := 1) HB7.out; have f72 := frozen_of_heap (o := 2) HB7.out; have f73 := frozen_of_heap (o := 3) HB7.out; have c71 := cell_of_heap (o := 1) HA7.out rfl; have hlt7 : W.heap.size < w7.heap.size := lt_of_heap HB7.out; clear hF7)
                | (go_at_call 101; refine (hD _ (by first | exact HF7.out | exact HF6.out | exact hFk.out)).mono ?_; rintro e w8 ⟨rfl, hF8⟩; have HB8 : Hid (w8.heap[W.heap.size]? = some (.cells #[.int .u64 0, .int .u64 0, .int .i64 0, .bool false] 134 (0, 0))) := hF8.heap (by simp) (by first | exact HB7.out | exact HB6.out | exact hBk.out); have HA8 : Hid (w8.heap[ab]? = some (.cells #[.int .u64 q0, .int .u64 q1, .int .u64 q2, .int .u64 q3] 189 (0, 0))) := hF8.heap (by simp) (by first | exact HA7.out | exact HA6.out | exact HA4.out); have HF8 : Hid (Fr [] W w8) := Fr.trans (by first | exact HF7.out | exact HF6.out | exact hFk.out) hF8; (try clear c61); (try clear c71); (try clear r70 r71 r72 r73 f70 f71 f72 f73 hlt7); have r80 := cell_of_heap (o := 0) HB8.out rfl; have r81 := cell_of_heap (o := 1) HB8.out rfl; have r82 := cell_of_heap (o := 2) HB8.out rfl; have r83 := cell_of_heap (o := 3) HB8.out rfl; have f80 := frozen_of_heap (o := 0) HB8.out; have f81 := frozen_of_heap (o := 1) HB8.out; have f82 := frozen_of_heap (o := 2) HB8.out; have f83 := frozen_of_heap (o := 3) HB8.out; have c82 := cell_of_heap (o := 2) HA8.out rfl; have c83 := cell_of_heap (o := 3) HA8.out rfl; have hlt8 : W.heap.size < w8.heap.size := lt_of_heap HB8.out; clear hF8)
                | (go_at_call 102; (with_reducible refine (hI2 _).mono ?_); rintro e wi ⟨rfl, rfl⟩)
                | (go_at_call 102; (with_reducible refine (hI3 _).mono ?_); rintro e wi ⟨rfl, rfl⟩))
              (try simp only [Exit.inBlock, Exit.then])
              refine bodyPost_ret (v := .tuple #[.agg #[.int .u64 0, .int .u64 0, .int .i64 0, .bool false], .bool false]) ?_ rfl ⟨?_, ?_⟩
              · rw [results_cell_tmp rfl]
                go_simp
              · rw [← HFR.out, ← HCR.out, HFV.out, HCV.out]; exact rfl
              · (repeat (first | (with_reducible refine Fr.setCell ?_ (fun h => absurd h (Nat.lt_irrefl _)) _) | (with_reducible refine Fr.alloc ?_ _) | (with_reducible refine Fr.drew ?_) | (with_reducible exact (by first | exact HF8.out | exact HF7.out | exact HF6.out))))
      · cases B3
        · have hCv : C = false := by rw [HCLS.out]; simp
          have hFv : F = Frm.zero := by rw [HFRM.out, hCv]; exact rfl
          have HCV := Lib.hid hCv
          have HFV := Lib.hid hFv
          clear hCv hFv
          go_wp2_with (first
            | (go_at_call 99; refine (hO _ (by first | exact hFk.out)).mono ?_; rintro e w6 ⟨rfl, hF6⟩; have HB6 : Hid (w6.heap[W.heap.size]? = some (.cells #[.int .u64 0, .int .u64 0, .int .i64 0, .bool false] 134 (0, 0))) := hF6.heap (by simp) (by first | exact hBk.out); have HA6 : Hid (w6.heap[ab]? = some (.cells #[.int .u64 q0, .int .u64 q1, .int .u64 q2, .int .u64 q3] 189 (0, 0))) := hF6.heap (by simp) (by first | exact HA4.out); have HF6 : Hid (Fr [] W w6) := Fr.trans (by first | exact hFk.out) hF6; clear c0 c1 c2 c3; have c61 := cell_of_heap (o := 1) HA6.out rfl; clear hF6)
            | (go_at_call 100; refine (hN _ (by first | exact HF6.out | exact hFk.out)).mono ?_; rintro e w7 ⟨rfl, hF7⟩; have HB7 : Hid (w7.heap[W.heap.size]? = some (.cells #[.int .u64 0, .int .u64 0, .int .i64 0, .bool false] 134 (0, 0))) := hF7.heap (by simp) (by first | exact HB6.out | exact hBk.out); have HA7 : Hid (w7.heap[ab]? = some (.cells #[.int .u64 q0, .int .u64 q1, .int .u64 q2, .int .u64 q3] 189 (0, 0))) := hF7.heap (by simp) (by first | exact HA6.out | exact HA4.out); have HF7 : Hid (Fr [] W w7) := Fr.trans (by first | exact HF6.out | exact hFk.out) hF7; (try clear c61); have r70 := cell_of_heap (o := 0) HB7.out rfl; have r71 := cell_of_heap (o := 1) HB7.out rfl; have r72 := cell_of_heap (o := 2) HB7.out rfl; have r73 := cell_of_heap (o := 3) HB7.out rfl; have f70 := frozen_of_heap (o := 0) HB7.out; have f71 := frozen_of_heap (o := 1) HB7.out; have f72 := frozen_of_heap (o := 2) HB7.out; have f73 := frozen_of_heap (o := 3) HB7.out; have c71 := cell_of_heap (o := 1) HA7.out rfl; have hlt7 : W.heap.size < w7.heap.size := lt_of_heap HB7.out; clear hF7)
            | (go_at_call 101; refine (hD _ (by first | exact HF7.out | exact HF6.out | exact hFk.out)).mono ?_; rintro e w8 ⟨rfl, hF8⟩; have HB8 : Hid (w8.heap[W.heap.size]? = some (.cells #[.int .u64 0, .int .u64 0, .int .i64 0, .bool false] 134 (0, 0))) := hF8.heap (by simp) (by first | exact HB7.out | exact HB6.out | exact hBk.out); have HA8 : Hid (w8.heap[ab]? = some (.cells #[.int .u64 q0, .int .u64 q1, .int .u64 q2, .int .u64 q3] 189 (0, 0))) := hF8.heap (by simp) (by first | exact HA7.out | exact HA6.out | exact HA4.out); have HF8 : Hid (Fr [] W w8) := Fr.trans (by first | exact HF7.out | exact HF6.out | exact hFk.out) hF8; (try clear c61); (try clear c71); (try clear r70 r71 r72 r73 f70 f71 f72 f73 hlt7); have r80 := cell_of_heap (o := 0) HB8.out rfl; have r81 := cell_of_heap (o := 1) HB8.out rfl; have r82 := cell_of_heap (o := 2) HB8.out rfl; have r83 := cell_of_heap (o := 3) HB8.out rfl; have f80 := frozen_of_heap (o := 0) HB8.out; have f81 := frozen_of_heap (o := 1) HB8.out; have f82 := frozen_of_heap (o := 2) HB8.out; have f83 := frozen_of_heap (o := 3) HB8.out; have c82 := cell_of_heap (o := 2) HA8.out rfl; have c83 := cell_of_heap (o := 3) HA8.out rfl; have hlt8 : W.heap.size < w8.heap.size := lt_of_heap HB8.out; clear hF8)
            | (go_at_call 102; (with_reducible refine (hI2 _).mono ?_); rintro e wi ⟨rfl, rfl⟩)
            | (go_at_call 102; (with_reducible refine (hI3 _).mono ?_); rintro e wi ⟨rfl, rfl⟩))
          (try simp only [Exit.inBlock, Exit.then])
          refine bodyPost_ret (v := .tuple #[.agg #[.int .u64 0, .int .u64 0, .int .i64 0, .bool false], .bool false]) ?_ rfl ⟨?_, ?_⟩
          · rw [results_cell_tmp rfl]
            go_simp
          · rw [← HFR.out, ← HCR.out, HFV.out, HCV.out]; exact rfl
          · (repeat (first | (with_reducible refine Fr.setCell ?_ (fun h => absurd h (Nat.lt_irrefl _)) _) | (with_reducible refine Fr.alloc ?_ _) | (with_reducible refine Fr.drew ?_) | (with_reducible exact (by first | exact HF8.out | exact HF7.out | exact HF6.out))))
        · rcases n2 with ⟨rfl, o2, l2, u2⟩ | ⟨rfl, o2 | ⟨o2, l2⟩ | ⟨o2, l2, u2⟩⟩
          · simp only [o2, if_true] at hI2
            have l2' : ¬ intOfW q2 < 0 := by omega
            have u2' : ¬ 64 < intOfW q2 := by omega
            rcases n3 with ⟨rfl, o3, l3, u3⟩ | ⟨rfl, o3 | ⟨o3, l3⟩ | ⟨o3, l3, u3⟩⟩
            · simp only [o3, if_true] at hI3
              have l3' : ¬ intOfW q3 < 0 := by omega
              have u3' : ¬ 1 < intOfW q3 := by omega
              clear o2 o3
              generalize intOfW q2 = i2 at *
              generalize intOfW q3 = i3 at *
              have hCv : C = true := by rw [HCLS.out]; simp
              have hFv : F = ⟨q0, V3, i2, i3 == 1⟩ := by rw [HFRM.out, hCv]; exact rfl
              have HCV := Lib.hid hCv
              have HFV := Lib.hid hFv
              clear hCv hFv
              go_wp2_with (first
                | (go_at_call 99; refine (hO _ (by first | exact hFk.out)).mono ?_; rintro e w6 ⟨rfl, hF6⟩; have HB6 : Hid (w6.heap[W.heap.size]? = some (.cells #[.int .u64 0, .int .u64 0, .int .i64 0, .bool false] 134 (0, 0))) := hF6.heap (by simp) (by first | exact hBk.out); have HA6 : Hid (w6.heap[ab]? = some (.cells #[.int .u64 q0, .int .u64 q1, .int .u64 q2, .int .u64 q3] 189 (0, 0))) := hF6.heap (by simp) (by first | exact HA4.out); have HF6 : Hid (Fr [] W w6) := Fr.trans (by first | exact hFk.out) hF6; clear c0 c1 c2 c3; have c61 := cell_of_heap (o := 1) HA6.out rfl; clear hF6)
                | (go_at_call 100; refine (hN _ (by first | exact HF6.out | exact hFk.out)).mono ?_; rintro e w7 ⟨rfl, hF7⟩; have HB7 : Hid (w7.heap[W.heap.size]? = some (.cells #[.int .u64 0, .int .u64 0, .int .i64 0, .bool false] 134 (0, 0))) := hF7.heap (by simp) (by first | exact HB6.out | exact hBk.out); have HA7 : Hid (w7.heap[ab]? = some (.cells #[.int .u64 q0, .int .u64 q1, .int .u64 q2, .int .u64 q3] 189 (0, 0))) := hF7.heap (by simp) (by first | exact HA6.out | exact HA4.out); have HF7 : Hid (Fr [] W w7) := Fr.trans (by first | exact HF6.out | exact hFk.out) hF7; (try clear c61); have r70 := cell_of_heap (o := 0) HB7.out rfl; have r71 := cell_of_heap (o := 1) HB7.out rfl; have r72 := cell_of_heap (o := 2) HB7.out rfl; have r73 := cell_of_heap (o := 3) HB7.out rfl; have f70 := frozen_of_heap (o := 0) HB7.out; have f71 := frozen_of_heap (o := 1) HB7.out; have f72 := frozen_of_heap (o := 2) HB7.out; have f73 := frozen_of_heap (o := 3) HB7.out; have c71 := cell_of_heap (o := 1) HA7.out rfl; have hlt7 : W.heap.size < w7.heap.size := lt_of_heap HB7.out; clear hF7)
                | (go_at_call 101; refine (hD _ (by first | exact HF7.out | exact HF6.out | exact hFk.out)).mono ?_; rintro e w8 ⟨rfl, hF8⟩; have HB8 : Hid (w8.heap[W.heap.size]? = some (.cells #[.int .u64 0, .int .u64 0, .int .i64 0, .bool false] 134 (0, 0))) := hF8.heap (by simp) (by first | exact HB7.out | exact HB6.out | exact hBk.out); have HA8 : Hid (w8.heap[ab]? = some (.cells #[.int .u64 q0, .int .u64 q1, .int .u64 q2, .int .u64 q3] 189 (0, 0))) := hF8.heap (by simp) (by first | exact HA7.out | exact HA6.out | exact HA4.out); have HF8 : Hid (Fr [] W w8) := Fr.trans (by first | exact HF7.out | exact HF6.out | exact hFk.out) hF8; (try clear c61); (try clear c71); (try clear r70 r71 r72 r73 f70 f71 f72 f73 hlt7); have r80 := cell_of_heap (o := 0) HB8.out rfl; have r81 := cell_of_heap (o := 1) HB8.out rfl; have r82 := cell_of_heap (o := 2) HB8.out rfl; have r83 := cell_of_heap (o := 3) HB8.out rfl; have f80 := frozen_of_heap (o := 0) HB8.out; have f81 := frozen_of_heap (o := 1) HB8.out; have f82 := frozen_of_heap (o := 2) HB8.out; have f83 := frozen_of_heap (o := 3) HB8.out; have c82 := cell_of_heap (o := 2) HA8.out rfl; have c83 := cell_of_heap (o := 3) HA8.out rfl; have hlt8 : W.heap.size < w8.heap.size := lt_of_heap HB8.out; clear hF8)
                | (go_at_call 102; (with_reducible refine (hI2 _).mono ?_); rintro e wi ⟨rfl, rfl⟩)
                | (go_at_call 102; (with_reducible refine (hI3 _).mono ?_); rintro e wi ⟨rfl, rfl⟩))
              (try simp only [Exit.inBlock, Exit.then])
              refine bodyPost_ret (v := .tuple #[.agg #[.int .u64 q0, .int .u64 V3, .int .i64 i2, .bool (i3 == 1)], .bool true]) ?_ rfl ⟨?_, ?_⟩
              · rw [results_cell_tmp rfl]
                go_simp
              · rw [← HFR.out, ← HCR.out, HFV.out, HCV.out]; exact rfl
              · (repeat (first | (with_reducible refine Fr.setCell ?_ (fun h => absurd h (Nat.lt_irrefl _)) _) | (with_reducible refine Fr.alloc ?_ _) | (with_reducible refine Fr.drew ?_) | (with_reducible exact (by first | exact HF8.out | exact HF7.out | exact HF6.out))))
            · simp only [o3, Bool.false_eq_true, if_false] at hI3
              clear o2 o3
              generalize intOfW q2 = i2 at *
              have hCv : C = false := by rw [HCLS.out]; simp
              have hFv : F = Frm.zero := by rw [HFRM.out, hCv]; exact rfl
              have HCV := Lib.hid hCv
              have HFV := Lib.hid hFv
              clear hCv hFv
              go_wp2_with (first
                | (go_at_call 99; refine (hO _ (by first | exact hFk.out)).mono ?_; rintro e w6 ⟨rfl, hF6⟩; have HB6 : Hid (w6.heap[W.heap.size]? = some (.cells #[.int .u64 0, .int .u64 0, .int .i64 0, .bool false] 134 (0, 0))) := hF6.heap (by simp) (by first | exact hBk.out); have HA6 : Hid (w6.heap[ab]? = some (.cells #[.int .u64 q0, .int .u64 q1, .int .u64 q2, .int .u64 q3] 189 (0, 0))) := hF6.heap (by simp) (by first | exact HA4.out); have HF6 : Hid (Fr [] W w6) := Fr.trans (by first | exact hFk.out) hF6; clear c0 c1 c2 c3; have c61 := cell_of_heap (o := 1) HA6.out rfl; clear hF6)
                | (go_at_call 100; refine (hN _ (by first | exact HF6.out | exact hFk.out)).mono ?_; rintro e w7 ⟨rfl, hF7⟩; have HB7 : Hid (w7.heap[W.heap.size]? = some (.cells #[.int .u64 0, .int .u64 0, .int .i64 0, .bool false] 134 (0, 0))) := hF7.heap (by simp) (by first | exact HB6.out | exact hBk.out); have HA7 : Hid (w7.heap[ab]? = some (.cells #[.int .u64 q0, .int .u64 q1, .int .u64 q2, .int .u64 q3] 189 (0, 0))) := hF7.heap (by simp) (by first | exact HA6.out | exact HA4.out); have HF7 : Hid (Fr [] W w7) := Fr.trans (by first | exact HF6.out | exact hFk.out) hF7; (try clear c61); have r70 := cell_of_heap (o := 0) HB7.out rfl; have r71 := cell_of_heap (o := 1) HB7.out rfl; have r72 := cell_of_heap (o := 2) HB7.out rfl; have r73 := cell_of_heap (o := 3) HB7.out rfl; have f70 := frozen_of_heap (o := 0) HB7.out; have f71 := frozen_of_heap (o := 1) HB7.out; have f72 := frozen_of_heap (o := 2) HB7.out; have f73 := frozen_of_heap (o := 3) HB7.out; have c71 := cell_of_heap (o := 1) HA7.out rfl; have hlt7 : W.heap.size < w7.heap.size := lt_of_heap HB7.out; clear hF7)
                | (go_at_call 101; refine (hD _ (by first | exact HF7.out | exact HF6.out | exact hFk.out)).mono ?_; rintro e w8 ⟨rfl, hF8⟩; have HB8 : Hid (w8.heap[W.heap.size]? = some (.cells #[.int .u64 0, .int .u64 0, .int .i64 0, .bool false] 134 (0, 0))) := hF8.heap (by simp) (by first | exact HB7.out | exact HB6.out | exact hBk.out); have HA8 : Hid (w8.heap[ab]? = some (.cells #[.int .u64 q0, .int .u64 q1, .int .u64 q2, .int .u64 q3] 189 (0, 0))) := hF8.heap (by simp) (by first | exact HA7.out | exact HA6.out | exact HA4.out); have HF8 : Hid (Fr [] W w8) := Fr.trans (by first | exact HF7.out | exact HF6.out | exact hFk.out) hF8; (try clear c61); (try clear c71); (try clear r70 r71 r72 r73 f70 f71 f72 f73 hlt7); have r80 := cell_of_heap (o := 0) HB8.out rfl; have r81 := cell_of_heap (o := 1) HB8.out rfl; have r82 := cell_of_heap (o := 2) HB8.out rfl; have r83 := cell_of_heap (o := 3) HB8.out rfl; have f80 := frozen_of_heap (o := 0) HB8.out; have f81 := frozen_of_heap (o := 1) HB8.out; have f82 := frozen_of_heap (o := 2) HB8.out; have f83 := frozen_of_heap (o := 3) HB8.out; have c82 := cell_of_heap (o := 2) HA8.out rfl; have c83 := cell_of_heap (o := 3) HA8.out rfl; have hlt8 : W.heap.size < w8.heap.size := lt_of_heap HB8.out; clear hF8)
                | (go_at_call 102; (with_reducible refine (hI2 _).mono ?_); rintro e wi ⟨rfl, rfl⟩)
                | (go_at_call 102; (with_reducible refine (hI3 _).mono ?_); rintro e wi ⟨rfl, rfl⟩))
              (try simp only [Exit.inBlock, Exit.then])
              refine bodyPost_ret (v := .tuple #[.agg #[.int .u64 0, .int .u64 0, .int .i64 0, .bool false], .bool false]) ?_ rfl ⟨?_, ?_⟩
              · rw [results_cell_tmp rfl]
                go_simp
              · rw [← HFR.out, ← HCR.out, HFV.out, HCV.out]; exact rfl
              · (repeat (first | (with_reducible refine Fr.setCell ?_ (fun h => absurd h (Nat.lt_irrefl _)) _) | (with_reducible refine Fr.alloc ?_ _) | (with_reducible refine Fr.drew ?_) | (with_reducible exact (by first | exact HF8.out | exact HF7.out | exact HF6.out))))
            · simp only [o3, if_true] at hI3
              clear o2 o3
              generalize intOfW q2 = i2 at *
              generalize intOfW q3 = i3 at *
              have hCv : C = false := by rw [HCLS.out]; simp
              have hFv : F = Frm.zero := by rw [HFRM.out, hCv]; exact rfl
              have HCV := Lib.hid hCv
              have HFV := Lib.hid hFv
              clear hCv hFv
              go_wp2_with (first
                | (go_at_call 99; refine (hO _ (by first | exact hFk.out)).mono ?_; rintro e w6 ⟨rfl, hF6⟩; have HB6 : Hid (w6.heap[W.heap.size]? = some (.cells #[.int .u64 0, .int .u64 0, .int .i64 0, .bool false] 134 (0, 0))) := hF6.heap (by simp) (by first | exact hBk.out); have HA6 : Hid (w6.heap[ab]? = some (.cells #[.int .u64 q0, .int .u64 q1, .int .u64 q2, .int .u64 q3] 189 (0, 0))) := hF6.heap (by simp) (by first | exact HA4.out); have HF6 : Hid (Fr [] W w6) := Fr.trans (by first | exact hFk.out) hF6; clear c0 c1 c2 c3; have c61 := cell_of_heap (o := 1) HA6.out rfl; clear hF6)
                | (go_at_call 100; refine (hN _ (by first | exact HF6.out | exact hFk.out)).mono ?_; rintro e w7 ⟨rfl, hF7⟩; have HB7 : Hid (w7.heap[W.heap.size]? = some (.cells #[.int .u64 0, .int .u64 0, .int .i64 0, .bool false] 134 (0, 0))) := hF7.heap (by simp) (by first | exact HB6.out | exact hBk.out); have HA7 : Hid (w7.heap[ab]? = some (.cells #[.int .u64 q0, .int .u64 q1, .int .u64 q2, .int .u64 q3] 189 (0, 0))) := hF7.heap (by simp) (by first | exact HA6.out | exact HA4.out); have HF7 : Hid (Fr [] W w7) := Fr.trans (by first | exact HF6.out | exact hFk.out) hF7; (try clear c61); have r70 := cell_of_heap (o := 0) HB7.out rfl; have r71 := cell_of_heap (o := 1) HB7.out rfl; have r72 := cell_of_heap (o := 2) HB7.out rfl; have r73 := cell_of_heap (o := 3) HB7.out rfl; have f70 := frozen_of_heap (o := 0) HB7.out; have f71 := frozen_of_heap (o := 1) HB7.out; have f72 := frozen_of_heap (o := 2) HB7.out; have f73 := frozen_of_heap (o := 3) HB7.out; have c71 := cell_of_heap (o := 1) HA7.out rfl; have hlt7 : W.heap.size < w7.heap.size := lt_of_heap HB7.out; clear hF7)
                | (go_at_call 101; refine (hD _ (by first | exact HF7.out | exact HF6.out | exact hFk.out)).mono ?_; rintro e w8 ⟨rfl, hF8⟩; have HB8 : Hid (w8.heap[W.heap.size]? = some (.cells #[.int .u64 0, .int .u64 0, .int .i64 0, .bool false] 134 (0, 0))) := hF8.heap (by simp) (by first | exact HB7.out | exact HB6.out | exact hBk.out); have HA8 : Hid (w8.heap[ab]? = some (.cells #[.int .u64 q0, .int .u64 q1, .int .u64 q2, .int .u64 q3] 189 (0, 0))) := hF8.heap (by simp) (by first | exact HA7.out | exact HA6.out | exact HA4.out); have HF8 : Hid (Fr [] W w8) := Fr.trans (by first | exact HF7.out | exact HF6.out | exact hFk.out) hF8; (try clear c61); (try clear c71); (try clear r70 r71 r72 r73 f70 f71 f72 f73 hlt7); have r80 := cell_of_heap (o := 0) HB8.out rfl; have r81 := cell_of_heap (o := 1) HB8.out rfl; have r82 := cell_of_heap (o := 2) HB8.out rfl; have r83 := cell_of_heap (o := 3) HB8.out rfl; have f80 := frozen_of_heap (o := 0) HB8.out; have f81 := frozen_of_heap (o := 1) HB8.out; have f82 := frozen_of_heap (o := 2) HB8.out; have f83 := frozen_of_heap (o := 3) HB8.out; have c82 := cell_of_heap (o := 2) HA8.out rfl; have c83 := cell_of_heap (o := 3) HA8.out rfl; have hlt8 : W.heap.size < w8.heap.size := lt_of_heap HB8.out; clear hF8)
                | (go_at_call 102; (with_reducible refine (hI2 _).mono ?_); rintro e wi ⟨rfl, rfl⟩)
                | (go_at_call 102; (with_reducible refine (hI3 _).mono ?_); rintro e wi ⟨rfl, rfl⟩))
              (try simp only [Exit.inBlock, Exit.then])
              refine bodyPost_ret (v := .tuple #[.agg #[.int .u64 0, .int .u64 0, .int .i64 0, .bool false], .bool false]) ?_ rfl ⟨?_, ?_⟩
              · rw [results_cell_tmp rfl]
                go_simp
              · rw [← HFR.out, ← HCR.out, HFV.out, HCV.out]; exact rfl
              · (repeat (first | (with_reducible refine Fr.setCell ?_ (fun h => absurd h (Nat.lt_irrefl _)) _) | (with_reducible refine Fr.alloc ?_ _) | (with_reducible refine Fr.drew ?_) | (with_reducible exact (by first | exact HF8.out | exact HF7.out | exact HF6.out))))
            · simp only [o3, if_true] at hI3
              have l3' : ¬ intOfW q3 < 0 := by omega
              clear o2 o3
              generalize intOfW q2 = i2 at *
              generalize intOfW q3 = i3 at *
              have hCv : C = false := by rw [HCLS.out]; simp
              have hFv : F = Frm.zero := by rw [HFRM.out, hCv]; exact rfl
              have HCV := Lib.hid hCv
              have HFV := Lib.hid hFv
              clear hCv hFv
              go_wp2_with (first
                | (go_at_call 99; refine (hO _ (by first | exact hFk.out)).mono ?_; rintro e w6 ⟨rfl, hF6⟩; have HB6 : Hid (w6.heap[W.heap.size]? = some (.cells #[.int .u64 0, .int .u64 0, .int .i64 0, .bool false] 134 (0, 0))) := hF6.heap (by simp) (by first | exact hBk.out); have HA6 : Hid (w6.heap[ab]? = some (.cells #[.int .u64 q0, .int .u64 q1, .int .u64 q2, .int .u64 q3] 189 (0, 0))) := hF6.heap (by simp) (by first | exact HA4.out); have HF6 : Hid (Fr [] W w6) := Fr.trans (by first | exact hFk.out) hF6; clear c0 c1 c2 c3; have c61 := cell_of_heap (o := 1) HA6.out rfl; clear hF6)
                | (go_at_call 100; refine (hN _ (by first | exact HF6.out | exact hFk.out)).mono ?_; rintro e w7 ⟨rfl, hF7⟩; have HB7 : Hid (w7.heap[W.heap.size]? = some (.cells #[.int .u64 0, .int .u64 0, .int .i64 0, .bool false] 134 (0, 0))) := hF7.heap (by simp) (by first | exact HB6.out | exact hBk.out); have HA7 : Hid (w7.heap[ab]? = some (.cells #[.int .u64 q0, .int .u64 q1, .int .u64 q2, .int .u64 q3] 189 (0, 0))) := hF7.heap (by simp) (by first | exact HA6.out | exact HA4.out); have HF7 : Hid (Fr [] W w7) := Fr.trans (by first | exact HF6.out | exact hFk.out) hF7; (try clear c61); have r70 := cell_of_heap (o := 0) HB7.out rfl; have r71 := cell_of_heap (o := 1) HB7.out rfl; have r72 := cell_of_heap (o := 2) HB7.out rfl; have r73 := cell_of_heap (o := 3) HB7.out rfl; have f70 := frozen_of_heap (o := 0) HB7.out; have f71 := frozen_of_heap (o := 1) HB7.out; have f72 := frozen_of_heap (o := 2) HB7.out; have f73 := frozen_of_heap (o := 3) HB7.out; have c71 := cell_of_heap (o := 1) HA7.out rfl; have hlt7 : W.heap.size < w7.heap.size := lt_of_heap HB7.out; clear hF7)
                | (go_at_call 101; refine (hD _ (by first | exact HF7.out | exact HF6.out | exact hFk.out)).mono ?_; rintro e w8 ⟨rfl, hF8⟩; have HB8 : Hid (w8.heap[W.heap.size]? = some (.cells #[.int .u64 0, .int .u64 0, .int .i64 0, .bool false] 134 (0, 0))) := hF8.heap (by simp) (by first | exact HB7.out | exact HB6.out | exact hBk.out); have HA8 : Hid (w8.heap[ab]? = some (.cells #[.int .u64 q0, .int .u64 q1, .int .u64 q2, .int .u64 q3] 189 (0, 0))) := hF8.heap (by simp) (by first | exact HA7.out | exact HA6.out | exact HA4.out); have HF8 : Hid (Fr [] W w8) := Fr.trans (by first | exact HF7.out | exact HF6.out | exact hFk.out) hF8; (try clear c61); (try clear c71); (try clear r70 r71 r72 r73 f70 f71 f72 f73 hlt7); have r80 := cell_of_heap (o := 0) HB8.out rfl; have r81 := cell_of_heap (o := 1) HB8.out rfl; have r82 := cell_of_heap (o := 2) HB8.out rfl; have r83 := cell_of_heap (o := 3) HB8.out rfl; have f80 := frozen_of_heap (o := 0) HB8.out; have f81 := frozen_of_heap (o := 1) HB8.out; have f82 := frozen_of_heap (o := 2) HB8.out; have f83 := frozen_of_heap (o := 3) HB8.out; have c82 := cell_of_heap (o := 2) HA8.out rfl; have c83 := cell_of_heap (o := 3) HA8.out rfl; have hlt8 : W.heap.size < w8.heap.size := lt_of_heap HB8.out; clear hF8)
                | (go_at_call 102; (with_reducible refine (hI2 _).mono ?_); rintro e wi ⟨rfl, rfl⟩)
                | (go_at_call 102; (with_reducible refine (hI3 _).mono ?_); rintro e wi ⟨rfl, rfl⟩))
              (try simp only [Exit.inBlock, Exit.then])
              refine bodyPost_ret (v := .tuple #[.agg #[.int .u64 0, .int .u64 0, .int .i64 0, .bool false], .bool false]) ?_ rfl ⟨?_, ?_⟩
              · rw [results_cell_tmp rfl]
                go_simp
              · rw [← HFR.out, ← HCR.out, HFV.out, HCV.out]; exact rfl
              · (repeat (first | (with_reducible refine Fr.setCell ?_ (fun h => absurd h (Nat.lt_irrefl _)) _) | (with_reducible refine Fr.alloc ?_ _) | (with_reducible refine Fr.drew ?_) | (with_reducible exact (by first | exact HF8.out | exact HF7.out | exact HF6.out))))
          · simp only [o2, Bool.false_eq_true, if_false] at hI2
            clear o2 n3
            have hCv : C = false := by rw [HCLS.out]; simp
            have hFv : F = Frm.zero := by rw [HFRM.out, hCv]; exact rfl
            have HCV := Lib.hid hCv
            have HFV := Lib.hid hFv
            clear hCv hFv
            go_wp2_with (first
              | (go_at_call 99; refine (hO _ (by first | exact hFk.out)).mono ?_; rintro e w6 ⟨rfl, hF6⟩; have HB6 : Hid (w6.heap[W.heap.size]? = some (.cells #[.int .u64 0, .int .u64 0, .int .i64 0, .bool false] 134 (0, 0))) := hF6.heap (by simp) (by first | exact hBk.out); have HA6 : Hid (w6.heap[ab]? = some (.cells #[.int .u64 q0, .int .u64 q1, .int .u64 q2, .int .u64 q3] 189 (0, 0))) := hF6.heap (by simp) (by first | exact HA4.out); have HF6 : Hid (Fr [] W w6) := Fr.trans (by first | exact hFk.out) hF6; clear c0 c1 c2 c3; have c61 := cell_of_heap (o := 1) HA6.out rfl; clear hF6)
              | (go_at_call 100; refine (hN _ (by first | exact HF6.out | exact hFk.out)).mono ?_; rintro e w7 ⟨rfl, hF7⟩; have HB7 : Hid (w7.heap[W.heap.size]? = some (.cells #[.int .u64 0, .int .u64 0, .int .i64 0, .bool false] 134 (0, 0))) := hF7.heap (by simp) (by first | exact HB6.out | exact hBk.out); have HA7 : Hid (w7.heap[ab]? = some (.cells #[.int .u64 q0, .int .u64 q1, .int .u64 q2, .int .u64 q3] 189 (0, 0))) := hF7.heap (by simp) (by first | exact HA6.out | exact HA4.out); have HF7 : Hid (Fr [] W w7) := Fr.trans (by first | exact HF6.out | exact hFk.out) hF7; (try clear c61); have r70 := cell_of_heap (o := 0) HB7.out rfl; have r71 := cell_of_heap (o := 1) HB7.out rfl; have r72 := cell_of_heap (o := 2) HB7.out rfl; have r73 := cell_of_heap (o := 3) HB7.out rfl; have f70 := frozen_of_heap (o := 0) HB7.out; have f71 := frozen_of_heap (o := 1) HB7.out; have f72 := frozen_of_heap (o := 2) HB7.out; have f73 := frozen_of_heap (o := 3) HB7.out; have c71 := cell_of_heap (o := 1) HA7.out rfl; have hlt7 : W.heap.size < w7.heap.size := lt_of_heap HB7.out; clear hF7)
              | (go_at_call 101; refine (hD _ (by first | exact HF7.out | exact HF6.out | exact hFk.out)).mono ?_; rintro e w8 ⟨rfl, hF8⟩; have HB8 : Hid (w8.heap[W.heap.size]? = some (.cells #[.int .u64 0, .int .u64 0, .int .i64 0, .bool false] 134 (0, 0))) := hF8.heap (by simp) (by first | exact HB7.out | exact HB6.out | exact hBk.out); have HA8 : Hid (w8.heap[ab]? = some (.cells #[.int .u64 q0, .int .u64 q1, .int .u64 q2, .int .u64 q3] 189 (0, 0))) := hF8.heap (by simp) (by first | exact HA7.out | exact HA6.out | exact HA4.out); have HF8 : Hid (Fr [] W w8) := Fr.trans (by first | exact HF7.out | exact HF6.out | exact hFk.out) hF8; (try clear c61); (try clear c71); (try clear r70 r71 r72 r73 f70 f71 f72 f73 hlt7); have r80 := cell_of_heap (o := 0) HB8.out rfl; have r81 := cell_of_heap (o := 1) HB8.out rfl; have r82 := cell_of_heap (o := 2) HB8.out rfl; have r83 := cell_of_heap (o := 3) HB8.out rfl; have f80 := frozen_of_heap (o := 0) HB8.out; have f81 := frozen_of_heap (o := 1) HB8.out; have f82 := frozen_of_heap (o := 2) HB8.out; have f83 := frozen_of_heap (o := 3) HB8.out; have c82 := cell_of_heap (o := 2) HA8.out rfl; have c83 := cell_of_heap (o := 3) HA8.out rfl; have hlt8 : W.heap.size < w8.heap.size := lt_of_heap HB8.out; clear hF8)
              | (go_at_call 102; (with_reducible refine (hI2 _).mono ?_); rintro e wi ⟨rfl, rfl⟩)
              | (go_at_call 102; (with_reducible refine (hI3 _).mono ?_); rintro e wi ⟨rfl, rfl⟩))
            (try simp only [Exit.inBlock, Exit.then])
            refine bodyPost_ret (v := .tuple #[.agg #[.int .u64 0, .int .u64 0, .int .i64 0, .bool false], .bool false]) ?_ rfl ⟨?_, ?_⟩
            · rw [results_cell_tmp rfl]
              go_simp
            · rw [← HFR.out, ← HCR.out, HFV.out, HCV.out]; exact rfl
            · (repeat (first | (with_reducible refine Fr.setCell ?_ (fun h => absurd h (Nat.lt_irrefl _)) _) | (with_reducible refine Fr.alloc ?_ _) | (with_reducible refine Fr.drew ?_) | (with_reducible exact (by first | exact HF8.out | exact HF7.out | exact HF6.out))))
          · simp only [o2, if_true] at hI2
            clear o2 n3
            generalize intOfW q2 = i2 at *
            have hCv : C = false := by rw [HCLS.out]; simp
            have hFv : F = Frm.zero := by rw [HFRM.out, hCv]; exact rfl
            have HCV := Lib.hid hCv
            have HFV := Lib.hid hFv
            clear hCv hFv
            go_wp2_with (first
              | (go_at_call 99; refine (hO _ (by first | exact hFk.out)).mono ?_; rintro e w6 ⟨rfl, hF6⟩; have HB6 : Hid (w6.heap[W.heap.size]? = some (.cells #[.int .u64 0, .int .u64 0, .int .i64 0, .bool false] 134 (0, 0))) := hF6.heap (by simp) (by first | exact hBk.out); have HA6 : Hid (w6.heap[ab]? = some (.cells #[.int .u64 q0, .int .u64 q1, .int .u64 q2, .int .u64 q3] 189 (0, 0))) := hF6.heap (by simp) (by first | exact HA4.out); have HF6 : Hid (Fr [] W w6) := Fr.trans (by first | exact hFk.out) hF6; clear c0 c1 c2 c3; have c61 := cell_of_heap (o := 1) HA6.out rfl; clear hF6)
              | (go_at_call 100; refine (hN _ (by first | exact HF6.out | exact hFk.out)).mono ?_; rintro e w7 ⟨rfl, hF7⟩; have HB7 : Hid (w7.heap[W.heap.size]? = some (.cells #[.int .u64 0, .int .u64 0, .int .i64 0, .bool false] 134 (0, 0))) := hF7.heap (by simp) (by first | exact HB6.out | exact hBk.out); have HA7 : Hid (w7.heap[ab]? = some (.cells #[.int .u64 q0, .int .u64 q1, .int .u64 q2, .int .u64 q3] 189 (0, 0))) := hF7.heap (by simp) (by first | exact HA6.out | exact HA4.out); have HF7 : Hid (Fr [] W w7) := Fr.trans (by first | exact HF6.out | exact hFk.out) hF7; (try clear c61); have r70 := cell_of_heap (o := 0) HB7.out rfl; have r71 := cell_of_heap (o := 1) HB7.out rfl; have r72 := cell_of_heap (o := 2) HB7.out rfl; have r73 := cell_of_heap (o := 3) HB7.out rfl; have f70 := frozen_of_heap (o := 0) HB7.out; have f71 := frozen_of_heap (o := 1) HB7.out; have f72 := frozen_of_heap (o := 2) HB7.out; have f73 := frozen_of_heap (o := 3) HB7.out; have c71 := cell_of_heap (o := 1) HA7.out rfl; have hlt7 : W.heap.size < w7.heap.size := lt_of_heap HB7.out; clear hF7)
              | (go_at_call 101; refine (hD _ (by first | exact HF7.out | exact HF6.out | exact hFk.out)).mono ?_; rintro e w8 ⟨rfl, hF8⟩; have HB8 : Hid (w8.heap[W.heap.size]? = some (.cells #[.int .u64 0, .int .u64 0, .int .i64 0, .bool false] 134 (0, 0))) := hF8.heap (by simp) (by first | exact HB7.out | exact HB6.out | exact hBk.out); have HA8 : Hid (w8.heap[ab]? = some (.cells #[.int .u64 q0, .int .u64 q1, .int .u64 q2, .int .u64 q3] 189 (0, 0))) := hF8.heap (by simp) (by first | exact HA7.out | exact HA6.out | exact HA4.out); have HF8 : Hid (Fr [] W w8) := Fr.trans (by first | exact HF7.out | exact HF6.out | exact hFk.out) hF8; (try clear c61); (try clear c71); (try clear r70 r71 r72 r73 f70 f71 f72 f73 hlt7); have r80 := cell_of_heap (o := 0) HB8.out rfl; have r81 := cell_of_heap (o := 1) HB8.out rfl; have r82 := cell_of_heap (o := 2) HB8.out rfl; have r83 := cell_of_heap (o := 3) HB8.out rfl; have f80 := frozen_of_heap (o := 0) HB8.out; have f81 := frozen_of_heap (o := 1) HB8.out; have f82 := frozen_of_heap (o := 2) HB8.out; have f83 := frozen_of_heap (o := 3) HB8.out; have c82 := cell_of_heap (o := 2) HA8.out rfl; have c83 := cell_of_heap (o := 3) HA8.out rfl; have hlt8 : W.heap.size < w8.heap.size := lt_of_heap HB8.out; clear hF8)
              | (go_at_call 102; (with_reducible refine (hI2 _).mono ?_); rintro e wi ⟨rfl, rfl⟩)
              | (go_at_call 102; (with_reducible refine (hI3 _).mono ?_); rintro e wi ⟨rfl, rfl⟩))
            (try simp only [Exit.inBlock, Exit.then])
            refine bodyPost_ret (v := .tuple #[.agg #[.int .u64 0, .int .u64 0, .int .i64 0, .bool false], .bool false]) ?_ rfl ⟨?_, ?_⟩
            · rw [results_cell_tmp rfl]
              go_simp
            · rw [← HFR.out, ← HCR.out, HFV.out, HCV.out]; exact rfl
            · (repeat (first | (with_reducible refine Fr.setCell ?_ (fun h => absurd h (Nat.lt_irrefl _)) _) | (with_reducible refine Fr.alloc ?_ _) | (with_reducible refine Fr.drew ?_) | (with_reducible exact (by first | exact HF8.out | exact HF7.out | exact HF6.out))))
          · simp only [o2, if_true] at hI2
            have l2' : ¬ intOfW q2 < 0 := by omega
            clear o2 n3
            generalize intOfW q2 = i2 at *
            have hCv : C = false := by rw [HCLS.out]; simp
            have hFv : F = Frm.zero := by rw [HFRM.out, hCv]; exact rfl
            have HCV := Lib.hid hCv
            have HFV := Lib.hid hFv
            clear hCv hFv
            go_wp2_with (first
              | (go_at_call 99; refine (hO _ (by first | exact hFk.out)).mono ?_; rintro e w6 ⟨rfl, hF6⟩; have HB6 : Hid (w6.heap[W.heap.size]? = some (.cells #[.int .u64 0, .int .u64 0, .int .i64 0, .bool false] 134 (0, 0))) := hF6.heap (by simp) (by first | exact hBk.out); have HA6 : Hid (w6.heap[ab]? = some (.cells #[.int .u64 q0, .int .u64 q1, .int .u64 q2, .int .u64 q3] 189 (0, 0))) := hF6.heap (by simp) (by first | exact HA4.out); have HF6 : Hid (Fr [] W w6) := Fr.trans (by first | exact hFk.out) hF6; clear c0 c1 c2 c3; have c61 := cell_of_heap (o := 1) HA6.out rfl; clear hF6)
              | (go_at_call 100; refine (hN _ (by first | exact HF6.out | exact hFk.out)).mono ?_; rintro e w7 ⟨rfl, hF7⟩; have HB7 : Hid (w7.heap[W.heap.size]? = some (.cells #[.int .u64 0, .int .u64 0, .int .i64 0, .bool false] 134 (0, 0))) := hF7.heap (by simp) (by first | exact HB6.out | exact hBk.out); have HA7 : Hid (w7.heap[ab]? = some (.cells #[.int .u64 q0, .int .u64 q1, .int .u64 q2, .int .u64 q3] 189 (0, 0))) := hF7.heap (by simp) (by first | exact HA6.out | exact HA4.out); have HF7 : Hid (Fr [] W w7) := Fr.trans (by first | exact HF6.out | exact hFk.out) hF7; (try clear c61); have r70 := cell_of_heap (o := 0) HB7.out rfl; have r71 := cell_of_heap (o := 1) HB7.out rfl; have r72 := cell_of_heap (o := 2) HB7.out rfl; have r73 := cell_of_heap (o := 3) HB7.out rfl; have f70 := frozen_of_heap (o := 0) HB7.out; have f71 := frozen_of_heap (o := 1) HB7.out; have f72 := frozen_of_heap (o := 2) HB7.out; have f73 := frozen_of_heap (o := 3) HB7.out; have c71 := cell_of_heap (o := 1) HA7.out rfl; have hlt7 : W.heap.size < w7.heap.size := lt_of_heap HB7.out; clear hF7)
              | (go_at_call 101; refine (hD _ (by first | exact HF7.out | exact HF6.out | exact hFk.out)).mono ?_; rintro e w8 ⟨rfl, hF8⟩; have HB8 : Hid (w8.heap[W.heap.size]? = some (.cells #[.int .u64 0, .int .u64 0, .int .i64 0, .bool false] 134 (0, 0))) := hF8.heap (by simp) (by first | exact HB7.out | exact HB6.out | exact hBk.out); have HA8 : Hid (w8.heap[ab]? = some (.cells #[.int .u64 q0, .int .u64 q1, .int .u64 q2, .int .u64 q3] 189 (0, 0))) := hF8.heap (by simp) (by first | exact HA7.out | exact HA6.out | exact HA4.out); have HF8 : Hid (Fr [] W w8) := Fr.trans (by first | exact HF7.out | exact HF6.out | exact hFk.out) hF8; (try clear c61); (try clear c71); (try clear r70 r71 r72 r73 f70 f71 f72 f73 hlt7); have r80 := cell_of_heap (o := 0) HB8.out rfl; have r81 := cell_of_heap (o := 1) HB8.out rfl; have r82 := cell_of_heap (o := 2) HB8.out rfl; have r83 := cell_of_heap (o := 3) HB8.out rfl; have f80 := frozen_of_heap (o := 0) HB8.out; have f81 := frozen_of_heap (o := 1) HB8.out; have f82 := frozen_of_heap (o := 2) HB8.out; have f83 := frozen_of_heap (o := 3) HB8.out; have c82 := cell_of_heap (o := 2) HA8.out rfl; have c83 := cell_of_heap (o := 3) HA8.out rfl; have hlt8 : W.heap.size < w8.heap.size := lt_of_heap HB8.out; clear hF8)
              | (go_at_call 102; (with_reducible refine (hI2 _).mono ?_); rintro e wi ⟨rfl, rfl⟩)
              | (go_at_call 102; (with_reducible refine (hI3 _).mono ?_); rintro e wi ⟨rfl, rfl⟩))
            (try simp only [Exit.inBlock, Exit.then])
            refine bodyPost_ret (v := .tuple #[.agg #[.int .u64 0, .int .u64 0, .int .i64 0, .bool false], .bool false]) ?_ rfl ⟨?_, ?_⟩
            · rw [results_cell_tmp rfl]
              go_simp
            · rw [← HFR.out, ← HCR.out, HFV.out, HCV.out]; exact rfl
            · (repeat (first | (with_reducible refine Fr.setCell ?_ (fun h => absurd h (Nat.lt_irrefl _)) _) | (with_reducible refine Fr.alloc ?_ _) | (with_reducible refine Fr.drew ?_) | (with_reducible exact (by first | exact HF8.out | exact HF7.out | exact HF6.out))))
end
end Go.Proofs.YtofhgfgipdokbaaGreatDoor
