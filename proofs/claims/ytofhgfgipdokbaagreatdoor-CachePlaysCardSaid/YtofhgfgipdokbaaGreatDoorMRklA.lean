/- The document's classes (tappetref07): Special, number, dict, Is, named, place, against the same lists as package class's. The document's dict and Is, against the same lists. The document's Is: is a word a class? -/
import Derived.Test.YtofhgfgipdokbaaGreatDoorMKlsC
import Derived.Test.YtofhgfgipdokbaaGreatDoorMBoth
import Derived.Test.YtofhgfgipdokbaaGreatDoorMCodeD
import Derived.Test.YtofhgfgipdokbaaGreatDoorMGcRefA
namespace Go.Proofs.YtofhgfgipdokbaaGreatDoor
open Go.RowKit

/-- the object that is found is the one that lies there -/
theorem find_look {l : List RO} {os : List Ob} (ha : RAgree 1 l os) (hs : ∀ o ∈ l, 1 ≤ o.pos ∧ o.pos + 3 + o.fs.length ≤ 65536) (x : Int) : (findR l x).map RO.ob = lookP 1 os x := by
  cases hf : findR l x with
  | some o =>
    obtain ⟨i, hi, he⟩ := List.getElem_of_mem (findR_mem hf)
    have hli : l[i]? = some o := by rw [List.getElem?_eq_getElem hi, he]
    obtain ⟨-, h2, h3⟩ := find_hit ha hs hli
    have hx := (h3 x).1 hf
    rw [hx]
    exact (look_of_ref h2).symm
  | none =>
    cases hl : lookP 1 os x with
    | none => rfl
    | some a =>
      obtain ⟨i, hi, hx, -⟩ := look_ref hl
      have hil : i < l.length := by rw [ha.len]; exact (List.getElem?_eq_some_iff.1 hi).1
      have := ((find_hit ha hs (List.getElem?_eq_getElem hil)).2.2 x).2 hx
      rw [hf] at this
      cases this
/-- the document's heap, with these objects -/
structure RpAt (W : World) (rb : Nat) (lim : Int) (os : List Ob) (root hashes : Int) (l : List RO) (lv : Value) : Prop where
  inv : OInv lim os hashes
  agr : RAgree 1 l os
  ref : RefAt W rb ⟨lim, l, root, hashes⟩ lv
  root : WB root
section
variable {W : World} {rb : Nat} {lim root hashes : Int} {os : List Ob} {l : List RO} {lv : Value}
theorem RpAt.fr0 {W' : World} (h : RpAt W rb lim os root hashes l lv) (hF : Fr [] W W') : RpAt W' rb lim os root hashes l lv := ⟨h.inv, h.agr, h.ref.fr hF (fun _ _ => by simp), h.root⟩
theorem RpAt.look (h : RpAt W rb lim os root hashes l lv) (x : Int) : (findR l x).map RO.ob = lookP 1 os x := find_look h.agr h.ref.small x
theorem RpAt.found (h : RpAt W rb lim os root hashes l lv) {x : Int} {o : RO} (hf : findR l x = some o) : lookP 1 os x = some o.ob := by rw [← h.look x, hf]; rfl
theorem RpAt.lost (h : RpAt W rb lim os root hashes l lv) {x : Int} (hf : findR l x = none) : lookP 1 os x = none := by rw [← h.look x, hf]; rfl
theorem RpAt.field (h : RpAt W rb lim os root hashes l lv) (x : Int) (j : Nat) : WB (fieldAt os x j) := by
  unfold fieldAt
  split
  · next o ho =>
    obtain ⟨i, hi, -, -⟩ := look_ref ho
    have hb := (h.inv.bd o (List.mem_of_getElem? hi)).2
    cases hj : o.2.2[j]? with
    | none => exact ⟨by simp, by simp⟩
    | some v => exact hb v (List.mem_of_getElem? hj)
  · exact ⟨by omega, by omega⟩
theorem RpAt.fieldV (h : RpAt W rb lim os root hashes l lv) (x j : Int) : WB (fieldV os x j) := by
  unfold Proofs.YtofhgfgipdokbaaGreatDoor.fieldV
  split
  · exact h.field x _
  · exact ⟨by omega, by omega⟩
theorem r7fetch (h : RpAt W rb lim os root hashes l lv) (x j : Int) (hx : WB x) (j1 : -9223372036854775808 ≤ j) (j2 : j ≤ 9223372036854775807) : Calls Tryz.prog 56 #[.pointer (some ⟨rb, 0, none⟩), .int .u64 x, .int .i64 j] W (Gives (.tuple #[.int .u64 (fieldV os x j), .int .i64 (fieldE os x j)]) W) := by
  refine (rfetch h.ref x j hx.1 hx.2 j1 j2).mono ?_
  rintro e w' ⟨rfl, rfl⟩
  refine ⟨?_, rfl⟩
  unfold fieldR Proofs.YtofhgfgipdokbaaGreatDoor.fieldV fieldE
  show (Ending.returned (match (match findR l x with | none => none | some o => if 0 ≤ j then o.fs[j.toNat]? else none) with | none => .tuple #[.int .u64 0, .int .i64 1] | some y => .tuple #[.int .u64 y, .int .i64 0])) = _
  cases hf : findR l x with
  | none =>
    have hl := h.lost hf
    have hs : sizeAt os x = 0 := by unfold sizeAt; rw [hl]
    rw [hs]
    have : ¬ (0 ≤ j ∧ j < ((0 : Nat) : Int)) := by omega
    rw [if_neg this, if_neg this]
  | some o =>
    have hl := h.found hf
    have hs : sizeAt os x = o.fs.length := sizeAt_of hl
    rw [hs]
    simp only
    by_cases hj : 0 ≤ j ∧ j < (o.fs.length : Int)
    · have hjn : j.toNat < o.fs.length := by omega
      rw [if_pos hj, if_pos hj, if_pos hj.1, fieldAt_of hl, show o.ob.2.2 = o.fs from rfl, List.getElem?_eq_getElem hjn]
      rfl
    · rw [if_neg hj, if_neg hj]
      by_cases hj0 : 0 ≤ j
      · rw [if_pos hj0, List.getElem?_eq_none_iff.2 (by omega)]
      · rw [if_neg hj0]
theorem r7special (h : RpAt W rb lim os root hashes l lv) (k : Int) (k1 : -9223372036854775808 ≤ k) (k2 : k ≤ 9223372036854775807) : Calls Tryz.prog 70 #[.pointer (some ⟨rb, 0, none⟩), .int .i64 k] W (Gives (.int .u64 (specK os root k)) W) := by
  have hf := r7fetch h root k h.root k1 k2
  have c2 : W.cell? ⟨rb, 2, none⟩ = some (.int .u64 root) := cell_of_heap h.ref.heap rfl
  rw [specK_eq]
  clear h
  by_cases h0 : k < 0
  · rw [if_pos (.inl h0)]
    go_enter Tryz.func70, Tryz.ntmps70
    go_wp2
    go_ret
    exact ⟨rfl, rfl⟩
  · by_cases h1 : 20 ≤ k
    · rw [if_pos (.inr h1)]
      go_enter Tryz.func70, Tryz.ntmps70
      go_wp2
      go_ret
      exact ⟨rfl, rfl⟩
    · rw [if_neg (by omega)]
      generalize fieldV os root k = v at *
      generalize fieldE os root k = er at *
      go_enter Tryz.func70, Tryz.ntmps70
      go_wp2_with (go_at_call 56; refine hf.mono ?_; rintro e w' ⟨rfl, rfl⟩)
      go_ret
      exact ⟨rfl, rfl⟩
theorem r7number (h : RpAt W rb lim os root hashes l lv) (x : Int) (k : Nat) (hx : WB x) (hk : k < sizeAt os x) (hk2 : k < 100) : Calls Tryz.prog 71 #[.pointer (some ⟨rb, 0, none⟩), .int .u64 x, .int .i64 k] W (Gives (.tuple #[.int .i64 (if odd (fieldAt os x k) = true then intOfW (fieldAt os x k) else 0), .bool (odd (fieldAt os x k))]) W) := by
  have hf := r7fetch h x k hx (by omega) (by omega)
  have e1 : fieldV os x k = fieldAt os x k := by unfold Proofs.YtofhgfgipdokbaaGreatDoor.fieldV; rw [if_pos ⟨by omega, by omega⟩, Int.toNat_natCast]
  have e2 : fieldE os x k = 0 := by unfold fieldE; rw [if_pos ⟨by omega, by omega⟩]
  rw [e1, e2] at hf
  have hi := fun w => rInt (fieldAt os x k) w (h.field x k)
  clear h
  generalize fieldAt os x k = v at *
  cases ho : odd v
  · rw [ho] at hi
    simp only [Bool.false_eq_true, if_false] at hi ⊢
    go_enter Tryz.func71, Tryz.ntmps71
    go_wp2_with (first | (go_at_call 56; refine hf.mono ?_; rintro e w' ⟨rfl, rfl⟩) | (go_at_call 89; refine (hi _).mono ?_; rintro e w' ⟨rfl, rfl⟩))
    go_ret2
    exact ⟨rfl, rfl⟩
  · rw [ho] at hi
    simp only [if_true] at hi ⊢
    generalize intOfW v = n at *
    go_enter Tryz.func71, Tryz.ntmps71
    go_wp2_with (first | (go_at_call 56; refine hf.mono ?_; rintro e w' ⟨rfl, rfl⟩) | (go_at_call 89; refine (hi _).mono ?_; rintro e w' ⟨rfl, rfl⟩))
    go_ret2
    exact ⟨rfl, rfl⟩
theorem r7named (h : RpAt W rb lim os root hashes l lv) (x : Int) (hx : WB x) : Calls Tryz.prog 52 #[.pointer (some ⟨rb, 0, none⟩), .int .u64 x] W (Gives (.bool (isSelB os root x)) W) := by
  have hh := rhas h.ref x hx.1 hx.2
  have hs := r7special h 0 (by omega) (by omega)
  have e : (findR l x).isSome = (lookP 1 os x).isSome := by rw [← h.look x]; simp
  rw [show (RH.mk lim l root hashes).l = l from rfl, e] at hh
  clear h e
  unfold isSelB
  generalize specK os root 0 = z at *
  generalize (lookP 1 os x).isSome = b at *
  cases b
  · go_enter Tryz.func52, Tryz.ntmps52
    go_wp2_with (first | (go_at_call 46; refine hh.mono ?_; rintro e w' ⟨rfl, rfl⟩) | (go_at_call 70; refine hs.mono ?_; rintro e w' ⟨rfl, rfl⟩))
    all_goals go_ret
    all_goals exact ⟨ret1 (vb (by simp)), rfl⟩
  · go_enter Tryz.func52, Tryz.ntmps52
    go_wp2_with (first | (go_at_call 46; refine hh.mono ?_; rintro e w' ⟨rfl, rfl⟩) | (go_at_call 70; refine hs.mono ?_; rintro e w' ⟨rfl, rfl⟩))
    all_goals go_ret
    all_goals exact ⟨ret1 (vb (by simp)), rfl⟩
end
end Go.Proofs.YtofhgfgipdokbaaGreatDoor
namespace Go.Proofs.YtofhgfgipdokbaaGreatDoor
open Go.RowKit

theorem look_zero (os : List Ob) : lookP 1 os 0 = none := by
  cases h : lookP 1 os 0 with
  | none => rfl
  | some o =>
    obtain ⟨i, -, hx, -⟩ := look_ref h
    have := endOf_pos (os.take i)
    omega
section
variable {W : World} {rb : Nat} {lim root hashes : Int} {os : List Ob} {l : List RO} {lv : Value}
theorem RpAt.le (h : RpAt W rb lim os root hashes l lv) : endOf os ≤ 65536 := by have := h.inv.fit; have := h.inv.l2; omega
theorem isNoneB_yes {x : Int} (h1 : x = specK os root 0) (h2 : x ≠ 0) : isNoneB os root x = true := by unfold isNoneB; simp [← h1, h2]
theorem isNoneB_no {x : Int} (h : x ≠ specK os root 0 ∨ x = 0) : isNoneB os root x = false := by
  unfold isNoneB
  rcases h with h | h
  · simp [h]
  · simp [h]
/-- the fields of an object that is found -/
theorem RpAt.fs (h : RpAt W rb lim os root hashes l lv) {x : Int} {o : RO} (hf : findR l x = some o) : ∃ fa fc, o.fv = .slice fa o.fs.length fc ∧ W.cell? ⟨o.b, 0, none⟩ = some (.int .u64 o.cls) ∧ W.cell? ⟨o.b, 2, none⟩ = some (.slice fa o.fs.length fc) ∧ WordsAt W fa o.fs ∧ o.fs.length ≤ 65536 ∧ fsAt os x = o.fs ∧ (∀ k, isOfB os root x k = (o.cls == specK os root k)) ∧ sizeAt os x = o.fs.length := by
  have hA := h.ref.objs o (findR_mem hf)
  obtain ⟨fa, fc, hfv⟩ := row_shape hA.row
  have hrow := hA.row
  rw [hfv] at hrow
  refine ⟨fa, fc, hfv, cell_of_heap hA.cells rfl, by rw [← hfv]; exact cell_of_heap hA.cells rfl, fun i x hx => ?_, by have := (h.ref.small o (findR_mem hf)).2; omega, fsAt_of (h.found hf), fun k => isOfB_of (h.found hf), sizeAt_of (h.found hf)⟩
  obtain ⟨g, o', e, hc⟩ := row_rowAt hrow i (.int .u64 x) (by rw [List.getElem?_map, hx]; rfl)
  exact ⟨g, o', e, hc⟩
theorem RpAt.nofs (h : RpAt W rb lim os root hashes l lv) {x : Int} (hf : findR l x = none) : fsAt os x = [] ∧ (∀ k, isOfB os root x k = false) ∧ sizeAt os x = 0 := by
  have hl := h.lost hf
  exact ⟨by unfold fsAt; rw [hl], fun k => by unfold isOfB; rw [hl], by unfold sizeAt; rw [hl]⟩
/-- what dict answers -/
def DictTo (os : List Ob) (root d : Int) (w : World) (e : Ending) (w' : World) : Prop := Fr [] w w' ∧
  ((dictOk os root d = false ∧ e = .returned (.tuple #[.slice none 0 0, .bool false])) ∨
   (dictOk os root d = true ∧ ∃ fa fc, e = .returned (.tuple #[.slice fa (fsAt os (dictV os root d)).length fc, .bool true]) ∧ WordsAt w fa (fsAt os (dictV os root d)) ∧ (fsAt os (dictV os root d)).length ≤ 65536 ∧ (fsAt os (dictV os root d)).length % 2 = 0))
set_option maxRecDepth 100000 in
set_option maxHeartbeats 2000000 in
theorem r7dict (h : RpAt W rb lim os root hashes l lv) (c : Int) (hc : WB c) (hs : 1 < sizeAt os c) : Calls Tryz.prog 54 #[.pointer (some ⟨rb, 0, none⟩), .int .u64 c] W (DictTo os root (fieldAt os c 1) W) := by
  have hf := r7fetch h c 1 hc (by omega) (by omega)
  have e1 : fieldV os c 1 = fieldAt os c 1 := by unfold Proofs.YtofhgfgipdokbaaGreatDoor.fieldV; rw [if_pos ⟨by omega, by omega⟩]; rfl
  have e2 : fieldE os c 1 = 0 := by unfold fieldE; rw [if_pos ⟨by omega, by omega⟩]
  rw [e1, e2] at hf
  have hd := h.field c 1
  have h0 := fun w (hF : Fr [] W w) => r7special (h.fr0 hF) 0 (by omega) (by omega)
  have h8 := fun w (hF : Fr [] W w) => r7special (h.fr0 hF) 8 (by omega) (by omega)
  obtain ⟨d, hde⟩ : ∃ d, d = fieldAt os c 1 := ⟨_, rfl⟩
  rw [← hde] at hf hd ⊢
  have hfd := rfind h.ref d hd.1 hd.2
  rw [show (RH.mk lim l root hashes).l = l from rfl] at hfd
  obtain ⟨z0, hz0⟩ : ∃ z0, z0 = specK os root 0 := ⟨_, rfl⟩
  obtain ⟨z8, hz8⟩ : ∃ z8, z8 = specK os root 8 := ⟨_, rfl⟩
  rw [← hz0] at h0
  rw [← hz8] at h8
  have HZ0 := Lib.hid hz0
  have HZ8 := Lib.hid hz8
  have H := Lib.hid h
  clear hz0 hz8 hde e1 e2 hs
  by_cases hA : d = z0 ∧ d ≠ 0
  · obtain ⟨hA1, hA2⟩ := hA
    have HN := isNoneB_yes (os := os) (root := root) (x := d) (by rw [hA1]; exact HZ0.out) hA2
    have HV : Hid (dictOk os root d = true ∧ fsAt os (dictV os root d) = []) := by
      unfold dictOk dictV
      rw [HN]
      refine ⟨rfl, ?_⟩
      rw [if_pos rfl]
      unfold fsAt
      rw [look_zero]
    have hd0 : (d != 0) = true := by simpa using hA2
    clear h HN
    subst hA1
    go_enter Tryz.func54, Tryz.ntmps54
    go_wp2_with (first | (go_at_call 56; refine hf.mono ?_; rintro e w' ⟨rfl, rfl⟩) | (go_at_call 70; refine (h0 _ (by first | exact Fr.refl _ _ | exact (Fr.refl _ _).drew | exact (Fr.refl _ _).drewN _)).mono ?_; rintro e w' ⟨rfl, rfl⟩))
    go_ret2
    exact ⟨Fr.refl _ _, .inr ⟨HV.out.1, none, 0, by rw [HV.out.2]; rfl, by rw [HV.out.2]; exact fun i x hx => by simp at hx, by rw [HV.out.2]; simp, by rw [HV.out.2]; rfl⟩⟩
  · have HN := isNoneB_no (os := os) (root := root) (x := d) (by rw [← HZ0.out]; omega)
    cases hfi : findR l d with
    | none =>
      rw [hfi] at hfd
      simp only [optPtr] at hfd
      have HV : Hid (dictOk os root d = false) := by
        unfold dictOk
        rw [HN, (h.nofs hfi).2.1 8]
        rfl
      clear h hfi HN
      by_cases hB : d = z0
      · have hd0 : d = 0 := by omega
        subst hB
        subst hd0
        go_enter Tryz.func54, Tryz.ntmps54
        go_wp2_with (first | (go_at_call 56; refine hf.mono ?_; rintro e w' ⟨rfl, rfl⟩) | (go_at_call 70; refine (h0 _ (by first | exact Fr.refl _ _ | exact (Fr.refl _ _).drew | exact (Fr.refl _ _).drewN _)).mono ?_; rintro e w' ⟨rfl, rfl⟩) | (go_at_call 64; refine hfd.mono ?_; rintro e w' ⟨rfl, rfl⟩))
        go_quiet (fail)
        go_wp2_with fail
        go_ret2
        exact ⟨by first | exact Fr.refl _ _ | exact (Fr.refl _ _).drew | exact (Fr.refl _ _).drewN _, .inl ⟨HV.out, rfl⟩⟩
      · have hB1 : (d == z0) = false := by simpa using hB
        clear hA
        go_enter Tryz.func54, Tryz.ntmps54
        go_wp2_with (first | (go_at_call 56; refine hf.mono ?_; rintro e w' ⟨rfl, rfl⟩) | (go_at_call 70; refine (h0 _ (by first | exact Fr.refl _ _ | exact (Fr.refl _ _).drew | exact (Fr.refl _ _).drewN _)).mono ?_; rintro e w' ⟨rfl, rfl⟩) | (go_at_call 64; refine hfd.mono ?_; rintro e w' ⟨rfl, rfl⟩))
        go_quiet (fail)
        go_wp2_with fail
        go_ret2
        exact ⟨by first | exact Fr.refl _ _ | exact (Fr.refl _ _).drew | exact (Fr.refl _ _).drewN _, .inl ⟨HV.out, rfl⟩⟩
    | some o =>
      rw [hfi] at hfd
      simp only [optPtr, RO.ptr] at hfd
      obtain ⟨fa, fc, -, p0, p2, hW, hL, hfs, hio, hsz⟩ := h.fs hfi
      have hne0 : d ≠ 0 := fun e => by
        have := h.found hfi
        rw [e, look_zero] at this
        cases this
      have hB : d ≠ z0 := fun e => hA ⟨e, hne0⟩
      have hB1 : (d == z0) = false := by simpa using hB
      have hD : dictOk os root d = (o.cls == z8 && o.fs.length % 2 == 0) := by
        unfold dictOk
        rw [HN, hio 8, hsz, ← HZ8.out]
        rfl
      have hDV : (o.cls == z8 && o.fs.length % 2 == 0) = true → dictV os root d = d := fun e => by
        unfold dictV
        rw [HN, hio 8, hsz, ← HZ8.out, e]
        rfl
      have HW := Lib.hid hW
      have HFS := Lib.hid hfs
      have HD := Lib.hid hD
      have HDV := Lib.hid hDV
      clear h hfi HN hA hW hfs hio hsz hD hDV hne0 hB
      obtain ⟨n, hn⟩ : ∃ n, n = o.fs.length := ⟨_, rfl⟩
      obtain ⟨cl, hcl⟩ : ∃ cl, cl = o.cls := ⟨_, rfl⟩
      rw [← hn] at p2 hL
      rw [← hcl] at p0
      have HNN := Lib.hid hn
      have HCL := Lib.hid hcl
      clear hn hcl
      by_cases hc8 : cl = z8
      · subst hc8
        by_cases hev : n % 2 = 0
        · have hv2 : IntKind.i64.wrap ((n : Int).tmod 2) = 0 := by rw [Int.tmod_eq_emod_of_nonneg (by omega), IntKind.wrap_i64]; omega
          have hv3 : (n : Int).tmod 2 = 0 := by rw [Int.tmod_eq_emod_of_nonneg (by omega)]; omega
          have HT : Hid ((o.cls == cl && o.fs.length % 2 == 0) = true) := Lib.hid (by rw [← HCL.out, ← HNN.out]; simp [hev])
          have HFSV : Hid (fsAt os (dictV os root d) = o.fs) := Lib.hid (by rw [HDV.out HT.out]; exact HFS.out)
          go_enter Tryz.func54, Tryz.ntmps54
          go_wp2_with (first | (go_at_call 56; refine hf.mono ?_; rintro e w' ⟨rfl, rfl⟩) | (go_at_call 70; refine (h0 _ (by first | exact Fr.refl _ _ | exact (Fr.refl _ _).drew | exact (Fr.refl _ _).drewN _)).mono ?_; rintro e w' ⟨rfl, rfl⟩) | (go_at_call 64; refine hfd.mono ?_; rintro e w' ⟨rfl, rfl⟩))
          go_quiet ((go_at_call 70; exact Calls.quiet_of_same ((h8 _ ((Fr.refl _ _).drewN _)).mono (fun _ _ h => ⟨h.1, h.2.symm⟩))))
          all_goals (go_wp2_with fail)
          all_goals go_ret2
          all_goals exact ⟨by first | exact Fr.refl _ _ | exact (Fr.refl _ _).drew | exact (Fr.refl _ _).drewN _, .inr ⟨by rw [HD.out]; exact HT.out, fa, fc, by rw [HFSV.out, ← HNN.out]; rfl, by rw [HFSV.out]; exact HW.out, by rw [HFSV.out, ← HNN.out]; exact hL, by rw [HFSV.out, ← HNN.out]; exact hev⟩⟩
        · have hev1 : n % 2 = 1 := by omega
          have hv3 : (n : Int).tmod 2 = 1 := by rw [Int.tmod_eq_emod_of_nonneg (by omega)]; omega
          have hv2 : IntKind.i64.wrap ((n : Int).tmod 2) = 1 := by rw [hv3]; rfl
          have HT : Hid ((o.cls == cl && o.fs.length % 2 == 0) = false) := Lib.hid (by rw [← HCL.out, ← HNN.out]; simp [hev])
          go_enter Tryz.func54, Tryz.ntmps54
          go_wp2_with (first | (go_at_call 56; refine hf.mono ?_; rintro e w' ⟨rfl, rfl⟩) | (go_at_call 70; refine (h0 _ (by first | exact Fr.refl _ _ | exact (Fr.refl _ _).drew | exact (Fr.refl _ _).drewN _)).mono ?_; rintro e w' ⟨rfl, rfl⟩) | (go_at_call 64; refine hfd.mono ?_; rintro e w' ⟨rfl, rfl⟩))
          go_quiet ((go_at_call 70; exact Calls.quiet_of_same ((h8 _ ((Fr.refl _ _).drewN _)).mono (fun _ _ h => ⟨h.1, h.2.symm⟩))))
          all_goals (go_wp2_with fail)
          all_goals go_ret2
          all_goals exact ⟨by first | exact Fr.refl _ _ | exact (Fr.refl _ _).drew | exact (Fr.refl _ _).drewN _, .inl ⟨by rw [HD.out]; exact HT.out, rfl⟩⟩
      · have hc81 : (cl == z8) = false := by simpa using hc8
        have HT : Hid ((o.cls == z8 && o.fs.length % 2 == 0) = false) := Lib.hid (by rw [← HCL.out, hc81]; rfl)
        go_enter Tryz.func54, Tryz.ntmps54
        go_wp2_with (first | (go_at_call 56; refine hf.mono ?_; rintro e w' ⟨rfl, rfl⟩) | (go_at_call 70; refine (h0 _ (by first | exact Fr.refl _ _ | exact (Fr.refl _ _).drew | exact (Fr.refl _ _).drewN _)).mono ?_; rintro e w' ⟨rfl, rfl⟩) | (go_at_call 64; refine hfd.mono ?_; rintro e w' ⟨rfl, rfl⟩))
        go_quiet ((go_at_call 70; exact Calls.quiet_of_same ((h8 _ ((Fr.refl _ _).drewN _)).mono (fun _ _ h => ⟨h.1, h.2.symm⟩))))
        all_goals (go_wp2_with fail)
        all_goals go_ret2
        all_goals exact ⟨by first | exact Fr.refl _ _ | exact (Fr.refl _ _).drew | exact (Fr.refl _ _).drewN _, .inl ⟨by rw [HD.out]; exact HT.out, rfl⟩⟩
end
end Go.Proofs.YtofhgfgipdokbaaGreatDoor
namespace Go.Proofs.YtofhgfgipdokbaaGreatDoor
open Go.RowKit
section
variable {W : World} {rb : Nat} {lim root hashes : Int} {os : List Ob} {l : List RO} {lv : Value}
/-- a number of a class, as it is read -/
def numV (x : Int) : Int := if odd x = true then intOfW x else 0
theorem numOk_V (x lim : Int) : numOk x lim = (odd x && decide (0 ≤ numV x) && decide (numV x ≤ lim)) := by
  unfold numOk numV
  cases odd x
  · rfl
  · simp
theorem DictTo.any {d : Int} {w w' : World} {e : Ending} (h : DictTo os root d w e w') : ∃ da dn dc, e = .returned (.tuple #[.slice da dn dc, .bool (dictOk os root d)]) ∧ Fr [] w w' := by
  obtain ⟨hF, ⟨hd, rfl⟩ | ⟨hd, fa, fc, rfl, -⟩⟩ := h
  · exact ⟨none, 0, 0, by rw [hd], hF⟩
  · exact ⟨fa, _, fc, by rw [hd], hF⟩
set_option maxRecDepth 100000 in
set_option maxHeartbeats 8000000 in
theorem r7is (h : RpAt W rb lim os root hashes l lv) (x : Int) (hx : WB x) : Calls Tryz.prog 53 #[.pointer (some ⟨rb, 0, none⟩), .int .u64 x] W (Still (.bool (isClsB os root x)) W) := by
  have hfd := rfind h.ref x hx.1 hx.2
  rw [show (RH.mk lim l root hashes).l = l from rfl] at hfd
  have h7 := fun w (hF : Fr [] W w) => r7special (h.fr0 hF) 7 (by omega) (by omega)
  have h0 := fun w (hF : Fr [] W w) => r7special (h.fr0 hF) 0 (by omega) (by omega)
  obtain ⟨z0, hz0⟩ : ∃ z0, z0 = specK os root 0 := ⟨_, rfl⟩
  obtain ⟨z7, hz7⟩ : ∃ z7, z7 = specK os root 7 := ⟨_, rfl⟩
  have HZ0 := Lib.hid hz0
  have HZ7 := Lib.hid hz7
  rw [← hz0] at h0
  rw [← hz7] at h7
  cases hfi : findR l x with
  | none =>
    rw [hfi] at hfd
    simp only [optPtr] at hfd
    have HV : Hid (isClsB os root x = false) := Lib.hid (by unfold isClsB; rw [(h.nofs hfi).2.2]; rfl)
    clear h hfi hz0 hz7
    go_enter Tryz.func53, Tryz.ntmps53
    go_wp2_with (first | (go_at_call 64; refine hfd.mono ?_; rintro e w' ⟨rfl, rfl⟩))
    go_quiet (fail)
    go_wp2_with fail
    go_ret
    exact ⟨ret1 (by rw [HV.out]; rfl), by first | exact Fr.refl _ _ | exact (Fr.refl _ _).drewN _⟩
  | some o =>
    rw [hfi] at hfd
    simp only [optPtr, RO.ptr] at hfd
    obtain ⟨fa, fc, -, p0, p2, hW, hL, hfs, hio, hsz⟩ := h.fs hfi
    obtain ⟨n, hn⟩ : ∃ n, n = o.fs.length := ⟨_, rfl⟩
    obtain ⟨cl, hcl⟩ : ∃ cl, cl = o.cls := ⟨_, rfl⟩
    have hcl7 : isOfB os root x 7 = (cl == z7) := by rw [hio 7, ← hz7, hcl]
    rw [← hn] at p2 hL hsz
    rw [← hcl] at p0
    by_cases hc7 : cl = z7
    · by_cases hn4 : n = 4
      · subst hn4
        have hn2 : ∀ w, Fr [] W w → Calls Tryz.prog 71 #[.pointer (some ⟨rb, 0, none⟩), .int .u64 x, .int .i64 2] w (Gives (.tuple #[.int .i64 (numV (fieldAt os x 2)), .bool (odd (fieldAt os x 2))]) w) := fun w hF => r7number (h.fr0 hF) x 2 hx (by rw [hsz]; omega) (by omega)
        have hn3 : ∀ w, Fr [] W w → Calls Tryz.prog 71 #[.pointer (some ⟨rb, 0, none⟩), .int .u64 x, .int .i64 3] w (Gives (.tuple #[.int .i64 (numV (fieldAt os x 3)), .bool (odd (fieldAt os x 3))]) w) := fun w hF => r7number (h.fr0 hF) x 3 hx (by rw [hsz]; omega) (by omega)
        have hdi := fun w (hF : Fr [] W w) => (r7dict (h.fr0 hF) x hx (by rw [hsz]; omega)).mono (fun _ _ h => h.any)
        have hup := h.field x 0
        have hf0 : o.fs[0]? = some (fieldAt os x 0) := by
          rw [fieldAt_fs, hfs]
          rw [List.getElem?_eq_getElem (by omega)]
          rfl
        obtain ⟨g, off, rfl, hc⟩ := hW 0 _ hf0
        have hfu := fun w (hF : Fr [] W w) => rfind (h.fr0 hF).ref (fieldAt os x 0) hup.1 hup.2
        have hV : isClsB os root x = (true && true && supOk os root (fieldAt os x 0) && dictOk os root (fieldAt os x 1) && (odd (fieldAt os x 2) && decide (0 ≤ numV (fieldAt os x 2)) && decide (numV (fieldAt os x 2) ≤ 64)) && (odd (fieldAt os x 3) && decide (0 ≤ numV (fieldAt os x 3)) && decide (numV (fieldAt os x 3) ≤ 1))) := by
          unfold isClsB
          rw [hsz, hcl7, numOk_V, numOk_V, show (cl == z7) = true by simpa using hc7]
          rfl
        have hSU : supOk os root (fieldAt os x 0) = (isOfB os root (fieldAt os x 0) 7 || isNoneB os root (fieldAt os x 0)) := rfl
        have hL0 : findR l (fieldAt os x 0) = none → isOfB os root (fieldAt os x 0) 7 = false := fun e => (h.nofs e).2.1 7
        have hL1 : ∀ y, findR l (fieldAt os x 0) = some y → isOfB os root (fieldAt os x 0) 7 = (y.cls == z7) ∧ fieldAt os x 0 ≠ 0 ∧ W.cell? ⟨y.b, 0, none⟩ = some (.int .u64 y.cls) := fun y e => by
          obtain ⟨-, -, -, y0, -, -, -, -, hy, -⟩ := h.fs e
          refine ⟨by rw [hy 7, ← hz7], fun e0 => ?_, y0⟩
          have := h.found e
          rw [e0, look_zero] at this
          cases this
        rw [Nat.add_zero] at hc
        have HV := Lib.hid hV
        have HSU := Lib.hid hSU
        have hNO : fieldAt os x 0 = z0 ∧ fieldAt os x 0 ≠ 0 → isNoneB os root (fieldAt os x 0) = true := fun e => isNoneB_yes (by rw [e.1]; exact HZ0.out) e.2
        have hNN : ¬ (fieldAt os x 0 = z0 ∧ fieldAt os x 0 ≠ 0) → isNoneB os root (fieldAt os x 0) = false := fun e => isNoneB_no (by rw [← HZ0.out]; omega)
        dsimp only at hfu
        have h0q := fun w (hF : Fr [] W w) => (h0 w hF).mono (fun e w' (hh : Gives (.int .u64 z0) w e w') => (⟨hh.1, hh.2.symm⟩ : e = .returned (.int .u64 z0) ∧ w' = w))
        have h7q := fun w (hF : Fr [] W w) => (h7 w hF).mono (fun e w' (hh : Gives (.int .u64 z7) w e w') => (⟨hh.1, hh.2.symm⟩ : e = .returned (.int .u64 z7) ∧ w' = w))
        clear hV hSU h hfi hz0 hz7 hio hsz hcl7 hfs hW hn hcl
        generalize fieldAt os x 0 = up at *
        generalize numV (fieldAt os x 2) = n2 at *
        generalize numV (fieldAt os x 3) = n3 at *
        generalize odd (fieldAt os x 2) = o2 at *
        generalize odd (fieldAt os x 3) = o3 at *
        generalize dictOk os root (fieldAt os x 1) = bd at *
        subst hc7
        by_cases hA : up = z0 ∧ up ≠ 0
        · have hno := hNO hA
          have HS : Hid (supOk os root up = true) := Lib.hid (by rw [HSU.out, hno]; simp)
          have hyc := fun w (_ : Fr [] W w) => True.intro
          obtain ⟨hA1, hA2⟩ := hA
          have hA3 : (up != 0) = true := by simpa using hA2
          clear hno hNO hNN hL0 hL1
          subst hA1
          cases o2 with
          | false =>
            go_enter Tryz.func53, Tryz.ntmps53
            go_wp2_with (first | (go_at_call 64; refine hfd.mono ?_; rintro e w' ⟨rfl, rfl⟩))
            go_quiet ((go_at_call 70; exact Calls.quiet_of_same ((h7 _ ((Fr.refl _ _).drewN _)).mono (fun _ _ h => ⟨h.1, h.2.symm⟩))))
            go_wp2_with (first | (go_at_call 71; (with_reducible refine (hn2 _ ?_).mono ?_); exact ((Fr.refl _ _).drewN _); rintro e w' ⟨rfl, rfl⟩) | (go_at_call 71; (with_reducible refine (hn3 _ ?_).mono ?_); exact ((Fr.refl _ _).drewN _); rintro e w' ⟨rfl, rfl⟩) | (go_at_call 54; (with_reducible refine (hdi _ ?_).mono ?_); exact ((Fr.refl _ _).drewN _); rintro e w2 ⟨da, dn, dc, rfl, hF2'⟩; have hF2 : Fr [] W w2 := ((Fr.refl [] W).drewN _).trans hF2'; have q2 := hF2.cell (by simp) p2; have q0 := hF2.cell (by simp) hc; have hfu2 := hfu w2 hF2; have qy := hyc w2 hF2; have HF2 := Lib.hid hF2; clear hF2 hF2') | (go_at_call 64; refine hfu2.mono ?_; rintro e w' ⟨rfl, rfl⟩))
            go_quiet ((go_at_call 70; first | (with_reducible exact Calls.quiet_of_same (h0q _ (HF2.out.drewN _))) | (with_reducible exact Calls.quiet_of_same (h7q _ (HF2.out.drewN _)))))
            go_wp2_with fail
            go_ret
            exact ⟨ret1 (vb (by rw [HV.out, HS.out]; simp)), by first | exact (HF2.out.drewN _).drewN _ | exact (HF2.out.drewN _).drew | exact HF2.out.drewN _ | exact HF2.out⟩
          | true =>
            cases o3 with
            | false =>
              go_enter Tryz.func53, Tryz.ntmps53
              go_wp2_with (first | (go_at_call 64; refine hfd.mono ?_; rintro e w' ⟨rfl, rfl⟩))
              go_quiet ((go_at_call 70; exact Calls.quiet_of_same ((h7 _ ((Fr.refl _ _).drewN _)).mono (fun _ _ h => ⟨h.1, h.2.symm⟩))))
              go_wp2_with (first | (go_at_call 71; (with_reducible refine (hn2 _ ?_).mono ?_); exact ((Fr.refl _ _).drewN _); rintro e w' ⟨rfl, rfl⟩) | (go_at_call 71; (with_reducible refine (hn3 _ ?_).mono ?_); exact ((Fr.refl _ _).drewN _); rintro e w' ⟨rfl, rfl⟩) | (go_at_call 54; (with_reducible refine (hdi _ ?_).mono ?_); exact ((Fr.refl _ _).drewN _); rintro e w2 ⟨da, dn, dc, rfl, hF2'⟩; have hF2 : Fr [] W w2 := ((Fr.refl [] W).drewN _).trans hF2'; have q2 := hF2.cell (by simp) p2; have q0 := hF2.cell (by simp) hc; have hfu2 := hfu w2 hF2; have qy := hyc w2 hF2; have HF2 := Lib.hid hF2; clear hF2 hF2') | (go_at_call 64; refine hfu2.mono ?_; rintro e w' ⟨rfl, rfl⟩))
              go_quiet ((go_at_call 70; first | (with_reducible exact Calls.quiet_of_same (h0q _ (HF2.out.drewN _))) | (with_reducible exact Calls.quiet_of_same (h7q _ (HF2.out.drewN _)))))
              go_wp2_with fail
              go_ret
              exact ⟨ret1 (vb (by rw [HV.out, HS.out]; simp)), by first | exact (HF2.out.drewN _).drewN _ | exact (HF2.out.drewN _).drew | exact HF2.out.drewN _ | exact HF2.out⟩
            | true =>
              cases bd with
              | false =>
                go_enter Tryz.func53, Tryz.ntmps53
                go_wp2_with (first | (go_at_call 64; refine hfd.mono ?_; rintro e w' ⟨rfl, rfl⟩))
                go_quiet ((go_at_call 70; exact Calls.quiet_of_same ((h7 _ ((Fr.refl _ _).drewN _)).mono (fun _ _ h => ⟨h.1, h.2.symm⟩))))
                go_wp2_with (first | (go_at_call 71; (with_reducible refine (hn2 _ ?_).mono ?_); exact ((Fr.refl _ _).drewN _); rintro e w' ⟨rfl, rfl⟩) | (go_at_call 71; (with_reducible refine (hn3 _ ?_).mono ?_); exact ((Fr.refl _ _).drewN _); rintro e w' ⟨rfl, rfl⟩) | (go_at_call 54; (with_reducible refine (hdi _ ?_).mono ?_); exact ((Fr.refl _ _).drewN _); rintro e w2 ⟨da, dn, dc, rfl, hF2'⟩; have hF2 : Fr [] W w2 := ((Fr.refl [] W).drewN _).trans hF2'; have q2 := hF2.cell (by simp) p2; have q0 := hF2.cell (by simp) hc; have hfu2 := hfu w2 hF2; have qy := hyc w2 hF2; have HF2 := Lib.hid hF2; clear hF2 hF2') | (go_at_call 64; refine hfu2.mono ?_; rintro e w' ⟨rfl, rfl⟩))
                go_quiet ((go_at_call 70; first | (with_reducible exact Calls.quiet_of_same (h0q _ (HF2.out.drewN _))) | (with_reducible exact Calls.quiet_of_same (h7q _ (HF2.out.drewN _)))))
                go_wp2_with fail
                go_ret
                exact ⟨ret1 (vb (by rw [HV.out, HS.out]; simp)), by first | exact (HF2.out.drewN _).drewN _ | exact (HF2.out.drewN _).drew | exact HF2.out.drewN _ | exact HF2.out⟩
              | true =>
                by_cases g1 : 0 ≤ n2
                · by_cases g2 : n2 ≤ 64
                  · by_cases g3 : n3 = 0
                    · subst g3
                      go_enter Tryz.func53, Tryz.ntmps53
                      go_wp2_with (first | (go_at_call 64; refine hfd.mono ?_; rintro e w' ⟨rfl, rfl⟩))
                      go_quiet ((go_at_call 70; exact Calls.quiet_of_same ((h7 _ ((Fr.refl _ _).drewN _)).mono (fun _ _ h => ⟨h.1, h.2.symm⟩))))
                      go_wp2_with (first | (go_at_call 71; (with_reducible refine (hn2 _ ?_).mono ?_); exact ((Fr.refl _ _).drewN _); rintro e w' ⟨rfl, rfl⟩) | (go_at_call 71; (with_reducible refine (hn3 _ ?_).mono ?_); exact ((Fr.refl _ _).drewN _); rintro e w' ⟨rfl, rfl⟩) | (go_at_call 54; (with_reducible refine (hdi _ ?_).mono ?_); exact ((Fr.refl _ _).drewN _); rintro e w2 ⟨da, dn, dc, rfl, hF2'⟩; have hF2 : Fr [] W w2 := ((Fr.refl [] W).drewN _).trans hF2'; have q2 := hF2.cell (by simp) p2; have q0 := hF2.cell (by simp) hc; have hfu2 := hfu w2 hF2; have qy := hyc w2 hF2; have HF2 := Lib.hid hF2; clear hF2 hF2') | (go_at_call 64; refine hfu2.mono ?_; rintro e w' ⟨rfl, rfl⟩))
                      go_quiet ((go_at_call 70; first | (with_reducible exact Calls.quiet_of_same (h0q _ (HF2.out.drewN _))) | (with_reducible exact Calls.quiet_of_same (h7q _ (HF2.out.drewN _)))))
                      go_wp2_with fail
                      go_ret
                      exact ⟨ret1 (vb (by rw [HV.out, HS.out]; simp; omega)), by first | exact (HF2.out.drewN _).drewN _ | exact (HF2.out.drewN _).drew | exact HF2.out.drewN _ | exact HF2.out⟩
                    · have g3b : (n3 == 0) = false := by simpa using g3
                      by_cases g4 : n3 = 1
                      · subst g4
                        go_enter Tryz.func53, Tryz.ntmps53
                        go_wp2_with (first | (go_at_call 64; refine hfd.mono ?_; rintro e w' ⟨rfl, rfl⟩))
                        go_quiet ((go_at_call 70; exact Calls.quiet_of_same ((h7 _ ((Fr.refl _ _).drewN _)).mono (fun _ _ h => ⟨h.1, h.2.symm⟩))))
                        go_wp2_with (first | (go_at_call 71; (with_reducible refine (hn2 _ ?_).mono ?_); exact ((Fr.refl _ _).drewN _); rintro e w' ⟨rfl, rfl⟩) | (go_at_call 71; (with_reducible refine (hn3 _ ?_).mono ?_); exact ((Fr.refl _ _).drewN _); rintro e w' ⟨rfl, rfl⟩) | (go_at_call 54; (with_reducible refine (hdi _ ?_).mono ?_); exact ((Fr.refl _ _).drewN _); rintro e w2 ⟨da, dn, dc, rfl, hF2'⟩; have hF2 : Fr [] W w2 := ((Fr.refl [] W).drewN _).trans hF2'; have q2 := hF2.cell (by simp) p2; have q0 := hF2.cell (by simp) hc; have hfu2 := hfu w2 hF2; have qy := hyc w2 hF2; have HF2 := Lib.hid hF2; clear hF2 hF2') | (go_at_call 64; refine hfu2.mono ?_; rintro e w' ⟨rfl, rfl⟩))
                        go_quiet ((go_at_call 70; first | (with_reducible exact Calls.quiet_of_same (h0q _ (HF2.out.drewN _))) | (with_reducible exact Calls.quiet_of_same (h7q _ (HF2.out.drewN _)))))
                        go_wp2_with fail
                        go_ret
                        exact ⟨ret1 (vb (by rw [HV.out, HS.out]; simp; omega)), by first | exact (HF2.out.drewN _).drewN _ | exact (HF2.out.drewN _).drew | exact HF2.out.drewN _ | exact HF2.out⟩
                      · have g4b : (n3 == 1) = false := by simpa using g4
                        go_enter Tryz.func53, Tryz.ntmps53
                        go_wp2_with (first | (go_at_call 64; refine hfd.mono ?_; rintro e w' ⟨rfl, rfl⟩))
                        go_quiet ((go_at_call 70; exact Calls.quiet_of_same ((h7 _ ((Fr.refl _ _).drewN _)).mono (fun _ _ h => ⟨h.1, h.2.symm⟩))))
                        go_wp2_with (first | (go_at_call 71; (with_reducible refine (hn2 _ ?_).mono ?_); exact ((Fr.refl _ _).drewN _); rintro e w' ⟨rfl, rfl⟩) | (go_at_call 71; (with_reducible refine (hn3 _ ?_).mono ?_); exact ((Fr.refl _ _).drewN _); rintro e w' ⟨rfl, rfl⟩) | (go_at_call 54; (with_reducible refine (hdi _ ?_).mono ?_); exact ((Fr.refl _ _).drewN _); rintro e w2 ⟨da, dn, dc, rfl, hF2'⟩; have hF2 : Fr [] W w2 := ((Fr.refl [] W).drewN _).trans hF2'; have q2 := hF2.cell (by simp) p2; have q0 := hF2.cell (by simp) hc; have hfu2 := hfu w2 hF2; have qy := hyc w2 hF2; have HF2 := Lib.hid hF2; clear hF2 hF2') | (go_at_call 64; refine hfu2.mono ?_; rintro e w' ⟨rfl, rfl⟩))
                        go_quiet ((go_at_call 70; first | (with_reducible exact Calls.quiet_of_same (h0q _ (HF2.out.drewN _))) | (with_reducible exact Calls.quiet_of_same (h7q _ (HF2.out.drewN _)))))
                        go_wp2_with fail
                        go_ret
                        exact ⟨ret1 (vb (by rw [HV.out, HS.out]; simp; omega)), by first | exact (HF2.out.drewN _).drewN _ | exact (HF2.out.drewN _).drew | exact HF2.out.drewN _ | exact HF2.out⟩
                  · have g2b : decide (n2 ≤ 64) = false := by simpa using g2
                    go_enter Tryz.func53, Tryz.ntmps53
                    go_wp2_with (first | (go_at_call 64; refine hfd.mono ?_; rintro e w' ⟨rfl, rfl⟩))
                    go_quiet ((go_at_call 70; exact Calls.quiet_of_same ((h7 _ ((Fr.refl _ _).drewN _)).mono (fun _ _ h => ⟨h.1, h.2.symm⟩))))
                    go_wp2_with (first | (go_at_call 71; (with_reducible refine (hn2 _ ?_).mono ?_); exact ((Fr.refl _ _).drewN _); rintro e w' ⟨rfl, rfl⟩) | (go_at_call 71; (with_reducible refine (hn3 _ ?_).mono ?_); exact ((Fr.refl _ _).drewN _); rintro e w' ⟨rfl, rfl⟩) | (go_at_call 54; (with_reducible refine (hdi _ ?_).mono ?_); exact ((Fr.refl _ _).drewN _); rintro e w2 ⟨da, dn, dc, rfl, hF2'⟩; have hF2 : Fr [] W w2 := ((Fr.refl [] W).drewN _).trans hF2'; have q2 := hF2.cell (by simp) p2; have q0 := hF2.cell (by simp) hc; have hfu2 := hfu w2 hF2; have qy := hyc w2 hF2; have HF2 := Lib.hid hF2; clear hF2 hF2') | (go_at_call 64; refine hfu2.mono ?_; rintro e w' ⟨rfl, rfl⟩))
                    go_quiet ((go_at_call 70; first | (with_reducible exact Calls.quiet_of_same (h0q _ (HF2.out.drewN _))) | (with_reducible exact Calls.quiet_of_same (h7q _ (HF2.out.drewN _)))))
                    go_wp2_with fail
                    go_ret
                    exact ⟨ret1 (vb (by rw [HV.out, HS.out]; simp; omega)), by first | exact (HF2.out.drewN _).drewN _ | exact (HF2.out.drewN _).drew | exact HF2.out.drewN _ | exact HF2.out⟩
                · have g1b : decide (0 ≤ n2) = false := by simpa using g1
                  go_enter Tryz.func53, Tryz.ntmps53
                  go_wp2_with (first | (go_at_call 64; refine hfd.mono ?_; rintro e w' ⟨rfl, rfl⟩))
                  go_quiet ((go_at_call 70; exact Calls.quiet_of_same ((h7 _ ((Fr.refl _ _).drewN _)).mono (fun _ _ h => ⟨h.1, h.2.symm⟩))))
                  go_wp2_with (first | (go_at_call 71; (with_reducible refine (hn2 _ ?_).mono ?_); exact ((Fr.refl _ _).drewN _); rintro e w' ⟨rfl, rfl⟩) | (go_at_call 71; (with_reducible refine (hn3 _ ?_).mono ?_); exact ((Fr.refl _ _).drewN _); rintro e w' ⟨rfl, rfl⟩) | (go_at_call 54; (with_reducible refine (hdi _ ?_).mono ?_); exact ((Fr.refl _ _).drewN _); rintro e w2 ⟨da, dn, dc, rfl, hF2'⟩; have hF2 : Fr [] W w2 := ((Fr.refl [] W).drewN _).trans hF2'; have q2 := hF2.cell (by simp) p2; have q0 := hF2.cell (by simp) hc; have hfu2 := hfu w2 hF2; have qy := hyc w2 hF2; have HF2 := Lib.hid hF2; clear hF2 hF2') | (go_at_call 64; refine hfu2.mono ?_; rintro e w' ⟨rfl, rfl⟩))
                  go_quiet ((go_at_call 70; first | (with_reducible exact Calls.quiet_of_same (h0q _ (HF2.out.drewN _))) | (with_reducible exact Calls.quiet_of_same (h7q _ (HF2.out.drewN _)))))
                  go_wp2_with fail
                  go_ret
                  exact ⟨ret1 (vb (by rw [HV.out, HS.out]; simp; omega)), by first | exact (HF2.out.drewN _).drewN _ | exact (HF2.out.drewN _).drew | exact HF2.out.drewN _ | exact HF2.out⟩
        · have hno := hNN hA
          cases hu : findR l up with
          | none =>
            have HS : Hid (supOk os root up = false) := Lib.hid (by rw [HSU.out, hno, hL0 hu]; rfl)
            simp only [hu, optPtr] at hfu
            have hyc := fun w (_ : Fr [] W w) => True.intro
            by_cases hz : up = z0
            · have hu0 : up = 0 := by omega
              clear hno hNO hNN hL0 hL1 hA hu
              subst hz
              subst hu0
              cases o2 with
              | false =>
                go_enter Tryz.func53, Tryz.ntmps53
                go_wp2_with (first | (go_at_call 64; refine hfd.mono ?_; rintro e w' ⟨rfl, rfl⟩))
                go_quiet ((go_at_call 70; exact Calls.quiet_of_same ((h7 _ ((Fr.refl _ _).drewN _)).mono (fun _ _ h => ⟨h.1, h.2.symm⟩))))
                go_wp2_with (first | (go_at_call 71; (with_reducible refine (hn2 _ ?_).mono ?_); exact ((Fr.refl _ _).drewN _); rintro e w' ⟨rfl, rfl⟩) | (go_at_call 71; (with_reducible refine (hn3 _ ?_).mono ?_); exact ((Fr.refl _ _).drewN _); rintro e w' ⟨rfl, rfl⟩) | (go_at_call 54; (with_reducible refine (hdi _ ?_).mono ?_); exact ((Fr.refl _ _).drewN _); rintro e w2 ⟨da, dn, dc, rfl, hF2'⟩; have hF2 : Fr [] W w2 := ((Fr.refl [] W).drewN _).trans hF2'; have q2 := hF2.cell (by simp) p2; have q0 := hF2.cell (by simp) hc; have hfu2 := hfu w2 hF2; have qy := hyc w2 hF2; have HF2 := Lib.hid hF2; clear hF2 hF2') | (go_at_call 64; refine hfu2.mono ?_; rintro e w' ⟨rfl, rfl⟩))
                go_quiet ((go_at_call 70; first | (with_reducible exact Calls.quiet_of_same (h0q _ (HF2.out.drewN _))) | (with_reducible exact Calls.quiet_of_same (h7q _ (HF2.out.drewN _)))))
                go_wp2_with fail
                go_ret
                exact ⟨ret1 (vb (by rw [HV.out, HS.out]; simp)), by first | exact (HF2.out.drewN _).drewN _ | exact (HF2.out.drewN _).drew | exact HF2.out.drewN _ | exact HF2.out⟩
              | true =>
                cases o3 with
                | false =>
                  go_enter Tryz.func53, Tryz.ntmps53
                  go_wp2_with (first | (go_at_call 64; refine hfd.mono ?_; rintro e w' ⟨rfl, rfl⟩))
                  go_quiet ((go_at_call 70; exact Calls.quiet_of_same ((h7 _ ((Fr.refl _ _).drewN _)).mono (fun _ _ h => ⟨h.1, h.2.symm⟩))))
                  go_wp2_with (first | (go_at_call 71; (with_reducible refine (hn2 _ ?_).mono ?_); exact ((Fr.refl _ _).drewN _); rintro e w' ⟨rfl, rfl⟩) | (go_at_call 71; (with_reducible refine (hn3 _ ?_).mono ?_); exact ((Fr.refl _ _).drewN _); rintro e w' ⟨rfl, rfl⟩) | (go_at_call 54; (with_reducible refine (hdi _ ?_).mono ?_); exact ((Fr.refl _ _).drewN _); rintro e w2 ⟨da, dn, dc, rfl, hF2'⟩; have hF2 : Fr [] W w2 := ((Fr.refl [] W).drewN _).trans hF2'; have q2 := hF2.cell (by simp) p2; have q0 := hF2.cell (by simp) hc; have hfu2 := hfu w2 hF2; have qy := hyc w2 hF2; have HF2 := Lib.hid hF2; clear hF2 hF2') | (go_at_call 64; refine hfu2.mono ?_; rintro e w' ⟨rfl, rfl⟩))
                  go_quiet ((go_at_call 70; first | (with_reducible exact Calls.quiet_of_same (h0q _ (HF2.out.drewN _))) | (with_reducible exact Calls.quiet_of_same (h7q _ (HF2.out.drewN _)))))
                  go_wp2_with fail
                  go_ret
                  exact ⟨ret1 (vb (by rw [HV.out, HS.out]; simp)), by first | exact (HF2.out.drewN _).drewN _ | exact (HF2.out.drewN _).drew | exact HF2.out.drewN _ | exact HF2.out⟩
                | true =>
                  cases bd with
                  | false =>
                    go_enter Tryz.func53, Tryz.ntmps53
                    go_wp2_with (first | (go_at_call 64; refine hfd.mono ?_; rintro e w' ⟨rfl, rfl⟩))
                    go_quiet ((go_at_call 70; exact Calls.quiet_of_same ((h7 _ ((Fr.refl _ _).drewN _)).mono (fun _ _ h => ⟨h.1, h.2.symm⟩))))
                    go_wp2_with (first | (go_at_call 71; (with_reducible refine (hn2 _ ?_).mono ?_); exact ((Fr.refl _ _).drewN _); rintro e w' ⟨rfl, rfl⟩) | (go_at_call 71; (with_reducible refine (hn3 _ ?_).mono ?_); exact ((Fr.refl _ _).drewN _); rintro e w' ⟨rfl, rfl⟩) | (go_at_call 54; (with_reducible refine (hdi _ ?_).mono ?_); exact ((Fr.refl _ _).drewN _); rintro e w2 ⟨da, dn, dc, rfl, hF2'⟩; have hF2 : Fr [] W w2 := ((Fr.refl [] W).drewN _).trans hF2'; have q2 := hF2.cell (by simp) p2; have q0 := hF2.cell (by simp) hc; have hfu2 := hfu w2 hF2; have qy := hyc w2 hF2; have HF2 := Lib.hid hF2; clear hF2 hF2') | (go_at_call 64; refine hfu2.mono ?_; rintro e w' ⟨rfl, rfl⟩))
                    go_quiet ((go_at_call 70; first | (with_reducible exact Calls.quiet_of_same (h0q _ (HF2.out.drewN _))) | (with_reducible exact Calls.quiet_of_same (h7q _ (HF2.out.drewN _)))))
                    go_wp2_with fail
                    go_ret
                    exact ⟨ret1 (vb (by rw [HV.out, HS.out]; simp)), by first | exact (HF2.out.drewN _).drewN _ | exact (HF2.out.drewN _).drew | exact HF2.out.drewN _ | exact HF2.out⟩
                  | true =>
                    go_enter Tryz.func53, Tryz.ntmps53
                    go_wp2_with (first | (go_at_call 64; refine hfd.mono ?_; rintro e w' ⟨rfl, rfl⟩))
                    go_quiet ((go_at_call 70; exact Calls.quiet_of_same ((h7 _ ((Fr.refl _ _).drewN _)).mono (fun _ _ h => ⟨h.1, h.2.symm⟩))))
                    go_wp2_with (first | (go_at_call 71; (with_reducible refine (hn2 _ ?_).mono ?_); exact ((Fr.refl _ _).drewN _); rintro e w' ⟨rfl, rfl⟩) | (go_at_call 71; (with_reducible refine (hn3 _ ?_).mono ?_); exact ((Fr.refl _ _).drewN _); rintro e w' ⟨rfl, rfl⟩) | (go_at_call 54; (with_reducible refine (hdi _ ?_).mono ?_); exact ((Fr.refl _ _).drewN _); rintro e w2 ⟨da, dn, dc, rfl, hF2'⟩; have hF2 : Fr [] W w2 := ((Fr.refl [] W).drewN _).trans hF2'; have q2 := hF2.cell (by simp) p2; have q0 := hF2.cell (by simp) hc; have hfu2 := hfu w2 hF2; have qy := hyc w2 hF2; have HF2 := Lib.hid hF2; clear hF2 hF2') | (go_at_call 64; refine hfu2.mono ?_; rintro e w' ⟨rfl, rfl⟩))
                    go_quiet ((go_at_call 70; first | (with_reducible exact Calls.quiet_of_same (h0q _ (HF2.out.drewN _))) | (with_reducible exact Calls.quiet_of_same (h7q _ (HF2.out.drewN _)))))
                    go_wp2_with fail
                    go_ret
                    exact ⟨ret1 (vb (by rw [HV.out, HS.out]; simp)), by first | exact (HF2.out.drewN _).drewN _ | exact (HF2.out.drewN _).drew | exact HF2.out.drewN _ | exact HF2.out⟩
            · have hz1 : (up == z0) = false := by simpa using hz
              clear hno hNO hNN hL0 hL1 hA hu
              cases o2 with
              | false =>
                go_enter Tryz.func53, Tryz.ntmps53
                go_wp2_with (first | (go_at_call 64; refine hfd.mono ?_; rintro e w' ⟨rfl, rfl⟩))
                go_quiet ((go_at_call 70; exact Calls.quiet_of_same ((h7 _ ((Fr.refl _ _).drewN _)).mono (fun _ _ h => ⟨h.1, h.2.symm⟩))))
                go_wp2_with (first | (go_at_call 71; (with_reducible refine (hn2 _ ?_).mono ?_); exact ((Fr.refl _ _).drewN _); rintro e w' ⟨rfl, rfl⟩) | (go_at_call 71; (with_reducible refine (hn3 _ ?_).mono ?_); exact ((Fr.refl _ _).drewN _); rintro e w' ⟨rfl, rfl⟩) | (go_at_call 54; (with_reducible refine (hdi _ ?_).mono ?_); exact ((Fr.refl _ _).drewN _); rintro e w2 ⟨da, dn, dc, rfl, hF2'⟩; have hF2 : Fr [] W w2 := ((Fr.refl [] W).drewN _).trans hF2'; have q2 := hF2.cell (by simp) p2; have q0 := hF2.cell (by simp) hc; have hfu2 := hfu w2 hF2; have qy := hyc w2 hF2; have HF2 := Lib.hid hF2; clear hF2 hF2') | (go_at_call 64; refine hfu2.mono ?_; rintro e w' ⟨rfl, rfl⟩))
                go_quiet ((go_at_call 70; first | (with_reducible exact Calls.quiet_of_same (h0q _ (HF2.out.drewN _))) | (with_reducible exact Calls.quiet_of_same (h7q _ (HF2.out.drewN _)))))
                go_wp2_with fail
                go_ret
                exact ⟨ret1 (vb (by rw [HV.out, HS.out]; simp)), by first | exact (HF2.out.drewN _).drewN _ | exact (HF2.out.drewN _).drew | exact HF2.out.drewN _ | exact HF2.out⟩
              | true =>
                cases o3 with
                | false =>
                  go_enter Tryz.func53, Tryz.ntmps53
                  go_wp2_with (first | (go_at_call 64; refine hfd.mono ?_; rintro e w' ⟨rfl, rfl⟩))
                  go_quiet ((go_at_call 70; exact Calls.quiet_of_same ((h7 _ ((Fr.refl _ _).drewN _)).mono (fun _ _ h => ⟨h.1, h.2.symm⟩))))
                  go_wp2_with (first | (go_at_call 71; (with_reducible refine (hn2 _ ?_).mono ?_); exact ((Fr.refl _ _).drewN _); rintro e w' ⟨rfl, rfl⟩) | (go_at_call 71; (with_reducible refine (hn3 _ ?_).mono ?_); exact ((Fr.refl _ _).drewN _); rintro e w' ⟨rfl, rfl⟩) | (go_at_call 54; (with_reducible refine (hdi _ ?_).mono ?_); exact ((Fr.refl _ _).drewN _); rintro e w2 ⟨da, dn, dc, rfl, hF2'⟩; have hF2 : Fr [] W w2 := ((Fr.refl [] W).drewN _).trans hF2'; have q2 := hF2.cell (by simp) p2; have q0 := hF2.cell (by simp) hc; have hfu2 := hfu w2 hF2; have qy := hyc w2 hF2; have HF2 := Lib.hid hF2; clear hF2 hF2') | (go_at_call 64; refine hfu2.mono ?_; rintro e w' ⟨rfl, rfl⟩))
                  go_quiet ((go_at_call 70; first | (with_reducible exact Calls.quiet_of_same (h0q _ (HF2.out.drewN _))) | (with_reducible exact Calls.quiet_of_same (h7q _ (HF2.out.drewN _)))))
                  go_wp2_with fail
                  go_ret
                  exact ⟨ret1 (vb (by rw [HV.out, HS.out]; simp)), by first | exact (HF2.out.drewN _).drewN _ | exact (HF2.out.drewN _).drew | exact HF2.out.drewN _ | exact HF2.out⟩
                | true =>
                  cases bd with
                  | false =>
                    go_enter Tryz.func53, Tryz.ntmps53
                    go_wp2_with (first | (go_at_call 64; refine hfd.mono ?_; rintro e w' ⟨rfl, rfl⟩))
                    go_quiet ((go_at_call 70; exact Calls.quiet_of_same ((h7 _ ((Fr.refl _ _).drewN _)).mono (fun _ _ h => ⟨h.1, h.2.symm⟩))))
                    go_wp2_with (first | (go_at_call 71; (with_reducible refine (hn2 _ ?_).mono ?_); exact ((Fr.refl _ _).drewN _); rintro e w' ⟨rfl, rfl⟩) | (go_at_call 71; (with_reducible refine (hn3 _ ?_).mono ?_); exact ((Fr.refl _ _).drewN _); rintro e w' ⟨rfl, rfl⟩) | (go_at_call 54; (with_reducible refine (hdi _ ?_).mono ?_); exact ((Fr.refl _ _).drewN _); rintro e w2 ⟨da, dn, dc, rfl, hF2'⟩; have hF2 : Fr [] W w2 := ((Fr.refl [] W).drewN _).trans hF2'; have q2 := hF2.cell (by simp) p2; have q0 := hF2.cell (by simp) hc; have hfu2 := hfu w2 hF2; have qy := hyc w2 hF2; have HF2 := Lib.hid hF2; clear hF2 hF2') | (go_at_call 64; refine hfu2.mono ?_; rintro e w' ⟨rfl, rfl⟩))
                    go_quiet ((go_at_call 70; first | (with_reducible exact Calls.quiet_of_same (h0q _ (HF2.out.drewN _))) | (with_reducible exact Calls.quiet_of_same (h7q _ (HF2.out.drewN _)))))
                    go_wp2_with fail
                    go_ret
                    exact ⟨ret1 (vb (by rw [HV.out, HS.out]; simp)), by first | exact (HF2.out.drewN _).drewN _ | exact (HF2.out.drewN _).drew | exact HF2.out.drewN _ | exact HF2.out⟩
                  | true =>
                    go_enter Tryz.func53, Tryz.ntmps53
                    go_wp2_with (first | (go_at_call 64; refine hfd.mono ?_; rintro e w' ⟨rfl, rfl⟩))
                    go_quiet ((go_at_call 70; exact Calls.quiet_of_same ((h7 _ ((Fr.refl _ _).drewN _)).mono (fun _ _ h => ⟨h.1, h.2.symm⟩))))
                    go_wp2_with (first | (go_at_call 71; (with_reducible refine (hn2 _ ?_).mono ?_); exact ((Fr.refl _ _).drewN _); rintro e w' ⟨rfl, rfl⟩) | (go_at_call 71; (with_reducible refine (hn3 _ ?_).mono ?_); exact ((Fr.refl _ _).drewN _); rintro e w' ⟨rfl, rfl⟩) | (go_at_call 54; (with_reducible refine (hdi _ ?_).mono ?_); exact ((Fr.refl _ _).drewN _); rintro e w2 ⟨da, dn, dc, rfl, hF2'⟩; have hF2 : Fr [] W w2 := ((Fr.refl [] W).drewN _).trans hF2'; have q2 := hF2.cell (by simp) p2; have q0 := hF2.cell (by simp) hc; have hfu2 := hfu w2 hF2; have qy := hyc w2 hF2; have HF2 := Lib.hid hF2; clear hF2 hF2') | (go_at_call 64; refine hfu2.mono ?_; rintro e w' ⟨rfl, rfl⟩))
                    go_quiet ((go_at_call 70; first | (with_reducible exact Calls.quiet_of_same (h0q _ (HF2.out.drewN _))) | (with_reducible exact Calls.quiet_of_same (h7q _ (HF2.out.drewN _)))))
                    go_wp2_with fail
                    go_ret
                    exact ⟨ret1 (vb (by rw [HV.out, HS.out]; simp)), by first | exact (HF2.out.drewN _).drewN _ | exact (HF2.out.drewN _).drew | exact HF2.out.drewN _ | exact HF2.out⟩
          | some y =>
            obtain ⟨l1, l2, l3⟩ := hL1 y hu
            simp only [hu, optPtr, RO.ptr] at hfu
            have hz : ¬ up = z0 := fun e => hA ⟨e, l2⟩
            have hz1 : (up == z0) = false := by simpa using hz
            have hyc := fun w (hF : Fr [] W w) => hF.cell (by simp) l3
            clear hNO hNN hL0 hL1 hA hu l3 l2
            generalize y.cls = yc at *
            by_cases hy7 : yc = cl
            · have HS : Hid (supOk os root up = true) := Lib.hid (by rw [HSU.out, l1, hy7]; simp)
              clear hno l1
              subst hy7
              cases o2 with
              | false =>
                go_enter Tryz.func53, Tryz.ntmps53
                go_wp2_with (first | (go_at_call 64; refine hfd.mono ?_; rintro e w' ⟨rfl, rfl⟩))
                go_quiet ((go_at_call 70; exact Calls.quiet_of_same ((h7 _ ((Fr.refl _ _).drewN _)).mono (fun _ _ h => ⟨h.1, h.2.symm⟩))))
                go_wp2_with (first | (go_at_call 71; (with_reducible refine (hn2 _ ?_).mono ?_); exact ((Fr.refl _ _).drewN _); rintro e w' ⟨rfl, rfl⟩) | (go_at_call 71; (with_reducible refine (hn3 _ ?_).mono ?_); exact ((Fr.refl _ _).drewN _); rintro e w' ⟨rfl, rfl⟩) | (go_at_call 54; (with_reducible refine (hdi _ ?_).mono ?_); exact ((Fr.refl _ _).drewN _); rintro e w2 ⟨da, dn, dc, rfl, hF2'⟩; have hF2 : Fr [] W w2 := ((Fr.refl [] W).drewN _).trans hF2'; have q2 := hF2.cell (by simp) p2; have q0 := hF2.cell (by simp) hc; have hfu2 := hfu w2 hF2; have qy := hyc w2 hF2; have HF2 := Lib.hid hF2; clear hF2 hF2') | (go_at_call 64; refine hfu2.mono ?_; rintro e w' ⟨rfl, rfl⟩))
                go_quiet ((go_at_call 70; first | (with_reducible exact Calls.quiet_of_same (h0q _ (HF2.out.drewN _))) | (with_reducible exact Calls.quiet_of_same (h7q _ (HF2.out.drewN _)))))
                go_wp2_with fail
                go_ret
                exact ⟨ret1 (vb (by rw [HV.out, HS.out]; simp)), by first | exact (HF2.out.drewN _).drewN _ | exact (HF2.out.drewN _).drew | exact HF2.out.drewN _ | exact HF2.out⟩
              | true =>
                cases o3 with
                | false =>
                  go_enter Tryz.func53, Tryz.ntmps53
                  go_wp2_with (first | (go_at_call 64; refine hfd.mono ?_; rintro e w' ⟨rfl, rfl⟩))
                  go_quiet ((go_at_call 70; exact Calls.quiet_of_same ((h7 _ ((Fr.refl _ _).drewN _)).mono (fun _ _ h => ⟨h.1, h.2.symm⟩))))
                  go_wp2_with (first | (go_at_call 71; (with_reducible refine (hn2 _ ?_).mono ?_); exact ((Fr.refl _ _).drewN _); rintro e w' ⟨rfl, rfl⟩) | (go_at_call 71; (with_reducible refine (hn3 _ ?_).mono ?_); exact ((Fr.refl _ _).drewN _); rintro e w' ⟨rfl, rfl⟩) | (go_at_call 54; (with_reducible refine (hdi _ ?_).mono ?_); exact ((Fr.refl _ _).drewN _); rintro e w2 ⟨da, dn, dc, rfl, hF2'⟩; have hF2 : Fr [] W w2 := ((Fr.refl [] W).drewN _).trans hF2'; have q2 := hF2.cell (by simp) p2; have q0 := hF2.cell (by simp) hc; have hfu2 := hfu w2 hF2; have qy := hyc w2 hF2; have HF2 := Lib.hid hF2; clear hF2 hF2') | (go_at_call 64; refine hfu2.mono ?_; rintro e w' ⟨rfl, rfl⟩))
                  go_quiet ((go_at_call 70; first | (with_reducible exact Calls.quiet_of_same (h0q _ (HF2.out.drewN _))) | (with_reducible exact Calls.quiet_of_same (h7q _ (HF2.out.drewN _)))))
                  go_wp2_with fail
                  go_ret
                  exact ⟨ret1 (vb (by rw [HV.out, HS.out]; simp)), by first | exact (HF2.out.drewN _).drewN _ | exact (HF2.out.drewN _).drew | exact HF2.out.drewN _ | exact HF2.out⟩
                | true =>
                  cases bd with
                  | false =>
                    go_enter Tryz.func53, Tryz.ntmps53
                    go_wp2_with (first | (go_at_call 64; refine hfd.mono ?_; rintro e w' ⟨rfl, rfl⟩))
                    go_quiet ((go_at_call 70; exact Calls.quiet_of_same ((h7 _ ((Fr.refl _ _).drewN _)).mono (fun _ _ h => ⟨h.1, h.2.symm⟩))))
                    go_wp2_with (first | (go_at_call 71; (with_reducible refine (hn2 _ ?_).mono ?_); exact ((Fr.refl _ _).drewN _); rintro e w' ⟨rfl, rfl⟩) | (go_at_call 71; (with_reducible refine (hn3 _ ?_).mono ?_); exact ((Fr.refl _ _).drewN _); rintro e w' ⟨rfl, rfl⟩) | (go_at_call 54; (with_reducible refine (hdi _ ?_).mono ?_); exact ((Fr.refl _ _).drewN _); rintro e w2 ⟨da, dn, dc, rfl, hF2'⟩; have hF2 : Fr [] W w2 := ((Fr.refl [] W).drewN _).trans hF2'; have q2 := hF2.cell (by simp) p2; have q0 := hF2.cell (by simp) hc; have hfu2 := hfu w2 hF2; have qy := hyc w2 hF2; have HF2 := Lib.hid hF2; clear hF2 hF2') | (go_at_call 64; refine hfu2.mono ?_; rintro e w' ⟨rfl, rfl⟩))
                    go_quiet ((go_at_call 70; first | (with_reducible exact Calls.quiet_of_same (h0q _ (HF2.out.drewN _))) | (with_reducible exact Calls.quiet_of_same (h7q _ (HF2.out.drewN _)))))
                    go_wp2_with fail
                    go_ret
                    exact ⟨ret1 (vb (by rw [HV.out, HS.out]; simp)), by first | exact (HF2.out.drewN _).drewN _ | exact (HF2.out.drewN _).drew | exact HF2.out.drewN _ | exact HF2.out⟩
                  | true =>
                    by_cases g1 : 0 ≤ n2
                    · by_cases g2 : n2 ≤ 64
                      · by_cases g3 : n3 = 0
                        · subst g3
                          go_enter Tryz.func53, Tryz.ntmps53
                          go_wp2_with (first | (go_at_call 64; refine hfd.mono ?_; rintro e w' ⟨rfl, rfl⟩))
                          go_quiet ((go_at_call 70; exact Calls.quiet_of_same ((h7 _ ((Fr.refl _ _).drewN _)).mono (fun _ _ h => ⟨h.1, h.2.symm⟩))))
                          go_wp2_with (first | (go_at_call 71; (with_reducible refine (hn2 _ ?_).mono ?_); exact ((Fr.refl _ _).drewN _); rintro e w' ⟨rfl, rfl⟩) | (go_at_call 71; (with_reducible refine (hn3 _ ?_).mono ?_); exact ((Fr.refl _ _).drewN _); rintro e w' ⟨rfl, rfl⟩) | (go_at_call 54; (with_reducible refine (hdi _ ?_).mono ?_); exact ((Fr.refl _ _).drewN _); rintro e w2 ⟨da, dn, dc, rfl, hF2'⟩; have hF2 : Fr [] W w2 := ((Fr.refl [] W).drewN _).trans hF2'; have q2 := hF2.cell (by simp) p2; have q0 := hF2.cell (by simp) hc; have hfu2 := hfu w2 hF2; have qy := hyc w2 hF2; have HF2 := Lib.hid hF2; clear hF2 hF2') | (go_at_call 64; refine hfu2.mono ?_; rintro e w' ⟨rfl, rfl⟩))
                          go_quiet ((go_at_call 70; first | (with_reducible exact Calls.quiet_of_same (h0q _ (HF2.out.drewN _))) | (with_reducible exact Calls.quiet_of_same (h7q _ (HF2.out.drewN _)))))
                          go_wp2_with fail
                          go_ret
                          exact ⟨ret1 (vb (by rw [HV.out, HS.out]; simp; omega)), by first | exact (HF2.out.drewN _).drewN _ | exact (HF2.out.drewN _).drew | exact HF2.out.drewN _ | exact HF2.out⟩
                        · have g3b : (n3 == 0) = false := by simpa using g3
                          by_cases g4 : n3 = 1
                          · subst g4
                            go_enter Tryz.func53, Tryz.ntmps53
                            go_wp2_with (first | (go_at_call 64; refine hfd.mono ?_; rintro e w' ⟨rfl, rfl⟩))
                            go_quiet ((go_at_call 70; exact Calls.quiet_of_same ((h7 _ ((Fr.refl _ _).drewN _)).mono (fun _ _ h => ⟨h.1, h.2.symm⟩))))
                            go_wp2_with (first | (go_at_call 71; (with_reducible refine (hn2 _ ?_).mono ?_); exact ((Fr.refl _ _).drewN _); rintro e w' ⟨rfl, rfl⟩) | (go_at_call 71; (with_reducible refine (hn3 _ ?_).mono ?_); exact ((Fr.refl _ _).drewN _); rintro e w' ⟨rfl, rfl⟩) | (go_at_call 54; (with_reducible refine (hdi _ ?_).mono ?_); exact ((Fr.refl _ _).drewN _); rintro e w2 ⟨da, dn, dc, rfl, hF2'⟩; have hF2 : Fr [] W w2 := ((Fr.refl [] W).drewN _).trans hF2'; have q2 := hF2.cell (by simp) p2; have q0 := hF2.cell (by simp) hc; have hfu2 := hfu w2 hF2; have qy := hyc w2 hF2; have HF2 := Lib.hid hF2; clear hF2 hF2') | (go_at_call 64; refine hfu2.mono ?_; rintro e w' ⟨rfl, rfl⟩))
                            go_quiet ((go_at_call 70; first | (with_reducible exact Calls.quiet_of_same (h0q _ (HF2.out.drewN _))) | (with_reducible exact Calls.quiet_of_same (h7q _ (HF2.out.drewN _)))))
                            go_wp2_with fail
                            go_ret
                            exact ⟨ret1 (vb (by rw [HV.out, HS.out]; simp; omega)), by first | exact (HF2.out.drewN _).drewN _ | exact (HF2.out.drewN _).drew | exact HF2.out.drewN _ | exact HF2.out⟩
                          · have g4b : (n3 == 1) = false := by simpa using g4
                            go_enter Tryz.func53, Tryz.ntmps53
                            go_wp2_with (first | (go_at_call 64; refine hfd.mono ?_; rintro e w' ⟨rfl, rfl⟩))
                            go_quiet ((go_at_call 70; exact Calls.quiet_of_same ((h7 _ ((Fr.refl _ _).drewN _)).mono (fun _ _ h => ⟨h.1, h.2.symm⟩))))
                            go_wp2_with (first | (go_at_call 71; (with_reducible refine (hn2 _ ?_).mono ?_); exact ((Fr.refl _ _).drewN _); rintro e w' ⟨rfl, rfl⟩) | (go_at_call 71; (with_reducible refine (hn3 _ ?_).mono ?_); exact ((Fr.refl _ _).drewN _); rintro e w' ⟨rfl, rfl⟩) | (go_at_call 54; (with_reducible refine (hdi _ ?_).mono ?_); exact ((Fr.refl _ _).drewN _); rintro e w2 ⟨da, dn, dc, rfl, hF2'⟩; have hF2 : Fr [] W w2 := ((Fr.refl [] W).drewN _).trans hF2'; have q2 := hF2.cell (by simp) p2; have q0 := hF2.cell (by simp) hc; have hfu2 := hfu w2 hF2; have qy := hyc w2 hF2; have HF2 := Lib.hid hF2; clear hF2 hF2') | (go_at_call 64; refine hfu2.mono ?_; rintro e w' ⟨rfl, rfl⟩))
                            go_quiet ((go_at_call 70; first | (with_reducible exact Calls.quiet_of_same (h0q _ (HF2.out.drewN _))) | (with_reducible exact Calls.quiet_of_same (h7q _ (HF2.out.drewN _)))))
                            go_wp2_with fail
                            go_ret
                            exact ⟨ret1 (vb (by rw [HV.out, HS.out]; simp; omega)), by first | exact (HF2.out.drewN _).drewN _ | exact (HF2.out.drewN _).drew | exact HF2.out.drewN _ | exact HF2.out⟩
                      · have g2b : decide (n2 ≤ 64) = false := by simpa using g2
                        go_enter Tryz.func53, Tryz.ntmps53
                        go_wp2_with (first | (go_at_call 64; refine hfd.mono ?_; rintro e w' ⟨rfl, rfl⟩))
                        go_quiet ((go_at_call 70; exact Calls.quiet_of_same ((h7 _ ((Fr.refl _ _).drewN _)).mono (fun _ _ h => ⟨h.1, h.2.symm⟩))))
                        go_wp2_with (first | (go_at_call 71; (with_reducible refine (hn2 _ ?_).mono ?_); exact ((Fr.refl _ _).drewN _); rintro e w' ⟨rfl, rfl⟩) | (go_at_call 71; (with_reducible refine (hn3 _ ?_).mono ?_); exact ((Fr.refl _ _).drewN _); rintro e w' ⟨rfl, rfl⟩) | (go_at_call 54; (with_reducible refine (hdi _ ?_).mono ?_); exact ((Fr.refl _ _).drewN _); rintro e w2 ⟨da, dn, dc, rfl, hF2'⟩; have hF2 : Fr [] W w2 := ((Fr.refl [] W).drewN _).trans hF2'; have q2 := hF2.cell (by simp) p2; have q0 := hF2.cell (by simp) hc; have hfu2 := hfu w2 hF2; have qy := hyc w2 hF2; have HF2 := Lib.hid hF2; clear hF2 hF2') | (go_at_call 64; refine hfu2.mono ?_; rintro e w' ⟨rfl, rfl⟩))
                        go_quiet ((go_at_call 70; first | (with_reducible exact Calls.quiet_of_same (h0q _ (HF2.out.drewN _))) | (with_reducible exact Calls.quiet_of_same (h7q _ (HF2.out.drewN _)))))
                        go_wp2_with fail
                        go_ret
                        exact ⟨ret1 (vb (by rw [HV.out, HS.out]; simp; omega)), by first | exact (HF2.out.drewN _).drewN _ | exact (HF2.out.drewN _).drew | exact HF2.out.drewN _ | exact HF2.out⟩
                    · have g1b : decide (0 ≤ n2) = false := by simpa using g1
                      go_enter Tryz.func53, Tryz.ntmps53
                      go_wp2_with (first | (go_at_call 64; refine hfd.mono ?_; rintro e w' ⟨rfl, rfl⟩))
                      go_quiet ((go_at_call 70; exact Calls.quiet_of_same ((h7 _ ((Fr.refl _ _).drewN _)).mono (fun _ _ h => ⟨h.1, h.2.symm⟩))))
                      go_wp2_with (first | (go_at_call 71; (with_reducible refine (hn2 _ ?_).mono ?_); exact ((Fr.refl _ _).drewN _); rintro e w' ⟨rfl, rfl⟩) | (go_at_call 71; (with_reducible refine (hn3 _ ?_).mono ?_); exact ((Fr.refl _ _).drewN _); rintro e w' ⟨rfl, rfl⟩) | (go_at_call 54; (with_reducible refine (hdi _ ?_).mono ?_); exact ((Fr.refl _ _).drewN _); rintro e w2 ⟨da, dn, dc, rfl, hF2'⟩; have hF2 : Fr [] W w2 := ((Fr.refl [] W).drewN _).trans hF2'; have q2 := hF2.cell (by simp) p2; have q0 := hF2.cell (by simp) hc; have hfu2 := hfu w2 hF2; have qy := hyc w2 hF2; have HF2 := Lib.hid hF2; clear hF2 hF2') | (go_at_call 64; refine hfu2.mono ?_; rintro e w' ⟨rfl, rfl⟩))
                      go_quiet ((go_at_call 70; first | (with_reducible exact Calls.quiet_of_same (h0q _ (HF2.out.drewN _))) | (with_reducible exact Calls.quiet_of_same (h7q _ (HF2.out.drewN _)))))
                      go_wp2_with fail
                      go_ret
                      exact ⟨ret1 (vb (by rw [HV.out, HS.out]; simp; omega)), by first | exact (HF2.out.drewN _).drewN _ | exact (HF2.out.drewN _).drew | exact HF2.out.drewN _ | exact HF2.out⟩
            · have hy71 : (yc == cl) = false := by simpa using hy7
              have HS : Hid (supOk os root up = false) := Lib.hid (by rw [HSU.out, l1, hno, hy71]; rfl)
              clear hno l1
              cases o2 with
              | false =>
                go_enter Tryz.func53, Tryz.ntmps53
                go_wp2_with (first | (go_at_call 64; refine hfd.mono ?_; rintro e w' ⟨rfl, rfl⟩))
                go_quiet ((go_at_call 70; exact Calls.quiet_of_same ((h7 _ ((Fr.refl _ _).drewN _)).mono (fun _ _ h => ⟨h.1, h.2.symm⟩))))
                go_wp2_with (first | (go_at_call 71; (with_reducible refine (hn2 _ ?_).mono ?_); exact ((Fr.refl _ _).drewN _); rintro e w' ⟨rfl, rfl⟩) | (go_at_call 71; (with_reducible refine (hn3 _ ?_).mono ?_); exact ((Fr.refl _ _).drewN _); rintro e w' ⟨rfl, rfl⟩) | (go_at_call 54; (with_reducible refine (hdi _ ?_).mono ?_); exact ((Fr.refl _ _).drewN _); rintro e w2 ⟨da, dn, dc, rfl, hF2'⟩; have hF2 : Fr [] W w2 := ((Fr.refl [] W).drewN _).trans hF2'; have q2 := hF2.cell (by simp) p2; have q0 := hF2.cell (by simp) hc; have hfu2 := hfu w2 hF2; have qy := hyc w2 hF2; have HF2 := Lib.hid hF2; clear hF2 hF2') | (go_at_call 64; refine hfu2.mono ?_; rintro e w' ⟨rfl, rfl⟩))
                go_quiet ((go_at_call 70; first | (with_reducible exact Calls.quiet_of_same (h0q _ (HF2.out.drewN _))) | (with_reducible exact Calls.quiet_of_same (h7q _ (HF2.out.drewN _)))))
                go_wp2_with fail
                go_ret
                exact ⟨ret1 (vb (by rw [HV.out, HS.out]; simp)), by first | exact (HF2.out.drewN _).drewN _ | exact (HF2.out.drewN _).drew | exact HF2.out.drewN _ | exact HF2.out⟩
              | true =>
                cases o3 with
                | false =>
                  go_enter Tryz.func53, Tryz.ntmps53
                  go_wp2_with (first | (go_at_call 64; refine hfd.mono ?_; rintro e w' ⟨rfl, rfl⟩))
                  go_quiet ((go_at_call 70; exact Calls.quiet_of_same ((h7 _ ((Fr.refl _ _).drewN _)).mono (fun _ _ h => ⟨h.1, h.2.symm⟩))))
                  go_wp2_with (first | (go_at_call 71; (with_reducible refine (hn2 _ ?_).mono ?_); exact ((Fr.refl _ _).drewN _); rintro e w' ⟨rfl, rfl⟩) | (go_at_call 71; (with_reducible refine (hn3 _ ?_).mono ?_); exact ((Fr.refl _ _).drewN _); rintro e w' ⟨rfl, rfl⟩) | (go_at_call 54; (with_reducible refine (hdi _ ?_).mono ?_); exact ((Fr.refl _ _).drewN _); rintro e w2 ⟨da, dn, dc, rfl, hF2'⟩; have hF2 : Fr [] W w2 := ((Fr.refl [] W).drewN _).trans hF2'; have q2 := hF2.cell (by simp) p2; have q0 := hF2.cell (by simp) hc; have hfu2 := hfu w2 hF2; have qy := hyc w2 hF2; have HF2 := Lib.hid hF2; clear hF2 hF2') | (go_at_call 64; refine hfu2.mono ?_; rintro e w' ⟨rfl, rfl⟩))
                  go_quiet ((go_at_call 70; first | (with_reducible exact Calls.quiet_of_same (h0q _ (HF2.out.drewN _))) | (with_reducible exact Calls.quiet_of_same (h7q _ (HF2.out.drewN _)))))
                  go_wp2_with fail
                  go_ret
                  exact ⟨ret1 (vb (by rw [HV.out, HS.out]; simp)), by first | exact (HF2.out.drewN _).drewN _ | exact (HF2.out.drewN _).drew | exact HF2.out.drewN _ | exact HF2.out⟩
                | true =>
                  cases bd with
                  | false =>
                    go_enter Tryz.func53, Tryz.ntmps53
                    go_wp2_with (first | (go_at_call 64; refine hfd.mono ?_; rintro e w' ⟨rfl, rfl⟩))
                    go_quiet ((go_at_call 70; exact Calls.quiet_of_same ((h7 _ ((Fr.refl _ _).drewN _)).mono (fun _ _ h => ⟨h.1, h.2.symm⟩))))
                    go_wp2_with (first | (go_at_call 71; (with_reducible refine (hn2 _ ?_).mono ?_); exact ((Fr.refl _ _).drewN _); rintro e w' ⟨rfl, rfl⟩) | (go_at_call 71; (with_reducible refine (hn3 _ ?_).mono ?_); exact ((Fr.refl _ _).drewN _); rintro e w' ⟨rfl, rfl⟩) | (go_at_call 54; (with_reducible refine (hdi _ ?_).mono ?_); exact ((Fr.refl _ _).drewN _); rintro e w2 ⟨da, dn, dc, rfl, hF2'⟩; have hF2 : Fr [] W w2 := ((Fr.refl [] W).drewN _).trans hF2'; have q2 := hF2.cell (by simp) p2; have q0 := hF2.cell (by simp) hc; have hfu2 := hfu w2 hF2; have qy := hyc w2 hF2; have HF2 := Lib.hid hF2; clear hF2 hF2') | (go_at_call 64; refine hfu2.mono ?_; rintro e w' ⟨rfl, rfl⟩))
                    go_quiet ((go_at_call 70; first | (with_reducible exact Calls.quiet_of_same (h0q _ (HF2.out.drewN _))) | (with_reducible exact Calls.quiet_of_same (h7q _ (HF2.out.drewN _)))))
                    go_wp2_with fail
                    go_ret
                    exact ⟨ret1 (vb (by rw [HV.out, HS.out]; simp)), by first | exact (HF2.out.drewN _).drewN _ | exact (HF2.out.drewN _).drew | exact HF2.out.drewN _ | exact HF2.out⟩
                  | true =>
                    go_enter Tryz.func53, Tryz.ntmps53
                    go_wp2_with (first | (go_at_call 64; refine hfd.mono ?_; rintro e w' ⟨rfl, rfl⟩))
                    go_quiet ((go_at_call 70; exact Calls.quiet_of_same ((h7 _ ((Fr.refl _ _).drewN _)).mono (fun _ _ h => ⟨h.1, h.2.symm⟩))))
                    go_wp2_with (first | (go_at_call 71; (with_reducible refine (hn2 _ ?_).mono ?_); exact ((Fr.refl _ _).drewN _); rintro e w' ⟨rfl, rfl⟩) | (go_at_call 71; (with_reducible refine (hn3 _ ?_).mono ?_); exact ((Fr.refl _ _).drewN _); rintro e w' ⟨rfl, rfl⟩) | (go_at_call 54; (with_reducible refine (hdi _ ?_).mono ?_); exact ((Fr.refl _ _).drewN _); rintro e w2 ⟨da, dn, dc, rfl, hF2'⟩; have hF2 : Fr [] W w2 := ((Fr.refl [] W).drewN _).trans hF2'; have q2 := hF2.cell (by simp) p2; have q0 := hF2.cell (by simp) hc; have hfu2 := hfu w2 hF2; have qy := hyc w2 hF2; have HF2 := Lib.hid hF2; clear hF2 hF2') | (go_at_call 64; refine hfu2.mono ?_; rintro e w' ⟨rfl, rfl⟩))
                    go_quiet ((go_at_call 70; first | (with_reducible exact Calls.quiet_of_same (h0q _ (HF2.out.drewN _))) | (with_reducible exact Calls.quiet_of_same (h7q _ (HF2.out.drewN _)))))
                    go_wp2_with fail
                    go_ret
                    exact ⟨ret1 (vb (by rw [HV.out, HS.out]; simp)), by first | exact (HF2.out.drewN _).drewN _ | exact (HF2.out.drewN _).drew | exact HF2.out.drewN _ | exact HF2.out⟩
      · have HV : Hid (isClsB os root x = false) := Lib.hid (by unfold isClsB; rw [hsz, show (n == 4) = false by simpa using hn4]; rfl)
        have hn4' : ((n : Int) == 4) = false := by simp; omega
        clear h hfi hz0 hz7 hio hsz hcl7 hfs hW hn hcl
        subst hc7
        go_enter Tryz.func53, Tryz.ntmps53
        go_wp2_with (first | (go_at_call 64; refine hfd.mono ?_; rintro e w' ⟨rfl, rfl⟩))
        go_quiet ((go_at_call 70; exact Calls.quiet_of_same ((h7 _ ((Fr.refl _ _).drewN _)).mono (fun _ _ h => ⟨h.1, h.2.symm⟩))))
        go_wp2_with fail
        go_ret
        exact ⟨ret1 (by rw [HV.out]; rfl), by first | exact Fr.refl _ _ | exact (Fr.refl _ _).drewN _⟩
    · have HV : Hid (isClsB os root x = false) := Lib.hid (by unfold isClsB; rw [hcl7, show (cl == z7) = false by simpa using hc7]; simp)
      have hc7' : (cl == z7) = false := by simpa using hc7
      have hc7n : (cl != z7) = true := by simpa using hc7
      have hc7d : decide (cl = z7) = false := by simpa using hc7
      clear h hfi hz0 hz7 hio hsz hcl7 hfs hW hn hcl
      go_enter Tryz.func53, Tryz.ntmps53
      go_wp2_with (first | (go_at_call 64; refine hfd.mono ?_; rintro e w' ⟨rfl, rfl⟩))
      go_quiet ((go_at_call 70; exact Calls.quiet_of_same ((h7 _ ((Fr.refl _ _).drewN _)).mono (fun _ _ h => ⟨h.1, h.2.symm⟩))))
      go_wp2_with fail
      go_ret
      exact ⟨ret1 (by rw [HV.out]; rfl), by first | exact Fr.refl _ _ | exact (Fr.refl _ _).drewN _⟩
end
end Go.Proofs.YtofhgfgipdokbaaGreatDoor
