/- Classes of a heap, as plain lists of objects: the specials, what a class says, its dictionary, a method looked up. Plain, of no program. Any word asked of a heap: its class, its size, its fields; and package class's Special, isOf, isNone, isSelector. -/
import Derived.Test.YtofhgfgipdokbaaGreatDoorMPlain
import Derived.Test.YtofhgfgipdokbaaGreatDoorMCodeA
import Derived.Test.YtofhgfgipdokbaaGreatDoorMSnaps
namespace Go.Proofs.YtofhgfgipdokbaaGreatDoor

/-- a field of the object at a word -/
def fieldAt (os : List Ob) (x : Int) (j : Nat) : Int := match lookP 1 os x with | some o => o.2.2[j]?.getD 0 | none => 0
/-- one of the specials -/
def specK (os : List Ob) (root k : Int) : Int := if k < 0 ∨ 20 ≤ k then 0 else fieldAt os root k.toNat
def sizeAt (os : List Ob) (x : Int) : Nat := match lookP 1 os x with | some o => o.2.2.length | none => 0
/-- is a word an object of a special class? -/
def isOfB (os : List Ob) (root x k : Int) : Bool := match lookP 1 os x with | some o => o.1 == specK os root k | none => false
def isNoneB (os : List Ob) (root x : Int) : Bool := x != 0 && x == specK os root 0
def isSelB (os : List Ob) (root x : Int) : Bool := (lookP 1 os x).isSome && x != specK os root 0
/-- the dictionary that a class names, 0 for none -/
def dictOk (os : List Ob) (root x : Int) : Bool := isNoneB os root x || (isOfB os root x 8 && sizeAt os x % 2 == 0)
def dictV (os : List Ob) (root x : Int) : Int := if isNoneB os root x then 0 else if isOfB os root x 8 && sizeAt os x % 2 == 0 then x else 0
/-- what a class says -/
structure Frm where
  super : Int
  dict : Int
  fields : Int
  more : Bool
def supOk (os : List Ob) (root x : Int) : Bool := isOfB os root x 7 || isNoneB os root x
def numOk (x lim : Int) : Bool := odd x && decide (0 ≤ intOfW x) && decide (intOfW x ≤ lim)
/-- is a word a class? -/
def isClsB (os : List Ob) (root x : Int) : Bool :=
  sizeAt os x == 4 && isOfB os root x 7 && supOk os root (fieldAt os x 0) && dictOk os root (fieldAt os x 1) && numOk (fieldAt os x 2) 64 && numOk (fieldAt os x 3) 1
def frmOf (os : List Ob) (root x : Int) : Frm := ⟨fieldAt os x 0, dictV os root (fieldAt os x 1), intOfW (fieldAt os x 2), intOfW (fieldAt os x 3) == 1⟩
/-- the fields of a word's object -/
def fsAt (os : List Ob) (x : Int) : List Int := match lookP 1 os x with | some o => o.2.2 | none => []
/-- pairs out of fields, from the field k on: the first one with a selector -/
def findFrom (s : Int) : Nat → List Int → Option Nat
  | k, a :: _ :: l => if a = s then some k else findFrom s (k + 2) l
  | k, [a] => if a = s then some k else none
  | _, [] => none
def findK (os : List Ob) (d s : Int) : Option Nat := findFrom s 0 (fsAt os d)
/-- a method looked up, in at most n classes -/
def lookN (os : List Ob) (root s : Int) : Nat → Int → Option Int
  | 0, _ => none
  | n + 1, c => if isClsB os root c then (match findK os (frmOf os root c).dict s with | some k => some (fieldAt os (frmOf os root c).dict (k + 1)) | none => lookN os root s n (frmOf os root c).super) else none
def lookM (os : List Ob) (root c s : Int) : Option Int := if isSelB os root s then lookN os root s (endOf os) c else none
theorem fieldAt_of {os : List Ob} {x : Int} {o : Ob} (h : lookP 1 os x = some o) (j : Nat) : fieldAt os x j = o.2.2[j]?.getD 0 := by unfold fieldAt; rw [h]
theorem fsAt_of {os : List Ob} {x : Int} {o : Ob} (h : lookP 1 os x = some o) : fsAt os x = o.2.2 := by unfold fsAt; rw [h]
theorem sizeAt_of {os : List Ob} {x : Int} {o : Ob} (h : lookP 1 os x = some o) : sizeAt os x = o.2.2.length := by unfold sizeAt; rw [h]
theorem isOfB_of {os : List Ob} {root x k : Int} {o : Ob} (h : lookP 1 os x = some o) : isOfB os root x k = (o.1 == specK os root k) := by unfold isOfB; rw [h]
theorem fsAt_len (os : List Ob) (x : Int) : (fsAt os x).length = sizeAt os x := by unfold fsAt sizeAt; split <;> rfl
theorem fieldAt_fs (os : List Ob) (x : Int) (j : Nat) : fieldAt os x j = (fsAt os x)[j]?.getD 0 := by unfold fsAt fieldAt; split <;> rfl
end Go.Proofs.YtofhgfgipdokbaaGreatDoor
namespace Go.Proofs.YtofhgfgipdokbaaGreatDoor
open Go.RowKit

/-- a heap that holds these objects -/
structure HpAt (W : World) (hb mb : Nat) (lim : Int) (os : List Ob) (root hashes : Int) (wv sv : Value) : Prop where
  glob : Glob W
  inv : OInv lim os hashes
  heap : HeapAt W hb mb (absMem lim os root hashes) wv sv
  root : WB root
section
variable {W : World} {hb mb : Nat} {lim root hashes : Int} {os : List Ob} {wv sv : Value}
theorem kobj (hI : OInv lim os hashes) (hH : HeapAt W hb mb (absMem lim os root hashes) wv sv) {x : Int} {o : Ob} (ho : lookP 1 os x = some o) :
    Calls Tryz.prog 108 #[.pointer (some ⟨hb, 0, none⟩), .int .u64 x] W (Still (.tuple #[.int .u64 o.1, .int .i64 0]) W) ∧
    Calls Tryz.prog 98 #[.pointer (some ⟨hb, 0, none⟩), .int .u64 x] W (Still (.tuple #[.int .i64 o.2.2.length, .int .i64 0]) W) ∧
    ∀ (j : Nat) (v : Int), o.2.2[j]? = some v → Calls Tryz.prog 88 #[.pointer (some ⟨hb, 0, none⟩), .int .u64 x, .int .i64 j] W (Still (.tuple #[.int .u64 v, .int .i64 0]) W) := by
  obtain ⟨pre, post, rfl, rfl⟩ := lookP_split ho
  have h1 := endOf_lt pre post o
  have h2 := hI.fit
  have h3 := hI.l2
  have h4 : (1 + (flatW pre).length) = endOf pre := rfl
  rw [h4]
  have h5 := endOf_pos pre
  refine ⟨class_yes (memory_at hH) _ _ abs_mark h5 (by omega) abs_cls, size_yes (memory_at hH) _ _ abs_mark h5 (by omega) abs_size (by omega), fun j v hv => ?_⟩
  have hj := (List.getElem?_eq_some_iff.1 hv).1
  exact fetch_yes (memory_at hH) _ _ j v abs_mark h5 abs_size (by omega) hj (by rw [abs_field j hj]; exact hv)
theorem HpAt.fr0 {W' : World} (h : HpAt W hb mb lim os root hashes wv sv) (hF : Fr [] W W') : HpAt W' hb mb lim os root hashes wv sv :=
  ⟨h.glob.fr hF, h.inv, h.heap.fr hF (by simp) (fun _ _ => by simp), h.root⟩
theorem HpAt.le (h : HpAt W hb mb lim os root hashes wv sv) : endOf os ≤ 65536 := by have := h.inv.fit; have := h.inv.l2; omega
theorem HpAt.no (h : HpAt W hb mb lim os root hashes wv sv) {x : Int} (hx : lookP 1 os x = none) : stB (absMem lim os root hashes).M x = false := by
  show stB (marksOf os) x = false
  rw [stB_look h.le, hx]; rfl
/-- the number of fields, and is there an object? -/
def sizeE (os : List Ob) (x : Int) : Int := if (lookP 1 os x).isSome then 0 else 1
def clsV (os : List Ob) (x : Int) : Int := match lookP 1 os x with | some o => o.1 | none => 0
def fieldE (os : List Ob) (x j : Int) : Int := if 0 ≤ j ∧ j < sizeAt os x then 0 else 1
def fieldV (os : List Ob) (x j : Int) : Int := if 0 ≤ j ∧ j < sizeAt os x then fieldAt os x j.toNat else 0
theorem ksize (h : HpAt W hb mb lim os root hashes wv sv) (x : Int) (hx : WB x) : Calls Tryz.prog 98 #[.pointer (some ⟨hb, 0, none⟩), .int .u64 x] W (Still (.tuple #[.int .i64 (sizeAt os x), .int .i64 (sizeE os x)]) W) := by
  cases ho : lookP 1 os x with
  | none =>
    have := size_no (memory_at h.heap) h.glob x hx.1 hx.2 (h.no ho)
    unfold sizeAt sizeE
    rw [ho]
    exact this
  | some o =>
    have := (kobj h.inv h.heap ho).2.1
    unfold sizeAt sizeE
    rw [ho]
    exact this
theorem kclass (h : HpAt W hb mb lim os root hashes wv sv) (x : Int) (hx : WB x) : Calls Tryz.prog 108 #[.pointer (some ⟨hb, 0, none⟩), .int .u64 x] W (Still (.tuple #[.int .u64 (clsV os x), .int .i64 (sizeE os x)]) W) := by
  cases ho : lookP 1 os x with
  | none =>
    have := class_no (memory_at h.heap) h.glob x hx.1 hx.2 (h.no ho)
    unfold clsV sizeE
    rw [ho]
    exact this
  | some o =>
    have := (kobj h.inv h.heap ho).1
    unfold clsV sizeE
    rw [ho]
    exact this
theorem kfetch (h : HpAt W hb mb lim os root hashes wv sv) (x j : Int) (hx : WB x) (j1 : -9223372036854775808 ≤ j) (j2 : j ≤ 9223372036854775807) : Calls Tryz.prog 88 #[.pointer (some ⟨hb, 0, none⟩), .int .u64 x, .int .i64 j] W (Still (.tuple #[.int .u64 (fieldV os x j), .int .i64 (fieldE os x j)]) W) := by
  cases ho : lookP 1 os x with
  | none =>
    have := fetch_no (memory_at h.heap) h.glob x j hx.1 hx.2 (h.no ho)
    have e : sizeAt os x = 0 := by unfold sizeAt; rw [ho]
    unfold fieldV fieldE
    rw [e, if_neg (by omega), if_neg (by omega)]
    exact this
  | some o =>
    have e : sizeAt os x = o.2.2.length := sizeAt_of ho
    unfold fieldV fieldE
    rw [e]
    by_cases hj : 0 ≤ j ∧ j < o.2.2.length
    · rw [if_pos hj, if_pos hj, fieldAt_of ho]
      obtain ⟨k, rfl⟩ : ∃ k : Nat, j = k := ⟨j.toNat, by omega⟩
      have hk : k < o.2.2.length := by omega
      have := (kobj h.inv h.heap ho).2.2 k _ (List.getElem?_eq_getElem hk)
      rw [Int.toNat_natCast, List.getElem?_eq_getElem hk]
      exact this
    · rw [if_neg hj, if_neg hj]
      obtain ⟨pre, post, rfl, rfl⟩ := lookP_split ho
      have h1 := endOf_lt pre post o
      have h2 := h.le
      exact fetch_far (memory_at h.heap) h.glob (endOf pre) o.2.2.length j abs_mark (endOf_pos pre) abs_size (by omega) (by omega) j1 j2
theorem khas (h : HpAt W hb mb lim os root hashes wv sv) (x : Int) (hx : WB x) : Calls Tryz.prog 82 #[.pointer (some ⟨hb, 0, none⟩), .int .u64 x] W (Still (.bool (lookP 1 os x).isSome) W) := by
  have := has_still (memory_at h.heap) x hx.1 hx.2
  rw [show (absMem lim os root hashes).M = marksOf os from rfl, stB_look h.le] at this
  exact this
theorem kroot (h : HpAt W hb mb lim os root hashes wv sv) : Calls Tryz.prog 97 #[.pointer (some ⟨hb, 0, none⟩)] W (Still (.int .u64 root) W) := root_still (memory_at h.heap)
theorem kused (h : HpAt W hb mb lim os root hashes wv sv) : Calls Tryz.prog 85 #[.pointer (some ⟨hb, 0, none⟩)] W (Still (.int .i64 (endOf os : Int)) W) := by
  have := used_still (memory_at h.heap)
  rw [(absMem_len lim os root hashes).1] at this
  exact this
/-! words are words -/
theorem wb_zero : WB 0 := ⟨by omega, by omega⟩
theorem HpAt.field (h : HpAt W hb mb lim os root hashes wv sv) (x : Int) (j : Nat) : WB (fieldAt os x j) := by
  unfold fieldAt
  split
  · next o ho =>
    cases hj : o.2.2[j]? with
    | none => exact wb_zero
    | some v => exact (h.inv.bd o (lookP_mem ho)).2 v (List.mem_of_getElem? hj)
  · exact wb_zero
theorem HpAt.fieldV (h : HpAt W hb mb lim os root hashes wv sv) (x j : Int) : WB (fieldV os x j) := by
  unfold Go.Proofs.YtofhgfgipdokbaaGreatDoor.fieldV
  split
  · exact h.field _ _
  · exact wb_zero
theorem HpAt.cls (h : HpAt W hb mb lim os root hashes wv sv) (x : Int) : WB (clsV os x) := by
  unfold clsV
  split
  · next o ho => exact (h.inv.bd o (lookP_mem ho)).1
  · exact wb_zero
theorem specK_eq (os : List Ob) (root k : Int) : specK os root k = if k < 0 ∨ 20 ≤ k then 0 else fieldV os root k := by
  unfold specK fieldV
  split
  · rfl
  · split
    · rfl
    · next h1 h2 =>
      unfold fieldAt
      split
      · next o ho =>
        rw [sizeAt_of ho] at h2
        rw [List.getElem?_eq_none (by omega)]
        rfl
      · rfl
/-! Special -/
set_option maxRecDepth 100000 in
theorem kspecial (h : HpAt W hb mb lim os root hashes wv sv) (k : Int) (k1 : -9223372036854775808 ≤ k) (k2 : k ≤ 9223372036854775807) : Calls Tryz.prog 83 #[.pointer (some ⟨hb, 0, none⟩), .int .i64 k] W (Still (.int .u64 (specK os root k)) W) := by
  rw [specK_eq]
  by_cases hk : k < 0 ∨ 20 ≤ k
  · rw [if_pos hk]
    clear h
    rcases hk with hk | hk
    · go_enter Tryz.func83, Tryz.ntmps83
      go_wp2
      go_ret
      exact ⟨rfl, Fr.refl _ _⟩
    · have hk' : ¬ k < 0 := by omega
      go_enter Tryz.func83, Tryz.ntmps83
      go_wp2
      go_ret
      exact ⟨rfl, Fr.refl _ _⟩
  · rw [if_neg hk]
    have hr := kroot h
    have hf := fun w' (hF : Fr [] W w') => kfetch (h.fr0 hF) root k h.root k1 k2
    generalize fieldV os root k = V at *
    generalize fieldE os root k = E at *
    have c1 : ¬ k < 0 := by omega
    have c2 : ¬ 20 ≤ k := by omega
    clear h hk
    go_enter Tryz.func83, Tryz.ntmps83
    go_wp2_with (first
      | (go_at_call 97; refine hr.mono ?_; rintro e w1 ⟨rfl, hF1⟩; have HF1 := Lib.hid hF1; clear hF1)
      | (go_at_call 88; refine (hf _ HF1.out).mono ?_; rintro e w2 ⟨rfl, hF2⟩; have HF2 := Lib.hid (HF1.out.trans hF2); clear hF2))
    go_ret
    exact ⟨rfl, HF2.out⟩
end
end Go.Proofs.YtofhgfgipdokbaaGreatDoor
