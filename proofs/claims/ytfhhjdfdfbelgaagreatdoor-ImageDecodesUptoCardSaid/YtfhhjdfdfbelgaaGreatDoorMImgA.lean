/- An image as a list of bytes: numbers, objects, what a list of bytes is decoded to. Plain, of no program. The bytes of an image: appendNumbers, encodedLength, encoded. -/
import Derived.Test.YtfhhjdfdfbelgaaGreatDoorMBase
import Derived.Test.YtfhhjdfdfbelgaaGreatDoorMLists
import Derived.Test.YtfhhjdfdfbelgaaGreatDoorMLoading
import Derived.Test.YtfhhjdfdfbelgaaGreatDoorMPlaces
import Derived.Lib.AppendStr
import Derived.Laws.ShiftsVarLaws
import Derived.Laws.Tables
namespace Go.Proofs.YtfhhjdfdfbelgaaGreatDoor
open Go.RowKit

/-- the bytes of a number, least first -/
def b8 (x : Int) : List Int := [x % 256, x / 256 % 256, x / 65536 % 256, x / 16777216 % 256, x / 4294967296 % 256, x / 1099511627776 % 256, x / 281474976710656 % 256, x / 72057594037927936 % 256]
def n8 (a b c d e f g h : Int) : Int := a + 256 * b + 65536 * c + 16777216 * d + 4294967296 * e + 1099511627776 * f + 281474976710656 * g + 72057594037927936 * h
def B (x : Int) : Prop := 0 ≤ x ∧ x ≤ 255
theorem b8_len (x : Int) : (b8 x).length = 8 := rfl
theorem b8_byte (x : Int) : ∀ y ∈ b8 x, B y := by
  intro y hy
  simp only [b8, List.mem_cons, List.not_mem_nil, or_false] at hy
  unfold B
  omega
theorem n8_b8 {x : Int} (h1 : 0 ≤ x) (h2 : x ≤ 18446744073709551615) : n8 (x % 256) (x / 256 % 256) (x / 65536 % 256) (x / 16777216 % 256) (x / 4294967296 % 256) (x / 1099511627776 % 256) (x / 281474976710656 % 256) (x / 72057594037927936 % 256) = x := by
  unfold n8; omega
theorem n8_bd {a b c d e f g h : Int} (ha : B a) (hb : B b) (hc : B c) (hd : B d) (he : B e) (hf : B f) (hg : B g) (hh : B h) : 0 ≤ n8 a b c d e f g h ∧ n8 a b c d e f g h ≤ 18446744073709551615 := by
  unfold n8; unfold B at *; omega
theorem b8_n8 {a b c d e f g h : Int} (ha : B a) (hb : B b) (hc : B c) (hd : B d) (he : B e) (hf : B f) (hg : B g) (hh : B h) : b8 (n8 a b c d e f g h) = [a, b, c, d, e, f, g, h] := by
  unfold b8 n8; unfold B at *
  have e0 : (a + 256 * b + 65536 * c + 16777216 * d + 4294967296 * e + 1099511627776 * f + 281474976710656 * g + 72057594037927936 * h) % 256 = a := by omega
  have e1 : (a + 256 * b + 65536 * c + 16777216 * d + 4294967296 * e + 1099511627776 * f + 281474976710656 * g + 72057594037927936 * h) / 256 % 256 = b := by omega
  have e2 : (a + 256 * b + 65536 * c + 16777216 * d + 4294967296 * e + 1099511627776 * f + 281474976710656 * g + 72057594037927936 * h) / 65536 % 256 = c := by omega
  have e3 : (a + 256 * b + 65536 * c + 16777216 * d + 4294967296 * e + 1099511627776 * f + 281474976710656 * g + 72057594037927936 * h) / 16777216 % 256 = d := by omega
  have e4 : (a + 256 * b + 65536 * c + 16777216 * d + 4294967296 * e + 1099511627776 * f + 281474976710656 * g + 72057594037927936 * h) / 4294967296 % 256 = e := by omega
  have e5 : (a + 256 * b + 65536 * c + 16777216 * d + 4294967296 * e + 1099511627776 * f + 281474976710656 * g + 72057594037927936 * h) / 1099511627776 % 256 = f := by omega
  have e6 : (a + 256 * b + 65536 * c + 16777216 * d + 4294967296 * e + 1099511627776 * f + 281474976710656 * g + 72057594037927936 * h) / 281474976710656 % 256 = g := by omega
  have e7 : (a + 256 * b + 65536 * c + 16777216 * d + 4294967296 * e + 1099511627776 * f + 281474976710656 * g + 72057594037927936 * h) / 72057594037927936 % 256 = h := by omega
  rw [e0, e1, e2, e3, e4, e5, e6, e7]
/-- the number of 8 bytes -/
def numB (l : List Int) : Int := n8 (l.getD 0 0) (l.getD 1 0) (l.getD 2 0) (l.getD 3 0) (l.getD 4 0) (l.getD 5 0) (l.getD 6 0) (l.getD 7 0)
/-- the next number, and what is left -/
def rdN (l : List Int) : Option (Int × List Int) := if l.length < 8 then none else some (numB l, l.drop 8)
theorem numB_app {x : Int} (h1 : 0 ≤ x) (h2 : x ≤ 18446744073709551615) (r : List Int) : numB (b8 x ++ r) = x := n8_b8 h1 h2
theorem rdN_app {x : Int} (h1 : 0 ≤ x) (h2 : x ≤ 18446744073709551615) (r : List Int) : rdN (b8 x ++ r) = some (x, r) := by
  unfold rdN
  rw [if_neg (by simp [b8_len]), numB_app h1 h2, List.drop_append_of_le_length (by simp [b8_len])]
  rfl
theorem list8 {l : List Int} (h : 8 ≤ l.length) : ∃ a b c d e f g i r, l = a :: b :: c :: d :: e :: f :: g :: i :: r := by
  match l, h with
  | a :: b :: c :: d :: e :: f :: g :: i :: r, _ => exact ⟨a, b, c, d, e, f, g, i, r, rfl⟩
theorem rdN_inv {l r : List Int} {x : Int} (hb : ∀ y ∈ l, B y) (h : rdN l = some (x, r)) : l = b8 x ++ r ∧ 0 ≤ x ∧ x ≤ 18446744073709551615 := by
  unfold rdN at h
  split at h
  · cases h
  · next hl =>
    obtain ⟨a, b, c, d, e, f, g, i, q, rfl⟩ := list8 (l := l) (by omega)
    obtain ⟨h1, h2⟩ := Prod.mk.inj (Option.some.inj h)
    have hx : x = n8 a b c d e f g i := h1.symm
    have hr : r = q := h2.symm
    subst hx
    subst hr
    have H : B a ∧ B b ∧ B c ∧ B d ∧ B e ∧ B f ∧ B g ∧ B i := ⟨hb _ (by simp), hb _ (by simp), hb _ (by simp), hb _ (by simp), hb _ (by simp), hb _ (by simp), hb _ (by simp), hb _ (by simp)⟩
    obtain ⟨q0, q1, q2, q3, q4, q5, q6, q7⟩ := H
    refine ⟨?_, n8_bd q0 q1 q2 q3 q4 q5 q6 q7⟩
    rw [b8_n8 q0 q1 q2 q3 q4 q5 q6 q7]
    rfl
/-- so many numbers -/
def rdNs : Nat → List Int → Option (List Int × List Int)
  | 0, l => some ([], l)
  | n + 1, l => match rdN l with
    | none => none
    | some (x, r) => match rdNs n r with
      | none => none
      | some (xs, q) => some (x :: xs, q)
theorem rdNs_app : ∀ (xs : List Int) (_ : ∀ x ∈ xs, 0 ≤ x ∧ x ≤ 18446744073709551615) (r : List Int), rdNs xs.length (xs.flatMap b8 ++ r) = some (xs, r)
  | [], _, _ => rfl
  | x :: xs, h, r => by
    have hx := h x (by simp)
    have ih := rdNs_app xs (fun y hy => h y (by simp [hy])) r
    simp only [List.flatMap_cons, List.length_cons, List.append_assoc]
    rw [rdNs, rdN_app hx.1 hx.2]
    simp only [ih]
theorem rdNs_inv : ∀ (n : Nat) (l : List Int) (_ : ∀ y ∈ l, B y) (xs r : List Int), rdNs n l = some (xs, r) → l = xs.flatMap b8 ++ r ∧ xs.length = n ∧ ∀ x ∈ xs, 0 ≤ x ∧ x ≤ 18446744073709551615
  | 0, l, _, xs, r, h => by
    obtain ⟨h1, h2⟩ := Prod.mk.inj (Option.some.inj h)
    subst h1
    subst h2
    exact ⟨rfl, rfl, fun x h => by cases h⟩
  | n + 1, l, hb, xs, r, h => by
    rw [rdNs] at h
    cases h1 : rdN l with
    | none => simp [h1] at h
    | some p =>
      obtain ⟨x, q⟩ := p
      obtain ⟨e1, e2, e3⟩ := rdN_inv hb h1
      simp only [h1] at h
      cases h2 : rdNs n q with
      | none => simp [h2] at h
      | some p2 =>
        obtain ⟨ys, q2⟩ := p2
        simp only [h2] at h
        obtain ⟨h3, h4⟩ := Prod.mk.inj (Option.some.inj h)
        subst h3
        subst h4
        obtain ⟨i1, i2, i3⟩ := rdNs_inv n q (fun y hy => hb y (by rw [e1]; simp [hy])) ys q2 h2
        refine ⟨by rw [e1, i1]; simp, by simp [i2], fun z hz => ?_⟩
        rcases List.mem_cons.1 hz with rfl | hz
        · exact ⟨e2, e3⟩
        · exact i3 z hz
theorem rdNs_snoc : ∀ (n : Nat) (l : List Int), rdNs (n + 1) l = match rdNs n l with | none => none | some (xs, r) => match rdN r with | none => none | some (x, q) => some (xs ++ [x], q)
  | 0, l => by
    rw [rdNs]
    cases h1 : rdN l with
    | none => simp [rdNs, h1]
    | some p => obtain ⟨x, q⟩ := p; simp [rdNs, h1]
  | n + 1, l => by
    rw [rdNs]
    cases h1 : rdN l with
    | none => simp [rdNs, h1]
    | some p =>
      obtain ⟨x, q⟩ := p
      have ih := rdNs_snoc n q
      simp only [rdNs, h1] at ih ⊢
      rw [ih]
      cases h2 : rdNs n q with
      | none => rfl
      | some p2 =>
        obtain ⟨ys, q2⟩ := p2
        simp only
        cases h3 : rdN q2 with
        | none => rfl
        | some p3 => obtain ⟨z, q3⟩ := p3; rfl
theorem rdNs_some {n : Nat} {l xs r : List Int} (h : rdNs n l = some (xs, r)) : xs.length = n := by
  induction n generalizing l xs r with
  | zero => obtain ⟨h1, -⟩ := Prod.mk.inj (Option.some.inj h); rw [← h1]; rfl
  | succ n ih =>
    rw [rdNs_snoc] at h
    cases h1 : rdNs n l with
    | none => simp [h1] at h
    | some p =>
      obtain ⟨ys, q⟩ := p
      simp only [h1] at h
      cases h2 : rdN q with
      | none => simp [h2] at h
      | some p2 =>
        obtain ⟨x, q2⟩ := p2
        simp only [h2] at h
        obtain ⟨h3, -⟩ := Prod.mk.inj (Option.some.inj h)
        rw [← h3]; simp [ih h1]
/-- a number as one with a sign -/
def sgn (x : Int) : Int := if x < 9223372036854775808 then x else x - 18446744073709551616
/-- an object: class, hash, fields -/
def rdOb (l : List Int) : Option ((Int × Int × List Int) × List Int) := match rdNs 3 l with
  | none => none
  | some (xs, r) => if 512 < xs.getD 2 0 then none else match rdNs (xs.getD 2 0).toNat r with
    | none => none
    | some (fs, q) => some ((xs.getD 0 0, sgn (xs.getD 1 0), fs), q)
def rdObs : Nat → List Int → Option (List (Int × Int × List Int) × List Int)
  | 0, l => some ([], l)
  | n + 1, l => match rdOb l with
    | none => none
    | some (o, r) => match rdObs n r with
      | none => none
      | some (os, q) => some (o :: os, q)
theorem rdObs_snoc : ∀ (n : Nat) (l : List Int), rdObs (n + 1) l = match rdObs n l with | none => none | some (xs, r) => match rdOb r with | none => none | some (x, q) => some (xs ++ [x], q)
  | 0, l => by
    rw [rdObs]
    cases h1 : rdOb l with
    | none => simp [rdObs, h1]
    | some p => obtain ⟨x, q⟩ := p; simp [rdObs, h1]
  | n + 1, l => by
    rw [rdObs]
    cases h1 : rdOb l with
    | none => simp [rdObs, h1]
    | some p =>
      obtain ⟨x, q⟩ := p
      have ih := rdObs_snoc n q
      simp only [rdObs, h1] at ih ⊢
      rw [ih]
      cases h2 : rdObs n q with
      | none => rfl
      | some p2 =>
        obtain ⟨ys, q2⟩ := p2
        simp only
        cases h3 : rdOb q2 with
        | none => rfl
        | some p3 => obtain ⟨z, q3⟩ := p3; rfl
/-- what an image tells: root, hashes, objects; and what is left -/
def decQ (l : List Int) : Option ((Int × Int × List (Int × Int × List Int)) × List Int) :=
  if l.take 4 = [84, 80, 80, 84] then match rdNs 3 (l.drop 4) with
    | none => none
    | some (xs, r) => match rdObs (xs.getD 2 0).toNat r with
      | none => none
      | some (os, q) => some ((xs.getD 0 0, sgn (xs.getD 1 0), os), q)
  else none
def decI (l : List Int) : Option (Int × Int × List (Int × Int × List Int)) := match decQ l with
  | none => none
  | some (c, q) => if q = [] then some c else none
/-- the bytes of an object, of an image -/
def obB8 (o : Int × Int × List Int) : List Int := b8 o.1 ++ (b8 o.2.1 ++ (b8 o.2.2.length ++ o.2.2.flatMap b8))
def encI (root hashes : Int) (os : List (Int × Int × List Int)) : List Int := [84, 80, 80, 84] ++ (b8 root ++ (b8 hashes ++ (b8 os.length ++ os.flatMap obB8)))
def GoodOb (o : Int × Int × List Int) : Prop := (0 ≤ o.1 ∧ o.1 ≤ 18446744073709551615) ∧ (0 ≤ o.2.1 ∧ o.2.1 ≤ 9223372036854775807) ∧ o.2.2.length ≤ 512 ∧ ∀ x ∈ o.2.2, 0 ≤ x ∧ x ≤ 18446744073709551615
theorem three_app (a b c : Int) (ha : 0 ≤ a ∧ a ≤ 18446744073709551615) (hb : 0 ≤ b ∧ b ≤ 18446744073709551615) (hc : 0 ≤ c ∧ c ≤ 18446744073709551615) (r : List Int) : rdNs 3 (b8 a ++ (b8 b ++ (b8 c ++ r))) = some ([a, b, c], r) := by
  have := rdNs_app [a, b, c] (fun x hx => by simp at hx; rcases hx with rfl | rfl | rfl <;> assumption) r
  simpa using this
theorem sgn_id {x : Int} (h : x ≤ 9223372036854775807) : sgn x = x := by unfold sgn; rw [if_pos (by omega)]
theorem rdOb_app {o : Int × Int × List Int} (h : GoodOb o) (r : List Int) : rdOb (obB8 o ++ r) = some (o, r) := by
  obtain ⟨h1, h2, h3, h4⟩ := h
  obtain ⟨c, hs, fs⟩ := o
  simp only at h1 h2 h3 h4
  unfold rdOb obB8
  simp only [List.append_assoc]
  rw [three_app c hs fs.length h1 ⟨h2.1, by omega⟩ ⟨by omega, by omega⟩]
  simp only [List.getD_cons_zero, List.getD_cons_succ, Int.toNat_natCast]
  rw [if_neg (by omega), rdNs_app fs h4 r]
  simp only [sgn_id h2.2]
theorem rdObs_app : ∀ (os : List (Int × Int × List Int)) (_ : ∀ o ∈ os, GoodOb o) (r : List Int), rdObs os.length (os.flatMap obB8 ++ r) = some (os, r)
  | [], _, _ => rfl
  | o :: os, h, r => by
    have ih := rdObs_app os (fun y hy => h y (by simp [hy])) r
    simp only [List.flatMap_cons, List.length_cons, List.append_assoc]
    rw [rdObs, rdOb_app (h o (by simp))]
    simp only [ih]
theorem decQ_enc {root hashes : Int} {os : List (Int × Int × List Int)} (hr : 0 ≤ root ∧ root ≤ 18446744073709551615) (hh : 0 ≤ hashes ∧ hashes ≤ 9223372036854775807) (ho : ∀ o ∈ os, GoodOb o) (hn : os.length ≤ 65536) (x : List Int) : decQ (encI root hashes os ++ x) = some ((root, hashes, os), x) := by
  have e1 : (encI root hashes os ++ x).take 4 = [84, 80, 80, 84] := rfl
  have e2 : (encI root hashes os ++ x).drop 4 = b8 root ++ (b8 hashes ++ (b8 os.length ++ (os.flatMap obB8 ++ x))) := by
    show (b8 root ++ (b8 hashes ++ (b8 os.length ++ os.flatMap obB8))) ++ x = _
    simp only [List.append_assoc]
  unfold decQ
  rw [if_pos e1, e2, three_app root hashes os.length hr ⟨hh.1, by omega⟩ ⟨by omega, by omega⟩]
  simp only [List.getD_cons_zero, List.getD_cons_succ, Int.toNat_natCast]
  rw [rdObs_app os ho x]
  simp only [sgn_id hh.2]
/-- there and back -/
theorem dec_enc {root hashes : Int} {os : List (Int × Int × List Int)} (hr : 0 ≤ root ∧ root ≤ 18446744073709551615) (hh : 0 ≤ hashes ∧ hashes ≤ 9223372036854775807) (ho : ∀ o ∈ os, GoodOb o) (hn : os.length ≤ 65536) : decI (encI root hashes os) = some (root, hashes, os) := by
  have := decQ_enc hr hh ho hn []
  rw [List.append_nil] at this
  unfold decI
  rw [this]
  rfl
/-- more bytes -/
theorem dec_more {root hashes : Int} {os : List (Int × Int × List Int)} (hr : 0 ≤ root ∧ root ≤ 18446744073709551615) (hh : 0 ≤ hashes ∧ hashes ≤ 9223372036854775807) (ho : ∀ o ∈ os, GoodOb o) (hn : os.length ≤ 65536) {x : List Int} (hx : x ≠ []) : decI (encI root hashes os ++ x) = none := by
  unfold decI
  rw [decQ_enc hr hh ho hn x]
  simp only [if_neg hx]
theorem rdN_mono {l r : List Int} {x : Int} (t : List Int) (h : rdN l = some (x, r)) : rdN (l ++ t) = some (x, r ++ t) := by
  unfold rdN at h ⊢
  split at h
  · cases h
  · next hl =>
    obtain ⟨a, b, c, d, e, f, g, i, q, rfl⟩ := list8 (l := l) (by omega)
    obtain ⟨h1, h2⟩ := Prod.mk.inj (Option.some.inj h)
    rw [← h1, ← h2, if_neg (by simp)]
    rfl
theorem rdNs_mono : ∀ (n : Nat) (l xs r t : List Int), rdNs n l = some (xs, r) → rdNs n (l ++ t) = some (xs, r ++ t)
  | 0, l, xs, r, t, h => by
    obtain ⟨h1, h2⟩ := Prod.mk.inj (Option.some.inj h)
    rw [← h1, ← h2]; rfl
  | n + 1, l, xs, r, t, h => by
    rw [rdNs] at h ⊢
    cases h1 : rdN l with
    | none => simp [h1] at h
    | some p =>
      obtain ⟨x, q⟩ := p
      simp only [h1] at h
      rw [rdN_mono t h1]
      cases h2 : rdNs n q with
      | none => simp [h2] at h
      | some p2 =>
        obtain ⟨ys, q2⟩ := p2
        simp only [h2] at h
        obtain ⟨h3, h4⟩ := Prod.mk.inj (Option.some.inj h)
        simp only [rdNs_mono n q ys q2 t h2]
        rw [h3, h4]
theorem rdOb_mono {l r : List Int} {o : Int × Int × List Int} (t : List Int) (h : rdOb l = some (o, r)) : rdOb (l ++ t) = some (o, r ++ t) := by
  unfold rdOb at h ⊢
  cases h1 : rdNs 3 l with
  | none => simp [h1] at h
  | some p =>
    obtain ⟨xs, q⟩ := p
    simp only [h1] at h
    simp only [rdNs_mono 3 l xs q t h1]
    split at h
    · cases h
    · next hc =>
      rw [if_neg hc]
      cases h2 : rdNs (xs.getD 2 0).toNat q with
      | none => simp only [h2] at h; cases h
      | some p2 =>
        obtain ⟨fs, q2⟩ := p2
        simp only [h2] at h
        obtain ⟨h3, h4⟩ := Prod.mk.inj (Option.some.inj h)
        simp only [rdNs_mono _ q fs q2 t h2]
        rw [h3, h4]
theorem rdObs_mono : ∀ (n : Nat) (l : List Int) (os : List (Int × Int × List Int)) (r t : List Int), rdObs n l = some (os, r) → rdObs n (l ++ t) = some (os, r ++ t)
  | 0, l, os, r, t, h => by
    obtain ⟨h1, h2⟩ := Prod.mk.inj (Option.some.inj h)
    rw [← h1, ← h2]; rfl
  | n + 1, l, os, r, t, h => by
    rw [rdObs] at h ⊢
    cases h1 : rdOb l with
    | none => simp [h1] at h
    | some p =>
      obtain ⟨x, q⟩ := p
      simp only [h1] at h
      rw [rdOb_mono t h1]
      cases h2 : rdObs n q with
      | none => simp [h2] at h
      | some p2 =>
        obtain ⟨ys, q2⟩ := p2
        simp only [h2] at h
        obtain ⟨h3, h4⟩ := Prod.mk.inj (Option.some.inj h)
        simp only [rdObs_mono n q ys q2 t h2]
        rw [h3, h4]
theorem decQ_mono {l q : List Int} {c : Int × Int × List (Int × Int × List Int)} (t : List Int) (h : decQ l = some (c, q)) : decQ (l ++ t) = some (c, q ++ t) := by
  unfold decQ at h ⊢
  split at h
  · next hm =>
    have hl : 4 ≤ l.length := by
      have := congrArg List.length hm
      simp at this
      omega
    rw [List.take_append_of_le_length hl, if_pos hm, List.drop_append_of_le_length hl]
    cases h1 : rdNs 3 (l.drop 4) with
    | none => simp [h1] at h
    | some p =>
      obtain ⟨xs, r⟩ := p
      simp only [h1] at h
      simp only [rdNs_mono 3 _ xs r t h1]
      cases h2 : rdObs (xs.getD 2 0).toNat r with
      | none => simp only [h2] at h; cases h
      | some p2 =>
        obtain ⟨os, q2⟩ := p2
        simp only [h2] at h
        obtain ⟨h3, h4⟩ := Prod.mk.inj (Option.some.inj h)
        simp only [rdObs_mono _ r os q2 t h2]
        rw [h3, h4]
  · cases h
/-- fewer bytes -/
theorem dec_cut {root hashes : Int} {os : List (Int × Int × List Int)} (hr : 0 ≤ root ∧ root ≤ 18446744073709551615) (hh : 0 ≤ hashes ∧ hashes ≤ 9223372036854775807) (ho : ∀ o ∈ os, GoodOb o) (hn : os.length ≤ 65536) {k : Nat} (hk : k < (encI root hashes os).length) : decI ((encI root hashes os).take k) = none := by
  have h0 := decQ_enc hr hh ho hn []
  rw [List.append_nil] at h0
  unfold decI
  cases h : decQ ((encI root hashes os).take k) with
  | none => rfl
  | some p =>
    obtain ⟨c, q⟩ := p
    have h1 := decQ_mono ((encI root hashes os).drop k) h
    rw [List.take_append_drop, h0] at h1
    obtain ⟨-, h2⟩ := Prod.mk.inj (Option.some.inj h1)
    have h3 := congrArg List.length h2
    simp at h3
    omega
theorem rdOb_inv {l r : List Int} {o : Int × Int × List Int} (hb : ∀ y ∈ l, B y) (h : rdOb l = some (o, r)) (h0 : 0 ≤ o.2.1) : l = obB8 o ++ r ∧ GoodOb o := by
  unfold rdOb at h
  cases h1 : rdNs 3 l with
  | none => simp [h1] at h
  | some p =>
    obtain ⟨xs, q⟩ := p
    obtain ⟨e1, e2, e3⟩ := rdNs_inv 3 l hb xs q h1
    simp only [h1] at h
    match xs, e2 with
    | [a, b, c], _ =>
      simp only [List.getD_cons_zero, List.getD_cons_succ] at h
      split at h
      · cases h
      · next hc =>
        cases h2 : rdNs c.toNat q with
        | none => simp [h2] at h
        | some p2 =>
          obtain ⟨fs, q2⟩ := p2
          obtain ⟨i1, i2, i3⟩ := rdNs_inv _ q (fun y hy => hb y (by rw [e1]; simp [hy])) fs q2 h2
          simp only [h2] at h
          obtain ⟨h3, h4⟩ := Prod.mk.inj (Option.some.inj h)
          subst h3
          subst h4
          have ha := e3 a (by simp)
          have hb' := e3 b (by simp)
          have hc' := e3 c (by simp)
          simp only at h0
          have hs : sgn b = b ∧ b ≤ 9223372036854775807 := by
            unfold sgn at h0 ⊢
            split at h0
            · next hh => exact ⟨by rw [if_pos hh], by omega⟩
            · omega
          refine ⟨?_, ha, ⟨h0, by rw [hs.1]; exact hs.2⟩, by simp only; omega, i3⟩
          simp only [obB8, hs.1, i2]
          rw [e1, i1, show ((c.toNat : Nat) : Int) = c by omega]
          simp
theorem rdObs_inv : ∀ (n : Nat) (l : List Int) (_ : ∀ y ∈ l, B y) (os : List (Int × Int × List Int)) (r : List Int), rdObs n l = some (os, r) → (∀ o ∈ os, 0 ≤ o.2.1) → l = os.flatMap obB8 ++ r ∧ os.length = n ∧ ∀ o ∈ os, GoodOb o
  | 0, l, hb, os, r, h, h0 => by
    obtain ⟨h1, h2⟩ := Prod.mk.inj (Option.some.inj h)
    subst h1
    subst h2
    exact ⟨rfl, rfl, fun x h => by cases h⟩
  | n + 1, l, hb, os, r, h, h0 => by
    rw [rdObs] at h
    cases h1 : rdOb l with
    | none => simp [h1] at h
    | some p =>
      obtain ⟨x, q⟩ := p
      simp only [h1] at h
      cases h2 : rdObs n q with
      | none => simp [h2] at h
      | some p2 =>
        obtain ⟨ys, q2⟩ := p2
        simp only [h2] at h
        obtain ⟨h3, h4⟩ := Prod.mk.inj (Option.some.inj h)
        subst h3
        subst h4
        obtain ⟨e1, e2⟩ := rdOb_inv hb h1 (h0 x (by simp))
        obtain ⟨i1, i2, i3⟩ := rdObs_inv n q (fun y hy => hb y (by rw [e1]; simp [hy])) ys q2 h2 (fun o ho => h0 o (by simp [ho]))
        refine ⟨by rw [e1, i1]; simp, by simp [i2], fun z hz => ?_⟩
        rcases List.mem_cons.1 hz with rfl | hz
        · exact e2
        · exact i3 z hz
/-- no other bytes are that -/
theorem dec_inv {bs : List Int} {root hashes : Int} {os : List (Int × Int × List Int)} (hb : ∀ y ∈ bs, B y) (h : decI bs = some (root, hashes, os)) (h0 : 0 ≤ hashes) (ho : ∀ o ∈ os, 0 ≤ o.2.1) : bs = encI root hashes os := by
  unfold decI at h
  cases hq : decQ bs with
  | none => simp [hq] at h
  | some p =>
    obtain ⟨c, q⟩ := p
    simp only [hq] at h
    split at h
    · next he =>
      subst he
      obtain rfl := Option.some.inj h
      unfold decQ at hq
      split at hq
      · next hm =>
        have hd : ∀ y ∈ bs.drop 4, B y := fun y hy => hb y (List.mem_of_mem_drop hy)
        cases h1 : rdNs 3 (bs.drop 4) with
        | none => simp [h1] at hq
        | some p1 =>
          obtain ⟨xs, r⟩ := p1
          obtain ⟨e1, e2, e3⟩ := rdNs_inv 3 _ hd xs r h1
          simp only [h1] at hq
          match xs, e2 with
          | [a, b, c], _ =>
            simp only [List.getD_cons_zero, List.getD_cons_succ] at hq
            cases h2 : rdObs c.toNat r with
            | none => simp [h2] at hq
            | some p2 =>
              obtain ⟨os2, q2⟩ := p2
              simp only [h2] at hq
              obtain ⟨h3, h4⟩ := Prod.mk.inj (Option.some.inj hq)
              obtain ⟨h5, h6⟩ := Prod.mk.inj h3
              obtain ⟨h7, h8⟩ := Prod.mk.inj h6
              subst h4
              subst h5
              subst h8
              obtain ⟨i1, i2, i3⟩ := rdObs_inv _ r (fun y hy => hd y (by rw [e1]; simp [hy])) os2 [] h2 ho
              have hb' := e3 b (by simp)
              have hc' := e3 c (by simp)
              have hs : hashes = b := by
                rw [← h7] at h0 ⊢
                unfold sgn at h0 ⊢
                split at h0
                · next hh => rw [if_pos hh]
                · omega
              rw [← List.take_append_drop 4 bs, hm, e1, i1]
              unfold encI
              rw [hs, i2, show ((c.toNat : Nat) : Int) = c by omega]
              simp
      · cases hq
    · cases h
/-- how many bytes an image has -/
theorem flat8_len (l : List Int) : (l.flatMap b8).length = 8 * l.length := by
  induction l with
  | nil => rfl
  | cons a l ih => simp only [List.flatMap_cons, List.length_append, ih, b8_len, List.length_cons]; omega
theorem obB8_len (o : Int × Int × List Int) : (obB8 o).length = 8 * (3 + o.2.2.length) := by
  simp only [obB8, List.length_append, b8_len, flat8_len]; omega
def words3 (os : List (Int × Int × List Int)) : Nat := (os.map fun o => 3 + o.2.2.length).sum
theorem encI_len (root hashes : Int) (os : List (Int × Int × List Int)) : (encI root hashes os).length = 28 + 8 * words3 os := by
  have h : (os.flatMap obB8).length = 8 * words3 os := by
    unfold words3
    induction os with
    | nil => rfl
    | cons a l ih => simp only [List.flatMap_cons, List.length_append, ih, obB8_len, List.map_cons, List.sum_cons]; omega
  simp only [encI, List.length_append, b8_len, h, List.length_cons, List.length_nil]
  omega
end Go.Proofs.YtfhhjdfdfbelgaaGreatDoor
namespace Go.Proofs.YtfhhjdfdfbelgaaGreatDoor
open Go.RowKit

theorem own_mem8 {v : Value} {b : Nat} : b ∈ v.ownBlock.toList ↔ v.ownBlock = some b := by
  cases v.ownBlock <;> simp [eq_comm]
def u8s (l : List Int) : List Value := l.map (Value.int .u8)
theorem u8s_app (a b : List Int) : u8s (a ++ b) = u8s a ++ u8s b := by simp [u8s]
theorem infoB : (Tryz.prog.info? 5).map (fun i => (i.zero, i.size, i.bytes)) = some (some (.int .u8 0), 1, 1) := by kernel_rfl
/-- Returned a row with more behind it; only its own block has changed. -/
def More8 (k : Nat) (xs : List Int) (v : Value) (w : World) (e : Ending) (w' : World) : Prop :=
  ∃ v', e = .returned v' ∧ w'.ownsRow 0 5 1 v' k (u8s xs) ∧ Fr v.ownBlock.toList w w' ∧ ∀ b, v'.ownBlock = some b → v.ownBlock = some b ∨ w.heap.size ≤ b
/-- a row in growth since w, that was v there -/
structure Row8 (w : World) (v : Value) (k : Nat) (xs : List Int) (v' : Value) (W : World) : Prop where
  row : W.ownsRow 0 5 1 v' k (u8s xs)
  fr : Fr v.ownBlock.toList w W
  own : ∀ b, v'.ownBlock = some b → v.ownBlock = some b ∨ w.heap.size ≤ b
theorem Row8.to {w W : World} {v v' : Value} {k : Nat} {xs : List Int} (h : Row8 w v k xs v' W) : More8 k xs v w (.returned v') W := ⟨v', rfl, h.row, h.fr, h.own⟩
theorem Row8.step {w W W1 w1 : World} {v v' v5 : Value} {k j : Nat} {xs ys : List Int} (h : Row8 w v k xs v' W) (hW : Fr [] W W1) (ho : w1.ownsRow 0 5 1 v5 (k + j) (u8s xs ++ u8s ys)) (hg : W1.grownBy w1 v'.ownBlock) (hf : v5.ownBlock = v'.ownBlock ∨ v5.ownBlock = some W1.heap.size) : Row8 w v (k + j) (xs ++ ys) v5 w1 := by
  refine ⟨by rw [u8s_app]; exact ho, (h.fr.trans hW.weak).grown hg (fun b hb hl => ?_), fun b hb => ?_⟩
  · rcases h.own b hb with e | e
    · exact own_mem8.2 e
    · omega
  · rcases hf with hf | hf
    · exact h.own b (hf ▸ hb)
    · have e := hf.symm.trans hb
      cases e
      exact .inr (Nat.le_trans h.fr.size hW.size)
theorem Row8.still {w W W1 : World} {v v' : Value} {k : Nat} {xs : List Int} (h : Row8 w v k xs v' W) (hF : Fr [] W W1) : Row8 w v k xs v' W1 := ⟨hF.row h.row (fun _ _ => by simp), h.fr.trans hF.weak, h.own⟩
theorem one_cellI (w : World) (v : Value) (t : TypeId) : ∀ j u, [v][j]? = some u → (w.alloc (.cells #[v] t)).cell? ((⟨w.heap.size, 0, none⟩ : Addr).add j) = some u := by
  intro j u hu
  cases j with
  | zero =>
    simp at hu
    subst hu
    exact cell_of_heap (heap_new w _) rfl
  | succ j => simp at hu
/-- one byte of a number, as it is reckoned -/
theorem byte_at (n : Int) (h1 : 0 ≤ n) (h2 : n ≤ 18446744073709551615) (k : Nat) (hk : k < 8) : (b8 n)[k]? = some ((n / 2 ^ (8 * k)) % 256) := by
  match k, hk with
  | 0, _ => simp [b8]
  | 1, _ => simp [b8]
  | 2, _ => simp [b8]
  | 3, _ => simp [b8]
  | 4, _ => simp [b8]
  | 5, _ => simp [b8]
  | 6, _ => simp [b8]
  | 7, _ => simp [b8]
set_option maxRecDepth 100000 in
set_option maxHeartbeats 4000000 in
theorem appendNumbers_at {w : World} {v : Value} {k : Nat} {xs : List Int} (h : w.ownsRow 0 5 1 v k (u8s xs)) {na : Option Addr} {nc : Nat} (ns : List Int) (hn : WordsAt w na ns) (hns : ∀ x ∈ ns, WB x) (hnl : ns.length ≤ 1000) (hk : k ≤ 1099511627776) (hna : ∀ a, na = some a → v.ownBlock ≠ some a.block) :
    Calls Tryz.prog 55 #[v, .slice na ns.length nc] w (More8 (k + 8 * ns.length) (xs ++ ns.flatMap b8) v w) := by
  obtain ⟨i0, hi0, hz0, hz1, hz2⟩ := info_parts infoB
  obtain ⟨N, hN⟩ : ∃ N, N = ns.length := ⟨_, rfl⟩
  rw [← hN]
  have HN := Lib.hid hN
  have H0 : Hid (Row8 w v k xs v w) := ⟨h, Fr.refl _ _, fun b hb => .inl hb⟩
  have HW := Lib.hid hn
  have HNS := Lib.hid hns
  have HNA := Lib.hid hna
  have hN1 : N ≤ 1000 := by rw [hN]; exact hnl
  clear h hn hns hna hN hnl
  obtain ⟨vo0, vc0, hv0⟩ := row_shape H0.out.row
  have HV0 := Lib.hid hv0
  clear hv0
  go_enter Tryz.func55, Tryz.ntmps55
  go_wp2_with fail
  go_loopw [0, 10] (fun v' i wr => ∃ m : Nat, m ≤ N ∧ i = .int .i64 m ∧ ∃ vo vc, v' = .slice vo (k + 8 * m) vc ∧ Hid (Row8 w v (k + 8 * m) (xs ++ (ns.take m).flatMap b8) (.slice vo (k + 8 * m) vc) wr)) (fun _ i _ => N - (intOf i).toNat)
  case atStart => exact ⟨0, Nat.zero_le _, rfl, vo0, vc0, by simpa using HV0.out, by have h0 := H0.out; have e := HV0.out; show Row8 _ _ _ _ _ _; simp only [Nat.mul_zero, Nat.add_zero, List.take_zero, List.flatMap_nil, List.append_nil]; rw [← e]; exact h0⟩
  case round =>
    obtain ⟨m, hm, rfl, vo, vc, rfl, hR⟩ := hrel
    by_cases hlt : m < N
    · have hml : m < ns.length := by rw [← HN.out]; exact hlt
      obtain ⟨x, hx⟩ : ∃ x, ns[m]? = some x := ⟨_, List.getElem?_eq_getElem hml⟩
      obtain ⟨g, o, rfl, hc⟩ := HW.out m x hx
      have hxb := HNS.out x (List.mem_of_getElem? hx)
      have hc' : wr.cell? ⟨g, o + m, none⟩ = some (.int .u64 x) := hR.out.fr.cell (fun e => HNA.out _ rfl (own_mem8.1 e)) hc
      have HT : Hid ((ns.take (m + 1)).flatMap b8 = (ns.take m).flatMap b8 ++ b8 x) := by
        rw [List.take_add_one, hx]
        exact Lib.hid (by simp)
      obtain ⟨x1, x2⟩ := hxb
      have k0 : (0 : Int) ≤ (m : Int) := by omega
      have k1 : (m : Int) < (N : Int) := by omega
      obtain ⟨K, hK⟩ : ∃ K, K = k + 8 * m := ⟨_, rfl⟩
      obtain ⟨Y, hY⟩ : ∃ Y, Y = xs ++ (ns.take m).flatMap b8 := ⟨_, rfl⟩
      rw [← hK, ← hY] at hR
      have hK2 : K ≤ 1099511640000 := by omega
      have HK := Lib.hid hK
      have HY := Lib.hid hY
      rw [← hK]
      clear hml hx hc hK hY
      go_wp2_with fail
      go_loopw [0, 14] (fun v' i wi => ∃ j : Nat, j ≤ 8 ∧ i = .int .i64 j ∧ ∃ vo vc, v' = .slice vo (K + j) vc ∧ Hid (Row8 w v (K + j) (Y ++ (b8 x).take j) (.slice vo (K + j) vc) wi)) (fun _ i _ => 8 - (intOf i).toNat)
      case atStart => exact ⟨0, Nat.zero_le _, rfl, vo, vc, rfl, by show Row8 _ _ _ _ _ _; simpa using hR.out⟩
      case round =>
        obtain ⟨j, hj, rfl, vo, vc, rfl, hI⟩ := hrel
        by_cases hlj : j < 8
        · have j0 : (0 : Int) ≤ (j : Int) := by omega
          have j1 : (j : Int) < 8 := by omega
          have hy := byte_at x x1 x2 j hlj
          obtain ⟨y, hye⟩ : ∃ y, y = x / 2 ^ (8 * j) % 256 := ⟨_, rfl⟩
          have HJ : Hid ((b8 x).take (j + 1) = (b8 x).take j ++ [y]) := by rw [List.take_add_one, hy, hye]; exact rfl
          have HR1 : Hid ((wr.alloc (.cells #[.int .u8 (x / 2 ^ (8 * j) % 256)] 5)).ownsRow 0 5 1 (.slice vo (K + j) vc) (K + j) (u8s (Y ++ (b8 x).take j))) := ((Fr.refl [] _).alloc _).row hI.out.row (fun _ _ => by simp)
          have HYE := Lib.hid hye
          clear hy hye
          go_wp2_with (at_builtin; refine wpList_append_at _ rfl (.tmp 17) (.tmp 23) 22 rfl 5 i0 (.int .u8 0) 1 1 Tryz.underlying22 hi0 hz0 hz1 hz2 rfl (by decide) (.slice vo (K + j) vc) (K + j) _ rfl HR1.out ⟨wr.heap.size, 0, none⟩ 1 1 [.int .u8 (x / 2 ^ (8 * j) % 256)] rfl rfl (one_cellI wr (.int .u8 (x / 2 ^ (8 * j) % 256)) 5) (by simp [Value.oneCell']) (by unfold maxLen; omega) (by omega) ?_; intro v5 w5 ho5 hg5 hf5; obtain ⟨a5, p5, rfl⟩ := row_shape ho5; have HO5 := Lib.hid ho5; have HG5 := Lib.hid hg5; have HF5 := Lib.hid hf5; clear ho5 hg5 hf5)
          go_roundw
          case rel =>
            have h5 : Row8 w v (K + j + 1) ((Y ++ (b8 x).take j) ++ [y]) _ _ := hI.out.step (ys := [y]) ((Fr.refl _ _).alloc _) (by rw [HYE.out]; exact HO5.out) HG5.out HF5.out
            refine ⟨j + 1, by omega, by go_num, a5, p5, rfl, ?_⟩
            show Row8 _ _ _ _ _ _
            rw [HJ.out, ← List.append_assoc]
            exact h5
          case measure => simp [intOf]; omega
        · obtain rfl : j = 8 := by omega
          go_wp2_with fail
          go_roundw
          case rel =>
            refine ⟨m + 1, by omega, by go_num, vo, vc, by rw [HK.out]; congr 1, ?_⟩
            show Row8 _ _ _ _ _ _
            have h5 := hI.out
            rw [show (b8 x).take 8 = b8 x from rfl, HY.out, List.append_assoc, ← HT.out] at h5
            rw [show k + 8 * (m + 1) = K + 8 by rw [HK.out]; omega]
            exact h5
          case measure => simp [intOf]; omega
    · obtain rfl : m = N := by omega
      have HT : Hid (ns.take m = ns) := List.take_of_length_le (by rw [← HN.out]; omega)
      have hkd : decide (m < m) = false := by simp
      go_wp2_with fail
      go_ret
      have h := hR.out.to
      rw [HT.out] at h
      exact h
/-- the objects' rows, as they are handed over -/
def words3I (its : List It) : Nat := (its.map fun o => 3 + o.fs.length).sum
theorem words3I_take {its : List It} {k : Nat} {o : It} (h : its[k]? = some o) : words3I (its.take (k + 1)) = words3I (its.take k) + 3 + o.fs.length := by
  unfold words3I
  rw [List.take_add_one, h]
  simp
  omega
theorem words3I_le (its : List It) (k : Nat) : words3I (its.take k) ≤ words3I its := by
  unfold words3I
  conv => rhs; rw [← List.take_append_drop k its]
  rw [List.map_append, List.sum_append]
  omega
set_option maxRecDepth 100000 in
set_option maxHeartbeats 2000000 in
theorem encodedLength_at {w : World} {ao : Option Addr} {cap : Nat} (its : List It) (hr : RowAt w ao (flat3 its)) (hfv : ∀ o ∈ its, ∃ fa fc, o.fv = .slice fa o.fs.length fc) (hn : words3I its ≤ 1099511627776) (hl : its.length ≤ 1099511627776) :
    Calls Tryz.prog 54 #[.slice ao its.length cap] w (Still (.int .i64 (28 + 8 * words3I its)) w) := by
  have HR := Lib.hid hr
  have HV := Lib.hid hfv
  have HM : Hid (∀ k, words3I (its.take k) ≤ 1099511627776) := Lib.hid fun k => Nat.le_trans (words3I_le its k) hn
  obtain ⟨n, hn'⟩ : ∃ n, n = its.length := ⟨_, rfl⟩
  rw [← hn'] at hl ⊢
  have HN := Lib.hid hn'
  clear hr hfv hn' hn
  go_enter Tryz.func54, Tryz.ntmps54
  go_wp2
  go_loopw [3, 8] (fun q i wr => ∃ k : Nat, k ≤ n ∧ i = .int .i64 k ∧ ∃ z : Nat, q = .int .i64 z ∧ Hid (z = 3 + words3I (its.take k)) ∧ Hid (Fr [] w wr)) (fun _ i _ => n - (intOf i).toNat)
  case atStart => exact ⟨0, Nat.zero_le _, rfl, 3, rfl, rfl, Fr.refl _ _⟩
  case round =>
    obtain ⟨k, hk, rfl, z, rfl, hz, hF⟩ := hrel
    by_cases hlt : k < n
    · have hkl : k < its.length := by rw [← HN.out]; exact hlt
      obtain ⟨o, ho⟩ : ∃ o, o = its[k] := ⟨_, rfl⟩
      have hik : its[k]? = some o := by rw [List.getElem?_eq_getElem hkl, ho]
      obtain ⟨f1, f2, f3⟩ := flat3_at hik
      obtain ⟨g, off, rfl, c1⟩ := HR.out _ _ f1
      obtain ⟨g2, off2, e2, c2⟩ := HR.out _ _ f2
      cases e2
      obtain ⟨g3, off3, e3, c3⟩ := HR.out _ _ f3
      cases e3
      obtain ⟨fa, fc, hov⟩ := HV.out o (List.mem_of_getElem? hik)
      rw [hov] at c3
      have d1 := hF.out.cell (by simp) c1
      have d2 := hF.out.cell (by simp) c2
      have d3 := hF.out.cell (by simp) c3
      rw [← Nat.add_assoc] at d2 d3
      have hw := words3I_take hik
      have hm1 := HM.out (k + 1)
      have hz1 := hz.out
      have hb : z + 3 + o.fs.length ≤ 1099511627779 := by omega
      have HZ : Hid (z + (3 + o.fs.length) = 3 + words3I (its.take (k + 1))) := by show _ = _; omega
      generalize o.fs.length = q at *
      have k0 : (0 : Int) ≤ (k : Int) := by omega
      have k1 : (k : Int) < (n : Int) := by omega
      clear ho hik f1 f2 f3 c1 c2 c3 hov hw hm1 hz1 hz hkl
      go_wp2_with fail
      go_roundw
      case rel => exact ⟨k + 1, by omega, by go_num, z + (3 + q), by go_num, HZ, (hF.out.alloc _)⟩
      case measure => simp [intOf]; omega
    · have hkn : k = n := by omega
      subst hkn
      have HT : Hid (words3I (its.take k) = words3I its) := by rw [List.take_of_length_le (by rw [← HN.out]; omega)]; exact rfl
      have hkd : decide (k < k) = false := by simp
      have hz1 := hz.out
      have hm1 := HM.out k
      have hb : z ≤ 1099511627779 := by omega
      clear hz1 hm1
      go_wp2
      go_ret
      refine ⟨ret1 (vi ?_), hF.out⟩
      have h1 := hz.out
      have h2 := HT.out
      omega
theorem makeBy (n : Nat) (h2 : n ≤ 17592186044416) : ∃ Z : Array Value, Hid (Z.size = n) ∧ ∀ W : World, (Instr.makeSlice 22 (.int .i64 0) (.int .i64 (n : Int))).run Tryz.prog W = .ok (.slice (some ⟨W.heap.size, 0, none⟩) 0 n) (W.alloc (.cells Z 5)) := by
  obtain ⟨i0, hi, hz0, hz1, hz2⟩ := info_parts infoB
  refine ⟨madeCells (Value.int .u8 0).cells n, size_madeCells _ _, fun W => ?_⟩
  have hr := run_make (P := Tryz.prog) W 22 5 i0 (.int .u8 0) Tryz.underlying22 hi hz0 .i64 .i64 0 n (by omega) (by omega) (by rw [hz2]; omega) (by omega)
  simp only [Int.toNat_natCast, hz1, Nat.mul_one, Int.toNat_zero] at hr
  exact hr
theorem fr_setRow (W : World) (g : Nat) (cs : Array Value) : Fr [g] W (W.setRow g cs) :=
  ⟨rfl, rfl, rfl, by simp, fun k _ hn => setRow_other W g k cs (by simpa using hn)⟩
/-- the mark, behind nothing -/
theorem mark8_at (W : World) (g n : Nat) (Z : Array Value) (hg : W.heap[g]? = some (.cells Z 5 (0, 0))) (hz : Z.size = n) (hn : 4 ≤ n) (hm : n ≤ maxLen) (ty : TypeId) : ∃ W', (Builtin.append_ #[22, 9] ty #[.slice (some ⟨g, 0, none⟩) 0 n, .string ⟨#[84, 80, 80, 84]⟩]).run Tryz.prog W = .ok (.slice (some ⟨g, 0, none⟩) 4 n) W' ∧ W'.ownsRow 0 5 1 (.slice (some ⟨g, 0, none⟩) 4 n) 4 (u8s [84, 80, 80, 84]) ∧ Fr [g] W W' := by
  obtain ⟨i0, hi, hz0, hz1, hz2⟩ := info_parts infoB
  have hr := Lib.run_append_room_string (P := Tryz.prog) W 22 9 ty 5 i0 Tryz.underlying22 Tryz.underlying9 hi hz1 g 0 n Z hg ⟨#[84, 80, 80, 84]⟩ (by simpa [ByteArray.size] using hn) (by simpa [ByteArray.size, hz] using hn)
  refine ⟨_, hr, ⟨rfl, .inr ⟨g, n, _, rfl, Nat.zero_le _, setRow_heap W g Z _ _ _ hg, hn, hm, ?_, ?_⟩⟩, fr_setRow W g _⟩
  · have hzl : Z.toList.length = n := by simpa using hz
    simp [Lib.strCells, ByteArray.size] at hzl ⊢
    omega
  · simp [Lib.strCells, u8s]
theorem Row8.more {w W W' : World} {v0 v : Value} {k k' : Nat} {xs xs' : List Int} {e : Ending} (h : Row8 w v0 k xs v W) (hm : More8 k' xs' v W e W') : ∃ vo vc, e = .returned (.slice vo k' vc) ∧ Row8 w v0 k' xs' (.slice vo k' vc) W' := by
  obtain ⟨v', rfl, h1, h2, h3⟩ := hm
  obtain ⟨vo, vc, rfl⟩ := row_shape h1
  refine ⟨vo, vc, rfl, h1, h.fr.trans' h2 (fun _ _ e => e) (fun j hj hm => ?_), fun b hb => ?_⟩
  · rcases h.own j (own_mem8.1 hm) with e | e
    · exact own_mem8.2 e
    · omega
  · rcases h3 b hb with e | e
    · exact h.own b e
    · exact .inr (Nat.le_trans h.fr.size e)
theorem words_block (W : World) (xs : List Int) (t : TypeId) : WordsAt (W.alloc (.cells (xs.map (Value.int .u64)).toArray t)) (some ⟨W.heap.size, 0, none⟩) xs := by
  intro i x hx
  refine ⟨W.heap.size, 0, rfl, cell_of_heap (heap_new W _) ?_⟩
  simp [hx]
/-- the contents of an image, as a value -/
def contV (root hashes : Int) (ao : Option Addr) (n cap : Nat) : Value := .agg #[.int .u64 root, .int .i64 hashes, .slice ao n cap]
set_option maxRecDepth 100000 in
set_option maxHeartbeats 4000000 in
theorem iencoded_at {w : World} {ao : Option Addr} {cap : Nat} (its : List It) (hr : RowAt w ao (flat3 its)) (hok : ∀ o ∈ its, ItOk w o) (hn : words3I its ≤ 65536) (hl : its.length ≤ 65536) (hob : ∀ o ∈ its, GoodOb o.key) (root hashes : Int) (hroot : WB root) (hh : 0 ≤ hashes ∧ hashes ≤ 1099511627775) :
    Calls Tryz.prog 34 #[contV root hashes ao its.length cap] w (More8 (28 + 8 * words3I its) (encI root hashes (obsOf its)) (.slice none 0 0) w) := by
  have hlen := fun w' (hF : Fr [] w w') => encodedLength_at (w := w') (cap := cap) its (hr.fr hF (fun _ _ => by simp)) (fun o ho => by obtain ⟨fa, fc, h, -⟩ := hok o ho; exact ⟨fa, fc, h⟩) (by omega) (by omega)
  obtain ⟨L, hL⟩ : ∃ L : Nat, L = 28 + 8 * words3I its := ⟨_, rfl⟩
  obtain ⟨Z, HZ, hmk⟩ := makeBy L (by omega)
  rw [show (28 + 8 * (words3I its : Int)) = (L : Int) by omega] at hlen
  have hLb : 28 ≤ L ∧ L ≤ 600000 := by omega
  obtain ⟨L1, L2⟩ := hLb
  rw [← hL]
  have HL := Lib.hid hL
  unfold contV
  have HR := Lib.hid hr
  have HOK := Lib.hid hok
  have HOB := Lib.hid hob
  have HRT := Lib.hid hroot
  obtain ⟨h1, h2⟩ := hh
  obtain ⟨n, hn'⟩ : ∃ n, n = its.length := ⟨_, rfl⟩
  rw [← hn'] at hl hlen ⊢
  have HN := Lib.hid hn'
  have hrt1 := hroot.1
  have hrt2 := hroot.2
  clear hr hok hob hroot hn' hL
  go_enter Tryz.func34, Tryz.ntmps34
  go_wp2_with fail
  refine (hlen _ ((Fr.refl _ _).alloc _)).mono ?_
  rintro e w1 ⟨rfl, hF1⟩
  have HF1 : Hid (Fr [] w w1) := ((Fr.refl _ _).alloc _).trans hF1
  have HBX : Hid (w1.heap[w.heap.size]? = some (.cells #[.int .u64 root, .int .i64 hashes, .slice ao n cap] 52 (0, 0))) := hF1.heap (by simp) (heap_new w _)
  have b0 := cell_of_heap (o := 0) HBX.out rfl
  have b1 := cell_of_heap (o := 1) HBX.out rfl
  have b2 := cell_of_heap (o := 2) HBX.out rfl
  clear hF1 hlen
  obtain ⟨W3, hmark, hrow3, hF3⟩ := mark8_at (w1.alloc (.cells Z 5)) w1.heap.size L Z (heap_new _ _) HZ.out (by omega) (by unfold maxLen; omega) 22
  have HROW3 := Lib.hid hrow3
  have HF3 := Lib.hid hF3
  have c0 := hF3.cell (by have := lt_of_heap HBX.out; simp; omega) (((Fr.refl [] w1).alloc _).cell (by simp) b0)
  have c1 := hF3.cell (by have := lt_of_heap HBX.out; simp; omega) (((Fr.refl [] w1).alloc _).cell (by simp) b1)
  have c2 := hF3.cell (by have := lt_of_heap HBX.out; simp; omega) (((Fr.refl [] w1).alloc _).cell (by simp) b2)
  clear hrow3 hF3 b0 b1 b2
  go_wp2_with (at_builtin; refine Lib.wpList_append_run (w1.alloc (.cells Z 5)) rfl (.tmp 12) (.const (.string ⟨#[84, 80, 80, 84]⟩)) 22 9 rfl _ _ rfl rfl _ W3 hmark ?_)
  have H3 : Hid (Row8 w (.slice none 0 0) 4 [84, 80, 80, 84] (.slice (some ⟨w1.heap.size, 0, none⟩) 4 L) (W3.alloc (.cells #[.int .u64 root, .int .u64 hashes, .int .u64 n] 34))) := by
    refine Row8.still (W := W3) ⟨HROW3.out, ?_, fun b hb => ?_⟩ ((Fr.refl _ _).alloc _)
    · exact (HF1.out.alloc (.cells Z 5)).trans' HF3.out (fun _ _ e => e) (fun j hj hm => by rw [List.mem_singleton] at hm; have := HF1.out.size; omega)
    · cases hb
      exact .inr HF1.out.size
  refine (appendNumbers_at (nc := 3) H3.out.row [root, hashes, (n : Int)] (words_block W3 [root, hashes, (n : Int)] 34) (fun x hx => by simp at hx; unfold WB; rcases hx with rfl | rfl | rfl <;> omega) (by simp) (by omega) (fun a ha => by cases ha; simp only [Value.ownBlock]; intro e; have e := Option.some.inj e; have := HF3.out.size; simp at this; omega)).mono ?_
  intro e w4 hm4
  have hbx : w4.heap[w.heap.size]? = some (.cells #[.int .u64 root, .int .i64 hashes, .slice ao n cap] 52 (0, 0)) := by
    obtain ⟨_, _, _, hF4, _⟩ := id hm4
    have h1 := lt_of_heap HBX.out
    exact hF4.heap (by simp [Value.ownBlock]; omega) (((Fr.refl [] W3).alloc _).heap (by simp) (HF3.out.heap (by simp; omega) (((Fr.refl [] w1).alloc _).heap (by simp) HBX.out)))
  obtain ⟨vo, vc, rfl, hR4⟩ := H3.out.more hm4
  have HR4 := Lib.hid hR4
  clear hR4 hm4
  have d2 := cell_of_heap (o := 2) hbx rfl
  clear c0 c1 c2 hmark hbx
  obtain ⟨H, hH⟩ : ∃ H, H = [84, 80, 80, 84] ++ [root, hashes, (n : Int)].flatMap b8 := ⟨_, rfl⟩
  rw [← hH] at HR4
  have HH := Lib.hid hH
  clear hH
  have HWD : Hid (∀ k, words3I (its.take k) ≤ 65536) := Lib.hid fun k => Nat.le_trans (words3I_le its k) hn
  go_wp2_with fail
  go_loopw [3, 29] (fun v i wr => ∃ k : Nat, k ≤ n ∧ i = .int .i64 k ∧ ∃ vo vc, v = .slice vo (28 + 8 * words3I (its.take k)) vc ∧ Hid (Row8 w (.slice none 0 0) (28 + 8 * words3I (its.take k)) (H ++ (obsOf (its.take k)).flatMap obB8) (.slice vo (28 + 8 * words3I (its.take k)) vc) wr)) (fun _ i _ => n - (intOf i).toNat)
  case atStart => exact ⟨0, Nat.zero_le _, rfl, vo, vc, rfl, by show Row8 _ _ _ _ _ _; simpa [words3I, obsOf] using HR4.out⟩
  case round =>
    obtain ⟨k, hk, rfl, vo, vc, rfl, hG⟩ := hrel
    by_cases hlt : k < n
    · have hkl : k < its.length := by rw [← HN.out]; exact hlt
      obtain ⟨o, ho⟩ : ∃ o, o = its[k] := ⟨_, rfl⟩
      have hik : its[k]? = some o := by rw [List.getElem?_eq_getElem hkl, ho]
      obtain ⟨f1, f2, f3⟩ := flat3_at hik
      obtain ⟨g, off, rfl, q1⟩ := HR.out _ _ f1
      obtain ⟨g2, off2, e2, q2⟩ := HR.out _ _ f2
      cases e2
      obtain ⟨g3, off3, e3, q3⟩ := HR.out _ _ f3
      cases e3
      have hom := List.mem_of_getElem? hik
      obtain ⟨fa, fc, hov, hfw, hfl⟩ := HOK.out o hom
      obtain ⟨ob1, ob2, ob3, ob4⟩ := HOB.out o hom
      rw [hov] at q3
      have d1 := hG.out.fr.cell (by simp [Value.ownBlock]) q1
      have d2 := hG.out.fr.cell (by simp [Value.ownBlock]) q2
      have d3 := hG.out.fr.cell (by simp [Value.ownBlock]) q3
      rw [← Nat.add_assoc] at d2 d3
      have HFW := Lib.hid hfw
      have hw := words3I_take hik
      have hm1 := HWD.out (k + 1)
      have HT : Hid ((obsOf (its.take (k + 1))).flatMap obB8 = (obsOf (its.take k)).flatMap obB8 ++ obB8 o.key) := by
        rw [List.take_add_one, hik]
        exact Lib.hid (by simp [obsOf])
      obtain ⟨K, hK⟩ : ∃ K, K = 28 + 8 * words3I (its.take k) := ⟨_, rfl⟩
      obtain ⟨Y, hY⟩ : ∃ Y, Y = H ++ (obsOf (its.take k)).flatMap obB8 := ⟨_, rfl⟩
      have hK2 : K + 8 * (3 + o.fs.length) ≤ 600000 := by omega
      have HKN : Hid (28 + 8 * words3I (its.take (k + 1)) = K + 8 * (3 + o.fs.length)) := by show _ = _; omega
      rw [← hK, ← hY] at hG
      rw [← hK]
      have HY := Lib.hid hY
      have k0 : (0 : Int) ≤ (k : Int) := by omega
      have k1 : (k : Int) < (n : Int) := by omega
      obtain ⟨cls, hsh, fv, fs⟩ := o
      simp only [It.key] at ob1 ob2 ob3 ob4 hov d1 d2 d3 HT hK2 HKN HFW hfl
      obtain ⟨x1, x2⟩ := ob1
      obtain ⟨x3, x4⟩ := ob2
      obtain ⟨q, hq⟩ : ∃ q, q = fs.length := ⟨_, rfl⟩
      rw [← hq] at d3 hK2 HKN ob3
      have HQ := Lib.hid hq
      have HO4 := Lib.hid ob4
      clear ho hik f1 f2 f3 q1 q2 q3 hov hw hm1 hkl hfw hK hY ob4 hom hfl hq
      go_wp2_with fail
      have hG5 := hG.out.still (((Fr.refl [] wr).alloc (.cells #[.int .u64 cls, .int .i64 hsh, .slice fa q fc] 74)).alloc (.cells #[.int .u64 cls, .int .u64 hsh, .int .u64 q] 34))
      refine (appendNumbers_at (nc := 3) hG5.row [cls, hsh, (q : Int)] (by have := words_block (wr.alloc (.cells #[.int .u64 cls, .int .i64 hsh, .slice fa q fc] 74)) [cls, hsh, (q : Int)] 34; simpa using this) (fun x hx => by simp at hx; unfold WB; rcases hx with rfl | rfl | rfl <;> omega) (by simp) (by omega) (fun a ha e => ?own)).mono ?_
      case own =>
        cases ha
        have hr := hG.out.row
        obtain ⟨c, hc⟩ := row_cells hr e
        have h9 := lt_of_heap hc
        simp only at h9
        omega
      intro e w5 hm5
      have hbx : w5.heap[wr.heap.size]? = some (.cells #[.int .u64 cls, .int .i64 hsh, .slice fa q fc] 74 (0, 0)) := by
        obtain ⟨_, _, _, hF5, _⟩ := id hm5
        refine hF5.heap (fun e => ?_) (((Fr.refl [] _).alloc _).heap (by simp) (heap_new wr _))
        obtain ⟨c, hc⟩ := row_cells hG.out.row (own_mem8.1 e)
        have := lt_of_heap hc
        omega
      obtain ⟨vo, vc, rfl, hR5⟩ := hG5.more hm5
      have HR5 := Lib.hid hR5
      have d4 := cell_of_heap (o := 2) hbx rfl
      clear hbx hm5 hG5 d1 d2 d3
      obtain ⟨Y2, hY2⟩ : ∃ Y2, Y2 = Y ++ [cls, hsh, (q : Int)].flatMap b8 := ⟨_, rfl⟩
      rw [← hY2] at HR5
      have HY2 := Lib.hid hY2
      clear hY2
      go_wp2_with fail
      go_loopw [3, 48] (fun v i wi => ∃ j : Nat, j ≤ q ∧ i = .int .i64 j ∧ ∃ vo vc, v = .slice vo (K + 24 + 8 * j) vc ∧ Hid (Row8 w (.slice none 0 0) (K + 24 + 8 * j) (Y2 ++ (fs.take j).flatMap b8) (.slice vo (K + 24 + 8 * j) vc) wi)) (fun _ i _ => q - (intOf i).toNat)
      case atStart => exact ⟨0, Nat.zero_le _, rfl, vo, vc, rfl, by show Row8 _ _ _ _ _ _; simpa using HR5.out⟩
      case round =>
        obtain ⟨j, hj, rfl, vo, vc, rfl, hI⟩ := hrel
        by_cases hlj : j < q
        · have hjl : j < fs.length := by rw [← HQ.out]; exact hlj
          obtain ⟨x, hx⟩ : ∃ x, fs[j]? = some x := ⟨_, List.getElem?_eq_getElem hjl⟩
          obtain ⟨gf, of, rfl, hc⟩ := HFW.out j x hx
          have hxb := HO4.out x (List.mem_of_getElem? hx)
          have hc' := hI.out.fr.cell (by simp [Value.ownBlock]) hc
          have HTJ : Hid ((fs.take (j + 1)).flatMap b8 = (fs.take j).flatMap b8 ++ b8 x) := by
            rw [List.take_add_one, hx]
            exact Lib.hid (by simp)
          have j0 : (0 : Int) ≤ (j : Int) := by omega
          have j1 : (j : Int) < (q : Int) := by omega
          have HXB := Lib.hid hxb
          clear hjl hx hc hxb
          go_wp2_with fail
          have hG6 := hI.out.still ((Fr.refl [] wr).alloc (.cells #[.int .u64 x] 34))
          refine (appendNumbers_at (nc := 1) hG6.row [x] (by have := words_block wr [x] 34; simpa using this) (fun y hy => by rw [List.mem_singleton] at hy; subst hy; exact HXB.out) (by simp) (by omega) (fun a ha e => ?own)).mono ?_
          case own =>
            cases ha
            obtain ⟨c, hc⟩ := row_cells hI.out.row e
            have h9 := lt_of_heap hc
            simp only at h9
            omega
          intro e w6 hm6
          obtain ⟨vo, vc, rfl, hR6⟩ := hG6.more hm6
          have HR6 := Lib.hid hR6
          clear hm6 hG6 hR6 hc'
          go_wp2_with fail
          go_roundw
          case rel =>
            refine ⟨j + 1, by omega, by go_num, vo, vc, by congr 1, ?_⟩
            show Row8 _ _ _ _ _ _
            have h6 := HR6.out
            rw [List.append_assoc, show [x].flatMap b8 = b8 x by simp, ← HTJ.out] at h6
            rw [show K + 24 + 8 * (j + 1) = K + 24 + 8 * j + 8 * [x].length by simp; omega]
            exact h6
          case measure => simp [intOf]; omega
        · obtain rfl : j = q := by omega
          have hjd : decide (j < j) = false := by simp
          go_wp2_with fail
          go_roundw
          case rel =>
            refine ⟨k + 1, by omega, by go_num, vo, vc, by rw [HKN.out]; congr 1; omega, ?_⟩
            show Row8 _ _ _ _ _ _
            have h6 := hI.out
            rw [show fs.take j = fs from List.take_of_length_le (by rw [← HQ.out]; omega)] at h6
            have e : Y2 ++ fs.flatMap b8 = H ++ (obsOf (its.take (k + 1))).flatMap obB8 := by
              rw [HT.out, HY2.out, HY.out, HQ.out]
              simp [obB8]
            rw [e] at h6
            rw [HKN.out, show K + 8 * (3 + j) = K + 24 + 8 * j by omega]
            exact h6
          case measure => simp [intOf]; omega
    · obtain rfl : k = n := by omega
      have hkd : decide (k < k) = false := by simp
      have HTK : Hid (its.take k = its) := List.take_of_length_le (by rw [← HN.out]; omega)
      have hG2 := hG.out
      rw [HTK.out, ← HL.out] at hG2
      have HG2 := Lib.hid hG2
      rw [HTK.out, ← HL.out]
      clear hG hG2
      go_wp2_with fail
      go_ret
      have h := HG2.out.to
      have e : H ++ (obsOf its).flatMap obB8 = encI root hashes (obsOf its) := by
        rw [HH.out, HN.out]
        simp [encI, obsOf]
      rw [e] at h
      exact h
end Go.Proofs.YtfhhjdfdfbelgaaGreatDoor
