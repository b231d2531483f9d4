/- An image as a list of bytes: numbers, objects, what a list of bytes is decoded to. Plain, of no program. -/
import Derived.Test.YtomcfjckhajhmabGreatDoorMBase
namespace Go.Proofs.YtomcfjckhajhmabGreatDoor
open Go.RowKit

/-- the bytes of a number, least first -/
def b8 (x : Int) : List Int := [x % 256, x / 256 % 256, x / 65536 % 256, x / 16777216 % 256, x / 4294967296 % 256, x / 1099511627776 % 256, x / 281474976710656 % 256, x / 72057594037927936 % 256]
def n8 (a b c d e f g h : Int) : Int := a + 256 * b + 65536 * c + 16777216 * d + 4294967296 * e + 1099511627776 * f + 281474976710656 * g + 72057594037927936 * h
def B (x : Int) : Prop := 0 ≤ x ∧ x ≤ 255
theorem b8_len (x : Int) : (b8 x).length = 8 := rfl
theorem b8_byte (x : Int) : ∀ y ∈ b8 x, B y := by
  intro y hy
  simp only [b8, List.mem_cons, List.not_mem_nil, or_false] at hy
  unfold B
  omega
theorem n8_b8 {x : Int} (h1 : 0 ≤ x) (h2 : x ≤ 18446744073709551615) : n8 (x % 256) (x / 256 % 256) (x / 65536 % 256) (x / 16777216 % 256) (x / 4294967296 % 256) (x / 1099511627776 % 256) (x / 281474976710656 % 256) (x / 72057594037927936 % 256) = x := by
  unfold n8; omega
theorem n8_bd {a b c d e f g h : Int} (ha : B a) (hb : B b) (hc : B c) (hd : B d) (he : B e) (hf : B f) (hg : B g) (hh : B h) : 0 ≤ n8 a b c d e f g h ∧ n8 a b c d e f g h ≤ 18446744073709551615 := by
  unfold n8; unfold B at *; omega
theorem b8_n8 {a b c d e f g h : Int} (ha : B a) (hb : B b) (hc : B c) (hd : B d) (he : B e) (hf : B f) (hg : B g) (hh : B h) : b8 (n8 a b c d e f g h) = [a, b, c, d, e, f, g, h] := by
  unfold b8 n8; unfold B at *
  have e0 : (a + 256 * b + 65536 * c + 16777216 * d + 4294967296 * e + 1099511627776 * f + 281474976710656 * g + 72057594037927936 * h) % 256 = a := by omega
  have e1 : (a + 256 * b + 65536 * c + 16777216 * d + 4294967296 * e + 1099511627776 * f + 281474976710656 * g + 72057594037927936 * h) / 256 % 256 = b := by omega
  have e2 : (a + 256 * b + 65536 * c + 16777216 * d + 4294967296 * e + 1099511627776 * f + 281474976710656 * g + 72057594037927936 * h) / 65536 % 256 = c := by omega
  have e3 : (a + 256 * b + 65536 * c + 16777216 * d + 4294967296 * e + 1099511627776 * f + 281474976710656 * g + 72057594037927936 * h) / 16777216 % 256 = d := by omega
  have e4 : (a + 256 * b + 65536 * c + 16777216 * d + 4294967296 * e + 1099511627776 * f + 281474976710656 * g + 72057594037927936 * h) / 4294967296 % 256 = e := by omega
  have e5 : (a + 256 * b + 65536 * c + 16777216 * d + 4294967296 * e + 1099511627776 * f + 281474976710656 * g + 72057594037927936 * h) / 1099511627776 % 256 = f := by omega
  have e6 : (a + 256 * b + 65536 * c + 16777216 * d + 4294967296 * e + 1099511627776 * f + 281474976710656 * g + 72057594037927936 * h) / 281474976710656 % 256 = g := by omega
  have e7 : (a + 256 * b + 65536 * c + 16777216 * d + 4294967296 * e + 1099511627776 * f + 281474976710656 * g + 72057594037927936 * h) / 72057594037927936 % 256 = h := by omega
  rw [e0, e1, e2, e3, e4, e5, e6, e7]
/-- the number of 8 bytes -/
def numB (l : List Int) : Int := n8 (l.getD 0 0) (l.getD 1 0) (l.getD 2 0) (l.getD 3 0) (l.getD 4 0) (l.getD 5 0) (l.getD 6 0) (l.getD 7 0)
/-- the next number, and what is left -/
def rdN (l : List Int) : Option (Int × List Int) := if l.length < 8 then none else some (numB l, l.drop 8)
theorem numB_app {x : Int} (h1 : 0 ≤ x) (h2 : x ≤ 18446744073709551615) (r : List Int) : numB (b8 x ++ r) = x := n8_b8 h1 h2
theorem rdN_app {x : Int} (h1 : 0 ≤ x) (h2 : x ≤ 18446744073709551615) (r : List Int) : rdN (b8 x ++ r) = some (x, r) := by
  unfold rdN
  rw [if_neg (by simp [b8_len]), numB_app h1 h2, List.drop_append_of_le_length (by simp [b8_len])]
  rfl
theorem list8 {l : List Int} (h : 8 ≤ l.length) : ∃ a b c d e f g i r, l = a :: b :: c :: d :: e :: f :: g :: i :: r := by
  match l, h with
  | a :: b :: c :: d :: e :: f :: g :: i :: r, _ => exact ⟨a, b, c, d, e, f, g, i, r, rfl⟩
theorem rdN_inv {l r : List Int} {x : Int} (hb : ∀ y ∈ l, B y) (h : rdN l = some (x, r)) : l = b8 x ++ r ∧ 0 ≤ x ∧ x ≤ 18446744073709551615 := by
  unfold rdN at h
  split at h
  · cases h
  · next hl =>
    obtain ⟨a, b, c, d, e, f, g, i, q, rfl⟩ := list8 (l := l) (by omega)
    obtain ⟨h1, h2⟩ := Prod.mk.inj (Option.some.inj h)
    have hx : x = n8 a b c d e f g i := h1.symm
    have hr : r = q := h2.symm
    subst hx
    subst hr
    have H : B a ∧ B b ∧ B c ∧ B d ∧ B e ∧ B f ∧ B g ∧ B i := ⟨hb _ (by simp), hb _ (by simp), hb _ (by simp), hb _ (by simp), hb _ (by simp), hb _ (by simp), hb _ (by simp), hb _ (by simp)⟩
    obtain ⟨q0, q1, q2, q3, q4, q5, q6, q7⟩ := H
    refine ⟨?_, n8_bd q0 q1 q2 q3 q4 q5 q6 q7⟩
    rw [b8_n8 q0 q1 q2 q3 q4 q5 q6 q7]
    rfl
/-- so many numbers -/
def rdNs : Nat → List Int → Option (List Int × List Int)
  | 0, l => some ([], l)
  | n + 1, l => match rdN l with
    | none => none
    | some (x, r) => match rdNs n r with
      | none => none
      | some (xs, q) => some (x :: xs, q)
theorem rdNs_app : ∀ (xs : List Int) (_ : ∀ x ∈ xs, 0 ≤ x ∧ x ≤ 18446744073709551615) (r : List Int), rdNs xs.length (xs.flatMap b8 ++ r) = some (xs, r)
  | [], _, _ => rfl
  | x :: xs, h, r => by
    have hx := h x (by simp)
    have ih := rdNs_app xs (fun y hy => h y (by simp [hy])) r
    simp only [List.flatMap_cons, List.length_cons, List.append_assoc]
    rw [rdNs, rdN_app hx.1 hx.2]
    simp only [ih]
theorem rdNs_inv : ∀ (n : Nat) (l : List Int) (_ : ∀ y ∈ l, B y) (xs r : List Int), rdNs n l = some (xs, r) → l = xs.flatMap b8 ++ r ∧ xs.length = n ∧ ∀ x ∈ xs, 0 ≤ x ∧ x ≤ 18446744073709551615
  | 0, l, _, xs, r, h => by
    obtain ⟨h1, h2⟩ := Prod.mk.inj (Option.some.inj h)
    subst h1
    subst h2
    exact ⟨rfl, rfl, fun x h => by cases h⟩
  | n + 1, l, hb, xs, r, h => by
    rw [rdNs] at h
    cases h1 : rdN l with
    | none => simp [h1] at h
    | some p =>
      obtain ⟨x, q⟩ := p
      obtain ⟨e1, e2, e3⟩ := rdN_inv hb h1
      simp only [h1] at h
      cases h2 : rdNs n q with
      | none => simp [h2] at h
      | some p2 =>
        obtain ⟨ys, q2⟩ := p2
        simp only [h2] at h
        obtain ⟨h3, h4⟩ := Prod.mk.inj (Option.some.inj h)
        subst h3
        subst h4
        obtain ⟨i1, i2, i3⟩ := rdNs_inv n q (fun y hy => hb y (by rw [e1]; simp [hy])) ys q2 h2
        refine ⟨by rw [e1, i1]; simp, by simp [i2], fun z hz => ?_⟩
        rcases List.mem_cons.1 hz with rfl | hz
        · exact ⟨e2, e3⟩
        · exact i3 z hz
theorem rdNs_snoc : ∀ (n : Nat) (l : List Int), rdNs (n + 1) l = match rdNs n l with | none => none | some (xs, r) => match rdN r with | none => none | some (x, q) => some (xs ++ [x], q)
  | 0, l => by
    rw [rdNs]
    cases h1 : rdN l with
    | none => simp [rdNs, h1]
    | some p => obtain ⟨x, q⟩ := p; simp [rdNs, h1]
  | n + 1, l => by
    rw [rdNs]
    cases h1 : rdN l with
    | none => simp [rdNs, h1]
    | some p =>
      obtain ⟨x, q⟩ := p
      have ih := rdNs_snoc n q
      simp only [rdNs, h1] at ih ⊢
      rw [ih]
      cases h2 : rdNs n q with
      | none => rfl
      | some p2 =>
        obtain ⟨ys, q2⟩ := p2
        simp only
        cases h3 : rdN q2 with
        | none => rfl
        | some p3 => obtain ⟨z, q3⟩ := p3; rfl
theorem rdNs_some {n : Nat} {l xs r : List Int} (h : rdNs n l = some (xs, r)) : xs.length = n := by
  induction n generalizing l xs r with
  | zero => obtain ⟨h1, -⟩ := Prod.mk.inj (Option.some.inj h); rw [← h1]; rfl
  | succ n ih =>
    rw [rdNs_snoc] at h
    cases h1 : rdNs n l with
    | none => simp [h1] at h
    | some p =>
      obtain ⟨ys, q⟩ := p
      simp only [h1] at h
      cases h2 : rdN q with
      | none => simp [h2] at h
      | some p2 =>
        obtain ⟨x, q2⟩ := p2
        simp only [h2] at h
        obtain ⟨h3, -⟩ := Prod.mk.inj (Option.some.inj h)
        rw [← h3]; simp [ih h1]
/-- a number as one with a sign -/
def sgn (x : Int) : Int := if x < 9223372036854775808 then x else x - 18446744073709551616
/-- an object: class, hash, fields -/
def rdOb (l : List Int) : Option ((Int × Int × List Int) × List Int) := match rdNs 3 l with
  | none => none
  | some (xs, r) => if 512 < xs.getD 2 0 then none else match rdNs (xs.getD 2 0).toNat r with
    | none => none
    | some (fs, q) => some ((xs.getD 0 0, sgn (xs.getD 1 0), fs), q)
def rdObs : Nat → List Int → Option (List (Int × Int × List Int) × List Int)
  | 0, l => some ([], l)
  | n + 1, l => match rdOb l with
    | none => none
    | some (o, r) => match rdObs n r with
      | none => none
      | some (os, q) => some (o :: os, q)
theorem rdObs_snoc : ∀ (n : Nat) (l : List Int), rdObs (n + 1) l = match rdObs n l with | none => none | some (xs, r) => match rdOb r with | none => none | some (x, q) => some (xs ++ [x], q)
  | 0, l => by
    rw [rdObs]
    cases h1 : rdOb l with
    | none => simp [rdObs, h1]
    | some p => obtain ⟨x, q⟩ := p; simp [rdObs, h1]
  | n + 1, l => by
    rw [rdObs]
    cases h1 : rdOb l with
    | none => simp [rdObs, h1]
    | some p =>
      obtain ⟨x, q⟩ := p
      have ih := rdObs_snoc n q
      simp only [rdObs, h1] at ih ⊢
      rw [ih]
      cases h2 : rdObs n q with
      | none => rfl
      | some p2 =>
        obtain ⟨ys, q2⟩ := p2
        simp only
        cases h3 : rdOb q2 with
        | none => rfl
        | some p3 => obtain ⟨z, q3⟩ := p3; rfl
/-- what an image tells: root, hashes, objects; and what is left -/
def decQ (l : List Int) : Option ((Int × Int × List (Int × Int × List Int)) × List Int) :=
  if l.take 4 = [84, 80, 80, 84] then match rdNs 3 (l.drop 4) with
    | none => none
    | some (xs, r) => match rdObs (xs.getD 2 0).toNat r with
      | none => none
      | some (os, q) => some ((xs.getD 0 0, sgn (xs.getD 1 0), os), q)
  else none
def decI (l : List Int) : Option (Int × Int × List (Int × Int × List Int)) := match decQ l with
  | none => none
  | some (c, q) => if q = [] then some c else none
/-- the bytes of an object, of an image -/
def obB8 (o : Int × Int × List Int) : List Int := b8 o.1 ++ (b8 o.2.1 ++ (b8 o.2.2.length ++ o.2.2.flatMap b8))
def encI (root hashes : Int) (os : List (Int × Int × List Int)) : List Int := [84, 80, 80, 84] ++ (b8 root ++ (b8 hashes ++ (b8 os.length ++ os.flatMap obB8)))
def GoodOb (o : Int × Int × List Int) : Prop := (0 ≤ o.1 ∧ o.1 ≤ 18446744073709551615) ∧ (0 ≤ o.2.1 ∧ o.2.1 ≤ 9223372036854775807) ∧ o.2.2.length ≤ 512 ∧ ∀ x ∈ o.2.2, 0 ≤ x ∧ x ≤ 18446744073709551615
theorem three_app (a b c : Int) (ha : 0 ≤ a ∧ a ≤ 18446744073709551615) (hb : 0 ≤ b ∧ b ≤ 18446744073709551615) (hc : 0 ≤ c ∧ c ≤ 18446744073709551615) (r : List Int) : rdNs 3 (b8 a ++ (b8 b ++ (b8 c ++ r))) = some ([a, b, c], r) := by
  have := rdNs_app [a, b, c] (fun x hx => by simp at hx; rcases hx with rfl | rfl | rfl <;> assumption) r
  simpa using this
theorem sgn_id {x : Int} (h : x ≤ 9223372036854775807) : sgn x = x := by unfold sgn; rw [if_pos (by omega)]
theorem rdOb_app {o : Int × Int × List Int} (h : GoodOb o) (r : List Int) : rdOb (obB8 o ++ r) = some (o, r) := by
  obtain ⟨h1, h2, h3, h4⟩ := h
  obtain ⟨c, hs, fs⟩ := o
  simp only at h1 h2 h3 h4
  unfold rdOb obB8
  simp only [List.append_assoc]
  rw [three_app c hs fs.length h1 ⟨h2.1, by omega⟩ ⟨by omega, by omega⟩]
  simp only [List.getD_cons_zero, List.getD_cons_succ, Int.toNat_natCast]
  rw [if_neg (by omega), rdNs_app fs h4 r]
  simp only [sgn_id h2.2]
theorem rdObs_app : ∀ (os : List (Int × Int × List Int)) (_ : ∀ o ∈ os, GoodOb o) (r : List Int), rdObs os.length (os.flatMap obB8 ++ r) = some (os, r)
  | [], _, _ => rfl
  | o :: os, h, r => by
    have ih := rdObs_app os (fun y hy => h y (by simp [hy])) r
    simp only [List.flatMap_cons, List.length_cons, List.append_assoc]
    rw [rdObs, rdOb_app (h o (by simp))]
    simp only [ih]
theorem decQ_enc {root hashes : Int} {os : List (Int × Int × List Int)} (hr : 0 ≤ root ∧ root ≤ 18446744073709551615) (hh : 0 ≤ hashes ∧ hashes ≤ 9223372036854775807) (ho : ∀ o ∈ os, GoodOb o) (hn : os.length ≤ 65536) (x : List Int) : decQ (encI root hashes os ++ x) = some ((root, hashes, os), x) := by
  have e1 : (encI root hashes os ++ x).take 4 = [84, 80, 80, 84] := rfl
  have e2 : (encI root hashes os ++ x).drop 4 = b8 root ++ (b8 hashes ++ (b8 os.length ++ (os.flatMap obB8 ++ x))) := by
    show (b8 root ++ (b8 hashes ++ (b8 os.length ++ os.flatMap obB8))) ++ x = _
    simp only [List.append_assoc]
  unfold decQ
  rw [if_pos e1, e2, three_app root hashes os.length hr ⟨hh.1, by omega⟩ ⟨by omega, by omega⟩]
  simp only [List.getD_cons_zero, List.getD_cons_succ, Int.toNat_natCast]
  rw [rdObs_app os ho x]
  simp only [sgn_id hh.2]
/-- there and back -/
theorem dec_enc {root hashes : Int} {os : List (Int × Int × List Int)} (hr : 0 ≤ root ∧ root ≤ 18446744073709551615) (hh : 0 ≤ hashes ∧ hashes ≤ 9223372036854775807) (ho : ∀ o ∈ os, GoodOb o) (hn : os.length ≤ 65536) : decI (encI root hashes os) = some (root, hashes, os) := by
  have := decQ_enc hr hh ho hn []
  rw [List.append_nil] at this
  unfold decI
  rw [this]
  rfl
/-- more bytes -/
theorem dec_more {root hashes : Int} {os : List (Int × Int × List Int)} (hr : 0 ≤ root ∧ root ≤ 18446744073709551615) (hh : 0 ≤ hashes ∧ hashes ≤ 9223372036854775807) (ho : ∀ o ∈ os, GoodOb o) (hn : os.length ≤ 65536) {x : List Int} (hx : x ≠ []) : decI (encI root hashes os ++ x) = none := by
  unfold decI
  rw [decQ_enc hr hh ho hn x]
  simp only [if_neg hx]
theorem rdN_mono {l r : List Int} {x : Int} (t : List Int) (h : rdN l = some (x, r)) : rdN (l ++ t) = some (x, r ++ t) := by
  unfold rdN at h ⊢
  split at h
  · cases h
  · next hl =>
    obtain ⟨a, b, c, d, e, f, g, i, q, rfl⟩ := list8 (l := l) (by omega)
    obtain ⟨h1, h2⟩ := Prod.mk.inj (Option.some.inj h)
    rw [← h1, ← h2, if_neg (by simp)]
    rfl
theorem rdNs_mono : ∀ (n : Nat) (l xs r t : List Int), rdNs n l = some (xs, r) → rdNs n (l ++ t) = some (xs, r ++ t)
  | 0, l, xs, r, t, h => by
    obtain ⟨h1, h2⟩ := Prod.mk.inj (Option.some.inj h)
    rw [← h1, ← h2]; rfl
  | n + 1, l, xs, r, t, h => by
    rw [rdNs] at h ⊢
    cases h1 : rdN l with
    | none => simp [h1] at h
    | some p =>
      obtain ⟨x, q⟩ := p
      simp only [h1] at h
      rw [rdN_mono t h1]
      cases h2 : rdNs n q with
      | none => simp [h2] at h
      | some p2 =>
        obtain ⟨ys, q2⟩ := p2
        simp only [h2] at h
        obtain ⟨h3, h4⟩ := Prod.mk.inj (Option.some.inj h)
        simp only [rdNs_mono n q ys q2 t h2]
        rw [h3, h4]
theorem rdOb_mono {l r : List Int} {o : Int × Int × List Int} (t : List Int) (h : rdOb l = some (o, r)) : rdOb (l ++ t) = some (o, r ++ t) := by
  unfold rdOb at h ⊢
  cases h1 : rdNs 3 l with
  | none => simp [h1] at h
  | some p =>
    obtain ⟨xs, q⟩ := p
    simp only [h1] at h
    simp only [rdNs_mono 3 l xs q t h1]
    split at h
    · cases h
    · next hc =>
      rw [if_neg hc]
      cases h2 : rdNs (xs.getD 2 0).toNat q with
      | none => simp only [h2] at h; cases h
      | some p2 =>
        obtain ⟨fs, q2⟩ := p2
        simp only [h2] at h
        obtain ⟨h3, h4⟩ := Prod.mk.inj (Option.some.inj h)
        simp only [rdNs_mono _ q fs q2 t h2]
        rw [h3, h4]
theorem rdObs_mono : ∀ (n : Nat) (l : List Int) (os : List (Int × Int × List Int)) (r t : List Int), rdObs n l = some (os, r) → rdObs n (l ++ t) = some (os, r ++ t)
  | 0, l, os, r, t, h => by
    obtain ⟨h1, h2⟩ := Prod.mk.inj (Option.some.inj h)
    rw [← h1, ← h2]; rfl
  | n + 1, l, os, r, t, h => by
    rw [rdObs] at h ⊢
    cases h1 : rdOb l with
    | none => simp [h1] at h
    | some p =>
      obtain ⟨x, q⟩ := p
      simp only [h1] at h
      rw [rdOb_mono t h1]
      cases h2 : rdObs n q with
      | none => simp [h2] at h
      | some p2 =>
        obtain ⟨ys, q2⟩ := p2
        simp only [h2] at h
        obtain ⟨h3, h4⟩ := Prod.mk.inj (Option.some.inj h)
        simp only [rdObs_mono n q ys q2 t h2]
        rw [h3, h4]
theorem decQ_mono {l q : List Int} {c : Int × Int × List (Int × Int × List Int)} (t : List Int) (h : decQ l = some (c, q)) : decQ (l ++ t) = some (c, q ++ t) := by
  unfold decQ at h ⊢
  split at h
  · next hm =>
    have hl : 4 ≤ l.length := by
      have := congrArg List.length hm
      simp at this
      omega
    rw [List.take_append_of_le_length hl, if_pos hm, List.drop_append_of_le_length hl]
    cases h1 : rdNs 3 (l.drop 4) with
    | none => simp [h1] at h
    | some p =>
      obtain ⟨xs, r⟩ := p
      simp only [h1] at h
      simp only [rdNs_mono 3 _ xs r t h1]
      cases h2 : rdObs (xs.getD 2 0).toNat r with
      | none => simp only [h2] at h; cases h
      | some p2 =>
        obtain ⟨os, q2⟩ := p2
        simp only [h2] at h
        obtain ⟨h3, h4⟩ := Prod.mk.inj (Option.some.inj h)
        simp only [rdObs_mono _ r os q2 t h2]
        rw [h3, h4]
  · cases h
/-- fewer bytes -/
theorem dec_cut {root hashes : Int} {os : List (Int × Int × List Int)} (hr : 0 ≤ root ∧ root ≤ 18446744073709551615) (hh : 0 ≤ hashes ∧ hashes ≤ 9223372036854775807) (ho : ∀ o ∈ os, GoodOb o) (hn : os.length ≤ 65536) {k : Nat} (hk : k < (encI root hashes os).length) : decI ((encI root hashes os).take k) = none := by
  have h0 := decQ_enc hr hh ho hn []
  rw [List.append_nil] at h0
  unfold decI
  cases h : decQ ((encI root hashes os).take k) with
  | none => rfl
  | some p =>
    obtain ⟨c, q⟩ := p
    have h1 := decQ_mono ((encI root hashes os).drop k) h
    rw [List.take_append_drop, h0] at h1
    obtain ⟨-, h2⟩ := Prod.mk.inj (Option.some.inj h1)
    have h3 := congrArg List.length h2
    simp at h3
    omega
theorem rdOb_inv {l r : List Int} {o : Int × Int × List Int} (hb : ∀ y ∈ l, B y) (h : rdOb l = some (o, r)) (h0 : 0 ≤ o.2.1) : l = obB8 o ++ r ∧ GoodOb o := by
  unfold rdOb at h
  cases h1 : rdNs 3 l with
  | none => simp [h1] at h
  | some p =>
    obtain ⟨xs, q⟩ := p
    obtain ⟨e1, e2, e3⟩ := rdNs_inv 3 l hb xs q h1
    simp only [h1] at h
    match xs, e2 with
    | [a, b, c], _ =>
      simp only [List.getD_cons_zero, List.getD_cons_succ] at h
      split at h
      · cases h
      · next hc =>
        cases h2 : rdNs c.toNat q with
        | none => simp [h2] at h
        | some p2 =>
          obtain ⟨fs, q2⟩ := p2
          obtain ⟨i1, i2, i3⟩ := rdNs_inv _ q (fun y hy => hb y (by rw [e1]; simp [hy])) fs q2 h2
          simp only [h2] at h
          obtain ⟨h3, h4⟩ := Prod.mk.inj (Option.some.inj h)
          subst h3
          subst h4
          have ha := e3 a (by simp)
          have hb' := e3 b (by simp)
          have hc' := e3 c (by simp)
          simp only at h0
          have hs : sgn b = b ∧ b ≤ 9223372036854775807 := by
            unfold sgn at h0 ⊢
            split at h0
            · next hh => exact ⟨by rw [if_pos hh], by omega⟩
            · omega
          refine ⟨?_, ha, ⟨h0, by rw [hs.1]; exact hs.2⟩, by simp only; omega, i3⟩
          simp only [obB8, hs.1, i2]
          rw [e1, i1, show ((c.toNat : Nat) : Int) = c by omega]
          simp
theorem rdObs_inv : ∀ (n : Nat) (l : List Int) (_ : ∀ y ∈ l, B y) (os : List (Int × Int × List Int)) (r : List Int), rdObs n l = some (os, r) → (∀ o ∈ os, 0 ≤ o.2.1) → l = os.flatMap obB8 ++ r ∧ os.length = n ∧ ∀ o ∈ os, GoodOb o
  | 0, l, hb, os, r, h, h0 => by
    obtain ⟨h1, h2⟩ := Prod.mk.inj (Option.some.inj h)
    subst h1
    subst h2
    exact ⟨rfl, rfl, fun x h => by cases h⟩
  | n + 1, l, hb, os, r, h, h0 => by
    rw [rdObs] at h
    cases h1 : rdOb l with
    | none => simp [h1] at h
    | some p =>
      obtain ⟨x, q⟩ := p
      simp only [h1] at h
      cases h2 : rdObs n q with
      | none => simp [h2] at h
      | some p2 =>
        obtain ⟨ys, q2⟩ := p2
        simp only [h2] at h
        obtain ⟨h3, h4⟩ := Prod.mk.inj (Option.some.inj h)
        subst h3
        subst h4
        obtain ⟨e1, e2⟩ := rdOb_inv hb h1 (h0 x (by simp))
        obtain ⟨i1, i2, i3⟩ := rdObs_inv n q (fun y hy => hb y (by rw [e1]; simp [hy])) ys q2 h2 (fun o ho => h0 o (by simp [ho]))
        refine ⟨by rw [e1, i1]; simp, by simp [i2], fun z hz => ?_⟩
        rcases List.mem_cons.1 hz with rfl | hz
        · exact e2
        · exact i3 z hz
/-- no other bytes are that -/
theorem dec_inv {bs : List Int} {root hashes : Int} {os : List (Int × Int × List Int)} (hb : ∀ y ∈ bs, B y) (h : decI bs = some (root, hashes, os)) (h0 : 0 ≤ hashes) (ho : ∀ o ∈ os, 0 ≤ o.2.1) : bs = encI root hashes os := by
  unfold decI at h
  cases hq : decQ bs with
  | none => simp [hq] at h
  | some p =>
    obtain ⟨c, q⟩ := p
    simp only [hq] at h
    split at h
    · next he =>
      subst he
      obtain rfl := Option.some.inj h
      unfold decQ at hq
      split at hq
      · next hm =>
        have hd : ∀ y ∈ bs.drop 4, B y := fun y hy => hb y (List.mem_of_mem_drop hy)
        cases h1 : rdNs 3 (bs.drop 4) with
        | none => simp [h1] at hq
        | some p1 =>
          obtain ⟨xs, r⟩ := p1
          obtain ⟨e1, e2, e3⟩ := rdNs_inv 3 _ hd xs r h1
          simp only [h1] at hq
          match xs, e2 with
          | [a, b, c], _ =>
            simp only [List.getD_cons_zero, List.getD_cons_succ] at hq
            cases h2 : rdObs c.toNat r with
            | none => simp [h2] at hq
            | some p2 =>
              obtain ⟨os2, q2⟩ := p2
              simp only [h2] at hq
              obtain ⟨h3, h4⟩ := Prod.mk.inj (Option.some.inj hq)
              obtain ⟨h5, h6⟩ := Prod.mk.inj h3
              obtain ⟨h7, h8⟩ := Prod.mk.inj h6
              subst h4
              subst h5
              subst h8
              obtain ⟨i1, i2, i3⟩ := rdObs_inv _ r (fun y hy => hd y (by rw [e1]; simp [hy])) os2 [] h2 ho
              have hb' := e3 b (by simp)
              have hc' := e3 c (by simp)
              have hs : hashes = b := by
                rw [← h7] at h0 ⊢
                unfold sgn at h0 ⊢
                split at h0
                · next hh => rw [if_pos hh]
                · omega
              rw [← List.take_append_drop 4 bs, hm, e1, i1]
              unfold encI
              rw [hs, i2, show ((c.toNat : Nat) : Int) = c by omega]
              simp
      · cases hq
    · cases h
/-- how many bytes an image has -/
theorem flat8_len (l : List Int) : (l.flatMap b8).length = 8 * l.length := by
  induction l with
  | nil => rfl
  | cons a l ih => simp only [List.flatMap_cons, List.length_append, ih, b8_len, List.length_cons]; omega
theorem obB8_len (o : Int × Int × List Int) : (obB8 o).length = 8 * (3 + o.2.2.length) := by
  simp only [obB8, List.length_append, b8_len, flat8_len]; omega
def words3 (os : List (Int × Int × List Int)) : Nat := (os.map fun o => 3 + o.2.2.length).sum
theorem encI_len (root hashes : Int) (os : List (Int × Int × List Int)) : (encI root hashes os).length = 28 + 8 * words3 os := by
  have h : (os.flatMap obB8).length = 8 * words3 os := by
    unfold words3
    induction os with
    | nil => rfl
    | cons a l ih => simp only [List.flatMap_cons, List.length_append, ih, obB8_len, List.map_cons, List.sum_cons]; omega
  simp only [encI, List.length_append, b8_len, h, List.length_cons, List.length_nil]
  omega
end Go.Proofs.YtomcfjckhajhmabGreatDoor
