/- The program's heap and the document's, side by side: both made since a world, their blocks apart; what one of them does leaves the other. What one reader answers on both heaps: the same. What one writer does to both heaps: the same. -/
import Derived.Test.YtofhgfgipdokbaaGreatDoorMRanges
import Derived.Test.YtofhgfgipdokbaaGreatDoorMRefs
import Derived.Test.YtofhgfgipdokbaaGreatDoorMLoading
namespace Go.Proofs.YtofhgfgipdokbaaGreatDoor
open Go.RowKit

/-- the program's heap at hb (memory m at mb) and the document's at rb (r), made since w0, apart; what else is kept: X -/
def Two (w0 : World) (X : List (Nat × Obj)) (hb mb rb : Nat) (m : Mem) (r : RH) (W : World) : Prop :=
  ∃ wv sv lv, (∀ p ∈ X, W.heap[p.1]? = some p.2 ∧ p.1 ≠ hb ∧ p.1 ∉ foot mb wv sv ∧ p.1 ∉ rfoot rb r lv) ∧ HeapAt W hb mb m wv sv ∧ RefAt W rb r lv ∧ Fr [] w0 W ∧ w0.heap.size ≤ hb ∧ (∀ k ∈ foot mb wv sv, w0.heap.size ≤ k) ∧ (∀ k ∈ rfoot rb r lv, w0.heap.size ≤ k) ∧ hb ∉ rfoot rb r lv ∧ ∀ k ∈ rfoot rb r lv, k ∉ foot mb wv sv
section
variable {w0 W W' : World} {X : List (Nat × Obj)} {hb mb rb : Nat} {m m' : Mem} {r r' : RH}
theorem Two.still (h : Two w0 X hb mb rb m r W) (hF : Fr [] W W') : Two w0 X hb mb rb m r W' := by
  obtain ⟨wv, sv, lv, hX, hH, hR, hF0, h1, h2, h3, h4, h5⟩ := h
  exact ⟨wv, sv, lv, fun p hp => ⟨hF.heap (by simp) (hX p hp).1, (hX p hp).2⟩, hH.fr hF (by simp) (fun _ _ => by simp), hR.fr0 hF, hF0.trans hF, h1, h2, h3, h4, h5⟩
theorem Two.fr (h : Two w0 X hb mb rb m r W) : Fr [] w0 W := by obtain ⟨_, _, _, _, _, _, h, _⟩ := h; exact h
theorem Two.most (h : Two w0 X hb mb rb m r W) : m.W.length ≤ 65536 ∧ m.M.length = m.W.length := by obtain ⟨_, _, _, _, h, _⟩ := h; exact ⟨h.mem.most, h.mem.alike⟩
/-- the program's heap alone does something that leaves all as it was -/
theorem two_still {f : Nat} {args : Array Value} {v : Value} (h : Two w0 X hb mb rb m r W) (hc : ∀ wv sv, Opens (.pointer (some ⟨hb, 0, none⟩)) mb m wv sv W → Calls Tryz.prog f args W (Still v W)) :
    Calls Tryz.prog f args W fun e W' => e = .returned v ∧ Two w0 X hb mb rb m r W' := by
  obtain ⟨wv, sv, lv, hX, hH, hR, hF0, h1, h2, h3, h4, h5⟩ := h
  refine (hc wv sv (memory_at hH)).mono ?_
  rintro e W' ⟨rfl, hF⟩
  exact ⟨rfl, Two.still ⟨wv, sv, lv, hX, hH, hR, hF0, h1, h2, h3, h4, h5⟩ hF⟩
/-- the program's heap turns into another -/
theorem two_turns {f : Nat} {args : Array Value} {v : Value} (h : Two w0 X hb mb rb m r W) (hc : ∀ wv sv, Opens (.pointer (some ⟨hb, 0, none⟩)) mb m wv sv W → Calls Tryz.prog f args W (Turns v mb m' (foot mb wv sv) W)) :
    Calls Tryz.prog f args W fun e W' => e = .returned v ∧ Two w0 X hb mb rb m' r W' := by
  obtain ⟨wv, sv, lv, hX, hH, hR, hF0, h1, h2, h3, h4, h5⟩ := h
  refine (hc wv sv (memory_at hH)).mono ?_
  rintro e W' ⟨rfl, wv', sv', hM, hF, hfr⟩
  refine ⟨rfl, wv', sv', lv, fun p hp => ⟨hF.heap (hX p hp).2.2.1 (hX p hp).1, (hX p hp).2.1, fun hk => (hfr _ hk).elim (hX p hp).2.2.1 (fun hl => by have := lt_of_heap (hX p hp).1; omega), (hX p hp).2.2.2⟩, ⟨hF.heap hH.apart hH.heap, hM⟩, hR.fr hF h5, hF0.join hF h2, h1, fun k hk => ?_, h3, h4, fun k hk hk' => ?_⟩
  · rcases hfr k hk with h | h
    · exact h2 k h
    · exact Nat.le_trans hF0.size h
  · rcases hfr k hk' with h | h
    · exact h5 k hk h
    · have := hR.lt k hk; omega
/-- the document's heap does something that draws alone -/
theorem two_gives {f : Nat} {args : Array Value} {v : Value} (h : Two w0 X hb mb rb m r W) (hc : ∀ lv, RefAt W rb r lv → Calls Tryz.prog f args W (Gives v W)) :
    Calls Tryz.prog f args W fun e W' => e = .returned v ∧ Two w0 X hb mb rb m r W' := by
  obtain ⟨wv, sv, lv, hX, hH, hR, hF0, h1, h2, h3, h4, h5⟩ := h
  refine (hc lv hR).mono ?_
  rintro e W' ⟨rfl, rfl⟩
  exact ⟨rfl, wv, sv, lv, hX, hH, hR, hF0, h1, h2, h3, h4, h5⟩
theorem two_rstill {f : Nat} {args : Array Value} {v : Value} (h : Two w0 X hb mb rb m r W) (hc : ∀ lv, RefAt W rb r lv → Calls Tryz.prog f args W (Still v W)) :
    Calls Tryz.prog f args W fun e W' => e = .returned v ∧ Two w0 X hb mb rb m r W' := by
  obtain ⟨wv, sv, lv, hX, hH, hR, hF0, h1, h2, h3, h4, h5⟩ := h
  refine (hc lv hR).mono ?_
  rintro e W' ⟨rfl, hF⟩
  exact ⟨rfl, Two.still ⟨wv, sv, lv, hX, hH, hR, hF0, h1, h2, h3, h4, h5⟩ hF⟩
/-- the document's heap turns into another -/
theorem Two.rturn {v : Value} {wv sv lv : Value} {e : Ending} (hX : ∀ p ∈ X, W.heap[p.1]? = some p.2 ∧ p.1 ≠ hb ∧ p.1 ∉ foot mb wv sv ∧ p.1 ∉ rfoot rb r lv) (hH : HeapAt W hb mb m wv sv) (hF0 : Fr [] w0 W) (h1 : w0.heap.size ≤ hb) (h2 : ∀ k ∈ foot mb wv sv, w0.heap.size ≤ k) (h3 : ∀ k ∈ rfoot rb r lv, w0.heap.size ≤ k) (h4 : hb ∉ rfoot rb r lv) (h5 : ∀ k ∈ rfoot rb r lv, k ∉ foot mb wv sv)
    (hT : RTurns v rb r' (rfoot rb r lv) W e W') : e = .returned v ∧ Two w0 X hb mb rb m r' W' := by
  obtain ⟨rfl, lv', hR', hF, hfr⟩ := hT
  refine ⟨rfl, wv, sv, lv', fun p hp => ⟨hF.heap (hX p hp).2.2.2 (hX p hp).1, (hX p hp).2.1, (hX p hp).2.2.1, fun hk => (hfr _ hk).elim (hX p hp).2.2.2 (fun hl => by have := lt_of_heap (hX p hp).1; omega)⟩, hH.fr hF h4 (fun k hk hk' => h5 k hk' hk), hR', hF0.join hF h3, h1, h2, fun k hk => ?_, fun hk => ?_, fun k hk hk' => ?_⟩
  · rcases hfr k hk with h | h
    · exact h3 k h
    · exact Nat.le_trans hF0.size h
  · rcases hfr hb hk with h | h
    · exact h4 h
    · have := lt_of_heap hH.heap; omega
  · rcases hfr k hk with h | h
    · exact h5 k h hk'
    · have := hH.mem.lt k hk'; omega
theorem two_rturns {f : Nat} {args : Array Value} {v : Value} (h : Two w0 X hb mb rb m r W) (hc : ∀ lv, RefAt W rb r lv → Calls Tryz.prog f args W (RTurns v rb r' (rfoot rb r lv) W)) :
    Calls Tryz.prog f args W fun e W' => e = .returned v ∧ Two w0 X hb mb rb m r' W' := by
  obtain ⟨wv, sv, lv, hX, hH, hR, hF0, h1, h2, h3, h4, h5⟩ := h
  refine (hc lv hR).mono ?_
  intro e W' hT
  exact Two.rturn hX hH hF0 h1 h2 h3 h4 h5 hT
/-- both are made -/
theorem two_new {w : World} {lv : Value} (hL : Live w hb mb m W) (hF : Fr [] W W') (hR : RefAt W' rb r lv) (hnew : ∀ k ∈ rfoot rb r lv, W.heap.size ≤ k) : Two w [] hb mb rb m r W' := by
  obtain ⟨wv, sv, hH, hF0, h1, h2⟩ := hL
  refine ⟨wv, sv, lv, (fun _ h => by cases h), hH.fr hF (by simp) (fun _ _ => by simp), hR, hF0.trans hF, h1, h2, fun k hk => Nat.le_trans hF0.size (hnew k hk), fun hk => ?_, fun k hk hk' => ?_⟩
  · have := hnew hb hk; have := lt_of_heap hH.heap; omega
  · have := hnew k hk; have := hH.mem.lt k hk'; omega
/-- one block more is kept -/
theorem Two.keep (h : Two w0 X hb mb rb m r W) (o : Obj) : Two w0 ((W.heap.size, o) :: X) hb mb rb m r (W.alloc o) := by
  obtain ⟨wv, sv, lv, hX, hH, hR, hF0, h1, h2, h3, h4, h5⟩ := h
  refine ⟨wv, sv, lv, fun p hp => ?_, hH.fr ((Fr.refl [] W).alloc o) (by simp) (fun _ _ => by simp), hR.fr0 ((Fr.refl [] W).alloc o), hF0.alloc o, h1, h2, h3, h4, h5⟩
  rcases List.mem_cons.1 hp with rfl | hp
  · exact ⟨heap_new _ _, fun e => by have := lt_of_heap hH.heap; simp only at e; omega, fun hk => by have := hH.mem.lt _ hk; simp at this, fun hk => by have := hR.lt _ hk; simp at this⟩
  · exact ⟨((Fr.refl [] W).alloc o).heap (by simp) (hX p hp).1, (hX p hp).2⟩
theorem Two.kept (h : Two w0 X hb mb rb m r W) {p : Nat × Obj} (hp : p ∈ X) : W.heap[p.1]? = some p.2 := by
  obtain ⟨_, _, _, hX, _⟩ := h
  exact (hX p hp).1
/-- a block that was made since W0 is kept -/
theorem Two.keepOld {W0 : World} (h0 : Two w0 X hb mb rb m r W0) (hF : Fr [] W0 W) {k : Nat} {o : Obj} (hk : W0.heap.size ≤ k) (ho : W.heap[k]? = some o) : Two w0 ((k, o) :: X) hb mb rb m r W := by
  obtain ⟨wv, sv, lv, hX, hH, hR, hF0, h1, h2, h3, h4, h5⟩ := h0
  refine ⟨wv, sv, lv, fun p hp => ?_, hH.fr hF (by simp) (fun _ _ => by simp), hR.fr0 hF, hF0.trans hF, h1, h2, h3, h4, h5⟩
  rcases List.mem_cons.1 hp with rfl | hp
  · exact ⟨ho, fun e => by have := lt_of_heap hH.heap; simp only at e; omega, fun hk' => by have := hH.mem.lt _ hk'; simp only at this; omega, fun hk' => by have := hR.lt _ hk'; simp only at this; omega⟩
  · exact ⟨hF.heap (by simp) (hX p hp).1, (hX p hp).2⟩
theorem Two.less {p : Nat × Obj} (h : Two w0 (p :: X) hb mb rb m r W) : Two w0 X hb mb rb m r W := by
  obtain ⟨wv, sv, lv, hX, rest⟩ := h
  exact ⟨wv, sv, lv, fun q hq => hX q (List.mem_cons_of_mem _ hq), rest⟩
end
end Go.Proofs.YtofhgfgipdokbaaGreatDoor
namespace Go.Proofs.YtofhgfgipdokbaaGreatDoor
open Go.RowKit
section
variable {w0 : World} {hb mb rb : Nat} {lim root hashes : Int} {os : List Ob} {l : List RO}

/-- an answer: a number; a truth; a number and an error -/
def IsInt1 (v : Value) : Prop := ∃ a, v = .int .i64 a
def IsBool1 (v : Value) : Prop := ∃ b, v = .bool b
def IsTwo (k : IntKind) (v : Value) : Prop := ∃ a e, v = .tuple #[.int k a, .int .i64 e]
/-- two calls, of the program's heap and of the document's, that answer the same and leave both as they are -/
def Same (Sh : Value → Prop) (w0 : World) (hb mb rb : Nat) (m : Mem) (r : RH) (f g : Nat) (args : List Value) : Prop :=
  ∃ v, Sh v ∧ (∀ W X, Two w0 X hb mb rb m r W → Calls Tryz.prog f (#[.pointer (some ⟨hb, 0, none⟩)] ++ args.toArray) W fun e W' => e = .returned v ∧ Two w0 X hb mb rb m r W') ∧
    (∀ W X, Two w0 X hb mb rb m r W → Calls Tryz.prog g (#[.pointer (some ⟨rb, 0, none⟩)] ++ args.toArray) W fun e W' => e = .returned v ∧ Two w0 X hb mb rb m r W')
theorem findR_none (ha : RAgree 1 l os) {x : Int} (hx : stB (absMem lim os root hashes).M x = false) : findR l x = none := by
  have := agree_has ha lim root hashes x
  rw [hx] at this
  cases hf : findR l x with
  | none => rfl
  | some r => rw [hf] at this; cases this
theorem endOf_pos (pre : List Ob) : 1 ≤ endOf pre := by unfold endOf; omega
theorem endOf_lt (pre post : List Ob) (o : Ob) : endOf pre + 3 + o.2.2.length ≤ endOf (pre ++ o :: post) := by
  unfold endOf
  rw [flatW_append, flatW_cons, List.length_append, List.length_append, wordsOb_len]
  omega
theorem same_has (ha : RAgree 1 l os) (x : Int) (h1 : 0 ≤ x) (h2 : x ≤ 18446744073709551615) : Same IsBool1 w0 hb mb rb (absMem lim os root hashes) ⟨lim, l, root, hashes⟩ 82 46 [.int .u64 x] :=
  ⟨.bool (stB (absMem lim os root hashes).M x), ⟨_, rfl⟩, fun _ _ h => two_still h fun _ _ hO => has_still hO x h1 h2, fun W _ h => two_gives h fun lv hR => by
    have := rhas hR x h1 h2
    rw [agree_has ha lim root hashes x] at this
    exact this⟩
theorem same_fetch (hg : Glob w0) (ha : RAgree 1 l os) (hlen : endOf os ≤ 65536) (x k : Int) (h1 : 0 ≤ x) (h2 : x ≤ 18446744073709551615) (k1 : -9223372036854775808 ≤ k) (k2 : k ≤ 9223372036854775807) : Same (IsTwo .u64) w0 hb mb rb (absMem lim os root hashes) ⟨lim, l, root, hashes⟩ 88 56 [.int .u64 x, .int .i64 k] := by
  cases hx : stB (absMem lim os root hashes).M x
  · refine ⟨.tuple #[.int .u64 0, .int .i64 1], ⟨_, _, rfl⟩, fun _ _ h => two_still h fun _ _ hO => fetch_no hO (hg.fr h.fr) x k h1 h2 hx, fun W _ h => two_gives h fun lv hR => ?_⟩
    have := rfetch hR x k h1 h2 k1 k2
    unfold fieldR at this
    rw [findR_none ha hx] at this
    exact this
  · obtain ⟨pre, o, post, r, rfl, rfl, hf, -, hr⟩ := agree_at ha lim root hashes hx
    have hp := endOf_pos pre
    have hq := endOf_lt pre post o
    by_cases hk : 0 ≤ k ∧ k < o.2.2.length
    · obtain ⟨j, rfl⟩ : ∃ j : Nat, k = j := ⟨k.toNat, by omega⟩
      have hj : j < o.2.2.length := by omega
      refine ⟨.tuple #[.int .u64 o.2.2[j], .int .i64 0], ⟨_, _, rfl⟩, fun _ _ h => two_still h fun _ _ hO => fetch_yes hO (endOf pre) o.2.2.length j o.2.2[j] abs_mark hp abs_size (by omega) hj (by rw [abs_field j hj]; exact List.getElem?_eq_getElem hj), fun W _ h => two_gives h fun lv hR => ?_⟩
      have := rfetch hR _ j h1 h2 k1 k2
      unfold fieldR at this
      simp only [hf] at this
      have e : r.fs = o.2.2 := by rw [← hr]; rfl
      rw [if_pos hk.1, Int.toNat_natCast, e, List.getElem?_eq_getElem hj] at this
      exact this
    · refine ⟨.tuple #[.int .u64 0, .int .i64 1], ⟨_, _, rfl⟩, fun _ _ h => two_still h fun _ _ hO => fetch_far hO (hg.fr h.fr) (endOf pre) o.2.2.length k abs_mark hp abs_size (by omega) (by omega) k1 k2, fun W _ h => two_gives h fun lv hR => ?_⟩
      have := rfetch hR _ k h1 h2 k1 k2
      unfold fieldR at this
      simp only [hf] at this
      have e : r.fs = o.2.2 := by rw [← hr]; rfl
      have he : (if 0 ≤ k then r.fs[k.toNat]? else none) = none := by
        split
        · exact List.getElem?_eq_none_iff.2 (by rw [e]; omega)
        · rfl
      rw [he] at this
      exact this
end
end Go.Proofs.YtofhgfgipdokbaaGreatDoor
namespace Go.Proofs.YtofhgfgipdokbaaGreatDoor
open Go.RowKit

theorem RAgree.set {p : Nat} {l : List RO} {pre post : List Ob} {o o' : Ob} {r r' : RO} (h : RAgree p l (pre ++ o :: post)) (hr : l[pre.length]? = some r) (ho : r'.ob = o') (hp : r'.pos = r.pos) (hl : o'.2.2.length = o.2.2.length) : RAgree p (l.set pre.length r') (pre ++ o' :: post) := by
  induction pre generalizing p l with
  | nil =>
    cases l with
    | nil => exact h.elim
    | cons q l =>
      obtain ⟨h1, h2, h3⟩ := h
      simp at hr
      subst hr
      exact ⟨ho, by rw [hp, h2], by rw [hl]; exact h3⟩
  | cons a pre ih =>
    cases l with
    | nil => exact h.elim
    | cons q l =>
      obtain ⟨h1, h2, h3⟩ := h
      exact ⟨h1, h2, ih h3 (by simpa using hr)⟩
theorem RAgree.snoc {p : Nat} {l : List RO} {os : List Ob} {r : RO} {o : Ob} (h : RAgree p l os) (ho : r.ob = o) (hp : r.pos = p + (flatW os).length) : RAgree p (l ++ [r]) (os ++ [o]) := by
  induction l generalizing p os with
  | nil =>
    cases os with
    | nil => exact ⟨ho, by simpa [flatW] using hp, trivial⟩
    | cons => exact h.elim
  | cons q l ih =>
    cases os with
    | nil => exact h.elim
    | cons a os =>
      obtain ⟨h1, h2, h3⟩ := h
      exact ⟨h1, h2, ih h3 (by rw [hp, flatW_cons, List.length_append, wordsOb_len]; omega)⟩
theorem agree_may {l : List RO} {os : List Ob} (h : RAgree 1 l os) (lim root hashes x : Int) : mayR l x = okB (absMem lim os root hashes).M x := by
  unfold mayR okB
  rw [agree_has h lim root hashes x]
  cases stB (absMem lim os root hashes).M x <;> cases decide (x = 0) <;> cases odd x <;> rfl
/-- what holds of the objects at all times -/
structure OInv (lim : Int) (os : List Ob) (hashes : Int) : Prop where
  l1 : 64 ≤ lim
  l2 : lim ≤ 65536
  fit : (endOf os : Int) ≤ lim
  h0 : 0 ≤ hashes
  h1 : hashes ≤ 1099511627775
  each : ∀ o ∈ os, 0 ≤ o.2.1 ∧ o.2.1 ≤ hashes
  bd : ∀ o ∈ os, ObB o
  uq : HashOk (os.map fun o => o.2.1) hashes
theorem bd_set {pre post : List Ob} {o o' : Ob} (h : ∀ p ∈ pre ++ o :: post, ObB p) (ho : ObB o') : ∀ p ∈ pre ++ o' :: post, ObB p := by
  intro p hp
  rcases List.mem_append.1 hp with hp | hp
  · exact h p (List.mem_append_left _ hp)
  · rcases List.mem_cons.1 hp with rfl | hp
    · exact ho
    · exact h p (by simp [hp])
theorem ObB.store {o : Ob} (h : ObB o) (j : Nat) {c : Int} (hc : WB c) : ObB (o.1, o.2.1, o.2.2.set j c) :=
  ⟨h.1, fun x hx => by
    rcases List.mem_or_eq_of_mem_set hx with hx | rfl
    · exact h.2 x hx
    · exact hc⟩
section
variable {w0 : World} {hb mb rb : Nat} {lim root hashes : Int} {os : List Ob} {l : List RO}
/-- two calls that answer the same, behind which both heaps hold the same again -/
def Moves (Sh : Value → Prop) (w0 : World) (hb mb rb : Nat) (lim : Int) (os : List Ob) (l : List RO) (root hashes : Int) (f g : Nat) (args : List Value) : Prop :=
  ∃ v os' root' hashes', Sh v ∧ OInv lim os' hashes' ∧
    (∀ W X, Two w0 X hb mb rb (absMem lim os root hashes) ⟨lim, l, root, hashes⟩ W → Calls Tryz.prog f (#[.pointer (some ⟨hb, 0, none⟩)] ++ args.toArray) W fun e W' => e = .returned v ∧ Two w0 X hb mb rb (absMem lim os' root' hashes') ⟨lim, l, root, hashes⟩ W') ∧
    (∀ W X, Two w0 X hb mb rb (absMem lim os' root' hashes') ⟨lim, l, root, hashes⟩ W → Calls Tryz.prog g (#[.pointer (some ⟨rb, 0, none⟩)] ++ args.toArray) W fun e W' => e = .returned v ∧ ∃ l', RAgree 1 l' os' ∧ Two w0 X hb mb rb (absMem lim os' root' hashes') ⟨lim, l', root', hashes'⟩ W')
/-- a call that leaves both as they are -/
theorem Same.moves {Sh : Value → Prop} {f g : Nat} {args : List Value} (hI : OInv lim os hashes) (ha : RAgree 1 l os) (h : Same Sh w0 hb mb rb (absMem lim os root hashes) ⟨lim, l, root, hashes⟩ f g args) : Moves Sh w0 hb mb rb lim os l root hashes f g args := by
  obtain ⟨v, hs, h1, h2⟩ := h
  exact ⟨v, os, root, hashes, hs, hI, h1, fun W X hW => (h2 W X hW).mono fun e W' ⟨he, hT⟩ => ⟨he, l, ha, hT⟩⟩
theorem each_set {hs' : Int} {pre post : List Ob} {o o' : Ob} (h : ∀ p ∈ pre ++ o :: post, 0 ≤ p.2.1 ∧ p.2.1 ≤ hashes) (hle : hashes ≤ hs') (ho : 0 ≤ o'.2.1 ∧ o'.2.1 ≤ hs') : ∀ p ∈ pre ++ o' :: post, 0 ≤ p.2.1 ∧ p.2.1 ≤ hs' := by
  intro p hp
  rcases List.mem_append.1 hp with hp | hp
  · have := h p (List.mem_append_left _ hp); omega
  · rcases List.mem_cons.1 hp with rfl | hp
    · exact ho
    · have := h p (by simp [hp]); omega
theorem endOf_set {pre post : List Ob} {o o' : Ob} (hl : o'.2.2.length = o.2.2.length) : endOf (pre ++ o' :: post) = endOf (pre ++ o :: post) := by
  simp only [endOf, flatW_append, flatW_cons, List.length_append, wordsOb_len, hl]
end
end Go.Proofs.YtofhgfgipdokbaaGreatDoor
