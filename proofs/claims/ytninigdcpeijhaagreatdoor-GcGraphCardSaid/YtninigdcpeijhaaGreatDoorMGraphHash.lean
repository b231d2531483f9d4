/- Hashes that are given on both sides of a run: the graph does not hang on them. -/
import Derived.Test.YtninigdcpeijhaaGreatDoorMGcTwiceWalk
namespace Go.Proofs.YtninigdcpeijhaaGreatDoor
open Go.RowKit

theorem split_one {pre pre' post post' : List Ob} {o o' : Ob} (h : pre ++ o :: post = pre' ++ o' :: post') (he : endOf pre = endOf pre') : pre = pre' ∧ o = o' ∧ post = post' := by
  have hl : pre.length = pre'.length := by
    refine end_take_inj (os := pre ++ o :: post) (by simp) (by rw [h]; simp) ?_
    rw [List.take_left', h, List.take_left', he] <;> rfl
  obtain ⟨h1, h2⟩ := List.append_inj h hl
  cases h2
  exact ⟨h1, rfl, rfl⟩
/-- what Hash does to a heap's objects -/
def HC (os : List Ob) (n x a er : Int) (os' : List Ob) (n' : Int) : Prop :=
  (lookP 1 os x = none ∧ a = 0 ∧ er = 1 ∧ os' = os ∧ n' = n) ∨ ∃ pre o post, os = pre ++ o :: post ∧ x = 2 * (endOf pre : Int) ∧
    ((o.2.1 ≠ 0 ∧ a = o.2.1 ∧ er = 0 ∧ os' = os ∧ n' = n) ∨ (o.2.1 = 0 ∧ n = 1099511627775 ∧ a = 0 ∧ er = 2 ∧ os' = os ∧ n' = n) ∨ (o.2.1 = 0 ∧ n ≠ 1099511627775 ∧ a = n + 1 ∧ er = 0 ∧ os' = pre ++ (o.1, n + 1, o.2.2) :: post ∧ n' = n + 1))
theorem hash_any {W : World} {hb mb : Nat} {lim root n : Int} {os : List Ob} {wv sv : Value} (hg : Glob W) (hI : OInv lim os n) (hH : HeapAt W hb mb (absMem lim os root n) wv sv) (x : Int) (hx : WB x) :
    Calls Tryz.prog 31 #[.pointer (some ⟨hb, 0, none⟩), .int .u64 x] W fun e W' => ∃ a er os' n' wv' sv', e = .returned (.tuple #[.int .i64 a, .int .i64 er]) ∧ HC os n x a er os' n' ∧ OInv lim os' n' ∧ HeapAt W' hb mb (absMem lim os' root n') wv' sv' ∧ Fr (foot mb wv sv) W W' ∧ ∀ k ∈ foot mb wv' sv', k ∈ foot mb wv sv ∨ W.heap.size ≤ k := by
  have he : endOf os ≤ 65536 := by have := hI.fit; have := hI.l2; omega
  cases hl : lookP 1 os x with
  | none =>
    have hs : stB (marksOf os) x = false := by rw [stB_look he, hl]; rfl
    refine (hash_no (memory_at hH) hg x hx.1 hx.2 hs).mono ?_
    rintro e W' ⟨rfl, hF⟩
    exact ⟨0, 1, os, n, wv, sv, rfl, .inl ⟨hl, rfl, rfl, rfl, rfl⟩, hI, hH.fr hF (by simp) (fun _ _ => by simp), hF.weak, fun k hk => .inl hk⟩
  | some o =>
    obtain ⟨pre, post, rfl, rfl⟩ := lookP_split hl
    have h4 : (1 + (flatW pre).length) = endOf pre := rfl
    rw [h4]
    have hp := endOf_pos pre
    have hq := endOf_lt pre post o
    have hh0 := hI.h0
    have hh1 := hI.h1
    have ho' := hI.each o (by simp)
    have hfoot : ∀ {W' : World} {wv' sv' : Value}, Fr (foot mb wv sv) W W' → W'.heap[hb]? = some (.cells #[.pointer (some ⟨mb, 0, none⟩)] 97 (0, 0)) := fun hF => hF.heap hH.apart hH.heap
    by_cases hz : o.2.1 = 0
    · have hz0 : (absMem lim (pre ++ o :: post) root n).W[endOf pre + 1]? = some 0 := by rw [abs_hash, hz]
      by_cases hfull : n = 1099511627775
      · refine (hash_full (memory_at hH) hg (endOf pre) abs_mark hp (by omega) hz0 hfull).mono ?_
        rintro e W' ⟨rfl, hF⟩
        exact ⟨0, 2, _, n, wv, sv, rfl, .inr ⟨pre, o, post, rfl, rfl, .inr (.inl ⟨hz, hfull, rfl, rfl, rfl, rfl⟩)⟩, hI, hH.fr hF (by simp) (fun _ _ => by simp), hF.weak, fun k hk => .inl hk⟩
      · have hset := abs_set (lim := lim) (root := root) (hashes := n + 1) (pre := pre) (post := post) (o := o) 1 (n + 1) (o.1, n + 1, o.2.2) rfl (by omega) (by simp [wordsOb])
        refine (hash_new (memory_at hH) (endOf pre) abs_mark hp (by omega) hz0 hh0 (by show n < _; omega)).mono ?_
        rintro e W' ⟨rfl, wv', sv', hM, hF, hft⟩
        refine ⟨n + 1, 0, pre ++ (o.1, n + 1, o.2.2) :: post, n + 1, wv', sv', rfl, .inr ⟨pre, o, post, rfl, rfl, .inr (.inr ⟨hz, hfull, rfl, rfl, rfl, rfl⟩)⟩, ?_, ⟨hfoot (wv' := wv) (sv' := sv) hF, ?_⟩, hF, hft⟩
        · exact ⟨hI.l1, hI.l2, by rw [endOf_set (o := o) (o' := (o.1, n + 1, o.2.2)) rfl]; exact hI.fit, by omega, by omega, each_set hI.each (by omega) ⟨by simp only; omega, Int.le_refl _⟩, bd_set hI.bd (hI.bd o (by simp)), by have := hI.uq.give (by omega) pre.length; simpa using this⟩
        · rw [← hset]
          exact hM
    · refine (hash_has (memory_at hH) (endOf pre) o.2.1 abs_mark hp (by omega) abs_hash (by omega) (by omega)).mono ?_
      rintro e W' ⟨rfl, hF⟩
      exact ⟨o.2.1, 0, _, n, wv, sv, rfl, .inr ⟨pre, o, post, rfl, rfl, .inl ⟨hz, rfl, rfl, rfl, rfl⟩⟩, hI, hH.fr hF (by simp) (fun _ _ => by simp), hF.weak, fun k hk => .inl hk⟩

/-! one hash set -/
theorem lookP_set {p : Nat} {pre post : List Ob} {o o' : Ob} (hl : o'.2.2.length = o.2.2.length) (x : Int) : (∀ a, lookP p (pre ++ o :: post) x = some a → ∃ b, lookP p (pre ++ o' :: post) x = some b ∧ (b = a ∨ (a = o ∧ b = o'))) ∧ (lookP p (pre ++ o :: post) x = none → lookP p (pre ++ o' :: post) x = none) := by
  induction pre generalizing p with
  | nil =>
    simp only [List.nil_append, lookP]
    by_cases e : x = 2 * (p : Int)
    · rw [if_pos e, if_pos e]
      exact ⟨fun a h => by cases h; exact ⟨o', rfl, .inr ⟨rfl, rfl⟩⟩, fun h => by cases h⟩
    · rw [if_neg e, if_neg e, hl]
      exact ⟨fun a h => ⟨a, h, .inl rfl⟩, fun h => h⟩
  | cons c pre ih =>
    simp only [List.cons_append, lookP]
    by_cases e : x = 2 * (p : Int)
    · rw [if_pos e, if_pos e]
      exact ⟨fun a h => ⟨a, h, .inl rfl⟩, fun h => h⟩
    · rw [if_neg e, if_neg e]
      exact ih
theorem newP_set {keep : Int → Bool} {p q : Nat} {pre post : List Ob} {o o' : Ob} (hl : o'.2.2.length = o.2.2.length) (x : Int) : newP keep p q (pre ++ o' :: post) x = newP keep p q (pre ++ o :: post) x := by
  induction pre generalizing p q with
  | nil => simp only [List.nil_append, newP, hl]
  | cons c pre ih => simp only [List.cons_append, newP, ih]
theorem moveW_set {keep : Int → Bool} {pre post : List Ob} {o o' : Ob} (hl : o'.2.2.length = o.2.2.length) : moveW keep (pre ++ o' :: post) = moveW keep (pre ++ o :: post) := by
  funext x
  unfold moveW
  rw [newP_set hl]
theorem marks_set {pre post : List Ob} {o o' : Ob} (hl : o'.2.2.length = o.2.2.length) : marksOf (pre ++ o' :: post) = marksOf (pre ++ o :: post) := by
  unfold marksOf
  rw [flatM_append, flatM_append, flatM_cons, flatM_cons]
  simp [marksOb, hl]
/-- the heap ahead of a run, and what stays of it -/
structure GInv (os : List Ob) (n root : Int) (keep : Int → Bool) (f : Int → Int) : Prop where
  inv : OInv 4096 os n
  wo : wordsOk os root = true
  cl : Closed keep os
  ko : ∀ v, keep v = true → (lookP 1 os v).isSome = true
  mv : moveW keep os = f
  s5 : ∀ o ∈ os, o.2.2.length ≤ 512
theorem GInv.set {pre post : List Ob} {o : Ob} {n n' h root : Int} {keep : Int → Bool} {f : Int → Int} (g : GInv (pre ++ o :: post) n root keep f) (hI : OInv 4096 (pre ++ (o.1, h, o.2.2) :: post) n') : GInv (pre ++ (o.1, h, o.2.2) :: post) n' root keep f := by
  have hl : (o.1, h, o.2.2).2.2.length = o.2.2.length := rfl
  have back : ∀ x a, lookP 1 (pre ++ (o.1, h, o.2.2) :: post) x = some a → ∃ b, lookP 1 (pre ++ o :: post) x = some b ∧ b.1 = a.1 ∧ b.2.2 = a.2.2 := fun x a ha => by
    obtain ⟨b, hb, rfl | ⟨e1, e2⟩⟩ := (lookP_set (o := (o.1, h, o.2.2)) (o' := o) rfl x).1 a ha
    · exact ⟨b, hb, rfl, rfl⟩
    · exact ⟨b, hb, by rw [e1, e2], by rw [e1, e2]⟩
  have fwd : ∀ x, (lookP 1 (pre ++ o :: post) x).isSome = true → (lookP 1 (pre ++ (o.1, h, o.2.2) :: post) x).isSome = true := fun x hx => by
    obtain ⟨a, ha⟩ := Option.isSome_iff_exists.1 hx
    obtain ⟨b, hb, -⟩ := (lookP_set (p := 1) (pre := pre) (post := post) hl x).1 a ha
    rw [hb]; rfl
  have bwd : ∀ x, (lookP 1 (pre ++ (o.1, h, o.2.2) :: post) x).isSome = true → (lookP 1 (pre ++ o :: post) x).isSome = true := fun x hx => by
    obtain ⟨a, ha⟩ := Option.isSome_iff_exists.1 hx
    obtain ⟨b, hb, -⟩ := back x a ha
    rw [hb]; rfl
  have hmem : ∀ a ∈ pre ++ (o.1, h, o.2.2) :: post, ∃ b ∈ pre ++ o :: post, b.1 = a.1 ∧ b.2.2 = a.2.2 := fun a ha => by
    rcases List.mem_append.1 ha with ha | ha
    · exact ⟨a, by simp [ha], rfl, rfl⟩
    · rcases List.mem_cons.1 ha with rfl | ha
      · exact ⟨o, by simp, rfl, rfl⟩
      · exact ⟨a, by simp [ha], rfl, rfl⟩
  refine ⟨hI, ?_, fun x a hx hk y hy hs => ?_, fun v hv => fwd v (g.ko v hv), by rw [moveW_set hl]; exact g.mv, fun a ha => ?_⟩
  · obtain ⟨h1, h2⟩ := wordsOk_of g.wo
    refine wordsOk_mk (fun a ha => ?_) ?_
    · obtain ⟨b, hb, e1, e2⟩ := hmem a ha
      rw [marks_set hl, ← e1, ← e2]
      exact h1 b hb
    · rw [marks_set hl]
      exact h2
  · obtain ⟨b, hb, e1, e2⟩ := back x a hx
    exact g.cl x b hb hk y (by rw [e1, e2]; exact hy) (bwd y hs)
  · obtain ⟨b, hb, e1, e2⟩ := hmem a ha
    rw [← e2]
    exact g.s5 b hb
theorem left_split {keep : Int → Bool} {pre post : List Ob} {o : Ob} (hk : keep (2 * (endOf pre : Int)) = true) : keepL keep 1 (pre ++ o :: post) = keepL keep 1 pre ++ o :: keepL keep (1 + (flatW pre).length + 3 + o.2.2.length) post := by
  rw [keepL_app]
  have : (2 * ((1 + (flatW pre).length : Nat) : Int)) = 2 * (endOf pre : Int) := rfl
  simp only [keepL]
  rw [if_pos (by rw [this]; exact hk)]
/-- both give the same hash -/
theorem hash_both {os os' oh' : List Ob} {n n' n2 root x a er a2 er2 : Int} {keep : Int → Bool} {f : Int → Int} (g : GInv os n root keep f) (hI' : OInv 4096 os' n') (hx : (lookP 1 os x).isSome = true → keep x = true) (hx2 : (lookP 1 os x).isSome = false → x = 0 ∨ x % 2 = 1) (h1 : HC os n x a er os' n') (h2 : HC (leftObs keep os) n (f x) a2 er2 oh' n2) :
    a2 = a ∧ er2 = er ∧ n2 = n' ∧ oh' = leftObs keep os' ∧ GInv os' n' root keep f := by
  rcases h1 with ⟨hl, rfl, rfl, rfl, rfl⟩ | ⟨pre, o, post, rfl, rfl, h1⟩
  · have hfx : f x = x := by rw [← g.mv]; exact move_word (by rw [hl]; rfl)
    have h0 := hx2 (by rw [hl]; rfl)
    rcases h2 with ⟨-, rfl, rfl, rfl, rfl⟩ | ⟨pre', o', post', -, hx', -⟩
    · exact ⟨rfl, rfl, rfl, rfl, g⟩
    · rw [hfx] at hx'
      have := endOf_pos pre'
      omega
  · have hsome : (lookP 1 (pre ++ o :: post) (2 * (endOf pre : Int))).isSome = true := by
      have := lookP_at (p := 1) (pre := pre) (post := post) (o := o)
      have e : (2 * ((1 + (flatW pre).length : Nat) : Int)) = 2 * (endOf pre : Int) := rfl
      rw [e] at this
      rw [this]; rfl
    have hk := hx hsome
    have hkl := left_split (post := post) (o := o) hk
    have hnp : f (2 * (endOf pre : Int)) = 2 * (endOf (keepL keep 1 pre) : Int) := by
      have := newP_at (keep := keep) (p := 1) (q := 1) (pre := pre) (post := post) (o := o) hk
      rw [← g.mv]
      unfold moveW
      have e : (2 * ((1 + (flatW pre).length : Nat) : Int)) = 2 * (endOf pre : Int) := rfl
      rw [e] at this
      rw [this]
      rfl
    have hleft : leftObs keep (pre ++ o :: post) = (keepL keep 1 pre).map (moveOb f) ++ moveOb f o :: (keepL keep (1 + (flatW pre).length + 3 + o.2.2.length) post).map (moveOb f) := by
      unfold leftObs
      rw [hkl, g.mv]
      simp
    have hend : endOf ((keepL keep 1 pre).map (moveOb f)) = endOf (keepL keep 1 pre) := by unfold endOf; rw [flatW_map]
    rw [hnp] at h2
    rcases h2 with ⟨hl2, -⟩ | ⟨pre', o', post', he, hx', h2⟩
    · have := lookP_at (p := 1) (pre := (keepL keep 1 pre).map (moveOb f)) (post := (keepL keep (1 + (flatW pre).length + 3 + o.2.2.length) post).map (moveOb f)) (o := moveOb f o)
      have e : (2 * ((1 + (flatW ((keepL keep 1 pre).map (moveOb f))).length : Nat) : Int)) = 2 * (endOf (keepL keep 1 pre) : Int) := by rw [← hend]; rfl
      rw [e, ← hleft, hl2] at this
      cases this
    · rw [hleft] at he
      obtain ⟨rfl, rfl, rfl⟩ := split_one he (by rw [hend]; omega)
      have hh : (moveOb f o).2.1 = o.2.1 := rfl
      rw [hh] at h2
      rcases h1 with ⟨z1, rfl, rfl, rfl, rfl⟩ | ⟨z1, z2, rfl, rfl, rfl, rfl⟩ | ⟨z1, z2, rfl, rfl, rfl, rfl⟩
      · rcases h2 with ⟨y1, rfl, rfl, rfl, rfl⟩ | ⟨y1, -⟩ | ⟨y1, -⟩
        · exact ⟨rfl, rfl, rfl, rfl, g⟩
        · exact absurd y1 z1
        · exact absurd y1 z1
      · rcases h2 with ⟨y1, -⟩ | ⟨y1, y2, rfl, rfl, rfl, rfl⟩ | ⟨y1, y2, -⟩
        · exact absurd z1 y1
        · exact ⟨rfl, rfl, rfl, rfl, g⟩
        · exact absurd z2 y2
      · rcases h2 with ⟨y1, -⟩ | ⟨y1, y2, -⟩ | ⟨y1, y2, rfl, rfl, rfl, rfl⟩
        · exact absurd z1 y1
        · exact absurd y2 z2
        · refine ⟨rfl, rfl, rfl, ?_, g.set hI'⟩
          unfold leftObs
          rw [left_split (o := (o.1, n + 1, o.2.2)) hk, moveW_set (o := o) (o' := (o.1, n + 1, o.2.2)) rfl, g.mv]
          simp [moveOb]
end Go.Proofs.YtninigdcpeijhaaGreatDoor
