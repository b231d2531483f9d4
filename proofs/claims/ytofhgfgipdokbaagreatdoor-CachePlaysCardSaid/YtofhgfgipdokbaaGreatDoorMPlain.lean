/- Objects that are kept and moved together: plain. What a run of gc reaches, and where it goes: plain. -/
import Derived.Test.YtofhgfgipdokbaaGreatDoorMLoading
import Derived.Test.YtofhgfgipdokbaaGreatDoorMSnaps
namespace Go.Proofs.YtofhgfgipdokbaaGreatDoor

/-- the object that begins at a word's place -/
def lookP : Nat → List Ob → Int → Option Ob
  | _, [], _ => none
  | p, o :: l, x => if x = 2 * (p : Int) then some o else lookP (p + 3 + o.2.2.length) l x
/-- where it begins when only the objects of keep are left -/
def newP (keep : Int → Bool) : Nat → Nat → List Ob → Int → Option Nat
  | _, _, [], _ => none
  | p, q, o :: l, x => if x = 2 * (p : Int) then (if keep x then some q else none) else newP keep (p + 3 + o.2.2.length) (if keep (2 * (p : Int)) then q + 3 + o.2.2.length else q) l x
def keepL (keep : Int → Bool) : Nat → List Ob → List Ob
  | _, [] => []
  | p, o :: l => if keep (2 * (p : Int)) then o :: keepL keep (p + 3 + o.2.2.length) l else keepL keep (p + 3 + o.2.2.length) l
/-- a word as it leads then -/
def moveW (keep : Int → Bool) (os : List Ob) (x : Int) : Int := match newP keep 1 1 os x with | some q => 2 * (q : Int) | none => x
def moveOb (f : Int → Int) (o : Ob) : Ob := (f o.1, o.2.1, o.2.2.map f)
/-- what is left -/
def leftObs (keep : Int → Bool) (os : List Ob) : List Ob := (keepL keep 1 os).map (moveOb (moveW keep os))

theorem lookP_ge {p : Nat} {os : List Ob} {x : Int} {o : Ob} (h : lookP p os x = some o) : 2 * (p : Int) ≤ x ∧ ∃ k : Nat, x = 2 * (k : Int) ∧ p ≤ k ∧ k + 3 + o.2.2.length ≤ p + (flatW os).length := by
  induction os generalizing p with
  | nil => cases h
  | cons a l ih =>
    rw [flatW_cons, List.length_append, wordsOb_len]
    unfold lookP at h
    split at h
    · rename_i hx
      cases h
      exact ⟨by omega, p, hx, Nat.le_refl _, by omega⟩
    · obtain ⟨h1, k, hk, h2, h3⟩ := ih h
      exact ⟨by omega, k, hk, by omega, by omega⟩
theorem lookP_mem {p : Nat} {os : List Ob} {x : Int} {o : Ob} (h : lookP p os x = some o) : o ∈ os := by
  induction os generalizing p with
  | nil => cases h
  | cons a l ih =>
    unfold lookP at h
    split at h
    · cases h; simp
    · exact List.mem_cons_of_mem _ (ih h)
theorem lookP_at {p : Nat} {pre post : List Ob} {o : Ob} : lookP p (pre ++ o :: post) (2 * ((p + (flatW pre).length : Nat) : Int)) = some o := by
  induction pre generalizing p with
  | nil => simp [lookP, flatW]
  | cons a pre ih =>
    rw [flatW_cons, List.length_append, wordsOb_len]
    simp only [List.cons_append, lookP]
    rw [if_neg (by omega)]
    have := ih (p := p + 3 + a.2.2.length)
    rw [show p + 3 + a.2.2.length + (flatW pre).length = p + (3 + a.2.2.length + (flatW pre).length) by omega] at this
    exact this
theorem lookP_split {p : Nat} {os : List Ob} {x : Int} {o : Ob} (h : lookP p os x = some o) : ∃ pre post, os = pre ++ o :: post ∧ x = 2 * ((p + (flatW pre).length : Nat) : Int) := by
  induction os generalizing p with
  | nil => cases h
  | cons a l ih =>
    unfold lookP at h
    split at h
    · rename_i hx
      cases h
      exact ⟨[], l, rfl, by simpa [flatW] using hx⟩
    · obtain ⟨pre, post, rfl, hx⟩ := ih h
      refine ⟨a :: pre, post, rfl, ?_⟩
      rw [flatW_cons, List.length_append, wordsOb_len]
      omega
/-- a word leads to an object just where one is found -/
theorem stB_look {os : List Ob} (hl : endOf os ≤ 65536) (x : Int) : stB (marksOf os) x = (lookP 1 os x).isSome := by
  cases hs : stB (marksOf os) x
  · cases hk : lookP 1 os x with
    | none => rfl
    | some o =>
      obtain ⟨pre, post, rfl, rfl⟩ := lookP_split hk
      have hm := abs_mark (lim := 0) (root := 0) (hashes := 0) (pre := pre) (post := post) (o := o)
      have hlt : endOf pre + 3 + o.2.2.length ≤ endOf (pre ++ o :: post) := by
        unfold endOf
        rw [flatW_append, flatW_cons, List.length_append, List.length_append, wordsOb_len]
        omega
      have := stB_mk (M := marksOf (pre ++ o :: post)) (k := endOf pre) (by unfold endOf; omega) (by omega) hm
      unfold endOf at this
      rw [this] at hs
      cases hs
  · obtain ⟨k, rfl, k1, k2, hk⟩ := stB_at hs
    obtain ⟨pre, o, post, rfl, rfl⟩ := abs_start (lim := 0) (root := 0) (hashes := 0) hk
    have := lookP_at (p := 1) (pre := pre) (post := post) (o := o)
    unfold endOf
    rw [this]
    rfl
theorem newP_some {keep : Int → Bool} {p q : Nat} {os : List Ob} {x : Int} {o : Ob} (h : lookP p os x = some o) (hk : keep x = true) : ∃ r, newP keep p q os x = some r := by
  induction os generalizing p q with
  | nil => cases h
  | cons a l ih =>
    unfold lookP at h
    unfold newP
    split
    · exact ⟨q, rfl⟩
    · rename_i hx
      rw [if_neg hx] at h
      exact ih h
theorem newP_look {keep : Int → Bool} {p q r : Nat} {os : List Ob} {x : Int} (h : newP keep p q os x = some r) : keep x = true ∧ ∃ o, lookP p os x = some o := by
  induction os generalizing p q with
  | nil => cases h
  | cons a l ih =>
    unfold newP at h
    unfold lookP
    split at h
    · rename_i hx
      split at h
      · rename_i hk
        rw [if_pos hx]
        exact ⟨hk, a, rfl⟩
      · cases h
    · rename_i hx
      rw [if_neg hx]
      exact ih h
/-- the new place lies within what is left, and is no further behind -/
theorem newP_le {keep : Int → Bool} {p q r : Nat} {os : List Ob} {x : Int} (hqp : q ≤ p) (h : newP keep p q os x = some r) : q ≤ r ∧ 2 * (r : Int) ≤ x := by
  induction os generalizing p q with
  | nil => cases h
  | cons a l ih =>
    unfold newP at h
    split at h
    · rename_i hx
      split at h
      · cases h; exact ⟨Nat.le_refl _, by omega⟩
      · cases h
    · split at h
      · have := ih (by omega) h; exact ⟨by omega, this.2⟩
      · have := ih (by omega) h; exact ⟨by omega, this.2⟩
/-- the order stays -/
theorem newP_lt {keep : Int → Bool} {p q r s : Nat} {os : List Ob} {x y : Int} (hx : newP keep p q os x = some r) (hy : newP keep p q os y = some s) (h : x < y) : r < s := by
  induction os generalizing p q with
  | nil => cases hx
  | cons a l ih =>
    have hyl := newP_look hy
    have hxl := newP_look hx
    unfold newP at hx hy
    by_cases e1 : x = 2 * (p : Int)
    · rw [if_pos e1, if_pos hxl.1] at hx
      cases hx
      rw [if_neg (by omega)] at hy
      rw [e1] at hxl
      rw [if_pos hxl.1] at hy
      have key : ∀ (os : List Ob) (p q s : Nat), newP keep p q os y = some s → q ≤ s := by
        intro os
        induction os with
        | nil => intro p q s h; cases h
        | cons b m ih2 =>
          intro p q s h
          unfold newP at h
          split at h
          · split at h
            · cases h; exact Nat.le_refl _
            · cases h
          · split at h
            · have := ih2 _ _ _ h; omega
            · exact ih2 _ _ _ h
      have := key _ _ _ _ hy
      omega
    · have e2 : y ≠ 2 * (p : Int) := by
        intro e2
        obtain ⟨o, ho⟩ := hxl.2
        have := (lookP_ge ho).1
        omega
      rw [if_neg e1] at hx
      rw [if_neg e2] at hy
      exact ih hx hy
/-- what is found at the new place -/
theorem look_keep {keep : Int → Bool} {f : Int → Int} {p q r : Nat} {os : List Ob} {x : Int} {o : Ob} (h : lookP p os x = some o) (hn : newP keep p q os x = some r) : lookP q ((keepL keep p os).map (moveOb f)) (2 * (r : Int)) = some (moveOb f o) := by
  induction os generalizing p q with
  | nil => cases h
  | cons a l ih =>
    unfold lookP at h
    unfold newP at hn
    unfold keepL
    by_cases e : x = 2 * (p : Int)
    · rw [if_pos e] at h hn
      cases h
      split at hn
      · rename_i hk
        cases hn
        rw [e] at hk
        rw [if_pos hk]
        simp [lookP]
      · cases hn
    · rw [if_neg e] at h hn
      by_cases hk : keep (2 * (p : Int)) = true
      · rw [if_pos hk] at hn ⊢
        simp only [List.map_cons, lookP]
        have hlen : (moveOb f a).2.2.length = a.2.2.length := by simp [moveOb]
        rw [hlen, if_neg]
        · exact ih h hn
        · have key : ∀ (os : List Ob) (p q s : Nat), newP keep p q os x = some s → q ≤ s := by
            intro os
            induction os with
            | nil => intro p q s h; cases h
            | cons b m ih2 =>
              intro p q s h
              unfold newP at h
              split at h
              · split at h
                · cases h; exact Nat.le_refl _
                · cases h
              · split at h
                · have := ih2 _ _ _ h; omega
                · exact ih2 _ _ _ h
          have := key _ _ _ _ hn
          omega
      · rw [if_neg hk] at hn ⊢
        exact ih h hn
/-- whatever is found then was kept -/
theorem look_left {keep : Int → Bool} {f : Int → Int} {p q : Nat} {os : List Ob} {y : Int} {o' : Ob} (h : lookP q ((keepL keep p os).map (moveOb f)) y = some o') : ∃ x o r, lookP p os x = some o ∧ keep x = true ∧ newP keep p q os x = some r ∧ y = 2 * (r : Int) ∧ o' = moveOb f o := by
  induction os generalizing p q with
  | nil => cases h
  | cons a l ih =>
    unfold keepL at h
    by_cases hk : keep (2 * (p : Int)) = true
    · rw [if_pos hk] at h
      simp only [List.map_cons, lookP] at h
      have hlen : (moveOb f a).2.2.length = a.2.2.length := by simp [moveOb]
      rw [hlen] at h
      by_cases e : y = 2 * (q : Int)
      · rw [if_pos e] at h
        cases h
        refine ⟨2 * (p : Int), a, q, by simp [lookP], hk, by simp [newP, hk], e, rfl⟩
      · rw [if_neg e] at h
        obtain ⟨x, o, r, h1, h2, h3, h4, h5⟩ := ih h
        have hge := (lookP_ge h1).1
        refine ⟨x, o, r, ?_, h2, ?_, h4, h5⟩
        · unfold lookP; rw [if_neg (by omega)]; exact h1
        · unfold newP; rw [if_neg (by omega), if_pos hk]; exact h3
    · rw [if_neg hk] at h
      obtain ⟨x, o, r, h1, h2, h3, h4, h5⟩ := ih h
      have hge := (lookP_ge h1).1
      refine ⟨x, o, r, ?_, h2, ?_, h4, h5⟩
      · unfold lookP; rw [if_neg (by omega)]; exact h1
      · unfold newP; rw [if_neg (by omega), if_neg hk]; exact h3
theorem keepL_sub (keep : Int → Bool) (p : Nat) (os : List Ob) : (keepL keep p os).Sublist os := by
  induction os generalizing p with
  | nil => exact List.Sublist.slnil
  | cons a l ih =>
    unfold keepL
    split
    · exact (ih _).cons_cons _
    · exact (ih _).cons _
theorem flatW_map (f : Int → Int) (l : List Ob) : (flatW (l.map (moveOb f))).length = (flatW l).length := by
  induction l with
  | nil => rfl
  | cons a l ih => simp only [List.map_cons, flatW_cons, List.length_append, wordsOb_len, ih]; simp [moveOb]
theorem flatW_sub {l m : List Ob} (h : l.Sublist m) : (flatW l).length ≤ (flatW m).length := by
  induction h with
  | slnil => exact Nat.le_refl _
  | cons a _ ih => rw [flatW_cons, List.length_append]; omega
  | cons_cons a _ ih => rw [flatW_cons, flatW_cons, List.length_append, List.length_append]; omega
theorem end_left (keep : Int → Bool) (os : List Ob) : endOf (leftObs keep os) ≤ endOf os := by
  unfold endOf leftObs
  rw [flatW_map]
  have := flatW_sub (keepL_sub keep 1 os)
  omega
/-- hashes of a part of a list -/
theorem HashOk.sub {l m : List Int} {n : Int} (h : HashOk m n) (hs : l.Sublist m) : HashOk l n := by
  have pw : ∀ {m : List Int}, (∀ i, okAt m n i) → m.Pairwise (fun a b => 0 < b → a ≠ b) := by
    intro m hm
    rw [List.pairwise_iff_getElem]
    intro i j hi hj hij hp e
    exact (hm j _ (List.getElem?_eq_getElem hj)).2.2 i hij hp (by rw [List.getElem?_eq_getElem hi, e])
  have bd : ∀ x ∈ m, 0 ≤ x ∧ x ≤ n := by
    intro x hx
    obtain ⟨i, hi⟩ := List.getElem?_of_mem hx
    have := h.2.2 i x hi
    exact ⟨this.1, this.2.1⟩
  have pl := (pw h.2.2).sublist hs
  refine ⟨h.1, h.2.1, fun i x hx => ?_⟩
  have hb := bd x (hs.subset (List.mem_of_getElem? hx))
  refine ⟨hb.1, hb.2, fun k hk hp hkx => ?_⟩
  obtain ⟨hi, e1⟩ := List.getElem?_eq_some_iff.1 hx
  obtain ⟨hk', e2⟩ := List.getElem?_eq_some_iff.1 hkx
  exact (List.pairwise_iff_getElem.1 pl) k i hk' hi hk (by rw [e1]; exact hp) (by rw [e1, e2])
theorem hash_left {keep : Int → Bool} {os : List Ob} {n : Int} (h : HashOk (os.map fun o => o.2.1) n) : HashOk ((leftObs keep os).map fun o => o.2.1) n := by
  have e : (leftObs keep os).map (fun o => o.2.1) = (keepL keep 1 os).map (fun o => o.2.1) := by simp [leftObs, moveOb]
  rw [e]
  exact h.sub ((keepL_sub keep 1 os).map _)
theorem size_left {keep : Int → Bool} {os : List Ob} {z : Nat} (h : ∀ o ∈ os, o.2.2.length ≤ z) : ∀ o ∈ leftObs keep os, o.2.2.length ≤ z := by
  intro o ho
  obtain ⟨a, ha, rfl⟩ := List.mem_map.1 ho
  have := h a ((keepL_sub keep 1 os).subset ha)
  simpa [moveOb] using this
/-- what is kept is closed: a kept object's class and fields that lead to objects lead to kept ones -/
def Closed (keep : Int → Bool) (os : List Ob) : Prop := ∀ x o, lookP 1 os x = some o → keep x = true → ∀ y, (y = o.1 ∨ y ∈ o.2.2) → (lookP 1 os y).isSome = true → keep y = true
theorem okB_look {os : List Ob} (hl : endOf os ≤ 65536) (x : Int) : okB (marksOf os) x = ((lookP 1 os x).isSome || decide (x = 0) || odd x) := by
  unfold okB
  rw [stB_look hl]
theorem mem_keepL {keep : Int → Bool} {p : Nat} {os : List Ob} {o : Ob} (h : o ∈ keepL keep p os) : ∃ x, lookP p os x = some o ∧ keep x = true := by
  induction os generalizing p with
  | nil => cases h
  | cons a l ih =>
    unfold keepL at h
    have rest : ∀ h' : o ∈ keepL keep (p + 3 + a.2.2.length) l, ∃ x, lookP p (a :: l) x = some o ∧ keep x = true := by
      intro h'
      obtain ⟨x, hx, hk⟩ := ih h'
      have := (lookP_ge hx).1
      exact ⟨x, by unfold lookP; rw [if_neg (by omega)]; exact hx, hk⟩
    split at h
    · rename_i hk
      rcases List.mem_cons.1 h with rfl | h
      · exact ⟨2 * (p : Int), by simp [lookP], hk⟩
      · exact rest h
    · exact rest h
theorem ok_move {keep : Int → Bool} {os : List Ob} (hl : endOf os ≤ 65536) {x : Int} (h : okB (marksOf os) x = true) (hk : (lookP 1 os x).isSome = true → keep x = true) : okB (marksOf (leftObs keep os)) (moveW keep os x) = true := by
  have hl' : endOf (leftObs keep os) ≤ 65536 := Nat.le_trans (end_left keep os) hl
  rw [okB_look hl']
  rw [okB_look hl] at h
  cases ho : lookP 1 os x with
  | some o =>
    obtain ⟨r, hr⟩ := newP_some (q := 1) ho (hk (by rw [ho]; rfl))
    have := look_keep (f := moveW keep os) ho hr
    unfold moveW
    rw [hr]
    show ((lookP 1 (leftObs keep os) (2 * (r : Int))).isSome || _ || _) = true
    unfold leftObs
    rw [this]
    rfl
  | none =>
    rw [ho] at h
    have hn : newP keep 1 1 os x = none := by
      cases hn : newP keep 1 1 os x with
      | none => rfl
      | some r => obtain ⟨-, o, ho'⟩ := newP_look hn; rw [ho] at ho'; cases ho'
    unfold moveW
    rw [hn]
    simp only [Option.isSome_none, Bool.false_or] at h ⊢
    cases (lookP 1 (leftObs keep os) x).isSome <;> simp_all
theorem words_left {keep : Int → Bool} {os : List Ob} {root : Int} (hl : endOf os ≤ 65536) (h : wordsOk os root = true) (hc : Closed keep os) (hr : (lookP 1 os root).isSome = true → keep root = true) : wordsOk (leftObs keep os) (moveW keep os root) = true := by
  obtain ⟨h1, h2⟩ := wordsOk_of h
  refine wordsOk_mk (fun o ho => ?_) ?_
  · obtain ⟨a, ha, rfl⟩ := List.mem_map.1 ho
    obtain ⟨x, hx, hk⟩ := mem_keepL ha
    have hm := h1 a (lookP_mem hx)
    refine ⟨ok_move hl hm.1 (fun hy => hc x a hx hk _ (.inl rfl) hy), fun y hy => ?_⟩
    obtain ⟨z, hz, rfl⟩ := List.mem_map.1 hy
    exact ok_move hl (hm.2 z hz) (fun hy => hc x a hx hk _ (.inr hz) hy)
  · have hl' : endOf (leftObs keep os) ≤ 65536 := Nat.le_trans (end_left keep os) hl
    rw [stB_look hl'] 
    rw [stB_look hl] at h2
    rcases h2 with rfl | h2
    · left
      have hn : newP keep 1 1 os 0 = none := by
        cases hn : newP keep 1 1 os 0 with
        | none => rfl
        | some r => obtain ⟨-, o, ho'⟩ := newP_look hn; have := (lookP_ge ho').1; omega
      unfold moveW
      rw [hn]
    · right
      obtain ⟨o, ho⟩ := Option.isSome_iff_exists.1 h2
      obtain ⟨r, hn⟩ := newP_some (q := 1) ho (hr h2)
      have := look_keep (f := moveW keep os) ho hn
      unfold moveW
      rw [hn]
      show (lookP 1 (leftObs keep os) (2 * (r : Int))).isSome = true
      unfold leftObs
      rw [this]
      rfl
end Go.Proofs.YtofhgfgipdokbaaGreatDoor
namespace Go.Proofs.YtofhgfgipdokbaaGreatDoor

/-- what a run reaches -/
inductive Rch (os : List Ob) (rts : List Int) : Int → Prop where
  | root {y : Int} : y ∈ rts → (lookP 1 os y).isSome = true → Rch os rts y
  | step {x y : Int} {o : Ob} : Rch os rts x → lookP 1 os x = some o → (y = o.1 ∨ y ∈ o.2.2) → (lookP 1 os y).isSome = true → Rch os rts y
theorem Rch.obj {os : List Ob} {rts : List Int} {x : Int} (h : Rch os rts x) : (lookP 1 os x).isSome = true := by cases h <;> assumption
theorem Rch.mono {os : List Ob} {rts rts' : List Int} {x : Int} (h : Rch os rts x) (hs : ∀ y ∈ rts, y ∈ rts') : Rch os rts' x := by
  induction h with
  | root h1 h2 => exact .root (hs _ h1) h2
  | step _ h2 h3 h4 ih => exact .step ih h2 h3 h4
open Classical in
noncomputable def keepR (os : List Ob) (rts : List Int) (x : Int) : Bool := decide (Rch os rts x)
theorem keepR_iff {os : List Ob} {rts : List Int} {x : Int} : keepR os rts x = true ↔ Rch os rts x := by simp [keepR]
theorem keepR_closed (os : List Ob) (rts : List Int) : Closed (keepR os rts) os := fun _ _ ho hk _ hy hs => keepR_iff.2 (.step (keepR_iff.1 hk) ho hy hs)

/-- one word that is reached: what is noted, and what is pending -/
def reach1 (M : List Bool) (s : List Int × List Int) (x : Int) : List Int × List Int := if x ∈ s.1 ∨ stB M x = false then s else (s.1 ++ [x], s.2 ++ [x])
def reachL (M : List Bool) (s : List Int × List Int) (xs : List Int) : List Int × List Int := xs.foldl (reach1 M) s
theorem reachL_app (M : List Bool) (s : List Int × List Int) (xs ys : List Int) : reachL M s (xs ++ ys) = reachL M (reachL M s xs) ys := List.foldl_append
theorem reachL_next {M : List Bool} {s : List Int × List Int} {xs : List Int} {k : Nat} {x : Int} (h : xs[k]? = some x) : reachL M s (xs.take (k + 1)) = reach1 M (reachL M s (xs.take k)) x := by
  rw [List.take_add_one, h]
  exact reachL_app _ _ _ _
/-- what holds of what is noted and pending on any way -/
structure RW (M : List Bool) (s : List Int × List Int) : Prop where
  n1 : s.1.Nodup
  n2 : s.2.Nodup
  sub : ∀ x ∈ s.2, x ∈ s.1
  obj : ∀ x ∈ s.1, stB M x = true
theorem RW.one {M : List Bool} {s : List Int × List Int} (h : RW M s) (x : Int) : RW M (reach1 M s x) := by
  unfold reach1
  split
  · exact h
  · rename_i hx
    have h1 : x ∉ s.1 := fun e => hx (.inl e)
    have h2 : stB M x = true := by cases e : stB M x <;> simp_all
    refine ⟨?_, ?_, ?_, ?_⟩
    · simp only [List.nodup_append]
      exact ⟨h.n1, by simp, fun a ha b hb e => by simp at hb; subst hb; subst e; exact h1 ha⟩
    · simp only [List.nodup_append]
      exact ⟨h.n2, by simp, fun a ha b hb e => by simp at hb; subst hb; subst e; exact h1 (h.sub _ ha)⟩
    · intro y hy
      simp only [List.mem_append, List.mem_singleton] at hy ⊢
      exact hy.imp (h.sub y) id
    · intro y hy
      simp only [List.mem_append, List.mem_singleton] at hy
      rcases hy with hy | rfl
      · exact h.obj y hy
      · exact h2
theorem RW.all {M : List Bool} {s : List Int × List Int} (h : RW M s) (xs : List Int) : RW M (reachL M s xs) := by
  induction xs generalizing s with
  | nil => exact h
  | cons x xs ih => exact ih (h.one x)
theorem reach1_mem (M : List Bool) (s : List Int × List Int) (x y : Int) : (y ∈ (reach1 M s x).1 ↔ y ∈ s.1 ∨ (y = x ∧ stB M y = true)) ∧ (y ∈ (reach1 M s x).2 ↔ y ∈ s.2 ∨ (y = x ∧ stB M y = true ∧ y ∉ s.1)) := by
  unfold reach1
  split
  · rename_i hx
    constructor
    · refine ⟨.inl, fun h => h.elim id fun ⟨e, h2⟩ => ?_⟩
      subst e
      rcases hx with hx | hx
      · exact hx
      · rw [hx] at h2; cases h2
    · refine ⟨.inl, fun h => h.elim id fun ⟨e, h2, h3⟩ => ?_⟩
      subst e
      rcases hx with hx | hx
      · exact absurd hx h3
      · rw [hx] at h2; cases h2
  · rename_i hx
    have h1 : x ∉ s.1 := fun e => hx (.inl e)
    have h2 : stB M x = true := by cases e : stB M x <;> simp_all
    simp only [List.mem_append, List.mem_singleton]
    constructor
    · exact ⟨fun h => h.imp id fun e => ⟨e, by rw [e]; exact h2⟩, fun h => h.imp id fun e => e.1⟩
    · exact ⟨fun h => h.imp id fun e => ⟨e, by rw [e]; exact h2, by rw [e]; exact h1⟩, fun h => h.imp id fun e => e.1⟩
theorem reachL_mem (M : List Bool) (s : List Int × List Int) (xs : List Int) (y : Int) : (y ∈ (reachL M s xs).1 ↔ y ∈ s.1 ∨ (y ∈ xs ∧ stB M y = true)) ∧ (y ∈ (reachL M s xs).2 ↔ y ∈ s.2 ∨ (y ∈ xs ∧ stB M y = true ∧ y ∉ s.1)) := by
  induction xs generalizing s with
  | nil => simp [reachL]
  | cons x xs ih =>
    have h1 := ih (reach1 M s x)
    have h2 := reach1_mem M s x y
    have e : reachL M s (x :: xs) = reachL M (reach1 M s x) xs := rfl
    rw [e, h1.1, h1.2, h2.1, h2.2]
    simp only [List.mem_cons]
    constructor
    · constructor
      · rintro ((h | h) | h)
        · exact .inl h
        · exact .inr ⟨.inl h.1, h.2⟩
        · exact .inr ⟨.inr h.1, h.2⟩
      · rintro (h | ⟨h | h, h'⟩)
        · exact .inl (.inl h)
        · exact .inl (.inr ⟨h, h'⟩)
        · exact .inr ⟨h, h'⟩
    · constructor
      · rintro ((h | h) | h)
        · exact .inl h
        · exact .inr ⟨.inl h.1, h.2⟩
        · exact .inr ⟨.inr h.1, h.2.1, fun hn => h.2.2 (.inl hn)⟩
      · rintro (h | ⟨h | h, h', h''⟩)
        · exact .inl (.inl h)
        · exact .inl (.inr ⟨h, h', h''⟩)
        · by_cases e : y = x
          · exact .inl (.inr ⟨e, h', h''⟩)
          · exact .inr ⟨h, h', fun hn => hn.elim h'' (fun hn => e hn.1)⟩
theorem reachL_len (M : List Bool) (s : List Int × List Int) (xs : List Int) : (reachL M s xs).1.length + s.2.length = (reachL M s xs).2.length + s.1.length ∧ s.1.length ≤ (reachL M s xs).1.length := by
  induction xs generalizing s with
  | nil => simp [reachL]; omega
  | cons x xs ih =>
    have h1 := ih (reach1 M s x)
    have e : reachL M s (x :: xs) = reachL M (reach1 M s x) xs := rfl
    rw [e]
    have h2 : (reach1 M s x).1.length + s.2.length = (reach1 M s x).2.length + s.1.length ∧ s.1.length ≤ (reach1 M s x).1.length := by
      unfold reach1
      split
      · omega
      · simp; omega
    omega
theorem nodup_le {l m : List Int} (h : l.Nodup) (hs : ∀ x ∈ l, x ∈ m) : l.length ≤ m.length := by
  induction l generalizing m with
  | nil => simp
  | cons a l ih =>
    have ha := hs a (by simp)
    have hn := List.nodup_cons.1 h
    have := ih (m := m.erase a) hn.2 (fun x hx => (List.mem_erase_of_ne (fun (e : x = a) => hn.1 (e ▸ hx))).2 (hs x (by simp [hx])))
    rw [List.length_erase_of_mem ha] at this
    have : 0 < m.length := List.length_pos_of_mem ha
    simp only [List.length_cons]
    omega
theorem look_ref {os : List Ob} {x : Int} {o : Ob} (h : lookP 1 os x = some o) : ∃ i, os[i]? = some o ∧ x = 2 * (endOf (os.take i) : Int) ∧ os = os.take i ++ o :: os.drop (i + 1) := by
  obtain ⟨pre, post, rfl, rfl⟩ := lookP_split h
  refine ⟨pre.length, by simp, ?_, ?_⟩
  · rw [List.take_left']
    · rfl
    · rfl
  · simp
theorem look_of_ref {os : List Ob} {i : Nat} {o : Ob} (h : os[i]? = some o) : lookP 1 os (2 * (endOf (os.take i) : Int)) = some o := by
  have := lookP_at (p := 1) (pre := os.take i) (post := os.drop (i + 1)) (o := o)
  rw [← take_split h] at this
  exact this
theorem look_mem {os : List Ob} {x : Int} (h : (lookP 1 os x).isSome = true) : x ∈ refsO os := by
  obtain ⟨o, ho⟩ := Option.isSome_iff_exists.1 h
  obtain ⟨i, hi, rfl, -⟩ := look_ref ho
  exact List.mem_of_getElem? (refsO_at (List.getElem?_eq_some_iff.1 hi).1)
theorem RW.len {os : List Ob} {s : List Int × List Int} (hl : endOf os ≤ 65536) (h : RW (marksOf os) s) : s.1.length ≤ os.length := by
  rw [← refsO_len]
  exact nodup_le h.n1 fun x hx => look_mem (by rw [← stB_look hl]; exact h.obj x hx)
/-- what holds between two rounds of examine -/
structure RI (os : List Ob) (rts : List Int) (s : List Int × List Int) : Prop where
  rw' : RW (marksOf os) s
  rch : ∀ x ∈ s.1, Rch os rts x
  clo : ∀ x ∈ s.1, x ∉ s.2 → ∀ o, lookP 1 os x = some o → ∀ y, (y = o.1 ∨ y ∈ o.2.2) → (lookP 1 os y).isSome = true → y ∈ s.1
  rts : ∀ y ∈ rts, (lookP 1 os y).isSome = true → y ∈ s.1
theorem RW.nil (M : List Bool) : RW M ([], []) := ⟨by simp, by simp, by simp, by simp⟩
theorem RI.start {os : List Ob} (hl : endOf os ≤ 65536) (rts : List Int) : RI os rts (reachL (marksOf os) ([], []) rts) := by
  have hm := fun y => reachL_mem (marksOf os) ([], []) rts y
  refine ⟨(RW.nil _).all _, fun x hx => ?_, fun x hx hn => ?_, fun y hy hs => ?_⟩
  · rcases (hm x).1.1 hx with h | ⟨h1, h2⟩
    · cases h
    · exact .root h1 (by rw [← stB_look hl]; exact h2)
  · rcases (hm x).1.1 hx with h | ⟨h1, h2⟩
    · cases h
    · exact absurd ((hm x).2.2 (.inr ⟨h1, h2, by simp⟩)) hn
  · exact (hm y).1.2 (.inr ⟨hy, by rw [stB_look hl]; exact hs⟩)
theorem RI.next {os : List Ob} (hl : endOf os ≤ 65536) {rts a p : List Int} {w : Int} {o : Ob} (h : RI os rts (a, p ++ [w])) (ho : lookP 1 os w = some o) : RI os rts (reachL (marksOf os) (a, p) (o.1 :: o.2.2)) := by
  have hm := fun y => reachL_mem (marksOf os) (a, p) (o.1 :: o.2.2) y
  have hn2 := h.rw'.n2
  simp only [List.nodup_append] at hn2
  have hW : RW (marksOf os) (a, p) := ⟨h.rw'.n1, hn2.1, fun x hx => h.rw'.sub x (by simp [hx]), h.rw'.obj⟩
  have hwa : w ∈ a := h.rw'.sub w (by simp)
  refine ⟨hW.all _, fun x hx => ?_, fun x hx hn ox hox y hy hs => ?_, fun y hy hs => ?_⟩
  · rcases (hm x).1.1 hx with h1 | ⟨h1, h2⟩
    · exact h.rch x h1
    · exact .step (h.rch w hwa) ho (List.mem_cons.1 h1) (by rw [← stB_look hl]; exact h2)
  · rcases (hm x).1.1 hx with h1 | ⟨h1, h2⟩
    · by_cases e : x = w
      · subst e
        rw [ho] at hox
        cases hox
        exact (hm y).1.2 (.inr ⟨List.mem_cons.2 hy, by rw [stB_look hl]; exact hs⟩)
      · have hxp : x ∉ p := fun hp => hn ((hm x).2.2 (.inl hp))
        exact (hm y).1.2 (.inl (h.clo x h1 (by simp [hxp, e]) ox hox y hy hs))
    · by_cases hxa : x ∈ a
      · by_cases e : x = w
        · subst e
          rw [ho] at hox
          cases hox
          exact (hm y).1.2 (.inr ⟨List.mem_cons.2 hy, by rw [stB_look hl]; exact hs⟩)
        · have hxp : x ∉ p := fun hp => hn ((hm x).2.2 (.inl hp))
          exact (hm y).1.2 (.inl (h.clo x hxa (by simp [hxp, e]) ox hox y hy hs))
      · exact absurd ((hm x).2.2 (.inr ⟨h1, h2, hxa⟩)) hn
  · exact (hm y).1.2 (.inl (h.rts y hy hs))
theorem RI.measure {os : List Ob} (hl : endOf os ≤ 65536) {rts a p : List Int} {w : Int} {o : Ob} (h : RI os rts (a, p ++ [w])) (ho : lookP 1 os w = some o) :
    2 * (os.length - (reachL (marksOf os) (a, p) (o.1 :: o.2.2)).1.length) + (reachL (marksOf os) (a, p) (o.1 :: o.2.2)).2.length < 2 * (os.length - a.length) + (p ++ [w]).length := by
  have h1 := reachL_len (marksOf os) (a, p) (o.1 :: o.2.2)
  have h2 := (h.next hl ho).rw'.len hl
  have h3 := h.rw'.len hl
  simp only [List.length_append, List.length_singleton] at *
  omega
theorem RI.done {os : List Ob} {rts a : List Int} (h : RI os rts (a, [])) (x : Int) : x ∈ a ↔ Rch os rts x := by
  refine ⟨h.rch x, fun hr => ?_⟩
  induction hr with
  | root h1 h2 => exact h.rts _ h1 h2
  | step h1 h2 h3 h4 ih => exact h.clo _ ih (by simp) _ h2 _ h3 h4

/-! places -/
theorem keepL_app (keep : Int → Bool) (p : Nat) (l r : List Ob) : keepL keep p (l ++ r) = keepL keep p l ++ keepL keep (p + (flatW l).length) r := by
  induction l generalizing p with
  | nil => simp [keepL, flatW]
  | cons a l ih =>
    simp only [List.cons_append, keepL, flatW_cons, List.length_append, wordsOb_len]
    rw [ih]
    have e : p + 3 + a.2.2.length + (flatW l).length = p + (3 + a.2.2.length + (flatW l).length) := by omega
    rw [e]
    split <;> simp
theorem keepL_next {keep : Int → Bool} {os : List Ob} {k : Nat} {o : Ob} (h : os[k]? = some o) : keepL keep 1 (os.take (k + 1)) = keepL keep 1 (os.take k) ++ (if keep (2 * (endOf (os.take k) : Int)) then [o] else []) := by
  rw [List.take_add_one, h]
  show keepL keep 1 (os.take k ++ [o]) = _
  rw [keepL_app]
  unfold endOf
  simp only [keepL]
theorem newP_at {keep : Int → Bool} {p q : Nat} {pre post : List Ob} {o : Ob} (hk : keep (2 * ((p + (flatW pre).length : Nat) : Int)) = true) : newP keep p q (pre ++ o :: post) (2 * ((p + (flatW pre).length : Nat) : Int)) = some (q + (flatW (keepL keep p pre)).length) := by
  induction pre generalizing p q with
  | nil => simp [newP, keepL, flatW] at hk ⊢; rw [hk]
  | cons a pre ih =>
    rw [flatW_cons, List.length_append, wordsOb_len] at hk ⊢
    simp only [List.cons_append, newP, keepL]
    rw [if_neg (by omega)]
    have e : p + (3 + a.2.2.length + (flatW pre).length) = p + 3 + a.2.2.length + (flatW pre).length := by omega
    rw [e] at hk ⊢
    rw [ih hk]
    split
    · rw [flatW_cons, List.length_append, wordsOb_len]
      congr 1
      omega
    · rfl
theorem newP_ref {keep : Int → Bool} {os : List Ob} {i : Nat} {o : Ob} (h : os[i]? = some o) (hk : keep (2 * (endOf (os.take i) : Int)) = true) : newP keep 1 1 os (2 * (endOf (os.take i) : Int)) = some (endOf (keepL keep 1 (os.take i))) := by
  have := newP_at (keep := keep) (p := 1) (q := 1) (pre := os.take i) (post := os.drop (i + 1)) (o := o) hk
  rw [← take_split h] at this
  exact this
theorem newP_no {keep : Int → Bool} {p q : Nat} {os : List Ob} {x : Int} (hk : keep x = false) : newP keep p q os x = none := by
  cases h : newP keep p q os x with
  | none => rfl
  | some r => have := (newP_look h).1; rw [hk] at this; cases this
/-- the places after k objects -/
def placeV (keep : Int → Bool) (os : List Ob) (k : Nat) (x : Int) : Option Int := if keep x then (if x < 2 * (endOf (os.take k) : Int) then (newP keep 1 1 os x).map (fun q : Nat => 2 * (q : Int)) else some 0) else none
theorem placeV_zero {keep : Int → Bool} {os : List Ob} (h : ∀ x, keep x = true → (lookP 1 os x).isSome = true) (x : Int) : placeV keep os 0 x = if keep x then some 0 else none := by
  unfold placeV
  split
  · rename_i hk
    obtain ⟨o, ho⟩ := Option.isSome_iff_exists.1 (h x hk)
    have := (lookP_ge ho).1
    rw [if_neg (by simp [endOf, flatW]; omega)]
  · rfl
theorem placeV_next {keep : Int → Bool} {os : List Ob} {k : Nat} {o : Ob} (hk : os[k]? = some o) (h : ∀ x, keep x = true → (lookP 1 os x).isSome = true) (x : Int) :
    placeV keep os (k + 1) x = if x = 2 * (endOf (os.take k) : Int) ∧ keep x = true then some (2 * (endOf (keepL keep 1 (os.take k)) : Int)) else placeV keep os k x := by
  by_cases hx : keep x = true
  · by_cases e : x = 2 * (endOf (os.take k) : Int)
    · rw [if_pos ⟨e, hx⟩]
      subst e
      unfold placeV
      rw [if_pos hx, newP_ref hk hx, if_pos]
      · rfl
      · have := end_take_lt (os := os) (i := k) (j := k + 1) (by omega) (List.getElem?_eq_some_iff.1 hk).1
        omega
    · rw [if_neg (fun h => e h.1)]
      obtain ⟨ox, hox⟩ := Option.isSome_iff_exists.1 (h x hx)
      obtain ⟨i, hi, rfl, -⟩ := look_ref hox
      have hil := (List.getElem?_eq_some_iff.1 hi).1
      have hkl := (List.getElem?_eq_some_iff.1 hk).1
      unfold placeV
      rw [if_pos hx, if_pos hx]
      have hne : i ≠ k := fun e' => e (by rw [e'])
      rcases Nat.lt_or_gt_of_ne hne with hlt | hlt
      · have h1 := end_take_lt (os := os) hlt (by omega)
        have h2 := end_take_lt (os := os) (i := k) (j := k + 1) (by omega) (by omega)
        rw [if_pos (by omega), if_pos (by omega)]
      · have h1 := end_take_lt (os := os) hlt (by omega)
        have h2 : endOf (os.take (k + 1)) ≤ endOf (os.take i) := by
          rcases Nat.lt_or_ge (k + 1) i with h' | h'
          · exact Nat.le_of_lt (end_take_lt h' (by omega))
          · obtain rfl : i = k + 1 := by omega
            exact Nat.le_refl _
        rw [if_neg (by omega), if_neg (by omega)]
  · rw [if_neg (fun h => hx h.2)]
    unfold placeV
    rw [if_neg hx, if_neg hx]
theorem placeV_end {keep : Int → Bool} {os : List Ob} (h : ∀ x, keep x = true → (lookP 1 os x).isSome = true) (x : Int) : placeV keep os os.length x = (newP keep 1 1 os x).map (fun q : Nat => 2 * (q : Int)) := by
  unfold placeV
  split
  · rename_i hk
    obtain ⟨o, ho⟩ := Option.isSome_iff_exists.1 (h x hk)
    obtain ⟨k, rfl, -, h3⟩ := (lookP_ge ho).2
    rw [if_pos]
    rw [List.take_length]
    unfold endOf
    omega
  · rename_i hk
    rw [newP_no (by simpa using hk)]
    rfl
theorem moveW_val (keep : Int → Bool) (os : List Ob) (x : Int) : moveW keep os x = ((newP keep 1 1 os x).map (fun q : Nat => 2 * (q : Int))).getD x := by
  unfold moveW
  cases newP keep 1 1 os x <;> rfl
end Go.Proofs.YtofhgfgipdokbaaGreatDoor
