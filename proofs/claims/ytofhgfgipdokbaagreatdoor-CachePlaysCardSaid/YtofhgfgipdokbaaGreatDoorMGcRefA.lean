/- What the document's gc reaches: plain. -/
import Derived.Test.YtofhgfgipdokbaaGreatDoorMPlain
import Derived.Test.YtofhgfgipdokbaaGreatDoorMLoading
namespace Go.Proofs.YtofhgfgipdokbaaGreatDoor

/-- the word that names the i-th object -/
def refI (os : List Ob) (i : Nat) : Int := 2 * (endOf (os.take i) : Int)
theorem refI_inj {os : List Ob} {i j : Nat} (hi : i < os.length) (hj : j < os.length) (h : refI os i = refI os j) : i = j := end_take_inj hi hj (by unfold refI at h; omega)
def Mk (os : List Ob) (M : List Bool) (y : Int) : Prop := ∃ i, M[i]? = some true ∧ y = refI os i
theorem Mk.set {os : List Ob} {M : List Bool} {y : Int} (h : Mk os M y) (k : Nat) : Mk os (M.set k true) y := by
  obtain ⟨i, h1, h2⟩ := h
  refine ⟨i, ?_, h2⟩
  have hl := (List.getElem?_eq_some_iff.1 h1).1
  rw [List.getElem?_set]
  split
  · next e => rw [if_pos (by omega)]
  · exact h1
/-- while a word is looked up -/
structure RInv (os : List Ob) (rts : List Int) (w : Int) (k : Nat) (M : List Bool) (Q : List Int) : Prop where
  len : M.length = os.length
  mks : ∀ i, M[i]? = some true → Rch os rts (refI os i)
  wr : (lookP 1 os w).isSome = true → Rch os rts w
  qr : ∀ x ∈ Q, (lookP 1 os x).isSome = true → Rch os rts x
  all : ∀ y, (y ∈ rts ∨ ∃ (i : Nat) (o : Ob), M[i]? = some true ∧ os[i]? = some o ∧ (y = o.1 ∨ y ∈ o.2.2)) → (lookP 1 os y).isSome = true → y ∈ Q ∨ Mk os M y ∨ (y = w ∧ ∀ i, i < k → y ≠ refI os i)
/-- between two words -/
structure ROut (os : List Ob) (rts : List Int) (M : List Bool) (Q : List Int) : Prop where
  len : M.length = os.length
  mks : ∀ i, M[i]? = some true → Rch os rts (refI os i)
  qr : ∀ x ∈ Q, (lookP 1 os x).isSome = true → Rch os rts x
  all : ∀ y, (y ∈ rts ∨ ∃ (i : Nat) (o : Ob), M[i]? = some true ∧ os[i]? = some o ∧ (y = o.1 ∨ y ∈ o.2.2)) → (lookP 1 os y).isSome = true → y ∈ Q ∨ Mk os M y
theorem rep_get {n i : Nat} {b c : Bool} (h : (List.replicate n b)[i]? = some c) : c = b := by
  rw [List.getElem?_replicate] at h
  split at h
  · exact (Option.some.inj h).symm
  · cases h
theorem ROut.start (os : List Ob) (rts : List Int) : ROut os rts (List.replicate os.length false) rts := by
  refine ⟨by simp, fun i h => (by cases rep_get h), fun x hx hs => .root hx hs, ?_⟩
  rintro y (h | ⟨i, o, h, -⟩) -
  · exact .inl h
  · cases rep_get h
theorem ROut.pop {os : List Ob} {rts : List Int} {M : List Bool} {w : Int} {Q : List Int} (h : ROut os rts M (w :: Q)) : RInv os rts w 0 M Q := by
  refine ⟨h.len, h.mks, h.qr w (by simp), fun x hx => h.qr x (by simp [hx]), fun y hy hs => ?_⟩
  rcases h.all y hy hs with h1 | h1
  · rcases List.mem_cons.1 h1 with rfl | h1
    · exact .inr (.inr ⟨rfl, fun i hi => by omega⟩)
    · exact .inl h1
  · exact .inr (.inl h1)
theorem RInv.skip {os : List Ob} {rts : List Int} {w : Int} {k : Nat} {M : List Bool} {Q : List Int} (h : RInv os rts w k M Q) (hk : w ≠ refI os k ∨ M[k]? = some true) : RInv os rts w (k + 1) M Q := by
  refine ⟨h.len, h.mks, h.wr, h.qr, fun y hy hs => ?_⟩
  rcases h.all y hy hs with h1 | h1 | ⟨rfl, h1⟩
  · exact .inl h1
  · exact .inr (.inl h1)
  · rcases hk with hk | hk
    · refine .inr (.inr ⟨rfl, fun i hi => ?_⟩)
      by_cases e : i = k
      · rw [e]; exact hk
      · exact h1 i (by omega)
    · by_cases e : y = refI os k
      · exact .inr (.inl ⟨k, hk, e⟩)
      · refine .inr (.inr ⟨rfl, fun i hi => ?_⟩)
        by_cases e' : i = k
        · rw [e']; exact e
        · exact h1 i (by omega)
theorem RInv.mark {os : List Ob} {rts : List Int} {w : Int} {k : Nat} {M : List Bool} {Q : List Int} (h : RInv os rts w k M Q) {o : Ob} (ho : os[k]? = some o) (hw : w = refI os k) : RInv os rts w (k + 1) (M.set k true) (Q ++ o.1 :: o.2.2) := by
  have hlk : lookP 1 os w = some o := by rw [hw]; exact look_of_ref ho
  have hR : Rch os rts w := h.wr (by rw [hlk]; rfl)
  have hkl := (List.getElem?_eq_some_iff.1 ho).1
  have hat : ∀ i, (M.set k true)[i]? = some true → i = k ∨ M[i]? = some true := fun i hi => by
    rw [List.getElem?_set] at hi
    split at hi
    · next e => exact .inl e.symm
    · exact .inr hi
  refine ⟨by simp [h.len], fun i hi => ?_, fun _ => hR, fun x hx hs => ?_, fun y hy hs => ?_⟩
  · rcases hat i hi with rfl | hi
    · rw [← hw]; exact hR
    · exact h.mks i hi
  · rcases List.mem_append.1 hx with hx | hx
    · exact h.qr x hx hs
    · rw [List.mem_cons] at hx
      exact .step hR hlk hx hs
  · by_cases hyw : y = w
    · exact .inr (.inl ⟨k, by rw [List.getElem?_set, if_pos rfl, if_pos (by rw [h.len]; exact hkl)], by rw [hyw, hw]⟩)
    · have hold : (y ∈ rts ∨ ∃ (i : Nat) (o : Ob), M[i]? = some true ∧ os[i]? = some o ∧ (y = o.1 ∨ y ∈ o.2.2)) ∨ (y = o.1 ∨ y ∈ o.2.2) := by
        rcases hy with hy | ⟨i, o', h1, h2, h3⟩
        · exact .inl (.inl hy)
        · rcases hat i h1 with rfl | h1
          · rw [ho] at h2
            cases h2
            exact .inr h3
          · exact .inl (.inr ⟨i, o', h1, h2, h3⟩)
      rcases hold with hold | hnew
      · rcases h.all y hold hs with h1 | h1 | ⟨e, -⟩
        · exact .inl (List.mem_append_left _ h1)
        · exact .inr (.inl (h1.set k))
        · exact absurd e hyw
      · exact .inl (List.mem_append_right _ (by simpa using hnew))
theorem RInv.done {os : List Ob} {rts : List Int} {w : Int} {M : List Bool} {Q : List Int} (h : RInv os rts w os.length M Q) : ROut os rts M Q := by
  refine ⟨h.len, h.mks, h.qr, fun y hy hs => ?_⟩
  rcases h.all y hy hs with h1 | h1 | ⟨-, h1⟩
  · exact .inl h1
  · exact .inr h1
  · obtain ⟨o, ho⟩ := Option.isSome_iff_exists.1 hs
    obtain ⟨i, hi, e, -⟩ := look_ref ho
    exact absurd e (h1 i (List.getElem?_eq_some_iff.1 hi).1)
/-- which objects are kept -/
noncomputable def keepB (os : List Ob) (rts : List Int) : List Bool := (List.range os.length).map fun i => keepR os rts (refI os i)
theorem ROut.end_ {os : List Ob} {rts : List Int} {M : List Bool} (h : ROut os rts M []) : M = keepB os rts := by
  have hall : ∀ y, Rch os rts y → Mk os M y := fun y hy => by
    induction hy with
    | root h1 h2 =>
      rcases h.all _ (.inl h1) h2 with h3 | h3
      · cases h3
      · exact h3
    | step h1 h2 h3 h4 ih =>
      obtain ⟨i, hi, e⟩ := ih
      have hil : i < os.length := by rw [← h.len]; exact (List.getElem?_eq_some_iff.1 hi).1
      obtain ⟨j, hj, e2, -⟩ := look_ref h2
      have hij : i = j := refI_inj hil (List.getElem?_eq_some_iff.1 hj).1 (e.symm.trans e2)
      subst hij
      rcases h.all _ (.inr ⟨i, _, hi, hj, h3⟩) h4 with h5 | h5
      · cases h5
      · exact h5
  apply List.ext_getElem?
  intro i
  by_cases hi : i < os.length
  · have hM : i < M.length := by rw [h.len]; exact hi
    have hr : (keepB os rts)[i]? = some (keepR os rts (refI os i)) := by simp [keepB, hi]
    rw [hr, List.getElem?_eq_getElem hM]
    congr 1
    cases hm : M[i] with
    | true => exact (keepR_iff.2 (h.mks i (by rw [List.getElem?_eq_getElem hM, hm]))).symm
    | false =>
      cases hk : keepR os rts (refI os i) with
      | false => rfl
      | true =>
        obtain ⟨j, hj, e⟩ := hall _ (keepR_iff.1 hk)
        have hjl : j < os.length := by rw [← h.len]; exact (List.getElem?_eq_some_iff.1 hj).1
        have := refI_inj hi hjl e
        subst this
        rw [List.getElem?_eq_getElem hM, hm] at hj
        cases hj
  · rw [List.getElem?_eq_none (by rw [h.len]; omega), List.getElem?_eq_none (by simp [keepB]; omega)]
/-- what may still be put behind -/
def costM : List Ob → List Bool → Nat
  | o :: os, b :: M => (if b then 0 else 2 + o.2.2.length) + costM os M
  | _, _ => 0
theorem costM_set : ∀ {os : List Ob} {M : List Bool} {k : Nat} {o : Ob}, os[k]? = some o → M[k]? = some false → costM os (M.set k true) + (2 + o.2.2.length) = costM os M
  | [], _, _, _, h, _ => by cases h
  | _ :: _, [], _, _, _, h => by cases h
  | a :: os, b :: M, 0, o, h1, h2 => by
    cases h1
    cases h2
    simp [costM]
    omega
  | a :: os, b :: M, k + 1, o, h1, h2 => by
    have := costM_set (os := os) (M := M) (k := k) (by simpa using h1) (by simpa using h2)
    simp only [List.set_cons_succ, costM]
    omega
theorem costM_le : ∀ (os : List Ob) (M : List Bool), costM os M ≤ (os.map fun o => 3 + o.2.2.length).sum
  | [], _ => by simp [costM]
  | _ :: _, [] => by simp [costM]
  | a :: os, b :: M => by
    have := costM_le os M
    simp only [costM, List.map_cons, List.sum_cons]
    split <;> omega
theorem costM_end (os : List Ob) (M : List Bool) : costM os M ≤ endOf os := by
  have := costM_le os M
  rw [endOf_sum]
  omega
/-- which word leads to an object -/
theorem find_hit {l : List RO} {os : List Ob} (ha : RAgree 1 l os) (hs : ∀ o ∈ l, 1 ≤ o.pos ∧ o.pos + 3 + o.fs.length ≤ 65536) {i : Nat} {o : RO} (ho : l[i]? = some o) : o.pos = endOf (os.take i) ∧ os[i]? = some o.ob ∧ ∀ w, findR l w = some o ↔ w = refI os i := by
  have hil : i < os.length := by rw [← ha.len]; exact (List.getElem?_eq_some_iff.1 ho).1
  obtain ⟨a, ha0⟩ : ∃ a, os[i]? = some a := ⟨_, List.getElem?_eq_getElem hil⟩
  obtain ⟨pre, post, e, hpl, htk⟩ : ∃ pre post, os = pre ++ a :: post ∧ pre.length = i ∧ os.take i = pre := ⟨os.take i, os.drop (i + 1), by
    have e : os[i] = a := (List.getElem?_eq_some_iff.1 ha0).2
    rw [← e, ← List.drop_eq_getElem_cons, List.take_append_drop], by simp; omega, rfl⟩
  have ha' := ha
  rw [e] at ha'
  obtain ⟨r, h1, h2, h3, h4⟩ := ha'.find
  rw [hpl, ho] at h1
  cases h1
  have hpos : o.pos = endOf (os.take i) := by rw [htk, h3]; rfl
  have hob : os[i]? = some o.ob := by rw [ha0, h2]
  refine ⟨hpos, hob, fun w => ⟨fun h => ?_, fun h => ?_⟩⟩
  · unfold findR at h
    split at h
    · next hok =>
      obtain ⟨q1, -, q3⟩ := (rfOk_iff _).1 hok
      have := List.find?_some h
      simp only [decide_eq_true_eq] at this
      unfold refI
      rw [← hpos]
      omega
    · cases h
  · subst h
    have hb := hs o (List.mem_of_getElem? ho)
    unfold findR
    have hok : rfOk (refI os i) = true := by
      rw [rfOk_iff]
      unfold refI
      rw [← hpos]
      omega
    rw [if_pos hok, ← h4]
    congr 1
    funext q
    have : refI os i / 2 = ((1 + (flatW pre).length : Nat) : Int) := by
      unfold refI
      rw [htk]
      unfold endOf
      omega
    rw [this]
end Go.Proofs.YtofhgfgipdokbaaGreatDoor
