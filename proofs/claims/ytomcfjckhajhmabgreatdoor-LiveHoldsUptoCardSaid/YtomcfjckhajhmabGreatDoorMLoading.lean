/- The memory's loaded, by what checkLoaded answers. The memory's loaded, where it refuses before it builds. Objects as a list, and the memory that holds them: plain. The document's heap and the memory that hold the same objects: what a word leads to in both. The memory that a list of objects fills, and which lists may be loaded: plain. -/
import Derived.Test.YtomcfjckhajhmabGreatDoorMHeaps
import Derived.Test.YtomcfjckhajhmabGreatDoorMLists
import Derived.Test.YtomcfjckhajhmabGreatDoorMPlaces
import Derived.Test.YtomcfjckhajhmabGreatDoorMRanges
import Derived.Test.YtomcfjckhajhmabGreatDoorMRefs
namespace Go.Proofs.YtomcfjckhajhmabGreatDoor
open Go.RowKit

/-- an object of a list, whose fields place can read -/
def ItIn (w : World) (o : It) : Prop := (∃ fb fo fc, o.fv = .slice (some ⟨fb, fo, none⟩) o.fs.length fc ∧ fb < w.heap.size ∧ FieldsAt w fb fo o.fs) ∨ (o.fv = .slice none 0 0 ∧ o.fs = []) ∨ ∃ a fc, o.fv = .slice (some a) 0 fc ∧ o.fs = []
theorem ItIn.shape {w : World} {o : It} (h : ItIn w o) : ∃ fa fc, o.fv = .slice fa o.fs.length fc := by
  rcases h with ⟨fb, fo, fc, h, -⟩ | ⟨h, hf⟩ | ⟨a, fc, h, hf⟩
  · exact ⟨_, _, h⟩
  · exact ⟨none, 0, by rw [h, hf]; rfl⟩
  · exact ⟨some a, fc, by rw [h, hf]; rfl⟩
/-- the memory that holds these objects alone -/
def memOf (lim : Int) (l : List It) : Mem := l.foldl (fun m o => m.push o.cls o.hash o.fs) (Mem.fresh lim)
theorem memOf_snoc (lim : Int) (l : List It) (o : It) : memOf lim (l ++ [o]) = (memOf lim l).push o.cls o.hash o.fs := by simp [memOf]
theorem push_len (m : Mem) (x h : Int) (fs : List Int) : (m.push x h fs).W.length = m.W.length + 3 + fs.length := by simp [Mem.push]; omega
theorem memOf_len (lim : Int) (l : List It) : (memOf lim l).W.length = 1 + wordsOf l := by
  have key : ∀ (l : List It) (m : Mem), (l.foldl (fun m o => m.push o.cls o.hash o.fs) m).W.length = m.W.length + wordsOf l := by
    intro l
    induction l with
    | nil => intro m; simp [wordsOf]
    | cons a l ih => intro m; simp only [List.foldl_cons, ih, push_len, wordsOf]; omega
  unfold memOf
  rw [key]
  simp [Mem.fresh]
theorem wordsOf_take (l : List It) (k : Nat) : wordsOf (l.take k) ≤ wordsOf l := by
  induction l generalizing k with
  | nil => simp
  | cons a l ih =>
    cases k with
    | zero => simp [wordsOf]
    | succ k => have := ih k; simp only [List.take_succ_cons, wordsOf]; omega
end Go.Proofs.YtomcfjckhajhmabGreatDoor
namespace Go.Proofs.YtomcfjckhajhmabGreatDoor
open Go.RowKit
section
variable {w : World} {mb : Nat} {m : Mem} {wv sv : Value} {ao : Option Addr} {cap : Nat}

end
end Go.Proofs.YtomcfjckhajhmabGreatDoor
namespace Go.Proofs.YtomcfjckhajhmabGreatDoor

/-- an object: class, hash, fields -/
abbrev Ob := Int × Int × List Int
def wordsOb (o : Ob) : List Int := [o.1, o.2.1, (o.2.2.length : Int)] ++ o.2.2
def marksOb (o : Ob) : List Bool := true :: List.replicate (2 + o.2.2.length) false
def flatW (l : List Ob) : List Int := l.flatMap wordsOb
def flatM (l : List Ob) : List Bool := l.flatMap marksOb
/-- where the object behind these begins -/
def endOf (l : List Ob) : Nat := 1 + (flatW l).length
/-- the memory that holds these objects -/
def absMem (lim : Int) (l : List Ob) (root hashes : Int) : Mem := ⟨lim, 0 :: flatW l, false :: flatM l, root, hashes⟩
theorem wordsOb_len (o : Ob) : (wordsOb o).length = 3 + o.2.2.length := by simp [wordsOb]; omega
theorem marksOb_len (o : Ob) : (marksOb o).length = 3 + o.2.2.length := by simp [marksOb]; omega
theorem flatW_append (l r : List Ob) : flatW (l ++ r) = flatW l ++ flatW r := by simp [flatW]
theorem flatM_append (l r : List Ob) : flatM (l ++ r) = flatM l ++ flatM r := by simp [flatM]
theorem flatW_cons (o : Ob) (r : List Ob) : flatW (o :: r) = wordsOb o ++ flatW r := by simp [flatW]
theorem flatM_cons (o : Ob) (r : List Ob) : flatM (o :: r) = marksOb o ++ flatM r := by simp [flatM]
theorem flat_len (l : List Ob) : (flatM l).length = (flatW l).length := by
  induction l with
  | nil => rfl
  | cons o l ih => rw [flatM_cons, flatW_cons, List.length_append, List.length_append, wordsOb_len, marksOb_len, ih]
theorem endOf_snoc (l : List Ob) (o : Ob) : endOf (l ++ [o]) = endOf l + 3 + o.2.2.length := by
  unfold endOf
  rw [flatW_append, flatW_cons, List.length_append, List.length_append, wordsOb_len]
  simp [flatW]
  omega
theorem absMem_push (lim : Int) (l : List Ob) (root hashes : Int) (o : Ob) : (absMem lim l root hashes).push o.1 o.2.1 o.2.2 = absMem lim (l ++ [o]) root hashes := by
  simp [absMem, Mem.push, flatW_append, flatM_append, flatW_cons, flatM_cons, wordsOb, marksOb]
  exact ⟨by simp [flatW], by simp [flatM]⟩
theorem absMem_len (lim : Int) (l : List Ob) (root hashes : Int) : (absMem lim l root hashes).W.length = endOf l ∧ (absMem lim l root hashes).M.length = endOf l := by
  simp only [absMem, List.length_cons, endOf, flat_len]
  omega
section
variable {lim root hashes : Int} {pre post : List Ob} {o : Ob}
theorem abs_W : (absMem lim (pre ++ o :: post) root hashes).W = (0 :: flatW pre) ++ (wordsOb o ++ flatW post) := by simp [absMem, flatW_append, flatW_cons]
theorem abs_M : (absMem lim (pre ++ o :: post) root hashes).M = (false :: flatM pre) ++ (marksOb o ++ flatM post) := by simp [absMem, flatM_append, flatM_cons]
theorem abs_at (j : Nat) (hj : j < 3 + o.2.2.length) : (absMem lim (pre ++ o :: post) root hashes).W[endOf pre + j]? = (wordsOb o)[j]? := by
  rw [abs_W, List.getElem?_append_right (by simp [endOf]; omega), List.getElem?_append_left (by rw [wordsOb_len]; simp [endOf]; omega)]
  congr 1
  simp [endOf]
  omega
theorem abs_mark : (absMem lim (pre ++ o :: post) root hashes).M[endOf pre]? = some true := by
  rw [abs_M, List.getElem?_append_right (by simp [endOf, flat_len]; omega)]
  simp [endOf, flat_len, marksOb, Nat.add_comm]
  rfl
theorem abs_cls : (absMem lim (pre ++ o :: post) root hashes).W[endOf pre]? = some o.1 := by have := abs_at (lim := lim) (root := root) (hashes := hashes) (pre := pre) (post := post) (o := o) 0 (by omega); simpa [wordsOb] using this
theorem abs_hash : (absMem lim (pre ++ o :: post) root hashes).W[endOf pre + 1]? = some o.2.1 := by rw [abs_at 1 (by omega)]; simp [wordsOb]
theorem abs_size : (absMem lim (pre ++ o :: post) root hashes).W[endOf pre + 2]? = some (o.2.2.length : Int) := by rw [abs_at 2 (by omega)]; simp [wordsOb]
theorem abs_field (j : Nat) (hj : j < o.2.2.length) : (absMem lim (pre ++ o :: post) root hashes).W[endOf pre + 3 + j]? = o.2.2[j]? := by
  rw [Nat.add_assoc, abs_at (3 + j) (by omega)]
  unfold wordsOb
  rw [List.getElem?_append_right (by simp)]
  congr 1
  simp
/-- a word of an object is written -/
theorem abs_set (j : Nat) (x : Int) (o' : Ob) (hl : o'.2.2.length = o.2.2.length) (hj : j < 3 + o.2.2.length) (h : (wordsOb o).set j x = wordsOb o') :
    { absMem lim (pre ++ o :: post) root hashes with W := (absMem lim (pre ++ o :: post) root hashes).W.set (endOf pre + j) x } = absMem lim (pre ++ o' :: post) root hashes := by
  have e1 : (absMem lim (pre ++ o :: post) root hashes).W.set (endOf pre + j) x = (absMem lim (pre ++ o' :: post) root hashes).W := by
    rw [abs_W, abs_W, List.set_append_right _ _ (by simp [endOf]; omega), List.set_append_left _ _ (by rw [wordsOb_len]; simp [endOf]; omega), ← h]
    congr 3
    simp [endOf]
    omega
  have e2 : (absMem lim (pre ++ o :: post) root hashes).M = (absMem lim (pre ++ o' :: post) root hashes).M := by rw [abs_M, abs_M]; simp [marksOb, hl]
  have key : ∀ (W W' : List Int) (M M' : List Bool), W = W' → M = M' → (⟨lim, W, M, root, hashes⟩ : Mem) = ⟨lim, W', M', root, hashes⟩ := fun _ _ _ _ a b => by rw [a, b]
  exact key _ _ _ _ e1 e2
end
/-- a mark stands where an object begins, and nowhere else -/
theorem mark_at {l : List Ob} {k : Nat} : (flatM l)[k]? = some true → ∃ pre o post, l = pre ++ o :: post ∧ k = (flatW pre).length := by
  induction l generalizing k with
  | nil => intro h; simp [flatM] at h
  | cons a l ih =>
    intro h
    rw [flatM_cons] at h
    by_cases hk : k < 3 + a.2.2.length
    · rw [List.getElem?_append_left (by rw [marksOb_len]; exact hk)] at h
      cases k with
      | zero => exact ⟨[], a, l, rfl, by simp [flatW]⟩
      | succ k =>
        simp only [marksOb, List.getElem?_cons_succ, List.getElem?_replicate] at h
        split at h <;> cases h
    · rw [List.getElem?_append_right (by rw [marksOb_len]; omega), marksOb_len] at h
      obtain ⟨pre, o, post, rfl, hp⟩ := ih h
      exact ⟨a :: pre, o, post, rfl, by rw [flatW_cons, List.length_append, wordsOb_len]; omega⟩
theorem abs_start {lim root hashes : Int} {l : List Ob} {k : Nat} (h : (absMem lim l root hashes).M[k]? = some true) : ∃ pre o post, l = pre ++ o :: post ∧ k = endOf pre := by
  cases k with
  | zero => simp [absMem] at h
  | succ k =>
    obtain ⟨pre, o, post, rfl, hp⟩ := mark_at (l := l) (k := k) (by simpa [absMem] using h)
    exact ⟨pre, o, post, rfl, by unfold endOf; omega⟩
/-- the places where objects begin -/
def startsOf : Nat → List Ob → List Nat
  | _, [] => []
  | p, o :: l => p :: startsOf (p + 3 + o.2.2.length) l
theorem abs_chain {lim root hashes : Int} (pre l : List Ob) (hs : ∀ o ∈ l, o.2.2.length ≤ 65536) : Chain (absMem lim (pre ++ l) root hashes).W (endOf pre) (startsOf (endOf pre) l) := by
  induction l generalizing pre with
  | nil => simp only [startsOf, Chain]; rw [(absMem_len lim (pre ++ []) root hashes).1]; simp
  | cons o l ih =>
    show _ ∧ _ ∧ _
    refine ⟨rfl, ?_, o.2.2.length, abs_size, hs o (by simp), ?_⟩
    · rw [(absMem_len _ _ _ _).1]
      unfold endOf
      rw [flatW_append, flatW_cons, List.length_append, List.length_append, wordsOb_len]
      omega
    · have := ih (pre ++ [o]) (fun p hp => hs p (by simp [hp]))
      rw [endOf_snoc, List.append_assoc] at this
      exact this
end Go.Proofs.YtomcfjckhajhmabGreatDoor
namespace Go.Proofs.YtomcfjckhajhmabGreatDoor
open Go.RowKit

def RO.ob (r : RO) : Ob := (r.cls, r.hash, r.fs)
/-- the document's objects are these, from a place on -/
def RAgree : Nat → List RO → List Ob → Prop
  | _, [], [] => True
  | p, r :: l, o :: os => r.ob = o ∧ r.pos = p ∧ RAgree (p + 3 + o.2.2.length) l os
  | _, _, _ => False
theorem RAgree.len {p : Nat} {l : List RO} {os : List Ob} (h : RAgree p l os) : l.length = os.length := by
  induction l generalizing p os with
  | nil => cases os with | nil => rfl | cons => exact h.elim
  | cons r l ih => cases os with | nil => exact h.elim | cons o os => simp [ih h.2.2]
theorem RAgree.ge {p : Nat} {l : List RO} {os : List Ob} (h : RAgree p l os) : ∀ r ∈ l, p ≤ r.pos := by
  induction l generalizing p os with
  | nil => intro r hr; cases hr
  | cons r l ih =>
    cases os with
    | nil => exact h.elim
    | cons o os =>
      intro q hq
      rcases List.mem_cons.1 hq with rfl | hq
      · exact Nat.le_of_eq h.2.1.symm
      · have := ih h.2.2 q hq; omega
/-- at an object's place the document's heap finds that object -/
theorem RAgree.find {p : Nat} {l : List RO} {pre post : List Ob} {o : Ob} (h : RAgree p l (pre ++ o :: post)) : ∃ r, l[pre.length]? = some r ∧ r.ob = o ∧ r.pos = p + (flatW pre).length ∧ l.find? (fun q => decide ((q.pos : Int) = ((p + (flatW pre).length : Nat) : Int))) = some r := by
  induction pre generalizing p l with
  | nil =>
    cases l with
    | nil => exact h.elim
    | cons r l =>
      obtain ⟨h1, h2, h3⟩ := h
      refine ⟨r, rfl, h1, by simp [flatW, h2], ?_⟩
      rw [List.find?_cons]
      have e : decide ((r.pos : Int) = ((p + (flatW []).length : Nat) : Int)) = true := by simp [flatW, h2]
      rw [e]
  | cons a pre ih =>
    cases l with
    | nil => exact h.elim
    | cons r l =>
      obtain ⟨h1, h2, h3⟩ := h
      obtain ⟨q, hq1, hq2, hq3, hq4⟩ := ih h3
      have el : p + (flatW (a :: pre)).length = p + 3 + a.2.2.length + (flatW pre).length := by rw [flatW_cons, List.length_append, wordsOb_len]; omega
      refine ⟨q, by simpa using hq1, hq2, by rw [el]; exact hq3, ?_⟩
      rw [el, List.find?_cons]
      have e : decide ((r.pos : Int) = ((p + 3 + a.2.2.length + (flatW pre).length : Nat) : Int)) = false := by simp only [decide_eq_false_iff_not]; omega
      rw [e]
      exact hq4
/-- where it finds one, an object begins -/
theorem RAgree.found {p : Nat} {l : List RO} {os : List Ob} (h : RAgree p l os) {k : Nat} {r : RO} (hr : l.find? (fun q => decide ((q.pos : Int) = (k : Int))) = some r) : ∃ pre post, os = pre ++ r.ob :: post ∧ k = p + (flatW pre).length := by
  induction l generalizing p os with
  | nil => cases hr
  | cons a l ih =>
    cases os with
    | nil => exact h.elim
    | cons o os =>
      obtain ⟨h1, h2, h3⟩ := h
      rw [List.find?_cons] at hr
      split at hr
      · rename_i hd
        cases hr
        have : (r.pos : Int) = k := by simpa using hd
        exact ⟨[], os, by rw [h1]; rfl, by simp [flatW]; omega⟩
      · obtain ⟨pre, post, e1, e2⟩ := ih h3 hr
        exact ⟨o :: pre, post, by rw [e1]; rfl, by rw [flatW_cons, List.length_append, wordsOb_len]; omega⟩
/-- a word leads to an object in both, or in neither -/
theorem agree_has {l : List RO} {os : List Ob} (h : RAgree 1 l os) (lim root hashes x : Int) : (findR l x).isSome = stB (absMem lim os root hashes).M x := by
  unfold findR stB
  cases hx : rfOk x
  · rfl
  · simp only [if_true, Bool.true_and]
    rw [rfOk_iff] at hx
    obtain ⟨k, hk⟩ : ∃ k : Nat, x / 2 = k := ⟨(x / 2).toNat, by omega⟩
    rw [hk, Int.toNat_natCast]
    cases hf : l.find? (fun q => decide ((q.pos : Int) = (k : Int))) with
    | some r =>
      obtain ⟨pre, post, e1, e2⟩ := h.found hf
      have := abs_mark (lim := lim) (root := root) (hashes := hashes) (pre := pre) (post := post) (o := r.ob)
      rw [← e1] at this
      have e3 : endOf pre = k := by unfold endOf; omega
      rw [e3] at this
      rw [this]
      rfl
    | none =>
      cases hm : (absMem lim os root hashes).M[k]? with
      | none => rfl
      | some b =>
        cases b
        · rfl
        · obtain ⟨pre, o, post, rfl, e2⟩ := abs_start hm
          obtain ⟨r, -, -, -, hr⟩ := h.find
          have e3 : 1 + (flatW pre).length = k := by unfold endOf at e2; omega
          rw [e3, hf] at hr
          cases hr
/-- a word that leads to an object: where it lies in both -/
theorem agree_at {l : List RO} {os : List Ob} (h : RAgree 1 l os) (lim root hashes : Int) {x : Int} (hx : stB (absMem lim os root hashes).M x = true) :
    ∃ pre o post r, os = pre ++ o :: post ∧ x = 2 * (endOf pre : Int) ∧ findR l x = some r ∧ l[pre.length]? = some r ∧ r.ob = o := by
  obtain ⟨k, rfl, k1, k2, hk⟩ := stB_at hx
  obtain ⟨pre, o, post, rfl, rfl⟩ := abs_start hk
  obtain ⟨r, h1, h2, h3, h4⟩ := h.find
  refine ⟨pre, o, post, r, rfl, rfl, ?_, h1, h2⟩
  unfold findR
  rw [if_pos (by rw [rfOk_iff]; omega), show (2 * (endOf pre : Int)) / 2 = ((1 + (flatW pre).length : Nat) : Int) by unfold endOf; omega]
  exact h4
theorem agree_used {l : List RO} {os : List Ob} (h : RAgree 1 l os) : usedR l = endOf os := by
  have key : ∀ (l : List RO) (os : List Ob) (p : Nat), RAgree p l os → (match l.getLast? with | none => p | some o => o.pos + 3 + o.fs.length) = p + (flatW os).length := by
    intro l
    induction l with
    | nil => intro os p h; cases os with | nil => simp [flatW] | cons => exact h.elim
    | cons r l ih =>
      intro os p h
      cases os with
      | nil => exact h.elim
      | cons o os =>
        obtain ⟨h1, h2, h3⟩ := h
        have hl : r.fs.length = o.2.2.length := by rw [← h1]; rfl
        have := ih os _ h3
        rw [flatW_cons, List.length_append, wordsOb_len]
        cases hg : l.getLast? with
        | none =>
          have he : l = [] := List.getLast?_eq_none_iff.1 hg
          subst he
          cases os with
          | nil => simp [flatW]; omega
          | cons => exact h3.elim
        | some q =>
          rw [hg] at this
          have e : (r :: l).getLast? = some q := by rw [List.getLast?_cons, hg]; rfl
          rw [e]
          simp only at this ⊢
          omega
  exact key l os 1 h
end Go.Proofs.YtomcfjckhajhmabGreatDoor
namespace Go.Proofs.YtomcfjckhajhmabGreatDoor

/-- a word's number fits -/
def WB (x : Int) : Prop := 0 ≤ x ∧ x ≤ 18446744073709551615
/-- all words of an object do -/
def ObB (o : Ob) : Prop := WB o.1 ∧ ∀ x ∈ o.2.2, WB x
def obsOf (its : List It) : List Ob := its.map It.key
/-- the marks of a memory with these objects -/
def marksOf (os : List Ob) : List Bool := false :: flatM os
theorem absMem_M (lim root hashes : Int) (os : List Ob) : (absMem lim os root hashes).M = marksOf os := rfl
theorem memOf_abs (lim : Int) (its : List It) : memOf lim its = absMem lim (obsOf its) 0 0 := by
  have key : ∀ (l : List It) (os : List Ob), l.foldl (fun m o => m.push o.cls o.hash o.fs) (absMem lim os 0 0) = absMem lim (os ++ l.map It.key) 0 0 := by
    intro l
    induction l with
    | nil => intro os; simp
    | cons a l ih =>
      intro os
      have := absMem_push lim os 0 0 a.key
      simp only [It.key] at this
      simp only [List.foldl_cons, List.map_cons, this, ih]
      simp [It.key]
  have := key its []
  simpa [memOf, obsOf, Mem.fresh, absMem, flatW, flatM] using this
theorem memOf_with (lim : Int) (its : List It) (root n : Int) : { memOf lim its with root := root, hashes := n } = absMem lim (obsOf its) root n := by rw [memOf_abs]; rfl
theorem endOf_obs (its : List It) : endOf (obsOf its) = 1 + wordsOf its := by
  unfold endOf obsOf
  induction its with
  | nil => simp [flatW, wordsOf]
  | cons a l ih =>
    simp only [List.map_cons, flatW_cons, List.length_append, wordsOb_len, wordsOf, It.key] at ih ⊢
    omega
theorem hashes_obs (its : List It) : (obsOf its).map (fun o => o.2.1) = its.map (fun o => o.hash) := by simp [obsOf, It.key]

/-- every class and field may be, and the root -/
def wordsOk (os : List Ob) (root : Int) : Bool := os.all (fun o => okB (marksOf os) o.1 && o.2.2.all (okB (marksOf os))) && (decide (root = 0) || stB (marksOf os) root)
open Classical in
/-- the number that Load answers -/
noncomputable def loadE (lim : Int) (os : List Ob) (root n : Int) : Int :=
  if ∃ o ∈ os, 512 < o.2.2.length then 1 else if lim < (endOf os : Int) then 2 else if ¬ HashOk (os.map fun o => o.2.1) n then 1 else if wordsOk os root = true then 0 else 1
theorem loadE_size {lim : Int} {os : List Ob} {root n : Int} (h : ∃ o ∈ os, 512 < o.2.2.length) : loadE lim os root n = 1 := by unfold loadE; rw [if_pos h]
theorem loadE_full {lim : Int} {os : List Ob} {root n : Int} (h : ∀ o ∈ os, o.2.2.length ≤ 512) (h2 : lim < (endOf os : Int)) : loadE lim os root n = 2 := by
  unfold loadE
  rw [if_neg (fun ⟨o, ho, hl⟩ => by have := h o ho; omega), if_pos h2]
theorem loadE_hash {lim : Int} {os : List Ob} {root n : Int} (h : ∀ o ∈ os, o.2.2.length ≤ 512) (h2 : (endOf os : Int) ≤ lim) (h3 : ¬ HashOk (os.map fun o => o.2.1) n) : loadE lim os root n = 1 := by
  unfold loadE
  rw [if_neg (fun ⟨o, ho, hl⟩ => by have := h o ho; omega), if_neg (by omega), if_pos h3]
theorem loadE_bad {lim : Int} {os : List Ob} {root n : Int} (h : ∀ o ∈ os, o.2.2.length ≤ 512) (h2 : (endOf os : Int) ≤ lim) (h3 : wordsOk os root = false) : loadE lim os root n = 1 := by
  unfold loadE
  rw [if_neg (fun ⟨o, ho, hl⟩ => by have := h o ho; omega), if_neg (by omega)]
  split
  · rfl
  · rw [if_neg (by rw [h3]; simp)]
theorem loadE_ok {lim : Int} {os : List Ob} {root n : Int} (h : ∀ o ∈ os, o.2.2.length ≤ 512) (h2 : (endOf os : Int) ≤ lim) (h3 : HashOk (os.map fun o => o.2.1) n) (h4 : wordsOk os root = true) : loadE lim os root n = 0 := by
  unfold loadE
  rw [if_neg (fun ⟨o, ho, hl⟩ => by have := h o ho; omega), if_neg (by omega), if_neg (by simpa using h3), if_pos h4]
theorem loadE_inv {lim : Int} {os : List Ob} {root n : Int} (h : loadE lim os root n = 0) : (∀ o ∈ os, o.2.2.length ≤ 512) ∧ (endOf os : Int) ≤ lim ∧ HashOk (os.map fun o => o.2.1) n ∧ wordsOk os root = true := by
  by_cases h1 : ∃ o ∈ os, 512 < o.2.2.length
  · rw [loadE_size h1] at h; omega
  · have h1' : ∀ o ∈ os, o.2.2.length ≤ 512 := fun o ho => by
      by_cases hl : o.2.2.length ≤ 512
      · exact hl
      · exact absurd ⟨o, ho, by omega⟩ h1
    by_cases h2 : lim < (endOf os : Int)
    · rw [loadE_full h1' h2] at h; omega
    · have h2' : (endOf os : Int) ≤ lim := by omega
      by_cases h3 : HashOk (os.map fun o => o.2.1) n
      · cases h4 : wordsOk os root
        · rw [loadE_bad h1' h2' h4] at h; omega
        · exact ⟨h1', h2', h3, rfl⟩
      · rw [loadE_hash h1' h2' h3] at h; omega
theorem wordsOk_of {os : List Ob} {root : Int} (h : wordsOk os root = true) : (∀ o ∈ os, okB (marksOf os) o.1 = true ∧ ∀ x ∈ o.2.2, okB (marksOf os) x = true) ∧ (root = 0 ∨ stB (marksOf os) root = true) := by
  simp only [wordsOk, Bool.and_eq_true, List.all_eq_true, Bool.or_eq_true, decide_eq_true_eq] at h
  exact ⟨h.1, h.2⟩
theorem wordsOk_mk {os : List Ob} {root : Int} (h : ∀ o ∈ os, okB (marksOf os) o.1 = true ∧ ∀ x ∈ o.2.2, okB (marksOf os) x = true) (hr : root = 0 ∨ stB (marksOf os) root = true) : wordsOk os root = true := by
  simp only [wordsOk, Bool.and_eq_true, List.all_eq_true, Bool.or_eq_true, decide_eq_true_eq]
  exact ⟨h, hr⟩
/-- hashes, where one object more has none -/
theorem HashOk.snoc0 {l : List Int} {n : Int} (h : HashOk l n) : HashOk (l ++ [0]) n := by
  refine ⟨h.1, h.2.1, fun i x hx => ?_⟩
  by_cases hi : i < l.length
  · rw [List.getElem?_append_left hi] at hx
    obtain ⟨h1, h2, h3⟩ := h.2.2 i x hx
    exact ⟨h1, h2, fun k hk hp => by rw [List.getElem?_append_left (by omega)]; exact h3 k hk hp⟩
  · rw [List.getElem?_append_right (by omega)] at hx
    obtain rfl : x = 0 := by
      cases hj : i - l.length with
      | zero => rw [hj] at hx; simpa using hx.symm
      | succ j => rw [hj] at hx; simp at hx
    exact ⟨Int.le_refl _, h.1, fun k hk hp => absurd hp (by omega)⟩
/-- hashes, where one more was given -/
theorem HashOk.give {l : List Int} {n : Int} (h : HashOk l n) (hn : n + 1 < 1099511627776) (j : Nat) : HashOk (l.set j (n + 1)) (n + 1) := by
  refine ⟨by have := h.1; omega, hn, fun i x hx => ?_⟩
  have old : ∀ k, ∀ y, l[k]? = some y → y ≤ n := fun k y hy => (h.2.2 k y hy).2.1
  by_cases hij : j = i
  · subst hij
    by_cases hl : j < l.length
    · rw [List.getElem?_set_self hl] at hx
      cases hx
      refine ⟨by have := h.1; omega, Int.le_refl _, fun k hk _ hk2 => ?_⟩
      rw [List.getElem?_set_ne (by omega)] at hk2
      have := old k _ hk2
      omega
    · rw [List.getElem?_eq_none_iff.2 (by simp; omega)] at hx
      cases hx
  · rw [List.getElem?_set_ne hij] at hx
    obtain ⟨h1, h2, h3⟩ := h.2.2 i x hx
    refine ⟨h1, by omega, fun k hk hp hk2 => ?_⟩
    by_cases hjk : j = k
    · subst hjk
      by_cases hl : j < l.length
      · rw [List.getElem?_set_self hl] at hk2
        cases hk2
        omega
      · rw [List.getElem?_eq_none_iff.2 (by simp; omega)] at hk2
        cases hk2
    · rw [List.getElem?_set_ne hjk] at hk2
      exact h3 k hk hp hk2
/-- two objects with the same hash are one -/
theorem HashOk.one {l : List Int} {n : Int} (h : HashOk l n) {i j : Nat} {x : Int} (hi : l[i]? = some x) (hj : l[j]? = some x) (hx : x ≠ 0) : i = j := by
  obtain ⟨a1, a2, a3⟩ := h.2.2 i x hi
  obtain ⟨b1, b2, b3⟩ := h.2.2 j x hj
  rcases Nat.lt_trichotomy i j with hl | hl | hl
  · exact absurd hi (b3 i hl (by omega))
  · exact hl
  · exact absurd hj (a3 j hl (by omega))
end Go.Proofs.YtomcfjckhajhmabGreatDoor
