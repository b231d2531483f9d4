/- code: a method's fields, what Write does to a list of objects, which method an object is: plain. code: which method some fields are: plain. One heap, the program's or the document's, through a row of calls: what it holds, and that nothing else has changed. code.encoded: a method's fields in a new row. code.Write, whatever comes of it. -/
import Derived.Test.YtjghgambieflaaaGreatDoorMCodeA
import Derived.Test.YtjghgambieflaaaGreatDoorMSnaps
import Derived.Test.YtjghgambieflaaaGreatDoorMHeaps
import Derived.Test.YtjghgambieflaaaGreatDoorMLists
import Derived.Laws.AppendOwnNone
namespace Go.Proofs.YtjghgambieflaaaGreatDoor

/-- a method's fields -/
def Mth.fs (m : Mth) : List Int := [wordOf m.args, wordOf m.temps, wordOf m.stack, wordOf m.prim, wordOf m.lits.length] ++ m.lits ++ m.code.map (fun i => wordOf i.num)
theorem Mth.fs_len (m : Mth) : m.fs.length = 5 + m.lits.length + m.code.length := by simp [Mth.fs]; omega
theorem Ins.num_bd (i : Ins) (h : i.ok = true) : 1 ≤ i.num ∧ i.num ≤ 1073741823 := by rw [Ins.ok_iff] at h; unfold Ins.num; omega
theorem Ins.fit (i : Ins) (h : i.ok = true) : fit i.num = true := by have := i.num_bd h; rw [fit_iff]; omega
theorem insOf_num (i : Ins) (h : i.ok = true) : insOf i.num = i := by
  rw [Ins.ok_iff] at h
  obtain ⟨op, a, b⟩ := i
  simp only [insOf, Ins.num, Ins.mk.injEq] at *
  omega
theorem num_insOf (n : Int) : (insOf n).num = n := by simp only [insOf, Ins.num]; omega
theorem Mth.fs_WB {m : Mth} (hl : ∀ x ∈ m.lits, WB x) : ∀ x ∈ m.fs, WB x := by
  intro x hx
  simp only [Mth.fs, List.mem_append, List.mem_cons, List.mem_map, List.not_mem_nil, or_false] at hx
  rcases hx with ((h | h | h | h | h) | h) | ⟨i, hi, h⟩
  · rw [h]; exact (wordOf_WB _).1
  · rw [h]; exact (wordOf_WB _).1
  · rw [h]; exact (wordOf_WB _).1
  · rw [h]; exact (wordOf_WB _).1
  · rw [h]; exact (wordOf_WB _).1
  · exact hl x h
  · rw [← h]; exact (wordOf_WB _).1
/-- what Alloc answers, and the objects behind it -/
def allocF (lim : Int) (os : List Ob) (x n y : Int) : Int × Int × List Ob :=
  if n < 0 ∨ 512 < n ∨ okB (marksOf os) x = false ∨ okB (marksOf os) y = false then (0, 1, os)
  else if lim < (endOf os : Int) + 3 + n then (0, 2, os)
  else (2 * (endOf os : Int), 0, os ++ [(x, 0, List.replicate n.toNat y)])
/-- what Store into object i answers, and the objects behind it -/
def storeI (os : List Ob) (i : Nat) (k v : Int) : Int × List Ob :=
  match os[i]? with
  | none => (1, os)
  | some o => if 0 ≤ k ∧ k < o.2.2.length ∧ okB (marksOf os) v = true then (0, os.set i (o.1, o.2.1, o.2.2.set k.toNat v)) else (1, os)
def storesI (i : Nat) : List Ob → Nat → List Int → Int × List Ob
  | os, _, [] => (0, os)
  | os, k, v :: fs => if (storeI os i k v).1 = 0 then storesI i (storeI os i k v).2 (k + 1) fs else storeI os i k v
/-- what Write answers, and the objects behind it -/
def writeF (lim : Int) (os : List Ob) (cls : Int) (m : Mth) : Int × Int × List Ob :=
  if m.ok = false then (0, 4, os)
  else if (allocF lim os cls m.fs.length 1).2.1 = 0 then
    (if (storesI os.length (allocF lim os cls m.fs.length 1).2.2 0 m.fs).1 = 0 then (allocF lim os cls m.fs.length 1).1 else 0, storesI os.length (allocF lim os cls m.fs.length 1).2.2 0 m.fs)
  else (0, (allocF lim os cls m.fs.length 1).2)
theorem set_same {α : Type} {l : List α} {i : Nat} {a : α} (h : l[i]? = some a) : l.set i a = l := by
  apply List.ext_getElem?
  intro j
  by_cases hj : i = j
  · subst hj; rw [List.getElem?_set_self (List.getElem?_eq_some_iff.1 h).1, h]
  · rw [List.getElem?_set_ne hj]
theorem flatM_set {os : List Ob} {i : Nat} {o o' : Ob} (hi : os[i]? = some o) (hl : o'.2.2.length = o.2.2.length) : marksOf (os.set i o') = marksOf os := by
  unfold marksOf
  congr 1
  induction os generalizing i with
  | nil => simp at hi
  | cons a os ih =>
    cases i with
    | zero => simp at hi; subst hi; simp [flatM_cons, marksOb, hl]
    | succ i => simp only [List.set_cons_succ, flatM_cons]; rw [ih (by simpa using hi)]
theorem storeI_len (os : List Ob) (i : Nat) (k v : Int) : (storeI os i k v).2.length = os.length := by
  unfold storeI
  split
  · rfl
  · split <;> simp
theorem storeI_cases (os : List Ob) (i : Nat) (k v : Int) : ((storeI os i k v).1 = 0 ∧ ∃ o, os[i]? = some o ∧ 0 ≤ k ∧ k < o.2.2.length ∧ okB (marksOf os) v = true ∧ (storeI os i k v).2 = os.set i (o.1, o.2.1, o.2.2.set k.toNat v)) ∨ (storeI os i k v = (1, os)) := by
  unfold storeI
  split
  · exact .inr rfl
  · rename_i o ho
    split
    · rename_i h; exact .inl ⟨rfl, o, ho, h.1, h.2.1, h.2.2, rfl⟩
    · exact .inr rfl
theorem storeI_marks (os : List Ob) (i : Nat) (k v : Int) : marksOf (storeI os i k v).2 = marksOf os := by
  rcases storeI_cases os i k v with ⟨-, o, ho, -, -, -, h⟩ | h
  · rw [h, flatM_set ho (by simp)]
  · rw [h]
theorem endOf_setAt {os : List Ob} {i : Nat} {o o' : Ob} (hi : os[i]? = some o) (hl : o'.2.2.length = o.2.2.length) : endOf (os.set i o') = endOf os := by
  have h := take_split hi
  have hil := (List.getElem?_eq_some_iff.1 hi).1
  have h2 : os.set i o' = os.take i ++ o' :: os.drop (i + 1) := by
    rw [List.set_eq_take_append_cons_drop, if_pos hil]
  rw [h2, endOf_set (o := o) hl, ← h]
theorem storeI_inv {lim : Int} {os : List Ob} {hashes : Int} (hI : OInv lim os hashes) (i : Nat) (k v : Int) (hv : WB v) : OInv lim (storeI os i k v).2 hashes := by
  rcases storeI_cases os i k v with ⟨-, o, ho, -, -, -, h⟩ | h
  · rw [h]
    have hs := take_split ho
    have hil := (List.getElem?_eq_some_iff.1 ho).1
    have h2 : os.set i (o.1, o.2.1, o.2.2.set k.toNat v) = os.take i ++ (o.1, o.2.1, o.2.2.set k.toNat v) :: os.drop (i + 1) := by rw [List.set_eq_take_append_cons_drop, if_pos hil]
    have hm : o ∈ os := List.mem_of_getElem? ho
    have hE := hI.each o hm
    have hB := hI.bd o hm
    refine ⟨hI.l1, hI.l2, by rw [endOf_setAt ho (by simp)]; exact hI.fit, hI.h0, hI.h1, fun p hp => ?_, fun p hp => ?_, ?_⟩
    · rcases List.mem_or_eq_of_mem_set hp with hp | rfl
      · exact hI.each p hp
      · exact hE
    · rcases List.mem_or_eq_of_mem_set hp with hp | rfl
      · exact hI.bd p hp
      · exact hB.store _ hv
    · have : (os.set i (o.1, o.2.1, o.2.2.set k.toNat v)).map (fun o => o.2.1) = os.map (fun o => o.2.1) := by
        rw [List.map_set]
        exact set_same (by rw [List.getElem?_map, ho]; rfl) 
      rw [this]
      exact hI.uq
  · rw [h]; exact hI
theorem allocF_cases (lim : Int) (os : List Ob) (x n y : Int) : (allocF lim os x n y = (2 * (endOf os : Int), 0, os ++ [(x, 0, List.replicate n.toNat y)]) ∧ 0 ≤ n ∧ n ≤ 512 ∧ okB (marksOf os) x = true ∧ okB (marksOf os) y = true ∧ (endOf os : Int) + 3 + n ≤ lim) ∨ (allocF lim os x n y = (0, 1, os) ∧ (n < 0 ∨ 512 < n ∨ okB (marksOf os) x = false ∨ okB (marksOf os) y = false)) ∨ (allocF lim os x n y = (0, 2, os) ∧ 0 ≤ n ∧ n ≤ 512 ∧ okB (marksOf os) x = true ∧ okB (marksOf os) y = true ∧ lim < (endOf os : Int) + 3 + n) := by
  unfold allocF
  split
  · rename_i h; exact .inr (.inl ⟨rfl, h⟩)
  · rename_i h
    have h1 : 0 ≤ n ∧ n ≤ 512 := by
      constructor
      · exact Int.not_lt.1 fun e => h (.inl e)
      · exact Int.not_lt.1 fun e => h (.inr (.inl e))
    have h2 : okB (marksOf os) x = true := Bool.of_not_eq_false fun e => h (.inr (.inr (.inl e)))
    have h3 : okB (marksOf os) y = true := Bool.of_not_eq_false fun e => h (.inr (.inr (.inr e)))
    split
    · rename_i hf; exact .inr (.inr ⟨rfl, h1.1, h1.2, h2, h3, hf⟩)
    · rename_i hf; exact .inl ⟨rfl, h1.1, h1.2, h2, h3, by omega⟩
theorem allocF_inv {lim : Int} {os : List Ob} {hashes : Int} (hI : OInv lim os hashes) (x n y : Int) (hx : WB x) (hy : WB y) : OInv lim (allocF lim os x n y).2.2 hashes := by
  rcases allocF_cases lim os x n y with ⟨h, n1, n2, -, -, hf⟩ | ⟨h, -⟩ | ⟨h, -⟩
  · rw [h]
    refine ⟨hI.l1, hI.l2, by rw [endOf_snoc]; simp; omega, hI.h0, hI.h1, fun p hp => ?_, fun p hp => ?_, by have := hI.uq.snoc0; simpa using this⟩
    · rcases List.mem_append.1 hp with hp | hp
      · exact hI.each p hp
      · simp at hp; subst hp; exact ⟨Int.le_refl _, hI.h0⟩
    · rcases List.mem_append.1 hp with hp | hp
      · exact hI.bd p hp
      · simp at hp; subst hp; exact ⟨hx, fun z hz => by obtain ⟨-, rfl⟩ := List.mem_replicate.1 hz; exact hy⟩
  · rw [h]; exact hI
  · rw [h]; exact hI
theorem storesI_inv {lim : Int} {hashes : Int} (i : Nat) (fs : List Int) (hfs : ∀ v ∈ fs, WB v) (os : List Ob) (k : Nat) (hI : OInv lim os hashes) : OInv lim (storesI i os k fs).2 hashes := by
  induction fs generalizing os k with
  | nil => exact hI
  | cons v fs ih =>
    unfold storesI
    have h1 := storeI_inv hI i k v (hfs v (by simp))
    split
    · exact ih (fun x hx => hfs x (by simp [hx])) _ _ h1
    · exact h1
theorem writeF_inv {lim : Int} {os : List Ob} {hashes : Int} (hI : OInv lim os hashes) (cls : Int) (m : Mth) (hc : WB cls) (hl : ∀ x ∈ m.lits, WB x) : OInv lim (writeF lim os cls m).2.2 hashes := by
  have h1 := allocF_inv hI cls m.fs.length 1 hc (by unfold WB; omega)
  unfold writeF
  split
  · exact hI
  · split
    · exact storesI_inv _ _ (Mth.fs_WB hl) _ _ h1
    · exact h1
/-- all stores that may be are done -/
theorem storesI_all (i : Nat) (fs : List Int) (os : List Ob) (o : Ob) (k : Nat) (hi : os[i]? = some o) (hk : k + fs.length ≤ o.2.2.length) (hok : ∀ v ∈ fs, okB (marksOf os) v = true) :
    storesI i os k fs = (0, os.set i (o.1, o.2.1, o.2.2.take k ++ fs ++ o.2.2.drop (k + fs.length))) := by
  induction fs generalizing os o k with
  | nil =>
    simp only [storesI, List.append_nil, List.length_nil, Nat.add_zero, List.take_append_drop]
    rw [set_same hi]
  | cons v fs ih =>
    have hs : storeI os i k v = (0, os.set i (o.1, o.2.1, o.2.2.set k v)) := by
      unfold storeI
      rw [hi]
      simp only
      rw [if_pos ⟨by omega, by simp at hk; omega, hok v (by simp)⟩]
      simp
    unfold storesI
    rw [hs]
    simp only [if_true]
    have hil := (List.getElem?_eq_some_iff.1 hi).1
    rw [ih (os.set i (o.1, o.2.1, o.2.2.set k v)) (o.1, o.2.1, o.2.2.set k v) (k + 1) (by rw [List.getElem?_set_self hil]) (by simp at hk ⊢; omega) (fun x hx => by rw [flatM_set hi (by simp)]; exact hok x (by simp [hx]))]
    simp only [List.set_set]
    congr 3
    simp only [List.length_cons] at hk
    congr 1
    congr 1
    · rw [List.take_add_one, List.take_set_of_le (Nat.le_refl k)]
      have : (o.2.2.set k v)[k]? = some v := by rw [List.getElem?_set_self (by omega)]
      rw [this]
      simp
    · rw [List.drop_set_of_lt (by omega), List.length_cons]
      congr 1
      omega
theorem storesI_ok (i : Nat) (fs : List Int) (os : List Ob) (k : Nat) (h : (storesI i os k fs).1 = 0) : ∀ v ∈ fs, okB (marksOf os) v = true := by
  induction fs generalizing os k with
  | nil => intro v hv; simp at hv
  | cons v fs ih =>
    unfold storesI at h
    rcases storeI_cases os i k v with ⟨h0, o, ho, -, -, hv, -⟩ | h1
    · rw [if_pos h0] at h
      intro x hx
      rcases List.mem_cons.1 hx with rfl | hx
      · exact hv
      · have := ih _ _ h x hx
        rwa [storeI_marks] at this
    · rw [h1] at h
      simp at h
theorem storesI_01 (i : Nat) (fs : List Int) (os : List Ob) (k : Nat) : (storesI i os k fs).1 = 0 ∨ (storesI i os k fs).1 = 1 := by
  induction fs generalizing os k with
  | nil => exact .inl rfl
  | cons v fs ih =>
    unfold storesI
    split
    · exact ih _ _
    · rcases storeI_cases os i k v with ⟨h0, -⟩ | h1
      · contradiction
      · rw [h1]; exact .inr rfl
/-- Write, where it answers OK: the object is there, behind the others -/
theorem writeF_ok {lim : Int} {os : List Ob} {cls : Int} {m : Mth} (h : (writeF lim os cls m).2.1 = 0) : writeF lim os cls m = (2 * (endOf os : Int), 0, os ++ [(cls, 0, m.fs)]) ∧ m.ok = true ∧ (∀ v ∈ m.fs, okB (marksOf (os ++ [(cls, 0, m.fs)])) v = true) ∧ (endOf os : Int) + 3 + m.fs.length ≤ lim := by
  unfold writeF at h ⊢
  split at h
  · simp at h
  rename_i hok
  have hok' : m.ok = true := by simpa using hok
  rcases allocF_cases lim os cls m.fs.length 1 with ⟨ha, -, -, -, -, hf⟩ | ⟨ha, -⟩ | ⟨ha, -⟩
  · rw [ha] at h ⊢
    simp only [if_true, Int.toNat_natCast] at h ⊢
    have hall := storesI_ok _ _ _ _ h
    have hget : (os ++ [(cls, (0 : Int), List.replicate m.fs.length (1 : Int))])[os.length]? = some (cls, 0, List.replicate m.fs.length 1) := by simp
    have hm : marksOf (os ++ [(cls, (0 : Int), List.replicate m.fs.length (1 : Int))]) = marksOf (os ++ [(cls, 0, m.fs)]) := by
      have := flatM_set (o' := (cls, (0 : Int), m.fs)) hget (by simp)
      rw [← this]
      simp
    have hst := storesI_all os.length m.fs _ _ 0 hget (by simp) hall
    rw [hst]
    rw [hm] at hall
    refine ⟨?_, hok', hall, hf⟩
    rw [if_neg hok]
    simp
  · rw [ha] at h; simp at h
  · rw [ha] at h; simp at h
end Go.Proofs.YtjghgambieflaaaGreatDoor
namespace Go.Proofs.YtjghgambieflaaaGreatDoor

/-- the number of literals that fields name -/
def nLits (fs : List Int) : Int := intOfW (fs.getD 4 0)
def decM (fs : List Int) : Mth := ⟨intOfW (fs.getD 0 0), intOfW (fs.getD 1 0), intOfW (fs.getD 2 0), intOfW (fs.getD 3 0), (fs.drop 5).take (nLits fs).toNat, (fs.drop (5 + (nLits fs).toNat)).map (fun x => insOf (intOfW x))⟩
def headOk (fs : List Int) : Bool := decide (5 ≤ fs.length) && (fs.take 5).all odd && decide (0 ≤ nLits fs ∧ nLits fs ≤ (fs.length : Int) - 5)
def insOk (x : Int) : Bool := odd x && (insOf (intOfW x)).ok
def codeOk (fs : List Int) : Bool := (fs.drop (5 + (nLits fs).toNat)).all insOk
def decOk (fs : List Int) : Bool := headOk fs && codeOk fs && (decM fs).ok
theorem fit_small {n : Int} (h1 : -1000000 ≤ n) (h2 : n ≤ 1000000) : fit n = true := by rw [fit_iff]; omega
theorem insOk_word (i : Ins) (h : i.ok = true) : insOk (wordOf i.num) = true ∧ insOf (intOfW (wordOf i.num)) = i := by
  have e := int_wordOf i.num (i.fit h)
  refine ⟨?_, by rw [e, insOf_num i h]⟩
  unfold insOk
  rw [e, insOf_num i h, h, (wordOf_WB _).2]
  rfl
theorem insOk_back (x : Int) (hx : WB x) (h : insOk x = true) : wordOf (insOf (intOfW x)).num = x := by
  unfold insOk at h
  simp only [Bool.and_eq_true] at h
  rw [num_insOf, wordOf_int x hx h.1]
theorem get5 (a b c d e : Int) (l : List Int) : ([a, b, c, d, e] ++ l).getD 0 0 = a ∧ ([a, b, c, d, e] ++ l).getD 1 0 = b ∧ ([a, b, c, d, e] ++ l).getD 2 0 = c ∧ ([a, b, c, d, e] ++ l).getD 3 0 = d ∧ ([a, b, c, d, e] ++ l).getD 4 0 = e ∧ ([a, b, c, d, e] ++ l).drop 5 = l ∧ ([a, b, c, d, e] ++ l).take 5 = [a, b, c, d, e] := ⟨rfl, rfl, rfl, rfl, rfl, rfl, rfl⟩
theorem dec_fs (m : Mth) (h : m.ok = true) : decOk m.fs = true ∧ decM m.fs = m := by
  obtain ⟨hh, hc⟩ := m.ok_iff.1 h
  have hd := m.head_iff.1 hh
  have hfs : m.fs = [wordOf m.args, wordOf m.temps, wordOf m.stack, wordOf m.prim, wordOf m.lits.length] ++ (m.lits ++ m.code.map (fun i => wordOf i.num)) := by unfold Mth.fs; rw [List.append_assoc]
  obtain ⟨e0, e1, e2, e3, e4, ed, et⟩ := get5 (wordOf m.args) (wordOf m.temps) (wordOf m.stack) (wordOf m.prim) (wordOf m.lits.length) (m.lits ++ m.code.map (fun i => wordOf i.num))
  rw [← hfs] at e0 e1 e2 e3 e4 ed et
  clear hfs
  have f0 : fit m.args = true := fit_small (by clear e0 e1 e2 e3 e4; omega) (by clear e0 e1 e2 e3 e4; omega)
  have f1 : fit m.temps = true := fit_small (by clear e0 e1 e2 e3 e4; omega) (by clear e0 e1 e2 e3 e4; omega)
  have f2 : fit m.stack = true := fit_small (by clear e0 e1 e2 e3 e4; omega) (by clear e0 e1 e2 e3 e4; omega)
  have f3 : fit m.prim = true := fit_small (by clear e0 e1 e2 e3 e4; omega) (by clear e0 e1 e2 e3 e4; omega)
  have f4 : fit (m.lits.length : Int) = true := fit_small (by clear e0 e1 e2 e3 e4; omega) (by clear e0 e1 e2 e3 e4; omega)
  have en : nLits m.fs = m.lits.length := by unfold nLits; rw [e4, int_wordOf _ f4]
  have ed2 : m.fs.drop (5 + m.lits.length) = m.code.map (fun i => wordOf i.num) := by rw [← List.drop_drop, ed]; simp
  have hcode : (m.code.map (fun i => wordOf i.num)).map (fun x => insOf (intOfW x)) = m.code := by
    rw [List.map_map]
    conv => rhs; rw [← List.map_id m.code]
    exact List.map_congr_left fun i hi => (insOk_word i (hc i hi)).2
  have hm : decM m.fs = m := by
    unfold decM
    rw [e0, e1, e2, e3, en, Int.toNat_natCast, ed2, hcode, ed, int_wordOf _ f0, int_wordOf _ f1, int_wordOf _ f2, int_wordOf _ f3]
    simp
  refine ⟨?_, hm⟩
  unfold decOk
  rw [hm, h, Bool.and_true, Bool.and_eq_true]
  constructor
  · unfold headOk
    rw [en]
    have ho : (m.fs.take 5).all odd = true := by
      rw [et]
      simp only [List.all_cons, List.all_nil, (wordOf_WB _).2, Bool.and_true]
    rw [ho, m.fs_len]
    simp only [Bool.and_eq_true, decide_eq_true_eq, Bool.and_true]
    clear e0 e1 e2 e3 e4 ed ed2 hcode hm en et ho
    refine ⟨by omega, by omega, by omega⟩
  · unfold codeOk
    rw [en, Int.toNat_natCast, ed2]
    simp only [List.all_map, List.all_eq_true]
    exact fun i hi => (insOk_word i (hc i hi)).1
theorem list5 : ∀ {fs : List Int}, 5 ≤ fs.length → fs = [fs.getD 0 0, fs.getD 1 0, fs.getD 2 0, fs.getD 3 0, fs.getD 4 0] ++ fs.drop 5
  | [], h => by simp at h
  | [_], h => by simp at h
  | [_, _], h => by simp at h
  | [_, _, _], h => by simp at h
  | [_, _, _, _], h => by simp at h
  | a :: b :: c :: d :: e :: r, _ => rfl
theorem fs_dec (fs : List Int) (hw : ∀ x ∈ fs, WB x) (h : decOk fs = true) : (decM fs).fs = fs := by
  unfold decOk headOk codeOk at h
  simp only [Bool.and_eq_true, decide_eq_true_eq] at h
  obtain ⟨⟨⟨⟨h5, ho⟩, hn0, hn1⟩, hc⟩, -⟩ := h
  have hmem : ∀ i, i < 5 → fs.getD i 0 ∈ fs ∧ odd (fs.getD i 0) = true := by
    intro i hi
    have hg : fs[i]? = some (fs.getD i 0) := by rw [List.getD_eq_getElem?_getD, List.getElem?_eq_getElem (by omega)]; rfl
    refine ⟨List.mem_of_getElem? hg, List.all_eq_true.1 ho _ ?_⟩
    exact List.mem_of_getElem? (i := i) (by rw [List.getElem?_take_of_lt hi]; exact hg)
  have hw5 : ∀ i, i < 5 → wordOf (intOfW (fs.getD i 0)) = fs.getD i 0 := fun i hi => wordOf_int _ (hw _ (hmem i hi).1) (hmem i hi).2
  have hlen : ((decM fs).lits.length : Int) = nLits fs := by
    simp only [decM, List.length_take, List.length_drop]
    omega
  have hcode : ((fs.drop (5 + (nLits fs).toNat)).map (fun x => insOf (intOfW x))).map (fun i => wordOf i.num) = fs.drop (5 + (nLits fs).toNat) := by
    rw [List.map_map]
    conv => rhs; rw [← List.map_id (fs.drop (5 + (nLits fs).toNat))]
    exact List.map_congr_left fun x hx => insOk_back x (hw x (List.mem_of_mem_drop hx)) (List.all_eq_true.1 hc x hx)
  have e4 : wordOf (nLits fs) = fs.getD 4 0 := hw5 4 (by omega)
  unfold Mth.fs
  rw [hlen, e4]
  show [wordOf (intOfW (fs.getD 0 0)), wordOf (intOfW (fs.getD 1 0)), wordOf (intOfW (fs.getD 2 0)), wordOf (intOfW (fs.getD 3 0)), fs.getD 4 0] ++ (fs.drop 5).take (nLits fs).toNat ++ ((fs.drop (5 + (nLits fs).toNat)).map (fun x => insOf (intOfW x))).map (fun i => wordOf i.num) = fs
  rw [hw5 0 (by omega), hw5 1 (by omega), hw5 2 (by omega), hw5 3 (by omega), hcode, List.append_assoc, ← List.drop_drop, List.take_append_drop]
  exact (list5 h5).symm
theorem decM_ok {fs : List Int} (h : decOk fs = true) : (decM fs).ok = true := by unfold decOk at h; simp only [Bool.and_eq_true] at h; exact h.2
end Go.Proofs.YtjghgambieflaaaGreatDoor
namespace Go.Proofs.YtjghgambieflaaaGreatDoor
open Go.RowKit

/-- S was made since w0 -/
structure Base (w0 W : World) (S : List Nat) : Prop where
  fr : Fr [] w0 W
  new : ∀ k ∈ S, w0.heap.size ≤ k
/-- the heap at hb holds m, and since W only S and what is new has changed -/
def HT (W : World) (hb mb : Nat) (S : List Nat) (m : Mem) (W' : World) : Prop := ∃ wv sv, HeapAt W' hb mb m wv sv ∧ Fr S W W' ∧ ∀ k ∈ foot mb wv sv, k ∈ S ∨ W.heap.size ≤ k
section
variable {w0 W W1 W2 : World} {hb mb rb : Nat} {S : List Nat} {m m' : Mem} {wv sv lv : Value} {lim root hashes : Int} {os : List Ob}
theorem HT.start (hH : HeapAt W hb mb m wv sv) : HT W hb mb (foot mb wv sv) m W := ⟨wv, sv, hH, Fr.refl _ _, fun _ h => .inl h⟩
theorem HT.still (h : HT W hb mb S m W1) (hF : Fr [] W1 W2) : HT W hb mb S m W2 := by
  obtain ⟨wv, sv, hH, hW, hk⟩ := h
  exact ⟨wv, sv, hH.fr hF (by simp) (fun _ _ => by simp), hW.trans hF.weak, hk⟩
theorem HT.fr (h : HT W hb mb S m W1) : Fr S W W1 := by obtain ⟨_, _, _, h, _⟩ := h; exact h
theorem HT.turns {f : Nat} {args : Array Value} {v : Value} (h : HT W hb mb S m W1) (hc : ∀ wv sv, HeapAt W1 hb mb m wv sv → Calls Tryz.prog f args W1 (Turns v mb m' (foot mb wv sv) W1)) : Calls Tryz.prog f args W1 fun e W2 => e = .returned v ∧ HT W hb mb S m' W2 := by
  have h' := h
  obtain ⟨wv, sv, hH, hW, hk⟩ := h'
  refine (hc wv sv hH).mono fun e W2 hT => ?_
  obtain ⟨rfl, wv', sv', hM, hF, hfr⟩ := hT
  refine ⟨rfl, wv', sv', ⟨hF.heap hH.apart hH.heap, hM⟩, hW.trans' hF (fun _ _ e => e) (fun j hj hm => (hk j hm).elim id (fun h => by omega)), fun k hk' => ?_⟩
  rcases hfr k hk' with h | h
  · exact hk k h
  · exact .inr (Nat.le_trans hW.size h)
theorem HT.stills {f : Nat} {args : Array Value} {v : Value} (h : HT W hb mb S m W1) (hc : ∀ wv sv, HeapAt W1 hb mb m wv sv → Calls Tryz.prog f args W1 (Still v W1)) : Calls Tryz.prog f args W1 fun e W2 => e = .returned v ∧ Fr [] W1 W2 ∧ HT W hb mb S m W2 := by
  have h' := h
  obtain ⟨wv, sv, hH, hW, hk⟩ := h'
  refine (hc wv sv hH).mono fun e W2 ⟨he, hF⟩ => ⟨he, hF, h.still hF⟩
theorem HT.toTurns {v : Value} {e : Ending} (h : HT W hb mb (foot mb wv sv) m' W1) (he : e = .returned v) : Turns v mb m' (foot mb wv sv) W e W1 := by
  obtain ⟨wv', sv', hH, hW, hk⟩ := h
  exact ⟨he, wv', sv', hH.mem, hW, hk⟩
theorem HT.since {w : World} (h : HT W hb mb S m W1) (hF : Fr [] w W) : HT w hb mb S m W1 := by
  obtain ⟨wv', sv', hH, hW, hk⟩ := h
  exact ⟨wv', sv', hH, hF.cons hW, fun k hk' => (hk k hk').imp id (fun h => Nat.le_trans hF.size h)⟩
theorem HT.glob (h : HT W hb mb S m W1) (hB : Base w0 W S) : Fr [] w0 W1 := hB.fr.join h.fr hB.new
theorem halloc (hg : Glob W) (hI : OInv lim os hashes) (hH : HeapAt W hb mb (absMem lim os root hashes) wv sv) (x n y : Int) (hx : WB x) (hy : WB y) (n1 : -9223372036854775808 ≤ n) (n2 : n ≤ 9223372036854775807) :
    Calls Tryz.prog 27 #[.pointer (some ⟨hb, 0, none⟩), .int .u64 x, .int .i64 n, .int .u64 y] W (Turns (.tuple #[.int .u64 (allocF lim os x n y).1, .int .i64 (allocF lim os x n y).2.1]) mb (absMem lim (allocF lim os x n y).2.2 root hashes) (foot mb wv sv) W) := by
  have hl1 := hI.l1
  have hl2 := hI.l2
  have hfit := hI.fit
  have hW := (absMem_len lim os root hashes).1
  have hO := memory_at hH
  rcases allocF_cases lim os x n y with ⟨h, h1, h2, ox, oy, hf⟩ | ⟨h, h1⟩ | ⟨h, h1, h2, ox, oy, hf⟩
  · rw [h]
    obtain ⟨N, rfl⟩ : ∃ N : Nat, n = N := ⟨n.toNat, by omega⟩
    have := alloc_ok hO x N y (by rw [hW]; unfold endOf; omega) (by show 1 ≤ lim; omega) (by show lim ≤ _; omega) (by omega) (by omega) hx.1 hx.2 hy.1 hy.2 ox oy (by rw [hW]; show _ ≤ lim; omega)
    rw [hW] at this
    have hp := absMem_push lim os root hashes (x, 0, List.replicate (N : Int).toNat y)
    simp only at hp
    rw [hp] at this
    exact this
  · rw [h]
    by_cases hn : n < 0 ∨ 512 < n
    · exact (alloc_fail hO hg x n y 1 (fun _ hM hG => admit_size hM hG x n y (by show 1 ≤ lim; omega) hn n1 n2)).mono fun _ _ h => h.turns hH.mem
    · have hb' : okB (absMem lim os root hashes).M x = false ∨ okB (absMem lim os root hashes).M y = false := by
        rcases h1 with h1 | h1 | h1
        · exact absurd (.inl h1) hn
        · exact absurd (.inr h1) hn
        · exact h1
      exact (alloc_fail hO hg x n y 1 (fun _ hM hG => admit_bad hM hG x n y (by show 1 ≤ lim; omega) (by omega) (by omega) hx.1 hx.2 hy.1 hy.2 hb')).mono fun _ _ h => h.turns hH.mem
  · rw [h]
    exact (alloc_fail hO hg x n y 2 (fun _ hM hG => admit_mem hM hG x n y (by show 1 ≤ lim; omega) (by show lim ≤ _; omega) (by omega) (by omega) hx.1 hx.2 hy.1 hy.2 ox oy (by rw [hW]; show lim < _; omega))).mono fun _ _ h => h.turns hH.mem
theorem take_endOf {os : List Ob} {i : Nat} {o : Ob} (ho : os[i]? = some o) : ∃ pre post, os = pre ++ o :: post ∧ pre.length = i ∧ os.take i = pre := by
  have hil := (List.getElem?_eq_some_iff.1 ho).1
  exact ⟨os.take i, os.drop (i + 1), take_split ho, by simp; omega, rfl⟩
theorem hstore (hg : Glob W) (hI : OInv lim os hashes) (hH : HeapAt W hb mb (absMem lim os root hashes) wv sv) {i : Nat} (hi : i < os.length) (k v : Int) (k1 : -9223372036854775808 ≤ k) (k2 : k ≤ 9223372036854775807) (hv : WB v) :
    Calls Tryz.prog 16 #[.pointer (some ⟨hb, 0, none⟩), .int .u64 (2 * (endOf (os.take i) : Int)), .int .i64 k, .int .u64 v] W (Turns (.int .i64 (storeI os i k v).1) mb (absMem lim (storeI os i k v).2 root hashes) (foot mb wv sv) W) := by
  obtain ⟨o, ho⟩ : ∃ o, os[i]? = some o := ⟨_, List.getElem?_eq_getElem hi⟩
  obtain ⟨pre, post, rfl, rfl, hp'⟩ := take_endOf ho
  rw [hp']
  have hp := endOf_pos pre
  have hq := endOf_lt pre post o
  have hfit := hI.fit
  have hl2 := hI.l2
  have hO := memory_at hH
  unfold storeI
  rw [ho]
  simp only
  by_cases hk : 0 ≤ k ∧ k < o.2.2.length
  · obtain ⟨j, rfl⟩ : ∃ j : Nat, k = j := ⟨k.toNat, by omega⟩
    have hj : j < o.2.2.length := by omega
    cases hok : okB (marksOf (pre ++ o :: post)) v
    · rw [if_neg (fun h => by simp at h)]
      exact (store_bad hO hg (endOf pre) o.2.2.length j v abs_mark hp abs_size (by omega) hj hv.1 hv.2 hok).mono fun _ _ h => h.turns hH.mem
    · rw [if_pos ⟨hk.1, hk.2, rfl⟩]
      have hw : (wordsOb o).set (3 + j) v = wordsOb (o.1, o.2.1, o.2.2.set j v) := by
        simp only [wordsOb, List.length_set]
        rw [List.set_append_right _ _ (by simp)]
        simp
      have hset := abs_set (lim := lim) (root := root) (hashes := hashes) (pre := pre) (post := post) (o := o) (3 + j) v (o.1, o.2.1, o.2.2.set j v) (by simp) (by omega) hw
      have he : (pre ++ o :: post).set pre.length (o.1, o.2.1, o.2.2.set j v) = pre ++ (o.1, o.2.1, o.2.2.set j v) :: post := by simp
      rw [Int.toNat_natCast, he, ← hset, ← Nat.add_assoc]
      exact store_ok hO (endOf pre) o.2.2.length j v abs_mark hp abs_size (by omega) hj (by rw [(absMem_len _ _ _ _).1]; omega) hv.1 hv.2 hok
  · rw [if_neg (fun h => hk ⟨h.1, h.2.1⟩)]
    exact (store_fail hO hg (endOf pre) o.2.2.length k v abs_mark hp abs_size (by omega) (by omega) k1 k2).mono fun _ _ h => h.turns hH.mem
/-- the document's heap at rb holds these objects, and since W only S and what is new has changed -/
def RT (W : World) (rb : Nat) (S : List Nat) (lim : Int) (os : List Ob) (root hashes : Int) (W' : World) : Prop := ∃ l lv, RAgree 1 l os ∧ RefAt W' rb ⟨lim, l, root, hashes⟩ lv ∧ Fr S W W' ∧ ∀ k ∈ rfoot rb ⟨lim, l, root, hashes⟩ lv, k ∈ S ∨ W.heap.size ≤ k
theorem RT.start {l : List RO} (ha : RAgree 1 l os) (hR : RefAt W rb ⟨lim, l, root, hashes⟩ lv) : RT W rb (rfoot rb ⟨lim, l, root, hashes⟩ lv) lim os root hashes W := ⟨l, lv, ha, hR, Fr.refl _ _, fun _ h => .inl h⟩
theorem RT.still (h : RT W rb S lim os root hashes W1) (hF : Fr [] W1 W2) : RT W rb S lim os root hashes W2 := by
  obtain ⟨l, lv, ha, hR, hW, hk⟩ := h
  exact ⟨l, lv, ha, hR.fr0 hF, hW.trans hF.weak, hk⟩
theorem RT.since {w : World} (h : RT W rb S lim os root hashes W1) (hF : Fr [] w W) : RT w rb S lim os root hashes W1 := by
  obtain ⟨l, lv, ha, hR, hW, hk⟩ := h
  exact ⟨l, lv, ha, hR, hF.cons hW, fun k hk' => (hk k hk').imp id (fun h => Nat.le_trans hF.size h)⟩
theorem RT.fr (h : RT W rb S lim os root hashes W1) : Fr S W W1 := by obtain ⟨_, _, _, _, h, _⟩ := h; exact h
theorem RT.turn {os' : List Ob} {l l' : List RO} {v lv : Value} {e : Ending} {root' hashes' : Int} (hW : Fr S W W1) (hk : ∀ k ∈ rfoot rb ⟨lim, l, root, hashes⟩ lv, k ∈ S ∨ W.heap.size ≤ k) (ha' : RAgree 1 l' os') (hT : RTurns v rb ⟨lim, l', root', hashes'⟩ (rfoot rb ⟨lim, l, root, hashes⟩ lv) W1 e W2) : e = .returned v ∧ RT W rb S lim os' root' hashes' W2 := by
  obtain ⟨rfl, lv', hR', hF, hfr⟩ := hT
  refine ⟨rfl, l', lv', ha', hR', hW.trans' hF (fun _ _ e => e) (fun j hj hm => (hk j hm).elim id (fun h => by omega)), fun k hk' => ?_⟩
  rcases hfr k hk' with h | h
  · exact hk k h
  · exact .inr (Nat.le_trans hW.size h)
theorem ralloc (hI : OInv lim os hashes) (hT : RT W rb S lim os root hashes W1) (x n y : Int) (hx : WB x) (hy : WB y) (n1 : -9223372036854775808 ≤ n) (n2 : n ≤ 9223372036854775807) :
    Calls Tryz.prog 31 #[.pointer (some ⟨rb, 0, none⟩), .int .u64 x, .int .i64 n, .int .u64 y] W1 fun e W2 => e = .returned (.tuple #[.int .u64 (allocF lim os x n y).1, .int .i64 (allocF lim os x n y).2.1]) ∧ RT W rb S lim (allocF lim os x n y).2.2 root hashes W2 := by
  have hT' := hT
  obtain ⟨l, lv, ha, hR, hW, hk⟩ := hT'
  have hl1 := hI.l1
  have hl2 := hI.l2
  have hfit := hI.fit
  have hmx := agree_may ha lim root hashes x
  have hmy := agree_may ha lim root hashes y
  have hu := agree_used ha
  rcases allocF_cases lim os x n y with ⟨h, h1, h2, ox, oy, hf⟩ | ⟨h, h1⟩ | ⟨h, h1, h2, ox, oy, hf⟩
  · rw [h]
    obtain ⟨N, rfl⟩ : ∃ N : Nat, n = N := ⟨n.toNat, by omega⟩
    refine (ralloc_ok hR x y N hx.1 hx.2 hy.1 hy.2 (by omega) (hmx.trans ox) (hmy.trans oy) (by rw [hu]; show _ ≤ lim; omega) (by show lim ≤ _; omega) ?_).mono ?_
    · have h1 := ha.len
      have h2 : ∀ q : List Ob, q.length * 3 ≤ (flatW q).length := by
        intro q
        induction q with
        | nil => simp
        | cons a q ih => rw [flatW_cons, List.length_append, wordsOb_len, List.length_cons]; omega
      have h3 := h2 os
      show l.length < _
      unfold endOf at hfit
      omega
    · rintro e W' ⟨nb, fv, hT⟩
      have := RT.turn hW hk (ha.snoc (o := (x, 0, List.replicate N y)) (r := ⟨nb, fv, x, 0, List.replicate N y, usedR l⟩) rfl (by rw [hu]; unfold endOf; rfl)) hT
      rw [hu] at this
      rw [Int.toNat_natCast]
      exact this
  · rw [h]
    refine (ralloc_arg hR x n y hx.1 hx.2 hy.1 hy.2 n1 n2 ?_).mono ?_
    · rcases h1 with h1 | h1 | h1 | h1
      · exact .inl h1
      · exact .inr (.inl h1)
      · exact .inr (.inr (.inl (hmx.trans h1)))
      · exact .inr (.inr (.inr (hmy.trans h1)))
    · rintro e W' ⟨rfl, rfl⟩
      exact ⟨rfl, hT⟩
  · rw [h]
    refine (ralloc_mem hR x n y hx.1 hx.2 hy.1 hy.2 h1 h2 (hmx.trans ox) (hmy.trans oy) (by rw [hu]; show lim < _; omega) (by show lim ≤ _; omega) (by show 0 ≤ lim; omega)).mono ?_
    rintro e W' ⟨rfl, hF⟩
    exact ⟨rfl, hT.still hF⟩
theorem rstore (hI : OInv lim os hashes) (hT : RT W rb S lim os root hashes W1) {i : Nat} (hi : i < os.length) (k v : Int) (k1 : -9223372036854775808 ≤ k) (k2 : k ≤ 9223372036854775807) (hv : WB v) :
    Calls Tryz.prog 17 #[.pointer (some ⟨rb, 0, none⟩), .int .u64 (2 * (endOf (os.take i) : Int)), .int .i64 k, .int .u64 v] W1 fun e W2 => e = .returned (.int .i64 (storeI os i k v).1) ∧ RT W rb S lim (storeI os i k v).2 root hashes W2 := by
  have hT' := hT
  obtain ⟨l, lv, ha, hR, hW, hk'⟩ := hT'
  obtain ⟨o, ho⟩ : ∃ o, os[i]? = some o := ⟨_, List.getElem?_eq_getElem hi⟩
  obtain ⟨pre, post, rfl, rfl, hp'⟩ := take_endOf ho
  rw [hp']
  have hp := endOf_pos pre
  have hq := endOf_lt pre post o
  have hfit := hI.fit
  have hl2 := hI.l2
  have hmv := agree_may ha lim root hashes v
  have hst : stB (absMem lim (pre ++ o :: post) root hashes).M (2 * (endOf pre : Int)) = true := stB_mk hp (by omega) abs_mark
  obtain ⟨r, hr1, hr2, hr3, hr4⟩ := ha.find
  have hf : findR l (2 * (endOf pre : Int)) = some r := by
    unfold findR
    rw [if_pos (by rw [rfOk_iff]; omega)]
    rw [show (2 * (endOf pre : Int)) / 2 = ((1 + (flatW pre).length : Nat) : Int) by unfold endOf; omega]
    exact hr4
  have e : r.fs = o.2.2 := by rw [← hr2]; rfl
  unfold storeI
  rw [ho]
  simp only
  by_cases hk : 0 ≤ k ∧ k < o.2.2.length
  · obtain ⟨j, rfl⟩ : ∃ j : Nat, k = j := ⟨k.toNat, by omega⟩
    have hj : j < o.2.2.length := by omega
    cases hok : okB (marksOf (pre ++ o :: post)) v
    · rw [if_neg (fun h => by simp at h)]
      refine (rstore_no hR _ j v (by omega) (by omega) k1 k2 hv.1 hv.2 (.inr (hmv.trans hok))).mono ?_
      rintro e W' ⟨rfl, rfl⟩
      exact ⟨rfl, hT⟩
    · rw [if_pos ⟨hk.1, hk.2, rfl⟩]
      refine (rstore_ok hR _ v j (by omega) (by omega) hv.1 hv.2 hf hr1 (by rw [e]; exact hj) (hmv.trans hok)).mono fun e' W' hT' => ?_
      have he : (pre ++ o :: post).set pre.length (o.1, o.2.1, o.2.2.set j v) = pre ++ (o.1, o.2.1, o.2.2.set j v) :: post := by simp
      rw [Int.toNat_natCast, he]
      exact RT.turn hW hk' (ha.set (r' := { r with fs := r.fs.set j v }) hr1 (by rw [← hr2]; rfl) rfl (by simp)) hT'
  · rw [if_neg (fun h => hk ⟨h.1, h.2.1⟩)]
    refine (rstore_no hR _ k v (by omega) (by omega) k1 k2 hv.1 hv.2 (.inl ?_)).mono ?_
    · unfold fieldR
      simp only [hf]
      split
      · exact List.getElem?_eq_none_iff.2 (by rw [e]; omega)
      · rfl
    · rintro e W' ⟨rfl, rfl⟩
      exact ⟨rfl, hT⟩
end
end Go.Proofs.YtjghgambieflaaaGreatDoor
namespace Go.Proofs.YtjghgambieflaaaGreatDoor
open Go.RowKit

/-- append of words to an owned row -/
theorem append_words_run {w : World} (ty : TypeId) (v : Value) (n : Nat) (us : List Value) (hown : w.ownsRow 0 32 1 v n us) {ra : Option Addr} {rc : Nat} (xs : List Int) (hX : WordsAt w ra xs) (hX0 : ra = none → rc = 0 ∧ xs = []) (hn : n + xs.length ≤ 17592186044416) :
    ∃ v' w', (Builtin.append_ #[22, 22] ty #[v, .slice ra xs.length rc]).run Tryz.prog w = .ok v' w' ∧ w'.ownsRow 0 32 1 v' (n + xs.length) (us ++ xs.map (Value.int .u64)) ∧ w.grownBy w' v.ownBlock ∧ (v'.ownBlock = v.ownBlock ∨ v'.ownBlock = some w.heap.size) := by
  obtain ⟨i0, hi, hz0, hz1, hz2⟩ := info_parts infoWord
  cases ra with
  | none =>
    obtain ⟨rfl, rfl⟩ := hX0 rfl
    refine ⟨v, w, run_append_owned_none (P := Tryz.prog) (w := w) 0 22 ty 32 i0 1 Tryz.underlying22 hi v n us hown, by simpa using hown, ⟨rfl, rfl, rfl, Nat.le_refl _, fun _ _ _ => rfl⟩, .inl rfl⟩
  | some ad =>
    exact run_append_at (P := Tryz.prog) w 22 ty 32 i0 (.int .u64 0) 1 8 Tryz.underlying22 hi hz0 hz1 hz2 rfl (by decide) v n us hown ad xs.length rc (xs.map (Value.int .u64)) (by simp) (fun j u hj => by
      rw [List.getElem?_map] at hj
      cases hxj : xs[j]? with
      | none => rw [hxj] at hj; cases hj
      | some y =>
        rw [hxj] at hj
        cases hj
        obtain ⟨g, of, e, hc⟩ := hX j y hxj
        cases e
        rw [Lib.add_plain]
        exact hc) (ints_one xs) (by unfold maxLen; omega) (by omega)
theorem wpList_append_words {w : World} {ops : Array Oper} {rest : List Oper} {o : Oper} {a : Act} {Q : Exit → Act → World → Prop} (hgd : o.guard = none) (s x : Operand) (ho : o.op = .call { callee := .builtin .append, args := #[s, x], argTypes := #[22, 22] })
    (v : Value) (n : Nat) (us : List Value) (hs : a.eval s = v) (hown : w.ownsRow 0 32 1 v n us) {ra : Option Addr} {rc : Nat} (xs : List Int) (hx : a.eval x = .slice ra xs.length rc) (hX : WordsAt w ra xs) (hX0 : ra = none → rc = 0 ∧ xs = []) (hn : n + xs.length ≤ 17592186044416)
    (h : ∀ v' w', w'.ownsRow 0 32 1 v' (n + xs.length) (us ++ xs.map (Value.int .u64)) → w.grownBy w' v.ownBlock → (v'.ownBlock = v.ownBlock ∨ v'.ownBlock = some w.heap.size) → wpList Tryz.prog ops Q rest (a.put o.dst v') w') : wpList Tryz.prog ops Q (o :: rest) a w := by
  obtain ⟨v', w', hr, h2, h3, h4⟩ := append_words_run o.type v n us hown xs (rc := rc) hX hX0 hn
  exact Lib.wpList_append_run w hgd s x 22 22 ho v _ hs hx v' w' hr (h v' w' h2 h3 h4)
theorem makeWs (k n : Nat) (h1 : k ≤ n) (h2 : n ≤ 65536) : ∃ Z : Array Value, Hid (Z.size = n ∧ ∀ j, j < n → Z[j]? = some (Value.int .u64 0)) ∧ ∀ W : World, (Instr.makeSlice 22 (.int .i64 (k : Int)) (.int .i64 (n : Int))).run Tryz.prog W = .ok (.slice (some ⟨W.heap.size, 0, none⟩) k n) (W.alloc (.cells Z 32)) := by
  obtain ⟨i0, hi, hz0, hz1, hz2⟩ := info_parts infoWord
  refine ⟨madeCells (Value.int .u64 0).cells n, ⟨size_madeCells _ _, fun j hj => ?_⟩, fun W => ?_⟩
  · rw [← Array.getElem?_toList, show (Value.int .u64 0).cells = #[Value.int .u64 0] from rfl, toList_madeCells_one]
    simp [hj]
  · have hr := run_make (P := Tryz.prog) W 22 32 i0 (.int .u64 0) Tryz.underlying22 hi hz0 .i64 .i64 k n (by omega) (by omega) (by rw [hz2]; omega) (by omega)
    simp only [Int.toNat_natCast, hz1, Nat.mul_one] at hr
    exact hr
theorem words_row {w : World} {ao : Option Addr} {xs : List Int} (h : RowAt w ao (xs.map (Value.int .u64))) : WordsAt w ao xs := by
  intro i x hx
  exact h i _ (by rw [List.getElem?_map, hx]; rfl)
theorem row_words {w : World} {ao : Option Addr} {xs : List Int} (h : WordsAt w ao xs) : RowAt w ao (xs.map (Value.int .u64)) := by
  intro i u hu
  rw [List.getElem?_map] at hu
  cases hx : xs[i]? with
  | none => rw [hx] at hu; cases hu
  | some y => rw [hx] at hu; cases hu; exact h i y hx
/-- where a method's literals and instructions lie -/
structure MAt (w : World) (m : Mth) (la : Option Addr) (lc : Nat) (ca : Option Addr) : Prop where
  lits : WordsAt w la m.lits
  none : la = none → lc = 0 ∧ m.lits = []
  code : RowAt w ca (flatI m.code)
theorem MAt.fr0 {w w' : World} {m : Mth} {la ca : Option Addr} {lc : Nat} (h : MAt w m la lc ca) (hF : Fr [] w w') : MAt w' m la lc ca :=
  ⟨h.lits.fr hF (fun _ _ => by simp), h.none, row_fr h.code hF⟩
theorem five_cons {α : Type} : ∀ {l : List α}, 5 ≤ l.length → ∃ a b c d e r, l = a :: b :: c :: d :: e :: r
  | [], h => by simp at h
  | [_], h => by simp at h
  | [_, _], h => by simp at h
  | [_, _, _], h => by simp at h
  | [_, _, _, _], h => by simp at h
  | a :: b :: c :: d :: e :: r, _ => ⟨a, b, c, d, e, r, rfl⟩
theorem own5 {w : World} {g n : Nat} {Z : Array Value} {a b c d e : Value} (hZ : Z.size = n) (h5 : 5 ≤ n) (hn : n ≤ 65536) (hg : w.heap[g]? = some (.cells (((((Z.setIfInBounds 0 a).setIfInBounds 1 b).setIfInBounds 2 c).setIfInBounds 3 d).setIfInBounds 4 e) 32 (0, 0))) :
    w.ownsRow 0 32 1 (.slice (some ⟨g, 0, none⟩) 5 n) 5 [a, b, c, d, e] := by
  refine ⟨rfl, .inr ⟨g, n, _, rfl, Nat.zero_le _, hg, h5, by unfold maxLen; omega, ?_, ?_⟩⟩
  · simp; omega
  · obtain ⟨l, rfl⟩ : ∃ l : List Value, Z = l.toArray := ⟨Z.toList, by simp⟩
    obtain ⟨x0, x1, x2, x3, x4, r, rfl⟩ := five_cons (l := l) (by simp at hZ; omega)
    simp
set_option maxRecDepth 100000 in
set_option maxHeartbeats 1000000 in
theorem encoded_at (m : Mth) (la ca : Option Addr) (lc cc : Nat) (w : World) (hM : MAt w m la lc ca) (hok : m.ok = true) : Calls Tryz.prog 26 #[m.v la lc ca cc] w (Lists 32 1 m.fs.length (m.fs.map (Value.int .u64)) w) := by
  obtain ⟨i0, hi, hz0, hz1, hz2⟩ := info_parts infoWord
  obtain ⟨hh, hc⟩ := m.ok_iff.1 hok
  have hd := m.head_iff.1 hh
  have HM := Lib.hid hM
  have HC := Lib.hid hc
  clear hM hok hh hc
  obtain ⟨args, temps, stack, prim, lits, code⟩ := m
  unfold Mth.v
  simp only at hd HM HC ⊢
  obtain ⟨ll, hll⟩ : ∃ n, n = lits.length := ⟨_, rfl⟩
  obtain ⟨n, hn⟩ : ∃ n, n = code.length := ⟨_, rfl⟩
  obtain ⟨N, hN⟩ : ∃ N, N = 5 + ll + n := ⟨_, rfl⟩
  rw [← hll, ← hn] at hd
  rw [← hll, ← hn]
  have HLL := Lib.hid hll
  have HN := Lib.hid hn
  have HNN := Lib.hid hN
  have hNb : N ≤ 165 ∧ 5 ≤ N := by omega
  obtain ⟨Z, HZ, hmk⟩ := makeWs 5 N (by omega) (by omega)
  have e5 : ((5 : Nat) : Int) = 5 := rfl
  have eN : ((N : Nat) : Int) = 5 + (ll : Int) + (n : Int) := by omega
  rw [e5, eN] at hmk
  have z0 := HZ.out.2 0 (by omega)
  have z1 := HZ.out.2 1 (by omega)
  have z2 := HZ.out.2 2 (by omega)
  have z3 := HZ.out.2 3 (by omega)
  have z4 := HZ.out.2 4 (by omega)
  clear hll hn hN e5 eN
  go_enter Tryz.func26, Tryz.ntmps26
  have hsz : (w.alloc (.cells #[.int .i64 args, .int .i64 temps, .int .i64 stack, .int .i64 prim, .slice la ll lc, .slice ca n cc] 25)).heap.size = w.heap.size + 1 := by simp
  obtain ⟨W7, hW7⟩ : ∃ W7, W7 = (w.alloc (.cells #[.int .i64 args, .int .i64 temps, .int .i64 stack, .int .i64 prim, .slice la ll lc, .slice ca n cc] 25)).alloc (.cells (((((Z.setIfInBounds 0 (.int .u64 (wordOf args))).setIfInBounds 1 (.int .u64 (wordOf temps))).setIfInBounds 2 (.int .u64 (wordOf stack))).setIfInBounds 3 (.int .u64 (wordOf prim))).setIfInBounds 4 (.int .u64 (wordOf ll))) 32) := ⟨_, rfl⟩
  have HF7 : Hid (Fr [] (w.alloc (.cells #[.int .i64 args, .int .i64 temps, .int .i64 stack, .int .i64 prim, .slice la ll lc, .slice ca n cc] 25)) W7) := by rw [hW7]; exact (Fr.refl _ _).alloc _
  have hnb : W7.heap[w.heap.size + 1]? = some (.cells (((((Z.setIfInBounds 0 (.int .u64 (wordOf args))).setIfInBounds 1 (.int .u64 (wordOf temps))).setIfInBounds 2 (.int .u64 (wordOf stack))).setIfInBounds 3 (.int .u64 (wordOf prim))).setIfInBounds 4 (.int .u64 (wordOf ll))) 32 (0, 0)) := by
    rw [← hsz, hW7]
    exact heap_new _ _
  have HO7 : Hid (W7.ownsRow 0 32 1 (.slice (some ⟨w.heap.size + 1, 0, none⟩) 5 N) 5 [.int .u64 (wordOf args), .int .u64 (wordOf temps), .int .u64 (wordOf stack), .int .u64 (wordOf prim), .int .u64 (wordOf ll)]) := own5 HZ.out.1 (by omega) (by omega) hnb
  have HW7 := Lib.hid hW7
  have HWL : Hid (Fr [] w W7) := ((Fr.refl [] w).alloc _).trans HF7.out
  have HB7 := Lib.hid (HF7.out.heap (by simp) (heap_new _ _))
  have HL5 : Hid (5 + lits.length ≤ 17592186044416) := Lib.hid (by rw [← HLL.out]; omega)
  clear hsz hnb hW7
  go_upto_region 7 with ((go_at_call 28; refine (integer_gives _ _ (fit_small (by omega) (by omega))).mono ?_; rintro e w' ⟨rfl, rfl⟩))
  rw [← HW7.out]
  have k4 := cell_of_heap (o := 4) HB7.out rfl
  have k5 := cell_of_heap (o := 5) HB7.out rfl
  clear HW7 hmk z0 z1 z2 z3 z4
  go_wp2_with (first
    | (at_builtin; refine wpList_append_words rfl (.tmp 41) (.tmp 43) rfl _ 5 _ rfl HO7.out lits (by rw [← HLL.out]; rfl) (HM.out.lits.fr HWL.out (fun _ _ => by simp)) HM.out.none HL5.out ?_; intro v1 w1 ho1 hg1 hf1; obtain ⟨a1, p1, rfl⟩ := row_shape ho1; have HF1 := Lib.hid (HF7.out.grown hg1 (fun k hk hl => by cases hk; simp at hl)); have HO1 := Lib.hid ho1; have HFF1 := Lib.hid hf1; have k5 := cell_of_heap (o := 5) (HF1.out.heap (by simp) (heap_new _ _)) rfl; clear ho1 hg1 hf1))
  have HG1 : Hid (Grows w 32 1 (5 + ll) (([wordOf args, wordOf temps, wordOf stack, wordOf prim, wordOf ll] ++ lits).map (Value.int .u64)) (.slice a1 (5 + lits.length) p1) w1) := by
    refine ⟨?_, ((Fr.refl [] w).alloc _).trans HF1.out, fun q hq => ?_⟩
    rotate_left
    · have hs := HWL.out.size
      rcases HFF1.out with h | h
      · have e := h.symm.trans hq; cases e; show w.heap.size ≤ w.heap.size + 1; omega
      · have e := h.symm.trans hq; cases e; exact hs
    have h := HO1.out
    rw [← HLL.out] at h ⊢
    simpa using h
  go_loopw [3, 48] (fun v i wr => ∃ k : Nat, k ≤ n ∧ i = .int .i64 k ∧ Hid (Grows w 32 1 (5 + ll + k) ((([wordOf args, wordOf temps, wordOf stack, wordOf prim, wordOf ll] ++ lits) ++ (code.take k).map (fun i => wordOf i.num)).map (Value.int .u64)) v wr)) (fun _ i _ => n - (intOf i).toNat)
  case atStart => exact ⟨0, Nat.zero_le _, rfl, by simpa using HG1⟩
  case round =>
    obtain ⟨k, hk, rfl, hG⟩ := hrel
    obtain ⟨vo, vc, rfl⟩ := row_shape hG.out.row
    by_cases hlt : k < n
    · have hkl : k < code.length := by rw [← HN.out]; exact hlt
      obtain ⟨b, hb⟩ : ∃ b, code[k]? = some b := ⟨_, List.getElem?_eq_getElem hkl⟩
      obtain ⟨f1, f2, f3⟩ := flatI_at hb
      obtain ⟨g, off, rfl, c1⟩ := HM.out.code _ _ f1
      obtain ⟨_, _, e2, c2⟩ := HM.out.code _ _ f2
      cases e2
      obtain ⟨_, _, e3, c3⟩ := HM.out.code _ _ f3
      cases e3
      have d1 := hG.out.fr.cell (by simp) c1
      have d2 := hG.out.fr.cell (by simp) c2
      have d3 := hG.out.fr.cell (by simp) c3
      rw [← Nat.add_assoc] at d2 d3
      have HPK := Lib.hid (packed_at b (HC.out b (List.mem_of_getElem? hb)))
      have HT : Hid ((([wordOf args, wordOf temps, wordOf stack, wordOf prim, wordOf ll] ++ lits) ++ (code.take (k + 1)).map (fun i => wordOf i.num)).map (Value.int .u64) = ((([wordOf args, wordOf temps, wordOf stack, wordOf prim, wordOf ll] ++ lits) ++ (code.take k).map (fun i => wordOf i.num)).map (Value.int .u64)) ++ [.int .u64 (wordOf b.num)]) := by
        rw [List.take_add_one, hb]
        exact Lib.hid (by simp)
      obtain ⟨y, hy⟩ : ∃ y, y = wordOf b.num := ⟨_, rfl⟩
      rw [← hy] at HPK HT
      have k0 : (0 : Int) ≤ (k : Int) := by omega
      have k1 : (k : Int) < (n : Int) := by omega
      obtain ⟨op, a, b⟩ := b
      unfold Ins.v at HPK
      simp only at d1 d2 d3 HPK
      clear hkl hb f1 f2 f3 c1 c2 c3 hy
      go_wp2_with fail
      refine (HPK.out _).mono ?_
      rintro e w3 ⟨rfl, hF3⟩
      have HF3 : Hid (Fr [] wr w3) := ((Fr.refl [] wr).alloc _).trans hF3
      have HR3 : Hid ((w3.alloc (.cells #[.int .u64 y] 32)).ownsRow 0 32 1 (.slice vo (5 + ll + k) vc) (5 + ll + k) _) := (HF3.out.alloc _).row hG.out.row (fun _ _ => by simp)
      clear hF3 d1 d2 d3
      go_wp2_with (at_builtin; refine wpList_append_at _ rfl (.tmp 52) (.tmp 55) 22 rfl 32 i0 (.int .u64 0) 1 8 Tryz.underlying22 hi hz0 hz1 hz2 rfl (by decide) (.slice vo (5 + ll + k) vc) (5 + ll + k) _ rfl HR3.out ⟨w3.heap.size, 0, none⟩ 1 1 [.int .u64 y] rfl rfl (cell1 (by simp)) (by simp [Value.oneCell']) (by unfold maxLen; omega) (by omega) ?_; intro v5 w5 ho5 hg5 hf5; obtain ⟨a5, p5, rfl⟩ := row_shape ho5; have HGn := Lib.hid (hG.out.step (HF3.out.alloc _) ho5 hg5 hf5); clear ho5 hg5 hf5)
      go_roundw
      case rel => exact ⟨k + 1, by omega, by go_num, by rw [HT.out]; exact HGn.out⟩
      case measure => simp [intOf]; omega
    · have hkn : k = n := by omega
      subst hkn
      have hkd : decide (k < k) = false := by simp
      have HT : Hid (code.take k = code) := List.take_of_length_le (by rw [← HN.out]; omega)
      have HX := hG.out
      rw [HT.out] at HX
      have HX2 := Lib.hid HX
      clear HX
      go_wp2_with fail
      go_ret
      refine ⟨_, rfl, ?_, HX2.out.fr, HX2.out.new⟩
      have h := HX2.out.row
      rw [Mth.fs_len]
      simp only
      rw [← HLL.out, ← HN.out]
      unfold Mth.fs
      simp only
      rw [← HLL.out]
      exact h
end Go.Proofs.YtjghgambieflaaaGreatDoor
namespace Go.Proofs.YtjghgambieflaaaGreatDoor
open Go.RowKit

theorem writeF_stores {lim : Int} {os : List Ob} {cls : Int} {m : Mth} (hok : m.ok = true) (ha : allocF lim os cls m.fs.length 1 = (2 * (endOf os : Int), 0, os ++ [(cls, 0, List.replicate (m.fs.length : Int).toNat 1)])) :
    writeF lim os cls m = (if (storesI os.length (os ++ [(cls, 0, List.replicate (m.fs.length : Int).toNat 1)]) 0 m.fs).1 = 0 then 2 * (endOf os : Int) else 0, storesI os.length (os ++ [(cls, 0, List.replicate (m.fs.length : Int).toNat 1)]) 0 m.fs) := by
  unfold writeF
  rw [if_neg (by simp [hok]), ha]
  simp only [if_true]
theorem storesI_cons (i : Nat) (os : List Ob) (k : Nat) (v : Int) (fs : List Int) : storesI i os k (v :: fs) = if (storeI os i k v).1 = 0 then storesI i (storeI os i k v).2 (k + 1) fs else storeI os i k v := rfl
theorem storesI_nil (i : Nat) (os : List Ob) (k : Nat) : storesI i os k [] = (0, os) := rfl
theorem storeI_take {os : List Ob} {i : Nat} {k v : Int} : (storeI os i k v).2.take i = os.take i := by
  rcases storeI_cases os i k v with ⟨-, o, ho, -, -, -, h⟩ | h
  · rw [h, List.take_set_of_le (Nat.le_refl _)]
  · rw [h]
/-- between two stores of Write -/
structure Storing (lim root hashes : Int) (os os1 : List Ob) (fs : List Int) (w3 : World) (hb mb : Nat) (S : List Nat) (k : Nat) (wr : World) (os' : List Ob) : Prop where
  heap : HT w3 hb mb S (absMem lim os' root hashes) wr
  rest : storesI os.length os' k (fs.drop k) = storesI os.length os1 0 fs
  inv : OInv lim os' hashes
  len : os'.length = os.length + 1
  pre : os'.take os.length = os
set_option maxRecDepth 100000 in
set_option maxHeartbeats 1000000 in
theorem write_at (m : Mth) (la ca : Option Addr) (lc cc : Nat) (cls : Int) (hcls : WB cls) (hl : ∀ x ∈ m.lits, WB x) {w0 W : World} {hb mb : Nat} {lim root hashes : Int} {os : List Ob} {wv sv : Value} (hg : Glob w0) (hE : Field w0) (hB : Base w0 W (foot mb wv sv)) (hI : OInv lim os hashes) (hH : HeapAt W hb mb (absMem lim os root hashes) wv sv) (hM : MAt W m la lc ca) :
    Calls Tryz.prog 14 #[.pointer (some ⟨hb, 0, none⟩), .int .u64 cls, m.v la lc ca cc] W (Turns (.tuple #[.int .u64 (writeF lim os cls m).1, .int .i64 (writeF lim os cls m).2.1]) mb (absMem lim (writeF lim os cls m).2.2 root hashes) (foot mb wv sv) W) := by
  have HCK := Lib.hid (fun W' (hF : Fr [] W W') => check_at m la ca lc cc W' (row_fr hM.code hF) ((hE.fr hB.fr).fr hF))
  cases hok : m.ok
  · have e : writeF lim os cls m = (0, 4, os) := by unfold writeF; rw [if_pos hok]
    rw [e]
    rw [hok] at HCK
    simp only [Bool.false_eq_true, if_false] at HCK
    unfold Mth.v at HCK ⊢
    have HH := Lib.hid hH
    clear hok e hM hI hE hg hB hH hl
    go_enter Tryz.func14, Tryz.ntmps14
    go_wp2_with fail
    refine (HCK.out _ ((Fr.refl _ _).alloc _)).mono ?_
    rintro e w2 ⟨rfl, hF⟩
    have HF : Hid (Fr [] W w2) := ((Fr.refl [] W).alloc _).trans hF
    clear hF
    go_wp2_with fail
    go_ret2
    exact Still.turns (w := W) (w' := w2) HH.out.mem ⟨rfl, HF.out⟩
  · rw [hok] at HCK
    simp only [if_true] at HCK
    have HEN := Lib.hid (fun W' (hF : Fr [] W W') => encoded_at m la ca lc cc W' (hM.fr0 hF) hok)
    have hi0 : ∀ W, Calls Tryz.prog 28 #[.int .i64 0] W (Gives (.int .u64 1) W) := by
      have e1 : wordOf 0 = 1 := by decide
      have := fun W => integer_gives 0 W (by decide)
      rw [e1] at this
      exact this
    have HWB := Lib.hid (Mth.fs_WB hl)
    have HI := Lib.hid hI
    have HB := Lib.hid hB
    have HG := Lib.hid hg
    have HH := Lib.hid hH
    have HOK := Lib.hid hok
    have hNb : m.fs.length ≤ 165 := by
      have := m.head_iff.1 (m.ok_iff.1 hok).1
      rw [m.fs_len]
      omega
    obtain ⟨fs, hfs⟩ : ∃ fs, fs = m.fs := ⟨_, rfl⟩
    obtain ⟨N, hN⟩ : ∃ N, N = fs.length := ⟨_, rfl⟩
    rw [← hfs] at HEN HWB hNb
    rw [← hN] at HEN hNb
    have HFS := Lib.hid hfs
    have HN := Lib.hid hN
    unfold Mth.v at HCK HEN ⊢
    clear hM hI hE hg hB hH hl hok hfs hN
    go_enter Tryz.func14, Tryz.ntmps14
    go_wp2_with fail
    refine (HCK.out _ ((Fr.refl _ _).alloc _)).mono ?_
    rintro e w2 ⟨rfl, hF2⟩
    have HF2 : Hid (Fr [] W w2) := ((Fr.refl [] W).alloc _).trans hF2
    have HB2 := Lib.hid (hF2.heap (by simp) (heap_new _ _))
    have k0 := cell_of_heap (o := 0) HB2.out rfl
    have k1 := cell_of_heap (o := 1) HB2.out rfl
    have k2 := cell_of_heap (o := 2) HB2.out rfl
    have k3 := cell_of_heap (o := 3) HB2.out rfl
    have k4 := cell_of_heap (o := 4) HB2.out rfl
    have k5 := cell_of_heap (o := 5) HB2.out rfl
    clear hF2
    go_wp2_with fail
    refine (HEN.out _ HF2.out).mono ?_
    rintro e w3 ⟨v, rfl, hrow, hF3, hnew⟩
    obtain ⟨fa, fc, rfl⟩ := row_shape hrow
    have HF3 : Hid (Fr [] W w3) := HF2.out.trans hF3
    have HH3 : Hid (HeapAt w3 hb mb (absMem lim os root hashes) wv sv) := HH.out.fr HF3.out (by simp) (fun _ _ => by simp)
    have HB3 : Hid (Base w0 w3 (foot mb wv sv)) := ⟨HB.out.fr.trans HF3.out, HB.out.new⟩
    have HROW : Hid (WordsAt w3 fa fs) := words_row (row_rowAt hrow)
    have HNEW : Hid (∀ a, fa = some a → W.heap.size ≤ a.block) := Lib.hid fun a ha => by
      subst ha
      rcases hrow.2 with ⟨h0, -⟩ | ⟨g, cap, cur, h0, -⟩
      · cases h0
      · cases h0
        have := hnew g rfl
        have := HF2.out.size
        show W.heap.size ≤ g
        omega
    have HAL := Lib.hid ((HT.start HH3.out).turns (fun _ _ hH' => halloc (HG.out.fr HB3.out.fr) HI.out hH' cls N 1 hcls (by unfold WB; omega) (by omega) (by omega)))
    have HCA := Lib.hid (allocF_cases lim os cls N 1)
    have HIV := Lib.hid (allocF_inv HI.out cls N 1 hcls (by unfold WB; omega))
    clear hrow hF3 hnew k0 k1 k2 k3 k4 k5
    rcases HCA.out with ⟨ha, -, -, -, -, hroom⟩ | hno
    · have hal := HAL.out
      have hiv := HIV.out
      rw [ha] at hal hiv
      simp only at hal hiv
      have HWF := Lib.hid (writeF_stores HOK.out (lim := lim) (os := os) (cls := cls) (by rw [← HFS.out, ← HN.out]; exact ha))
      have HIV2 := Lib.hid hiv
      have hend : (endOf os : Int) + 3 + N ≤ 65536 ∧ (1 : Int) ≤ endOf os := by
        have := HI.out.l2
        have := endOf_pos os
        omega
      clear ha HCA HAL HIV hiv hroom
      go_wp2_with (first | (go_at_call 28; refine (hi0 _).mono ?_; rintro e w' ⟨rfl, rfl⟩) | (go_at_call 27; refine hal.mono ?_; rintro e w4 ⟨rfl, hHT4⟩; have HT4 := Lib.hid hHT4; clear hHT4))
      clear hal
      go_loopw [36] (fun i wr => ∃ k : Nat, k ≤ N ∧ i = .int .i64 k ∧ ∃ os', Hid (Storing lim root hashes os (os ++ [(cls, 0, List.replicate (N : Int).toNat 1)]) fs w3 hb mb (foot mb wv sv) k wr os')) (fun i _ => N - (intOf i).toNat)
      case atStart => exact ⟨0, Nat.zero_le _, rfl, _, ⟨HT4.out, rfl, HIV2.out, by simp, by simp⟩⟩
      case round =>
        obtain ⟨k, hk, rfl, os', hS⟩ := hrel
        by_cases hlt : k < N
        · have hkl : k < fs.length := by rw [← HN.out]; exact hlt
          obtain ⟨x, hx⟩ : ∃ x, fs[k]? = some x := ⟨_, List.getElem?_eq_getElem hkl⟩
          obtain ⟨g, off, rfl, hc⟩ := HROW.out k x hx
          have hgS : g ∉ foot mb wv sv := fun hgm => by
            have h1 := HNEW.out _ rfl
            have h2 := HH.out.mem.lt g hgm
            have h3 : W.heap.size ≤ g := h1
            omega
          have hc' := hS.out.heap.fr.cell hgS hc
          have hxb := HWB.out x (List.mem_of_getElem? hx)
          have hst := hS.out.heap.turns (fun _ _ hH' => hstore (HG.out.fr (hS.out.heap.glob HB3.out)) hS.out.inv hH' (i := os.length) (by rw [hS.out.len]; omega) k x (by omega) (by omega) hxb)
          rw [hS.out.pre] at hst
          have hdr : fs.drop k = x :: fs.drop (k + 1) := by rw [List.drop_eq_getElem_cons hkl]; rw [List.getElem?_eq_getElem hkl] at hx; rw [Option.some.inj hx]
          have hrest := hS.out.rest
          rw [hdr, storesI_cons] at hrest
          have hiv' := storeI_inv hS.out.inv os.length k x hxb
          have hln := storeI_len os' os.length k x
          have htk := storeI_take (os := os') (i := os.length) (k := (k : Int)) (v := x)
          have k0 : (0 : Int) ≤ (k : Int) := by omega
          have k1 : (k : Int) < (N : Int) := by omega
          rcases storeI_cases os' os.length k x with ⟨h0, -⟩ | h1
          · rw [if_pos h0] at hrest
            rw [h0] at hst
            have HNX : Hid (∀ w5, HT w3 hb mb (foot mb wv sv) (absMem lim (storeI os' os.length k x).2 root hashes) w5 → Storing lim root hashes os (os ++ [(cls, 0, List.replicate (N : Int).toNat 1)]) fs w3 hb mb (foot mb wv sv) (k + 1) w5 (storeI os' os.length k x).2) := Lib.hid fun w5 h5 => ⟨h5, hrest, hiv', by rw [hln]; exact hS.out.len, by rw [htk]; exact hS.out.pre⟩
            have HST := Lib.hid hst
            clear hst hrest hiv' hln htk h0 hdr hx hc hkl hgS
            go_wp2_with (first | (go_at_call 16; refine HST.out.mono ?_; rintro e w5 ⟨rfl, h5⟩; have H5 := Lib.hid (HNX.out w5 h5); clear h5))
            go_roundw
            case rel => exact ⟨k + 1, by omega, by go_num, _, H5⟩
            case measure => simp [intOf]; omega
          · rw [h1] at hrest hst
            simp only at hst
            rw [if_neg (by simp)] at hrest
            have HST := Lib.hid hst
            have HR := Lib.hid hrest
            clear hst hrest hiv' hln htk h1 hdr hx hc hkl hgS
            go_wp2_with (first | (go_at_call 16; refine HST.out.mono ?_; rintro e w5 ⟨rfl, h5⟩; have H5 := Lib.hid h5; clear h5))
            go_ret2
            rw [HWF.out, ← HFS.out, ← HN.out, ← HR.out]
            have h6 : HT W hb mb (foot mb wv sv) (absMem lim os' root hashes) w5 := H5.out.since HF3.out
            exact h6.toTurns rfl
        · have hkn : k = N := by omega
          subst hkn
          have hkd : decide (k < k) = false := by simp
          have hrest := hS.out.rest
          rw [List.drop_of_length_le (by rw [← HN.out]; omega), storesI_nil] at hrest
          have HR := Lib.hid hrest
          clear hrest
          go_wp2_with fail
          go_ret2
          rw [HWF.out, ← HFS.out, ← HN.out, ← HR.out]
          have h6 : HT W hb mb (foot mb wv sv) (absMem lim os' root hashes) wr := hS.out.heap.since HF3.out
          exact h6.toTurns rfl
    · obtain ⟨re, hre, hal0, hwf⟩ : ∃ re : Int, (re = 1 ∨ re = 2) ∧ allocF lim os cls N 1 = (0, re, os) ∧ writeF lim os cls m = (0, re, os) := by
        have key : ∀ re : Int, (re = 1 ∨ re = 2) → allocF lim os cls N 1 = (0, re, os) → writeF lim os cls m = (0, re, os) := by
          intro re hre h
          unfold writeF
          rw [if_neg (by simp [HOK.out]), ← HFS.out, ← HN.out, h, if_neg (by rcases hre with rfl | rfl <;> simp)]
        rcases hno with ⟨h, -⟩ | ⟨h, -⟩
        · exact ⟨1, .inl rfl, h, key 1 (.inl rfl) h⟩
        · exact ⟨2, .inr rfl, h, key 2 (.inr rfl) h⟩
      have hal := HAL.out
      rw [hal0] at hal
      simp only at hal
      have HWE := Lib.hid hwf
      have hre0 : (re == 0) = false := by rcases hre with rfl | rfl <;> rfl
      have hre1 : (re != 0) = true := by rcases hre with rfl | rfl <;> rfl
      have HHAL := Lib.hid hal
      clear hal0 hwf hno HCA HAL HIV hal hre
      go_wp2_with (first | (go_at_call 28; refine (hi0 _).mono ?_; rintro e w' ⟨rfl, rfl⟩) | (go_at_call 27; refine HHAL.out.mono ?_; rintro e w4 ⟨rfl, hHT4⟩; have HT4 := Lib.hid hHT4; clear hHT4))
      go_ret2
      have h6 : HT W hb mb (foot mb wv sv) (absMem lim os root hashes) w4 := HT4.out.since HF3.out
      rw [HWE.out]
      exact h6.toTurns rfl
end Go.Proofs.YtjghgambieflaaaGreatDoor
