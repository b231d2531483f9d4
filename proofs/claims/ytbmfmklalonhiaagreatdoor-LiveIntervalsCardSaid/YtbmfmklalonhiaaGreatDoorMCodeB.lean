/- code: a method's fields, what Write does to a list of objects, which method an object is: plain. code: which method some fields are: plain. One heap, the program's or the document's, through a row of calls: what it holds, and that nothing else has changed. code.encoded: a method's fields in a new row. code.Write, whatever comes of it. -/
import Derived.Test.YtbmfmklalonhiaaGreatDoorMCodeA
import Derived.Test.YtbmfmklalonhiaaGreatDoorMSnaps
import Derived.Test.YtbmfmklalonhiaaGreatDoorMHeaps
import Derived.Test.YtbmfmklalonhiaaGreatDoorMLists
import Derived.Laws.AppendOwnNone
namespace Go.Proofs.YtbmfmklalonhiaaGreatDoor

/-- a method's fields -/
def Mth.fs (m : Mth) : List Int := [wordOf m.args, wordOf m.temps, wordOf m.stack, wordOf m.prim, wordOf m.lits.length] ++ m.lits ++ m.code.map (fun i => wordOf i.num)
theorem Mth.fs_len (m : Mth) : m.fs.length = 5 + m.lits.length + m.code.length := by simp [Mth.fs]; omega
theorem Ins.num_bd (i : Ins) (h : i.ok = true) : 1 ≤ i.num ∧ i.num ≤ 1073741823 := by rw [Ins.ok_iff] at h; unfold Ins.num; omega
theorem Ins.fit (i : Ins) (h : i.ok = true) : fit i.num = true := by have := i.num_bd h; rw [fit_iff]; omega
theorem insOf_num (i : Ins) (h : i.ok = true) : insOf i.num = i := by
  rw [Ins.ok_iff] at h
  obtain ⟨op, a, b⟩ := i
  simp only [insOf, Ins.num, Ins.mk.injEq] at *
  omega
theorem num_insOf (n : Int) : (insOf n).num = n := by simp only [insOf, Ins.num]; omega
theorem Mth.fs_WB {m : Mth} (hl : ∀ x ∈ m.lits, WB x) : ∀ x ∈ m.fs, WB x := by
  intro x hx
  simp only [Mth.fs, List.mem_append, List.mem_cons, List.mem_map, List.not_mem_nil, or_false] at hx
  rcases hx with ((h | h | h | h | h) | h) | ⟨i, hi, h⟩
  · rw [h]; exact (wordOf_WB _).1
  · rw [h]; exact (wordOf_WB _).1
  · rw [h]; exact (wordOf_WB _).1
  · rw [h]; exact (wordOf_WB _).1
  · rw [h]; exact (wordOf_WB _).1
  · exact hl x h
  · rw [← h]; exact (wordOf_WB _).1
/-- what Alloc answers, and the objects behind it -/
def allocF (lim : Int) (os : List Ob) (x n y : Int) : Int × Int × List Ob :=
  if n < 0 ∨ 512 < n ∨ okB (marksOf os) x = false ∨ okB (marksOf os) y = false then (0, 1, os)
  else if lim < (endOf os : Int) + 3 + n then (0, 2, os)
  else (2 * (endOf os : Int), 0, os ++ [(x, 0, List.replicate n.toNat y)])
/-- what Store into object i answers, and the objects behind it -/
def storeI (os : List Ob) (i : Nat) (k v : Int) : Int × List Ob :=
  match os[i]? with
  | none => (1, os)
  | some o => if 0 ≤ k ∧ k < o.2.2.length ∧ okB (marksOf os) v = true then (0, os.set i (o.1, o.2.1, o.2.2.set k.toNat v)) else (1, os)
def storesI (i : Nat) : List Ob → Nat → List Int → Int × List Ob
  | os, _, [] => (0, os)
  | os, k, v :: fs => if (storeI os i k v).1 = 0 then storesI i (storeI os i k v).2 (k + 1) fs else storeI os i k v
/-- what Write answers, and the objects behind it -/
def writeF (lim : Int) (os : List Ob) (cls : Int) (m : Mth) : Int × Int × List Ob :=
  if m.ok = false then (0, 4, os)
  else if (allocF lim os cls m.fs.length 1).2.1 = 0 then
    (if (storesI os.length (allocF lim os cls m.fs.length 1).2.2 0 m.fs).1 = 0 then (allocF lim os cls m.fs.length 1).1 else 0, storesI os.length (allocF lim os cls m.fs.length 1).2.2 0 m.fs)
  else (0, (allocF lim os cls m.fs.length 1).2)
theorem set_same {α : Type} {l : List α} {i : Nat} {a : α} (h : l[i]? = some a) : l.set i a = l := by
  apply List.ext_getElem?
  intro j
  by_cases hj : i = j
  · subst hj; rw [List.getElem?_set_self (List.getElem?_eq_some_iff.1 h).1, h]
  · rw [List.getElem?_set_ne hj]
theorem flatM_set {os : List Ob} {i : Nat} {o o' : Ob} (hi : os[i]? = some o) (hl : o'.2.2.length = o.2.2.length) : marksOf (os.set i o') = marksOf os := by
  unfold marksOf
  congr 1
  induction os generalizing i with
  | nil => simp at hi
  | cons a os ih =>
    cases i with
    | zero => simp at hi; subst hi; simp [flatM_cons, marksOb, hl]
    | succ i => simp only [List.set_cons_succ, flatM_cons]; rw [ih (by simpa using hi)]
theorem storeI_len (os : List Ob) (i : Nat) (k v : Int) : (storeI os i k v).2.length = os.length := by
  unfold storeI
  split
  · rfl
  · split <;> simp
theorem storeI_cases (os : List Ob) (i : Nat) (k v : Int) : ((storeI os i k v).1 = 0 ∧ ∃ o, os[i]? = some o ∧ 0 ≤ k ∧ k < o.2.2.length ∧ okB (marksOf os) v = true ∧ (storeI os i k v).2 = os.set i (o.1, o.2.1, o.2.2.set k.toNat v)) ∨ (storeI os i k v = (1, os)) := by
  unfold storeI
  split
  · exact .inr rfl
  · rename_i o ho
    split
    · rename_i h; exact .inl ⟨rfl, o, ho, h.1, h.2.1, h.2.2, rfl⟩
    · exact .inr rfl
theorem storeI_marks (os : List Ob) (i : Nat) (k v : Int) : marksOf (storeI os i k v).2 = marksOf os := by
  rcases storeI_cases os i k v with ⟨-, o, ho, -, -, -, h⟩ | h
  · rw [h, flatM_set ho (by simp)]
  · rw [h]
theorem endOf_setAt {os : List Ob} {i : Nat} {o o' : Ob} (hi : os[i]? = some o) (hl : o'.2.2.length = o.2.2.length) : endOf (os.set i o') = endOf os := by
  have h := take_split hi
  have hil := (List.getElem?_eq_some_iff.1 hi).1
  have h2 : os.set i o' = os.take i ++ o' :: os.drop (i + 1) := by
    rw [List.set_eq_take_append_cons_drop, if_pos hil]
  rw [h2, endOf_set (o := o) hl, ← h]
theorem storeI_inv {lim : Int} {os : List Ob} {hashes : Int} (hI : OInv lim os hashes) (i : Nat) (k v : Int) (hv : WB v) : OInv lim (storeI os i k v).2 hashes := by
  rcases storeI_cases os i k v with ⟨-, o, ho, -, -, -, h⟩ | h
  · rw [h]
    have hs := take_split ho
    have hil := (List.getElem?_eq_some_iff.1 ho).1
    have h2 : os.set i (o.1, o.2.1, o.2.2.set k.toNat v) = os.take i ++ (o.1, o.2.1, o.2.2.set k.toNat v) :: os.drop (i + 1) := by rw [List.set_eq_take_append_cons_drop, if_pos hil]
    have hm : o ∈ os := List.mem_of_getElem? ho
    have hE := hI.each o hm
    have hB := hI.bd o hm
    refine ⟨hI.l1, hI.l2, by rw [endOf_setAt ho (by simp)]; exact hI.fit, hI.h0, hI.h1, fun p hp => ?_, fun p hp => ?_, ?_⟩
    · rcases List.mem_or_eq_of_mem_set hp with hp | rfl
      · exact hI.each p hp
      · exact hE
    · rcases List.mem_or_eq_of_mem_set hp with hp | rfl
      · exact hI.bd p hp
      · exact hB.store _ hv
    · have : (os.set i (o.1, o.2.1, o.2.2.set k.toNat v)).map (fun o => o.2.1) = os.map (fun o => o.2.1) := by
        rw [List.map_set]
        exact set_same (by rw [List.getElem?_map, ho]; rfl) 
      rw [this]
      exact hI.uq
  · rw [h]; exact hI
theorem allocF_cases (lim : Int) (os : List Ob) (x n y : Int) : (allocF lim os x n y = (2 * (endOf os : Int), 0, os ++ [(x, 0, List.replicate n.toNat y)]) ∧ 0 ≤ n ∧ n ≤ 512 ∧ okB (marksOf os) x = true ∧ okB (marksOf os) y = true ∧ (endOf os : Int) + 3 + n ≤ lim) ∨ (allocF lim os x n y = (0, 1, os) ∧ (n < 0 ∨ 512 < n ∨ okB (marksOf os) x = false ∨ okB (marksOf os) y = false)) ∨ (allocF lim os x n y = (0, 2, os) ∧ 0 ≤ n ∧ n ≤ 512 ∧ okB (marksOf os) x = true ∧ okB (marksOf os) y = true ∧ lim < (endOf os : Int) + 3 + n) := by
  unfold allocF
  split
  · rename_i h; exact .inr (.inl ⟨rfl, h⟩)
  · rename_i h
    have h1 : 0 ≤ n ∧ n ≤ 512 := by
      constructor
      · exact Int.not_lt.1 fun e => h (.inl e)
      · exact Int.not_lt.1 fun e => h (.inr (.inl e))
    have h2 : okB (marksOf os) x = true := Bool.of_not_eq_false fun e => h (.inr (.inr (.inl e)))
    have h3 : okB (marksOf os) y = true := Bool.of_not_eq_false fun e => h (.inr (.inr (.inr e)))
    split
    · rename_i hf; exact .inr (.inr ⟨rfl, h1.1, h1.2, h2, h3, hf⟩)
    · rename_i hf; exact .inl ⟨rfl, h1.1, h1.2, h2, h3, by omega⟩
theorem allocF_inv {lim : Int} {os : List Ob} {hashes : Int} (hI : OInv lim os hashes) (x n y : Int) (hx : WB x) (hy : WB y) : OInv lim (allocF lim os x n y).2.2 hashes := by
  rcases allocF_cases lim os x n y with ⟨h, n1, n2, -, -, hf⟩ | ⟨h, -⟩ | ⟨h, -⟩
  · rw [h]
    refine ⟨hI.l1, hI.l2, by rw [endOf_snoc]; simp; omega, hI.h0, hI.h1, fun p hp => ?_, fun p hp => ?_, by have := hI.uq.snoc0; simpa using this⟩
    · rcases List.mem_append.1 hp with hp | hp
      · exact hI.each p hp
      · simp at hp; subst hp; exact ⟨Int.le_refl _, hI.h0⟩
    · rcases List.mem_append.1 hp with hp | hp
      · exact hI.bd p hp
      · simp at hp; subst hp; exact ⟨hx, fun z hz => by obtain ⟨-, rfl⟩ := List.mem_replicate.1 hz; exact hy⟩
  · rw [h]; exact hI
  · rw [h]; exact hI
theorem storesI_inv {lim : Int} {hashes : Int} (i : Nat) (fs : List Int) (hfs : ∀ v ∈ fs, WB v) (os : List Ob) (k : Nat) (hI : OInv lim os hashes) : OInv lim (storesI i os k fs).2 hashes := by
  induction fs generalizing os k with
  | nil => exact hI
  | cons v fs ih =>
    unfold storesI
    have h1 := storeI_inv hI i k v (hfs v (by simp))
    split
    · exact ih (fun x hx => hfs x (by simp [hx])) _ _ h1
    · exact h1
theorem writeF_inv {lim : Int} {os : List Ob} {hashes : Int} (hI : OInv lim os hashes) (cls : Int) (m : Mth) (hc : WB cls) (hl : ∀ x ∈ m.lits, WB x) : OInv lim (writeF lim os cls m).2.2 hashes := by
  have h1 := allocF_inv hI cls m.fs.length 1 hc (by unfold WB; omega)
  unfold writeF
  split
  · exact hI
  · split
    · exact storesI_inv _ _ (Mth.fs_WB hl) _ _ h1
    · exact h1
/-- all stores that may be are done -/
theorem storesI_all (i : Nat) (fs : List Int) (os : List Ob) (o : Ob) (k : Nat) (hi : os[i]? = some o) (hk : k + fs.length ≤ o.2.2.length) (hok : ∀ v ∈ fs, okB (marksOf os) v = true) :
    storesI i os k fs = (0, os.set i (o.1, o.2.1, o.2.2.take k ++ fs ++ o.2.2.drop (k + fs.length))) := by
  induction fs generalizing os o k with
  | nil =>
    simp only [storesI, List.append_nil, List.length_nil, Nat.add_zero, List.take_append_drop]
    rw [set_same hi]
  | cons v fs ih =>
    have hs : storeI os i k v = (0, os.set i (o.1, o.2.1, o.2.2.set k v)) := by
      unfold storeI
      rw [hi]
      simp only
      rw [if_pos ⟨by omega, by simp at hk; omega, hok v (by simp)⟩]
      simp
    unfold storesI
    rw [hs]
    simp only [if_true]
    have hil := (List.getElem?_eq_some_iff.1 hi).1
    rw [ih (os.set i (o.1, o.2.1, o.2.2.set k v)) (o.1, o.2.1, o.2.2.set k v) (k + 1) (by rw [List.getElem?_set_self hil]) (by simp at hk ⊢; omega) (fun x hx => by rw [flatM_set hi (by simp)]; exact hok x (by simp [hx]))]
    simp only [List.set_set]
    congr 3
    simp only [List.length_cons] at hk
    congr 1
    congr 1
    · rw [List.take_add_one, List.take_set_of_le (Nat.le_refl k)]
      have : (o.2.2.set k v)[k]? = some v := by rw [List.getElem?_set_self (by omega)]
      rw [this]
      simp
    · rw [List.drop_set_of_lt (by omega), List.length_cons]
      congr 1
      omega
theorem storesI_ok (i : Nat) (fs : List Int) (os : List Ob) (k : Nat) (h : (storesI i os k fs).1 = 0) : ∀ v ∈ fs, okB (marksOf os) v = true := by
  induction fs generalizing os k with
  | nil => intro v hv; simp at hv
  | cons v fs ih =>
    unfold storesI at h
    rcases storeI_cases os i k v with ⟨h0, o, ho, -, -, hv, -⟩ | h1
    · rw [if_pos h0] at h
      intro x hx
      rcases List.mem_cons.1 hx with rfl | hx
      · exact hv
      · have := ih _ _ h x hx
        rwa [storeI_marks] at this
    · rw [h1] at h
      simp at h
theorem storesI_01 (i : Nat) (fs : List Int) (os : List Ob) (k : Nat) : (storesI i os k fs).1 = 0 ∨ (storesI i os k fs).1 = 1 := by
  induction fs generalizing os k with
  | nil => exact .inl rfl
  | cons v fs ih =>
    unfold storesI
    split
    · exact ih _ _
    · rcases storeI_cases os i k v with ⟨h0, -⟩ | h1
      · contradiction
      · rw [h1]; exact .inr rfl
/-- Write, where it answers OK: the object is there, behind the others -/
theorem writeF_ok {lim : Int} {os : List Ob} {cls : Int} {m : Mth} (h : (writeF lim os cls m).2.1 = 0) : writeF lim os cls m = (2 * (endOf os : Int), 0, os ++ [(cls, 0, m.fs)]) ∧ m.ok = true ∧ (∀ v ∈ m.fs, okB (marksOf (os ++ [(cls, 0, m.fs)])) v = true) ∧ (endOf os : Int) + 3 + m.fs.length ≤ lim := by
  unfold writeF at h ⊢
  split at h
  · simp at h
  rename_i hok
  have hok' : m.ok = true := by simpa using hok
  rcases allocF_cases lim os cls m.fs.length 1 with ⟨ha, -, -, -, -, hf⟩ | ⟨ha, -⟩ | ⟨ha, -⟩
  · rw [ha] at h ⊢
    simp only [if_true, Int.toNat_natCast] at h ⊢
    have hall := storesI_ok _ _ _ _ h
    have hget : (os ++ [(cls, (0 : Int), List.replicate m.fs.length (1 : Int))])[os.length]? = some (cls, 0, List.replicate m.fs.length 1) := by simp
    have hm : marksOf (os ++ [(cls, (0 : Int), List.replicate m.fs.length (1 : Int))]) = marksOf (os ++ [(cls, 0, m.fs)]) := by
      have := flatM_set (o' := (cls, (0 : Int), m.fs)) hget (by simp)
      rw [← this]
      simp
    have hst := storesI_all os.length m.fs _ _ 0 hget (by simp) hall
    rw [hst]
    rw [hm] at hall
    refine ⟨?_, hok', hall, hf⟩
    rw [if_neg hok]
    simp
  · rw [ha] at h; simp at h
  · rw [ha] at h; simp at h
end Go.Proofs.YtbmfmklalonhiaaGreatDoor
namespace Go.Proofs.YtbmfmklalonhiaaGreatDoor

/-- the number of literals that fields name -/
def nLits (fs : List Int) : Int := intOfW (fs.getD 4 0)
def decM (fs : List Int) : Mth := ⟨intOfW (fs.getD 0 0), intOfW (fs.getD 1 0), intOfW (fs.getD 2 0), intOfW (fs.getD 3 0), (fs.drop 5).take (nLits fs).toNat, (fs.drop (5 + (nLits fs).toNat)).map (fun x => insOf (intOfW x))⟩
def headOk (fs : List Int) : Bool := decide (5 ≤ fs.length) && (fs.take 5).all odd && decide (0 ≤ nLits fs ∧ nLits fs ≤ (fs.length : Int) - 5)
def insOk (x : Int) : Bool := odd x && (insOf (intOfW x)).ok
def codeOk (fs : List Int) : Bool := (fs.drop (5 + (nLits fs).toNat)).all insOk
def decOk (fs : List Int) : Bool := headOk fs && codeOk fs && (decM fs).ok
theorem fit_small {n : Int} (h1 : -1000000 ≤ n) (h2 : n ≤ 1000000) : fit n = true := by rw [fit_iff]; omega
theorem insOk_word (i : Ins) (h : i.ok = true) : insOk (wordOf i.num) = true ∧ insOf (intOfW (wordOf i.num)) = i := by
  have e := int_wordOf i.num (i.fit h)
  refine ⟨?_, by rw [e, insOf_num i h]⟩
  unfold insOk
  rw [e, insOf_num i h, h, (wordOf_WB _).2]
  rfl
theorem insOk_back (x : Int) (hx : WB x) (h : insOk x = true) : wordOf (insOf (intOfW x)).num = x := by
  unfold insOk at h
  simp only [Bool.and_eq_true] at h
  rw [num_insOf, wordOf_int x hx h.1]
theorem get5 (a b c d e : Int) (l : List Int) : ([a, b, c, d, e] ++ l).getD 0 0 = a ∧ ([a, b, c, d, e] ++ l).getD 1 0 = b ∧ ([a, b, c, d, e] ++ l).getD 2 0 = c ∧ ([a, b, c, d, e] ++ l).getD 3 0 = d ∧ ([a, b, c, d, e] ++ l).getD 4 0 = e ∧ ([a, b, c, d, e] ++ l).drop 5 = l ∧ ([a, b, c, d, e] ++ l).take 5 = [a, b, c, d, e] := ⟨rfl, rfl, rfl, rfl, rfl, rfl, rfl⟩
theorem dec_fs (m : Mth) (h : m.ok = true) : decOk m.fs = true ∧ decM m.fs = m := by
  obtain ⟨hh, hc⟩ := m.ok_iff.1 h
  have hd := m.head_iff.1 hh
  have hfs : m.fs = [wordOf m.args, wordOf m.temps, wordOf m.stack, wordOf m.prim, wordOf m.lits.length] ++ (m.lits ++ m.code.map (fun i => wordOf i.num)) := by unfold Mth.fs; rw [List.append_assoc]
  obtain ⟨e0, e1, e2, e3, e4, ed, et⟩ := get5 (wordOf m.args) (wordOf m.temps) (wordOf m.stack) (wordOf m.prim) (wordOf m.lits.length) (m.lits ++ m.code.map (fun i => wordOf i.num))
  rw [← hfs] at e0 e1 e2 e3 e4 ed et
  clear hfs
  have f0 : fit m.args = true := fit_small (by clear e0 e1 e2 e3 e4; omega) (by clear e0 e1 e2 e3 e4; omega)
  have f1 : fit m.temps = true := fit_small (by clear e0 e1 e2 e3 e4; omega) (by clear e0 e1 e2 e3 e4; omega)
  have f2 : fit m.stack = true := fit_small (by clear e0 e1 e2 e3 e4; omega) (by clear e0 e1 e2 e3 e4; omega)
  have f3 : fit m.prim = true := fit_small (by clear e0 e1 e2 e3 e4; omega) (by clear e0 e1 e2 e3 e4; omega)
  have f4 : fit (m.lits.length : Int) = true := fit_small (by clear e0 e1 e2 e3 e4; omega) (by clear e0 e1 e2 e3 e4; omega)
  have en : nLits m.fs = m.lits.length := by unfold nLits; rw [e4, int_wordOf _ f4]
  have ed2 : m.fs.drop (5 + m.lits.length) = m.code.map (fun i => wordOf i.num) := by rw [← List.drop_drop, ed]; simp
  have hcode : (m.code.map (fun i => wordOf i.num)).map (fun x => insOf (intOfW x)) = m.code := by
    rw [List.map_map]
    conv => rhs; rw [← List.map_id m.code]
    exact List.map_congr_left fun i hi => (insOk_word i (hc i hi)).2
  have hm : decM m.fs = m := by
    unfold decM
    rw [e0, e1, e2, e3, en, Int.toNat_natCast, ed2, hcode, ed, int_wordOf _ f0, int_wordOf _ f1, int_wordOf _ f2, int_wordOf _ f3]
    simp
  refine ⟨?_, hm⟩
  unfold decOk
  rw [hm, h, Bool.and_true, Bool.and_eq_true]
  constructor
  · unfold headOk
    rw [en]
    have ho : (m.fs.take 5).all odd = true := by
      rw [et]
      simp only [List.all_cons, List.all_nil, (wordOf_WB _).2, Bool.and_true]
    rw [ho, m.fs_len]
    simp only [Bool.and_eq_true, decide_eq_true_eq, Bool.and_true]
    clear e0 e1 e2 e3 e4 ed ed2 hcode hm en et ho
    refine ⟨by omega, by omega, by omega⟩
  · unfold codeOk
    rw [en, Int.toNat_natCast, ed2]
    simp only [List.all_map, List.all_eq_true]
    exact fun i hi => (insOk_word i (hc i hi)).1
theorem list5 : ∀ {fs : List Int}, 5 ≤ fs.length → fs = [fs.getD 0 0, fs.getD 1 0, fs.getD 2 0, fs.getD 3 0, fs.getD 4 0] ++ fs.drop 5
  | [], h => by simp at h
  | [_], h => by simp at h
  | [_, _], h => by simp at h
  | [_, _, _], h => by simp at h
  | [_, _, _, _], h => by simp at h
  | a :: b :: c :: d :: e :: r, _ => rfl
theorem fs_dec (fs : List Int) (hw : ∀ x ∈ fs, WB x) (h : decOk fs = true) : (decM fs).fs = fs := by
  unfold decOk headOk codeOk at h
  simp only [Bool.and_eq_true, decide_eq_true_eq] at h
  obtain ⟨⟨⟨⟨h5, ho⟩, hn0, hn1⟩, hc⟩, -⟩ := h
  have hmem : ∀ i, i < 5 → fs.getD i 0 ∈ fs ∧ odd (fs.getD i 0) = true := by
    intro i hi
    have hg : fs[i]? = some (fs.getD i 0) := by rw [List.getD_eq_getElem?_getD, List.getElem?_eq_getElem (by omega)]; rfl
    refine ⟨List.mem_of_getElem? hg, List.all_eq_true.1 ho _ ?_⟩
    exact List.mem_of_getElem? (i := i) (by rw [List.getElem?_take_of_lt hi]; exact hg)
  have hw5 : ∀ i, i < 5 → wordOf (intOfW (fs.getD i 0)) = fs.getD i 0 := fun i hi => wordOf_int _ (hw _ (hmem i hi).1) (hmem i hi).2
  have hlen : ((decM fs).lits.length : Int) = nLits fs := by
    simp only [decM, List.length_take, List.length_drop]
    omega
  have hcode : ((fs.drop (5 + (nLits fs).toNat)).map (fun x => insOf (intOfW x))).map (fun i => wordOf i.num) = fs.drop (5 + (nLits fs).toNat) := by
    rw [List.map_map]
    conv => rhs; rw [← List.map_id (fs.drop (5 + (nLits fs).toNat))]
    exact List.map_congr_left fun x hx => insOk_back x (hw x (List.mem_of_mem_drop hx)) (List.all_eq_true.1 hc x hx)
  have e4 : wordOf (nLits fs) = fs.getD 4 0 := hw5 4 (by omega)
  unfold Mth.fs
  rw [hlen, e4]
  show [wordOf (intOfW (fs.getD 0 0)), wordOf (intOfW (fs.getD 1 0)), wordOf (intOfW (fs.getD 2 0)), wordOf (intOfW (fs.getD 3 0)), fs.getD 4 0] ++ (fs.drop 5).take (nLits fs).toNat ++ ((fs.drop (5 + (nLits fs).toNat)).map (fun x => insOf (intOfW x))).map (fun i => wordOf i.num) = fs
  rw [hw5 0 (by omega), hw5 1 (by omega), hw5 2 (by omega), hw5 3 (by omega), hcode, List.append_assoc, ← List.drop_drop, List.take_append_drop]
  exact (list5 h5).symm
theorem decM_ok {fs : List Int} (h : decOk fs = true) : (decM fs).ok = true := by unfold decOk at h; simp only [Bool.and_eq_true] at h; exact h.2
end Go.Proofs.YtbmfmklalonhiaaGreatDoor
namespace Go.Proofs.YtbmfmklalonhiaaGreatDoor
open Go.RowKit

/-- S was made since w0 -/
structure Base (w0 W : World) (S : List Nat) : Prop where
  fr : Fr [] w0 W
  new : ∀ k ∈ S, w0.heap.size ≤ k
section
variable {w0 W W1 W2 : World} {hb mb rb : Nat} {S : List Nat} {m m' : Mem} {wv sv lv : Value} {lim root hashes : Int} {os : List Ob}
theorem take_endOf {os : List Ob} {i : Nat} {o : Ob} (ho : os[i]? = some o) : ∃ pre post, os = pre ++ o :: post ∧ pre.length = i ∧ os.take i = pre := by
  have hil := (List.getElem?_eq_some_iff.1 ho).1
  exact ⟨os.take i, os.drop (i + 1), take_split ho, by simp; omega, rfl⟩
end
end Go.Proofs.YtbmfmklalonhiaaGreatDoor
namespace Go.Proofs.YtbmfmklalonhiaaGreatDoor
open Go.RowKit

/-- append of words to an owned row -/
theorem append_words_run {w : World} (ty : TypeId) (v : Value) (n : Nat) (us : List Value) (hown : w.ownsRow 0 29 1 v n us) {ra : Option Addr} {rc : Nat} (xs : List Int) (hX : WordsAt w ra xs) (hX0 : ra = none → rc = 0 ∧ xs = []) (hn : n + xs.length ≤ 17592186044416) :
    ∃ v' w', (Builtin.append_ #[22, 22] ty #[v, .slice ra xs.length rc]).run Tryz.prog w = .ok v' w' ∧ w'.ownsRow 0 29 1 v' (n + xs.length) (us ++ xs.map (Value.int .u64)) ∧ w.grownBy w' v.ownBlock ∧ (v'.ownBlock = v.ownBlock ∨ v'.ownBlock = some w.heap.size) := by
  obtain ⟨i0, hi, hz0, hz1, hz2⟩ := info_parts infoWord
  cases ra with
  | none =>
    obtain ⟨rfl, rfl⟩ := hX0 rfl
    refine ⟨v, w, run_append_owned_none (P := Tryz.prog) (w := w) 0 22 ty 29 i0 1 Tryz.underlying22 hi v n us hown, by simpa using hown, ⟨rfl, rfl, rfl, Nat.le_refl _, fun _ _ _ => rfl⟩, .inl rfl⟩
  | some ad =>
    exact run_append_at (P := Tryz.prog) w 22 ty 29 i0 (.int .u64 0) 1 8 Tryz.underlying22 hi hz0 hz1 hz2 rfl (by decide) v n us hown ad xs.length rc (xs.map (Value.int .u64)) (by simp) (fun j u hj => by
      rw [List.getElem?_map] at hj
      cases hxj : xs[j]? with
      | none => rw [hxj] at hj; cases hj
      | some y =>
        rw [hxj] at hj
        cases hj
        obtain ⟨g, of, e, hc⟩ := hX j y hxj
        cases e
        rw [Lib.add_plain]
        exact hc) (ints_one xs) (by unfold maxLen; omega) (by omega)
theorem wpList_append_words {w : World} {ops : Array Oper} {rest : List Oper} {o : Oper} {a : Act} {Q : Exit → Act → World → Prop} (hgd : o.guard = none) (s x : Operand) (ho : o.op = .call { callee := .builtin .append, args := #[s, x], argTypes := #[22, 22] })
    (v : Value) (n : Nat) (us : List Value) (hs : a.eval s = v) (hown : w.ownsRow 0 29 1 v n us) {ra : Option Addr} {rc : Nat} (xs : List Int) (hx : a.eval x = .slice ra xs.length rc) (hX : WordsAt w ra xs) (hX0 : ra = none → rc = 0 ∧ xs = []) (hn : n + xs.length ≤ 17592186044416)
    (h : ∀ v' w', w'.ownsRow 0 29 1 v' (n + xs.length) (us ++ xs.map (Value.int .u64)) → w.grownBy w' v.ownBlock → (v'.ownBlock = v.ownBlock ∨ v'.ownBlock = some w.heap.size) → wpList Tryz.prog ops Q rest (a.put o.dst v') w') : wpList Tryz.prog ops Q (o :: rest) a w := by
  obtain ⟨v', w', hr, h2, h3, h4⟩ := append_words_run o.type v n us hown xs (rc := rc) hX hX0 hn
  exact Lib.wpList_append_run w hgd s x 22 22 ho v _ hs hx v' w' hr (h v' w' h2 h3 h4)
theorem makeWs (k n : Nat) (h1 : k ≤ n) (h2 : n ≤ 65536) : ∃ Z : Array Value, Hid (Z.size = n ∧ ∀ j, j < n → Z[j]? = some (Value.int .u64 0)) ∧ ∀ W : World, (Instr.makeSlice 22 (.int .i64 (k : Int)) (.int .i64 (n : Int))).run Tryz.prog W = .ok (.slice (some ⟨W.heap.size, 0, none⟩) k n) (W.alloc (.cells Z 29)) := by
  obtain ⟨i0, hi, hz0, hz1, hz2⟩ := info_parts infoWord
  refine ⟨madeCells (Value.int .u64 0).cells n, ⟨size_madeCells _ _, fun j hj => ?_⟩, fun W => ?_⟩
  · rw [← Array.getElem?_toList, show (Value.int .u64 0).cells = #[Value.int .u64 0] from rfl, toList_madeCells_one]
    simp [hj]
  · have hr := run_make (P := Tryz.prog) W 22 29 i0 (.int .u64 0) Tryz.underlying22 hi hz0 .i64 .i64 k n (by omega) (by omega) (by rw [hz2]; omega) (by omega)
    simp only [Int.toNat_natCast, hz1, Nat.mul_one] at hr
    exact hr
theorem words_row {w : World} {ao : Option Addr} {xs : List Int} (h : RowAt w ao (xs.map (Value.int .u64))) : WordsAt w ao xs := by
  intro i x hx
  exact h i _ (by rw [List.getElem?_map, hx]; rfl)
theorem row_words {w : World} {ao : Option Addr} {xs : List Int} (h : WordsAt w ao xs) : RowAt w ao (xs.map (Value.int .u64)) := by
  intro i u hu
  rw [List.getElem?_map] at hu
  cases hx : xs[i]? with
  | none => rw [hx] at hu; cases hu
  | some y => rw [hx] at hu; cases hu; exact h i y hx
/-- where a method's literals and instructions lie -/
structure MAt (w : World) (m : Mth) (la : Option Addr) (lc : Nat) (ca : Option Addr) : Prop where
  lits : WordsAt w la m.lits
  none : la = none → lc = 0 ∧ m.lits = []
  code : RowAt w ca (flatI m.code)
theorem MAt.fr0 {w w' : World} {m : Mth} {la ca : Option Addr} {lc : Nat} (h : MAt w m la lc ca) (hF : Fr [] w w') : MAt w' m la lc ca :=
  ⟨h.lits.fr hF (fun _ _ => by simp), h.none, row_fr h.code hF⟩
theorem five_cons {α : Type} : ∀ {l : List α}, 5 ≤ l.length → ∃ a b c d e r, l = a :: b :: c :: d :: e :: r
  | [], h => by simp at h
  | [_], h => by simp at h
  | [_, _], h => by simp at h
  | [_, _, _], h => by simp at h
  | [_, _, _, _], h => by simp at h
  | a :: b :: c :: d :: e :: r, _ => ⟨a, b, c, d, e, r, rfl⟩
theorem own5 {w : World} {g n : Nat} {Z : Array Value} {a b c d e : Value} (hZ : Z.size = n) (h5 : 5 ≤ n) (hn : n ≤ 65536) (hg : w.heap[g]? = some (.cells (((((Z.setIfInBounds 0 a).setIfInBounds 1 b).setIfInBounds 2 c).setIfInBounds 3 d).setIfInBounds 4 e) 29 (0, 0))) :
    w.ownsRow 0 29 1 (.slice (some ⟨g, 0, none⟩) 5 n) 5 [a, b, c, d, e] := by
  refine ⟨rfl, .inr ⟨g, n, _, rfl, Nat.zero_le _, hg, h5, by unfold maxLen; omega, ?_, ?_⟩⟩
  · simp; omega
  · obtain ⟨l, rfl⟩ : ∃ l : List Value, Z = l.toArray := ⟨Z.toList, by simp⟩
    obtain ⟨x0, x1, x2, x3, x4, r, rfl⟩ := five_cons (l := l) (by simp at hZ; omega)
    simp
end Go.Proofs.YtbmfmklalonhiaaGreatDoor
namespace Go.Proofs.YtbmfmklalonhiaaGreatDoor
open Go.RowKit

theorem writeF_stores {lim : Int} {os : List Ob} {cls : Int} {m : Mth} (hok : m.ok = true) (ha : allocF lim os cls m.fs.length 1 = (2 * (endOf os : Int), 0, os ++ [(cls, 0, List.replicate (m.fs.length : Int).toNat 1)])) :
    writeF lim os cls m = (if (storesI os.length (os ++ [(cls, 0, List.replicate (m.fs.length : Int).toNat 1)]) 0 m.fs).1 = 0 then 2 * (endOf os : Int) else 0, storesI os.length (os ++ [(cls, 0, List.replicate (m.fs.length : Int).toNat 1)]) 0 m.fs) := by
  unfold writeF
  rw [if_neg (by simp [hok]), ha]
  simp only [if_true]
theorem storesI_cons (i : Nat) (os : List Ob) (k : Nat) (v : Int) (fs : List Int) : storesI i os k (v :: fs) = if (storeI os i k v).1 = 0 then storesI i (storeI os i k v).2 (k + 1) fs else storeI os i k v := rfl
theorem storesI_nil (i : Nat) (os : List Ob) (k : Nat) : storesI i os k [] = (0, os) := rfl
theorem storeI_take {os : List Ob} {i : Nat} {k v : Int} : (storeI os i k v).2.take i = os.take i := by
  rcases storeI_cases os i k v with ⟨-, o, ho, -, -, -, h⟩ | h
  · rw [h, List.take_set_of_le (Nat.le_refl _)]
  · rw [h]
end Go.Proofs.YtbmfmklalonhiaaGreatDoor
