/- A cache as plain lists: lines, the place of a key, what is found there. Plain, of no program. -/
import Derived.Test.YtpapjoonnmnnaaaFrame
namespace Go.Proofs.Ytpapjoonnmnnaaa
open Go.RowKit

/-- a line: class, selector, is it full, method -/
structure Ln where
  c : Int
  s : Int
  f : Bool
  m : Int
def Ln.zero : Ln := ⟨0, 0, false, 0⟩
def Ln.vals (l : Ln) : List Value := [.int .u64 l.c, .int .u64 l.s, .bool l.f, .int .u64 l.m]
def lnFlat (L : List Ln) : List Value := L.flatMap Ln.vals
theorem lnFlat_len (L : List Ln) : (lnFlat L).length = L.length * 4 := by
  induction L with
  | nil => rfl
  | cons a l ih => simp only [lnFlat, List.flatMap_cons, List.length_append, List.length_cons] at ih ⊢; rw [ih]; simp [Ln.vals]; omega
theorem lnFlat_app (A B : List Ln) : lnFlat (A ++ B) = lnFlat A ++ lnFlat B := by simp [lnFlat]
theorem split_at {L : List Ln} {i : Nat} {l : Ln} (h : L[i]? = some l) : L = L.take i ++ (l :: L.drop (i + 1)) := by
  obtain ⟨hi, rfl⟩ := List.getElem?_eq_some_iff.1 h
  rw [List.getElem_cons_drop hi, List.take_append_drop]
theorem lnFlat_at {L : List Ln} {i : Nat} {l : Ln} (h : L[i]? = some l) (j : Nat) (hj : j < 4) : (lnFlat L)[i * 4 + j]? = l.vals[j]? := by
  have hi : i < L.length := (List.getElem?_eq_some_iff.1 h).1
  have e : lnFlat L = lnFlat (L.take i) ++ (l.vals ++ lnFlat (L.drop (i + 1))) := by
    conv => lhs; rw [split_at h]
    rw [lnFlat_app]
    rfl
  have hl : (lnFlat (L.take i)).length = i * 4 := by rw [lnFlat_len, List.length_take, Nat.min_eq_left (by omega)]
  rw [e, List.getElem?_append_right (by omega), hl, Nat.add_sub_cancel_left, List.getElem?_append_left (by simpa [Ln.vals] using hj)]
theorem lnFlat_set {L : List Ln} {i : Nat} (hi : i < L.length) (l : Ln) : ((((lnFlat L).set (i * 4) (.int .u64 l.c)).set (i * 4 + 1) (.int .u64 l.s)).set (i * 4 + 2) (.bool l.f)).set (i * 4 + 3) (.int .u64 l.m) = lnFlat (L.set i l) := by
  obtain ⟨o, ho⟩ : ∃ o, L[i]? = some o := ⟨_, List.getElem?_eq_getElem hi⟩
  have e : lnFlat L = lnFlat (L.take i) ++ (o.vals ++ lnFlat (L.drop (i + 1))) := by
    conv => lhs; rw [split_at ho]
    rw [lnFlat_app]
    rfl
  have e2 : lnFlat (L.set i l) = lnFlat (L.take i) ++ (l.vals ++ lnFlat (L.drop (i + 1))) := by
    have hs : (L.set i l)[i]? = some l := by rw [List.getElem?_set_self hi]
    conv => lhs; rw [split_at hs]
    rw [List.take_set_of_le (Nat.le_refl _), List.drop_set_of_lt (Nat.lt_succ_self _), lnFlat_app]
    rfl
  have hl : (lnFlat (L.take i)).length = i * 4 := by rw [lnFlat_len, List.length_take, Nat.min_eq_left (by omega)]
  rw [e, e2]
  rw [List.set_append_right _ _ (by omega), List.set_append_right _ _ (by omega), List.set_append_right _ _ (by omega), List.set_append_right _ _ (by omega), hl]
  simp only [Nat.sub_self, Nat.add_sub_cancel_left]
  rfl

/-- a key as a number, as the program reckons it -/
def keyI (c s : Int) : Int := IntKind.u64.wrap (IntKind.u64.wrap (IntKind.u64.wrap (c.tdiv 2) * 31) + IntKind.u64.wrap (s.tdiv 2))
theorem keyI_bd (c s : Int) : 0 ≤ keyI c s ∧ keyI c s ≤ 18446744073709551615 := by
  unfold keyI
  rw [IntKind.wrap_u64]
  omega
theorem keyI_alt {c s : Int} (c1 : 0 ≤ c) (c2 : c ≤ 18446744073709551615) (s1 : 0 ≤ s) (s2 : s ≤ 18446744073709551615) : IntKind.u64.wrap (IntKind.u64.wrap (c / 2 * 31) + s / 2) = keyI c s := by
  unfold keyI
  rw [Int.tdiv_eq_ediv_of_nonneg c1, Int.tdiv_eq_ediv_of_nonneg s1]
  have e1 : IntKind.u64.wrap (c / 2) = c / 2 := by rw [IntKind.wrap_u64]; omega
  have e2 : IntKind.u64.wrap (s / 2) = s / 2 := by rw [IntKind.wrap_u64]; omega
  rw [e1, e2]
/-- its place -/
def ixN (n : Nat) (c s : Int) : Nat := ((keyI c s).tmod n).toNat
theorem ixN_lt {n : Nat} (hn : 1 ≤ n) (c s : Int) : ixN n c s < n := by
  unfold ixN
  have h0 := (keyI_bd c s).1
  rw [Int.tmod_eq_emod_of_nonneg h0]
  have h1 := Int.emod_nonneg (keyI c s) (show (n : Int) ≠ 0 by omega)
  have h2 := Int.emod_lt_of_pos (keyI c s) (show (0 : Int) < (n : Int) by omega)
  omega
theorem ixN_tmod {n : Nat} (hn : 1 ≤ n) (c s : Int) : (keyI c s).tmod n = (ixN n c s : Int) := by
  unfold ixN
  have h0 := (keyI_bd c s).1
  rw [Int.tmod_eq_emod_of_nonneg h0]
  have h1 := Int.emod_nonneg (keyI c s) (show (n : Int) ≠ 0 by omega)
  omega
/-- is this line that of a key? -/
def Ln.is (l : Ln) (c s : Int) : Bool := l.c == c && l.s == s && l.f
/-- what get answers -/
def getM (L : List Ln) (c s : Int) : Int := match L[ixN L.length c s]? with | some l => if l.is c s then l.m else 0 | none => 0
def getB (L : List Ln) (c s : Int) : Bool := match L[ixN L.length c s]? with | some l => l.is c s | none => false
def putL (L : List Ln) (c s m : Int) : List Ln := L.set (ixN L.length c s) ⟨c, s, true, m⟩
def dropLn (s : Int) (l : Ln) : Ln := if l.s = s then Ln.zero else l
def dropL (L : List Ln) (s : Int) : List Ln := L.map (dropLn s)
/-- the first k lines were looked at -/
def dropTo (L : List Ln) (s : Int) (k : Nat) : List Ln := (L.take k).map (dropLn s) ++ L.drop k
theorem dropTo_len (L : List Ln) (s : Int) (k : Nat) : (dropTo L s k).length = L.length := by simp [dropTo]; omega
theorem dropTo_zero (L : List Ln) (s : Int) : dropTo L s 0 = L := by simp [dropTo]
theorem dropTo_all (L : List Ln) (s : Int) : dropTo L s L.length = dropL L s := by simp [dropTo, dropL]
theorem dropTo_at {L : List Ln} {s : Int} {k : Nat} {l : Ln} (h : L[k]? = some l) : (dropTo L s k)[k]? = some l := by
  have hk : k < L.length := (List.getElem?_eq_some_iff.1 h).1
  unfold dropTo
  rw [List.getElem?_append_right (by simp; omega)]
  simp only [List.length_map, List.length_take, List.getElem?_drop]
  rw [← h]; congr 1; omega
theorem dropTo_next {L : List Ln} {s : Int} {k : Nat} {l : Ln} (h : L[k]? = some l) : dropTo L s (k + 1) = (dropTo L s k).set k (dropLn s l) := by
  have hk : k < L.length := (List.getElem?_eq_some_iff.1 h).1
  unfold dropTo
  rw [List.set_append_right _ _ (by simp; omega)]
  have e0 : k - ((L.take k).map (dropLn s)).length = 0 := by simp; omega
  have e1 : L.drop k = l :: L.drop (k + 1) := by
    obtain ⟨_, rfl⟩ := List.getElem?_eq_some_iff.1 h
    exact (List.getElem_cons_drop hk).symm
  rw [e0, e1, List.set_cons_zero, List.take_add_one, h, List.map_append]
  simp
theorem dropTo_keep {L : List Ln} {s : Int} {k : Nat} {l : Ln} (h : L[k]? = some l) (hs : l.s ≠ s) : dropTo L s (k + 1) = dropTo L s k := by
  rw [dropTo_next h, dropLn, if_neg hs]
  have := dropTo_at (s := s) h
  obtain ⟨hh, e⟩ := List.getElem?_eq_some_iff.1 this
  rw [← e, List.set_getElem_self]
/-- selectors that were dropped, at most 64 -/
def noteL (D : List Int) (x : Int) : List Int := if D.length = 64 then D.drop 1 ++ [x] else D ++ [x]
theorem noteL_len {D : List Int} (h : D.length ≤ 64) (x : Int) : (noteL D x).length ≤ 64 := by
  unfold noteL
  split <;> simp <;> omega
theorem noteL_last (l : List Int) (k : Nat) (x : Int) (hx : l[k]? = some x) : noteL ((l.take k).drop (k - 64)) x = (l.take (k + 1)).drop (k + 1 - 64) := by
  have hk : k < l.length := (List.getElem?_eq_some_iff.1 hx).1
  have e : l.take (k + 1) = l.take k ++ [x] := by rw [List.take_add_one, hx]; rfl
  have hl : ((l.take k).drop (k - 64)).length = k - (k - 64) := by simp; omega
  unfold noteL
  rw [hl, e]
  split
  · rw [List.drop_append_of_le_length (by simp; omega), List.drop_drop, show k - 64 + 1 = k + 1 - 64 by omega]
  · rw [List.drop_append_of_le_length (by simp; omega), show k + 1 - 64 = k - 64 by omega]
end Go.Proofs.Ytpapjoonnmnnaaa
