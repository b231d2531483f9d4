/- Store, whatever comes of it; a heap's own dump, kept. -/
import Derived.Test.YtjnccpeeeiafjaaGreatDoorMSnap
namespace Go.Proofs.YtjnccpeeeiafjaaGreatDoor
open Go.RowKit

/-- a list of the heap's objects that lies somewhere -/
structure G3 (W : World) (va : Option Addr) (its : List It) : Prop where
  row : RowAt W va (flat3 its)
  own : ∀ o ∈ its, ItOwn W o
theorem G3.fr {S : List Nat} {W W' : World} {va : Option Addr} {its : List It} (h : G3 W va its) (hF : Fr S W W') (h1 : ∀ a, va = some a → a.block ∉ S) (h2 : ∀ o ∈ its, ∀ b, o.fv.ownBlock = some b → b ∉ S) : G3 W' va its :=
  ⟨h.row.fr hF h1, fun o ho => (h.own o ho).fr hF (h2 o ho)⟩
theorem snap3_at {W : World} {hb mb : Nat} {lim root hashes : Int} {os : List Ob} {wv sv : Value} (hI : OInv lim os hashes) (hH : HeapAt W hb mb (absMem lim os root hashes) wv sv) :
    Calls Tryz.prog 16 #[.pointer (some ⟨hb, 0, none⟩)] W fun e W1 => ∃ va vc its, e = .returned (.slice va its.length vc) ∧ G3 W1 va its ∧ obsOf its = os ∧ Fr [] W W1 ∧ (∀ a, va = some a → W.heap.size ≤ a.block) ∧ ∀ o ∈ its, ∀ b, o.fv.ownBlock = some b → W.heap.size ≤ b := by
  refine (dump_lists (memory_at hH) (by have := hI.fit; have := hI.l2; omega) (fun o ho => by have := hI.each o ho; have := hI.h1; omega)).mono ?_
  rintro e W1 ⟨v, its, rfl, hr, ho, hown, hF, hn, hfr⟩
  obtain ⟨va, vc, rfl⟩ := row_shape' hr
  refine ⟨va, vc, its, rfl, ⟨row_rowAt hr, hown⟩, ho, hF, fun a ha => ?_, hfr⟩
  subst ha
  refine hn a.block ?_
  rcases hr.2 with ⟨h0, -⟩ | ⟨g, cap, cur, h0, -⟩
  · cases h0
  · cases h0; rfl
/-- what Store does -/
def ST (os : List Ob) (i : Nat) (k v re : Int) (os' : List Ob) : Prop :=
  ∃ o, os[i]? = some o ∧ ((0 ≤ k ∧ k < o.2.2.length ∧ re = 0 ∧ os' = os.set i (o.1, o.2.1, o.2.2.set k.toNat v)) ∨ ((k < 0 ∨ (o.2.2.length : Int) ≤ k) ∧ re = 1 ∧ os' = os))
theorem store_at {W : World} {hb mb : Nat} {lim root hashes : Int} {os : List Ob} {wv sv : Value} (hg : Glob W) (hI : OInv lim os hashes) (hH : HeapAt W hb mb (absMem lim os root hashes) wv sv) {i : Nat} (hi : i < os.length) (k v : Int) (k1 : -9223372036854775808 ≤ k) (k2 : k ≤ 9223372036854775807) (hv : WB v) (ov : odd v = true) :
    ∃ re os', ST os i k v re os' ∧ OInv lim os' hashes ∧ Calls Tryz.prog 18 #[.pointer (some ⟨hb, 0, none⟩), .int .u64 (2 * (endOf (os.take i) : Int)), .int .i64 k, .int .u64 v] W (Turns (.int .i64 re) mb (absMem lim os' root hashes) (foot mb wv sv) W) := by
  obtain ⟨o, ho⟩ : ∃ o, os[i]? = some o := ⟨_, List.getElem?_eq_getElem hi⟩
  have hs := take_split ho
  obtain ⟨pre, hpre⟩ : ∃ pre, pre = os.take i := ⟨_, rfl⟩
  obtain ⟨post, hpost⟩ : ∃ post, post = os.drop (i + 1) := ⟨_, rfl⟩
  have hpl : pre.length = i := by rw [hpre]; simp; omega
  rw [← hpre, ← hpost] at hs
  rw [← hpre]
  clear hpre hpost
  subst hs
  have hp := endOf_pos pre
  have hq := endOf_lt pre post o
  have hfit := hI.fit
  have hl2 := hI.l2
  have hO := memory_at hH
  by_cases hk : 0 ≤ k ∧ k < o.2.2.length
  · obtain ⟨j, rfl⟩ : ∃ j : Nat, k = j := ⟨k.toNat, by omega⟩
    have hj : j < o.2.2.length := by omega
    have hw : (wordsOb o).set (3 + j) v = wordsOb (o.1, o.2.1, o.2.2.set j v) := by
      simp only [wordsOb, List.length_set]
      rw [List.set_append_right _ _ (by simp)]
      simp
    have hset := abs_set (lim := lim) (root := root) (hashes := hashes) (pre := pre) (post := post) (o := o) (3 + j) v (o.1, o.2.1, o.2.2.set j v) (by simp) (by omega) hw
    have he : (pre ++ o :: post).set i (o.1, o.2.1, o.2.2.set j v) = pre ++ (o.1, o.2.1, o.2.2.set j v) :: post := by rw [← hpl]; simp
    refine ⟨0, pre ++ (o.1, o.2.1, o.2.2.set j v) :: post, ⟨o, ho, .inl ⟨hk.1, hk.2, rfl, by rw [Int.toNat_natCast]; exact he.symm⟩⟩, ⟨hI.l1, hI.l2, by rw [endOf_set (o := o) (by simp)]; exact hI.fit, hI.h0, hI.h1, each_set hI.each (Int.le_refl _) (hI.each o (by simp)), bd_set hI.bd ((hI.bd o (by simp)).store j hv), by have := hI.uq; simpa using this⟩, ?_⟩
    rw [← hset, ← Nat.add_assoc]
    exact store_ok hO (endOf pre) o.2.2.length j v abs_mark hp abs_size (by omega) hj (by rw [(absMem_len _ _ _ _).1]; omega) hv.1 hv.2 (by simp [okB, ov])
  · refine ⟨1, _, ⟨o, ho, .inr ⟨by omega, rfl, rfl⟩⟩, hI, ?_⟩
    exact (store_fail hO hg (endOf pre) o.2.2.length k v abs_mark hp abs_size (by omega) (by omega) k1 k2).mono fun _ _ h => h.turns hH.mem
/-- each field behind a Store -/
theorem ST.field {os os' : List Ob} {i : Nat} {k v re : Int} (h : ST os i k v re os') {x y : Nat} {o o' : Ob} (ho : os[x]? = some o) (ho' : os'[x]? = some o') : o'.2.2.length = o.2.2.length ∧ (y < o.2.2.length → o'.2.2[y]? = if re = 0 ∧ x = i ∧ (y : Int) = k then some v else o.2.2[y]?) := by
  obtain ⟨p, hp, ⟨h1, h2, rfl, rfl⟩ | ⟨h1, rfl, rfl⟩⟩ := h
  · by_cases hx : i = x
    · subst hx
      rw [getElem_set_eq' hp] at ho'
      cases ho'
      rw [hp] at ho
      cases ho
      refine ⟨by simp, fun hy => ?_⟩
      by_cases hky : (y : Int) = k
      · have : k.toNat = y := by omega
        rw [if_pos ⟨rfl, rfl, hky⟩]
        simp only [this]
        rw [List.getElem?_set_self hy]
      · rw [if_neg (fun h => hky h.2.2)]
        simp only
        rw [List.getElem?_set_ne (by omega)]
    · rw [List.getElem?_set_ne hx, ho] at ho'
      cases ho'
      exact ⟨rfl, fun _ => by rw [if_neg (fun h => hx h.2.1.symm)]⟩
  · rw [ho] at ho'
    cases ho'
    exact ⟨rfl, fun _ => by rw [if_neg (fun h => by simp at h)]⟩
theorem ST.len {os os' : List Ob} {i : Nat} {k v re : Int} (h : ST os i k v re os') : os'.length = os.length := by
  obtain ⟨p, hp, ⟨-, -, -, rfl⟩ | ⟨-, -, rfl⟩⟩ := h <;> simp
end Go.Proofs.YtjnccpeeeiafjaaGreatDoor
