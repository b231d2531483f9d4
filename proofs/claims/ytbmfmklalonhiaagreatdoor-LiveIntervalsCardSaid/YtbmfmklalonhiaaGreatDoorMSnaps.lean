/- The heap's Dump: all objects, in order, each with fields of its own, in new memory. Hashes, one behind the other: plain; and the heap's Hash at an object of the list. A heap's objects, dumped and turned into the document's; Alloc, whatever comes of it. Store, whatever comes of it; a heap's own dump, kept. -/
import Derived.Test.YtbmfmklalonhiaaGreatDoorMLoads
import Derived.Test.YtbmfmklalonhiaaGreatDoorMRanges
import Derived.Test.YtbmfmklalonhiaaGreatDoorMLists
import Derived.Test.YtbmfmklalonhiaaGreatDoorMRLoads
namespace Go.Proofs.YtbmfmklalonhiaaGreatDoor
open Go.RowKit Go.Shelf
attribute [local go_sem] Oper.semAt_some

section
variable {w W W' : World} {bb vb mb k : Nat} {m : Mem} {wv sv v : Value} {os : List Ob} {its : List It}
end
end Go.Proofs.YtbmfmklalonhiaaGreatDoor
namespace Go.Proofs.YtbmfmklalonhiaaGreatDoor
open Go.RowKit

/-- what Hash does at the object number i -/
def HS (os : List Ob) (hs : Int) (i : Nat) (a er : Int) (os' : List Ob) (hs' : Int) : Prop :=
  ∃ o, os[i]? = some o ∧ ((o.2.1 ≠ 0 ∧ a = o.2.1 ∧ er = 0 ∧ os' = os ∧ hs' = hs) ∨ (o.2.1 = 0 ∧ hs = 1099511627775 ∧ a = 0 ∧ er = 2 ∧ os' = os ∧ hs' = hs) ∨ (o.2.1 = 0 ∧ hs ≠ 1099511627775 ∧ a = hs + 1 ∧ er = 0 ∧ os' = os.set i (o.1, hs + 1, o.2.2) ∧ hs' = hs + 1))
theorem endOf_sum (l : List Ob) : endOf l = 1 + (l.map fun o => 3 + o.2.2.length).sum := by
  unfold endOf
  induction l with
  | nil => rfl
  | cons a l ih => rw [flatW_cons, List.length_append, wordsOb_len, List.map_cons, List.sum_cons]; omega
theorem end_set {os : List Ob} {i : Nat} {o o' : Ob} (hi : os[i]? = some o) (hl : o'.2.2.length = o.2.2.length) (j : Nat) : endOf ((os.set i o').take j) = endOf (os.take j) := by
  rw [endOf_sum, endOf_sum, List.map_take, List.map_take, map_set_same _ hi (by simp [hl])]
theorem end_take_lt {os : List Ob} {i j : Nat} (hij : i < j) (hj : j ≤ os.length) : endOf (os.take i) < endOf (os.take j) := by
  obtain ⟨o, ho⟩ : ∃ o, os[i]? = some o := ⟨_, List.getElem?_eq_getElem (by omega)⟩
  have h1 : endOf (os.take (i + 1)) = endOf (os.take i) + 3 + o.2.2.length := by rw [List.take_add_one, ho]; exact endOf_snoc _ _
  have h2 := end_take (os.take j) (i + 1)
  rw [List.take_take, Nat.min_eq_left (by omega)] at h2
  omega
theorem end_take_inj {os : List Ob} {i j : Nat} (hi : i < os.length) (hj : j < os.length) (h : endOf (os.take i) = endOf (os.take j)) : i = j := by
  rcases Nat.lt_trichotomy i j with hl | hl | hl
  · have := end_take_lt hl (Nat.le_of_lt hj); omega
  · exact hl
  · have := end_take_lt hl (Nat.le_of_lt hi); omega
theorem HS.pos {os : List Ob} {hs : Int} {i : Nat} {a er : Int} {os' : List Ob} {hs' : Int} (h : HS os hs i a er os' hs') (j : Nat) : endOf (os'.take j) = endOf (os.take j) := by
  obtain ⟨o, ho, ⟨-, -, -, rfl, -⟩ | ⟨-, -, -, -, rfl, -⟩ | ⟨-, -, -, -, rfl, -⟩⟩ := h
  · rfl
  · rfl
  · exact end_set (o' := (o.1, hs + 1, o.2.2)) ho rfl j
theorem HS.len {os : List Ob} {hs : Int} {i : Nat} {a er : Int} {os' : List Ob} {hs' : Int} (h : HS os hs i a er os' hs') : os'.length = os.length := by
  obtain ⟨o, ho, ⟨-, -, -, rfl, -⟩ | ⟨-, -, -, -, rfl, -⟩ | ⟨-, -, -, -, rfl, -⟩⟩ := h <;> simp
theorem OInv.lone {lim : Int} {os : List Ob} {hs : Int} (hI : OInv lim os hs) {i j : Nat} {o p : Ob} (hi : os[i]? = some o) (hj : os[j]? = some p) (hx : o.2.1 ≠ 0) (e : o.2.1 = p.2.1) : i = j :=
  hI.uq.one (x := o.2.1) (by rw [List.getElem?_map, hi]; rfl) (by rw [List.getElem?_map, hj, e]; rfl) hx
theorem getElem_set_eq' {α : Type} {l : List α} {i : Nat} {a b : α} (h : l[i]? = some a) : (l.set i b)[i]? = some b := by
  rw [List.getElem?_set_self (List.getElem?_eq_some_iff.1 h).1]
theorem hashes_law {lim : Int} {os os1 os2 os3 : List Ob} {hs h1 h2 h3 : Int} {i j : Nat} {a b c e f g : Int} (hI : OInv lim os hs) (H1 : HS os hs i a e os1 h1) (H2 : HS os1 h1 j b f os2 h2) (H3 : HS os2 h2 i c g os3 h3) :
    (e = 2 ∧ 1099511627774 ≤ hs) ∨ (e = 0 ∧ f = 2 ∧ 1099511627774 ≤ hs) ∨ (e = 0 ∧ f = 0 ∧ g = 0 ∧ c = a ∧ (a = b ↔ i = j) ∧ 1 ≤ a ∧ a ≤ h3 ∧ b ≤ h3 ∧ hs ≤ h3 ∧ h3 ≤ hs + 2) := by
  obtain ⟨o, ho, ⟨x1, rfl, rfl, rfl, rfl⟩ | ⟨x1, x2, rfl, rfl, rfl, rfl⟩ | ⟨x1, x2, rfl, rfl, rfl, rfl⟩⟩ := H1
  · have bo := hI.each o (List.mem_of_getElem? ho)
    obtain ⟨p, hp, ⟨y1, rfl, rfl, rfl, rfl⟩ | ⟨y1, y2, rfl, rfl, rfl, rfl⟩ | ⟨y1, y2, rfl, rfl, rfl, rfl⟩⟩ := H2
    · have bp := hI.each p (List.mem_of_getElem? hp)
      obtain ⟨q, hq, ⟨z1, rfl, rfl, rfl, rfl⟩ | ⟨z1, -⟩ | ⟨z1, -⟩⟩ := H3
      · rw [ho] at hq; cases hq
        refine .inr (.inr ⟨rfl, rfl, rfl, rfl, ⟨fun he => hI.lone ho hp x1 he, fun he => ?_⟩, by omega, by omega, by omega, by omega, by omega⟩)
        subst he
        rw [ho] at hp; cases hp; rfl
      · rw [ho] at hq; cases hq; exact absurd z1 x1
      · rw [ho] at hq; cases hq; exact absurd z1 x1
    · exact .inr (.inl ⟨rfl, rfl, by omega⟩)
    · have hij : j ≠ i := fun he => by subst he; rw [ho] at hp; cases hp; exact x1 y1
      obtain ⟨q, hq, hz⟩ := H3
      rw [List.getElem?_set_ne hij, ho] at hq
      cases hq
      rcases hz with ⟨z1, rfl, rfl, rfl, rfl⟩ | ⟨z1, -⟩ | ⟨z1, -⟩
      · exact .inr (.inr ⟨rfl, rfl, rfl, rfl, ⟨fun he => by omega, fun he => absurd he.symm hij⟩, by omega, by omega, by omega, by omega, by omega⟩)
      · exact absurd z1 x1
      · exact absurd z1 x1
  · exact .inl ⟨rfl, by omega⟩
  · have hh0 := hI.h0
    obtain ⟨p, hp, hy⟩ := H2
    by_cases hij : i = j
    · subst hij
      rw [getElem_set_eq' ho] at hp
      cases hp
      rcases hy with ⟨y1, rfl, rfl, rfl, rfl⟩ | ⟨y1, -⟩ | ⟨y1, -⟩
      · obtain ⟨q, hq, hz⟩ := H3
        rw [getElem_set_eq' ho] at hq
        cases hq
        rcases hz with ⟨z1, rfl, rfl, rfl, rfl⟩ | ⟨z1, -⟩ | ⟨z1, -⟩
        · exact .inr (.inr ⟨rfl, rfl, rfl, rfl, ⟨fun _ => rfl, fun _ => rfl⟩, by omega, by omega, by show hs + 1 ≤ hs + 1; omega, by omega, by omega⟩)
        · simp only at z1; omega
        · simp only at z1; omega
      · simp only at y1; omega
      · simp only at y1; omega
    · rw [List.getElem?_set_ne hij] at hp
      have bp := hI.each p (List.mem_of_getElem? hp)
      rcases hy with ⟨y1, rfl, rfl, rfl, rfl⟩ | ⟨y1, y2, rfl, rfl, rfl, rfl⟩ | ⟨y1, y2, rfl, rfl, rfl, rfl⟩
      · obtain ⟨q, hq, hz⟩ := H3
        rw [getElem_set_eq' ho] at hq
        cases hq
        rcases hz with ⟨z1, rfl, rfl, rfl, rfl⟩ | ⟨z1, -⟩ | ⟨z1, -⟩
        · exact .inr (.inr ⟨rfl, rfl, rfl, rfl, ⟨fun he => by omega, fun he => absurd he hij⟩, by omega, by omega, by omega, by omega, by omega⟩)
        · simp only at z1; omega
        · simp only at z1; omega
      · exact .inr (.inl ⟨rfl, rfl, by omega⟩)
      · obtain ⟨q, hq, hz⟩ := H3
        rw [List.getElem?_set_ne (Ne.symm hij), getElem_set_eq' ho] at hq
        cases hq
        rcases hz with ⟨z1, rfl, rfl, rfl, rfl⟩ | ⟨z1, -⟩ | ⟨z1, -⟩
        · exact .inr (.inr ⟨rfl, rfl, rfl, rfl, ⟨fun he => by omega, fun he => absurd he hij⟩, by omega, by omega, by omega, by omega, by omega⟩)
        · simp only at z1; omega
        · simp only at z1; omega
theorem take_split {α : Type} {l : List α} {i : Nat} {a : α} (h : l[i]? = some a) : l = l.take i ++ a :: l.drop (i + 1) := by
  have hi := (List.getElem?_eq_some_iff.1 h).1
  rw [List.getElem?_eq_getElem hi] at h
  cases h
  rw [← List.drop_eq_getElem_cons hi, List.take_append_drop]
/-- Objects, of a heap that holds os -/
def refsO (os : List Ob) : List Int := (startsOf 1 os).map fun p : Nat => 2 * (p : Int)
theorem starts_get {os : List Ob} {q : List Ob} {i : Nat} (hi : i < os.length) : (startsOf (endOf q) os)[i]? = some (endOf (q ++ os.take i)) := by
  induction os generalizing q i with
  | nil => simp at hi
  | cons o os ih =>
    cases i with
    | zero => simp [startsOf]
    | succ i =>
      simp only [startsOf, List.getElem?_cons_succ, List.take_succ_cons]
      rw [← endOf_snoc, ih (q := q ++ [o]) (by simpa using hi)]
      simp
theorem refsO_at {os : List Ob} {i : Nat} (hi : i < os.length) : (refsO os)[i]? = some (2 * (endOf (os.take i) : Int)) := by
  have := starts_get (q := []) hi
  simp only [List.nil_append] at this
  unfold refsO
  rw [List.getElem?_map]
  have e : startsOf 1 os = startsOf (endOf []) os := rfl
  rw [e, this]
  rfl
theorem refsO_len (os : List Ob) : (refsO os).length = os.length := by unfold refsO; rw [List.length_map, starts_len]
end Go.Proofs.YtbmfmklalonhiaaGreatDoor
namespace Go.Proofs.YtbmfmklalonhiaaGreatDoor
open Go.RowKit

theorem noPlace_len (its : List It) : (noPlace its).length = its.length := by simp [noPlace]
theorem noPlace_keys (its : List It) : (noPlace its).map (fun o => o.1.key) = obsOf its := by simp [noPlace, obsOf]
theorem own_block {W : World} {o : It} (h : ItOwn W o) {fa : Addr} {n fc : Nat} (hv : o.fv = .slice (some fa) n fc) : o.fv.ownBlock = some fa.block := by
  rcases h.1.2 with ⟨h0, -⟩ | ⟨g, cap, cur, h0, -⟩
  · rw [hv] at h0; cases h0
  · rw [hv] at h0
    cases h0
    rw [hv]
    rfl
/-- what Alloc does -/
def AL (lim : Int) (os : List Ob) (x n y : Int) (rw' re : Int) (os' : List Ob) : Prop :=
  (re = 0 ∧ rw' = 2 * (endOf os : Int) ∧ 0 ≤ n ∧ n ≤ 512 ∧ (endOf os : Int) + 3 + n ≤ lim ∧ os' = os ++ [(x, 0, List.replicate n.toNat y)]) ∨ ((re = 1 ∨ re = 2) ∧ rw' = 0 ∧ os' = os)
/-- a reference to an object may be -/
theorem ok_ref {lim : Int} {os : List Ob} {hashes : Int} (hI : OInv lim os hashes) {i : Nat} (hi : i < os.length) : okB (marksOf os) (2 * (endOf (os.take i) : Int)) = true ∧ WB (2 * (endOf (os.take i) : Int)) := by
  obtain ⟨o, ho⟩ : ∃ o, os[i]? = some o := ⟨_, List.getElem?_eq_getElem hi⟩
  have hs := take_split ho
  have h1 := endOf_lt (os.take i) (os.drop (i + 1)) o
  rw [← hs] at h1
  have h2 := hI.fit
  have h3 := hI.l2
  have h4 := endOf_pos (os.take i)
  have hm := abs_mark (lim := lim) (root := 0) (hashes := hashes) (pre := os.take i) (post := os.drop (i + 1)) (o := o)
  rw [← hs] at hm
  have := stB_mk (M := marksOf os) h4 (by omega) hm
  refine ⟨by unfold okB; rw [this]; rfl, ?_⟩
  unfold WB
  omega
end Go.Proofs.YtbmfmklalonhiaaGreatDoor
namespace Go.Proofs.YtbmfmklalonhiaaGreatDoor
open Go.RowKit

/-- a list of the heap's objects that lies somewhere -/
structure G3 (W : World) (va : Option Addr) (its : List It) : Prop where
  row : RowAt W va (flat3 its)
  own : ∀ o ∈ its, ItOwn W o
theorem G3.fr {S : List Nat} {W W' : World} {va : Option Addr} {its : List It} (h : G3 W va its) (hF : Fr S W W') (h1 : ∀ a, va = some a → a.block ∉ S) (h2 : ∀ o ∈ its, ∀ b, o.fv.ownBlock = some b → b ∉ S) : G3 W' va its :=
  ⟨h.row.fr hF h1, fun o ho => (h.own o ho).fr hF (h2 o ho)⟩
/-- what Store does -/
def ST (os : List Ob) (i : Nat) (k v re : Int) (os' : List Ob) : Prop :=
  ∃ o, os[i]? = some o ∧ ((0 ≤ k ∧ k < o.2.2.length ∧ re = 0 ∧ os' = os.set i (o.1, o.2.1, o.2.2.set k.toNat v)) ∨ ((k < 0 ∨ (o.2.2.length : Int) ≤ k) ∧ re = 1 ∧ os' = os))
/-- each field behind a Store -/
theorem ST.field {os os' : List Ob} {i : Nat} {k v re : Int} (h : ST os i k v re os') {x y : Nat} {o o' : Ob} (ho : os[x]? = some o) (ho' : os'[x]? = some o') : o'.2.2.length = o.2.2.length ∧ (y < o.2.2.length → o'.2.2[y]? = if re = 0 ∧ x = i ∧ (y : Int) = k then some v else o.2.2[y]?) := by
  obtain ⟨p, hp, ⟨h1, h2, rfl, rfl⟩ | ⟨h1, rfl, rfl⟩⟩ := h
  · by_cases hx : i = x
    · subst hx
      rw [getElem_set_eq' hp] at ho'
      cases ho'
      rw [hp] at ho
      cases ho
      refine ⟨by simp, fun hy => ?_⟩
      by_cases hky : (y : Int) = k
      · have : k.toNat = y := by omega
        rw [if_pos ⟨rfl, rfl, hky⟩]
        simp only [this]
        rw [List.getElem?_set_self hy]
      · rw [if_neg (fun h => hky h.2.2)]
        simp only
        rw [List.getElem?_set_ne (by omega)]
    · rw [List.getElem?_set_ne hx, ho] at ho'
      cases ho'
      exact ⟨rfl, fun _ => by rw [if_neg (fun h => hx h.2.1.symm)]⟩
  · rw [ho] at ho'
    cases ho'
    exact ⟨rfl, fun _ => by rw [if_neg (fun h => by simp at h)]⟩
theorem ST.len {os os' : List Ob} {i : Nat} {k v re : Int} (h : ST os i k v re os') : os'.length = os.length := by
  obtain ⟨p, hp, ⟨-, -, -, rfl⟩ | ⟨-, -, rfl⟩⟩ := h <;> simp
end Go.Proofs.YtbmfmklalonhiaaGreatDoor
