/- Hashes, one behind the other: plain; and the heap's Hash at an object of the list. -/
import Derived.Test.YtjnccpeeeiafjaaGreatDoorMMade
namespace Go.Proofs.YtjnccpeeeiafjaaGreatDoor
open Go.RowKit

/-- what Hash does at the object number i -/
def HS (os : List Ob) (hs : Int) (i : Nat) (a er : Int) (os' : List Ob) (hs' : Int) : Prop :=
  ∃ o, os[i]? = some o ∧ ((o.2.1 ≠ 0 ∧ a = o.2.1 ∧ er = 0 ∧ os' = os ∧ hs' = hs) ∨ (o.2.1 = 0 ∧ hs = 1099511627775 ∧ a = 0 ∧ er = 2 ∧ os' = os ∧ hs' = hs) ∨ (o.2.1 = 0 ∧ hs ≠ 1099511627775 ∧ a = hs + 1 ∧ er = 0 ∧ os' = os.set i (o.1, hs + 1, o.2.2) ∧ hs' = hs + 1))
theorem endOf_sum (l : List Ob) : endOf l = 1 + (l.map fun o => 3 + o.2.2.length).sum := by
  unfold endOf
  induction l with
  | nil => rfl
  | cons a l ih => rw [flatW_cons, List.length_append, wordsOb_len, List.map_cons, List.sum_cons]; omega
theorem end_set {os : List Ob} {i : Nat} {o o' : Ob} (hi : os[i]? = some o) (hl : o'.2.2.length = o.2.2.length) (j : Nat) : endOf ((os.set i o').take j) = endOf (os.take j) := by
  rw [endOf_sum, endOf_sum, List.map_take, List.map_take, map_set_same _ hi (by simp [hl])]
theorem end_take_lt {os : List Ob} {i j : Nat} (hij : i < j) (hj : j ≤ os.length) : endOf (os.take i) < endOf (os.take j) := by
  obtain ⟨o, ho⟩ : ∃ o, os[i]? = some o := ⟨_, List.getElem?_eq_getElem (by omega)⟩
  have h1 : endOf (os.take (i + 1)) = endOf (os.take i) + 3 + o.2.2.length := by rw [List.take_add_one, ho]; exact endOf_snoc _ _
  have h2 := end_take (os.take j) (i + 1)
  rw [List.take_take, Nat.min_eq_left (by omega)] at h2
  omega
theorem end_take_inj {os : List Ob} {i j : Nat} (hi : i < os.length) (hj : j < os.length) (h : endOf (os.take i) = endOf (os.take j)) : i = j := by
  rcases Nat.lt_trichotomy i j with hl | hl | hl
  · have := end_take_lt hl (Nat.le_of_lt hj); omega
  · exact hl
  · have := end_take_lt hl (Nat.le_of_lt hi); omega
theorem HS.pos {os : List Ob} {hs : Int} {i : Nat} {a er : Int} {os' : List Ob} {hs' : Int} (h : HS os hs i a er os' hs') (j : Nat) : endOf (os'.take j) = endOf (os.take j) := by
  obtain ⟨o, ho, ⟨-, -, -, rfl, -⟩ | ⟨-, -, -, -, rfl, -⟩ | ⟨-, -, -, -, rfl, -⟩⟩ := h
  · rfl
  · rfl
  · exact end_set (o' := (o.1, hs + 1, o.2.2)) ho rfl j
theorem HS.len {os : List Ob} {hs : Int} {i : Nat} {a er : Int} {os' : List Ob} {hs' : Int} (h : HS os hs i a er os' hs') : os'.length = os.length := by
  obtain ⟨o, ho, ⟨-, -, -, rfl, -⟩ | ⟨-, -, -, -, rfl, -⟩ | ⟨-, -, -, -, rfl, -⟩⟩ := h <;> simp
theorem OInv.lone {lim : Int} {os : List Ob} {hs : Int} (hI : OInv lim os hs) {i j : Nat} {o p : Ob} (hi : os[i]? = some o) (hj : os[j]? = some p) (hx : o.2.1 ≠ 0) (e : o.2.1 = p.2.1) : i = j :=
  hI.uq.one (x := o.2.1) (by rw [List.getElem?_map, hi]; rfl) (by rw [List.getElem?_map, hj, e]; rfl) hx
theorem getElem_set_eq' {α : Type} {l : List α} {i : Nat} {a b : α} (h : l[i]? = some a) : (l.set i b)[i]? = some b := by
  rw [List.getElem?_set_self (List.getElem?_eq_some_iff.1 h).1]
theorem hashes_law {lim : Int} {os os1 os2 os3 : List Ob} {hs h1 h2 h3 : Int} {i j : Nat} {a b c e f g : Int} (hI : OInv lim os hs) (H1 : HS os hs i a e os1 h1) (H2 : HS os1 h1 j b f os2 h2) (H3 : HS os2 h2 i c g os3 h3) :
    (e = 2 ∧ 1099511627774 ≤ hs) ∨ (e = 0 ∧ f = 2 ∧ 1099511627774 ≤ hs) ∨ (e = 0 ∧ f = 0 ∧ g = 0 ∧ c = a ∧ (a = b ↔ i = j) ∧ 1 ≤ a ∧ a ≤ h3 ∧ b ≤ h3 ∧ hs ≤ h3 ∧ h3 ≤ hs + 2) := by
  obtain ⟨o, ho, ⟨x1, rfl, rfl, rfl, rfl⟩ | ⟨x1, x2, rfl, rfl, rfl, rfl⟩ | ⟨x1, x2, rfl, rfl, rfl, rfl⟩⟩ := H1
  · have bo := hI.each o (List.mem_of_getElem? ho)
    obtain ⟨p, hp, ⟨y1, rfl, rfl, rfl, rfl⟩ | ⟨y1, y2, rfl, rfl, rfl, rfl⟩ | ⟨y1, y2, rfl, rfl, rfl, rfl⟩⟩ := H2
    · have bp := hI.each p (List.mem_of_getElem? hp)
      obtain ⟨q, hq, ⟨z1, rfl, rfl, rfl, rfl⟩ | ⟨z1, -⟩ | ⟨z1, -⟩⟩ := H3
      · rw [ho] at hq; cases hq
        refine .inr (.inr ⟨rfl, rfl, rfl, rfl, ⟨fun he => hI.lone ho hp x1 he, fun he => ?_⟩, by omega, by omega, by omega, by omega, by omega⟩)
        subst he
        rw [ho] at hp; cases hp; rfl
      · rw [ho] at hq; cases hq; exact absurd z1 x1
      · rw [ho] at hq; cases hq; exact absurd z1 x1
    · exact .inr (.inl ⟨rfl, rfl, by omega⟩)
    · have hij : j ≠ i := fun he => by subst he; rw [ho] at hp; cases hp; exact x1 y1
      obtain ⟨q, hq, hz⟩ := H3
      rw [List.getElem?_set_ne hij, ho] at hq
      cases hq
      rcases hz with ⟨z1, rfl, rfl, rfl, rfl⟩ | ⟨z1, -⟩ | ⟨z1, -⟩
      · exact .inr (.inr ⟨rfl, rfl, rfl, rfl, ⟨fun he => by omega, fun he => absurd he.symm hij⟩, by omega, by omega, by omega, by omega, by omega⟩)
      · exact absurd z1 x1
      · exact absurd z1 x1
  · exact .inl ⟨rfl, by omega⟩
  · have hh0 := hI.h0
    obtain ⟨p, hp, hy⟩ := H2
    by_cases hij : i = j
    · subst hij
      rw [getElem_set_eq' ho] at hp
      cases hp
      rcases hy with ⟨y1, rfl, rfl, rfl, rfl⟩ | ⟨y1, -⟩ | ⟨y1, -⟩
      · obtain ⟨q, hq, hz⟩ := H3
        rw [getElem_set_eq' ho] at hq
        cases hq
        rcases hz with ⟨z1, rfl, rfl, rfl, rfl⟩ | ⟨z1, -⟩ | ⟨z1, -⟩
        · exact .inr (.inr ⟨rfl, rfl, rfl, rfl, ⟨fun _ => rfl, fun _ => rfl⟩, by omega, by omega, by show hs + 1 ≤ hs + 1; omega, by omega, by omega⟩)
        · simp only at z1; omega
        · simp only at z1; omega
      · simp only at y1; omega
      · simp only at y1; omega
    · rw [List.getElem?_set_ne hij] at hp
      have bp := hI.each p (List.mem_of_getElem? hp)
      rcases hy with ⟨y1, rfl, rfl, rfl, rfl⟩ | ⟨y1, y2, rfl, rfl, rfl, rfl⟩ | ⟨y1, y2, rfl, rfl, rfl, rfl⟩
      · obtain ⟨q, hq, hz⟩ := H3
        rw [getElem_set_eq' ho] at hq
        cases hq
        rcases hz with ⟨z1, rfl, rfl, rfl, rfl⟩ | ⟨z1, -⟩ | ⟨z1, -⟩
        · exact .inr (.inr ⟨rfl, rfl, rfl, rfl, ⟨fun he => by omega, fun he => absurd he hij⟩, by omega, by omega, by omega, by omega, by omega⟩)
        · simp only at z1; omega
        · simp only at z1; omega
      · exact .inr (.inl ⟨rfl, rfl, by omega⟩)
      · obtain ⟨q, hq, hz⟩ := H3
        rw [List.getElem?_set_ne (Ne.symm hij), getElem_set_eq' ho] at hq
        cases hq
        rcases hz with ⟨z1, rfl, rfl, rfl, rfl⟩ | ⟨z1, -⟩ | ⟨z1, -⟩
        · exact .inr (.inr ⟨rfl, rfl, rfl, rfl, ⟨fun he => by omega, fun he => absurd he hij⟩, by omega, by omega, by omega, by omega, by omega⟩)
        · simp only at z1; omega
        · simp only at z1; omega
/-- the heap, out of both -/
theorem pair_live {w W : World} {X : List (Nat × Obj)} {hb mb rb : Nat} {lim : Int} (h : Pair w X hb mb rb lim W) : ∃ os root hashes, OInv lim os hashes ∧ Live w hb mb (absMem lim os root hashes) W := by
  obtain ⟨os, l, root, hashes, hI, -, wv, sv, lv, -, hH, -, hF, h1, h2, -⟩ := h
  exact ⟨os, root, hashes, hI, wv, sv, hH, hF, h1, h2⟩
theorem take_split {α : Type} {l : List α} {i : Nat} {a : α} (h : l[i]? = some a) : l = l.take i ++ a :: l.drop (i + 1) := by
  have hi := (List.getElem?_eq_some_iff.1 h).1
  rw [List.getElem?_eq_getElem hi] at h
  cases h
  rw [← List.drop_eq_getElem_cons hi, List.take_append_drop]
theorem hash_at {w W : World} {hb mb : Nat} {lim root hashes : Int} {os : List Ob} (hg : Glob w) (hI : OInv lim os hashes) (hL : Live w hb mb (absMem lim os root hashes) W) {i : Nat} (hi : i < os.length) :
    Calls Tryz.prog 20 #[.pointer (some ⟨hb, 0, none⟩), .int .u64 (2 * (endOf (os.take i) : Int))] W fun e W' => ∃ a er os' hs', e = .returned (.tuple #[.int .i64 a, .int .i64 er]) ∧ HS os hashes i a er os' hs' ∧ OInv lim os' hs' ∧ Live w hb mb (absMem lim os' root hs') W' := by
  obtain ⟨o, ho⟩ : ∃ o, os[i]? = some o := ⟨_, List.getElem?_eq_getElem hi⟩
  have hs := take_split ho
  obtain ⟨pre, hpre⟩ : ∃ pre, pre = os.take i := ⟨_, rfl⟩
  obtain ⟨post, hpost⟩ : ∃ post, post = os.drop (i + 1) := ⟨_, rfl⟩
  have hpl : pre.length = i := by rw [hpre]; simp; omega
  rw [← hpre, ← hpost] at hs
  rw [← hpre]
  clear hpre hpost
  subst hs
  have hp := endOf_pos pre
  have hq := endOf_lt pre post o
  have hfit := hI.fit
  have hl2 := hI.l2
  have hh0 := hI.h0
  have hh1 := hI.h1
  have ho' := hI.each o (by simp)
  by_cases hz : o.2.1 = 0
  · have hz0 : (absMem lim (pre ++ o :: post) root hashes).W[endOf pre + 1]? = some 0 := by rw [abs_hash, hz]
    by_cases hfull : hashes = 1099511627775
    · refine (live_of_still hL fun _ _ hO => hash_full hO (hg.fr hL.fr) (endOf pre) abs_mark hp (by omega) hz0 hfull).mono ?_
      rintro e W' ⟨rfl, hL'⟩
      exact ⟨0, 2, _, hashes, rfl, ⟨o, ho, .inr (.inl ⟨hz, hfull, rfl, rfl, rfl, rfl⟩)⟩, hI, hL'⟩
    · have hset := abs_set (lim := lim) (root := root) (hashes := hashes + 1) (pre := pre) (post := post) (o := o) 1 (hashes + 1) (o.1, hashes + 1, o.2.2) rfl (by omega) (by simp [wordsOb])
      refine (live_of_turns hL fun _ _ hO => hash_new hO (endOf pre) abs_mark hp (by omega) hz0 hh0 (by show hashes < _; omega)).mono ?_
      rintro e W' ⟨rfl, hL'⟩
      have he : (pre ++ o :: post).set i (o.1, hashes + 1, o.2.2) = pre ++ (o.1, hashes + 1, o.2.2) :: post := by rw [← hpl]; simp
      refine ⟨hashes + 1, 0, pre ++ (o.1, hashes + 1, o.2.2) :: post, hashes + 1, rfl, ⟨o, ho, .inr (.inr ⟨hz, hfull, rfl, rfl, he.symm, rfl⟩)⟩, ?_, ?_⟩
      · exact ⟨hI.l1, hI.l2, by rw [endOf_set (o := o) (o' := (o.1, hashes + 1, o.2.2)) rfl]; exact hI.fit, by omega, by omega, each_set hI.each (by omega) ⟨by simp only; omega, Int.le_refl _⟩, bd_set hI.bd (hI.bd o (by simp)), by have := hI.uq.give (by omega) pre.length; simpa using this⟩
      · rw [← hset]
        exact hL'
  · refine (live_of_still hL fun _ _ hO => hash_has hO (endOf pre) o.2.1 abs_mark hp (by omega) abs_hash (by omega) (by omega)).mono ?_
    rintro e W' ⟨rfl, hL'⟩
    exact ⟨o.2.1, 0, _, hashes, rfl, ⟨o, ho, .inl ⟨hz, rfl, rfl, rfl, rfl⟩⟩, hI, hL'⟩
/-- Objects, of a heap that holds os -/
def refsO (os : List Ob) : List Int := (startsOf 1 os).map fun p : Nat => 2 * (p : Int)
theorem starts_get {os : List Ob} {q : List Ob} {i : Nat} (hi : i < os.length) : (startsOf (endOf q) os)[i]? = some (endOf (q ++ os.take i)) := by
  induction os generalizing q i with
  | nil => simp at hi
  | cons o os ih =>
    cases i with
    | zero => simp [startsOf]
    | succ i =>
      simp only [startsOf, List.getElem?_cons_succ, List.take_succ_cons]
      rw [← endOf_snoc, ih (q := q ++ [o]) (by simpa using hi)]
      simp
theorem refsO_at {os : List Ob} {i : Nat} (hi : i < os.length) : (refsO os)[i]? = some (2 * (endOf (os.take i) : Int)) := by
  have := starts_get (q := []) hi
  simp only [List.nil_append] at this
  unfold refsO
  rw [List.getElem?_map]
  have e : startsOf 1 os = startsOf (endOf []) os := rfl
  rw [e, this]
  rfl
theorem refsO_len (os : List Ob) : (refsO os).length = os.length := by unfold refsO; rw [List.length_map, starts_len]
theorem objects_at {w W : World} {hb mb : Nat} {lim root hashes : Int} {os : List Ob} (hI : OInv lim os hashes) (hL : Live w hb mb (absMem lim os root hashes) W) :
    Calls Tryz.prog 17 #[.pointer (some ⟨hb, 0, none⟩)] W fun e W' => ∃ ao cap, e = .returned (.slice ao (refsO os).length cap) ∧ WordsAt W' ao (refsO os) ∧ Fr [] W W' ∧ (∀ a, ao = some a → W.heap.size ≤ a.block) ∧ Live w hb mb (absMem lim os root hashes) W' := by
  have hL0 := hL
  obtain ⟨wv, sv, hH, hF0, h1, h2⟩ := hL
  have hsz : ∀ o ∈ os, o.2.2.length ≤ 65536 := fun o ho => by
    obtain ⟨a, b, rfl⟩ := List.append_of_mem ho
    have := endOf_lt a b o
    have := hI.fit
    have := hI.l2
    omega
  have hC : Chain (absMem lim os root hashes).W 1 (startsOf 1 os) := by have := abs_chain (lim := lim) (root := root) (hashes := hashes) [] os hsz; simpa [endOf, flatW] using this
  have hF : Fr [] W (W.alloc (.cells #[.slice none 0 0] 42)) := (Fr.refl _ _).alloc _
  refine (objects_lists (memory_at (hH.fr hF (by simp) (fun _ _ => by simp))) _ hC).mono ?_
  rintro e W' ⟨v, rfl, hr, hF', hn⟩
  obtain ⟨ao, cap, rfl⟩ := row_shape hr
  refine ⟨ao, cap, by simp [refsO], fun i x hx => ?_, hF', fun a ha => ?_, hL0.still hF'⟩
  · have hi : i < (startsOf 1 os).length := by have := (List.getElem?_eq_some_iff.1 hx).1; simpa [refsO] using this
    obtain ⟨g, c, e, hc, -, -⟩ := row_at hr hi
    cases e
    refine ⟨g, 0, rfl, ?_⟩
    rw [Nat.zero_add, hc]
    simp only [refsO, List.getElem?_map] at hx
    simp only [refsOf, List.getElem?_map]
    cases hs : (startsOf 1 os)[i]? with
    | none => rw [hs] at hx; cases hx
    | some p => rw [hs] at hx; cases hx; rfl
  · subst ha
    refine hn a.block ?_
    rcases hr.2 with ⟨h0, -⟩ | ⟨g, c, cur, h0, -⟩
    · cases h0
    · cases h0; rfl
end Go.Proofs.YtjnccpeeeiafjaaGreatDoor
