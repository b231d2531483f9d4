/- scan: the intervals, what each register holds, and what is so behind each interval: plain, of no program. -/
import Derived.Test.YtomcfjckhajhmaaFrame
namespace Go.Proofs.Ytomcfjckhajhmaa

/-- an interval: its register, its first instruction and its last -/
structure Iv where
  v : Int
  f : Int
  t : Int
deriving DecidableEq
instance : Inhabited Iv := ⟨⟨0, 0, 0⟩⟩
/-- does one end ahead of another, or begin ahead of it? -/
def endLt (a b : Iv) : Prop := a.t < b.t ∨ (a.t = b.t ∧ a.v < b.v)
def begLt (a b : Iv) : Prop := a.f < b.f ∨ (a.f = b.f ∧ a.v < b.v)
instance (a b : Iv) : Decidable (endLt a b) := by unfold endLt; infer_instance
instance (a b : Iv) : Decidable (begLt a b) := by unfold begLt; infer_instance
theorem endLt.not {a b : Iv} (h : endLt a b) (h2 : endLt b a) : False := by unfold endLt at *; omega
theorem endLt.trans {a b c : Iv} (h : endLt a b) (h2 : endLt b c) : endLt a c := by unfold endLt at *; omega
theorem endLt.le {a b : Iv} (h : endLt a b) : a.t ≤ b.t := by unfold endLt at *; omega
theorem begLt.le {a b : Iv} (h : begLt a b) : a.f ≤ b.f := by unfold begLt at *; omega
theorem endLt.irr {a : Iv} (h : endLt a a) : False := by unfold endLt at *; omega
theorem begLt.not {a b : Iv} (h : begLt a b) (h2 : begLt b a) : False := by unfold begLt at *; omega
theorem begLt.trans {a b c : Iv} (h : begLt a b) (h2 : begLt b c) : begLt a c := by unfold begLt at *; omega

/-- how far the scan has come: what each register holds, the place of each unit's register, the cells -/
structure St where
  hold : List (Option Iv)
  out : Int → Nat × Nat
  cells : Nat
def updO (g : Int → Nat × Nat) (v : Int) (p : Nat × Nat) : Int → Nat × Nat := fun x => if x = v then p else g x
theorem updO_same (g : Int → Nat × Nat) (v : Int) (p : Nat × Nat) : updO g v p v = p := by unfold updO; simp
theorem updO_other (g : Int → Nat × Nat) (v : Int) (p : Nat × Nat) {x : Int} (h : x ≠ v) : updO g v p x = g x := by unfold updO; simp [h]
/-- what is held still at an instruction -/
def relH (f : Int) (H : List (Option Iv)) : List (Option Iv) := H.map fun o => o.filter fun x => decide (f ≤ x.t)
theorem relH_len (f : Int) (H : List (Option Iv)) : (relH f H).length = H.length := by unfold relH; simp
theorem relH_some {f : Int} {H : List (Option Iv)} {q : Nat} {x : Iv} : (relH f H)[q]? = some (some x) ↔ H[q]? = some (some x) ∧ f ≤ x.t := by
  unfold relH
  rw [List.getElem?_map]
  cases h : H[q]? with
  | none => simp
  | some o => cases o with
    | none => simp
    | some y =>
      simp only [Option.map_some, Option.some.injEq, Option.filter_eq_some_iff, decide_eq_true_eq]
theorem relH_none {f : Int} {H : List (Option Iv)} {q : Nat} (h : (relH f H)[q]? = some none) {x : Iv} (hx : H[q]? = some (some x)) : x.t < f := by
  unfold relH at h
  rw [List.getElem?_map, hx] at h
  simp only [Option.map_some, Option.some.injEq] at h
  by_cases hc : f ≤ x.t
  · rw [Option.filter_some, if_pos (by simpa using hc)] at h; cases h
  · omega
/-- one interval more -/
inductive Step (s : St) (i : Iv) : St → Prop where
  | free (q : Nat) (hq : (relH i.f s.hold)[q]? = some none) (h2 : ∀ k, k < q → ∃ x, (relH i.f s.hold)[k]? = some (some x)) : Step s i ⟨(relH i.f s.hold).set q (some i), updO s.out i.v (0, q), s.cells⟩
  | self (hf : ∀ k, k < s.hold.length → ∃ x, (relH i.f s.hold)[k]? = some (some x)) (hm : ∀ (k : Nat) (x : Iv), (relH i.f s.hold)[k]? = some (some x) → endLt x i) : Step s i ⟨relH i.f s.hold, updO s.out i.v (3, s.cells), s.cells + 1⟩
  | other (q : Nat) (x : Iv) (hf : ∀ k, k < s.hold.length → ∃ y, (relH i.f s.hold)[k]? = some (some y)) (hx : (relH i.f s.hold)[q]? = some (some x)) (hix : endLt i x) (hm : ∀ (k : Nat) (y : Iv), (relH i.f s.hold)[k]? = some (some y) → k = q ∨ endLt y x) :
      Step s i ⟨(relH i.f s.hold).set q (some i), updO (updO s.out i.v (0, q)) x.v (3, s.cells), s.cells + 1⟩
theorem Step.det {s s1 s2 : St} {i : Iv} (h1 : Step s i s1) (h2 : Step s i s2) : s1 = s2 := by
  have lenq : ∀ {q : Nat} {o : Option Iv}, (relH i.f s.hold)[q]? = some o → q < s.hold.length := fun h => by
    have := (List.getElem?_eq_some_iff.1 h).1
    rwa [relH_len] at this
  cases h1 with
  | free q hq hl =>
    cases h2 with
    | free q' hq' hl' =>
      have : q = q' := by
        rcases Nat.lt_trichotomy q q' with h | h | h
        · obtain ⟨x, hx⟩ := hl' _ h; rw [hq] at hx; cases hx
        · exact h
        · obtain ⟨x, hx⟩ := hl _ h; rw [hq'] at hx; cases hx
      subst this; rfl
    | self hf hm => obtain ⟨x, hx⟩ := hf _ (lenq hq); rw [hq] at hx; cases hx
    | other q' x hf hx hix hm => obtain ⟨y, hy⟩ := hf _ (lenq hq); rw [hq] at hy; cases hy
  | self hf hm =>
    cases h2 with
    | free q' hq' hl' => obtain ⟨x, hx⟩ := hf _ (lenq hq'); rw [hq'] at hx; cases hx
    | self hf' hm' => rfl
    | other q' x hf' hx hix hm' => exact ((hm _ _ hx).not hix).elim
  | other q x hf hx hix hm =>
    cases h2 with
    | free q' hq' hl' => obtain ⟨y, hy⟩ := hf _ (lenq hq'); rw [hq'] at hy; cases hy
    | self hf' hm' => exact ((hm' _ _ hx).not hix).elim
    | other q' x' hf' hx' hix' hm' =>
      have : q = q' := by
        rcases hm _ _ hx' with h | h
        · exact h.symm
        · rcases hm' _ _ hx with h' | h'
          · exact h'
          · exact (h.not h').elim
      subst this
      rw [hx] at hx'
      cases hx'
      rfl
def startS (r : Nat) : St := ⟨List.replicate r none, fun _ => (0, 0), 0⟩
/-- the intervals one by one -/
inductive Run (r : Nat) : List Iv → St → Prop where
  | nil : Run r [] (startS r)
  | snoc {P : List Iv} {s s' : St} {i : Iv} (h : Run r P s) (hs : Step s i s') : Run r (P ++ [i]) s'
theorem Run.det {r : Nat} {P : List Iv} {s1 : St} (h1 : Run r P s1) : ∀ {s2 : St}, Run r P s2 → s1 = s2 := by
  have key : ∀ {P1 : List Iv} {s2 : St}, Run r P1 s2 → P1 = P → s1 = s2 := by
    induction h1 with
    | nil => intro P1 s2 h2 e; cases h2 with
      | nil => rfl
      | snoc h hs => simp at e
    | snoc h hs ih => intro P1 s2 h2 e; cases h2 with
      | nil => simp at e
      | snoc h' hs' =>
        have e1 := List.append_inj_left' e rfl
        have e2 := List.append_inj_right' e rfl
        cases e2
        have := ih h' e1
        subst this
        exact hs.det hs'
  exact fun {_} h2 => key h2 rfl

/-- intervals in the order in which they are taken, each with a register of its own -/
structure GoodP (P : List Iv) : Prop where
  so : P.Pairwise begLt
  nd : P.Pairwise (fun a b => a.v ≠ b.v)
theorem GoodP.init {P : List Iv} {i : Iv} (h : GoodP (P ++ [i])) : GoodP P := ⟨(List.pairwise_append.1 h.so).1, (List.pairwise_append.1 h.nd).1⟩
theorem GoodP.beg {P : List Iv} {i : Iv} (h : GoodP (P ++ [i])) {x : Iv} (hx : x ∈ P) : begLt x i := (List.pairwise_append.1 h.so).2.2 x hx i (by simp)
theorem GoodP.ne {P : List Iv} {i : Iv} (h : GoodP (P ++ [i])) {x : Iv} (hx : x ∈ P) : x.v ≠ i.v := (List.pairwise_append.1 h.nd).2.2 x hx i (by simp)
theorem GoodP.inj {P : List Iv} (h : GoodP P) {x y : Iv} (hx : x ∈ P) (hy : y ∈ P) (he : x.v = y.v) : x = y := by
  obtain ⟨a, ha, rfl⟩ := List.mem_iff_getElem.1 hx
  obtain ⟨b, hb, rfl⟩ := List.mem_iff_getElem.1 hy
  rcases Nat.lt_trichotomy a b with h1 | h1 | h1
  · exact absurd he (List.pairwise_iff_getElem.1 h.nd a b ha hb h1)
  · subst h1; rfl
  · exact absurd he.symm (List.pairwise_iff_getElem.1 h.nd b a hb ha h1)
theorem GoodP.nodup {P : List Iv} (h : GoodP P) : P.Nodup := h.nd.imp fun h e => h (by rw [e])

def inReg (s : St) (x : Iv) : Bool := decide ((s.out x.v).1 = 0)
/-- what is so behind each interval -/
structure Inv (r : Nat) (P : List Iv) (s : St) : Prop where
  len : s.hold.length = r
  held : ∀ (q : Nat) (x : Iv), s.hold[q]? = some (some x) → x ∈ P ∧ s.out x.v = (0, q)
  reg : ∀ x, x ∈ P → (∃ q, q < r ∧ q < P.length ∧ s.out x.v = (0, q) ∧ (s.hold[q]? = some (some x) ∨ ∃ y, y ∈ P ∧ x.t < y.f)) ∨ (∃ c, c < s.cells ∧ s.out x.v = (3, c))
  apart : ∀ x, x ∈ P → ∀ y, y ∈ P → x ≠ y → s.out x.v = s.out y.v → x.t < y.f ∨ y.t < x.f
  cnt : P.countP (inReg s) + s.cells = P.length
  room : s.cells = 0 ∨ r ≤ P.countP (inReg s)
theorem countP_less {P : List Iv} (hn : P.Nodup) {x : Iv} (hx : x ∈ P) {p p' : Iv → Bool} (h1 : p x = true) (h2 : p' x = false) (h : ∀ y, y ∈ P → y ≠ x → p' y = p y) : P.countP p' + 1 = P.countP p := by
  induction P with
  | nil => cases hx
  | cons a P ih =>
    rw [List.nodup_cons] at hn
    rw [List.countP_cons, List.countP_cons]
    by_cases ha : a = x
    · subst ha
      rw [h1, h2]
      have : P.countP p' = P.countP p := List.countP_congr fun y hy => by rw [h y (List.mem_cons_of_mem _ hy) (fun e => hn.1 (e ▸ hy))]
      simp; omega
    · have := ih hn.2 (by rcases List.mem_cons.1 hx with e | e; exact absurd e.symm ha; exact e) fun y hy hne => h y (List.mem_cons_of_mem _ hy) hne
      rw [h a (by simp) ha]
      omega
/-- different members with a property are not more than those that have it -/
theorem nodup_count {A L : List Iv} (hn : A.Nodup) (p : Iv → Bool) (h : ∀ x, x ∈ A → x ∈ L ∧ p x = true) : A.length ≤ L.countP p := by
  induction A generalizing L with
  | nil => simp
  | cons a A ih =>
    rw [List.nodup_cons] at hn
    obtain ⟨hm, hp⟩ := h a (by simp)
    have hE := (List.perm_cons_erase hm).countP_eq p
    rw [List.countP_cons, hp] at hE
    have := ih (L := L.erase a) hn.2 fun x hx => ⟨(List.mem_erase_of_ne (fun e : x = a => hn.1 (by rw [← e]; exact hx))).2 (h x (List.mem_cons_of_mem _ hx)).1, (h x (List.mem_cons_of_mem _ hx)).2⟩
    simp only [List.length_cons, if_true] at *
    omega
/-- different numbers below a bound are not more than it -/
theorem nodup_lt {A : List Nat} (hn : A.Nodup) {r : Nat} (h : ∀ x, x ∈ A → x < r) : A.length ≤ r := by
  induction r generalizing A with
  | zero => cases A with
    | nil => simp
    | cons a A => exact absurd (h a (by simp)) (by omega)
  | succ r ih =>
    by_cases hm : r ∈ A
    · have h1 := ih (A := A.erase r) (hn.erase r) fun x hx => by
        have := h x (List.mem_of_mem_erase hx)
        have hne : x ≠ r := fun e => by subst e; exact (hn.not_mem_erase) hx
        omega
      rw [List.length_erase_of_mem hm] at h1
      omega
    · have := ih (A := A) hn fun x hx => by
        have := h x hx
        have hne : x ≠ r := fun e => hm (e ▸ hx)
        omega
      omega
/-- what is held -/
def heldL (H : List (Option Iv)) : List Iv := H.filterMap id
theorem mem_heldL {H : List (Option Iv)} {x : Iv} : x ∈ heldL H ↔ ∃ q : Nat, H[q]? = some (some x) := by
  unfold heldL
  rw [List.mem_filterMap]
  constructor
  · rintro ⟨o, ho, rfl⟩
    obtain ⟨q, hq, he⟩ := List.mem_iff_getElem.1 ho
    exact ⟨q, by rw [List.getElem?_eq_getElem hq, he]⟩
  · rintro ⟨q, hq⟩
    exact ⟨some x, List.mem_of_getElem? hq, rfl⟩
theorem heldL_full {H : List (Option Iv)} (h : ∀ k, k < H.length → ∃ x, H[k]? = some (some x)) : (heldL H).length = H.length := by
  induction H with
  | nil => rfl
  | cons a H ih =>
    obtain ⟨x, hx⟩ := h 0 (by simp)
    simp only [List.getElem?_cons_zero, Option.some.injEq] at hx
    subst hx
    have := ih fun k hk => by obtain ⟨y, hy⟩ := h (k + 1) (by simp; omega); exact ⟨y, by simpa using hy⟩
    unfold heldL at *
    simp [this]
theorem heldL_nodup {H : List (Option Iv)} (h : ∀ (a b : Nat) (x : Iv), H[a]? = some (some x) → H[b]? = some (some x) → a = b) : (heldL H).Nodup := by
  induction H with
  | nil => exact List.nodup_nil
  | cons o H ih =>
    have ih := ih fun a b x h1 h2 => by
      have := h (a + 1) (b + 1) x (by simpa using h1) (by simpa using h2)
      omega
    cases o with
    | none => exact ih
    | some x =>
      show (x :: heldL H).Nodup
      refine List.nodup_cons.2 ⟨fun hm => ?_, ih⟩
      obtain ⟨q, hq⟩ := mem_heldL.1 hm
      have := h 0 (q + 1) x (by simp) (by simpa using hq)
      omega
theorem Inv.inj {r : Nat} {P : List Iv} {s : St} (h : Inv r P s) {a b : Nat} {x : Iv} (h1 : s.hold[a]? = some (some x)) (h2 : s.hold[b]? = some (some x)) : a = b := by
  have e := (h.held a x h1).2
  rw [(h.held b x h2).2] at e
  exact (Prod.mk.inj e).2.symm
theorem Inv.full {r : Nat} {P : List Iv} {s : St} (h : Inv r P s) (f : Int) (hf : ∀ k, k < s.hold.length → ∃ x, (relH f s.hold)[k]? = some (some x)) : ∃ A : List Iv, A.length = r ∧ A.Nodup ∧ ∀ x, x ∈ A → ∃ q : Nat, s.hold[q]? = some (some x) ∧ f ≤ x.t := by
  refine ⟨heldL (relH f s.hold), ?_, heldL_nodup fun a b x h1 h2 => h.inj (relH_some.1 h1).1 (relH_some.1 h2).1, fun x hx => ?_⟩
  · rw [heldL_full (by rw [relH_len]; exact hf), relH_len, h.len]
  · obtain ⟨q, hq⟩ := mem_heldL.1 hx
    exact ⟨q, relH_some.1 hq⟩
theorem inv_start (r : Nat) : Inv r [] (startS r) where
  len := by simp [startS]
  held q x h := by
    simp only [startS] at h
    rw [List.getElem?_replicate] at h
    split at h <;> simp at h
  reg x h := by cases h
  apart x h := by cases h
  cnt := rfl
  room := Or.inl rfl
theorem set_some {H : List (Option Iv)} {q k : Nat} {i x : Iv} (h : (H.set q (some i))[k]? = some (some x)) : (k = q ∧ x = i) ∨ (k ≠ q ∧ H[k]? = some (some x)) := by
  rw [List.getElem?_set] at h
  by_cases e : q = k
  · subst e
    simp only [if_true] at h
    split at h
    · simp only [Option.some.injEq] at h; exact Or.inl ⟨rfl, h.symm⟩
    · cases h
  · rw [if_neg e] at h
    exact Or.inr ⟨fun e' => e e'.symm, h⟩
set_option maxHeartbeats 1000000 in
theorem Inv.step {r : Nat} {P : List Iv} {s s' : St} {i : Iv} (h : Inv r P s) (hg : GoodP (P ++ [i])) (hs : Step s i s') : Inv r (P ++ [i]) s' := by
  have hi : i ∉ P := fun hm => hg.ne hm rfl
  have oth : ∀ x, x ∈ P → ∀ p, updO s.out i.v p x.v = s.out x.v := fun x hx p => updO_other _ _ _ (hg.ne hx)
  have lenq : ∀ {q : Nat} {o : Option Iv}, (relH i.f s.hold)[q]? = some o → q < r := fun h9 => by
    have := (List.getElem?_eq_some_iff.1 h9).1
    rwa [relH_len, h.len] at this
  -- who was in register q has ended
  have past : ∀ (q : Nat) (y : Iv), y ∈ P → s.out y.v = (0, q) → s.hold[q]? ≠ some (some y) → y.t < i.f := fun q y hy he hn => by
    rcases h.reg y hy with ⟨q', -, -, e, h1 | ⟨z, hz, h1⟩⟩ | ⟨c, -, e⟩
    · rw [he] at e; cases e; exact absurd h1 hn
    · have := (hg.beg hz).le; omega
    · rw [he] at e; cases e
  have mem2 : ∀ {x : Iv}, x ∈ P ++ [i] → x ∈ P ∨ x = i := fun hx => by simpa using hx
  cases hs with
  | free q hq h2 =>
    have hqr := lenq hq
    have hqP : q < (P ++ [i]).length := by
      have : (List.range q).length ≤ (P.map (fun x => (s.out x.v).2)).length := ?_
      · simp at this ⊢; omega
      have hA : ∀ k, k < q → ∃ x, x ∈ P ∧ s.out x.v = (0, k) := fun k hk => by
        obtain ⟨x, hx⟩ := h2 k hk
        exact ⟨x, h.held k x (relH_some.1 hx).1⟩
      obtain ⟨A, hAl, hAn, hAm⟩ : ∃ A : List Iv, A.length = q ∧ A.Nodup ∧ ∀ x, x ∈ A → x ∈ P ∧ (s.out x.v).2 < q := by
        clear hqr hq lenq
        induction q with
        | zero => exact ⟨[], rfl, List.nodup_nil, by simp⟩
        | succ q ih =>
          obtain ⟨A, a, b, c⟩ := ih (fun k hk => h2 k (by omega)) (fun k hk => hA k (by omega))
          obtain ⟨x, hx, hxo⟩ := hA q (by omega)
          refine ⟨x :: A, by simp [a], List.nodup_cons.2 ⟨fun hm => ?_, b⟩, fun y hy => ?_⟩
          · have := (c x hm).2; rw [hxo] at this; omega
          · rcases List.mem_cons.1 hy with rfl | hy
            · rw [hxo]; exact ⟨hx, by simp⟩
            · exact ⟨(c y hy).1, by have := (c y hy).2; omega⟩
      have := nodup_count hAn (fun _ => true) (L := P) fun x hx => ⟨(hAm x hx).1, rfl⟩
      have h3 := List.countP_le_length (p := fun _ : Iv => true) (l := P)
      simp; omega
    refine ⟨by simp [relH_len, h.len], fun k x hk => ?_, fun x hx => ?_, fun x hx y hy hne he => ?_, ?_, ?_⟩
    · rcases set_some hk with ⟨rfl, rfl⟩ | ⟨hkq, hk⟩
      · exact ⟨by simp, updO_same _ _ _⟩
      · obtain ⟨a, b⟩ := h.held k x (relH_some.1 hk).1
        exact ⟨by simp [a], by show updO s.out i.v _ x.v = _; rw [oth x a, b]⟩
    · rcases mem2 hx with hx | rfl
      · rcases h.reg x hx with ⟨q', a, b, e, h1⟩ | ⟨c, hc, e⟩
        · refine Or.inl ⟨q', a, by simp; omega, by show updO s.out i.v _ x.v = _; rw [oth x hx, e], ?_⟩
          rcases h1 with h1 | ⟨z, hz, h1⟩
          · by_cases ht : i.f ≤ x.t
            · refine Or.inl ?_
              have h4 := relH_some.2 ⟨h1, ht⟩
              have hne : q ≠ q' := fun e9 => by subst e9; rw [hq] at h4; cases h4
              show ((relH i.f s.hold).set q (some i))[q']? = _
              rw [List.getElem?_set_ne hne]
              exact h4
            · exact Or.inr ⟨i, by simp, by omega⟩
          · exact Or.inr ⟨z, by simp [hz], h1⟩
        · exact Or.inr ⟨c, hc, by show updO s.out i.v _ x.v = _; rw [oth x hx, e]⟩
      · refine Or.inl ⟨q, hqr, hqP, updO_same _ _ _, Or.inl ?_⟩
        show ((relH x.f s.hold).set q (some x))[q]? = _
        rw [List.getElem?_set_self (by rw [relH_len, h.len]; exact hqr)]
    · have ned : ∀ y, y ∈ P → updO s.out i.v (0, q) i.v = updO s.out i.v (0, q) y.v → y.t < i.f := fun y hy he => by
        rw [updO_same, oth y hy] at he
        by_cases h9 : s.hold[q]? = some (some y)
        · exact relH_none hq h9
        · exact past q y hy he.symm h9
      rcases mem2 hx with hx' | rfl
      · rcases mem2 hy with hy' | rfl
        · refine h.apart x hx' y hy' hne ?_
          have he : updO s.out i.v (0, q) x.v = updO s.out i.v (0, q) y.v := he
          rwa [oth x hx', oth y hy'] at he
        · exact Or.inl (ned x hx' he.symm)
      · rcases mem2 hy with hy' | rfl
        · exact Or.inr (ned y hy' he)
        · exact absurd rfl hne
    · have := h.cnt
      have e : P.countP (inReg ⟨(relH i.f s.hold).set q (some i), updO s.out i.v (0, q), s.cells⟩) = P.countP (inReg s) := List.countP_congr fun x hx => by unfold inReg; simp only [oth x hx]
      rw [List.countP_append, e]
      simp [inReg, updO_same]
      omega
    · have e : P.countP (inReg ⟨(relH i.f s.hold).set q (some i), updO s.out i.v (0, q), s.cells⟩) = P.countP (inReg s) := List.countP_congr fun x hx => by unfold inReg; simp only [oth x hx]
      rw [List.countP_append, e]
      rcases h.room with h1 | h1
      · exact Or.inl h1
      · exact Or.inr (by omega)
  | self hf hm =>
    have e : P.countP (inReg ⟨relH i.f s.hold, updO s.out i.v (3, s.cells), s.cells + 1⟩) = P.countP (inReg s) := List.countP_congr fun x hx => by unfold inReg; simp only [oth x hx]
    obtain ⟨A, hAl, hAn, hAm⟩ := h.full i.f hf
    have hcA : r ≤ P.countP (inReg s) := by
      rw [← hAl]
      exact nodup_count hAn _ fun x hx => by
        obtain ⟨q, hq, -⟩ := hAm x hx
        exact ⟨(h.held q x hq).1, by unfold inReg; rw [(h.held q x hq).2]; rfl⟩
    refine ⟨by simp [relH_len, h.len], fun k x hk => ?_, fun x hx => ?_, fun x hx y hy hne he => ?_, ?_, ?_⟩
    · obtain ⟨a, b⟩ := h.held k x (relH_some.1 hk).1
      exact ⟨by simp [a], by show updO s.out i.v _ x.v = _; rw [oth x a, b]⟩
    · rcases mem2 hx with hx | rfl
      · rcases h.reg x hx with ⟨q', a, b, e, h1⟩ | ⟨c, hc, e⟩
        · refine Or.inl ⟨q', a, by simp; omega, by show updO s.out i.v _ x.v = _; rw [oth x hx, e], ?_⟩
          rcases h1 with h1 | ⟨z, hz, h1⟩
          · by_cases ht : i.f ≤ x.t
            · exact Or.inl (relH_some.2 ⟨h1, ht⟩)
            · exact Or.inr ⟨i, by simp, by omega⟩
          · exact Or.inr ⟨z, by simp [hz], h1⟩
        · exact Or.inr ⟨c, by show c < s.cells + 1; omega, by show updO s.out i.v _ x.v = _; rw [oth x hx, e]⟩
      · exact Or.inr ⟨s.cells, Nat.lt_succ_self _, updO_same _ _ _⟩
    · have ned : ∀ y, y ∈ P → updO s.out i.v (3, s.cells) i.v ≠ updO s.out i.v (3, s.cells) y.v := fun y hy he => by
        rw [updO_same, oth y hy] at he
        rcases h.reg y hy with ⟨q', a, b, e, h1⟩ | ⟨c, hc, e⟩
        · rw [e] at he; cases he
        · rw [e] at he; cases he; omega
      rcases mem2 hx with hx' | rfl
      · rcases mem2 hy with hy' | rfl
        · refine h.apart x hx' y hy' hne ?_
          have he : updO s.out i.v (3, s.cells) x.v = updO s.out i.v (3, s.cells) y.v := he
          rwa [oth x hx', oth y hy'] at he
        · exact absurd he.symm (ned x hx')
      · rcases mem2 hy with hy' | rfl
        · exact absurd he (ned y hy')
        · exact absurd rfl hne
    · have := h.cnt
      rw [List.countP_append, e]
      simp [inReg, updO_same]
      omega
    · rw [List.countP_append, e]
      exact Or.inr (by omega)
  | other q x hf hx hix hm =>
    obtain ⟨hxq, hxt⟩ := relH_some.1 hx
    obtain ⟨hxP, hxo⟩ := h.held q x hxq
    have hqr := lenq hx
    have hxi : x.v ≠ i.v := hg.ne hxP
    obtain ⟨A, hAl, hAn, hAm⟩ := h.full i.f hf
    have hcA : r ≤ P.countP (inReg s) := by
      rw [← hAl]
      exact nodup_count hAn _ fun x hx => by
        obtain ⟨q, hq, -⟩ := hAm x hx
        exact ⟨(h.held q x hq).1, by unfold inReg; rw [(h.held q x hq).2]; rfl⟩
    have oi : updO (updO s.out i.v (0, q)) x.v (3, s.cells) i.v = (0, q) := by rw [updO_other _ _ _ hxi.symm, updO_same]
    have ox : updO (updO s.out i.v (0, q)) x.v (3, s.cells) x.v = (3, s.cells) := updO_same _ _ _
    have oy : ∀ y, y ∈ P → y ≠ x → updO (updO s.out i.v (0, q)) x.v (3, s.cells) y.v = s.out y.v := fun y hy hne => by
      rw [updO_other _ _ _ fun e => hne (hg.init.inj hy hxP e), oth y hy]
    have hqP : q < P.length := by
      rcases h.reg x hxP with ⟨q', -, b, e, -⟩ | ⟨c, -, e⟩
      · rw [hxo] at e; cases e; exact b
      · rw [hxo] at e; cases e
    have e : P.countP (inReg ⟨(relH i.f s.hold).set q (some i), updO (updO s.out i.v (0, q)) x.v (3, s.cells), s.cells + 1⟩) + 1 = P.countP (inReg s) :=
      countP_less hg.init.nodup hxP (by unfold inReg; rw [hxo]; rfl) (by unfold inReg; simp only [ox]; rfl) fun y hy hne => by unfold inReg; simp only [oy y hy hne]
    refine ⟨by simp [relH_len, h.len], fun k y hk => ?_, fun y hy => ?_, fun y hy z hz hne he => ?_, ?_, ?_⟩
    · rcases set_some hk with ⟨rfl, rfl⟩ | ⟨hkq, hk9⟩
      · exact ⟨by simp, oi⟩
      · have hyx : y ≠ x := fun e9 => by subst e9; exact hkq (h.inj (relH_some.1 hk9).1 hxq)
        obtain ⟨a, b⟩ := h.held k y (relH_some.1 hk9).1
        exact ⟨by simp [a], by show updO (updO s.out i.v (0, q)) x.v _ y.v = _; rw [oy y a hyx, b]⟩
    · rcases mem2 hy with hy | rfl
      · by_cases hyx : y = x
        · subst hyx
          exact Or.inr ⟨s.cells, Nat.lt_succ_self _, ox⟩
        rcases h.reg y hy with ⟨q', a, b, e, h1⟩ | ⟨c, hc, e⟩
        · refine Or.inl ⟨q', a, by simp; omega, by show updO (updO s.out i.v (0, q)) x.v _ y.v = _; rw [oy y hy hyx, e], ?_⟩
          rcases h1 with h1 | ⟨z, hz, h1⟩
          · by_cases ht : i.f ≤ y.t
            · refine Or.inl ?_
              have h4 := relH_some.2 ⟨h1, ht⟩
              have hne : q ≠ q' := fun e9 => by subst e9; rw [hx] at h4; cases h4; exact hyx rfl
              show ((relH i.f s.hold).set q (some i))[q']? = _
              rw [List.getElem?_set_ne hne]
              exact h4
            · exact Or.inr ⟨i, by simp, by omega⟩
          · exact Or.inr ⟨z, by simp [hz], h1⟩
        · exact Or.inr ⟨c, by show c < s.cells + 1; omega, by show updO (updO s.out i.v (0, q)) x.v _ y.v = _; rw [oy y hy hyx, e]⟩
      · refine Or.inl ⟨q, hqr, by simp; omega, oi, Or.inl ?_⟩
        show ((relH y.f s.hold).set q (some y))[q]? = _
        rw [List.getElem?_set_self (by rw [relH_len, h.len]; exact hqr)]
    · have he : updO (updO s.out i.v (0, q)) x.v (3, s.cells) y.v = updO (updO s.out i.v (0, q)) x.v (3, s.cells) z.v := he
      have nx : ∀ y, y ∈ P → y ≠ x → s.out y.v ≠ (3, s.cells) := fun y hy hne e9 => by
        rcases h.reg y hy with ⟨q', -, -, e, -⟩ | ⟨c, hc, e⟩
        · rw [e] at e9; cases e9
        · rw [e] at e9; cases e9; omega
      have ni : ∀ y, y ∈ P → y ≠ x → s.out y.v = (0, q) → y.t < i.f := fun y hy hne e9 => past q y hy e9 fun h9 => by
        rw [hxq] at h9
        cases h9
        exact hne rfl
      rcases mem2 hy with hy' | rfl
      · by_cases hyx : y = x
        · subst hyx
          rw [ox] at he
          rcases mem2 hz with hz' | rfl
          · rw [oy z hz' (fun e9 => hne e9.symm)] at he
            exact absurd he.symm (nx z hz' fun e9 => hne e9.symm)
          · rw [oi] at he; cases he
        · rw [oy y hy' hyx] at he
          rcases mem2 hz with hz' | rfl
          · by_cases hzx : z = x
            · subst hzx
              rw [ox] at he
              exact absurd he (nx y hy' hyx)
            · rw [oy z hz' hzx] at he
              exact h.apart y hy' z hz' hne he
          · rw [oi] at he
            exact Or.inl (ni y hy' hyx he)
      · rw [oi] at he
        rcases mem2 hz with hz' | rfl
        · by_cases hzx : z = x
          · subst hzx
            rw [ox] at he; cases he
          · rw [oy z hz' hzx] at he
            exact Or.inr (ni z hz' hzx he.symm)
        · exact absurd rfl hne
    · have := h.cnt
      rw [List.countP_append]
      simp [inReg, oi] at *
      omega
    · rw [List.countP_append]
      refine Or.inr ?_
      simp [inReg, oi] at *
      omega
theorem Run.inv {r : Nat} {P : List Iv} {s : St} (h : Run r P s) (hg : GoodP P) : Inv r P s := by
  induction h with
  | nil => exact inv_start r
  | snoc h hs ih => exact (ih hg.init).step hg hs
end Go.Proofs.Ytomcfjckhajhmaa
