/- scan: what follows of the places: apart, enough, few, fewer than with one register, all at once: plain. -/
import Derived.Test.YtomcfjckhajhmaaScnPure
namespace Go.Proofs.Ytomcfjckhajhmaa

/-- does an interval contain an instruction? -/
def conts (f : Int) (x : Iv) : Bool := decide (x.f ≤ f ∧ f ≤ x.t)
theorem Run.enough {r : Nat} {P : List Iv} {s : St} (h : Run r P s) (hg : GoodP P) (hw : ∀ x, x ∈ P → x.f ≤ x.t) {L : List Iv} (hL : ∀ x, x ∈ P → x ∈ L) (hm : ∀ i, i ∈ L → L.countP (conts i.f) ≤ r) : s.cells = 0 := by
  induction h with
  | nil => rfl
  | @snoc P s s' i h hs ih =>
    have c0 := ih hg.init (fun x hx => hw x (by simp [hx])) (fun x hx => hL x (by simp [hx]))
    have hI := h.inv hg.init
    have key : (∀ k, k < s.hold.length → ∃ x, (relH i.f s.hold)[k]? = some (some x)) → False := fun hf => by
      obtain ⟨A, hAl, hAn, hAm⟩ := hI.full i.f hf
      have h1 : (i :: A).length ≤ L.countP (conts i.f) := nodup_count (List.nodup_cons.2 ⟨fun hm => by
          obtain ⟨q, hq, -⟩ := hAm i hm
          exact hg.ne (hI.held q i hq).1 rfl, hAn⟩) _ fun x hx => by
        rcases List.mem_cons.1 hx with rfl | hx
        · exact ⟨hL x (by simp), by unfold conts; simp [hw x (by simp)]⟩
        · obtain ⟨q, hq, ht⟩ := hAm x hx
          have hxP := (hI.held q x hq).1
          exact ⟨hL x (by simp [hxP]), by unfold conts; simp [ht, (hg.beg hxP).le]⟩
      have h2 := hm i (hL i (by simp))
      simp at h1
      omega
    cases hs with
    | free q hq h2 => exact c0
    | self hf hm => exact (key hf).elim
    | other q x hf hx hix hm => exact (key hf).elim
theorem Inv.regs {r : Nat} {P : List Iv} {s : St} (h : Inv r P s) (hn : P.Nodup) (f : Int) : P.countP (fun x => inReg s x && conts f x) ≤ r := by
  rw [List.countP_eq_length_filter, ← List.length_map (f := fun x => (s.out x.v).2)]
  refine nodup_lt ?_ fun q hq => ?_
  · refine List.pairwise_map.2 ((hn.filter _).imp_of_mem fun {a b} ha hb hne he => ?_)
    obtain ⟨a1, a2⟩ := List.mem_filter.1 ha
    obtain ⟨b1, b2⟩ := List.mem_filter.1 hb
    simp only [Bool.and_eq_true, inReg, conts, decide_eq_true_eq] at a2 b2
    have := h.apart a a1 b b1 hne (Prod.ext (by rw [a2.1, b2.1]) he)
    omega
  · obtain ⟨x, hx, rfl⟩ := List.mem_map.1 hq
    obtain ⟨a1, a2⟩ := List.mem_filter.1 hx
    simp only [Bool.and_eq_true, inReg, decide_eq_true_eq] at a2
    rcases h.reg x a1 with ⟨q, hq, -, e, -⟩ | ⟨c, -, e⟩
    · rw [e]; exact hq
    · rw [e] at a2; simp at a2
theorem Inv.some_cell {r : Nat} {P : List Iv} {s : St} (h : Inv r P s) (hn : P.Nodup) {i : Iv} (hm : r < P.countP (conts i.f)) : 1 ≤ s.cells := by
  apply Nat.one_le_iff_ne_zero.2
  intro e
  have h1 := h.regs hn i.f
  have h2 : P.countP (fun x => inReg s x && conts i.f x) = P.countP (conts i.f) := List.countP_congr fun x hx => by
    rcases h.reg x hx with ⟨q, -, -, e, -⟩ | ⟨c, hc, -⟩
    · simp [inReg, e]
    · omega
  omega
theorem Inv.few {r : Nat} {P : List Iv} {s : St} (h : Inv r P s) (hc : 1 ≤ s.cells) : s.cells + r ≤ P.length := by
  have := h.cnt
  rcases h.room with h1 | h1
  · omega
  · omega
theorem Inv.some_reg {r : Nat} {P : List Iv} {s : St} (h : Inv r P s) (hr : 1 ≤ r) (hP : 1 ≤ P.length) : 1 ≤ P.countP (inReg s) := by
  have := h.cnt
  rcases h.room with h1 | h1
  · omega
  · omega

theorem heldL_rel (f : Int) (H : List (Option Iv)) : heldL (relH f H) = (heldL H).filter fun x => decide (f ≤ x.t) := by
  induction H with
  | nil => rfl
  | cons o H ih =>
    have e1 : relH f (o :: H) = (o.filter fun x => decide (f ≤ x.t)) :: relH f H := rfl
    rw [e1]
    cases o with
    | none => exact ih
    | some x =>
      by_cases hc : f ≤ x.t
      · have e2 : (Option.filter (fun x : Iv => decide (f ≤ x.t)) (some x)) = some x := by simp [hc]
        rw [e2]
        show x :: heldL (relH f H) = (x :: heldL H).filter _
        rw [List.filter_cons, if_pos (by simpa using hc), ih]
      · have e2 : (Option.filter (fun x : Iv => decide (f ≤ x.t)) (some x)) = none := by simp; omega
        rw [e2]
        show heldL (relH f H) = (x :: heldL H).filter _
        rw [List.filter_cons, if_neg (by simpa using hc), ih]
theorem heldL_set {H : List (Option Iv)} {q : Nat} {o : Option Iv} (h : H[q]? = some o) (i : Iv) : (heldL (H.set q (some i))).length = (heldL H).length + (if o = none then 1 else 0) := by
  induction H generalizing q with
  | nil => cases h
  | cons a H ih =>
    cases q with
    | zero =>
      simp only [List.getElem?_cons_zero, Option.some.injEq] at h
      subst h
      cases a <;> simp [heldL]
    | succ q =>
      have := ih (q := q) (by simpa using h)
      cases a <;> simp [heldL] at * <;> omega
theorem heldL_set_mem {H : List (Option Iv)} {q : Nat} {o : Option Iv} (h : H[q]? = some o) (i x : Iv) : x ∈ heldL (H.set q (some i)) ↔ x = i ∨ ∃ k : Nat, k ≠ q ∧ H[k]? = some (some x) := by
  have hq := (List.getElem?_eq_some_iff.1 h).1
  rw [mem_heldL]
  constructor
  · rintro ⟨k, hk⟩
    rcases set_some hk with ⟨-, e⟩ | ⟨h1, h2⟩
    · exact Or.inl e
    · exact Or.inr ⟨k, h1, h2⟩
  · rintro (rfl | ⟨k, h1, h2⟩)
    · exact ⟨q, by rw [List.getElem?_set_self hq]⟩
    · exact ⟨k, by rw [List.getElem?_set_ne (fun e => h1 e.symm)]; exact h2⟩

/-- one register against r: where they stand -/
structure Less (m p : Nat) (H1 Hr : List Iv) : Prop where
  one : H1.length ≤ 1
  cnt : p + Hr.length ≤ m + H1.length
  who : ∀ x, x ∈ H1 → x ∈ Hr ∨ p + Hr.length ≤ m ∨ ∃ y, y ∈ Hr ∧ endLt y x
theorem Less.rel {m p : Nat} {H1 Hr : List Iv} (h : Less m p H1 Hr) (f : Int) : Less m p (H1.filter fun x => decide (f ≤ x.t)) (Hr.filter fun x => decide (f ≤ x.t)) := by
  have hl : ∀ x, x ∈ Hr → ¬ f ≤ x.t → (Hr.filter fun x => decide (f ≤ x.t)).length + 1 ≤ Hr.length := fun x hx ht => by
    have := List.length_filter_lt_length_iff_exists (p := fun x : Iv => decide (f ≤ x.t)) (l := Hr)
    have := this.2 ⟨x, hx, by simpa using ht⟩
    omega
  have hle := List.length_filter_le (fun x : Iv => decide (f ≤ x.t)) Hr
  match H1, h with
  | [], h => exact ⟨by simp, by have := h.cnt; simp at *; omega, by simp⟩
  | [x], h =>
    have hc := h.cnt
    simp only [List.length_cons, List.length_nil] at hc
    by_cases ht : f ≤ x.t
    · have e : ([x].filter fun x => decide (f ≤ x.t)) = [x] := by simp [ht]
      rw [e]
      refine ⟨by simp, by simp only [List.length_cons, List.length_nil]; omega, fun z hz => ?_⟩
      have hz : z = x := by simpa using hz
      subst hz
      rcases h.who z (by simp) with h1 | h1 | ⟨y, h1, h2⟩
      · exact Or.inl (List.mem_filter.2 ⟨h1, by simpa using ht⟩)
      · exact Or.inr (Or.inl (by omega))
      · by_cases hy : f ≤ y.t
        · exact Or.inr (Or.inr ⟨y, List.mem_filter.2 ⟨h1, by simpa using hy⟩, h2⟩)
        · have := hl y h1 hy
          exact Or.inr (Or.inl (by omega))
    · have e : ([x].filter fun x => decide (f ≤ x.t)) = [] := by simp [ht]
      rw [e]
      refine ⟨by simp, ?_, by simp⟩
      simp only [List.length_nil]
      rcases h.who x (by simp) with h1 | h1 | ⟨y, h1, h2⟩
      · have := hl x h1 ht; omega
      · omega
      · have := hl y h1 (by have := h2.le; omega); omega
  | _ :: _ :: _, h => exact absurd h.one (by simp)
/-- what a step does to what is held -/
theorem Step.heldC {s s' : St} {i : Iv} (hs : Step s i s') (hin : ∀ (a b : Nat) (x : Iv), s.hold[a]? = some (some x) → s.hold[b]? = some (some x) → a = b) :
    let B := (heldL s.hold).filter fun x => decide (i.f ≤ x.t)
    (s'.cells = s.cells ∧ (heldL s'.hold).length = B.length + 1 ∧ B.length < s.hold.length ∧ (∀ x, x ∈ heldL s'.hold ↔ x = i ∨ x ∈ B)) ∨
    (s'.cells = s.cells + 1 ∧ heldL s'.hold = B ∧ B.length = s.hold.length ∧ (∀ x, x ∈ B → endLt x i)) ∨
    (s'.cells = s.cells + 1 ∧ (heldL s'.hold).length = B.length ∧ B.length = s.hold.length ∧ ∃ z, z ∈ B ∧ endLt i z ∧ (∀ x, x ∈ B → x = z ∨ endLt x z) ∧ ∀ x, x ∈ heldL s'.hold ↔ x = i ∨ (x ∈ B ∧ x ≠ z)) := by
  intro B
  have eB : heldL (relH i.f s.hold) = B := heldL_rel _ _
  have mB : ∀ x, x ∈ B ↔ ∃ q : Nat, (relH i.f s.hold)[q]? = some (some x) := fun x => by rw [← eB]; exact mem_heldL
  have fullB : (∀ k, k < s.hold.length → ∃ x, (relH i.f s.hold)[k]? = some (some x)) → B.length = s.hold.length := fun hf => by rw [← eB, heldL_full (by rw [relH_len]; exact hf), relH_len]
  cases hs with
  | free q hq h2 =>
    refine Or.inl ⟨rfl, ?_, ?_, fun x => ?_⟩
    · rw [heldL_set hq, eB]; simp
    · rw [← eB]
      have h1 := heldL_set hq i
      have h3 : (heldL ((relH i.f s.hold).set q (some i))).length ≤ s.hold.length := by
        unfold heldL
        exact Nat.le_trans (List.length_filterMap_le _ _) (by simp [relH_len])
      simp only [if_true] at h1
      omega
    · rw [heldL_set_mem hq, mB]
      constructor
      · rintro (h | ⟨k, -, h⟩)
        · exact Or.inl h
        · exact Or.inr ⟨k, h⟩
      · rintro (h | ⟨k, h⟩)
        · exact Or.inl h
        · exact Or.inr ⟨k, (fun e => by subst e; rw [hq] at h; cases h), h⟩
  | self hf hm =>
    refine Or.inr (Or.inl ⟨rfl, eB, fullB hf, fun x hx => ?_⟩)
    obtain ⟨k, hk⟩ := (mB x).1 hx
    exact hm k x hk
  | other q z hf hx hix hm =>
    refine Or.inr (Or.inr ⟨rfl, ?_, fullB hf, z, (mB z).2 ⟨q, hx⟩, hix, fun x h9 => ?_, fun x => ?_⟩)
    · rw [heldL_set hx, eB]; simp
    · obtain ⟨k, hk⟩ := (mB x).1 h9
      rcases hm k x hk with rfl | h
      · rw [hx] at hk; cases hk; exact Or.inl rfl
      · exact Or.inr h
    · rw [heldL_set_mem hx, mB]
      constructor
      · rintro (h | ⟨k, h1, h⟩)
        · exact Or.inl h
        · exact Or.inr ⟨⟨k, h⟩, fun e => by subst e; exact h1 (hin k q x (relH_some.1 h).1 (relH_some.1 hx).1)⟩
      · rintro (h | ⟨⟨k, h⟩, h1⟩)
        · exact Or.inl h
        · exact Or.inr ⟨k, (fun e => by subst e; rw [hx] at h; cases h; exact h1 rfl), h⟩
theorem Less.step {r : Nat} (hr : 1 ≤ r) {P : List Iv} {s1 s1' sr sr' : St} {i : Iv} (h : Less s1.cells sr.cells (heldL s1.hold) (heldL sr.hold)) (h1 : Inv 1 P s1) (h2 : Inv r P sr) (hs1 : Step s1 i s1') (hsr : Step sr i sr') : Less s1'.cells sr'.cells (heldL s1'.hold) (heldL sr'.hold) := by
  have hR := h.rel i.f
  have C1 := hs1.heldC fun a b x => h1.inj
  have Cr := hsr.heldC fun a b x => h2.inj
  simp only at C1 Cr
  generalize (heldL s1.hold).filter (fun x => decide (i.f ≤ x.t)) = A at *
  generalize (heldL sr.hold).filter (fun x => decide (i.f ≤ x.t)) = B at *
  rw [h1.len] at C1
  rw [h2.len] at Cr
  have hcn := hR.cnt
  have mem1 : ∀ {l : List Iv} {x : Iv}, l.length = 1 → x ∈ l → ∀ y, y ∈ l ↔ y = x := fun {l x} hl hx y => by
    match l, hl with
    | [a], _ =>
      have : x = a := by simpa using hx
      subst this
      simp
  rcases C1 with ⟨e1, l1, b1, m1⟩ | ⟨e1, l1, b1, m1⟩ | ⟨e1, l1, b1, z1, hz1, iz1, mx1, m1⟩
  · have hA : A = [] := List.eq_nil_of_length_eq_zero (by omega)
    subst hA
    simp only [List.length_nil] at *
    have hm : ∀ x, x ∈ heldL s1'.hold → x = i := fun x hx => by rcases (m1 x).1 hx with h | h; exact h; cases h
    rcases Cr with ⟨e, l, b, m⟩ | ⟨e, l, b, m⟩ | ⟨e, l, b, z, hz, iz, mx, m⟩
    · exact ⟨by omega, by omega, fun x hx => by rw [hm x hx]; exact Or.inl ((m i).2 (Or.inl rfl))⟩
    · refine ⟨by omega, by rw [l]; omega, fun x hx => ?_⟩
      rw [hm x hx, l]
      have : ∃ y, y ∈ B := by
        cases B with
        | nil => simp at b; omega
        | cons y B => exact ⟨y, by simp⟩
      obtain ⟨y, hy⟩ := this
      exact Or.inr (Or.inr ⟨y, hy, m y hy⟩)
    · exact ⟨by omega, by omega, fun x hx => by rw [hm x hx]; exact Or.inl ((m i).2 (Or.inl rfl))⟩
  · refine ⟨by rw [l1]; omega, ?_, fun x hx => ?_⟩
    · rw [l1]
      rcases Cr with ⟨e, l, b, m⟩ | ⟨e, l, b, m⟩ | ⟨e, l, b, z, hz, iz, mx, m⟩
      · omega
      · rw [l]; omega
      · omega
    · rw [l1] at hx
      have hxi := m1 x hx
      rcases Cr with ⟨e, l, b, m⟩ | ⟨e, l, b, m⟩ | ⟨e, l, b, z, hz, iz, mx, m⟩
      · rcases hR.who x hx with h9 | h9 | ⟨y, h9, h8⟩
        · exact Or.inl ((m x).2 (Or.inr h9))
        · exact Or.inr (Or.inl (by omega))
        · exact Or.inr (Or.inr ⟨y, (m y).2 (Or.inr h9), h8⟩)
      · rw [l]
        rcases hR.who x hx with h9 | h9 | ⟨y, h9, h8⟩
        · exact Or.inl h9
        · exact Or.inr (Or.inl (by omega))
        · exact Or.inr (Or.inr ⟨y, h9, h8⟩)
      · rcases hR.who x hx with h9 | h9 | ⟨y, h9, h8⟩
        · exact Or.inl ((m x).2 (Or.inr ⟨h9, fun e => by subst e; exact hxi.not iz⟩))
        · exact Or.inr (Or.inl (by omega))
        · exact Or.inr (Or.inr ⟨y, (m y).2 (Or.inr ⟨h9, fun e => by subst e; exact (h8.trans hxi).not iz⟩), h8⟩)
  · have hm : ∀ x, x ∈ heldL s1'.hold → x = i := fun x hx => by
      rcases (m1 x).1 hx with h | ⟨h, hne⟩
      · exact h
      · exact absurd ((mem1 b1 hz1 x).1 h) hne
    rcases Cr with ⟨e, l, b, m⟩ | ⟨e, l, b, m⟩ | ⟨e, l, b, z, hz, iz, mx, m⟩
    · exact ⟨by omega, by omega, fun x hx => by rw [hm x hx]; exact Or.inl ((m i).2 (Or.inl rfl))⟩
    · refine ⟨by omega, by rw [l]; omega, fun x hx => ?_⟩
      rw [hm x hx, l]
      have : ∃ y, y ∈ B := by
        cases B with
        | nil => simp at b; omega
        | cons y B => exact ⟨y, by simp⟩
      obtain ⟨y, hy⟩ := this
      exact Or.inr (Or.inr ⟨y, hy, m y hy⟩)
    · exact ⟨by omega, by omega, fun x hx => by rw [hm x hx]; exact Or.inl ((m i).2 (Or.inl rfl))⟩
theorem heldL_start (r : Nat) : heldL (startS r).hold = [] := by
  have : ∀ x, x ∉ heldL (startS r).hold := fun x hx => by
    obtain ⟨q, hq⟩ := mem_heldL.1 hx
    exact absurd ((inv_start r).held q x hq).1 (by simp)
  exact List.eq_nil_iff_forall_not_mem.2 this
theorem Run.lessI {r : Nat} (hr : 1 ≤ r) {P : List Iv} {s1 : St} (h1 : Run 1 P s1) : GoodP P → ∀ {sr : St}, Run r P sr → Less s1.cells sr.cells (heldL s1.hold) (heldL sr.hold) := by
  have key : ∀ {P1 : List Iv} {sr : St}, Run r P1 sr → P1 = P → GoodP P → Less s1.cells sr.cells (heldL s1.hold) (heldL sr.hold) := by
    induction h1 with
    | nil => intro P1 sr h2 e _; cases h2 with
      | nil => rw [heldL_start, heldL_start]; exact ⟨by simp, by simp [startS], by simp⟩
      | snoc h hs => simp at e
    | snoc h hs ih => intro P1 sr h2 e hg; cases h2 with
      | nil => simp at e
      | snoc h' hs' =>
        have e1 := List.append_inj_left' e rfl
        have e2 := List.append_inj_right' e rfl
        cases e2
        subst e1
        exact (ih h' rfl hg.init).step hr (h.inv hg.init) (h'.inv hg.init) hs hs'
  exact fun hg {_} h2 => key h2 rfl hg
/-- with more registers there are no more cells than with one -/
theorem Run.less {r : Nat} (hr : 1 ≤ r) {P : List Iv} {s1 sr : St} (h1 : Run 1 P s1) (h2 : Run r P sr) (hg : GoodP P) : sr.cells ≤ s1.cells := by
  have h := h1.lessI hr hg h2
  have hc := h.cnt
  have h1 := h.one
  by_cases e : (heldL s1.hold).length = 0
  · omega
  · obtain ⟨x, hx⟩ : ∃ x, x ∈ heldL s1.hold := by
      cases hh : heldL s1.hold with
      | nil => rw [hh] at e; simp at e
      | cons a l => exact ⟨a, by simp⟩
    rcases h.who x hx with h9 | h9 | ⟨y, h9, -⟩
    · have := List.length_pos_of_mem h9; omega
    · omega
    · have := List.length_pos_of_mem h9; omega

/-- intervals that all begin together -/
def fstL (k : Nat) : List Iv := (List.range k).map fun i : Nat => ⟨(i : Int), 0, 5⟩
theorem fstL_succ (k : Nat) : fstL (k + 1) = fstL k ++ [⟨(k : Int), 0, 5⟩] := by unfold fstL; rw [List.range_succ]; simp
theorem fstL_good (k : Nat) : GoodP (fstL k) := by
  unfold fstL
  refine ⟨List.pairwise_map.2 (List.pairwise_lt_range.imp fun {a b} h => Or.inr ⟨rfl, ?_⟩), List.pairwise_map.2 (List.pairwise_lt_range.imp fun {a b} h => ?_)⟩
  · show (a : Int) ≠ (b : Int); omega
  · show (a : Int) < (b : Int); omega
structure Fst (r k : Nat) (s : St) : Prop where
  len : s.hold.length = r
  hold : ∀ q, q < r → s.hold[q]? = some (if q < k then some ⟨(q : Int), 0, 5⟩ else none)
  out : ∀ j : Nat, j < k → s.out j = if j < r then (0, j) else (3, j - r)
  cells : s.cells = k - r
theorem Run.fst {r : Nat} : ∀ {k : Nat} {s : St}, Run r (fstL k) s → Fst r k s := by
  intro k
  induction k with
  | zero =>
    intro s h
    have : s = startS r := (Run.det h Run.nil)
    subst this
    refine ⟨by simp [startS], fun q hq => ?_, by omega, by simp [startS]⟩
    simp [startS, hq]
  | succ k ih =>
    intro s h
    rw [fstL_succ] at h
    have hx : ∃ s0, Run r (fstL k) s0 ∧ Step s0 ⟨(k : Int), 0, 5⟩ s := by
      generalize e : fstL k ++ [⟨(k : Int), 0, 5⟩] = P at h
      cases h with
      | nil => simp at e
      | snoc h hs =>
        have e1 := List.append_inj_left' e rfl
        have e2 := List.append_inj_right' e rfl
        cases e2
        subst e1
        exact ⟨_, h, hs⟩
    obtain ⟨s0, h0, hs⟩ := hx
    have F := ih h0
    have hrel : ∀ q, q < r → (relH 0 s0.hold)[q]? = some (if q < k then some ⟨(q : Int), 0, 5⟩ else none) := fun q hq => by
      unfold relH
      rw [List.getElem?_map, F.hold q hq]
      by_cases hk : q < k <;> simp [hk]
    have ou : ∀ (j : Nat) (p : Nat × Nat), j < k → updO s0.out (k : Int) p (j : Int) = s0.out j := fun j p hj => updO_other _ _ _ (by omega)
    have lenq : ∀ {q : Nat} {o : Option Iv}, (relH 0 s0.hold)[q]? = some o → q < r := fun h9 => by
      have := (List.getElem?_eq_some_iff.1 h9).1
      rwa [relH_len, F.len] at this
    cases hs with
    | free q hq h2 =>
      have hq : (relH 0 s0.hold)[q]? = some none := hq
      have hqr := lenq hq
      have hqk : ¬ q < k := fun hk => by rw [hrel q hqr, if_pos hk] at hq; cases hq
      have hkq : ¬ k < q := fun hk => by
        obtain ⟨x, hx⟩ := h2 k hk
        have hx : (relH 0 s0.hold)[k]? = some (some x) := hx
        rw [hrel k (by omega), if_neg (by omega)] at hx
        cases hx
      have : q = k := by omega
      subst this
      refine ⟨by simp [relH_len, F.len], fun j hj => ?_, fun j hj => ?_, by show s0.cells = _; rw [F.cells]; omega⟩
      · show ((relH 0 s0.hold).set q _)[j]? = _
        by_cases e : j = q
        · subst e; rw [List.getElem?_set_self (by rw [relH_len, F.len]; exact hj), if_pos (by omega)]
        · rw [List.getElem?_set_ne (fun e' => e e'.symm), hrel j hj]
          by_cases h3 : j < q
          · rw [if_pos h3, if_pos (by omega)]
          · rw [if_neg h3, if_neg (by omega)]
      · show updO s0.out (q : Int) (0, q) (j : Int) = _
        by_cases e : j = q
        · subst e; rw [updO_same, if_pos hqr]
        · rw [ou j _ (by omega), F.out j (by omega)]
    | self hf hm =>
      have hrk : r ≤ k := by
        by_cases hc : r ≤ k
        · exact hc
        · obtain ⟨x, hx⟩ := hf k (by rw [F.len]; omega)
          have hx : (relH 0 s0.hold)[k]? = some (some x) := hx
          rw [hrel k (by omega), if_neg (by omega)] at hx
          cases hx
      refine ⟨by simp [relH_len, F.len], fun j hj => ?_, fun j hj => ?_, by show s0.cells + 1 = _; rw [F.cells]; omega⟩
      · show (relH 0 s0.hold)[j]? = _
        rw [hrel j hj, if_pos (by omega), if_pos (by omega)]
      · show updO s0.out (k : Int) (3, s0.cells) (j : Int) = _
        by_cases e : j = k
        · subst e; rw [updO_same, if_neg (by omega), F.cells]
        · rw [ou j _ (by omega), F.out j (by omega)]
    | other q x hf hx hix hm =>
      have hx : (relH 0 s0.hold)[q]? = some (some x) := hx
      have hqr := lenq hx
      rw [hrel q hqr] at hx
      by_cases hk : q < k
      · rw [if_pos hk] at hx
        cases hx
        unfold endLt at hix
        simp at hix
        omega
      · rw [if_neg hk] at hx; cases hx
end Go.Proofs.Ytomcfjckhajhmaa
