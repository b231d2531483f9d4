/- verify: what instructions take and leave, the ways through a method, and what Depths answers: plain. What instructions take and leave: the document's and the program's. Which operands may be, the document's; is a number in a list? Where an instruction goes on, the document's; is a number in a list? The ways through a method, found by a list of places that wait: plain. What follows of the ways through a method: more room on the stack, a cut behind an instruction that goes on, each step of a way: plain. -/
import Derived.Test.YtomcfjckhajhmabGreatDoorMCodeA
namespace Go.Proofs.YtomcfjckhajhmabGreatDoor

def Ins.need (i : Ins) : Int :=
  if i.op = 2 ∨ i.op = 5 ∨ i.op = 10 ∨ i.op = 21 ∨ i.op = 15 ∨ i.op = 16 ∨ i.op = 9 ∨ i.op = 17 ∨ i.op = 22 ∨ i.op = 23 then 1 else if i.op = 11 ∨ i.op = 12 then i.b + 1 else if i.op = 13 then 2 else 0
def Ins.leave (i : Ins) : Int :=
  if i.op = 2 ∨ i.op = 5 ∨ i.op = 10 ∨ i.op = 21 ∨ i.op = 15 ∨ i.op = 16 ∨ i.op = 14 ∨ i.op = 17 ∨ i.op = 22 ∨ i.op = 23 ∨ i.op = 18 then 0 else if i.op = 9 then 2 else 1
def Ins.ends (i : Ins) : Bool := decide (i.op = 17 ∨ i.op = 22 ∨ i.op = 23 ∨ i.op = 18)
def Ins.jumps (i : Ins) : Bool := decide (i.op = 14 ∨ i.op = 15 ∨ i.op = 16)
def Ins.goesOn (i : Ins) : Bool := !(i.ends || decide (i.op = 14))
theorem Ins.need_nn (i : Ins) (h : i.ok = true) : 0 ≤ i.need ∧ 0 ≤ i.leave ∧ i.leave ≤ 2 ∧ i.need ≤ 4096 := by
  rw [Ins.ok_iff] at h
  unfold Ins.need Ins.leave
  refine ⟨?_, ?_, ?_, ?_⟩ <;> (repeat' split) <;> omega
/-- may A and B be? -/
def Mth.opOk (m : Mth) (i : Ins) : Bool :=
  if i.op = 1 ∨ i.op = 2 then decide (i.a < m.temps)
  else if i.op = 3 ∨ i.op = 19 then decide (i.a < m.lits.length)
  else if i.op = 11 ∨ i.op = 12 then decide (i.a < m.lits.length) && decide (i.b ≤ 4)
  else if i.op = 13 then decide (i.a ≤ 7)
  else if i.op = 14 ∨ i.op = 15 ∨ i.op = 16 then decide (i.a < m.code.length)
  else true
/-- may this depth be at this instruction? -/
def Mth.fine (m : Mth) (i : Ins) (d : Nat) : Bool := decide (i.need ≤ d ∧ (d : Int) - i.need + i.leave ≤ m.stack)
def Ins.after (i : Ins) (d : Nat) : Nat := ((d : Int) - i.need + i.leave).toNat
/-- a way comes to pc with d words -/
inductive Way (m : Mth) : Nat → Nat → Prop
  | start : Way m 0 0
  | jump {pc d : Nat} {i : Ins} : Way m pc d → m.code[pc]? = some i → m.fine i d = true → i.jumps = true → Way m i.a.toNat (i.after d)
  | next {pc d : Nat} {i : Ins} : Way m pc d → m.code[pc]? = some i → m.fine i d = true → i.goesOn = true → pc + 1 < m.code.length → Way m (pc + 1) (i.after d)
theorem Way.lt {m : Mth} (hok : m.ok = true) (hop : ∀ i ∈ m.code, m.opOk i = true) {pc d : Nat} (h : Way m pc d) : pc < m.code.length ∧ (d : Int) ≤ m.stack := by
  obtain ⟨hh, hc⟩ := m.ok_iff.1 hok
  have hd := m.head_iff.1 hh
  induction h with
  | start => omega
  | @jump pc d i _ hi hf hj ih =>
    have hm := List.mem_of_getElem? hi
    have ho := hop i hm
    have h1 := hc i hm
    rw [Ins.ok_iff] at h1
    unfold Ins.jumps at hj
    simp only [decide_eq_true_eq] at hj
    unfold Mth.opOk at ho
    rw [if_neg (by omega), if_neg (by omega), if_neg (by omega), if_neg (by omega), if_pos hj] at ho
    unfold Mth.fine at hf
    simp only [decide_eq_true_eq] at ho hf
    unfold Ins.after
    omega
  | @next pc d i _ hi hf hg hl ih =>
    unfold Mth.fine at hf
    simp only [decide_eq_true_eq] at hf
    unfold Ins.after
    omega
/-- is something wrong at instruction k? -/
def Mth.bad (m : Mth) (k : Nat) : Prop := (∃ d e, Way m k d ∧ Way m k e ∧ d ≠ e) ∨ (∃ d i, Way m k d ∧ m.code[k]? = some i ∧ (m.fine i d = false ∨ (i.goesOn = true ∧ k + 1 = m.code.length)))
open Classical in
noncomputable def Mth.depthAt (m : Mth) (k : Nat) : Int := if h : ∃ d, Way m k d then ((Classical.choose h : Nat) : Int) else -1
theorem Mth.depthAt_way {m : Mth} {k d : Nat} (hb : ¬ m.bad k) (h : Way m k d) : m.depthAt k = d := by
  unfold Mth.depthAt
  have hx : ∃ d, Way m k d := ⟨d, h⟩
  rw [dif_pos hx]
  have := Classical.choose_spec hx
  by_cases e : Classical.choose hx = d
  · rw [e]
  · exact absurd (.inl ⟨_, _, this, h, e⟩) hb
theorem Mth.depthAt_none {m : Mth} {k : Nat} (h : ¬ ∃ d, Way m k d) : m.depthAt k = -1 := by unfold Mth.depthAt; rw [dif_neg h]
/-- what Depths answers: the depths, the place, the error -/
inductive DepthsTo (m : Mth) : List Int → Int → Int → Prop
  | no : m.ok = false → DepthsTo m [] (-1) 4
  | operand {k : Nat} {i : Ins} : m.ok = true → m.code[k]? = some i → m.opOk i = false → (∀ j, j < k → ∀ i, m.code[j]? = some i → m.opOk i = true) → DepthsTo m [] k 4
  | bad {k : Nat} : m.ok = true → (∀ i ∈ m.code, m.opOk i = true) → k < m.code.length → m.bad k → (∀ j, j < k → ¬ m.bad j) → DepthsTo m [] k 4
  | good : m.ok = true → (∀ i ∈ m.code, m.opOk i = true) → (∀ j, j < m.code.length → ¬ m.bad j) → DepthsTo m ((List.range m.code.length).map m.depthAt) (-1) 0
theorem DepthsTo.one {m : Mth} {l l' : List Int} {p p' e e' : Int} (h : DepthsTo m l p e) (h' : DepthsTo m l' p' e') : l = l' ∧ p = p' ∧ e = e' := by
  cases h with
  | no h0 =>
    cases h' with
    | no => exact ⟨rfl, rfl, rfl⟩
    | operand h1 => rw [h0] at h1; cases h1
    | bad h1 => rw [h0] at h1; cases h1
    | good h1 => rw [h0] at h1; cases h1
  | @operand k i h0 hi ho hl =>
    cases h' with
    | no h1 => rw [h0] at h1; cases h1
    | @operand k' i' h1 hi' ho' hl' =>
      have : k = k' := by
        rcases Nat.lt_trichotomy k k' with h | h | h
        · have := hl' k h i hi; rw [ho] at this; cases this
        · exact h
        · have := hl k' h i' hi'; rw [ho'] at this; cases this
      subst this
      exact ⟨rfl, rfl, rfl⟩
    | bad h1 h2 => have := h2 i (List.mem_of_getElem? hi); rw [ho] at this; cases this
    | good h1 h2 => have := h2 i (List.mem_of_getElem? hi); rw [ho] at this; cases this
  | @bad k h0 h1 hk hb hl =>
    cases h' with
    | no h1 => rw [h0] at h1; cases h1
    | @operand k' i' h1' hi' ho' hl' => have := h1 i' (List.mem_of_getElem? hi'); rw [ho'] at this; cases this
    | @bad k' h0' h1' hk' hb' hl' =>
      have : k = k' := by
        rcases Nat.lt_trichotomy k k' with h | h | h
        · exact absurd hb (hl' k h)
        · exact h
        · exact absurd hb' (hl k' h)
      subst this
      exact ⟨rfl, rfl, rfl⟩
    | good h2 h3 h4 => exact absurd hb (h4 k hk)
  | good h0 h1 h2 =>
    cases h' with
    | no h1 => rw [h0] at h1; cases h1
    | @operand k' i' h1' hi' ho' hl' => have := h1 i' (List.mem_of_getElem? hi'); rw [ho'] at this; cases this
    | bad h3 h4 hk hb => exact absurd hb (h2 _ hk)
    | good => exact ⟨rfl, rfl, rfl⟩
end Go.Proofs.YtomcfjckhajhmabGreatDoor
namespace Go.Proofs.YtomcfjckhajhmabGreatDoor
open Go.RowKit

theorem op_cases {n : Int} (h1 : 1 ≤ n) (h2 : n ≤ 23) : n = 1 ∨ n = 2 ∨ n = 3 ∨ n = 4 ∨ n = 5 ∨ n = 6 ∨ n = 7 ∨ n = 8 ∨ n = 9 ∨ n = 10 ∨ n = 11 ∨ n = 12 ∨ n = 13 ∨ n = 14 ∨ n = 15 ∨ n = 16 ∨ n = 17 ∨ n = 18 ∨ n = 19 ∨ n = 20 ∨ n = 21 ∨ n = 22 ∨ n = 23 := by omega
set_option maxRecDepth 100000 in
set_option maxHeartbeats 3200000 in
theorem effect_at (i : Ins) (h : i.ok = true) (w : World) : Calls Tryz.prog 105 #[i.v] w (Still (.tuple #[.int .i64 i.need, .int .i64 i.leave]) w) := by
  rw [Ins.ok_iff] at h
  obtain ⟨op, a, b⟩ := i
  unfold Ins.v
  simp only at h ⊢
  have e6 : IntKind.i64.wrap (b + 1) = b + 1 := by rw [IntKind.wrap_i64]; omega
  have hop := op_cases (n := op) (by omega) (by omega)
  clear h
  rcases hop with rfl | rfl | rfl | rfl | rfl | rfl | rfl | rfl | rfl | rfl | rfl | rfl | rfl | rfl | rfl | rfl | rfl | rfl | rfl | rfl | rfl | rfl | rfl
  all_goals
    go_enter Tryz.func105, Tryz.ntmps105
    go_wp2_with fail
    go_ret2
    exact ⟨rfl, (Fr.refl _ _).alloc _⟩
set_option maxRecDepth 100000 in
set_option maxHeartbeats 3200000 in
theorem jumps_at (i : Ins) (h : i.ok = true) (w : World) : Calls Tryz.prog 104 #[i.v] w (Still (.bool i.jumps) w) := by
  rw [Ins.ok_iff] at h
  obtain ⟨op, a, b⟩ := i
  unfold Ins.v
  simp only at h ⊢
  have hop := op_cases (n := op) (by omega) (by omega)
  clear h
  rcases hop with rfl | rfl | rfl | rfl | rfl | rfl | rfl | rfl | rfl | rfl | rfl | rfl | rfl | rfl | rfl | rfl | rfl | rfl | rfl | rfl | rfl | rfl | rfl
  all_goals
    go_enter Tryz.func104, Tryz.ntmps104
    go_wp2_with fail
    go_ret
    exact ⟨rfl, (Fr.refl _ _).alloc _⟩
set_option maxRecDepth 100000 in
set_option maxHeartbeats 3200000 in
theorem goesOn_at (i : Ins) (h : i.ok = true) (w : World) : Calls Tryz.prog 82 #[i.v] w (Still (.bool i.goesOn) w) := by
  rw [Ins.ok_iff] at h
  obtain ⟨op, a, b⟩ := i
  unfold Ins.v
  simp only at h ⊢
  have hop := op_cases (n := op) (by omega) (by omega)
  clear h
  rcases hop with rfl | rfl | rfl | rfl | rfl | rfl | rfl | rfl | rfl | rfl | rfl | rfl | rfl | rfl | rfl | rfl | rfl | rfl | rfl | rfl | rfl | rfl | rfl
  all_goals
    go_enter Tryz.func82, Tryz.ntmps82
    go_wp2_with fail
    go_ret
    exact ⟨rfl, (Fr.refl _ _).alloc _⟩
end Go.Proofs.YtomcfjckhajhmabGreatDoor
namespace Go.Proofs.YtomcfjckhajhmabGreatDoor
open Go.RowKit

end Go.Proofs.YtomcfjckhajhmabGreatDoor
namespace Go.Proofs.YtomcfjckhajhmabGreatDoor
open Go.RowKit

/-- where an instruction goes on -/
def Ins.next (i : Ins) (pc : Nat) : List Int := if i.ends = true then [] else if i.op = 14 then [i.a] else if i.op = 15 ∨ i.op = 16 then [i.a, (pc : Int) + 1] else [(pc : Int) + 1]
/-- a new row of numbers -/
def NewInts (xs : List Int) (w : World) (e : Ending) (w' : World) : Prop := ∃ la lc, e = .returned (.slice la xs.length lc) ∧ RowAt w' la (xs.map (Value.int .i64)) ∧ Fr [] w w' ∧ ∀ a, la = some a → w.heap.size ≤ a.block
theorem newInts {w W : World} {xs : List Int} {g lc : Nat} (hg : W.heap[g]? = some (.cells (xs.map (Value.int .i64)).toArray 3 (0, 0))) (hF : Fr [] w W) (hn : w.heap.size ≤ g) : NewInts xs w (.returned (.slice (some ⟨g, 0, none⟩) xs.length lc)) W :=
  ⟨_, _, rfl, fun j u hu => ⟨g, 0, rfl, by rw [Nat.zero_add]; exact cell_of_heap hg (by simpa using hu)⟩, hF, fun a ha => by cases ha; exact hn⟩
end Go.Proofs.YtomcfjckhajhmabGreatDoor
namespace Go.Proofs.YtomcfjckhajhmabGreatDoor

/-- where a place leads -/
def Mth.succ (m : Mth) (i : Ins) (pc d : Nat) : List (Nat × Nat) := (if i.jumps = true then [(i.a.toNat, i.after d)] else []) ++ (if i.goesOn = true ∧ pc + 1 < m.code.length then [(pc + 1, i.after d)] else [])
/-- a place's depths and one more -/
def addAt (A : Nat → List Nat) (pc d : Nat) : Nat → List Nat := fun k => if k = pc then A pc ++ [d] else A k
theorem mem_addAt {A : Nat → List Nat} {pc d k e : Nat} : e ∈ addAt A pc d k ↔ e ∈ A k ∨ (k = pc ∧ e = d) := by
  unfold addAt
  by_cases h : k = pc
  · subst h
    simp
  · simp [h]
theorem Way.succ {m : Mth} {pc d : Nat} {i : Ins} (h : Way m pc d) (hi : m.code[pc]? = some i) (hf : m.fine i d = true) {q : Nat × Nat} (hq : q ∈ m.succ i pc d) : Way m q.1 q.2 := by
  unfold Mth.succ at hq
  rcases List.mem_append.1 hq with hq | hq
  · split at hq
    · next hj => simp at hq; subst hq; exact .jump h hi hf hj
    · cases hq
  · split at hq
    · next hg => simp at hq; subst hq; exact .next h hi hf hg.1 hg.2
    · cases hq
/-- marked places, and places that wait to be marked (the document's list) -/
structure Flow (m : Mth) (A : Nat → List Nat) (T : List (Nat × Nat)) : Prop where
  sound : ∀ pc d, d ∈ A pc → Way m pc d
  pend : ∀ p ∈ T, Way m p.1 p.2
  start : 0 ∈ A 0 ∨ (0, 0) ∈ T
  closed : ∀ pc d i, d ∈ A pc → m.code[pc]? = some i → m.fine i d = true → ∀ q ∈ m.succ i pc d, q.2 ∈ A q.1 ∨ q ∈ T
  nodup : ∀ pc, (A pc).Nodup
theorem Flow.begin (m : Mth) : Flow m (fun _ => []) [(0, 0)] :=
  ⟨fun _ _ h => (by cases h), fun p hp => by simp at hp; subst hp; exact .start, .inr (by simp), fun _ _ _ h => (by cases h), fun _ => List.nodup_nil⟩
theorem Flow.done {m : Mth} {A : Nat → List Nat} (h : Flow m A []) {pc d : Nat} : d ∈ A pc ↔ Way m pc d := by
  refine ⟨h.sound pc d, fun hw => ?_⟩
  induction hw with
  | start => rcases h.start with h | h
             · exact h
             · cases h
  | @jump pc d i _ hi hf hj ih =>
    rcases h.closed pc d i ih hi hf (i.a.toNat, i.after d) (by unfold Mth.succ; rw [if_pos hj]; simp) with h | h
    · exact h
    · cases h
  | @next pc d i _ hi hf hg hl ih =>
    rcases h.closed pc d i ih hi hf (pc + 1, i.after d) (List.mem_append_right _ (by rw [if_pos ⟨hg, hl⟩]; simp)) with h | h
    · exact h
    · cases h
theorem Flow.skip {m : Mth} {A : Nat → List Nat} {T : List (Nat × Nat)} {pc d : Nat} (h : Flow m A ((pc, d) :: T)) (hd : d ∈ A pc) : Flow m A T := by
  refine ⟨h.sound, fun p hp => h.pend p (List.mem_cons_of_mem _ hp), ?_, fun pc' d' i h1 h2 h3 q hq => ?_, h.nodup⟩
  · rcases h.start with h | h
    · exact .inl h
    · rcases List.mem_cons.1 h with e | h
      · cases e; exact .inl hd
      · exact .inr h
  · rcases h.closed pc' d' i h1 h2 h3 q hq with h | h
    · exact .inl h
    · rcases List.mem_cons.1 h with e | h
      · subst e; exact .inl hd
      · exact .inr h
theorem Flow.take {m : Mth} {A : Nat → List Nat} {T : List (Nat × Nat)} {pc d : Nat} {i : Ins} (h : Flow m A ((pc, d) :: T)) (hd : d ∉ A pc) (hi : m.code[pc]? = some i) : Flow m (addAt A pc d) (T ++ if m.fine i d = true then m.succ i pc d else []) := by
  have hw : Way m pc d := h.pend (pc, d) (by simp)
  refine ⟨fun k e he => ?_, fun p hp => ?_, ?_, fun k e i' h1 h2 h3 q hq => ?_, fun k => ?_⟩
  · rcases mem_addAt.1 he with he | ⟨rfl, rfl⟩
    · exact h.sound k e he
    · exact hw
  · rcases List.mem_append.1 hp with hp | hp
    · exact h.pend p (List.mem_cons_of_mem _ hp)
    · split at hp
      · next hf => exact hw.succ hi hf hp
      · cases hp
  · rcases h.start with h | h
    · exact .inl (mem_addAt.2 (.inl h))
    · rcases List.mem_cons.1 h with e | h
      · cases e; exact .inl (mem_addAt.2 (.inr ⟨rfl, rfl⟩))
      · exact .inr (List.mem_append_left _ h)
  · rcases mem_addAt.1 h1 with h1 | ⟨rfl, rfl⟩
    · rcases h.closed k e i' h1 h2 h3 q hq with h | h
      · exact .inl (mem_addAt.2 (.inl h))
      · rcases List.mem_cons.1 h with e | h
        · subst e; exact .inl (mem_addAt.2 (.inr ⟨rfl, rfl⟩))
        · exact .inr (List.mem_append_left _ h)
    · rw [hi] at h2
      cases h2
      exact .inr (List.mem_append_right _ (by rw [if_pos h3]; exact hq))
  · unfold addAt
    split
    · exact List.nodup_append.2 ⟨h.nodup pc, by simp, fun a ha b hb => by simp at hb; subst hb; intro e; subst e; exact hd ha⟩
    · exact h.nodup k
theorem nodup_bound : ∀ (n : Nat) (l : List Nat), l.Nodup → (∀ x ∈ l, x < n) → l.length ≤ n
  | 0, l, _, h => by
    cases l with
    | nil => exact Nat.le_refl _
    | cons a l => exact absurd (h a (by simp)) (Nat.not_lt_zero _)
  | n + 1, l, hd, h => by
    by_cases hm : n ∈ l
    · have := nodup_bound n (l.erase n) (hd.erase n) (fun x hx => by
        have h1 := (hd.mem_erase_iff).1 hx
        have h2 := h x h1.2
        have h3 := h1.1
        omega)
      rw [List.length_erase_of_mem hm] at this
      omega
    · have := nodup_bound n l hd (fun x hx => by
        have h2 := h x hx
        have h3 : x ≠ n := fun e => hm (e ▸ hx)
        omega)
      omega
/-- how many places may still be marked -/
def roomOf (s : Nat) (A : Nat → List Nat) : Nat → Nat
  | 0 => 0
  | n + 1 => roomOf s A n + (s + 1 - (A n).length)
theorem roomOf_same {s : Nat} {A : Nat → List Nat} {pc d : Nat} : ∀ n, n ≤ pc → roomOf s (addAt A pc d) n = roomOf s A n
  | 0, _ => rfl
  | n + 1, h => by
    unfold roomOf
    rw [roomOf_same n (by omega)]
    unfold addAt
    rw [if_neg (by omega)]
theorem roomOf_less {s : Nat} {A : Nat → List Nat} {pc d : Nat} (hl : (A pc).length ≤ s) : ∀ n, pc < n → roomOf s (addAt A pc d) n + 1 = roomOf s A n
  | 0, h => absurd h (Nat.not_lt_zero _)
  | n + 1, h => by
    unfold roomOf
    by_cases e : n = pc
    · subst e
      rw [roomOf_same n (Nat.le_refl _)]
      have : (addAt A n d n).length = (A n).length + 1 := by unfold addAt; rw [if_pos rfl]; simp
      omega
    · have h1 := roomOf_less (d := d) hl n (by omega)
      have h2 : addAt A pc d n = A n := by unfold addAt; rw [if_neg e]
      rw [h2]
      omega
/-- each place that is taken leaves less room -/
theorem Flow.less {m : Mth} {A : Nat → List Nat} {T : List (Nat × Nat)} {pc d : Nat} (hok : m.ok = true) (hop : ∀ i ∈ m.code, m.opOk i = true) (h : Flow m A ((pc, d) :: T)) (hd : d ∉ A pc) : roomOf m.stack.toNat (addAt A pc d) m.code.length + 1 = roomOf m.stack.toNat A m.code.length := by
  have hw := (h.pend (pc, d) (by simp)).lt hok hop
  refine roomOf_less ?_ _ hw.1
  have hb := nodup_bound (m.stack.toNat + 1) (d :: A pc) (List.nodup_cons.2 ⟨hd, h.nodup pc⟩) (fun x hx => by
    rcases List.mem_cons.1 hx with rfl | hx
    · have := hw.2; omega
    · have := ((h.sound pc x hx).lt hok hop).2; omega)
  simp at hb
  omega
theorem Mth.succ_len (m : Mth) (i : Ins) (pc d : Nat) : (m.succ i pc d).length ≤ 2 := by
  unfold Mth.succ
  rw [List.length_append]
  split <;> split <;> simp
/-- marked places, and marked places that wait to be left (the program's list) -/
structure Reached (m : Mth) (A : Nat → Nat → Prop) (T : List (Nat × Nat)) : Prop where
  sound : ∀ pc d, A pc d → Way m pc d
  pend : ∀ p ∈ T, A p.1 p.2
  start : A 0 0
  closed : ∀ pc d i, A pc d → m.code[pc]? = some i → m.fine i d = true → (pc, d) ∈ T ∨ ∀ q ∈ m.succ i pc d, A q.1 q.2
theorem Reached.done {m : Mth} {A : Nat → Nat → Prop} (h : Reached m A []) {pc d : Nat} : A pc d ↔ Way m pc d := by
  refine ⟨h.sound pc d, fun hw => ?_⟩
  induction hw with
  | start => exact h.start
  | @jump pc d i _ hi hf hj ih =>
    rcases h.closed pc d i ih hi hf with h | h
    · cases h
    · exact h (i.a.toNat, i.after d) (by unfold Mth.succ; rw [if_pos hj]; simp)
  | @next pc d i _ hi hf hg hl ih =>
    rcases h.closed pc d i ih hi hf with h | h
    · cases h
    · exact h (pc + 1, i.after d) (List.mem_append_right _ (by rw [if_pos ⟨hg, hl⟩]; simp))
/-- a place is left: what it leads to is marked, and waits where it was not marked before -/
theorem Reached.leave {m : Mth} {A A' : Nat → Nat → Prop} {T T' : List (Nat × Nat)} {pc d : Nat} {i : Ins} (h : Reached m A (T ++ [(pc, d)])) (hi : m.code[pc]? = some i)
    (hA : ∀ k e, A' k e ↔ A k e ∨ (m.fine i d = true ∧ (k, e) ∈ m.succ i pc d)) (hT : ∀ q, q ∈ T' ↔ q ∈ T ∨ (m.fine i d = true ∧ q ∈ m.succ i pc d ∧ ¬ A q.1 q.2)) : Reached m A' T' := by
  have hw : Way m pc d := h.sound pc d (h.pend (pc, d) (by simp))
  refine ⟨fun k e he => ?_, fun p hp => ?_, (hA 0 0).2 (.inl h.start), fun k e i' h1 h2 h3 => ?_⟩
  · rcases (hA k e).1 he with he | ⟨hf, hq⟩
    · exact h.sound k e he
    · exact hw.succ hi hf hq
  · rcases (hT p).1 hp with hp | ⟨hf, hq, -⟩
    · exact (hA _ _).2 (.inl (h.pend p (List.mem_append_left _ hp)))
    · exact (hA _ _).2 (.inr ⟨hf, hq⟩)
  · by_cases hk : A k e
    · rcases h.closed k e i' hk h2 h3 with hm | hm
      · rcases List.mem_append.1 hm with hm | hm
        · exact .inl ((hT _).2 (.inl hm))
        · simp at hm
          obtain ⟨rfl, rfl⟩ := hm
          rw [hi] at h2
          cases h2
          exact .inr fun q hq => (hA _ _).2 (.inr ⟨h3, hq⟩)
      · exact .inr fun q hq => (hA _ _).2 (.inl (hm q hq))
    · rcases (hA k e).1 h1 with h1 | ⟨hf, hq⟩
      · exact absurd h1 hk
      · exact .inl ((hT _).2 (.inr ⟨hf, hq, hk⟩))
end Go.Proofs.YtomcfjckhajhmabGreatDoor
namespace Go.Proofs.YtomcfjckhajhmabGreatDoor

/-- a method of which nothing is wrong -/
structure Mth.good (m : Mth) : Prop where
  ok : m.ok = true
  op : ∀ i ∈ m.code, m.opOk i = true
  nb : ∀ j, j < m.code.length → ¬ m.bad j
noncomputable def Mth.depths (m : Mth) : List Int := (List.range m.code.length).map m.depthAt
theorem Mth.depths_len (m : Mth) : m.depths.length = m.code.length := by simp [Mth.depths]
theorem Mth.depths_at {m : Mth} {k : Nat} (h : k < m.code.length) : m.depths[k]? = some (m.depthAt k) := by simp [Mth.depths, h]
theorem DepthsTo.ok_good {m : Mth} {l : List Int} {p : Int} (h : DepthsTo m l p 0) : m.good ∧ l = m.depths ∧ p = -1 := by
  cases h with
  | good h1 h2 h3 => exact ⟨⟨h1, h2, h3⟩, rfl, rfl⟩
theorem DepthsTo.of_good {m : Mth} {l : List Int} {p e : Int} (g : m.good) (h : DepthsTo m l p e) : l = m.depths ∧ p = -1 ∧ e = 0 := h.one (.good g.ok g.op g.nb)
theorem DepthsTo.err {m : Mth} {l : List Int} {p e : Int} (h : DepthsTo m l p e) : e = 0 ∨ (e = 4 ∧ l = []) := by cases h <;> simp
theorem DepthsTo.not_good {m : Mth} {l : List Int} {p e : Int} (g : ¬ m.good) (h : DepthsTo m l p e) : e = 4 ∧ l = [] := by
  rcases h.err with rfl | h'
  · exact absurd h.ok_good.1 g
  · exact h'
theorem DepthsTo.place {m : Mth} {l : List Int} {p e : Int} (h : DepthsTo m l p e) : -1 ≤ p ∧ p < max 1 (m.code.length : Int) := by
  cases h with
  | no => omega
  | operand h0 hi => have := (List.getElem?_eq_some_iff.1 hi).1; omega
  | bad h0 h1 hk => omega
  | good => omega
theorem Mth.good.fine {m : Mth} (g : m.good) {pc d : Nat} {i : Ins} (h : Way m pc d) (hi : m.code[pc]? = some i) : m.fine i d = true := by
  cases hf : m.fine i d
  · exact absurd (.inr ⟨d, i, h, hi, .inl hf⟩) (g.nb pc (List.getElem?_eq_some_iff.1 hi).1)
  · rfl
theorem Mth.good.goes {m : Mth} (g : m.good) {pc d : Nat} {i : Ins} (h : Way m pc d) (hi : m.code[pc]? = some i) (hg : i.goesOn = true) : pc + 1 < m.code.length := by
  have hl := (List.getElem?_eq_some_iff.1 hi).1
  by_cases e : pc + 1 = m.code.length
  · exact absurd (.inr ⟨d, i, h, hi, .inr ⟨hg, e⟩⟩) (g.nb pc hl)
  · omega
/-- the same method with another stack -/
def Mth.room (m : Mth) (s : Int) : Mth := { m with stack := s }
theorem Mth.opOk_room (m : Mth) (s : Int) (i : Ins) : (m.room s).opOk i = m.opOk i := rfl
theorem Mth.fine_room {m : Mth} {s : Int} (hs : m.stack ≤ s) {i : Ins} {d : Nat} (h : m.fine i d = true) : (m.room s).fine i d = true := by
  unfold Mth.fine Mth.room at *
  simp only [decide_eq_true_eq] at *
  omega
theorem Way.room {m : Mth} {s : Int} (hs : m.stack ≤ s) {pc d : Nat} (h : Way m pc d) : Way (m.room s) pc d := by
  induction h with
  | start => exact .start
  | jump _ hi hf hj ih => exact .jump ih hi (Mth.fine_room hs hf) hj
  | next _ hi hf hg hl ih => exact .next ih hi (Mth.fine_room hs hf) hg hl
theorem Way.unroom {m : Mth} (g : m.good) {s : Int} {pc d : Nat} (h : Way (m.room s) pc d) : Way m pc d := by
  induction h with
  | start => exact .start
  | jump _ hi hf hj ih => exact .jump ih hi (g.fine ih hi) hj
  | next _ hi hf hg hl ih => exact .next ih hi (g.fine ih hi) hg hl
theorem Mth.good.room {m : Mth} (g : m.good) {s : Int} (hs : m.stack ≤ s) (h16 : s ≤ 16) : (m.room s).good := by
  refine ⟨?_, g.op, fun j hj hb => ?_⟩
  · obtain ⟨hh, hc⟩ := m.ok_iff.1 g.ok
    have hd := m.head_iff.1 hh
    refine (Mth.ok_iff _).2 ⟨(Mth.head_iff _).2 ?_, hc⟩
    simp only [Mth.room]
    omega
  · rcases hb with ⟨d, e, h1, h2, hne⟩ | ⟨d, i, h1, hi, hf | ⟨hg, he⟩⟩
    · exact g.nb j hj (.inl ⟨d, e, h1.unroom g, h2.unroom g, hne⟩)
    · have := Mth.fine_room hs (g.fine (h1.unroom g) hi)
      rw [hf] at this
      cases this
    · exact g.nb j hj (.inr ⟨d, i, h1.unroom g, hi, .inr ⟨hg, he⟩⟩)
theorem Mth.good.depths_room {m : Mth} (g : m.good) {s : Int} (hs : m.stack ≤ s) (h16 : s ≤ 16) : (m.room s).depths = m.depths := by
  unfold Mth.depths
  refine List.map_congr_left fun k hk => ?_
  have hk' : k < m.code.length := List.mem_range.1 hk
  by_cases h : ∃ d, Way m k d
  · obtain ⟨d, h⟩ := h
    rw [Mth.depthAt_way (g.nb k hk') h, Mth.depthAt_way ((g.room hs h16).nb k hk') (h.room hs)]
  · rw [Mth.depthAt_none h, Mth.depthAt_none (fun ⟨d, h'⟩ => h ⟨d, h'.unroom g⟩)]
/-- the same method cut off behind an instruction -/
def Mth.cut (m : Mth) (n : Nat) : Mth := { m with code := m.code.take n }
theorem Mth.cut_not_good {m : Mth} {pc d : Nat} {i : Ins} (h : Way m pc d) (hi : m.code[pc]? = some i) (hg : i.goesOn = true) : ¬ (m.cut (pc + 1)).good := by
  intro c
  have hpl := (List.getElem?_eq_some_iff.1 hi).1
  have hcl : (m.cut (pc + 1)).code.length = pc + 1 := by simp [Mth.cut]; omega
  have hcode : ∀ q, q < pc + 1 → (m.cut (pc + 1)).code[q]? = m.code[q]? := fun q hq => by simp [Mth.cut, hq]
  have key : ∀ q e, Way m q e → (q ≤ pc ∧ Way (m.cut (pc + 1)) q e) ∨ ∃ d', Way (m.cut (pc + 1)) pc d' := by
    intro q e hw
    induction hw with
    | start => exact .inl ⟨Nat.zero_le _, .start⟩
    | @jump q e i' _ hi' hf hj ih =>
      rcases ih with ⟨hq, hw⟩ | h
      · have hi2 : (m.cut (pc + 1)).code[q]? = some i' := by rw [hcode q (by omega)]; exact hi'
        have hw2 : Way (m.cut (pc + 1)) i'.a.toNat (i'.after e) := .jump hw hi2 hf hj
        have hb := (hw2.lt c.ok c.op).1
        exact .inl ⟨by omega, hw2⟩
      · exact .inr h
    | @next q e i' _ hi' hf hg' hl ih =>
      rcases ih with ⟨hq, hw⟩ | h
      · by_cases hqp : q = pc
        · subst hqp
          exact .inr ⟨_, hw⟩
        · have hi2 : (m.cut (pc + 1)).code[q]? = some i' := by rw [hcode q (by omega)]; exact hi'
          exact .inl ⟨by omega, .next hw hi2 hf hg' (by omega)⟩
      · exact .inr h
  have hi2 : (m.cut (pc + 1)).code[pc]? = some i := by rw [hcode pc (by omega)]; exact hi
  have : ∃ d', Way (m.cut (pc + 1)) pc d' := by
    rcases key pc d h with ⟨-, h⟩ | h
    · exact ⟨d, h⟩
    · exact h
  obtain ⟨d', hw⟩ := this
  have := c.goes hw hi2 hg
  omega
/-- one step of a way, as the document lists where it goes on -/
theorem Ins.goesOn_iff (i : Ins) : i.goesOn = true ↔ i.ends = false ∧ i.op ≠ 14 := by
  unfold Ins.goesOn
  cases i.ends <;> simp
theorem Mth.good.step {m : Mth} (g : m.good) {pc d : Nat} {i : Ins} (h : Way m pc d) (hi : m.code[pc]? = some i) {q : Int} (hq : q ∈ (if i.ends = true then [] else if i.op = 14 then [i.a] else if i.op = 15 ∨ i.op = 16 then [i.a, (pc : Int) + 1] else [(pc : Int) + 1])) : 0 ≤ q ∧ Way m q.toNat (i.after d) := by
  have hf := g.fine h hi
  have hio := (m.ok_iff.1 g.ok).2 i (List.mem_of_getElem? hi)
  rw [Ins.ok_iff] at hio
  cases he : i.ends with
  | true => rw [if_pos he] at hq; cases hq
  | false =>
    rw [if_neg (by rw [he]; simp)] at hq
    split at hq
    · next e =>
      simp at hq
      subst hq
      exact ⟨by omega, .jump h hi hf (by unfold Ins.jumps; simp [e])⟩
    · next e =>
      have hn : Way m (pc + 1) (i.after d) := .next h hi hf ((Ins.goesOn_iff i).2 ⟨he, e⟩) (g.goes h hi ((Ins.goesOn_iff i).2 ⟨he, e⟩))
      split at hq
      · next e2 =>
        simp at hq
        rcases hq with rfl | rfl
        · exact ⟨by omega, .jump h hi hf (by unfold Ins.jumps; simp; omega)⟩
        · exact ⟨by omega, by rw [show ((pc : Int) + 1).toNat = pc + 1 by omega]; exact hn⟩
      · simp at hq
        subst hq
        exact ⟨by omega, by rw [show ((pc : Int) + 1).toNat = pc + 1 by omega]; exact hn⟩
theorem Ins.after_int {m : Mth} {i : Ins} {d : Nat} (hio : i.ok = true) (hf : m.fine i d = true) : ((i.after d : Nat) : Int) = d - i.need + i.leave ∧ i.need ≤ d ∧ (d : Int) - i.need + i.leave ≤ m.stack ∧ 0 ≤ (d : Int) - i.need + i.leave := by
  have := i.need_nn hio
  unfold Mth.fine at hf
  simp only [decide_eq_true_eq] at hf
  unfold Ins.after
  omega
end Go.Proofs.YtomcfjckhajhmabGreatDoor
