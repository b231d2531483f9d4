/- gen: the register code of a method, as plain data: plain, of no program. gen: each instruction that is made may be: plain, of no program. gen: the unit that is made may be: plain, of no program. gen: the code and the map of one instruction: plain, of no program. gen: the code of an instruction does what the bytecode does, whatever operations answer: plain, of no program. gen: an instruction that asks nobody, in both machines: plain, of no program. gen: each instruction in both machines: THE NOTES ARE THE STACK: plain, of no program. gen: sites, what has no code, and where answers come to: plain, of no program. -/
import Derived.Test.YtomcfjckhajhmabGreatDoorMIrD
namespace Go.Proofs.YtomcfjckhajhmabGreatDoor

/-- an instruction of the bytecode -/
structure GI where
  op : Int
  a : Int
  b : Int
/-- a method, with the depth ahead of each instruction (below 0: it is not come to) -/
structure GM where
  args : Int
  temps : Int
  stack : Int
  lits : List Int
  code : List GI
  dep : List Int
/-- how many words an instruction needs, and leaves; does it end? -/
def GI.need (i : GI) : Int := if i.op = 2 ∨ i.op = 5 ∨ i.op = 10 ∨ i.op = 15 ∨ i.op = 16 ∨ i.op = 9 ∨ i.op = 17 then 1 else if i.op = 11 ∨ i.op = 12 then i.b + 1 else if i.op = 13 then 2 else 0
def GI.left (i : GI) : Int := if i.op = 2 ∨ i.op = 5 ∨ i.op = 10 ∨ i.op = 15 ∨ i.op = 16 ∨ i.op = 14 ∨ i.op = 17 ∨ i.op = 18 then 0 else if i.op = 9 then 2 else 1
def GI.jumps (i : GI) : Prop := i.op = 14 ∨ i.op = 15 ∨ i.op = 16
def GI.goes (i : GI) : Prop := i.op ≠ 14 ∧ i.op ≠ 17 ∧ i.op ≠ 18
def GM.lit (g : GM) (a : Int) : Int := g.lits.getD a.toNat 0
/-- is an instruction come to? -/
def GM.on (g : GM) (p : Nat) : Prop := 0 ≤ g.dep.getD p (-1)
instance (g : GM) (p : Nat) : Decidable (g.on p) := by unfold GM.on; infer_instance
/-- the depth ahead of it -/
def GM.at (g : GM) (p : Nat) : Nat := (g.dep.getD p (-1)).toNat
/-- does an instruction make a leader of another? -/
def leads (i : GI) (j p : Nat) : Bool := decide (((i.op = 14 ∨ i.op = 15 ∨ i.op = 16) ∧ i.a = p) ∨ ((i.op = 15 ∨ i.op = 16) ∧ (p = j ∨ p = j + 1)) ∨ ((i.op = 7 ∨ i.op = 12 ∨ i.op = 19) ∧ p = j + 1))
def GM.lead (g : GM) (p : Nat) : Bool := decide (p = 0) || (List.range g.code.length).any fun j => decide (g.on j) && (match g.code[j]? with | some i => leads i j p | none => false)
/-- a method that is in order, and what its depths are -/
structure GM.wf (g : GM) : Prop where
  args : 0 ≤ g.args ∧ g.args ≤ 4
  temps : g.args ≤ g.temps ∧ g.temps ≤ 16
  stack : 0 ≤ g.stack ∧ g.stack ≤ 16
  len : 1 ≤ g.code.length ∧ g.code.length ≤ 128
  dl : g.dep.length = g.code.length
  zero : g.dep[0]? = some 0
  fits : ∀ p, g.on p → (g.at p : Int) ≤ g.stack
  op : ∀ i ∈ g.code, 1 ≤ i.op ∧ i.op ≤ 19 ∧ 0 ≤ i.a ∧ i.a ≤ 4095 ∧ 0 ≤ i.b
  may : ∀ i ∈ g.code, ((i.op = 1 ∨ i.op = 2) → i.a < g.temps) ∧ (i.op = 11 → i.b ≤ 4) ∧ (i.op = 13 → i.a ≤ 7) ∧ (i.jumps → i.a < g.code.length)
  lit : ∀ (p : Nat) (i : GI), g.code[p]? = some i → g.on p → (i.op = 3 ∨ i.op = 11) → g.lit i.a ≠ 0
  need : ∀ (p : Nat) (i : GI), g.code[p]? = some i → g.on p → i.need ≤ g.at p ∧ (g.at p : Int) - i.need + i.left ≤ g.stack
  next : ∀ (p : Nat) (i : GI), g.code[p]? = some i → g.on p → i.goes → p + 1 < g.code.length ∧ g.on (p + 1) ∧ (g.at (p + 1) : Int) = g.at p - i.need + i.left
  jump : ∀ (p : Nat) (i : GI), g.code[p]? = some i → g.on p → i.jumps → g.on i.a.toNat ∧ (g.at i.a.toNat : Int) = g.at p - i.need + i.left
  back : ∀ p, p + 1 < g.code.length → g.on (p + 1) → (∃ (j : Nat) (i : GI), g.code[j]? = some i ∧ g.on j ∧ i.jumps ∧ i.a = (p + 1 : Nat)) ∨ (∃ i, g.code[p]? = some i ∧ g.on p ∧ i.goes)

def home (T : Int) (d : Nat) : Sr := ⟨0, T + d, 0⟩
def homes (T : Int) (n : Nat) : List Sr := (List.range n).map (home T)
def regS (a : Int) : Sr := ⟨0, a, 0⟩
def litS (w : Int) : Sr := ⟨1, 0, w⟩
def slfS : Sr := ⟨2, 0, 0⟩
def mkI (op n : Int) (d : Sr) (l : List Sr) (w : Int) : Ii := ⟨op, n, d, none, l, 0, w⟩
def mvI (d s : Sr) : Ii := mkI 1 0 d [s] 0
/-- the word of a number -/
def numW (n : Int) : Int := (2 * n + 1) % 18446744073709551616
/-- the moves that bring words home, from a depth on -/
def bringC (T : Int) : Nat → List Sr → List Ii
  | _, [] => []
  | d, s :: l => (if s = home T d then [] else [mvI (home T d) s]) ++ bringC T (d + 1) l
/-- the moves that bring a temporary home wherever it is noted, and what is noted then -/
def flushC (T a : Int) : Nat → List Sr → List Ii
  | _, [] => []
  | d, s :: l => (if s = regS a then [mvI (home T d) s] else []) ++ flushC T a (d + 1) l
def flushN (T a : Int) : Nat → List Sr → List Sr
  | _, [] => []
  | d, s :: l => (if s = regS a then home T d else s) :: flushN T a (d + 1) l
def top (N : List Sr) : Sr := N.getLastD zeroS
/-- an instruction that asks nobody -/
def plain (g : GM) (i : GI) (N : List Sr) : List Ii × List Sr :=
  if i.op = 1 then ([], N ++ [regS i.a])
  else if i.op = 3 then ([], N ++ [litS (g.lit i.a)])
  else if i.op = 8 then ([], N ++ [litS (numW (i.a - 2048))])
  else if i.op = 6 then ([], N ++ [slfS])
  else if i.op = 9 then ([], N ++ [top N])
  else if i.op = 10 then ([], N.dropLast)
  else if i.op = 2 then (if top N = regS i.a then ([], N.dropLast) else (flushC g.temps i.a 0 N.dropLast ++ [mvI (regS i.a) (top N)], flushN g.temps i.a 0 N.dropLast))
  else if i.op = 4 then ([mkI 3 i.a (home g.temps N.length) [] 0], N ++ [home g.temps N.length])
  else if i.op = 5 then ([mkI 4 i.a zeroS [top N] 0], N.dropLast)
  else ([], N)
/-- how many words an instruction that asks takes -/
def GI.takes (i : GI) : Nat := if i.op = 13 then 2 else (i.b + 1).toNat
/-- the code of an instruction, and what is noted behind it; nx: is the next one a leader? k: how many Sends came before -/
def one (g : GM) (nx : Bool) (i : GI) (N : List Sr) (k : Int) : List Ii × List Sr :=
  if i.op = 13 ∨ i.op = 11 then
    let r := N.take (N.length - i.takes)
    let l := N.drop (N.length - i.takes)
    ((if nx = true then bringC g.temps 0 r else []) ++ [if i.op = 13 then mkI 2 i.a (home g.temps r.length) l 0 else mkI 7 k (home g.temps r.length) l (g.lit i.a)], (if nx = true then homes g.temps r.length else r) ++ [home g.temps r.length])
  else if i.op = 14 then (bringC g.temps 0 N ++ [mkI 5 i.a zeroS [] 0], homes g.temps N.length)
  else if i.op = 15 ∨ i.op = 16 then ([mkI 6 i.a zeroS [top N] (numW (16 - i.op))], N.dropLast)
  else if i.op = 17 then ([mkI 8 0 zeroS [top N] 0], N.dropLast)
  else if i.op = 18 then ([mkI 8 0 zeroS [slfS] 0], N)
  else if i.op = 7 ∨ i.op = 12 ∨ i.op = 19 then ([mkI 9 0 zeroS [] 0], N)
  else ((plain g i N).1 ++ (if nx = true then bringC g.temps 0 (plain g i N).2 else []), if nx = true then homes g.temps (plain g i N).2.length else (plain g i N).2)
/-- what is noted ahead of an instruction -/
def GM.noted (g : GM) (p : Nat) (N : List Sr) : List Sr := if g.lead p = true then homes g.temps (g.at p) else N
def tregs (T : Int) : List Sr := (List.range T.toNat).map fun t : Nat => regS t
/-- the code and the map of each instruction -/
def parts (g : GM) : Nat → List GI → List Sr → Int → List (List Ii × List Sr)
  | _, [], _, _ => []
  | p, i :: l, N, k => if g.on p then ((one g (g.lead (p + 1)) i (g.noted p N) k).1, tregs g.temps ++ g.noted p N) :: parts g (p + 1) l (one g (g.lead (p + 1)) i (g.noted p N) k).2 (if i.op = 11 then k + 1 else k) else ([], []) :: parts g (p + 1) l N k
/-- how many Sends are come to -/
def sends (g : GM) : Nat → List GI → Int
  | _, [] => 0
  | p, i :: l => (if g.on p ∧ i.op = 11 then 1 else 0) + sends g (p + 1) l
def startsL : Int → List (List Ii) → List Int
  | s, [] => [s]
  | s, c :: l => s :: startsL (s + c.length) l
def GM.parts (g : GM) : List (List Ii × List Sr) := Go.Proofs.YtomcfjckhajhmabGreatDoor.parts g 0 g.code [] 0
def GM.unit (g : GM) (method : Int) : Un := ⟨method, g.args, g.temps, g.temps + g.stack, 0, sends g 0 g.code, none, [], 0, none, g.parts.flatMap (·.1), 0, none, startsL 0 (g.parts.map (·.1)), 0, none, g.parts.map fun q => ⟨none, q.2, 0⟩, 0⟩

/-! what is noted -/
/-- each source is a temporary, a word, the receiver, or the home place of its depth or of a lower one that is at home -/
def Nts (T : Int) (N : List Sr) : Prop := ∀ (e : Nat) (s : Sr), N[e]? = some s → (∃ a : Int, 0 ≤ a ∧ a < T ∧ s = regS a) ∨ (∃ w : Int, w ≠ 0 ∧ s = litS w) ∨ s = slfS ∨ ∃ d, d ≤ e ∧ s = home T d ∧ N[d]? = some (home T d)
theorem Nts.nil (T : Int) : Nts T [] := fun e s h => by simp at h
theorem homes_len (T : Int) (n : Nat) : (homes T n).length = n := by simp [homes]
theorem homes_at {T : Int} {n d : Nat} (h : d < n) : (homes T n)[d]? = some (home T d) := by simp [homes, h]
theorem Nts.homes (T : Int) (n : Nat) : Nts T (homes T n) := fun e s h => by
  have hl := (List.getElem?_eq_some_iff.1 h).1
  rw [homes_len] at hl
  rw [homes_at hl] at h
  cases h
  exact .inr (.inr (.inr ⟨e, Nat.le_refl _, rfl, homes_at hl⟩))
theorem Nts.take {T : Int} {N : List Sr} (h : Nts T N) (n : Nat) : Nts T (N.take n) := fun e s he => by
  have hl := (List.getElem?_eq_some_iff.1 he).1
  rw [List.length_take] at hl
  rw [List.getElem?_take_of_lt (by omega)] at he
  rcases h e s he with h1 | h1 | h1 | ⟨d, hd, h1, h2⟩
  · exact .inl h1
  · exact .inr (.inl h1)
  · exact .inr (.inr (.inl h1))
  · exact .inr (.inr (.inr ⟨d, hd, h1, by rw [List.getElem?_take_of_lt (by omega)]; exact h2⟩))
theorem Nts.dropLast {T : Int} {N : List Sr} (h : Nts T N) : Nts T N.dropLast := by
  rw [List.dropLast_eq_take]
  exact h.take _
theorem Nts.push {T : Int} {N : List Sr} (h : Nts T N) {s : Sr} (hs : (∃ a : Int, 0 ≤ a ∧ a < T ∧ s = regS a) ∨ (∃ w : Int, w ≠ 0 ∧ s = litS w) ∨ s = slfS ∨ s = home T N.length ∨ ∃ d, s = home T d ∧ N[d]? = some (home T d)) : Nts T (N ++ [s]) := fun e x he => by
  have hl := (List.getElem?_eq_some_iff.1 he).1
  rw [List.length_append, List.length_singleton] at hl
  by_cases hn : e < N.length
  · rw [List.getElem?_append_left hn] at he
    rcases h e x he with h1 | h1 | h1 | ⟨d, hd, h1, h2⟩
    · exact .inl h1
    · exact .inr (.inl h1)
    · exact .inr (.inr (.inl h1))
    · exact .inr (.inr (.inr ⟨d, hd, h1, by rw [List.getElem?_append_left (by omega)]; exact h2⟩))
  · obtain rfl : e = N.length := by omega
    rw [List.getElem?_append_right (Nat.le_refl _), Nat.sub_self] at he
    cases he
    rcases hs with h1 | h1 | h1 | h1 | ⟨d, h1, h2⟩
    · exact .inl h1
    · exact .inr (.inl h1)
    · exact .inr (.inr (.inl h1))
    · exact .inr (.inr (.inr ⟨N.length, Nat.le_refl _, h1, by rw [List.getElem?_append_right (Nat.le_refl _), Nat.sub_self, h1]; rfl⟩))
    · have hd := (List.getElem?_eq_some_iff.1 h2).1
      exact .inr (.inr (.inr ⟨d, by omega, h1, by rw [List.getElem?_append_left hd]; exact h2⟩))
theorem top_at {N : List Sr} (h : 0 < N.length) : N[N.length - 1]? = some (top N) := by
  unfold top
  rw [List.getLastD_eq_getLast?, List.getLast?_eq_getElem?]
  rw [List.getElem?_eq_getElem (by omega)]
  rfl
theorem flushN_len (T a : Int) : ∀ (d : Nat) (N : List Sr), (flushN T a d N).length = N.length
  | _, [] => rfl
  | d, s :: l => by simp [flushN, flushN_len T a (d + 1) l]
theorem flushN_at (T a : Int) : ∀ (d : Nat) (N : List Sr) (e : Nat), (flushN T a d N)[e]? = (N[e]?).map fun s => if s = regS a then home T (d + e) else s
  | _, [], e => by simp [flushN]
  | d, s :: l, 0 => by simp [flushN]
  | d, s :: l, e + 1 => by
    rw [flushN, List.getElem?_cons_succ, List.getElem?_cons_succ, flushN_at T a (d + 1) l e]
    rw [show d + 1 + e = d + (e + 1) by omega]
theorem home_ne {T a : Int} (h : a < T) (d : Nat) : home T d ≠ regS a := by
  intro e
  simp only [home, regS, Sr.mk.injEq] at e
  omega
theorem Nts.flush {T : Int} {N : List Sr} (h : Nts T N) {a : Int} (ha : a < T) : Nts T (flushN T a 0 N) := fun e x he => by
  rw [flushN_at] at he
  cases hn : N[e]? with
  | none => rw [hn] at he; cases he
  | some s =>
    rw [hn] at he
    simp only [Option.map_some, Option.some.injEq, Nat.zero_add] at he
    by_cases hs : s = regS a
    · rw [if_pos hs] at he
      refine .inr (.inr (.inr ⟨e, Nat.le_refl _, he.symm, ?_⟩))
      rw [flushN_at, hn]
      simp [hs]
    · rw [if_neg hs] at he
      subst he
      rcases h e s hn with h1 | h1 | h1 | ⟨d, hd, h1, h2⟩
      · exact .inl h1
      · exact .inr (.inl h1)
      · exact .inr (.inr (.inl h1))
      · refine .inr (.inr (.inr ⟨d, hd, h1, ?_⟩))
        rw [flushN_at, h2]
        simp [home_ne ha d]
/-- what is noted may be read -/
theorem Nts.ok {T S : Int} {N : List Sr} (h : Nts T N) (hT : 0 ≤ T) (hl : (N.length : Int) ≤ S) : N.all (srcOk (T + S) 0) = true := by
  rw [List.all_eq_true]
  intro s hs
  obtain ⟨e, he⟩ := List.getElem?_of_mem hs
  have hle := (List.getElem?_eq_some_iff.1 he).1
  rcases h e s he with ⟨a, h0, h1, rfl⟩ | ⟨w, h0, rfl⟩ | rfl | ⟨d, hd, rfl, -⟩
  · simp [srcOk, regS]; omega
  · simp [srcOk, litS, h0]
  · simp [srcOk, slfS]
  · simp [srcOk, home]; omega
end Go.Proofs.YtomcfjckhajhmabGreatDoor
namespace Go.Proofs.YtomcfjckhajhmabGreatDoor

theorem GM.lead_of {g : GM} {p j : Nat} {i : GI} (hi : g.code[j]? = some i) (ho : g.on j) (h : leads i j p = true) : g.lead p = true := by
  unfold GM.lead
  rw [Bool.or_eq_true]
  refine .inr ?_
  rw [List.any_eq_true]
  refine ⟨j, List.mem_range.2 (List.getElem?_eq_some_iff.1 hi).1, ?_⟩
  rw [hi]
  simp [ho, h]
theorem GM.lead_jump {g : GM} {j p : Nat} {i : GI} (hi : g.code[j]? = some i) (ho : g.on j) (h : i.jumps) (ha : i.a = p) : g.lead p = true :=
  g.lead_of hi ho (by unfold leads; unfold GI.jumps at h; simp [h, ha])
theorem GM.lead_next {g : GM} {p : Nat} {i : GI} (hi : g.code[p]? = some i) (ho : g.on p) (h : i.op = 15 ∨ i.op = 16 ∨ i.op = 7 ∨ i.op = 12 ∨ i.op = 19) : g.lead (p + 1) = true :=
  g.lead_of hi ho (by unfold leads; simp; omega)
/-- what is noted ahead of an instruction, when it is known from the one before -/
def Inv (g : GM) (p : Nat) (N : List Sr) : Prop := g.on p → g.lead p = false → N.length = g.at p ∧ Nts g.temps N
theorem Inv.noted {g : GM} {p : Nat} {N : List Sr} (h : Inv g p N) (ho : g.on p) : (g.noted p N).length = g.at p ∧ Nts g.temps (g.noted p N) := by
  unfold GM.noted
  cases hl : g.lead p
  · simpa using h ho hl
  · simp only [if_true]
    exact ⟨homes_len _ _, Nts.homes _ _⟩
theorem numW_ne (n : Int) : numW n ≠ 0 := by unfold numW; omega
theorem top_nts {T : Int} {N : List Sr} (h : Nts T N) (h0 : 0 < N.length) : (∃ a : Int, 0 ≤ a ∧ a < T ∧ top N = regS a) ∨ (∃ w : Int, w ≠ 0 ∧ top N = litS w) ∨ top N = slfS ∨ ∃ d, d ≤ N.length - 1 ∧ top N = home T d ∧ N[d]? = some (home T d) := h _ _ (top_at h0)
theorem plain_inv {g : GM} (W : g.wf) {p : Nat} {i : GI} (hi : g.code[p]? = some i) (ho : g.on p) {N : List Sr} (hl : N.length = g.at p) (hN : Nts g.temps N) (hop : i.op = 1 ∨ i.op = 2 ∨ i.op = 3 ∨ i.op = 4 ∨ i.op = 5 ∨ i.op = 6 ∨ i.op = 8 ∨ i.op = 9 ∨ i.op = 10) :
    ((plain g i N).2.length : Int) = g.at p - i.need + i.left ∧ Nts g.temps (plain g i N).2 := by
  obtain ⟨hn, -⟩ := W.need p i hi ho
  have hm := List.mem_of_getElem? hi
  have hr := W.op i hm
  have hy := W.may i hm
  have ht := W.temps
  have ha := W.args
  have hli := W.lit p i hi ho
  rcases hop with h | h | h | h | h | h | h | h | h
  all_goals simp only [GI.need, GI.left, h] at hn ⊢
  all_goals simp at hn ⊢
  · rw [show plain g i N = ([], N ++ [regS i.a]) by simp [plain, h]]
    exact ⟨by simp; omega, hN.push (.inl ⟨i.a, by omega, hy.1 (by omega), rfl⟩)⟩
  · by_cases ht2 : top N = regS i.a
    · rw [show plain g i N = ([], N.dropLast) by simp [plain, h, ht2]]
      exact ⟨by simp; omega, hN.dropLast⟩
    · rw [show (plain g i N).2 = flushN g.temps i.a 0 N.dropLast by simp [plain, h, ht2]]
      exact ⟨by rw [flushN_len]; simp; omega, hN.dropLast.flush (hy.1 (by omega))⟩
  · rw [show plain g i N = ([], N ++ [litS (g.lit i.a)]) by simp [plain, h]]
    exact ⟨by simp; omega, hN.push (.inr (.inl ⟨_, hli (by omega), rfl⟩))⟩
  · rw [show (plain g i N).2 = N ++ [home g.temps N.length] by simp [plain, h]]
    exact ⟨by simp; omega, hN.push (.inr (.inr (.inr (.inl rfl))))⟩
  · rw [show (plain g i N).2 = N.dropLast by simp [plain, h]]
    exact ⟨by simp; omega, hN.dropLast⟩
  · rw [show plain g i N = ([], N ++ [slfS]) by simp [plain, h]]
    exact ⟨by simp; omega, hN.push (.inr (.inr (.inl rfl)))⟩
  · rw [show plain g i N = ([], N ++ [litS (numW (i.a - 2048))]) by simp [plain, h]]
    exact ⟨by simp; omega, hN.push (.inr (.inl ⟨_, numW_ne _, rfl⟩))⟩
  · rw [show plain g i N = ([], N ++ [top N]) by simp [plain, h]]
    refine ⟨by simp; omega, hN.push ?_⟩
    rcases top_nts hN (by omega) with h1 | h1 | h1 | ⟨d, -, h1, h2⟩
    · exact .inl h1
    · exact .inr (.inl h1)
    · exact .inr (.inr (.inl h1))
    · exact .inr (.inr (.inr (.inr ⟨d, h1, h2⟩)))
  · rw [show plain g i N = ([], N.dropLast) by simp [plain, h]]
    exact ⟨by simp; omega, hN.dropLast⟩
theorem GI.takes_le {g : GM} (W : g.wf) {p : Nat} {i : GI} (hi : g.code[p]? = some i) (ho : g.on p) (h : i.op = 13 ∨ i.op = 11) : i.takes ≤ g.at p ∧ (i.takes : Int) = i.need ∧ 1 ≤ i.takes ∧ i.left = 1 := by
  obtain ⟨hn, -⟩ := W.need p i hi ho
  have hr := W.op i (List.mem_of_getElem? hi)
  unfold GI.takes GI.left
  unfold GI.need at hn ⊢
  rcases h with h | h
  · simp [h] at hn ⊢; omega
  · simp [h] at hn ⊢; omega
theorem one_inv {g : GM} (W : g.wf) {p : Nat} {i : GI} (hi : g.code[p]? = some i) (ho : g.on p) {N : List Sr} (hl : N.length = g.at p) (hN : Nts g.temps N) (k : Int) : Inv g (p + 1) (one g (g.lead (p + 1)) i N k).2 := by
  intro ho2 hl2
  have hlen : p + 1 < g.code.length := by
    have h9 : g.on (p + 1) := ho2
    unfold GM.on at h9
    by_cases h : p + 1 < g.code.length
    · exact h
    · rw [List.getD_eq_getElem?_getD, List.getElem?_eq_none (by rw [W.dl]; omega)] at h9
      simp at h9
  have hgo : i.goes := by
    rcases W.back p hlen ho2 with ⟨j, i2, h1, h2, h3, h4⟩ | ⟨i2, h1, h2, h3⟩
    · rw [g.lead_jump h1 h2 h3 h4] at hl2
      cases hl2
    · rw [hi] at h1
      cases h1
      exact h3
  obtain ⟨-, -, hat⟩ := W.next p i hi ho hgo
  have hr := W.op i (List.mem_of_getElem? hi)
  have hno : ¬ (i.op = 15 ∨ i.op = 16 ∨ i.op = 7 ∨ i.op = 12 ∨ i.op = 19) := fun h => by
    rw [g.lead_next hi ho h] at hl2
    cases hl2
  unfold GI.goes at hgo
  rw [hl2]
  by_cases ha : i.op = 13 ∨ i.op = 11
  · have hk := GI.takes_le W hi ho ha
    rw [show (one g false i N k).2 = N.take (N.length - i.takes) ++ [home g.temps (N.take (N.length - i.takes)).length] by simp [one, ha]]
    refine ⟨?_, (hN.take _).push (.inr (.inr (.inr (.inl rfl))))⟩
    simp only [List.length_append, List.length_take, List.length_singleton]
    omega
  · have hop : i.op = 1 ∨ i.op = 2 ∨ i.op = 3 ∨ i.op = 4 ∨ i.op = 5 ∨ i.op = 6 ∨ i.op = 8 ∨ i.op = 9 ∨ i.op = 10 := by omega
    have h9 := plain_inv W hi ho hl hN hop
    have e : (one g false i N k).2 = (plain g i N).2 := by
      have h1 : ¬ i.op = 14 := by omega
      have h2 : ¬ (i.op = 15 ∨ i.op = 16) := by omega
      have h3 : ¬ i.op = 17 := by omega
      have h4 : ¬ i.op = 18 := by omega
      have h5 : ¬ (i.op = 7 ∨ i.op = 12 ∨ i.op = 19) := by omega
      unfold one
      rw [if_neg ha, if_neg h1, if_neg h2, if_neg h3, if_neg h4, if_neg h5]
      simp
    rw [e]
    exact ⟨by omega, h9.2⟩
theorem off_inv {g : GM} (W : g.wf) {p : Nat} (ho : ¬ g.on p) (N : List Sr) : Inv g (p + 1) N := by
  intro ho2 hl2
  have hlen : p + 1 < g.code.length := by
    have h9 : g.on (p + 1) := ho2
    unfold GM.on at h9
    by_cases h : p + 1 < g.code.length
    · exact h
    · rw [List.getD_eq_getElem?_getD, List.getElem?_eq_none (by rw [W.dl]; omega)] at h9
      simp at h9
  rcases W.back p hlen ho2 with ⟨j, i2, h1, h2, h3, h4⟩ | ⟨i2, h1, h2, h3⟩
  · rw [g.lead_jump h1 h2 h3 h4] at hl2
    cases hl2
  · exact absurd h2 ho
/-! what is made may be -/
theorem mv_ok {R S M : Int} {d s : Sr} (hd : plc d = true) (hd2 : srcOk R 0 d = true) (hs : srcOk R 0 s = true) : insOkU R 0 S M (mvI d s) = true := by
  simp [insOkU, mvI, mkI, wtn, lst, mst, grt, resOk, lvs, wrdOk, hd, hd2, hs]
theorem home_plc {T : Int} (hT : 0 ≤ T) (d : Nat) : plc (home T d) = true := by simp [plc, home]; omega
theorem home_ok {T S : Int} (hT : 0 ≤ T) {d : Nat} (h : (d : Int) < S) : srcOk (T + S) 0 (home T d) = true := by simp [srcOk, home]; omega
theorem reg_ok {T S a : Int} (hS : 0 ≤ S) (h0 : 0 ≤ a) (h : a < T) : plc (regS a) = true ∧ srcOk (T + S) 0 (regS a) = true := by simp [srcOk, plc, regS]; omega
theorem bring_ok {T St S M : Int} (hT : 0 ≤ T) : ∀ (d : Nat) (N : List Sr), N.all (srcOk (T + St) 0) = true → ((d + N.length : Nat) : Int) ≤ St → (bringC T d N).all (insOkU (T + St) 0 S M) = true
  | _, [], _, _ => rfl
  | d, s :: l, h, hl => by
    simp only [List.all_cons, Bool.and_eq_true] at h
    simp only [List.length_cons] at hl
    rw [bringC, List.all_append, Bool.and_eq_true]
    refine ⟨?_, bring_ok hT (d + 1) l h.2 (by omega)⟩
    split
    · rfl
    · simp only [List.all_cons, List.all_nil, Bool.and_true]
      exact mv_ok (home_plc hT d) (home_ok hT (by omega)) h.1
theorem flush_ok {T St S M a : Int} (hT : 0 ≤ T) : ∀ (d : Nat) (N : List Sr), N.all (srcOk (T + St) 0) = true → ((d + N.length : Nat) : Int) ≤ St → (flushC T a d N).all (insOkU (T + St) 0 S M) = true
  | _, [], _, _ => rfl
  | d, s :: l, h, hl => by
    simp only [List.all_cons, Bool.and_eq_true] at h
    simp only [List.length_cons] at hl
    rw [flushC, List.all_append, Bool.and_eq_true]
    refine ⟨?_, flush_ok hT (d + 1) l h.2 (by omega)⟩
    split
    · simp only [List.all_cons, List.all_nil, Bool.and_true]
      exact mv_ok (home_plc hT d) (home_ok hT (by omega)) h.1
    · rfl
theorem all_take {α : Type} {p : α → Bool} {l : List α} (h : l.all p = true) (n : Nat) : (l.take n).all p = true := List.all_eq_true.2 fun x hx => List.all_eq_true.1 h x (List.mem_of_mem_take hx)
theorem all_drop {α : Type} {p : α → Bool} {l : List α} (h : l.all p = true) (n : Nat) : (l.drop n).all p = true := List.all_eq_true.2 fun x hx => List.all_eq_true.1 h x (List.mem_of_mem_drop hx)
theorem top_ok {p : Sr → Bool} {N : List Sr} (h : N.all p = true) (h0 : 0 < N.length) : p (top N) = true := List.all_eq_true.1 h _ (List.mem_of_getElem? (top_at h0))
theorem plain_ok {g : GM} (W : g.wf) {p : Nat} {i : GI} (hi : g.code[p]? = some i) (ho : g.on p) {N : List Sr} (hl : N.length = g.at p) (hN : Nts g.temps N) (S M : Int) : (plain g i N).1.all (insOkU (g.temps + g.stack) 0 S M) = true := by
  obtain ⟨hn, hn2⟩ := W.need p i hi ho
  have hm := List.mem_of_getElem? hi
  have hr := W.op i hm
  have hy := W.may i hm
  have ht := W.temps
  have ha := W.args
  have hT : 0 ≤ g.temps := by omega
  have hf := W.fits p ho
  have hA := hN.ok hT (S := g.stack) (by omega)
  unfold plain
  split
  · rfl
  split
  · rfl
  split
  · rfl
  split
  · rfl
  split
  · rfl
  split
  · rfl
  split
  · next h =>
    split
    · rfl
    · have h1 : (i.need : Int) = 1 := by simp [GI.need, h]
      simp only [List.all_append, List.all_cons, List.all_nil, Bool.and_true, Bool.and_eq_true]
      have hrg := reg_ok (S := g.stack) W.stack.1 hr.2.2.1 (hy.1 (.inr h))
      refine ⟨flush_ok hT 0 _ ?_ (by simp; omega), mv_ok hrg.1 hrg.2 (top_ok hA (by omega))⟩
      rw [List.dropLast_eq_take]
      exact all_take hA _
  split
  · next h =>
    have h1 : i.need = 0 := by simp [GI.need, h]
    have h2 : i.left = 1 := by simp [GI.left, h]
    simp [insOkU, mkI, wtn, lst, mst, grt, resOk, lvs, wrdOk, home_plc hT, home_ok (T := g.temps) (S := g.stack) hT (d := N.length) (by omega)]
    omega
  split
  · next h =>
    have h1 : i.need = 1 := by simp [GI.need, h]
    simp [insOkU, mkI, wtn, lst, mst, grt, resOk, lvs, wrdOk, top_ok hA (by omega)]
    omega
  · rfl
theorem one_ok {g : GM} (W : g.wf) {p : Nat} {i : GI} (hi : g.code[p]? = some i) (ho : g.on p) {N : List Sr} (hl : N.length = g.at p) (hN : Nts g.temps N) {k S : Int} (hk0 : 0 ≤ k) (hkS : i.op = 11 → k < S) : (one g (g.lead (p + 1)) i N k).1.all (insOkU (g.temps + g.stack) 0 S g.code.length) = true := by
  obtain ⟨hn, hn2⟩ := W.need p i hi ho
  have hm := List.mem_of_getElem? hi
  have hr := W.op i hm
  have hy := W.may i hm
  have ht := W.temps
  have ha := W.args
  have hT : 0 ≤ g.temps := by omega
  have hf := W.fits p ho
  have hA := hN.ok hT (S := g.stack) (by omega)
  unfold one
  split
  · next h =>
    have hk := GI.takes_le W hi ho h
    simp only [List.all_append, List.all_cons, List.all_nil, Bool.and_true, Bool.and_eq_true]
    have hrl : (N.take (N.length - i.takes)).length = N.length - i.takes := by simp
    refine ⟨?_, ?_⟩
    · split
      · exact bring_ok hT 0 _ (all_take hA _) (by rw [hrl]; omega)
      · rfl
    · have hd := home_ok (T := g.temps) (S := g.stack) hT (d := (N.take (N.length - i.takes)).length) (by rw [hrl]; omega)
      have hp := home_plc hT (N.take (N.length - i.takes)).length
      have hdr := all_drop hA (N.length - i.takes)
      have hdl : (N.drop (N.length - i.takes)).length = i.takes := by rw [List.length_drop]; omega
      generalize (N.take (N.length - i.takes)).length = q at *
      generalize N.drop (N.length - i.takes) = L at *
      rcases h with h | h
      · have h2 : i.takes = 2 := by simp [GI.takes, h]
        rw [if_pos h]
        simp only [insOkU, mkI, wtn, lst, mst, grt, resOk, lvs, wrdOk, hdl, h2, hd, hp, hdr]
        simp
        exact ⟨hr.2.2.1, hy.2.2.1 h⟩
      · have h2 : (i.takes : Int) = i.b + 1 := by have := hk.2.1; simp [GI.need, h] at this; omega
        rw [if_neg (by omega)]
        simp only [insOkU, mkI, wtn, lst, mst, grt, resOk, lvs, wrdOk, hdl, h2, hd, hp, hdr]
        simp
        exact ⟨⟨⟨by omega, by have := hy.2.1 h; omega⟩, hk0, by have := hkS h; omega⟩, decide_eq_true (W.lit p i hi ho (.inr h))⟩
  split
  · next h =>
    have hj := hy.2.2.2 (.inl h)
    simp only [List.all_append, List.all_cons, List.all_nil, Bool.and_true, Bool.and_eq_true]
    refine ⟨bring_ok hT 0 _ hA (by omega), ?_⟩
    simp [insOkU, mkI, wtn, lst, mst, grt, resOk, lvs, wrdOk]
    omega
  split
  · next h =>
    have h1 : i.need = 1 := by rcases h with h | h <;> simp [GI.need, h]
    have hj := hy.2.2.2 (.inr h)
    have hw : numW (16 - i.op) = 1 ∨ numW (16 - i.op) = 3 := by rcases h with h | h <;> simp [h, numW]
    simp [insOkU, mkI, wtn, lst, mst, grt, resOk, lvs, wrdOk, top_ok hA (by omega), hw]
    omega
  split
  · next h =>
    have h1 : i.need = 1 := by simp [GI.need, h]
    simp [insOkU, mkI, wtn, lst, mst, grt, resOk, lvs, wrdOk, top_ok hA (by omega)]
  split
  · simp [insOkU, mkI, wtn, lst, mst, grt, resOk, lvs, wrdOk, srcOk, slfS]
  split
  · simp [insOkU, mkI, wtn, lst, mst, grt, resOk, lvs, wrdOk]
  · next h1 h2 h3 h4 h5 h6 =>
    simp only [List.all_append, Bool.and_eq_true]
    have hop : i.op = 1 ∨ i.op = 2 ∨ i.op = 3 ∨ i.op = 4 ∨ i.op = 5 ∨ i.op = 6 ∨ i.op = 8 ∨ i.op = 9 ∨ i.op = 10 := by omega
    have h9 := plain_inv W hi ho hl hN hop
    refine ⟨plain_ok W hi ho hl hN S _, ?_⟩
    split
    · exact bring_ok hT 0 _ (h9.2.ok hT (by omega)) (by omega)
    · rfl
end Go.Proofs.YtomcfjckhajhmabGreatDoor
namespace Go.Proofs.YtomcfjckhajhmabGreatDoor

theorem sends_nn (g : GM) : ∀ (p : Nat) (l : List GI), 0 ≤ sends g p l ∧ sends g p l ≤ l.length
  | _, [] => by simp [sends]
  | p, i :: l => by
    have h := sends_nn g (p + 1) l
    unfold sends
    rw [List.length_cons]
    split <;> omega
/-- the rest of a list -/
theorem drop_cons {α : Type} {l r : List α} {p : Nat} {a : α} (h : l.drop p = a :: r) : l[p]? = some a ∧ l.drop (p + 1) = r := by
  refine ⟨?_, ?_⟩
  · have := List.getElem?_drop (xs := l) (i := p) (j := 0)
    rw [h] at this
    simpa using this.symm
  · rw [← List.drop_drop, h]
    rfl
theorem parts_len (g : GM) : ∀ (p : Nat) (l : List GI) (N : List Sr) (k : Int), (parts g p l N k).length = l.length
  | _, [], _, _ => rfl
  | p, i :: l, N, k => by
    unfold parts
    split <;> simp [parts_len g (p + 1) l]
theorem tregs_len {T : Int} (h : 0 ≤ T) : ((tregs T).length : Int) = T := by simp [tregs]; omega
theorem tregs_ok {T S : Int} (hS : 0 ≤ S) : (tregs T).all (srcOk (T + S) 0) = true := by
  rw [List.all_eq_true]
  intro s hs
  simp only [tregs, List.mem_map, List.mem_range] at hs
  obtain ⟨t, ht, rfl⟩ := hs
  exact (reg_ok hS (by omega) (by omega)).2
/-- each instruction has its code and its map -/
theorem parts_ok {g : GM} (W : g.wf) (S : Int) : ∀ (l : List GI) (p : Nat) (N : List Sr) (k : Int), g.code.drop p = l → Inv g p N → 0 ≤ k → k + sends g p l ≤ S → ∀ q ∈ parts g p l N k, q.1.all (insOkU (g.temps + g.stack) 0 S g.code.length) = true ∧ mapOk (g.temps + g.stack) 0 g.temps ⟨none, q.2, 0⟩ = true
  | [], _, _, _, _, _, _, _, q, hq => by simp [parts] at hq
  | i :: l, p, N, k, hd, hI, hk, hS, q, hq => by
    obtain ⟨hi, hd2⟩ := drop_cons hd
    have hs := sends_nn g (p + 1) l
    unfold sends at hS
    unfold parts at hq
    by_cases ho : g.on p
    · rw [if_pos ho] at hq
      have hN := hI.noted ho
      have hf := W.fits p ho
      have hT : 0 ≤ g.temps := by have := W.temps; have := W.args; omega
      have hst := W.stack
      rcases List.mem_cons.1 hq with rfl | hq
      · refine ⟨one_ok W hi ho hN.1 hN.2 hk (fun h => ?_), ?_⟩
        · rw [if_pos ⟨ho, h⟩] at hS
          omega
        · unfold mapOk
          simp only [List.all_append, Bool.and_eq_true, Bool.or_eq_true]
          refine ⟨.inr ?_, tregs_ok hst.1, hN.2.ok hT (by omega)⟩
          unfold wtn
          rw [List.length_append]
          have := tregs_len hT
          simp
          omega
      · refine parts_ok W S l (p + 1) _ _ hd2 (one_inv W hi ho hN.1 hN.2 k) ?_ ?_ q hq
        · split <;> omega
        · by_cases h11 : i.op = 11
          · rw [if_pos ⟨ho, h11⟩] at hS
            rw [if_pos h11]
            omega
          · rw [if_neg (fun h => h11 h.2)] at hS
            rw [if_neg h11]
            omega
    · rw [if_neg ho] at hq
      rw [if_neg (fun h => ho h.1)] at hS
      rcases List.mem_cons.1 hq with rfl | hq
      · exact ⟨rfl, rfl⟩
      · exact parts_ok W S l (p + 1) N k hd2 (off_inv W ho N) hk (by omega) q hq
/-! sites -/
theorem bring_op (T : Int) : ∀ (d : Nat) (N : List Sr), ∀ x ∈ bringC T d N, x.op = 1
  | _, [], x, hx => by simp [bringC] at hx
  | d, s :: l, x, hx => by
    rw [bringC, List.mem_append] at hx
    rcases hx with hx | hx
    · split at hx
      · simp at hx
      · simp only [List.mem_singleton] at hx
        rw [hx]
        rfl
    · exact bring_op T (d + 1) l x hx
theorem flush_op (T a : Int) : ∀ (d : Nat) (N : List Sr), ∀ x ∈ flushC T a d N, x.op = 1
  | _, [], x, hx => by simp [flushC] at hx
  | d, s :: l, x, hx => by
    rw [flushC, List.mem_append] at hx
    rcases hx with hx | hx
    · split at hx
      · simp only [List.mem_singleton] at hx
        rw [hx]
        rfl
      · simp at hx
    · exact flush_op T a (d + 1) l x hx
theorem plain_op (g : GM) (i : GI) (N : List Sr) : ∀ x ∈ (plain g i N).1, x.op ≠ 7 := by
  intro x hx
  unfold plain at hx
  split at hx
  · simp at hx
  split at hx
  · simp at hx
  split at hx
  · simp at hx
  split at hx
  · simp at hx
  split at hx
  · simp at hx
  split at hx
  · simp at hx
  split at hx
  · split at hx
    · simp at hx
    · rw [List.mem_append] at hx
      rcases hx with hx | hx
      · rw [flush_op _ _ _ _ x hx]; omega
      · simp only [List.mem_singleton] at hx
        rw [hx]
        simp [mvI, mkI]
  split at hx
  · simp only [List.mem_singleton] at hx
    rw [hx]
    simp [mkI]
  split at hx
  · simp only [List.mem_singleton] at hx
    rw [hx]
    simp [mkI]
  · simp at hx
/-- no two Sends of one site, one after the other greater -/
def Up (a b : Ii) : Prop := a.op = 7 → b.op = 7 → a.n < b.n
theorem pair_no {l : List Ii} (h : ∀ x ∈ l, x.op ≠ 7) : l.Pairwise Up := List.Pairwise.imp_of_mem (R := fun _ _ => True) (fun ha _ _ h7 _ => absurd h7 (h _ ha)) (List.pairwise_iff_forall_sublist.2 (by intros; trivial))
/-- the code of an instruction is a Send behind what is none, if it is one -/
theorem one_send (g : GM) (nx : Bool) (i : GI) (N : List Sr) (k : Int) : (one g nx i N k).1.Pairwise Up ∧ ∀ x ∈ (one g nx i N k).1, x.op = 7 → i.op = 11 ∧ x.n = k := by
  have hno : ∀ l : List Ii, (∀ x ∈ l, x.op ≠ 7) → l.Pairwise Up ∧ ∀ x ∈ l, x.op = 7 → i.op = 11 ∧ x.n = k := fun l h => ⟨pair_no h, fun x hx h7 => absurd h7 (h x hx)⟩
  unfold one
  split
  · next h =>
    have hb : ∀ x ∈ (if nx = true then bringC g.temps 0 (N.take (N.length - i.takes)) else []), x.op ≠ 7 := by
      intro x hx
      split at hx
      · rw [bring_op _ _ _ x hx]; omega
      · simp at hx
    refine ⟨?_, ?_⟩
    · rw [List.pairwise_append]
      exact ⟨pair_no hb, List.pairwise_singleton _ _, fun a ha b _ h7 _ => absurd h7 (hb a ha)⟩
    · intro x hx h7
      rw [List.mem_append] at hx
      rcases hx with hx | hx
      · exact absurd h7 (hb x hx)
      · simp only [List.mem_singleton] at hx
        by_cases h13 : i.op = 13
        · rw [if_pos h13] at hx
          rw [hx] at h7
          simp [mkI] at h7
        · rw [if_neg h13] at hx
          rw [hx]
          exact ⟨by omega, rfl⟩
  split
  · refine hno _ fun x hx => ?_
    rw [List.mem_append] at hx
    rcases hx with hx | hx
    · rw [bring_op _ _ _ x hx]; omega
    · simp only [List.mem_singleton] at hx
      rw [hx]
      simp [mkI]
  split
  · exact hno _ fun x hx => by simp only [List.mem_singleton] at hx; rw [hx]; simp [mkI]
  split
  · exact hno _ fun x hx => by simp only [List.mem_singleton] at hx; rw [hx]; simp [mkI]
  split
  · exact hno _ fun x hx => by simp only [List.mem_singleton] at hx; rw [hx]; simp [mkI]
  split
  · exact hno _ fun x hx => by simp only [List.mem_singleton] at hx; rw [hx]; simp [mkI]
  · refine hno _ fun x hx => ?_
    rw [List.mem_append] at hx
    rcases hx with hx | hx
    · exact plain_op g i N x hx
    · split at hx
      · rw [bring_op _ _ _ x hx]; omega
      · simp at hx
theorem parts_up (g : GM) : ∀ (l : List GI) (p : Nat) (N : List Sr) (k : Int), ((parts g p l N k).flatMap (·.1)).Pairwise Up ∧ ∀ x ∈ (parts g p l N k).flatMap (·.1), x.op = 7 → k ≤ x.n
  | [], _, _, _ => by simp [parts]
  | i :: l, p, N, k => by
    unfold parts
    split
    · have h1 := one_send g (g.lead (p + 1)) i (g.noted p N) k
      have h2 := parts_up g l (p + 1) (one g (g.lead (p + 1)) i (g.noted p N) k).2 (if i.op = 11 then k + 1 else k)
      rw [List.flatMap_cons]
      refine ⟨?_, ?_⟩
      · rw [List.pairwise_append]
        refine ⟨h1.1, h2.1, fun a ha b hb h7 h7' => ?_⟩
        obtain ⟨h11, hn⟩ := h1.2 a ha h7
        have h3 := h2.2 b hb h7'
        rw [if_pos h11] at h3
        omega
      · intro x hx h7
        rw [List.mem_append] at hx
        rcases hx with hx | hx
        · rw [(h1.2 x hx h7).2]
          exact Int.le_refl _
        · have h3 := h2.2 x hx h7
          split at h3 <;> omega
    · have h2 := parts_up g l (p + 1) N k
      rw [List.flatMap_cons]
      simpa using h2
theorem apart_of {l : List Ii} (h : l.Pairwise Up) : apart l := by
  intro i j a b hij hi hj h7 h7'
  have hi' := List.getElem?_eq_some_iff.1 hi
  have hj' := List.getElem?_eq_some_iff.1 hj
  have h9 := List.pairwise_iff_getElem.1 h i j hi'.1 hj'.1 hij
  rw [hi'.2, hj'.2] at h9
  have := h9 h7 h7'
  omega
/-! where each instruction begins -/
theorem starts_lenG : ∀ (s : Int) (L : List (List Ii)), (startsL s L).length = L.length + 1
  | _, [] => rfl
  | s, c :: L => by simp [startsL, starts_lenG (s + c.length) L]
theorem starts_head (s : Int) (L : List (List Ii)) : (startsL s L)[0]? = some s := by cases L <;> rfl
theorem starts_last : ∀ (s : Int) (L : List (List Ii)), (startsL s L)[L.length]? = some (s + L.flatten.length)
  | s, [] => by simp [startsL]
  | s, c :: L => by
    rw [startsL, List.length_cons, List.getElem?_cons_succ, starts_last (s + c.length) L]
    simp only [List.flatten_cons, List.length_append, Option.some.injEq]
    omega
theorem starts_rise : ∀ (s : Int) (L : List (List Ii)), rising (startsL s L)
  | s, [] => fun k a b h1 h2 => by simp [startsL] at h2
  | s, c :: L => fun k a b h1 h2 => by
    rw [startsL] at h1 h2
    cases k with
    | zero =>
      rw [List.getElem?_cons_succ, starts_head] at h2
      cases h1
      cases h2
      omega
    | succ k =>
      rw [List.getElem?_cons_succ] at h1 h2
      exact starts_rise (s + c.length) L k a b h1 h2
theorem flat_map (L : List (List Ii × List Sr)) : L.flatMap (·.1) = (L.map (·.1)).flatten := rfl
/-- the unit that is made may be -/
theorem unit_ok {g : GM} (W : g.wf) {method : Int} (hm : method ≠ 0) : okU (g.unit method) = true := by
  have hT := W.temps
  have ha := W.args
  have hst := W.stack
  have hl := W.len
  have hs := sends_nn g 0 g.code
  have hpl : g.parts.length = g.code.length := parts_len g 0 g.code [] 0
  have hI : Inv g 0 [] := fun _ h => by simp [GM.lead] at h
  have hp := parts_ok W (sends g 0 g.code) g.code 0 [] 0 (by simp) hI (Int.le_refl _) (by omega)
  have hu := parts_up g g.code 0 [] 0
  unfold okU
  simp only [Bool.and_eq_true]
  refine ⟨⟨⟨?_, ?_⟩, ?_⟩, ?_⟩
  · rw [numsOk_iff]
    simp only [GM.unit]
    refine ⟨hm, ha, hT, ?_, ?_, ?_⟩ <;> omega
  · rw [startsOk_iff]
    simp only [GM.unit, starts_lenG, List.length_map, hpl]
    refine ⟨by omega, by omega, trivial, starts_head _ _, ?_, starts_rise _ _⟩
    have h9 := starts_last 0 (g.parts.map (·.1))
    rw [List.length_map, hpl] at h9
    rw [Nat.add_sub_cancel, h9, flat_map]
    simp
  · simp only [GM.unit, List.all_map]
    exact List.all_eq_true.2 fun q hq => (hp q hq).2
  · rw [codeOk_iff]
    simp only [GM.unit, List.length_map, hpl]
    refine ⟨fun i hi => by simp at hi, rfl, ?_, apart_of hu.1⟩
    rw [List.all_eq_true]
    intro x hx
    obtain ⟨q, hq, hx⟩ := List.mem_flatMap.1 hx
    exact List.all_eq_true.1 (hp q hq).1 x hx
end Go.Proofs.YtomcfjckhajhmabGreatDoor
namespace Go.Proofs.YtomcfjckhajhmabGreatDoor

/-- what is noted ahead of an instruction by the one before, and how many Sends came before -/
def GM.nk (g : GM) : Nat → List Sr × Int
  | 0 => ([], 0)
  | p + 1 => match g.code[p]? with
    | some i => if g.on p then ((one g (g.lead (p + 1)) i (g.noted p (g.nk p).1) (g.nk p).2).2, if i.op = 11 then (g.nk p).2 + 1 else (g.nk p).2) else g.nk p
    | none => g.nk p
/-- what is noted ahead of an instruction -/
def GM.N (g : GM) (p : Nat) : List Sr := g.noted p (g.nk p).1
/-- its code, and what is noted behind it -/
def GM.cd (g : GM) (p : Nat) (i : GI) : List Ii × List Sr := one g (g.lead (p + 1)) i (g.N p) (g.nk p).2
theorem GM.nk_on {g : GM} {p : Nat} {i : GI} (hi : g.code[p]? = some i) (ho : g.on p) : g.nk (p + 1) = ((g.cd p i).2, if i.op = 11 then (g.nk p).2 + 1 else (g.nk p).2) := by
  rw [GM.nk, hi]
  simp only [if_pos ho]
  rfl
theorem GM.nk_off {g : GM} {p : Nat} (ho : ¬ g.on p) : g.nk (p + 1) = g.nk p := by
  rw [GM.nk]
  split
  · rw [if_neg ho]
  · rfl
theorem parts_from (g : GM) : ∀ (l : List GI) (p : Nat), g.code.drop p = l → ∀ (j : Nat) (i : GI), l[j]? = some i → (parts g p l (g.nk p).1 (g.nk p).2)[j]? = some (if g.on (p + j) then ((g.cd (p + j) i).1, tregs g.temps ++ g.N (p + j)) else ([], []))
  | [], _, _, j, i, h => by simp at h
  | i0 :: l, p, hd, j, i, h => by
    obtain ⟨hi, hd2⟩ := drop_cons hd
    unfold parts
    by_cases ho : g.on p
    · have hk := g.nk_on hi ho
      rw [if_pos ho]
      cases j with
      | zero =>
        cases h
        simp only [List.getElem?_cons_zero, Nat.add_zero, if_pos ho]
        rfl
      | succ j =>
        rw [List.getElem?_cons_succ] at h ⊢
        have h9 := parts_from g l (p + 1) hd2 j i h
        rw [hk] at h9
        rw [show p + (j + 1) = p + 1 + j by omega]
        exact h9
    · rw [if_neg ho]
      cases j with
      | zero =>
        cases h
        simp only [List.getElem?_cons_zero, Nat.add_zero, if_neg ho]
      | succ j =>
        rw [List.getElem?_cons_succ] at h ⊢
        have h9 := parts_from g l (p + 1) hd2 j i h
        rw [g.nk_off ho] at h9
        rw [show p + (j + 1) = p + 1 + j by omega]
        exact h9
theorem GM.parts_at (g : GM) {p : Nat} {i : GI} (h : g.code[p]? = some i) : g.parts[p]? = some (if g.on p then ((g.cd p i).1, tregs g.temps ++ g.N p) else ([], [])) := by
  have h9 := parts_from g g.code 0 (by simp) p i h
  rw [Nat.zero_add] at h9
  exact h9
theorem GM.inv {g : GM} (W : g.wf) : ∀ p, Inv g p (g.nk p).1
  | 0 => fun _ h => by simp [GM.lead] at h
  | p + 1 => by
    by_cases ho : g.on p
    · have hl : p < g.code.length := by
        have h9 : g.on p := ho
        unfold GM.on at h9
        by_cases h : p < g.code.length
        · exact h
        · rw [List.getD_eq_getElem?_getD, List.getElem?_eq_none (by rw [W.dl]; omega)] at h9
          simp at h9
      have hi := List.getElem?_eq_getElem hl
      rw [g.nk_on hi ho]
      have hN := (GM.inv W p).noted ho
      exact one_inv W hi ho hN.1 hN.2 _
    · rw [g.nk_off ho]
      exact off_inv W ho _
theorem GM.N_len {g : GM} (W : g.wf) {p : Nat} (ho : g.on p) : (g.N p).length = g.at p := ((GM.inv W p).noted ho).1
theorem GM.N_nts {g : GM} (W : g.wf) {p : Nat} (ho : g.on p) : Nts g.temps (g.N p) := ((GM.inv W p).noted ho).2
/-- a leader finds all at home -/
theorem GM.N_lead {g : GM} {p : Nat} (h : g.lead p = true) : g.N p = homes g.temps (g.at p) := by simp [GM.N, GM.noted, h]
/-- what is noted behind an instruction is what the next one finds, if it is no leader -/
theorem GM.N_next {g : GM} {p : Nat} {i : GI} (hi : g.code[p]? = some i) (ho : g.on p) (h : g.lead (p + 1) = false) : g.N (p + 1) = (g.cd p i).2 := by
  unfold GM.N GM.noted
  rw [h, g.nk_on hi ho]
  simp
/-- the code of a unit, from where an instruction begins to where the next one does -/
theorem starts_atG : ∀ (L : List (List Ii)) (s : Nat) (p : Nat) (c : List Ii), L[p]? = some c → ∃ b : Nat, (startsL s L)[p]? = some (((s + b : Nat)) : Int) ∧ (startsL s L)[p + 1]? = some (((s + b + c.length : Nat)) : Int) ∧ ∀ j, j < c.length → L.flatten[b + j]? = c[j]?
  | [], _, p, c, h => by simp at h
  | c0 :: L, s, 0, c, h => by
    cases h
    refine ⟨0, rfl, ?_, fun j hj => ?_⟩
    · rw [startsL, List.getElem?_cons_succ]
      rw [starts_head]
      simp
    · rw [Nat.zero_add, List.flatten_cons, List.getElem?_append_left hj]
  | c0 :: L, s, p + 1, c, h => by
    rw [List.getElem?_cons_succ] at h
    obtain ⟨b, h1, h2, h3⟩ := starts_atG L (s + c0.length) p c h
    refine ⟨c0.length + b, ?_, ?_, fun j hj => ?_⟩
    · rw [startsL, List.getElem?_cons_succ, show s + (c0.length + b) = s + c0.length + b by omega, ← h1]
      simp
    · rw [startsL, List.getElem?_cons_succ, show s + (c0.length + b) + c.length = s + c0.length + b + c.length by omega, ← h2]
      simp
    · rw [List.flatten_cons, List.getElem?_append_right (by omega), show c0.length + b + j - c0.length = b + j by omega]
      exact h3 j hj
/-- where the code of an instruction lies in a unit, and its map -/
theorem GM.unit_at (g : GM) (method : Int) {p : Nat} {i : GI} (h : g.code[p]? = some i) : ∃ b : Nat, (g.unit method).starts[p]? = some (b : Int) ∧ (g.unit method).starts[p + 1]? = some ((b + (if g.on p then (g.cd p i).1 else []).length : Nat) : Int) ∧ (∀ j, j < (if g.on p then (g.cd p i).1 else []).length → (g.unit method).code[b + j]? = (if g.on p then (g.cd p i).1 else [])[j]?) ∧ (g.unit method).maps[p]? = some ⟨none, if g.on p then tregs g.temps ++ g.N p else [], 0⟩ := by
  have h1 := g.parts_at h
  have h2 : (g.parts.map (·.1))[p]? = some (if g.on p then (g.cd p i).1 else []) := by
    rw [List.getElem?_map, h1]
    split <;> rfl
  obtain ⟨b, e1, e2, e3⟩ := starts_atG (g.parts.map (·.1)) 0 p _ h2
  rw [Nat.zero_add] at e1 e2
  refine ⟨b, e1, e2, fun j hj => e3 j hj, ?_⟩
  simp only [GM.unit]
  rw [List.getElem?_map, h1]
  split <;> rfl
end Go.Proofs.YtomcfjckhajhmabGreatDoor
namespace Go.Proofs.YtomcfjckhajhmabGreatDoor

/-- what words, the receiver and operations come to -/
structure Sem where
  lit : Int → Int
  slf : Int
  mix : Int → List Int → Int
/-- what a source holds -/
def ev (S : Sem) (R : List Int) (s : Sr) : Int := if s.kind = 0 then R.getD s.n.toNat 0 else if s.kind = 1 then S.lit s.w else S.slf
/-- code that is run: registers, where it goes on, what was told; none: something is left to do behind an answer that may come later -/
def runC (S : Sem) (turn : Bool) : List Ii → List Int → Int → Int → Option (List Int × Int × Int)
  | [], R, nx, td => some (R, nx, td)
  | x :: r, R, nx, td =>
    if x.op = 1 then runC S turn r (R.set x.d.n.toNat ((x.l.map (ev S R)).getD 0 0)) nx td
    else if x.op = 3 then runC S turn r (R.set x.d.n.toNat (S.mix 4 [x.n])) nx td
    else if x.op = 4 then runC S turn r R nx (S.mix 5 [x.n, (x.l.map (ev S R)).getD 0 0])
    else if r ≠ [] then none
    else if x.op = 2 then some (R.set x.d.n.toNat (S.mix (13 + x.n) (x.l.map (ev S R))), nx, td)
    else if x.op = 7 then some (R.set x.d.n.toNat (S.mix (11 + x.w % 1000) (x.l.map (ev S R))), nx, td)
    else if x.op = 5 then some (R, x.n, td)
    else if x.op = 6 then some (R, if turn = true then x.n else nx, S.mix (if x.w = 3 then 15 else 16) (x.l.map (ev S R)))
    else if x.op = 8 then some (R, -1, S.mix 17 (x.l.map (ev S R)))
    else some (R, -1, td)
/-- the bytecode: where it goes on, what was told, the temporaries, the stack -/
def stepP (S : Sem) (g : GM) (p : Int) (i : GI) (turn : Bool) (Tm K : List Int) : (Int × Int) × List Int × List Int :=
  if i.op = 1 then ((p + 1, 0), Tm, K ++ [Tm.getD i.a.toNat 0])
  else if i.op = 2 then ((p + 1, 0), Tm.set i.a.toNat (K.getLastD 0), K.dropLast)
  else if i.op = 3 then ((p + 1, 0), Tm, K ++ [S.lit (g.lit i.a)])
  else if i.op = 4 then ((p + 1, 0), Tm, K ++ [S.mix 4 [i.a]])
  else if i.op = 5 then ((p + 1, S.mix 5 [i.a, K.getLastD 0]), Tm, K.dropLast)
  else if i.op = 6 then ((p + 1, 0), Tm, K ++ [S.slf])
  else if i.op = 8 then ((p + 1, 0), Tm, K ++ [S.lit (numW (i.a - 2048))])
  else if i.op = 9 then ((p + 1, 0), Tm, K ++ [K.getLastD 0])
  else if i.op = 10 then ((p + 1, 0), Tm, K.dropLast)
  else if i.op = 11 then ((p + 1, 0), Tm, K.take (K.length - i.takes) ++ [S.mix (11 + g.lit i.a % 1000) (K.drop (K.length - i.takes))])
  else if i.op = 13 then ((p + 1, 0), Tm, K.take (K.length - i.takes) ++ [S.mix (13 + i.a) (K.drop (K.length - i.takes))])
  else if i.op = 14 then ((i.a, 0), Tm, K)
  else if i.op = 15 ∨ i.op = 16 then ((if turn = true then i.a else p + 1, S.mix i.op [K.getLastD 0]), Tm, K.dropLast)
  else if i.op = 17 then ((-1, S.mix 17 [K.getLastD 0]), Tm, K.dropLast)
  else if i.op = 18 then ((-1, S.mix 17 [S.slf]), Tm, K)
  else ((-1, 0), Tm, K)
/-- registers hold what temporaries and stack hold, by what is noted -/
structure Ag (S : Sem) (g : GM) (N : List Sr) (R Tm K : List Int) : Prop where
  len : (R.length : Int) = g.temps + g.stack
  tm : (Tm.length : Int) = g.temps
  t : ∀ t : Nat, (t : Int) < g.temps → R[t]? = Tm[t]?
  k : N.map (ev S R) = K

theorem ev_congr {S : Sem} {R R' : List Int} {s : Sr} (h : s.kind = 0 → R'[s.n.toNat]? = R[s.n.toNat]?) : ev S R' s = ev S R s := by
  unfold ev
  split
  · next h0 => rw [List.getD_eq_getElem?_getD, List.getD_eq_getElem?_getD, h h0]
  · rfl
theorem ev_home {S : Sem} {R : List Int} {tn d : Nat} {x : Int} (h : R[tn + d]? = some x) : ev S R (home (tn : Int) d) = x := by
  have e : ((tn : Int) + (d : Int)).toNat = tn + d := by omega
  simp [ev, home, e, List.getD_eq_getElem?_getD, h]
theorem run_mv (S : Sem) (turn : Bool) (d s : Sr) (C : List Ii) (R : List Int) (nx td : Int) : runC S turn (mvI d s :: C) R nx td = runC S turn C (R.set d.n.toNat (ev S R s)) nx td := by
  simp [runC, mvI, mkI]
/-- each word that is not at home is brought there; what lies elsewhere stays -/
theorem bring_run (S : Sem) (turn : Bool) (tn : Nat) (N : List Sr) (hN : Nts (tn : Int) N) (C : List Ii) (nx td : Int) : ∀ (L : List Sr) (d : Nat) (R : List Int), N.drop d = L → tn + N.length ≤ R.length →
    ∃ R', runC S turn (bringC (tn : Int) d L ++ C) R nx td = runC S turn C R' nx td ∧ R'.length = R.length ∧ (∀ q, (∀ e, d ≤ e → e < N.length → N[e]? ≠ some (home (tn : Int) e) → q ≠ tn + e) → R'[q]? = R[q]?) ∧ ∀ e s, d ≤ e → N[e]? = some s → R'[tn + e]? = some (ev S R s)
  | [], d, R, hd, hl => by
    refine ⟨R, rfl, rfl, fun _ _ => rfl, fun e s he hs => ?_⟩
    have h1 := (List.getElem?_eq_some_iff.1 hs).1
    have h2 := congrArg List.length hd
    simp at h2
    omega
  | s :: L, d, R, hd, hl => by
    obtain ⟨hs, hd2⟩ := drop_cons hd
    have hdl := (List.getElem?_eq_some_iff.1 hs).1
    rw [bringC]
    by_cases h : s = home (tn : Int) d
    · rw [if_pos h, List.nil_append]
      obtain ⟨R', h1, h2, h3, h4⟩ := bring_run S turn tn N hN C nx td L (d + 1) R hd2 hl
      refine ⟨R', h1, h2, fun q hq => h3 q (fun e he => hq e (by omega)), fun e s2 he hs2 => ?_⟩
      by_cases hed : e = d
      · subst hed
        rw [hs] at hs2
        cases hs2
        rw [h3 (tn + e) (fun e2 h5 _ _ => by omega), List.getElem?_eq_getElem (by omega)]
        rw [h, ev_home (List.getElem?_eq_getElem (by omega))]
      · exact h4 e s2 (by omega) hs2
    · rw [if_neg h, List.cons_append, List.nil_append, List.cons_append, run_mv]
      have e9 : (home (tn : Int) d).n.toNat = tn + d := by simp [home]; omega
      rw [e9]
      obtain ⟨R', h1, h2, h3, h4⟩ := bring_run S turn tn N hN C nx td L (d + 1) (R.set (tn + d) (ev S R s)) hd2 (by rw [List.length_set]; exact hl)
      refine ⟨R', h1, by rw [h2, List.length_set], fun q hq => ?_, fun e s2 he hs2 => ?_⟩
      · rw [h3 q (fun e he => hq e (by omega)), List.getElem?_set_ne]
        exact fun hh => hq d (Nat.le_refl _) hdl (by rw [hs]; exact fun hc => h (by cases hc; rfl)) hh.symm
      · by_cases hed : e = d
        · subst hed
          rw [hs] at hs2
          cases hs2
          rw [h3 (tn + e) (fun e2 h5 _ _ => by omega), List.getElem?_set_self (by omega)]
        · rw [h4 e s2 (by omega) hs2]
          refine congrArg some (ev_congr fun h0 => ?_)
          rw [List.getElem?_set_ne]
          intro hh
          rcases hN e s2 hs2 with ⟨a, a0, a1, rfl⟩ | ⟨w, -, rfl⟩ | rfl | ⟨d2, -, rfl, hd3⟩
          · simp only [regS] at hh; omega
          · simp [litS] at h0
          · simp [slfS] at h0
          · simp only [home] at hh
            obtain rfl : d2 = d := by omega
            rw [hs] at hd3
            exact h (by cases hd3; rfl)
/-- a temporary is brought home wherever it is noted -/
theorem flush_run (S : Sem) (turn : Bool) (tn : Nat) (N : List Sr) {a : Int} (ha0 : 0 ≤ a) (ha : a < tn) (C : List Ii) (nx td : Int) : ∀ (L : List Sr) (d : Nat) (R : List Int), N.drop d = L → tn + N.length ≤ R.length →
    ∃ R', runC S turn (flushC (tn : Int) a d L ++ C) R nx td = runC S turn C R' nx td ∧ R'.length = R.length ∧ (∀ q, (∀ e, d ≤ e → N[e]? = some (regS a) → q ≠ tn + e) → R'[q]? = R[q]?) ∧ ∀ e, d ≤ e → N[e]? = some (regS a) → R'[tn + e]? = some (ev S R (regS a))
  | [], d, R, hd, hl => by
    refine ⟨R, rfl, rfl, fun _ _ => rfl, fun e he hs => ?_⟩
    have h1 := (List.getElem?_eq_some_iff.1 hs).1
    have h2 := congrArg List.length hd
    simp at h2
    omega
  | s :: L, d, R, hd, hl => by
    obtain ⟨hs, hd2⟩ := drop_cons hd
    have hdl := (List.getElem?_eq_some_iff.1 hs).1
    rw [flushC]
    by_cases h : s = regS a
    · rw [if_pos h, List.cons_append, List.nil_append, List.cons_append, run_mv]
      have e9 : (home (tn : Int) d).n.toNat = tn + d := by simp [home]; omega
      rw [e9, h]
      obtain ⟨R', h1, h2, h3, h4⟩ := flush_run S turn tn N ha0 ha C nx td L (d + 1) (R.set (tn + d) (ev S R (regS a))) hd2 (by rw [List.length_set]; exact hl)
      have hev : ev S (R.set (tn + d) (ev S R (regS a))) (regS a) = ev S R (regS a) := ev_congr fun _ => by
        rw [List.getElem?_set_ne]
        simp only [regS]
        omega
      refine ⟨R', h1, by rw [h2, List.length_set], fun q hq => ?_, fun e he hs2 => ?_⟩
      · rw [h3 q (fun e he => hq e (by omega)), List.getElem?_set_ne]
        exact fun hh => hq d (Nat.le_refl _) (by rw [hs, h]) hh.symm
      · by_cases hed : e = d
        · subst hed
          rw [h3 (tn + e) (fun e2 h5 _ => by omega), List.getElem?_set_self (by omega)]
        · rw [h4 e (by omega) hs2, hev]
    · rw [if_neg h, List.nil_append]
      obtain ⟨R', h1, h2, h3, h4⟩ := flush_run S turn tn N ha0 ha C nx td L (d + 1) R hd2 hl
      refine ⟨R', h1, h2, fun q hq => h3 q (fun e he => hq e (by omega)), fun e he hs2 => ?_⟩
      by_cases hed : e = d
      · subst hed
        rw [hs] at hs2
        exact absurd (by cases hs2; rfl) h
      · exact h4 e (by omega) hs2
end Go.Proofs.YtomcfjckhajhmabGreatDoor
namespace Go.Proofs.YtomcfjckhajhmabGreatDoor

theorem Ag.klen {S : Sem} {g : GM} {N : List Sr} {R Tm K : List Int} (A : Ag S g N R Tm K) : K.length = N.length := by rw [← A.k, List.length_map]
theorem Ag.top {S : Sem} {g : GM} {N : List Sr} {R Tm K : List Int} (A : Ag S g N R Tm K) (h : 0 < N.length) : K.getLastD 0 = ev S R (top N) := by
  rw [List.getLastD_eq_getLast?, List.getLast?_eq_getElem?, ← A.k, List.length_map, List.getElem?_map, top_at h]
  rfl
theorem Ag.drop {S : Sem} {g : GM} {N : List Sr} {R Tm K : List Int} (A : Ag S g N R Tm K) : Ag S g N.dropLast R Tm K.dropLast := ⟨A.len, A.tm, A.t, by rw [← A.k, List.map_dropLast]⟩
theorem Ag.push {S : Sem} {g : GM} {N : List Sr} {R Tm K : List Int} (A : Ag S g N R Tm K) {s : Sr} {x : Int} (h : ev S R s = x) : Ag S g (N ++ [s]) R Tm (K ++ [x]) := ⟨A.len, A.tm, A.t, by rw [List.map_append, A.k, List.map_singleton, h]⟩
theorem Ag.reg {S : Sem} {g : GM} {N : List Sr} {R Tm K : List Int} (A : Ag S g N R Tm K) {a : Int} (h0 : 0 ≤ a) (h : a < g.temps) : ev S R (regS a) = Tm.getD a.toNat 0 := by
  have h1 := A.t a.toNat (by omega)
  simp only [ev, regS, if_true, List.getD_eq_getElem?_getD, h1]
/-- a register that no source reads -/
theorem Nts.apart {S : Sem} {tn : Nat} {N : List Sr} (h : Nts (tn : Int) N) {q : Nat} (hq : tn ≤ q) (hd : ∀ e, e < N.length → N[e]? = some (home (tn : Int) e) → q ≠ tn + e) (R : List Int) (x : Int) : ∀ s ∈ N, ev S (R.set q x) s = ev S R s := by
  intro s hs
  obtain ⟨e, he⟩ := List.getElem?_of_mem hs
  have hel := (List.getElem?_eq_some_iff.1 he).1
  refine ev_congr fun h0 => ?_
  rw [List.getElem?_set_ne]
  intro hh
  rcases h e s he with ⟨a, a0, a1, rfl⟩ | ⟨w, -, rfl⟩ | rfl | ⟨d, hde, rfl, hd3⟩
  · simp only [regS] at hh; omega
  · simp [litS] at h0
  · simp [slfS] at h0
  · simp only [home] at hh
    exact hd d (by omega) hd3 (by omega)
/-- the words that are brought home -/
theorem Ag.bring {S : Sem} {g : GM} {N : List Sr} {R Tm K : List Int} (A : Ag S g N R Tm K) {tn : Nat} (htn : g.temps = tn) (hN : Nts g.temps N) (hl : (N.length : Int) ≤ g.stack) (turn : Bool) (C : List Ii) (nx td : Int) :
    ∃ R', runC S turn (bringC g.temps 0 N ++ C) R nx td = runC S turn C R' nx td ∧ Ag S g (homes g.temps N.length) R' Tm K ∧ (∀ q, (∀ e, e < N.length → N[e]? ≠ some (home (tn : Int) e) → q ≠ tn + e) → R'[q]? = R[q]?) := by
  rw [htn] at hN ⊢
  have hlen := A.len
  rw [htn] at hlen
  obtain ⟨R', h1, h2, h3, h4⟩ := bring_run S turn tn N hN C nx td N 0 R rfl (by omega)
  refine ⟨R', h1, ⟨by rw [h2]; exact A.len, A.tm, fun t ht => ?_, ?_⟩, fun q hq => h3 q (fun e _ => hq e)⟩
  · rw [htn] at ht
    rw [h3 t (fun e _ _ _ => by omega)]
    exact A.t t (by omega)
  · rw [← A.k]
    refine List.ext_getElem? fun e => ?_
    rw [List.getElem?_map, List.getElem?_map]
    by_cases he : e < N.length
    · rw [homes_at he, List.getElem?_eq_getElem he]
      simp only [Option.map_some, Option.some.injEq]
      exact ev_home (h4 e _ (Nat.zero_le _) (List.getElem?_eq_getElem he))
    · rw [List.getElem?_eq_none (by rw [homes_len]; omega), List.getElem?_eq_none (by omega)]
      rfl
theorem Ag.fin {S : Sem} {g : GM} {N : List Sr} {R Tm K : List Int} (A : Ag S g N R Tm K) (hT : 0 ≤ g.temps) (hN : Nts g.temps N) (hl : (N.length : Int) ≤ g.stack) (turn nx : Bool) (p td : Int) :
    ∃ R', runC S turn (if nx = true then bringC g.temps 0 N else []) R p td = some (R', p, td) ∧ Ag S g (if nx = true then homes g.temps N.length else N) R' Tm K := by
  cases nx
  · exact ⟨R, rfl, A⟩
  · obtain ⟨R', h1, h2, -⟩ := A.bring (tn := g.temps.toNat) (by omega) hN hl turn [] p td
    rw [List.append_nil] at h1
    exact ⟨R', by simp only [if_true]; rw [h1]; rfl, h2⟩
/-- an instruction that asks nobody -/
theorem plain_sim {S : Sem} {g : GM} (W : g.wf) {p : Nat} {i : GI} (hi : g.code[p]? = some i) (ho : g.on p) {N : List Sr} (hl : N.length = g.at p) (hN : Nts g.temps N) {R Tm K : List Int} (A : Ag S g N R Tm K) (turn : Bool) (hop : i.op = 1 ∨ i.op = 2 ∨ i.op = 3 ∨ i.op = 4 ∨ i.op = 5 ∨ i.op = 6 ∨ i.op = 8 ∨ i.op = 9 ∨ i.op = 10) :
    ∃ R1 td Tm1 K1, (∀ C, runC S turn ((plain g i N).1 ++ C) R ((p : Int) + 1) 0 = runC S turn C R1 ((p : Int) + 1) td) ∧ Ag S g (plain g i N).2 R1 Tm1 K1 ∧ stepP S g p i turn Tm K = (((p : Int) + 1, td), Tm1, K1) := by
  obtain ⟨hn, hn2⟩ := W.need p i hi ho
  have hm := List.mem_of_getElem? hi
  have hr := W.op i hm
  have hy := W.may i hm
  have ht := W.temps
  have ha := W.args
  have hst := W.stack
  have hf := W.fits p ho
  obtain ⟨tn, htn⟩ : ∃ tn : Nat, g.temps = tn := ⟨g.temps.toNat, by omega⟩
  have hlen := A.len
  have hkl := A.klen
  rcases hop with h | h | h | h | h | h | h | h | h
  all_goals simp only [GI.need, GI.left, h] at hn hn2
  all_goals simp at hn hn2
  · rw [show plain g i N = ([], N ++ [regS i.a]) by simp [plain, h]]
    exact ⟨R, 0, Tm, _, fun C => rfl, A.push (A.reg hr.2.2.1 (hy.1 (.inl h))), by simp [stepP, h]⟩
  · have hal := hy.1 (.inr h)
    by_cases ht2 : top N = regS i.a
    · rw [show plain g i N = ([], N.dropLast) by simp [plain, h, ht2]]
      refine ⟨R, 0, Tm, K.dropLast, fun C => rfl, A.drop, ?_⟩
      have h9 := A.top (by omega)
      rw [ht2, A.reg hr.2.2.1 hal] at h9
      simp only [stepP, h]
      simp only [show ¬ ((2 : Int) = 1) by omega, if_false, if_true]
      rw [h9]
      have htm := A.tm
      have : Tm.set i.a.toNat (Tm.getD i.a.toNat 0) = Tm := by
        refine List.ext_getElem? fun e => ?_
        rw [List.getElem?_set]
        split
        · next he =>
          subst he
          rw [List.getD_eq_getElem?_getD]
          have hlt : i.a.toNat < Tm.length := by omega
          rw [if_pos hlt, List.getElem?_eq_getElem hlt]
          rfl
        · rfl
      rw [this]
    · have hpl : plain g i N = (flushC g.temps i.a 0 N.dropLast ++ [mvI (regS i.a) (top N)], flushN g.temps i.a 0 N.dropLast) := by simp [plain, h, ht2]
      rw [hpl]
      have hND := hN.dropLast
      have hdl : N.dropLast.length = N.length - 1 := by simp
      rw [htn] at hN hND hal hlen ⊢
      have hrun := fun C => flush_run S turn tn N.dropLast hr.2.2.1 hal C ((p : Int) + 1) 0 N.dropLast 0 R rfl (by omega)
      obtain ⟨R1, -, e2, e3, e4⟩ := hrun []
      have hR1 : ∀ C, runC S turn (flushC (tn : Int) i.a 0 N.dropLast ++ C) R ((p : Int) + 1) 0 = runC S turn C R1 ((p : Int) + 1) 0 := by
        intro C
        obtain ⟨R2, f1, f2, f3, f4⟩ := hrun C
        have : R2 = R1 := by
          refine List.ext_getElem? fun q => ?_
          by_cases hq : ∃ e, N.dropLast[e]? = some (regS i.a) ∧ q = tn + e
          · obtain ⟨e, he, rfl⟩ := hq
            rw [f4 e (Nat.zero_le _) he, e4 e (Nat.zero_le _) he]
          · rw [f3 q (fun e _ he hh => hq ⟨e, he, hh⟩), e3 q (fun e _ he hh => hq ⟨e, he, hh⟩)]
        rw [f1, this]
      -- what the sources hold then
      have hsame : ∀ s : Sr, (s.kind = 0 → ∀ e, N.dropLast[e]? = some (regS i.a) → s.n.toNat ≠ tn + e) → ev S R1 s = ev S R s := fun s hs => ev_congr fun h0 => e3 _ (fun e _ he => hs h0 e he)
      have htop : ev S R1 (top N) = ev S R (top N) := hsame _ fun h0 e he hh => by
        rcases top_nts hN (by omega) with ⟨a, a0, a1, h1⟩ | ⟨w, -, h1⟩ | h1 | ⟨d, hd, h1, h2⟩
        · rw [h1] at hh; simp only [regS] at hh; omega
        · rw [h1] at h0; simp [litS] at h0
        · rw [h1] at h0; simp [slfS] at h0
        · rw [h1] at hh
          simp only [home] at hh
          obtain rfl : d = e := by omega
          have hel := (List.getElem?_eq_some_iff.1 he).1
          rw [List.dropLast_eq_take, List.getElem?_take_of_lt (by omega), h2] at he
          exact home_ne hal d (Option.some.inj he)
      refine ⟨R1.set i.a.toNat (ev S R (top N)), 0, Tm.set i.a.toNat (K.getLastD 0), K.dropLast, fun C => ?_, ⟨?_, ?_, ?_, ?_⟩, by simp [stepP, h]⟩
      · rw [List.append_assoc, hR1, List.singleton_append, run_mv, htop]
        rfl
      · rw [List.length_set, e2, htn]
        exact hlen
      · rw [List.length_set]; exact A.tm
      · intro t htl
        rw [htn] at htl
        rw [A.top (by omega), List.getElem?_set, List.getElem?_set]
        have h9 : R1[t]? = Tm[t]? := by
          rw [e3 t (fun e _ _ => by omega)]
          exact A.t t (by omega)
        have hb := A.tm
        rw [h9]
        split
        · next he =>
          rw [if_pos (by omega), if_pos (by omega)]
        · rfl
      · rw [← A.k, ← List.map_dropLast]
        refine List.ext_getElem? fun e => ?_
        rw [List.getElem?_map, List.getElem?_map, flushN_at]
        cases hs : N.dropLast[e]? with
        | none => rfl
        | some s =>
          simp only [Option.map_some, Option.some.injEq, Nat.zero_add]
          have hel := (List.getElem?_eq_some_iff.1 hs).1
          by_cases hsa : s = regS i.a
          · rw [if_pos hsa, hsa]
            refine ev_home ?_
            rw [List.getElem?_set_ne (by omega)]
            exact e4 e (Nat.zero_le _) (by rw [hs, hsa])
          · rw [if_neg hsa]
            have h1 : ev S (R1.set i.a.toNat (ev S R (top N))) s = ev S R1 s := ev_congr fun h0 => by
              rw [List.getElem?_set_ne]
              intro hh
              rcases hND e s hs with ⟨a, a0, a1, rfl⟩ | ⟨w, -, rfl⟩ | rfl | ⟨d, hd, rfl, -⟩
              · simp only [regS] at hh
                exact hsa (by rw [show a = i.a by omega])
              · simp [litS] at h0
              · simp [slfS] at h0
              · simp only [home] at hh; omega
            rw [h1]
            refine hsame s fun h0 e2 he2 hh => ?_
            rcases hND e s hs with ⟨a, a0, a1, rfl⟩ | ⟨w, -, rfl⟩ | rfl | ⟨d, hd, rfl, hd3⟩
            · simp only [regS] at hh; omega
            · simp [litS] at h0
            · simp [slfS] at h0
            · simp only [home] at hh
              obtain rfl : d = e2 := by omega
              rw [hd3] at he2
              exact home_ne hal d (Option.some.inj he2)
  · rw [show plain g i N = ([], N ++ [litS (g.lit i.a)]) by simp [plain, h]]
    exact ⟨R, 0, Tm, _, fun C => rfl, A.push (x := S.lit (g.lit i.a)) (by simp [ev, litS]), by simp [stepP, h]⟩
  · rw [show plain g i N = ([mkI 3 i.a (home g.temps N.length) [] 0], N ++ [home g.temps N.length]) by simp [plain, h]]
    rw [htn] at hN ⊢
    have e9 : (home (tn : Int) N.length).n.toNat = tn + N.length := by simp [home]; omega
    refine ⟨R.set (tn + N.length) (S.mix 4 [i.a]), 0, Tm, K ++ [S.mix 4 [i.a]], fun C => ?_, ⟨?_, A.tm, fun t htl => ?_, ?_⟩, by simp [stepP, h]⟩
    · rw [List.singleton_append]
      simp [runC, mkI, e9]
    · rw [List.length_set]; exact hlen
    · rw [htn] at htl
      rw [List.getElem?_set_ne (by omega)]
      exact A.t t (by omega)
    · rw [List.map_append, List.map_congr_left (hN.apart (q := tn + N.length) (by omega) (fun e he _ => by omega) R _), A.k, List.map_singleton, ev_home (List.getElem?_set_self (by omega))]
  · rw [show plain g i N = ([mkI 4 i.a zeroS [top N] 0], N.dropLast) by simp [plain, h]]
    refine ⟨R, S.mix 5 [i.a, ev S R (top N)], Tm, K.dropLast, fun C => ?_, A.drop, by simp only [stepP, h]; rw [A.top (by omega)]; simp⟩
    rw [List.singleton_append]
    simp [runC, mkI]
  · rw [show plain g i N = ([], N ++ [slfS]) by simp [plain, h]]
    exact ⟨R, 0, Tm, _, fun C => rfl, A.push (x := S.slf) (by simp [ev, slfS]), by simp [stepP, h]⟩
  · rw [show plain g i N = ([], N ++ [litS (numW (i.a - 2048))]) by simp [plain, h]]
    exact ⟨R, 0, Tm, _, fun C => rfl, A.push (x := S.lit (numW (i.a - 2048))) (by simp [ev, litS]), by simp [stepP, h]⟩
  · rw [show plain g i N = ([], N ++ [top N]) by simp [plain, h]]
    exact ⟨R, 0, Tm, _, fun C => rfl, A.push (A.top (by omega)).symm, by simp [stepP, h]⟩
  · rw [show plain g i N = ([], N.dropLast) by simp [plain, h]]
    exact ⟨R, 0, Tm, _, fun C => rfl, A.drop, by simp [stepP, h]⟩
end Go.Proofs.YtomcfjckhajhmabGreatDoor
namespace Go.Proofs.YtomcfjckhajhmabGreatDoor

theorem GM.on_lt {g : GM} (W : g.wf) {p : Nat} (h : g.on p) : p < g.code.length := by
  unfold GM.on at h
  by_cases hp : p < g.code.length
  · exact hp
  · rw [List.getD_eq_getElem?_getD, List.getElem?_eq_none (by rw [W.dl]; omega)] at h
    simp at h
/-- an instruction that asks: its operands, its answer, what is noted then -/
theorem ask_sim {S : Sem} {g : GM} (W : g.wf) {p : Nat} {i : GI} (hi : g.code[p]? = some i) (ho : g.on p) {N : List Sr} (hl : N.length = g.at p) (hN : Nts g.temps N) {R Tm K : List Int} (A : Ag S g N R Tm K) (turn nx : Bool) (k : Int) (h : i.op = 13 ∨ i.op = 11) :
    ∃ R' K', runC S turn (one g nx i N k).1 R ((p : Int) + 1) 0 = some (R', (p : Int) + 1, 0) ∧ stepP S g p i turn Tm K = (((p : Int) + 1, 0), Tm, K') ∧ Ag S g (if nx = true then homes g.temps (N.length - i.takes + 1) else (one g nx i N k).2) R' Tm K' := by
  obtain ⟨hn, hn2⟩ := W.need p i hi ho
  have hk := GI.takes_le W hi ho h
  have hf := W.fits p ho
  have ht := W.temps
  have ha := W.args
  have hst := W.stack
  obtain ⟨tn, htn⟩ : ∃ tn : Nat, g.temps = tn := ⟨g.temps.toNat, by omega⟩
  have hlen := A.len
  have hkl := A.klen
  obtain ⟨q, hq⟩ : ∃ q, q = N.length - i.takes := ⟨_, rfl⟩
  have hql : q < N.length := by omega
  have hrl : (N.take q).length = q := by rw [List.length_take]; omega
  have hone : one g nx i N k = ((if nx = true then bringC g.temps 0 (N.take q) else []) ++ [if i.op = 13 then mkI 2 i.a (home g.temps q) (N.drop q) 0 else mkI 7 k (home g.temps q) (N.drop q) (g.lit i.a)], (if nx = true then homes g.temps q else N.take q) ++ [home g.temps q]) := by
    unfold one
    rw [if_pos h]
    simp only [← hq, hrl]
  -- the words below, brought home or not
  have hAr : Ag S g (N.take q) R Tm (K.take q) := ⟨A.len, A.tm, A.t, by rw [← A.k, List.map_take]⟩
  have hb : ∃ R1, (∀ C, runC S turn ((if nx = true then bringC g.temps 0 (N.take q) else []) ++ C) R ((p : Int) + 1) 0 = runC S turn C R1 ((p : Int) + 1) 0) ∧ Ag S g (if nx = true then homes g.temps q else N.take q) R1 Tm (K.take q) ∧ ∀ s ∈ N.drop q, ev S R1 s = ev S R s := by
    cases nx
    · exact ⟨R, fun C => rfl, hAr, fun _ _ => rfl⟩
    · simp only [if_true]
      have hrun := fun C => hAr.bring htn (hN.take q) (by rw [hrl]; omega) turn C ((p : Int) + 1) 0
      obtain ⟨R1, -, e2, e3⟩ := hrun []
      rw [hrl] at e2
      refine ⟨R1, fun C => ?_, e2, fun s hs => ?_⟩
      · obtain ⟨R2, f1, f2, f3⟩ := hrun C
        rw [hrl] at f2
        have : R2 = R1 := by
          have g1 := f2.len
          have g2 := e2.len
          refine List.ext_getElem? fun z => ?_
          by_cases hz : ∃ e, e < q ∧ z = tn + e
          · obtain ⟨e, he, rfl⟩ := hz
            have a1 := congrArg (fun l => l[e]?) f2.k
            have a2 := congrArg (fun l => l[e]?) e2.k
            simp only [List.getElem?_map, homes_at he, Option.map_some] at a1 a2
            have a3 := a1.trans a2.symm
            simp only [Option.some.injEq, ev, home, if_true, htn, List.getD_eq_getElem?_getD] at a3
            rw [show ((tn : Int) + (e : Int)).toNat = tn + e by omega] at a3
            rw [List.getElem?_eq_getElem (by omega), List.getElem?_eq_getElem (by omega)] at a3 ⊢
            simpa using a3
          · rw [f3 z (fun e he _ hh => hz ⟨e, by rw [hrl] at he; exact he, hh⟩), e3 z (fun e he _ hh => hz ⟨e, by rw [hrl] at he; exact he, hh⟩)]
        rw [f1, this]
      · obtain ⟨e, he⟩ := List.getElem?_of_mem hs
        rw [List.getElem?_drop] at he
        refine ev_congr fun h0 => e3 _ fun e2 he2 hne hh => ?_
        rw [hrl] at he2
        rcases hN _ s he with ⟨a, a0, a1, rfl⟩ | ⟨w, -, rfl⟩ | rfl | ⟨d, hd, rfl, hd3⟩
        · simp only [regS] at hh; omega
        · simp [litS] at h0
        · simp [slfS] at h0
        · rw [htn] at hh hd3
          simp only [home] at hh
          obtain rfl : d = e2 := by omega
          rw [List.getElem?_take_of_lt he2] at hne
          exact hne hd3
  obtain ⟨R1, hR1, A1, hops⟩ := hb
  have hL : (N.drop q).map (ev S R1) = K.drop q := by rw [← A.k, ← List.map_drop]; exact List.map_congr_left hops
  have e9 : (home g.temps q).n.toNat = tn + q := by simp [home, htn]; omega
  have h1 := A1.len
  have hfin : ∀ x : Int, Ag S g ((if nx = true then homes g.temps q else N.take q) ++ [home g.temps q]) (R1.set (tn + q) x) Tm (K.take q ++ [x]) := by
    intro x
    refine ⟨by rw [List.length_set]; exact h1, A.tm, fun t htl => ?_, ?_⟩
    · rw [List.getElem?_set_ne (by omega)]
      exact A1.t t htl
    · have hNs : Nts g.temps (if nx = true then homes g.temps q else N.take q) := by
        split
        · exact Nts.homes _ _
        · exact hN.take q
      have hNl : (if nx = true then homes g.temps q else N.take q).length = q := by
        split
        · exact homes_len _ _
        · exact hrl
      rw [htn] at hNs hNl ⊢
      rw [List.map_append, List.map_congr_left (hNs.apart (q := tn + q) (by omega) (fun e he _ => by omega) R1 _), List.map_singleton, ev_home (List.getElem?_set_self (by omega))]
      have := A1.k
      rw [htn] at this
      rw [this]
  have hh2 : nx = true → homes g.temps (N.length - i.takes + 1) = (if nx = true then homes g.temps q else N.take q) ++ [home g.temps q] := by
    intro hx
    rw [if_pos hx, ← hq]
    simp [homes, List.range_succ]
  rw [hone]
  rcases h with h | h
  · refine ⟨R1.set (tn + q) (S.mix (13 + i.a) (K.drop q)), K.take q ++ [S.mix (13 + i.a) (K.drop q)], ?_, ?_, ?_⟩
    · simp only [hR1, if_pos h]
      simp [runC, mkI, hL, e9]
    · simp only [stepP, h]
      simp only [hkl, ← hq]
      simp
    · have hf9 := hfin (S.mix (13 + i.a) (K.drop q))
      cases nx
      · exact hf9
      · simp only [if_true]
        rw [hh2 rfl]
        exact hf9
  · have h13 : ¬ i.op = 13 := by omega
    refine ⟨R1.set (tn + q) (S.mix (11 + g.lit i.a % 1000) (K.drop q)), K.take q ++ [S.mix (11 + g.lit i.a % 1000) (K.drop q)], ?_, ?_, ?_⟩
    · simp only [hR1, if_neg h13]
      simp [runC, mkI, hL, e9]
    · simp only [stepP, h]
      simp only [hkl, ← hq]
      simp
    · have hf9 := hfin (S.mix (11 + g.lit i.a % 1000) (K.drop q))
      cases nx
      · exact hf9
      · simp only [if_true]
        rw [hh2 rfl]
        exact hf9
/-- each instruction that is come to: both machines go on alike, tell alike, and the next map holds what temporaries and stack hold -/
theorem gen_sim {S : Sem} {g : GM} (W : g.wf) {p : Nat} {i : GI} (hi : g.code[p]? = some i) (ho : g.on p) {R Tm K : List Int} (A : Ag S g (g.N p) R Tm K) (turn : Bool) :
    ∃ R' nx td Tm' K', runC S turn (g.cd p i).1 R ((p : Int) + 1) 0 = some (R', nx, td) ∧ stepP S g p i turn Tm K = ((nx, td), Tm', K') ∧ (nx = -1 ∨ ∃ q : Nat, nx = q ∧ q < g.code.length ∧ g.on q ∧ Ag S g (g.N q) R' Tm' K') := by
  have hl := g.N_len W ho
  have hN := g.N_nts W ho
  obtain ⟨hn, hn2⟩ := W.need p i hi ho
  have hr := W.op i (List.mem_of_getElem? hi)
  have hy := W.may i (List.mem_of_getElem? hi)
  have ht := W.temps
  have ha := W.args
  have hT : 0 ≤ g.temps := by omega
  have hf := W.fits p ho
  have hgo := W.next p i hi ho
  have hju := W.jump p i hi ho
  obtain ⟨cd, hcd⟩ : ∃ cd, cd = g.cd p i := ⟨_, rfl⟩
  have hcd2 := hcd
  unfold GM.cd at hcd2
  by_cases ha1 : i.op = 13 ∨ i.op = 11
  · have hg1 : i.goes := by unfold GI.goes; omega
    obtain ⟨h1, h2, h3⟩ := hgo hg1
    have hk := GI.takes_le W hi ho ha1
    obtain ⟨R', K', e1, e2, e3⟩ := ask_sim W hi ho hl hN A turn (g.lead (p + 1)) (g.nk p).2 ha1
    refine ⟨R', _, _, Tm, K', e1, e2, .inr ⟨p + 1, by simp, h1, h2, ?_⟩⟩
    cases hld : g.lead (p + 1)
    · rw [g.N_next hi ho hld]
      rw [hld] at e3
      simp only [Bool.false_eq_true, if_false] at e3
      unfold GM.cd
      rw [hld]
      exact e3
    · rw [g.N_lead hld]
      rw [hld] at e3
      simp only [if_true] at e3
      rw [show g.at (p + 1) = (g.N p).length - i.takes + 1 by omega]
      exact e3
  unfold one at hcd2
  rw [if_neg ha1] at hcd2
  by_cases h14 : i.op = 14
  · rw [if_pos h14] at hcd2
    obtain ⟨j1, j2⟩ := hju (.inl h14)
    have hja := hy.2.2.2 (.inl h14)
    obtain ⟨R', e1, e2, -⟩ := A.bring (tn := g.temps.toNat) (by omega) hN (by omega) turn [mkI 5 i.a zeroS [] 0] ((p : Int) + 1) 0
    refine ⟨R', i.a, 0, Tm, K, ?_, by simp [stepP, h14], .inr ⟨i.a.toNat, by omega, by omega, j1, ?_⟩⟩
    · rw [← hcd, hcd2]
      simp only
      rw [e1]
      simp [runC, mkI]
    · have hld : g.lead i.a.toNat = true := g.lead_jump hi ho (.inl h14) (by omega)
      rw [g.N_lead hld]
      have h1 : i.need = 0 := by simp [GI.need, h14]
      have h2 : i.left = 0 := by simp [GI.left, h14]
      rw [show g.at i.a.toNat = (g.N p).length by omega]
      exact e2
  rw [if_neg h14] at hcd2
  by_cases h15 : i.op = 15 ∨ i.op = 16
  · rw [if_pos h15] at hcd2
    obtain ⟨j1, j2⟩ := hju (.inr h15)
    have hja := hy.2.2.2 (.inr h15)
    have hg1 : i.goes := by unfold GI.goes; omega
    obtain ⟨h1, h2, h3⟩ := hgo hg1
    have hnd : i.need = 1 := by rcases h15 with h | h <;> simp [GI.need, h]
    have hlf : i.left = 0 := by rcases h15 with h | h <;> simp [GI.left, h]
    have hl0 : g.lead p = true := g.lead_of hi ho (by unfold leads; simp; omega)
    have hl1 : g.lead (p + 1) = true := g.lead_next hi ho (by omega)
    have hl2 : g.lead i.a.toNat = true := g.lead_jump hi ho (.inr h15) (by omega)
    have hD := A.drop
    have hdh : (g.N p).dropLast = homes g.temps ((g.N p).length - 1) := by
      rw [g.N_lead hl0, homes_len]
      rw [List.dropLast_eq_take, homes_len]
      refine List.ext_getElem? fun e => ?_
      by_cases he : e < g.at p - 1
      · rw [List.getElem?_take_of_lt he, homes_at he, homes_at (by omega)]
      · rw [List.getElem?_eq_none (by rw [List.length_take, homes_len]; omega), List.getElem?_eq_none (by rw [homes_len]; omega)]
    rw [hdh] at hD
    have htop := A.top (by omega)
    have hop1 : ¬ i.op = 1 ∧ ¬ i.op = 2 ∧ ¬ i.op = 3 ∧ ¬ i.op = 4 ∧ ¬ i.op = 5 ∧ ¬ i.op = 6 ∧ ¬ i.op = 8 ∧ ¬ i.op = 9 ∧ ¬ i.op = 10 ∧ ¬ i.op = 11 ∧ ¬ i.op = 13 := by omega
    refine ⟨R, if turn = true then i.a else (p : Int) + 1, S.mix i.op [K.getLastD 0], Tm, K.dropLast, ?_, ?_, .inr ?_⟩
    · rw [← hcd, hcd2, htop]
      simp only [runC, mkI]
      simp
      rcases h15 with h | h <;> simp [h, numW]
    · simp only [stepP, hop1, h14, if_false]
      rw [if_pos h15]
    · cases turn
      · exact ⟨p + 1, by simp, h1, h2, by rw [g.N_lead hl1, show g.at (p + 1) = (g.N p).length - 1 by omega]; exact hD⟩
      · exact ⟨i.a.toNat, by simp; omega, by omega, j1, by rw [g.N_lead hl2, show g.at i.a.toNat = (g.N p).length - 1 by omega]; exact hD⟩
  rw [if_neg h15] at hcd2
  by_cases h17 : i.op = 17
  · rw [if_pos h17] at hcd2
    have hnd : i.need = 1 := by simp [GI.need, h17]
    refine ⟨R, -1, S.mix 17 [K.getLastD 0], Tm, K.dropLast, ?_, by simp [stepP, h17], .inl rfl⟩
    rw [← hcd, hcd2, A.top (by omega)]
    simp [runC, mkI]
  rw [if_neg h17] at hcd2
  by_cases h18 : i.op = 18
  · rw [if_pos h18] at hcd2
    refine ⟨R, -1, S.mix 17 [S.slf], Tm, K, ?_, by simp [stepP, h18], .inl rfl⟩
    rw [← hcd, hcd2]
    simp [runC, mkI, ev, slfS]
  rw [if_neg h18] at hcd2
  by_cases h9 : i.op = 7 ∨ i.op = 12 ∨ i.op = 19
  · rw [if_pos h9] at hcd2
    refine ⟨R, -1, 0, Tm, K, ?_, by rcases h9 with h | h | h <;> simp [stepP, h], .inl rfl⟩
    rw [← hcd, hcd2]
    simp [runC, mkI]
  rw [if_neg h9] at hcd2
  have hop : i.op = 1 ∨ i.op = 2 ∨ i.op = 3 ∨ i.op = 4 ∨ i.op = 5 ∨ i.op = 6 ∨ i.op = 8 ∨ i.op = 9 ∨ i.op = 10 := by omega
  have hg1 : i.goes := by unfold GI.goes; omega
  obtain ⟨h1, h2, h3⟩ := hgo hg1
  have hpi := plain_inv W hi ho hl hN hop
  obtain ⟨R1, td, Tm1, K1, e1, e2, e3⟩ := plain_sim W hi ho hl hN A turn hop
  obtain ⟨R', f1, f2⟩ := e2.fin hT hpi.2 (by omega) turn (g.lead (p + 1)) ((p : Int) + 1) td
  refine ⟨R', _, td, Tm1, K1, ?_, e3, .inr ⟨p + 1, by simp, h1, h2, ?_⟩⟩
  · rw [← hcd, hcd2]
    simp only
    rw [e1, f1]
  · cases hld : g.lead (p + 1)
    · rw [g.N_next hi ho hld, ← hcd, hcd2, hld]
      rw [hld] at f2
      exact f2
    · rw [g.N_lead hld]
      rw [hld] at f2
      simp only [if_true] at f2
      rw [show g.at (p + 1) = (plain g i (g.N p)).2.length by omega]
      exact f2
/-- at the first instruction -/
theorem gen_start {S : Sem} {g : GM} {R Tm : List Int} (hR : (R.length : Int) = g.temps + g.stack) (hT : (Tm.length : Int) = g.temps) (h : ∀ t : Nat, (t : Int) < g.temps → R[t]? = Tm[t]?) (hz : g.at 0 = 0) : Ag S g (g.N 0) R Tm [] := by
  refine ⟨hR, hT, h, ?_⟩
  rw [g.N_lead (by simp [GM.lead]), hz]
  rfl
end Go.Proofs.YtomcfjckhajhmabGreatDoor
namespace Go.Proofs.YtomcfjckhajhmabGreatDoor

/-- the Sends of code are numbered in their order, from k on; how far -/
def numd : Int → List Ii → Option Int
  | k, [] => some k
  | k, x :: r => if x.op = 7 then (if x.n = k then numd (k + 1) r else none) else numd k r
theorem numd_append : ∀ (k : Int) (a b : List Ii), numd k (a ++ b) = (numd k a).bind fun m => numd m b
  | k, [], b => rfl
  | k, x :: a, b => by
    rw [List.cons_append, numd, numd]
    split
    · split
      · exact numd_append _ a b
      · rfl
    · exact numd_append _ a b
theorem numd_no : ∀ (k : Int) (l : List Ii), (∀ x ∈ l, x.op ≠ 7) → numd k l = some k
  | k, [], _ => rfl
  | k, x :: l, h => by
    rw [numd, if_neg (h x (by simp))]
    exact numd_no k l fun y hy => h y (by simp [hy])
/-- an instruction that asks: its code ends with what asks -/
theorem one_ask {g : GM} {nx : Bool} {i : GI} {N : List Sr} {k : Int} (h : i.op = 13 ∨ i.op = 11) : ∃ c x, (one g nx i N k).1 = c ++ [x] ∧ (∀ y ∈ c, y.op = 1) ∧ x = (if i.op = 13 then mkI 2 i.a (home g.temps (N.length - i.takes)) (N.drop (N.length - i.takes)) 0 else mkI 7 k (home g.temps (N.length - i.takes)) (N.drop (N.length - i.takes)) (g.lit i.a)) := by
  have hrl : (N.take (N.length - i.takes)).length = N.length - i.takes := by rw [List.length_take]; omega
  unfold one
  rw [if_pos h]
  simp only [hrl]
  refine ⟨_, _, rfl, fun y hy => ?_, rfl⟩
  split at hy
  · exact bring_op _ _ _ y hy
  · simp at hy
theorem one_numd (g : GM) (nx : Bool) (i : GI) (N : List Sr) (k : Int) : numd k (one g nx i N k).1 = some (if i.op = 11 then k + 1 else k) := by
  by_cases h11 : i.op = 11
  · obtain ⟨c, x, h1, h2, h3⟩ := one_ask (g := g) (nx := nx) (i := i) (N := N) (k := k) (.inr h11)
    rw [h1, numd_append, numd_no k c (fun y hy => by rw [h2 y hy]; omega), h3, if_neg (by omega), if_pos h11]
    simp [numd, mkI]
  · rw [numd_no k _ (fun x hx h7 => h11 ((one_send g nx i N k).2 x hx h7).1), if_neg h11]
theorem parts_numd (g : GM) : ∀ (l : List GI) (p : Nat) (N : List Sr) (k : Int), numd k ((parts g p l N k).flatMap (·.1)) = some (k + sends g p l)
  | [], _, _, k => by simp [parts, sends, numd]
  | i :: l, p, N, k => by
    unfold parts sends
    by_cases ho : g.on p
    · rw [if_pos ho, List.flatMap_cons, numd_append, one_numd]
      rw [Option.bind_some, parts_numd g l (p + 1)]
      by_cases h : i.op = 11
      · rw [if_pos h, if_pos ⟨ho, h⟩]
        congr 1
        omega
      · rw [if_neg h, if_neg (fun hh => h hh.2)]
        congr 1
        omega
    · rw [if_neg ho, if_neg (fun h => ho h.1), List.flatMap_cons, numd_append]
      show (some k).bind _ = _
      rw [Option.bind_some, parts_numd g l (p + 1) N k]
      congr 1
      omega
/-- the Sends of a unit are numbered in the order of the code -/
theorem unit_numd (g : GM) (method : Int) : numd 0 (g.unit method).code = some (g.unit method).sites := by
  have := parts_numd g g.code 0 [] 0
  rw [Int.zero_add] at this
  exact this
/-- the code of a Send that is come to ends with a Send, with its selector and all its sources -/
theorem GM.send_at {g : GM} (W : g.wf) {p : Nat} {i : GI} (hi : g.code[p]? = some i) (ho : g.on p) (h : i.op = 11) : ∃ c x, (g.cd p i).1 = c ++ [x] ∧ x.op = 7 ∧ x.w = g.lit i.a ∧ (x.l.length : Int) = i.b + 1 := by
  obtain ⟨c, x, h1, -, h3⟩ := one_ask (g := g) (nx := g.lead (p + 1)) (i := i) (N := g.N p) (k := (g.nk p).2) (.inr h)
  have hk := GI.takes_le W hi ho (.inr h)
  have hl := g.N_len W ho
  rw [if_neg (by omega)] at h3
  refine ⟨c, x, h1, by rw [h3]; rfl, by rw [h3]; rfl, ?_⟩
  rw [h3]
  simp only [mkI, List.length_drop]
  have := hk.2.1
  simp [GI.need, h] at this
  omega
/-- whom is a leader made by? -/
theorem GM.lead_by {g : GM} {p : Nat} (h : g.lead p = true) : p = 0 ∨ ∃ (j : Nat) (i : GI), g.code[j]? = some i ∧ g.on j ∧ leads i j p = true := by
  unfold GM.lead at h
  rw [Bool.or_eq_true, List.any_eq_true] at h
  rcases h with h | ⟨j, hj, h⟩
  · exact .inl (by simpa using h)
  · rw [Bool.and_eq_true] at h
    cases hi : g.code[j]? with
    | none => rw [hi] at h; cases h.2
    | some i =>
      rw [hi] at h
      exact .inr ⟨j, i, hi, by simpa using h.1, h.2⟩
def light (op : Int) : Prop := op = 1 ∨ op = 3 ∨ op = 8 ∨ op = 6 ∨ op = 9 ∨ op = 10
/-- what is only pushed, or dropped, has no code, unless a jump goes to the next instruction, or that is one -/
theorem GM.short {g : GM} {p : Nat} {i : GI} (hi : g.code[p]? = some i) (hl : light i.op) (hn : ∀ (j : Nat) (x : GI), g.code[j]? = some x → x.jumps → x.a ≠ (p + 1 : Nat) ∧ j ≠ p + 1) : (g.cd p i).1 = [] := by
  have hld : g.lead (p + 1) = false := by
    cases h : g.lead (p + 1)
    · rfl
    · rcases g.lead_by h with h0 | ⟨j, x, hx, -, hlx⟩
      · omega
      · have h9 := hn j x hx
        unfold leads at hlx
        simp only [decide_eq_true_eq] at hlx
        unfold light at hl
        unfold GI.jumps at h9
        rcases hlx with ⟨h1, h2⟩ | ⟨h1, h2⟩ | ⟨h1, h2⟩
        · exact absurd h2 (h9 h1).1
        · rcases h2 with h2 | h2
          · exact absurd h2.symm (h9 (.inr h1)).2
          · obtain rfl : j = p := by omega
            rw [hi] at hx
            cases hx
            omega
        · obtain rfl : j = p := by omega
          rw [hi] at hx
          cases hx
          omega
  unfold GM.cd
  rw [hld]
  unfold light at hl
  rcases hl with h | h | h | h | h | h <;> simp [one, plain, h]
/-- a method that only returns its receiver -/
theorem unit_one (args temps stack : Int) (lits : List Int) (a b method : Int) : ((⟨args, temps, stack, lits, [⟨18, a, b⟩], [0]⟩ : GM).unit method).code = [mkI 8 0 zeroS [slfS] 0] := by
  have hon : (⟨args, temps, stack, lits, [⟨18, a, b⟩], [0]⟩ : GM).on 0 := by simp [GM.on]
  simp only [GM.unit, GM.parts, parts, if_pos hon]
  simp [one]
/-- ahead of a branch its operand is at home -/
theorem GM.branch_home {g : GM} (W : g.wf) {p : Nat} {i : GI} (hi : g.code[p]? = some i) (ho : g.on p) (h : i.op = 15 ∨ i.op = 16) : 0 < g.at p ∧ (g.N p)[g.at p - 1]? = some (home g.temps (g.at p - 1)) := by
  obtain ⟨hn, -⟩ := W.need p i hi ho
  have hnd : i.need = 1 := by rcases h with h | h <;> simp [GI.need, h]
  refine ⟨by omega, ?_⟩
  rw [g.N_lead (g.lead_of hi ho (by unfold leads; simp; omega)), homes_at (by omega)]
/-- behind what asks, the next map holds the answer in the place to which it goes -/
theorem GM.ask_home {g : GM} (W : g.wf) {p : Nat} {i : GI} (hi : g.code[p]? = some i) (ho : g.on p) (h : i.op = 13 ∨ i.op = 11) : g.on (p + 1) ∧ p + 1 < g.code.length ∧ ∃ c x q, (g.cd p i).1 = c ++ [x] ∧ (g.N (p + 1)).length = q + 1 ∧ (g.N (p + 1))[q]? = some (home g.temps q) ∧ x.d = home g.temps q := by
  have hg1 : i.goes := by unfold GI.goes; omega
  obtain ⟨h1, h2, h3⟩ := W.next p i hi ho hg1
  have hk := GI.takes_le W hi ho h
  have hl := g.N_len W ho
  have hl2 := g.N_len W h2
  obtain ⟨c, x, e1, -, e3⟩ := one_ask (g := g) (nx := g.lead (p + 1)) (i := i) (N := g.N p) (k := (g.nk p).2) h
  refine ⟨h2, h1, c, x, (g.N p).length - i.takes, e1, by omega, ?_, by rw [e3]; split <;> rfl⟩
  cases hld : g.lead (p + 1)
  · rw [g.N_next hi ho hld]
    unfold GM.cd
    rw [hld]
    have hrl : ((g.N p).take ((g.N p).length - i.takes)).length = (g.N p).length - i.takes := by rw [List.length_take]; omega
    unfold one
    rw [if_pos h]
    simp only [Bool.false_eq_true, if_false]
    rw [List.getElem?_append_right (by omega), hrl, Nat.sub_self]
    rfl
  · rw [g.N_lead hld, homes_at (by omega)]
end Go.Proofs.YtomcfjckhajhmabGreatDoor
