/- Depths as bits of a number: plain. The paths of a method under way: their memory. verify's reach, after, isLast: one place of a path. verify's after, isLast: how deep the stack is behind an instruction. verify's leave and follow: all paths. verify's follow: all ways are marked. -/
import Derived.Test.YtomcfjckhajhmabGreatDoorMVerA
import Derived.Laws.BitsAllLaws
import Derived.WalkSmall
import Derived.Deep.LoopGhost
import Derived.Laws.ShiftsVarLaws
import Derived.RegionTactic
import Derived.Stop.IfaceNil
namespace Go.Proofs.YtomcfjckhajhmabGreatDoor

theorem bit_and (v d : Nat) : (v &&& 2 ^ d = 0) ↔ v.testBit d = false := by
  rw [Nat.testBit_eq_decide_div_mod_eq]
  have h := nat_bit d v
  rw [h]
  have h1 : 0 < 2 ^ d := Nat.two_pow_pos d
  have h2 : v / 2 ^ d % 2 = 0 ∨ v / 2 ^ d % 2 = 1 := by omega
  rcases h2 with h2 | h2 <;> rw [h2] <;> simp
theorem bit_or (v d e : Nat) : (v ||| 2 ^ d).testBit e = (v.testBit e || decide (d = e)) := by rw [Nat.testBit_or, Nat.testBit_two_pow]
theorem pow17 {d : Nat} (hd : d ≤ 16) : 2 ^ d < 131072 := Nat.lt_of_lt_of_le (Nat.pow_lt_pow_right (by decide : 1 < 2) (show d < 17 by omega)) (by decide)
theorem or_bd {v d : Nat} (h : v < 131072) (hd : d ≤ 16) : v ||| 2 ^ d < 131072 := Nat.or_lt_two_pow (n := 17) h (pow17 hd)
/-- how many bits a byte has -/
def pop8 (a : Nat) : Nat := a % 2 + a / 2 % 2 + a / 4 % 2 + a / 8 % 2 + a / 16 % 2 + a / 32 % 2 + a / 64 % 2 + a / 128 % 2
/-- how many of the first 17 bits are set -/
def pop17 (v : Nat) : Nat := pop8 (v / 65536 % 256) + pop8 (v / 256 % 256) + pop8 (v % 256)
def bitN (v d : Nat) : Nat := v / 2 ^ d % 2
def bits17 : List Nat := [0, 1, 2, 3, 4, 5, 6, 7, 8, 9, 10, 11, 12, 13, 14, 15, 16]
theorem mem_bits17 {d : Nat} : d ∈ bits17 ↔ d ≤ 16 := by unfold bits17; simp; omega
theorem nodup_bits17 : bits17.Nodup := by decide
theorem pop8_mod (x : Nat) : pop8 (x % 256) = x % 2 + x / 2 % 2 + x / 4 % 2 + x / 8 % 2 + x / 16 % 2 + x / 32 % 2 + x / 64 % 2 + x / 128 % 2 := by
  have h0 : x % 256 % 2 = x % 2 := by omega
  have h1 : x % 256 / 2 % 2 = x / 2 % 2 := by omega
  have h2 : x % 256 / 4 % 2 = x / 4 % 2 := by omega
  have h3 : x % 256 / 8 % 2 = x / 8 % 2 := by omega
  have h4 : x % 256 / 16 % 2 = x / 16 % 2 := by omega
  have h5 : x % 256 / 32 % 2 = x / 32 % 2 := by omega
  have h6 : x % 256 / 64 % 2 = x / 64 % 2 := by omega
  have h7 : x % 256 / 128 % 2 = x / 128 % 2 := by omega
  unfold pop8
  rw [h0, h1, h2, h3, h4, h5, h6, h7]
theorem pop17_sum (v : Nat) (h : v < 131072) : pop17 v = (bits17.map (bitN v)).sum := by
  have z : ∀ c, 131072 ≤ c → v / c = 0 := fun c hc => Nat.div_eq_of_lt (by omega)
  unfold pop17
  rw [pop8_mod, pop8_mod, pop8_mod]
  simp only [bits17, List.map_cons, List.map_nil, List.sum_cons, List.sum_nil, bitN, Nat.pow_zero, Nat.reducePow, Nat.div_div_eq_div_mul, Nat.reduceMul, Nat.div_one]
  rw [z 131072 (by decide), z 262144 (by decide), z 524288 (by decide), z 1048576 (by decide), z 2097152 (by decide), z 4194304 (by decide), z 8388608 (by decide)]
  simp only [Nat.zero_mod, Nat.add_zero]
  ac_rfl
theorem mem_sum {f : Nat → Nat} {k : Nat} : ∀ {l : List Nat}, k ∈ l → f k ≤ (l.map f).sum
  | [], h => by cases h
  | a :: l, h => by
    simp only [List.map_cons, List.sum_cons]
    rcases List.mem_cons.1 h with rfl | h
    · omega
    · have := mem_sum (f := f) h; omega
theorem testBit_bitN (v d : Nat) : v.testBit d = decide (bitN v d = 1) := Nat.testBit_eq_decide_div_mod_eq
theorem bitN_01 (v d : Nat) : bitN v d = 0 ∨ bitN v d = 1 := by unfold bitN; omega
theorem sum_ge {l : List Nat} {i j : Nat} {f : Nat → Nat} (hn : l.Nodup) (hi : i ∈ l) (hj : j ∈ l) (hne : i ≠ j) : f i + f j ≤ (l.map f).sum := by
  induction l with
  | nil => cases hi
  | cons a l ih =>
    have hm : ∀ k, k ∈ l → f k ≤ (l.map f).sum := fun k hk => mem_sum hk
    simp only [List.map_cons, List.sum_cons]
    have hn' := List.nodup_cons.1 hn
    rcases List.mem_cons.1 hi with rfl | hi'
    · rcases List.mem_cons.1 hj with e | hj
      · exact absurd e.symm hne
      · have := hm j hj; omega
    · rcases List.mem_cons.1 hj with rfl | hj
      · have := hm i hi'; omega
      · have := ih hn'.2 hi' hj; omega
/-- two depths: more than one bit -/
theorem pop_two {v d e : Nat} (h : v < 131072) (hd : d ≤ 16) (he : e ≤ 16) (hne : d ≠ e) (h1 : v.testBit d = true) (h2 : v.testBit e = true) : 1 < pop17 v := by
  rw [testBit_bitN] at h1 h2
  simp only [decide_eq_true_eq] at h1 h2
  have := sum_ge (f := bitN v) (l := bits17) nodup_bits17 (mem_bits17.2 hd) (mem_bits17.2 he) hne
  rw [pop17_sum v h]
  omega
theorem sum_two {f : Nat → Nat} (hf : ∀ k, f k = 0 ∨ f k = 1) : ∀ (l : List Nat), l.Nodup → 1 < (l.map f).sum → ∃ i j, i ∈ l ∧ j ∈ l ∧ i ≠ j ∧ f i = 1 ∧ f j = 1
  | [], _, h => by simp at h
  | a :: l, hn, h => by
    have hn' := List.nodup_cons.1 hn
    simp only [List.map_cons, List.sum_cons] at h
    rcases hf a with h0 | h1
    · obtain ⟨i, j, hi, hj, r⟩ := sum_two hf l hn'.2 (by omega)
      exact ⟨i, j, List.mem_cons_of_mem _ hi, List.mem_cons_of_mem _ hj, r⟩
    · have : ∃ k ∈ l, f k = 1 := by
        have hs : 0 < (l.map f).sum := by omega
        clear h h1 hn hn'
        induction l with
        | nil => simp at hs
        | cons b l ih =>
          simp only [List.map_cons, List.sum_cons] at hs
          rcases hf b with h0 | h1
          · obtain ⟨k, hk, r⟩ := ih (by omega)
            exact ⟨k, List.mem_cons_of_mem _ hk, r⟩
          · exact ⟨b, by simp, h1⟩
      obtain ⟨k, hk, hk1⟩ := this
      exact ⟨a, k, by simp, List.mem_cons_of_mem _ hk, fun e => hn'.1 (e ▸ hk), h1, hk1⟩
/-- more than one bit: two depths -/
theorem two_pop {v : Nat} (h : v < 131072) (hp : 1 < pop17 v) : ∃ d e, d ≤ 16 ∧ e ≤ 16 ∧ d ≠ e ∧ v.testBit d = true ∧ v.testBit e = true := by
  rw [pop17_sum v h] at hp
  obtain ⟨i, j, hi, hj, hne, h1, h2⟩ := sum_two (bitN_01 v) _ nodup_bits17 hp
  have hi' := mem_bits17.1 hi
  have hj' := mem_bits17.1 hj
  exact ⟨i, j, by omega, by omega, hne, by rw [testBit_bitN]; simp [h1], by rw [testBit_bitN]; simp [h2]⟩
theorem testBit_lt {v d : Nat} (h : v < 131072) (hb : v.testBit d = true) : d ≤ 16 := by
  by_cases e : d ≤ 16
  · exact e
  · have h1 : v < 2 ^ d := Nat.lt_of_lt_of_le h (Nat.pow_le_pow_right (n := 2) (i := 17) (by decide) (by omega))
    rw [Nat.testBit_lt_two_pow h1] at hb
    cases hb
theorem ex_bit {v : Nat} (h : v ≠ 0) : ∃ d, v.testBit d = true := Nat.exists_testBit_of_ne_zero h
/-- one bit: the number is a power -/
theorem one_pop {v d : Nat} (h : v < 131072) (hp : ¬ 1 < pop17 v) (hd : v.testBit d = true) : v = 2 ^ d := by
  refine Nat.eq_of_testBit_eq fun e => ?_
  rw [Nat.testBit_two_pow]
  by_cases hde : d = e
  · subst hde; simp [hd]
  · cases hb : v.testBit e
    · simp [hde]
    · exact absurd (pop_two h (testBit_lt h hd) (testBit_lt h hb) hde hd hb) hp
end Go.Proofs.YtomcfjckhajhmabGreatDoor
namespace Go.Proofs.YtomcfjckhajhmabGreatDoor
open Go.RowKit

theorem Fr.join' {S : List Nat} {a b c : World} (h : Fr [] a b) (k : Fr S b c) (hS : ∀ j ∈ S, a.heap.size ≤ j) : Fr [] a c :=
  h.trans' k (fun _ _ e => e) (fun j hj hm => absurd (hS j hm) (by omega))
theorem row_heap2 {w : World} {b size : Nat} {e : TypeId} {v : Value} {n : Nat} {xs : List Value} (h : w.ownsRow b e size v n xs) {g : Nat} (hg : v.ownBlock = some g) : ∃ cur, w.heap[g]? = some (.cells cur e (0, 0)) := by
  rcases h.2 with ⟨hn, -⟩ | ⟨g', cap, cur, rfl, hb, hgg, -⟩
  · rw [hn] at hg; cases hg
  · cases hg
    exact ⟨cur, hgg⟩
theorem infoPoint : (Tryz.prog.info? 143).map (fun i => (i.zero, i.size, i.bytes)) = some (some (.agg #[.int .i64 0, .int .i64 0]), 2, 16) := by kernel_rfl
def flatP (ps : List (Nat × Nat)) : List Value := ps.flatMap fun p => [.int .i64 (p.1 : Int), .int .i64 (p.2 : Int)]
theorem flatP_len (ps : List (Nat × Nat)) : (flatP ps).length = ps.length * 2 := by
  induction ps with
  | nil => rfl
  | cons a l ih => simp only [flatP, List.flatMap_cons, List.length_append, List.length_cons, List.length_nil] at ih ⊢; omega
theorem flatP_app (l : List (Nat × Nat)) (p : Nat × Nat) : flatP (l ++ [p]) = flatP l ++ [.int .i64 (p.1 : Int), .int .i64 (p.2 : Int)] := by simp [flatP]
/-- marks: a bit for each depth with which a place is reached -/
structure Mk (n : Nat) (R : List Nat) (M : List (Nat × Nat)) : Prop where
  len : R.length = n
  bd : ∀ (k v : Nat), R[k]? = some v → v < 131072
  iff : ∀ (k d : Nat), (R.getD k 0).testBit d = true ↔ (k, d) ∈ M
  nd : M.Nodup
  lim : ∀ p ∈ M, p.1 < n ∧ p.2 ≤ 16
theorem Mk.start (n : Nat) : Mk n (List.replicate n 0) [] := by
  refine ⟨by simp, fun k v h => ?_, fun k d => ?_, by simp, fun p h => by cases h⟩
  · rw [List.getElem?_replicate] at h
    split at h
    · cases h; decide
    · cases h
  · have : (List.replicate n 0).getD k 0 = 0 := by
      rw [List.getD_eq_getElem?_getD, List.getElem?_replicate]
      split <;> rfl
    rw [this]
    simp
theorem Mk.add {n : Nat} {R : List Nat} {M : List (Nat × Nat)} (h : Mk n R M) {pc d : Nat} (hp : pc < n) (hd : d ≤ 16) (hm : (pc, d) ∉ M) : Mk n (R.set pc (R.getD pc 0 ||| 2 ^ d)) (M ++ [(pc, d)]) := by
  have hl := h.len
  have hg : R[pc]? = some (R.getD pc 0) := by rw [List.getD_eq_getElem?_getD, List.getElem?_eq_getElem (by omega)]; rfl
  refine ⟨by simpa using h.len, fun k v hk => ?_, fun k e => ?_, ?_, fun p hq => ?_⟩
  · rw [List.getElem?_set] at hk
    split at hk
    · split at hk
      · cases hk
        exact or_bd (h.bd pc _ hg) hd
      · cases hk
    · exact h.bd k v hk
  · have e1 : (R.set pc (R.getD pc 0 ||| 2 ^ d)).getD k 0 = if pc = k then R.getD pc 0 ||| 2 ^ d else R.getD k 0 := by
      rw [List.getD_eq_getElem?_getD, List.getElem?_set]
      split
      · rw [if_pos (by omega)]; rfl
      · rw [List.getD_eq_getElem?_getD]
    rw [e1]
    simp only [List.mem_append, List.mem_singleton, Prod.mk.injEq]
    split
    · next e =>
      subst e
      rw [bit_or, Bool.or_eq_true, h.iff]
      simp only [decide_eq_true_eq]
      constructor
      · rintro (h | h)
        · exact .inl h
        · exact .inr ⟨trivial, h.symm⟩
      · rintro (h | h)
        · exact .inl h
        · exact .inr h.2.symm
    · next e =>
      rw [h.iff]
      constructor
      · exact .inl
      · rintro (h | h)
        · exact h
        · exact absurd h.1.symm e
  · refine List.nodup_append.2 ⟨h.nd, by simp, fun a ha b hb => ?_⟩
    simp at hb
    subst hb
    intro e
    subst e
    exact hm ha
  · rcases List.mem_append.1 hq with hq | hq
    · exact h.lim p hq
    · simp at hq
      subst hq
      exact ⟨hp, hd⟩
theorem Mk.len_le {n : Nat} {R : List Nat} {M : List (Nat × Nat)} (h : Mk n R M) : M.length ≤ n * 17 := by
  have h1 : (M.map fun p => p.1 * 17 + p.2).Nodup := by
    refine List.Pairwise.map _ ?_ (List.Pairwise.imp_of_mem (R := (· ≠ ·)) (S := fun a b => (a ∈ M ∧ b ∈ M) ∧ a ≠ b) (fun ha hb hn => ⟨⟨ha, hb⟩, hn⟩) h.nd)
    rintro ⟨a, b⟩ ⟨c, d⟩ ⟨⟨ha, hb⟩, hn⟩ e
    have h1 := h.lim _ ha
    have h2 := h.lim _ hb
    simp only at h1 h2 e
    apply hn
    have : a = c := by omega
    subst this
    have : b = d := by omega
    rw [this]
  have := nodup_bound (n * 17) _ h1 (fun x hx => by
    obtain ⟨p, hp, rfl⟩ := List.mem_map.1 hx
    have := h.lim p hp
    omega)
  simpa using this
/-- a place is marked, and waits if it was not -/
def reachM (s : List (Nat × Nat) × List (Nat × Nat)) (q : Nat × Nat) : List (Nat × Nat) × List (Nat × Nat) := if q ∈ s.1 then s else (s.1 ++ [q], s.2 ++ [q])
def reachMs (s : List (Nat × Nat) × List (Nat × Nat)) (qs : List (Nat × Nat)) : List (Nat × Nat) × List (Nat × Nat) := qs.foldl reachM s
theorem reachM_mem (s : List (Nat × Nat) × List (Nat × Nat)) (x y : Nat × Nat) : (y ∈ (reachM s x).1 ↔ y ∈ s.1 ∨ y = x) ∧ (y ∈ (reachM s x).2 ↔ y ∈ s.2 ∨ (y = x ∧ y ∉ s.1)) := by
  unfold reachM
  split
  · next h =>
    constructor
    · exact ⟨.inl, fun k => k.elim id fun e => e ▸ h⟩
    · exact ⟨.inl, fun k => k.elim id fun e => absurd (e.1 ▸ h) e.2⟩
  · next h =>
    simp only [List.mem_append, List.mem_singleton]
    refine ⟨trivial, ?_⟩
    · exact ⟨fun k => k.imp id fun e => ⟨e, e ▸ h⟩, fun k => k.imp id fun e => e.1⟩
theorem reachMs_mem (s : List (Nat × Nat) × List (Nat × Nat)) (xs : List (Nat × Nat)) (y : Nat × Nat) : (y ∈ (reachMs s xs).1 ↔ y ∈ s.1 ∨ y ∈ xs) ∧ (y ∈ (reachMs s xs).2 ↔ y ∈ s.2 ∨ (y ∈ xs ∧ y ∉ s.1)) := by
  induction xs generalizing s with
  | nil => simp [reachMs]
  | cons x xs ih =>
    have h1 := ih (reachM s x)
    have h2 := reachM_mem s x y
    have e : reachMs s (x :: xs) = reachMs (reachM s x) xs := rfl
    rw [e, h1.1, h1.2, h2.1, h2.2]
    simp only [List.mem_cons]
    constructor
    · constructor
      · rintro ((h | h) | h)
        · exact .inl h
        · exact .inr (.inl h)
        · exact .inr (.inr h)
      · rintro (h | h | h)
        · exact .inl (.inl h)
        · exact .inl (.inr h)
        · exact .inr h
    · constructor
      · rintro ((h | h) | h)
        · exact .inl h
        · exact .inr ⟨.inl h.1, h.2⟩
        · exact .inr ⟨.inr h.1, fun k => h.2 (.inl k)⟩
      · rintro (h | ⟨h | h, k⟩)
        · exact .inl (.inl h)
        · exact .inl (.inr ⟨h, k⟩)
        · by_cases e : y = x
          · exact .inl (.inr ⟨e, k⟩)
          · exact .inr ⟨h, fun z => z.elim k e⟩
theorem reachMs_len (s : List (Nat × Nat) × List (Nat × Nat)) (xs : List (Nat × Nat)) : (reachMs s xs).1.length + s.2.length = (reachMs s xs).2.length + s.1.length ∧ s.1.length ≤ (reachMs s xs).1.length := by
  induction xs generalizing s with
  | nil => simp [reachMs]; omega
  | cons x xs ih =>
    have h1 := ih (reachM s x)
    have e : reachMs s (x :: xs) = reachMs (reachM s x) xs := rfl
    rw [e]
    have h2 : (reachM s x).1.length + s.2.length = (reachM s x).2.length + s.1.length ∧ s.1.length ≤ (reachM s x).1.length := by
      unfold reachM
      split
      · omega
      · simp; omega
    omega
section
variable {X : List (Nat × Obj)} {w0 W W' : World} {m : Mth} {la ca : Option Addr} {lc cc pb rb : Nat} {pv : Value} {R : List Nat} {M P : List (Nat × Nat)}
def pcells (m : Mth) (la : Option Addr) (lc : Nat) (ca : Option Addr) (cc rb : Nat) (pv : Value) : Array Value := #[.int .i64 m.args, .int .i64 m.temps, .int .i64 m.stack, .int .i64 m.prim, .slice la m.lits.length lc, .slice ca m.code.length cc, .slice (some ⟨rb, 0, none⟩) m.code.length m.code.length, pv]
structure Pth (X : List (Nat × Obj)) (w0 : World) (m : Mth) (la : Option Addr) (lc : Nat) (ca : Option Addr) (cc pb rb : Nat) (pv : Value) (R : List Nat) (P : List (Nat × Nat)) (W : World) : Prop where
  box : W.heap[pb]? = some (.cells (pcells m la lc ca cc rb pv) 124 (0, 0))
  marks : W.heap[rb]? = some (.cells (R.map fun v : Nat => Value.int .u32 (v : Int)).toArray 145 (0, 0))
  row : W.ownsRow 0 143 2 pv P.length (flatP P)
  fr : Fr [] w0 W
  pn : w0.heap.size ≤ pb
  rn : w0.heap.size ≤ rb
  vn : ∀ k, pv.ownBlock = some k → w0.heap.size ≤ k
  keep : ∀ p ∈ X, W.heap[p.1]? = some p.2 ∧ p.1 ≠ pb ∧ p.1 ≠ rb ∧ pv.ownBlock ≠ some p.1
theorem Pth.still (h : Pth X w0 m la lc ca cc pb rb pv R P W) (hF : Fr [] W W') : Pth X w0 m la lc ca cc pb rb pv R P W' :=
  ⟨hF.heap (by simp) h.box, hF.heap (by simp) h.marks, hF.row h.row (fun _ _ => by simp), h.fr.trans hF, h.pn, h.rn, h.vn, fun p hp => ⟨hF.heap (by simp) (h.keep p hp).1, (h.keep p hp).2⟩⟩
theorem Pth.ne (h : Pth X w0 m la lc ca cc pb rb pv R P W) : pb ≠ rb := tag_ne h.box h.marks (by decide)
theorem Pth.row_ne (h : Pth X w0 m la lc ca cc pb rb pv R P W) {k : Nat} (hk : pv.ownBlock = some k) : k ≠ pb ∧ k ≠ rb := by
  obtain ⟨cur, hc⟩ := row_heap2 h.row hk
  exact ⟨tag_ne hc h.box (by decide), tag_ne hc h.marks (by decide)⟩
/-- a mark was set -/
theorem Pth.marked (h : Pth X w0 m la lc ca cc pb rb pv R P W) {k : Nat} (x : Nat) : W.frozen? ⟨rb, k, none⟩ = false ∧ Pth X w0 m la lc ca cc pb rb pv (R.set k x) P (W.setCell ⟨rb, k, none⟩ (.int .u32 (x : Int))) := by
  have hF : Fr [rb] W (W.setCell ⟨rb, k, none⟩ (.int .u32 (x : Int))) := (Fr.refl _ _).setCell (fun _ => by simp) _
  refine ⟨frozen_of_heap h.marks, hF.heap (by simpa using h.ne) h.box, ?_, hF.row h.row (fun j hj => by simpa using (h.row_ne hj).2), h.fr.join' hF (fun j hj => ?_), h.pn, h.rn, h.vn, fun p hp => ⟨hF.heap (by simpa using (h.keep p hp).2.2.1) (h.keep p hp).1, (h.keep p hp).2⟩⟩
  · have := heap_setCell_same (o := k) h.marks (.int .u32 (x : Int))
    rw [this]
    congr 2
    simp [List.map_set]
  · simp only [List.mem_singleton] at hj
    rw [hj]
    exact h.rn
/-- one more waits -/
theorem Pth.pushed (h : Pth X w0 m la lc ca cc pb rb pv R P W) {w1 : World} {v1 : Value} {q : Nat × Nat} (ho : w1.ownsRow 0 143 2 v1 (P.length + 1) (flatP P ++ [.int .i64 (q.1 : Int), .int .i64 (q.2 : Int)])) (hg : W.grownBy w1 pv.ownBlock) (hf : v1.ownBlock = pv.ownBlock ∨ v1.ownBlock = some W.heap.size) :
    w1.cell? ⟨pb, 7, none⟩ = some pv ∧ w1.frozen? ⟨pb, 7, none⟩ = false ∧ Pth X w0 m la lc ca cc pb rb v1 R (P ++ [q]) (w1.setCell ⟨pb, 7, none⟩ v1) := by
  have hFg : Fr pv.ownBlock.toList W w1 := (Fr.refl _ _).grown hg (fun k hk _ => by simp [hk])
  have hcb : pb ∉ pv.ownBlock.toList := fun hm => (h.row_ne (by simpa using hm)).1 rfl
  have hbb : rb ∉ pv.ownBlock.toList := fun hm => (h.row_ne (by simpa using hm)).2 rfl
  have hbox1 := hFg.heap hcb h.box
  have hF2 : Fr [pb] w1 (w1.setCell ⟨pb, 7, none⟩ v1) := (Fr.refl _ _).setCell (fun _ => by simp) _
  have hpn : ∀ k, v1.ownBlock = some k → w0.heap.size ≤ k := fun k hk => by
    rcases hf with hf | hf
    · exact h.vn k (hf ▸ hk)
    · rw [hf] at hk; cases hk; exact h.fr.size
  refine ⟨cell_of_heap hbox1 rfl, frozen_of_heap hbox1, heap_setCell_same hbox1 _, hF2.heap (by simpa using Ne.symm h.ne) (hFg.heap hbb h.marks), ?_, ?_, h.pn, h.rn, hpn, fun p hp => ?_⟩
  · rw [flatP_app, List.length_append]
    exact hF2.row ho (fun k hk => by obtain ⟨cur, hc⟩ := row_heap2 ho hk; simpa using tag_ne hc hbox1 (by decide))
  · refine (h.fr.join' hFg (fun j hj => h.vn j (by simpa using hj))).join' hF2 (fun j hj => ?_)
    simp only [List.mem_singleton] at hj
    rw [hj]
    exact h.pn
  · obtain ⟨h1, h2, h3, h4⟩ := h.keep p hp
    refine ⟨hF2.heap (by simpa using h2) (hFg.heap (fun hm => h4 (by simpa using hm)) h1), h2, h3, fun e => ?_⟩
    rcases hf with hf | hf
    · exact h4 (hf ▸ e)
    · rw [hf] at e
      have e' := Option.some.inj e
      have := lt_of_heap h1
      omega
/-- what waits is cut by one -/
theorem Pth.popped {g cap : Nat} {q : Nat × Nat} (h : Pth X w0 m la lc ca cc pb rb (.slice (some ⟨g, 0, none⟩) (P.length + 1) cap) R (P ++ [q]) W) :
    W.frozen? ⟨pb, 7, none⟩ = false ∧ Pth X w0 m la lc ca cc pb rb (.slice (some ⟨g, 0, none⟩) P.length cap) R P (W.setCell ⟨pb, 7, none⟩ (.slice (some ⟨g, 0, none⟩) P.length cap)) := by
  have hF2 : Fr [pb] W (W.setCell ⟨pb, 7, none⟩ (.slice (some ⟨g, 0, none⟩) P.length cap)) := (Fr.refl _ _).setCell (fun _ => by simp) _
  have hr : W.ownsRow 0 143 2 (.slice (some ⟨g, 0, none⟩) P.length cap) P.length (flatP P) := by
    have := h.row
    rw [List.length_append, List.length_singleton, flatP_app] at this
    exact ownsRow_pop (flatP_len P) this
  refine ⟨frozen_of_heap h.box, heap_setCell_same h.box _, hF2.heap (by simpa using Ne.symm h.ne) h.marks, hF2.row hr (fun k hk => by simpa using (h.row_ne (k := k) hk).1), h.fr.join' hF2 (fun j hj => ?_), h.pn, h.rn, fun k hk => h.vn k hk, fun p hp => ⟨hF2.heap (by simpa using (h.keep p hp).2.1) (h.keep p hp).1, (h.keep p hp).2⟩⟩
  simp only [List.mem_singleton] at hj
  rw [hj]
  exact h.pn
theorem Pth.last {q : Nat × Nat} (h : Pth X w0 m la lc ca cc pb rb pv R (P ++ [q]) W) : ∃ g cap, pv = .slice (some ⟨g, 0, none⟩) (P.length + 1) cap ∧ W.cell? ⟨g, P.length * 2, none⟩ = some (.int .i64 (q.1 : Int)) ∧ W.cell? ⟨g, P.length * 2 + 1, none⟩ = some (.int .i64 (q.2 : Int)) ∧ P.length + 1 ≤ cap := by
  have hl := flatP_len P
  have hr := h.row
  rw [List.length_append, List.length_singleton, flatP_app] at hr
  rcases hr.2 with ⟨-, h0⟩ | ⟨g, cap, cur, rfl, hb, hgg, hnc, hcm, hcs, htk⟩
  · omega
  · have hc : ∀ j, j < 2 → cur[P.length * 2 + j]? = [Value.int .i64 (q.1 : Int), .int .i64 (q.2 : Int)][j]? := fun j hj => by
      have h1 : (flatP P ++ [Value.int .i64 (q.1 : Int), .int .i64 (q.2 : Int)])[P.length * 2 + j]? = [Value.int .i64 (q.1 : Int), .int .i64 (q.2 : Int)][j]? := by
        rw [List.getElem?_append_right (by omega), hl]
        congr 1
        omega
      rw [← h1, ← htk, List.getElem?_take, if_pos (by omega)]
      simp
    exact ⟨g, cap, rfl, cell_of_heap hgg (by have := hc 0 (by omega); simpa using this), cell_of_heap hgg (by rw [hc 1 (by omega)]; rfl), hnc⟩
/-- the paths of a method under way: what is marked, and what waits -/
def PAt (X : List (Nat × Obj)) (w0 : World) (m : Mth) (la : Option Addr) (lc : Nat) (ca : Option Addr) (cc pb rb : Nat) (s : List (Nat × Nat) × List (Nat × Nat)) (W : World) : Prop :=
  ∃ pv R, Mk m.code.length R s.1 ∧ s.2.length ≤ s.1.length ∧ Pth X w0 m la lc ca cc pb rb pv R s.2 W
theorem PAt.still {s : List (Nat × Nat) × List (Nat × Nat)} (h : PAt X w0 m la lc ca cc pb rb s W) (hF : Fr [] W W') : PAt X w0 m la lc ca cc pb rb s W' := by
  obtain ⟨pv, R, h1, h2, h3⟩ := h
  exact ⟨pv, R, h1, h2, h3.still hF⟩
theorem PAt.hold {s : List (Nat × Nat) × List (Nat × Nat)} (h : PAt X w0 m la lc ca cc pb rb s W) (o : Obj) : PAt ((W.heap.size, o) :: X) w0 m la lc ca cc pb rb s (W.alloc o) := by
  obtain ⟨pv, R, h1, h2, h3⟩ := h
  have h4 := h3.still ((Fr.refl [] W).alloc o)
  refine ⟨pv, R, h1, h2, h4.box, h4.marks, h4.row, h4.fr, h4.pn, h4.rn, h4.vn, fun p hp => ?_⟩
  rcases List.mem_cons.1 hp with rfl | hp
  · refine ⟨heap_new W o, fun e => ?_, fun e => ?_, fun e => ?_⟩
    · have := lt_of_heap h3.box; simp only at e; omega
    · have := lt_of_heap h3.marks; simp only at e; omega
    · obtain ⟨cur, hc⟩ := row_heap2 h3.row e
      have := lt_of_heap hc
      simp only at this
      omega
  · exact h4.keep p hp
theorem PAt.less {s : List (Nat × Nat) × List (Nat × Nat)} {p : Nat × Obj} (h : PAt (p :: X) w0 m la lc ca cc pb rb s W) : PAt X w0 m la lc ca cc pb rb s W := by
  obtain ⟨pv, R, h1, h2, h3⟩ := h
  exact ⟨pv, R, h1, h2, h3.box, h3.marks, h3.row, h3.fr, h3.pn, h3.rn, h3.vn, fun q hq => h3.keep q (List.mem_cons_of_mem _ hq)⟩
theorem PAt.kept {s : List (Nat × Nat) × List (Nat × Nat)} (h : PAt X w0 m la lc ca cc pb rb s W) {p : Nat × Obj} (hp : p ∈ X) : W.heap[p.1]? = some p.2 := by
  obtain ⟨pv, R, h1, h2, h3⟩ := h
  exact (h3.keep p hp).1
theorem PAt.fr {s : List (Nat × Nat) × List (Nat × Nat)} (h : PAt X w0 m la lc ca cc pb rb s W) : Fr [] w0 W := by
  obtain ⟨pv, R, h1, h2, h3⟩ := h
  exact h3.fr
theorem PAt.box {s : List (Nat × Nat) × List (Nat × Nat)} (h : PAt X w0 m la lc ca cc pb rb s W) : ∃ pv, W.heap[pb]? = some (.cells (pcells m la lc ca cc rb pv) 124 (0, 0)) := by
  obtain ⟨pv, R, h1, h2, h3⟩ := h
  exact ⟨pv, h3.box⟩
end
end Go.Proofs.YtomcfjckhajhmabGreatDoor
namespace Go.Proofs.YtomcfjckhajhmabGreatDoor
open Go.RowKit

/-- a plain error -/
def SErr (v : Value) : Prop := ∃ a, v = .iface 218 (.pointer (some a))
structure VErrs (w : World) : Prop where
  few : ∃ a, w.cell? ⟨7, 0, none⟩ = some (.iface 218 (.pointer (some a)))
  many : ∃ a, w.cell? ⟨8, 0, none⟩ = some (.iface 218 (.pointer (some a)))
  depths : ∃ a, w.cell? ⟨3, 0, none⟩ = some (.iface 218 (.pointer (some a)))
  beyond : ∃ a, w.cell? ⟨4, 0, none⟩ = some (.iface 218 (.pointer (some a)))
  operand : ∃ a, w.cell? ⟨2, 0, none⟩ = some (.iface 218 (.pointer (some a)))
  method : ∃ a, w.cell? ⟨0, 0, none⟩ = some (.iface 218 (.pointer (some a)))
theorem VErrs.fr {w w' : World} (h : VErrs w) (hF : Fr [] w w') : VErrs w' := by
  obtain ⟨⟨a, h1⟩, ⟨b, h2⟩, ⟨c, h3⟩, ⟨d, h4⟩, ⟨e, h5⟩, ⟨f, h6⟩⟩ := h
  exact ⟨⟨a, hF.cell (by simp) h1⟩, ⟨b, hF.cell (by simp) h2⟩, ⟨c, hF.cell (by simp) h3⟩, ⟨d, hF.cell (by simp) h4⟩, ⟨e, hF.cell (by simp) h5⟩, ⟨f, hF.cell (by simp) h6⟩⟩
theorem two_cellsV (w : World) (a b : Value) (t : TypeId) : ∀ j u, [a, b][j]? = some u → (w.alloc (.cells #[a, b] t)).cell? ((⟨w.heap.size, 0, none⟩ : Addr).add j) = some u := by
  intro j u h
  match j, h with
  | 0, h => cases h; simp [Addr.add]
  | 1, h => cases h; simp [Addr.add]
  | n + 2, h => simp at h
section
variable {X : List (Nat × Obj)} {w0 W : World} {m : Mth} {la ca : Option Addr} {lc cc pb rb : Nat} {s : List (Nat × Nat) × List (Nat × Nat)}
set_option maxRecDepth 100000 in
set_option maxHeartbeats 1600000 in
theorem preach_at (hP : PAt X w0 m la lc ca cc pb rb s W) (hn : m.code.length ≤ 128) (pc d : Nat) (hp : pc < m.code.length) (hd : d ≤ 16) :
    Calls Tryz.prog 77 #[.pointer (some ⟨pb, 0, none⟩), .int .i64 (pc : Int), .int .i64 (d : Int)] W fun e W' => e = .returned (.tuple #[]) ∧ PAt X w0 m la lc ca cc pb rb (reachM s (pc, d)) W' := by
  obtain ⟨i0, hi, hz0, hz1, hz2⟩ := info_parts infoPoint
  obtain ⟨pv, R, hM, hpl, hP⟩ := hP
  have hml := hM.len_le
  obtain ⟨pa, pc0, rfl⟩ := row_shape' hP.row
  have c6 : W.cell? ⟨pb, 6, none⟩ = some (.slice (some ⟨rb, 0, none⟩) m.code.length m.code.length) := cell_of_heap hP.box rfl
  have hR : R[pc]? = some (R.getD pc 0) := by rw [List.getD_eq_getElem?_getD, List.getElem?_eq_getElem (by rw [hM.len]; exact hp)]; rfl
  obtain ⟨v, hv⟩ : ∃ v, v = R.getD pc 0 := ⟨_, rfl⟩
  have cr : W.cell? ⟨rb, pc, none⟩ = some (.int .u32 (v : Int)) := cell_of_heap hP.marks (by rw [hv, List.getElem?_toArray, List.getElem?_map, hR]; rfl)
  have hvb : v < 131072 := by rw [hv]; exact hM.bd pc _ hR
  have hpw := pow17 hd
  obtain ⟨bt, hbt⟩ : ∃ bt : Nat, bt = 2 ^ d := ⟨_, rfl⟩
  rw [← hbt] at hpw
  have hsh : (2 : Int) ^ d % 4294967296 = (bt : Int) := by
    have h1 : ((2 : Int) ^ d) = ((2 ^ d : Nat) : Int) := by simp
    rw [h1, ← hbt]
    omega
  have hor : bits .or .u32 (v : Int) (bt : Int) = ((v ||| bt : Nat) : Int) := u32_or_nat _ _ (by omega) (by omega)
  obtain ⟨y, hy⟩ : ∃ y, y = v ||| bt := ⟨_, rfl⟩
  rw [← hy] at hor
  have hz : W.frozen? ⟨rb, pc, none⟩ = false := frozen_of_heap hP.marks
  have hmk := (hP.marked (k := pc) y).2
  have HADD := Lib.hid (fun h => hM.add (d := d) hp hd h)
  rw [← hbt, ← hv, ← hy] at HADD
  obtain ⟨x, hx⟩ : ∃ x, x = v &&& bt := ⟨_, rfl⟩
  have hand : bits .and .u32 (v : Int) (bt : Int) = (x : Int) := by rw [hx]; exact u32_and_nat _ _ (by omega) (by omega)
  have hbit := bit_and v d
  rw [← hbt, ← hx] at hbit
  have hiff := hM.iff pc d
  rw [← hv] at hiff
  obtain ⟨n, hN⟩ : ∃ n, n = m.code.length := ⟨_, rfl⟩
  rw [← hN] at c6 hp hn
  obtain ⟨q, hq⟩ : ∃ q, q = s.2.length := ⟨_, rfl⟩
  have hql : q ≤ 2176 := by omega
  have p0 : (0 : Int) ≤ (pc : Int) := by omega
  have p1 : (pc : Int) < (n : Int) := by omega
  have HM := Lib.hid hM
  have HP := Lib.hid hP
  have HPL := Lib.hid hpl
  have HQ := Lib.hid hq
  by_cases hmem : (pc, d) ∈ s.1
  · have hb1 : v.testBit d = true := hiff.2 hmem
    have hx0 : ((x : Int) == 0) = false := by
      have : x ≠ 0 := fun e => by rw [hbit.1 e] at hb1; cases hb1
      simp [this]
    have HOUT : Hid (reachM s (pc, d) = s) := Lib.hid (by unfold reachM; rw [if_pos hmem])
    clear hM hP hpl hv hR hN hq hml hmk hbit hiff hb1 hmem hx hy hbt hor
    go_enter Tryz.func77, Tryz.ntmps77
    go_wp2_with fail
    go_end0
    refine ⟨rfl, ?_⟩
    rw [HOUT.out]
    exact ⟨_, R, HM.out, HPL.out, HP.out⟩
  · have hx0 : x = 0 := hbit.2 (by cases e : v.testBit d; rfl; exact absurd (hiff.1 e) hmem)
    obtain ⟨W1, hW1⟩ : ∃ W1, W1 = W.setCell ⟨rb, pc, none⟩ (.int .u32 (y : Int)) := ⟨_, rfl⟩
    rw [← hW1] at hmk
    have HOUT : Hid (reachM s (pc, d) = (s.1 ++ [(pc, d)], s.2 ++ [(pc, d)])) := Lib.hid (by unfold reachM; rw [if_neg hmem])
    have HM2 := Lib.hid (HADD.out hmem)
    have k7 : W1.cell? ⟨pb, 7, none⟩ = some (.slice pa s.2.length pc0) := cell_of_heap hmk.box rfl
    have HP1 := Lib.hid hmk
    rw [← hq] at k7
    rw [hx0] at hand
    have HW1 := Lib.hid hW1
    clear hM hP hpl hv hR hN hq hml hmk hbit hiff hmem hx hy hbt hx0 hW1
    go_enter Tryz.func77, Tryz.ntmps77
    go_upto_region 3 with (fail)
    rw [← HW1.out]
    have HP2 := Lib.hid (HP1.out.still ((Fr.refl _ _).alloc (.cells #[.int .i64 (pc : Int), .int .i64 (d : Int)] 143)))
    have hrow := HP2.out.row
    rw [← HQ.out] at hrow
    have HROW := Lib.hid hrow
    have e7 := cell_of_heap (o := 7) HP2.out.box rfl
    rw [← HQ.out] at e7
    clear hrow
    go_wp2_with (at_builtin; refine wpList_append_at _ rfl (.tmp 33) (.tmp 37) 122 rfl 143 i0 (.agg #[.int .i64 0, .int .i64 0]) 2 16 Tryz.underlying122 hi hz0 hz1 hz2 rfl (by decide) (.slice pa q pc0) q _ rfl HROW.out ⟨W1.heap.size, 0, none⟩ 1 1 [.int .i64 (pc : Int), .int .i64 (d : Int)] rfl rfl (two_cellsV W1 _ _ 143) (by simp [Value.oneCell']) (by unfold maxLen; omega) (by omega) ?_; intro v5 w5 ho5 hg5 hf5; obtain ⟨a5, p5, rfl⟩ := row_shape' ho5; rw [HQ.out] at ho5 hg5 hf5; have hap := HP2.out.pushed (q := (pc, d)) ho5 hg5 hf5; rw [← HQ.out] at hap; have hc5 := hap.1; have hz5 := hap.2.1; have HP5 := Lib.hid hap.2.2; clear hap ho5 hg5 hf5)
    go_end0
    refine ⟨rfl, ?_⟩
    rw [HOUT.out]
    exact ⟨_, _, HM2.out, by have := HPL.out; simp; omega, HP5.out⟩
end
end Go.Proofs.YtomcfjckhajhmabGreatDoor
namespace Go.Proofs.YtomcfjckhajhmabGreatDoor
open Go.RowKit

section
variable {X : List (Nat × Obj)} {w0 W : World} {m : Mth} {la ca : Option Addr} {lc cc pb rb : Nat} {s : List (Nat × Nat) × List (Nat × Nat)}
def After (m : Mth) (i : Ins) (d : Nat) (W : World) (e : Ending) (W' : World) : Prop := Fr [] W W' ∧ ((m.fine i d = true ∧ e = .returned (.tuple #[.int .i64 ((i.after d : Nat) : Int), .nilIface])) ∨ (m.fine i d = false ∧ ∃ a, e = .returned (.tuple #[.int .i64 0, .iface 218 (.pointer (some a))])))
theorem code_at (hP : PAt X w0 m la lc ca cc pb rb s W) (hcode : RowAt w0 ca (flatI m.code)) {pc : Nat} {i : Ins} (hi : m.code[pc]? = some i) : ∃ g off, ca = some ⟨g, off, none⟩ ∧ W.cell? ⟨g, off + pc * 3, none⟩ = some (.int .i64 i.op) ∧ W.cell? ⟨g, off + pc * 3 + 1, none⟩ = some (.int .i64 i.a) ∧ W.cell? ⟨g, off + pc * 3 + 2, none⟩ = some (.int .i64 i.b) := by
  obtain ⟨f1, f2, f3⟩ := flatI_at hi
  obtain ⟨g, off, rfl, c1⟩ := hcode _ _ f1
  obtain ⟨_, _, e2, c2⟩ := hcode _ _ f2
  cases e2
  obtain ⟨_, _, e3, c3⟩ := hcode _ _ f3
  cases e3
  have d1 := hP.fr.cell (by simp) c1
  have d2 := hP.fr.cell (by simp) c2
  have d3 := hP.fr.cell (by simp) c3
  rw [← Nat.add_assoc] at d2 d3
  exact ⟨g, off, rfl, d1, d2, d3⟩
set_option maxRecDepth 100000 in
set_option maxHeartbeats 1600000 in
theorem after_at (hP : PAt X w0 m la lc ca cc pb rb s W) (hcode : RowAt w0 ca (flatI m.code)) (hE : VErrs w0) (hs : 0 ≤ m.stack ∧ m.stack ≤ 16) {pc d : Nat} {i : Ins} (hi : m.code[pc]? = some i) (hio : i.ok = true) (hd : d ≤ 16) :
    Calls Tryz.prog 81 #[.pointer (some ⟨pb, 0, none⟩), .agg #[.int .i64 (pc : Int), .int .i64 (d : Int)]] W (After m i d W) := by
  obtain ⟨g, off, rfl, d1, d2, d3⟩ := code_at hP hcode hi
  obtain ⟨pv, hbox⟩ := hP.box
  obtain ⟨⟨ef, h1⟩, ⟨em, h2⟩, -⟩ := hE.fr hP.fr
  have hpl := (List.getElem?_eq_some_iff.1 hi).1
  have hnn := i.need_nn hio
  have hmx : Tryz.prog.follows .mixedOrders = true := by kernel_rfl
  obtain ⟨n, hN⟩ : ∃ n, n = m.code.length := ⟨_, rfl⟩
  obtain ⟨W1, hW1⟩ : ∃ W1, W1 = W.alloc (.cells #[.int .i64 (pc : Int), .int .i64 (d : Int)] 143) := ⟨_, rfl⟩
  have HF1 : Hid (Fr [] W W1) := by rw [hW1]; exact (Fr.refl _ _).alloc _
  have hb1 : W1.heap[W.heap.size]? = some (.cells #[.int .i64 (pc : Int), .int .i64 (d : Int)] 143 (0, 0)) := by rw [hW1]; exact heap_new _ _
  have hbox1 := HF1.out.heap (by simp) hbox
  have k2 : W1.cell? ⟨pb, 2, none⟩ = some (.int .i64 m.stack) := cell_of_heap hbox1 rfl
  have k5 : W1.cell? ⟨pb, 5, none⟩ = some (.slice (some ⟨g, off, none⟩) m.code.length cc) := cell_of_heap hbox1 rfl
  rw [← hN] at k5 hpl
  have p0 : W1.cell? ⟨W.heap.size, 0, none⟩ = some (.int .i64 (pc : Int)) := cell_of_heap hb1 rfl
  have p1 : W1.cell? ⟨W.heap.size, 1, none⟩ = some (.int .i64 (d : Int)) := cell_of_heap hb1 rfl
  have q1 := HF1.out.cell (by simp) d1
  have q2 := HF1.out.cell (by simp) d2
  have q3 := HF1.out.cell (by simp) d3
  have ke1 := HF1.out.cell (by simp) h1
  have ke2 := HF1.out.cell (by simp) h2
  have HEF := Lib.hid (fun W => effect_at i hio W)
  have HFI : Hid (m.fine i d = decide (i.need ≤ d ∧ (d : Int) - i.need + i.leave ≤ m.stack)) := Lib.hid rfl
  have HAF : Hid (i.need ≤ d → ((i.after d : Nat) : Int) = (d : Int) - i.need + i.leave) := Lib.hid fun h => by unfold Ins.after; omega
  obtain ⟨nd, hnd⟩ : ∃ x, x = i.need := ⟨_, rfl⟩
  obtain ⟨lv, hlv⟩ : ∃ x, x = i.leave := ⟨_, rfl⟩
  obtain ⟨st, hst⟩ : ∃ x, x = m.stack := ⟨_, rfl⟩
  rw [← hst] at k2 hs HFI
  rw [← hnd, ← hlv] at HEF HFI HAF hnn
  unfold Ins.v at HEF
  have x0 : (0 : Int) ≤ (pc : Int) := by omega
  have x1 : (pc : Int) < (n : Int) := by omega
  clear hP hcode hE hi hio hbox hb1 hbox1 d1 d2 d3 h1 h2 hN hnd hlv hst
  unfold After
  obtain ⟨fi, hfi⟩ : ∃ x, x = m.fine i d := ⟨_, rfl⟩
  rw [← hfi] at HFI ⊢
  clear hfi
  go_enter Tryz.func81, Tryz.ntmps81
  go_wp2_with fail
  rw [← hW1]
  clear hW1
  refine region_own' (S := fun w' => w'.cell? ⟨pb, 5, none⟩ = some (.slice (some ⟨g, off, none⟩) n cc) ∧ w'.cell? ⟨W.heap.size, 0, none⟩ = some (.int .i64 (pc : Int)) ∧ w'.cell? ⟨g, off + pc * 3, none⟩ = some (.int .i64 i.op) ∧ w'.cell? ⟨g, off + pc * 3 + 1, none⟩ = some (.int .i64 i.a) ∧ w'.cell? ⟨g, off + pc * 3 + 2, none⟩ = some (.int .i64 i.b)) hmx ⟨k5, p0, q1, q2, q3⟩ (fun hHeld => ?_)
  (refine wpAnyH_take (i := 0) (oi := ⟨some 10, _, _, _, _, _⟩) (v := ?_) rfl (by kernel_rfl) (by kernel_rfl) (by kernel_rfl) (fun _ _ _ h => h) (Or.inl ⟨by rfl, ?_⟩) (by assumption) ?_); rotate_left; focus (intro w hSw; (try dsimp only at hSw); go_split_ands; go_simp; try with_reducible rfl); (try simp only [Act.put, List.setIfInBounds_toArray, List.set_cons_zero, List.set_cons_succ])
  (refine wpAnyH_take (i := 1) (oi := ⟨some 11, _, _, _, _, _⟩) (v := ?_) rfl (by kernel_rfl) (by kernel_rfl) (by kernel_rfl) (fun _ _ _ h => h) (Or.inl ⟨by rfl, ?_⟩) (by assumption) ?_); rotate_left; focus (intro w hSw; (try dsimp only at hSw); go_split_ands; go_simp; try with_reducible rfl); (try simp only [Act.put, List.setIfInBounds_toArray, List.set_cons_zero, List.set_cons_succ])
  (refine wpAnyH_take (i := 2) (oi := ⟨some 12, _, _, _, _, _⟩) (v := ?_) rfl (by kernel_rfl) (by kernel_rfl) (by kernel_rfl) (fun _ _ _ h => h) (Or.inl ⟨by rfl, ?_⟩) (by assumption) ?_); rotate_left; focus (intro w hSw; (try dsimp only at hSw); go_split_ands; go_simp; try with_reducible rfl); (try simp only [Act.put, List.setIfInBounds_toArray, List.set_cons_zero, List.set_cons_succ])
  (refine wpAnyH_take (i := 3) (oi := ⟨some 13, _, _, _, _, _⟩) (v := ?_) rfl (by kernel_rfl) (by kernel_rfl) (by kernel_rfl) (fun _ _ _ h => h) (Or.inl ⟨by rfl, ?_⟩) (by assumption) ?_); rotate_left; focus (intro w hSw; (try dsimp only at hSw); go_split_ands; go_simp; try with_reducible rfl); (try simp only [Act.put, List.setIfInBounds_toArray, List.set_cons_zero, List.set_cons_succ])
  (refine wpAnyH_take (i := 4) (oi := ⟨some 14, _, _, _, _, _⟩) (v := ?_) rfl (by kernel_rfl) (by kernel_rfl) (by kernel_rfl) (fun _ _ _ h => h) (Or.inl ⟨by rfl, ?_⟩) (by assumption) ?_); rotate_left; focus (intro w hSw; (try dsimp only at hSw); go_split_ands; go_simp; try with_reducible rfl); (try simp only [Act.put, List.setIfInBounds_toArray, List.set_cons_zero, List.set_cons_succ])
  (refine wpAnyH_take (i := 5) (oi := ⟨some 15, _, _, _, _, _⟩) (v := ?_) rfl (by kernel_rfl) (by kernel_rfl) (by kernel_rfl) (fun _ _ _ h => h) (Or.inl ⟨by rfl, ?_⟩) (by assumption) ?_); rotate_left; focus (intro w hSw; (try dsimp only at hSw); go_split_ands; go_simp; try with_reducible rfl); (try simp only [Act.put, List.setIfInBounds_toArray, List.set_cons_zero, List.set_cons_succ])
  (refine wpAnyH_take (i := 6) (oi := ⟨some 16, _, _, _, _, _⟩) (v := ?_) rfl (by kernel_rfl) (by kernel_rfl) (by kernel_rfl) (fun _ _ _ h => h) (Or.inl ⟨by rfl, ?_⟩) (by assumption) ?_); rotate_left; focus (intro w hSw; (try dsimp only at hSw); go_split_ands; go_simp; try with_reducible rfl); (try simp only [Act.put, List.setIfInBounds_toArray, List.set_cons_zero, List.set_cons_succ])
  (refine wpAnyH_take (i := 7) (oi := ⟨some 17, _, _, _, _, _⟩) (v := ?_) rfl (by kernel_rfl) (by kernel_rfl) (by kernel_rfl) (fun _ _ _ h => h) (Or.inl ⟨by rfl, ?_⟩) (by assumption) ?_); rotate_left; focus (intro w hSw; (try dsimp only at hSw); go_split_ands; go_simp; try with_reducible rfl); (try simp only [Act.put, List.setIfInBounds_toArray, List.set_cons_zero, List.set_cons_succ])
  (refine wpAnyH_take (i := 8) (oi := ⟨some 18, _, _, _, _, _⟩) (v := ?_) rfl (by kernel_rfl) (by kernel_rfl) (by kernel_rfl) (fun _ _ _ h => h) (Or.inl ⟨by rfl, ?_⟩) (by assumption) ?_); rotate_left; focus (intro w hSw; (try dsimp only at hSw); go_split_ands; go_simp; try with_reducible rfl); (try simp only [Act.put, List.setIfInBounds_toArray, List.set_cons_zero, List.set_cons_succ])
  (refine wpAnyH_ready (rs := [9]) (by kernel_rfl) (by simp) ?_; refine AllReadyH.cons rfl (fun K hK => ?_) AllReadyH.nil); go_simp
  refine (HEF.out _).mono ?_
  rintro e w2 ⟨rfl, hF2⟩
  have HF2 : Hid (Fr [] W1 w2) := ((Fr.refl [] W1).drew).trans hF2
  refine hK.out _ _ ⟨HF2.out.cell (by simp) k5, HF2.out.cell (by simp) p0, HF2.out.cell (by simp) q1, HF2.out.cell (by simp) q2, HF2.out.cell (by simp) q3⟩ (fun hHeld2 => ?_)
  clear hK hF2
  (refine wpAnyH_take (i := 10) (oi := ⟨some 9, _, _, _, _, _⟩) (v := ?_) rfl (by kernel_rfl) (by kernel_rfl) (by kernel_rfl) (fun _ _ _ h => h) (Or.inl ⟨by rfl, ?_⟩) (by assumption) ?_); rotate_left; focus (intro w hSw; (try dsimp only at hSw); go_split_ands; go_simp; try with_reducible rfl); (try simp only [Act.put, List.setIfInBounds_toArray, List.set_cons_zero, List.set_cons_succ])
  (refine wpAnyH_take (i := 11) (oi := ⟨some 20, _, _, _, _, _⟩) (v := ?_) rfl (by kernel_rfl) (by kernel_rfl) (by kernel_rfl) (fun _ _ _ h => h) (Or.inl ⟨by rfl, ?_⟩) (by assumption) ?_); rotate_left; focus (intro w hSw; (try dsimp only at hSw); go_split_ands; go_simp; try with_reducible rfl); (try simp only [Act.put, List.setIfInBounds_toArray, List.set_cons_zero, List.set_cons_succ])
  (refine wpAnyH_take (i := 12) (oi := ⟨some 21, _, _, _, _, _⟩) (v := ?_) rfl (by kernel_rfl) (by kernel_rfl) (by kernel_rfl) (fun _ _ _ h => h) (Or.inl ⟨by rfl, ?_⟩) (by assumption) ?_); rotate_left; focus (intro w hSw; (try dsimp only at hSw); go_split_ands; go_simp; try with_reducible rfl); (try simp only [Act.put, List.setIfInBounds_toArray, List.set_cons_zero, List.set_cons_succ])
  (refine wpAnyH_take (i := 13) (oi := ⟨some 6, _, _, _, _, _⟩) (v := ?_) rfl (by kernel_rfl) (by kernel_rfl) (by kernel_rfl) (fun _ _ _ h => h) (Or.inl ⟨by rfl, ?_⟩) (by assumption) ?_); rotate_left; focus (intro w hSw; (try dsimp only at hSw); go_split_ands; go_simp; try with_reducible rfl); (try simp only [Act.put, List.setIfInBounds_toArray, List.set_cons_zero, List.set_cons_succ])
  (refine wpAnyH_take (i := 14) (oi := ⟨some 7, _, _, _, _, _⟩) (v := ?_) rfl (by kernel_rfl) (by kernel_rfl) (by kernel_rfl) (fun _ _ _ h => h) (Or.inl ⟨by rfl, ?_⟩) (by assumption) ?_); rotate_left; focus (intro w hSw; (try dsimp only at hSw); go_split_ands; go_simp; try with_reducible rfl); (try simp only [Act.put, List.setIfInBounds_toArray, List.set_cons_zero, List.set_cons_succ])
  refine wpAnyH_done (by kernel_rfl) (Norm.mk ?_) _
  have r1 := HF2.out.cell (by simp) p1
  have r2 := HF2.out.cell (by simp) k2
  have r3 := HF2.out.cell (by simp) ke1
  have r4 := HF2.out.cell (by simp) ke2
  have HFF := Lib.hid (HF1.out.trans HF2.out)
  clear p0 p1 q1 q2 q3 k2 k5 ke1 ke2 hHeld hHeld2
  have hd0 : (0 : Int) ≤ (d : Int) := by omega
  by_cases c1 : (d : Int) < nd
  · have HX : Hid (fi = false) := Lib.hid (by rw [HFI.out]; simp; omega)
    go_wp2_with fail
    go_quiet (fail)
    go_wp2_with fail
    go_ret2
    exact ⟨HFF.out.drewN _, .inr ⟨HX.out, ef, rfl⟩⟩
  · by_cases c2 : st < (d : Int) - nd + lv
    · have HX : Hid (fi = false) := Lib.hid (by rw [HFI.out]; simp; omega)
      go_wp2_with fail
      go_quiet (fail)
      go_wp2_with fail
      go_ret2
      exact ⟨HFF.out.drewN _, .inr ⟨HX.out, em, rfl⟩⟩
    · have HX : Hid (fi = true) := Lib.hid (by rw [HFI.out]; simp; omega)
      have HY := Lib.hid (HAF.out (by omega))
      go_wp2_with fail
      go_ret2
      exact ⟨HFF.out, .inl ⟨HX.out, tup2 (vi HY.out.symm) rfl⟩⟩
set_option maxRecDepth 100000 in
set_option maxHeartbeats 1600000 in
theorem isLast_at (hP : PAt X w0 m la lc ca cc pb rb s W) (hn : m.code.length ≤ 128) (h1 : 1 ≤ m.code.length) (pc : Nat) :
    Calls Tryz.prog 83 #[.pointer (some ⟨pb, 0, none⟩), .int .i64 (pc : Int)] W (Gives (.bool (decide (pc + 1 = m.code.length))) W) := by
  obtain ⟨pv, hbox⟩ := hP.box
  have k5 : W.cell? ⟨pb, 5, none⟩ = some (.slice ca m.code.length cc) := cell_of_heap hbox rfl
  obtain ⟨n, hN⟩ : ∃ n, n = m.code.length := ⟨_, rfl⟩
  rw [← hN] at k5 hn h1 ⊢
  clear hN hbox hP
  obtain ⟨B, hB⟩ : ∃ B, B = decide (pc + 1 = n) := ⟨_, rfl⟩
  have e1 : ((pc : Int) == (n : Int) - 1) = B := by rw [hB, Bool.eq_iff_iff]; simp; omega
  rw [← hB]
  clear hB
  go_enter Tryz.func83, Tryz.ntmps83
  go_wp2_with fail
  go_ret
  exact ⟨rfl, rfl⟩
end
end Go.Proofs.YtomcfjckhajhmabGreatDoor
namespace Go.Proofs.YtomcfjckhajhmabGreatDoor
open Go.RowKit

section
variable {X : List (Nat × Obj)} {w0 W : World} {m : Mth} {la ca : Option Addr} {lc cc pb rb : Nat} {s : List (Nat × Nat) × List (Nat × Nat)}
theorem ne_nil (u : TypeId) (x : Value) (w : World) : (binOp .neq 92 (.iface u x) .nilIface).run Tryz.prog w = .ok (.bool true) w := by go_simp
theorem reachMs_two (s : List (Nat × Nat) × List (Nat × Nat)) (a b : List (Nat × Nat)) : reachMs s (a ++ b) = reachMs (reachMs s a) b := List.foldl_append
set_option maxRecDepth 100000 in
set_option maxHeartbeats 3200000 in
theorem leave_at (hok : m.ok = true) (hop : ∀ i ∈ m.code, m.opOk i = true) (hP : PAt X w0 m la lc ca cc pb rb s W) (hcode : RowAt w0 ca (flatI m.code)) (hE : VErrs w0) {pc d : Nat} {i : Ins} (hi : m.code[pc]? = some i) (hw : Way m pc d) :
    Calls Tryz.prog 78 #[.pointer (some ⟨pb, 0, none⟩), .agg #[.int .i64 (pc : Int), .int .i64 (d : Int)]] W fun e W' => e = .returned (.tuple #[]) ∧ PAt X w0 m la lc ca cc pb rb (reachMs s (if m.fine i d = true then m.succ i pc d else [])) W' := by
  obtain ⟨L, hL⟩ : ∃ L, L = (if m.fine i d = true then m.succ i pc d else []) := ⟨_, rfl⟩
  rw [← hL]
  have HL := Lib.hid hL
  clear hL
  have hhd := m.head_iff.1 (m.ok_iff.1 hok).1
  have hio := (m.ok_iff.1 hok).2 i (List.mem_of_getElem? hi)
  have hwl := hw.lt hok hop
  have hn : m.code.length ≤ 128 := by omega
  obtain ⟨W1, hW1⟩ : ∃ W1, W1 = W.alloc (.cells #[.int .i64 (pc : Int), .int .i64 (d : Int)] 143) := ⟨_, rfl⟩
  have hF1 : Fr [] W W1 := by rw [hW1]; exact (Fr.refl _ _).alloc _
  have hb1 : W1.heap[W.heap.size]? = some (.cells #[.int .i64 (pc : Int), .int .i64 (d : Int)] 143 (0, 0)) := by rw [hW1]; exact heap_new _ _
  have hP1 := hP.hold (.cells #[.int .i64 (pc : Int), .int .i64 (d : Int)] 143)
  rw [← hW1] at hP1
  have haf := after_at hP1 hcode hE ⟨by omega, by omega⟩ hi hio (show d ≤ 16 by omega)
  have p0 : W1.cell? ⟨W.heap.size, 0, none⟩ = some (.int .i64 (pc : Int)) := cell_of_heap hb1 rfl
  have p1 : W1.cell? ⟨W.heap.size, 1, none⟩ = some (.int .i64 (d : Int)) := cell_of_heap hb1 rfl
  have HB1 := Lib.hid hb1
  have HP1 : Hid (PAt ((W.heap.size, .cells #[.int .i64 (pc : Int), .int .i64 (d : Int)] 143) :: X) w0 m la lc ca cc pb rb s W1) := Lib.hid hP1
  have HW1 := Lib.hid hW1
  have HWAY := Lib.hid hw
  have HI := Lib.hid hi
  have HIO := Lib.hid hio
  have HOK := Lib.hid hok
  have HOP := Lib.hid hop
  have HCODE := Lib.hid hcode
  have HHD := Lib.hid hhd
  have HN := Lib.hid hn
  have HWL := Lib.hid hwl
  clear hP1 hW1 hb1 hF1 hP hw hi hio hok hop hcode hhd hE hn hwl
  go_enter Tryz.func78, Tryz.ntmps78
  go_wp2_with fail
  rw [← HW1.out]
  refine haf.mono ?_
  rintro e w2 ⟨hF2, ⟨hfi, rfl⟩ | ⟨hfi, ea, rfl⟩⟩
  · have HP2 := Lib.hid (HP1.out.still hF2)
    have hb2 := hF2.heap (by simp) HB1.out
    obtain ⟨g, off, hca, q1, q2, q3⟩ := code_at HP2.out HCODE.out HI.out
    obtain ⟨pv, hbox⟩ := HP2.out.box
    have k5 : w2.cell? ⟨pb, 5, none⟩ = some (.slice ca m.code.length cc) := cell_of_heap hbox rfl
    rw [hca] at k5
    have r0 : w2.cell? ⟨W.heap.size, 0, none⟩ = some (.int .i64 (pc : Int)) := cell_of_heap hb2 rfl
    have r1 : w2.cell? ⟨W.heap.size, 1, none⟩ = some (.int .i64 (d : Int)) := cell_of_heap hb2 rfl
    obtain ⟨n, hN⟩ : ∃ n, n = m.code.length := ⟨_, rfl⟩
    rw [← hN] at k5
    have HNN := Lib.hid hN
    have x1 : pc < n := by rw [hN]; exact HWL.out.1
    have x2 : (0 : Int) ≤ (pc : Int) := by omega
    have x3 : (pc : Int) < (n : Int) := by omega
    have HB2 := Lib.hid hb2
    have HFI := Lib.hid hfi
    have HF2 := Lib.hid hF2
    have HCA := Lib.hid hca
    have hmx : Tryz.prog.follows .mixedOrders = true := by kernel_rfl
    clear haf hF2 hb2 hN hfi hbox p0 p1 hca
    go_wp2_with fail
    refine region_own' (S := fun w' => w'.cell? ⟨pb, 5, none⟩ = some (.slice (some ⟨g, off, none⟩) n cc) ∧ w'.cell? ⟨W.heap.size, 0, none⟩ = some (.int .i64 (pc : Int)) ∧ w'.cell? ⟨g, off + pc * 3, none⟩ = some (.int .i64 i.op) ∧ w'.cell? ⟨g, off + pc * 3 + 1, none⟩ = some (.int .i64 i.a) ∧ w'.cell? ⟨g, off + pc * 3 + 2, none⟩ = some (.int .i64 i.b)) hmx ⟨k5, r0, q1, q2, q3⟩ (fun hHeld => ?_)
    (refine wpAnyH_take (i := 0) (oi := ⟨some 15, _, _, _, _, _⟩) (v := ?_) rfl (by kernel_rfl) (by kernel_rfl) (by kernel_rfl) (fun _ _ _ h => h) (Or.inl ⟨by rfl, ?_⟩) (by assumption) ?_); rotate_left; focus (intro w hSw; (try dsimp only at hSw); go_split_ands; go_simp; try with_reducible rfl); (try simp only [Act.put, List.setIfInBounds_toArray, List.set_cons_zero, List.set_cons_succ])
    (refine wpAnyH_take (i := 1) (oi := ⟨some 16, _, _, _, _, _⟩) (v := ?_) rfl (by kernel_rfl) (by kernel_rfl) (by kernel_rfl) (fun _ _ _ h => h) (Or.inl ⟨by rfl, ?_⟩) (by assumption) ?_); rotate_left; focus (intro w hSw; (try dsimp only at hSw); go_split_ands; go_simp; try with_reducible rfl); (try simp only [Act.put, List.setIfInBounds_toArray, List.set_cons_zero, List.set_cons_succ])
    (refine wpAnyH_take (i := 2) (oi := ⟨some 17, _, _, _, _, _⟩) (v := ?_) rfl (by kernel_rfl) (by kernel_rfl) (by kernel_rfl) (fun _ _ _ h => h) (Or.inl ⟨by rfl, ?_⟩) (by assumption) ?_); rotate_left; focus (intro w hSw; (try dsimp only at hSw); go_split_ands; go_simp; try with_reducible rfl); (try simp only [Act.put, List.setIfInBounds_toArray, List.set_cons_zero, List.set_cons_succ])
    (refine wpAnyH_take (i := 3) (oi := ⟨some 18, _, _, _, _, _⟩) (v := ?_) rfl (by kernel_rfl) (by kernel_rfl) (by kernel_rfl) (fun _ _ _ h => h) (Or.inl ⟨by rfl, ?_⟩) (by assumption) ?_); rotate_left; focus (intro w hSw; (try dsimp only at hSw); go_split_ands; go_simp; try with_reducible rfl); (try simp only [Act.put, List.setIfInBounds_toArray, List.set_cons_zero, List.set_cons_succ])
    (refine wpAnyH_take (i := 4) (oi := ⟨some 19, _, _, _, _, _⟩) (v := ?_) rfl (by kernel_rfl) (by kernel_rfl) (by kernel_rfl) (fun _ _ _ h => h) (Or.inl ⟨by rfl, ?_⟩) (by assumption) ?_); rotate_left; focus (intro w hSw; (try dsimp only at hSw); go_split_ands; go_simp; try with_reducible rfl); (try simp only [Act.put, List.setIfInBounds_toArray, List.set_cons_zero, List.set_cons_succ])
    (refine wpAnyH_take (i := 5) (oi := ⟨some 20, _, _, _, _, _⟩) (v := ?_) rfl (by kernel_rfl) (by kernel_rfl) (by kernel_rfl) (fun _ _ _ h => h) (Or.inl ⟨by rfl, ?_⟩) (by assumption) ?_); rotate_left; focus (intro w hSw; (try dsimp only at hSw); go_split_ands; go_simp; try with_reducible rfl); (try simp only [Act.put, List.setIfInBounds_toArray, List.set_cons_zero, List.set_cons_succ])
    (refine wpAnyH_take (i := 6) (oi := ⟨some 21, _, _, _, _, _⟩) (v := ?_) rfl (by kernel_rfl) (by kernel_rfl) (by kernel_rfl) (fun _ _ _ h => h) (Or.inl ⟨by rfl, ?_⟩) (by assumption) ?_); rotate_left; focus (intro w hSw; (try dsimp only at hSw); go_split_ands; go_simp; try with_reducible rfl); (try simp only [Act.put, List.setIfInBounds_toArray, List.set_cons_zero, List.set_cons_succ])
    (refine wpAnyH_take (i := 7) (oi := ⟨some 22, _, _, _, _, _⟩) (v := ?_) rfl (by kernel_rfl) (by kernel_rfl) (by kernel_rfl) (fun _ _ _ h => h) (Or.inl ⟨by rfl, ?_⟩) (by assumption) ?_); rotate_left; focus (intro w hSw; (try dsimp only at hSw); go_split_ands; go_simp; try with_reducible rfl); (try simp only [Act.put, List.setIfInBounds_toArray, List.set_cons_zero, List.set_cons_succ])
    (refine wpAnyH_take (i := 8) (oi := ⟨some 23, _, _, _, _, _⟩) (v := ?_) rfl (by kernel_rfl) (by kernel_rfl) (by kernel_rfl) (fun _ _ _ h => h) (Or.inl ⟨by rfl, ?_⟩) (by assumption) ?_); rotate_left; focus (intro w hSw; (try dsimp only at hSw); go_split_ands; go_simp; try with_reducible rfl); (try simp only [Act.put, List.setIfInBounds_toArray, List.set_cons_zero, List.set_cons_succ])
    (refine wpAnyH_ready (rs := [9]) (by kernel_rfl) (by simp) ?_; refine AllReadyH.cons rfl (fun K hK => ?_) AllReadyH.nil); go_simp
    have hF3 : Fr [] w2 (w2.alloc (.cells #[.int .i64 0, .int .i64 0, .int .i64 0] 69)).drew := ((Fr.refl _ _).alloc _).drew
    refine hK.out _ _ ⟨hF3.cell (by simp) k5, hF3.cell (by simp) r0, hF3.cell (by simp) q1, hF3.cell (by simp) q2, hF3.cell (by simp) q3⟩ (fun hHeld2 => ?_)
    clear hK
    (refine wpAnyH_ready (rs := [10]) (by kernel_rfl) (by simp) ?_; refine AllReadyH.cons rfl (fun K hK => ?_) AllReadyH.nil); go_simp
    obtain ⟨w3, hw3⟩ : ∃ w3, w3 = (w2.alloc (.cells #[.int .i64 i.op, .int .i64 i.a, .int .i64 i.b] 69)).drew := ⟨_, rfl⟩
    rw [← hw3]
    have hF4 : Fr [] w2 w3 := by rw [hw3]; exact ((Fr.refl _ _).alloc _).drew
    have hb3 : w3.heap[w2.heap.size]? = some (.cells #[.int .i64 i.op, .int .i64 i.a, .int .i64 i.b] 69 (0, 0)) := by rw [hw3]; exact heap_new _ _
    refine hK.out _ _ ⟨hF4.cell (by simp) k5, hF4.cell (by simp) r0, hF4.cell (by simp) q1, hF4.cell (by simp) q2, hF4.cell (by simp) q3⟩ (fun hHeld3 => ?_)
    refine wpAnyH_done (by kernel_rfl) (Norm.mk ?_) _
    have i0 : w3.cell? ⟨w2.heap.size, 0, none⟩ = some (.int .i64 i.op) := cell_of_heap hb3 rfl
    have i1 : w3.cell? ⟨w2.heap.size, 1, none⟩ = some (.int .i64 i.a) := cell_of_heap hb3 rfl
    have i2 : w3.cell? ⟨w2.heap.size, 2, none⟩ = some (.int .i64 i.b) := cell_of_heap hb3 rfl
    have HB3 := Lib.hid hb3
    have HP3 : Hid (PAt ((w2.heap.size, .cells #[.int .i64 i.op, .int .i64 i.a, .int .i64 i.b] 69) :: (W.heap.size, .cells #[.int .i64 (pc : Int), .int .i64 (d : Int)] 143) :: X) w0 m la lc ca cc pb rb s w3) := Lib.hid (by rw [hw3]; exact (HP2.out.hold _).still ((Fr.refl _ _).drew))
    clear hK hHeld hHeld2 hHeld3 hF3 hF4 hw3 hb3 k5 r0 r1 q1 q2 q3
    have hj := jumps_at i HIO.out w3
    unfold Ins.v at hj
    obtain ⟨nd, hnd⟩ : ∃ x, x = i.after d := ⟨_, rfl⟩
    have hnd16 : nd ≤ 16 := by
      have h1 := Ins.after_int HIO.out HFI.out
      have h2 := HHD.out
      omega
    rw [← hnd]
    have HSU : Hid (reachMs s L = reachMs (reachMs s (if i.jumps = true then [(i.a.toNat, nd)] else [])) (if i.goesOn = true ∧ pc + 1 < n then [(pc + 1, nd)] else [])) := Lib.hid (by
      rw [HL.out, if_pos HFI.out, hnd, HNN.out]
      unfold Mth.succ
      exact reachMs_two _ _ _)
    clear hnd
    have HGO := Lib.hid (fun W => goesOn_at i HIO.out W)
    unfold Ins.v at HGO
    have hja : i.jumps = true → 0 ≤ i.a ∧ i.a < n := fun h => by
      have ho := HOP.out i (List.mem_of_getElem? HI.out)
      have h1 := HIO.out
      rw [Ins.ok_iff] at h1
      unfold Ins.jumps at h
      simp only [decide_eq_true_eq] at h
      unfold Mth.opOk at ho
      rw [if_neg (by omega), if_neg (by omega), if_neg (by omega), if_neg (by omega), if_pos h] at ho
      simp only [decide_eq_true_eq] at ho
      rw [HNN.out]
      omega
    obtain ⟨J, hJ⟩ : ∃ J, J = i.jumps := ⟨_, rfl⟩
    obtain ⟨G, hG⟩ : ∃ G, G = i.goesOn := ⟨_, rfl⟩
    obtain ⟨op, ia, ib⟩ := i
    simp only at *
    rw [← hJ] at hj HSU hja
    rw [← hG] at HSU
    simp only [← hG] at HGO
    have HJA := Lib.hid hja
    clear hja hJ hG
    go_wp2_with fail
    refine hj.mono ?_
    rintro e w4 ⟨rfl, hF4⟩
    have HP4 := Lib.hid (HP3.out.still hF4)
    clear hj hF4 i0 i1 i2
    have i1 : w4.cell? ⟨w2.heap.size, 1, none⟩ = some (.int .i64 ia) := cell_of_heap (HP4.out.kept (List.mem_cons_self ..)) rfl
    have hpc : pc ≤ 128 := by have := HWL.out.1; have := HN.out; omega
    cases J
    · have HS2 : Hid (reachMs s L = reachMs s (if G = true ∧ pc + 1 < n then [(pc + 1, nd)] else [])) := Lib.hid HSU.out
      clear HSU
      have j0 : w4.cell? ⟨w2.heap.size, 0, none⟩ = some (.int .i64 op) := cell_of_heap (HP4.out.kept (List.mem_cons_self ..)) rfl
      have j2 : w4.cell? ⟨w2.heap.size, 2, none⟩ = some (.int .i64 ib) := cell_of_heap (HP4.out.kept (List.mem_cons_self ..)) rfl
      go_wp2_with fail
      refine (HGO.out _).mono ?_
      rintro e w6 ⟨rfl, hF6⟩
      have HP6 := Lib.hid (HP4.out.still hF6)
      have f0 : w6.cell? ⟨W.heap.size, 0, none⟩ = some (.int .i64 (pc : Int)) := cell_of_heap (HP6.out.kept (List.mem_cons_of_mem _ (List.mem_cons_self ..))) rfl
      have hla := isLast_at HP6.out HN.out (by have := HHD.out; omega) pc
      clear hF6
      cases G
      · have HX : Hid (reachMs s L = s) := Lib.hid (by rw [HS2.out]; rfl)
        go_wp2_with fail
        go_end0
        refine ⟨rfl, ?_⟩
        rw [HX.out]
        exact HP6.out.less.less
      · by_cases hlast : pc + 1 = m.code.length
        · have HX : Hid (reachMs s L = s) := Lib.hid (by rw [HS2.out, if_neg (by rw [HNN.out]; omega)]; rfl)
          rw [decide_eq_true hlast] at hla
          clear hlast
          go_wp2_with (go_at_call 83; refine hla.mono ?_; rintro e w7 ⟨rfl, rfl⟩)
          go_end0
          refine ⟨rfl, ?_⟩
          rw [HX.out]
          exact HP6.out.less.less
        · have hlt : pc + 1 < m.code.length := by have := HWL.out.1; omega
          have HX : Hid (reachMs s L = reachM (s) (pc + 1, nd)) := Lib.hid (by rw [HS2.out, if_pos ⟨rfl, by rw [HNN.out]; exact hlt⟩]; rfl)
          rw [decide_eq_false hlast] at hla
          have hr2 := preach_at HP6.out HN.out (pc + 1) nd hlt hnd16
          have ecast : ((pc + 1 : Nat) : Int) = (pc : Int) + 1 := by omega
          rw [ecast] at hr2
          clear hlast hlt ecast
          go_wp2_with (first | (go_at_call 83; refine hla.mono ?_; rintro e w7 ⟨rfl, rfl⟩) | (go_at_call 77; (with_reducible refine hr2.mono ?_); rintro e w8 ⟨rfl, hP8⟩; have HP8 := Lib.hid hP8; clear hP8))
          go_end0
          refine ⟨rfl, ?_⟩
          rw [HX.out]
          exact HP8.out.less.less
    · obtain ⟨a0, ha0⟩ : ∃ a0 : Nat, ia = (a0 : Int) := ⟨ia.toNat, by have := HJA.out rfl; omega⟩
      subst ha0
      have hr := preach_at HP4.out HN.out a0 nd (by have := HJA.out rfl; rw [← HNN.out]; omega) hnd16
      have ea0 : (a0 : Int).toNat = a0 := by omega
      rw [ea0] at HSU
      have HS2 : Hid (reachMs s L = reachMs (reachM s (a0, nd)) (if G = true ∧ pc + 1 < n then [(pc + 1, nd)] else [])) := Lib.hid HSU.out
      clear ea0 HSU
      go_wp2_with fail
      refine hr.mono ?_
      rintro e w5 ⟨rfl, hP5⟩
      have HP5 := Lib.hid hP5
      have j0 : w5.cell? ⟨w2.heap.size, 0, none⟩ = some (.int .i64 op) := cell_of_heap (HP5.out.kept (List.mem_cons_self ..)) rfl
      have j1 : w5.cell? ⟨w2.heap.size, 1, none⟩ = some (.int .i64 (a0 : Int)) := cell_of_heap (HP5.out.kept (List.mem_cons_self ..)) rfl
      have j2 : w5.cell? ⟨w2.heap.size, 2, none⟩ = some (.int .i64 ib) := cell_of_heap (HP5.out.kept (List.mem_cons_self ..)) rfl
      clear hr hP5 i1
      go_wp2_with fail
      refine (HGO.out _).mono ?_
      rintro e w6 ⟨rfl, hF6⟩
      have HP6 := Lib.hid (HP5.out.still hF6)
      have f0 : w6.cell? ⟨W.heap.size, 0, none⟩ = some (.int .i64 (pc : Int)) := cell_of_heap (HP6.out.kept (List.mem_cons_of_mem _ (List.mem_cons_self ..))) rfl
      have hla := isLast_at HP6.out HN.out (by have := HHD.out; omega) pc
      clear hF6
      cases G
      · have HX : Hid (reachMs s L = reachM s (a0, nd)) := Lib.hid (by rw [HS2.out]; rfl)
        go_wp2_with fail
        go_end0
        refine ⟨rfl, ?_⟩
        rw [HX.out]
        exact HP6.out.less.less
      · by_cases hlast : pc + 1 = m.code.length
        · have HX : Hid (reachMs s L = reachM s (a0, nd)) := Lib.hid (by rw [HS2.out, if_neg (by rw [HNN.out]; omega)]; rfl)
          rw [decide_eq_true hlast] at hla
          clear hlast
          go_wp2_with (go_at_call 83; refine hla.mono ?_; rintro e w7 ⟨rfl, rfl⟩)
          go_end0
          refine ⟨rfl, ?_⟩
          rw [HX.out]
          exact HP6.out.less.less
        · have hlt : pc + 1 < m.code.length := by have := HWL.out.1; omega
          have HX : Hid (reachMs s L = reachM (reachM s (a0, nd)) (pc + 1, nd)) := Lib.hid (by rw [HS2.out, if_pos ⟨rfl, by rw [HNN.out]; exact hlt⟩]; rfl)
          rw [decide_eq_false hlast] at hla
          have hr2 := preach_at HP6.out HN.out (pc + 1) nd hlt hnd16
          have ecast : ((pc + 1 : Nat) : Int) = (pc : Int) + 1 := by omega
          rw [ecast] at hr2
          clear hlast hlt ecast
          go_wp2_with (first | (go_at_call 83; refine hla.mono ?_; rintro e w7 ⟨rfl, rfl⟩) | (go_at_call 77; (with_reducible refine hr2.mono ?_); rintro e w8 ⟨rfl, hP8⟩; have HP8 := Lib.hid hP8; clear hP8))
          go_end0
          refine ⟨rfl, ?_⟩
          rw [HX.out]
          exact HP8.out.less.less
  · have HP2 := Lib.hid (HP1.out.still hF2)
    have HX : Hid (L = []) := Lib.hid (by rw [HL.out, hfi]; rfl)
    have hnn := ne_nil
    clear haf hF2 hfi
    go_wp2_with fail
    refine bodyPost_ret (results_none rfl _ _ _) rfl ⟨rfl, ?_⟩
    rw [HX.out]
    exact HP2.out.less
end
end Go.Proofs.YtomcfjckhajhmabGreatDoor
namespace Go.Proofs.YtomcfjckhajhmabGreatDoor
open Go.RowKit

section
variable {X : List (Nat × Obj)} {w0 W : World} {m : Mth} {la ca : Option Addr} {lc cc pb rb : Nat} {s : List (Nat × Nat) × List (Nat × Nat)}
theorem Reached.next {M P : List (Nat × Nat)} {pc d : Nat} {i : Ins} (h : Reached m (fun k e => (k, e) ∈ M) (P ++ [(pc, d)])) (hi : m.code[pc]? = some i) : Reached m (fun k e => (k, e) ∈ (reachMs (M, P) (if m.fine i d = true then m.succ i pc d else [])).1) (reachMs (M, P) (if m.fine i d = true then m.succ i pc d else [])).2 := by
  have hm : ∀ q, q ∈ (if m.fine i d = true then m.succ i pc d else []) ↔ (m.fine i d = true ∧ q ∈ m.succ i pc d) := fun q => by
    split
    · next hf => exact ⟨fun h => ⟨hf, h⟩, fun h => h.2⟩
    · next hf => exact ⟨fun h => (by cases h), fun h => absurd h.1 hf⟩
  refine h.leave hi (fun k e => ?_) (fun q => ?_)
  · rw [(reachMs_mem _ _ _).1, hm]
  · rw [(reachMs_mem _ _ _).2, hm]
    constructor
    · rintro (h | ⟨⟨h1, h2⟩, h3⟩)
      · exact .inl h
      · exact .inr ⟨h1, h2, h3⟩
    · rintro (h | ⟨h1, h2, h3⟩)
      · exact .inl h
      · exact .inr ⟨⟨h1, h2⟩, h3⟩
theorem Reached.begin (m : Mth) : Reached m (fun k e => (k, e) ∈ [(0, 0)]) [(0, 0)] := by
  refine ⟨fun pc d h => ?_, fun p hp => by simp at hp; subst hp; simp, by simp, fun pc d i h _ _ => .inl h⟩
  simp at h
  obtain ⟨rfl, rfl⟩ := h
  exact .start
set_option maxRecDepth 100000 in
set_option maxHeartbeats 3200000 in
theorem pfollow_at (hok : m.ok = true) (hop : ∀ i ∈ m.code, m.opOk i = true) (hP : PAt X w0 m la lc ca cc pb rb ([], []) W) (hcode : RowAt w0 ca (flatI m.code)) (hE : VErrs w0) :
    Calls Tryz.prog 54 #[.pointer (some ⟨pb, 0, none⟩)] W fun e W' => e = .returned (.tuple #[]) ∧ ∃ M, PAt X w0 m la lc ca cc pb rb (M, []) W' ∧ ∀ pc d, (pc, d) ∈ M ↔ Way m pc d := by
  have hhd := m.head_iff.1 (m.ok_iff.1 hok).1
  have hn : m.code.length ≤ 128 := by omega
  have hr := preach_at hP hn 0 0 (by omega) (by omega)
  have HOK := Lib.hid hok
  have HOP := Lib.hid hop
  have HCODE := Lib.hid hcode
  have HE := Lib.hid hE
  have HHD := Lib.hid hhd
  have HN := Lib.hid hn
  clear hok hop hP hcode hE hhd hn
  go_enter Tryz.func54, Tryz.ntmps54
  go_wp2_with fail
  refine hr.mono ?_
  rintro e w1 ⟨rfl, hP1⟩
  have HP1 : Hid (PAt X w0 m la lc ca cc pb rb ([(0, 0)], [(0, 0)]) w1) := Lib.hid hP1
  clear hr hP1
  go_wp2_with fail
  go_loopg [] (2 * (m.code.length * 17 - 1) + 1) (fun k wr => ∃ M P, Hid (Reached m (fun k e => (k, e) ∈ M) P) ∧ Hid (PAt X w0 m la lc ca cc pb rb (M, P) wr) ∧ 2 * (m.code.length * 17 - M.length) + P.length ≤ k)
  case atStart => exact ⟨[(0, 0)], [(0, 0)], Lib.hid (Reached.begin m), HP1, Nat.le_refl _⟩
  case round =>
    obtain ⟨M, P, hRe, hPA, hle⟩ := hrel
    rcases List.eq_nil_or_concat P with rfl | ⟨P', q, rfl⟩
    · obtain ⟨pv, R, hM, hpl, hp⟩ := hPA.out
      obtain ⟨pa, pc0, rfl⟩ := row_shape' hp.row
      have c7 : wr.cell? ⟨pb, 7, none⟩ = some (.slice pa 0 pc0) := cell_of_heap hp.box rfl
      clear hp hM hpl hle
      go_wp2_with fail
      go_end0
      exact ⟨rfl, M, hPA.out, fun pc d => hRe.out.done⟩
    · simp only [List.concat_eq_append] at *
      obtain ⟨pc, d⟩ := q
      have hh := hPA.out.hold (.cells #[.int .i64 (pc : Int), .int .i64 (d : Int)] 143)
      obtain ⟨pv, R, hM, hpl, hp⟩ := hPA.out
      obtain ⟨g, cap, rfl, c1, c2, hcap⟩ := hp.last
      have c7 : wr.cell? ⟨pb, 7, none⟩ = some (.slice (some ⟨g, 0, none⟩) (P'.length + 1) cap) := cell_of_heap hp.box rfl
      have hwr : wr.heap[pb]? = _ := hp.box
      obtain ⟨W1, hW1⟩ : ∃ W1, W1 = wr.alloc (.cells #[.int .i64 (pc : Int), .int .i64 (d : Int)] 143) := ⟨_, rfl⟩
      have hF1 : Fr [] wr W1 := by rw [hW1]; exact (Fr.refl _ _).alloc _
      have d7 := hF1.cell (by simp) c7
      have hpo := (hp.still hF1).popped
      obtain ⟨W2, hW2⟩ : ∃ W2, W2 = W1.setCell ⟨pb, 7, none⟩ (.slice (some ⟨g, 0, none⟩) P'.length cap) := ⟨_, rfl⟩
      rw [← hW2] at hpo
      have hnb : pb ≠ wr.heap.size := by have := lt_of_heap hwr; omega
      have hb2 : W2.heap[wr.heap.size]? = some (.cells #[.int .i64 (pc : Int), .int .i64 (d : Int)] 143 (0, 0)) := by
        have h1 : W1.heap[wr.heap.size]? = some (.cells #[.int .i64 (pc : Int), .int .i64 (d : Int)] 143 (0, 0)) := by rw [hW1]; exact heap_new _ _
        have h2 : Fr [pb] W1 W2 := by rw [hW2]; exact (Fr.refl _ _).setCell (fun _ => by simp) _
        exact h2.heap (by simpa using Ne.symm hnb) h1
      have e0 : W2.cell? ⟨wr.heap.size, 0, none⟩ = some (.int .i64 (pc : Int)) := cell_of_heap hb2 rfl
      have e1 : W2.cell? ⟨wr.heap.size, 1, none⟩ = some (.int .i64 (d : Int)) := cell_of_heap hb2 rfl
      have hz := hpo.1
      have hP2 : PAt X w0 m la lc ca cc pb rb (M, P') W2 := ⟨_, R, hM, by simp at hpl; show P'.length ≤ M.length; omega, hpo.2⟩
      have hway : Way m pc d := hRe.out.sound pc d (hRe.out.pend (pc, d) (by simp))
      have hpc := (hway.lt HOK.out HOP.out).1
      obtain ⟨i, hi⟩ : ∃ i, m.code[pc]? = some i := ⟨_, List.getElem?_eq_getElem hpc⟩
      have hlv := leave_at HOK.out HOP.out hP2 HCODE.out HE.out hi hway
      have HNX := Lib.hid (hRe.out.next hi)
      have hlen := reachMs_len (M, P') (if m.fine i d = true then m.succ i pc d else [])
      obtain ⟨L, hL⟩ : ∃ L, L = (if m.fine i d = true then m.succ i pc d else []) := ⟨_, rfl⟩
      rw [← hL] at hlv HNX hlen
      have hml := hM.len_le
      simp only [List.length_append, List.length_singleton] at hle
      have hpl' : P'.length + 1 ≤ M.length := by simpa using hpl
      have hml' : M.length ≤ m.code.length * 17 := hml
      have hq : P'.length ≤ 2176 := by have := HN.out; omega
      obtain ⟨q, hqq⟩ : ∃ q, q = P'.length := ⟨_, rfl⟩
      rw [← hqq] at c1 c2 c7 d7 hW2 hcap hq
      have hcap' : q < cap := by omega
      have HQ := Lib.hid hqq
      have HLE := Lib.hid hle
      have HML := Lib.hid hml
      have HLEN := Lib.hid hlen
      have HW1 := Lib.hid hW1
      have HW2 := Lib.hid hW2
      clear hh hp hwr hF1 hpo hb2 hP2 hway hpc hi hL hml hml' hpl' hle hpl hM hW1 hW2 hqq hlen hcap hnb
      go_upto_region 4 with (fail)
      rw [← HW1.out]
      go_upto_region 5 with (fail)
      rw [← HW2.out]
      go_wp2_with (go_at_call 78; (with_reducible refine hlv.mono ?_); rintro e w5 ⟨rfl, hP5⟩; have HP5 := Lib.hid hP5; clear hP5)
      go_roundg (2 * (m.code.length * 17 - (reachMs (M, P') L).1.length) + (reachMs (M, P') L).2.length)
      case measure =>
        have h1 := HLE.out
        have h2 := HLEN.out
        have h3 := HML.out
        have h4 : (reachMs (M, P') L).1.length ≤ m.code.length * 17 := by
          obtain ⟨_, _, h, -⟩ := HP5.out
          exact h.len_le
        omega
      case rel => exact ⟨_, _, HNX, HP5, Nat.le_refl _⟩
end
end Go.Proofs.YtomcfjckhajhmabGreatDoor
