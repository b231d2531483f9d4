/- append to a row that is known: what lies in the row behind it, and that the row is the old one or a new block; append of zeros likewise. Plain, over any program. slices.Repeat at one word: a new row that holds the word so many times. What the memory's place does: an object's words behind the last ones, a mark where it begins. The memory's place, walked. The memory's place, of an object without fields whose slice is nil. The memory's place, whatever address the fields' slice bears. -/
import Derived.Test.YtomcfjckhajhmabGreatDoorMBase
import Derived.Test.YtomcfjckhajhmabGreatDoorMWords
import Derived.Lib.AppendZeros
import Derived.Laws.OwnMore
import Derived.Laws.CopyOwn
import Derived.Deep.RegionLaw
import Derived.Deep.DeepCutAuto
import Derived.Laws.AppendOwnNone
namespace Go.Proofs.YtomcfjckhajhmabGreatDoor
open Go.RowKit

section
variable {P : Program} (w : World)
theorem run_append_at (t ty e : TypeId) (i : TypeInfo) (z : Value) (size bytes : Nat) (ht : P.underlying t = some (.slice e)) (hi : P.info? e = some i) (hz : i.zero = some z)
    (hsize : i.size = size) (hby : i.bytes = bytes) (hzs : z.cells.size = size) (hsz : 0 < size)
    (v : Value) (n : Nat) (xs : List Value) (hown : w.ownsRow 0 e size v n xs)
    (a : Addr) (m c : Nat) (news : List Value) (hl : news.length = m * size) (hnews : ∀ j u, news[j]? = some u → w.cell? (a.add j) = some u) (h1 : ∀ u ∈ news, u.oneCell' = true)
    (h63 : n + m ≤ maxLen) (hbytes : (n + m) * bytes ≤ 140737488355328) :
    ∃ v' w', (Builtin.append_ #[t, t] ty #[v, .slice (some a) m c]).run P w = .ok v' w' ∧ w'.ownsRow 0 e size v' (n + m) (xs ++ news) ∧ w.grownBy w' v.ownBlock ∧
      (v'.ownBlock = v.ownBlock ∨ v'.ownBlock = some w.heap.size) := by
  obtain ⟨v', w', hr, h2, h3, h4⟩ := run_append_own (P := P) w 0 t ty e i z size bytes ht hi hz hsize hby hzs hsz v n xs hown a m c news hl hnews h1 h63 hbytes (Nat.zero_le _)
  refine ⟨v', w', hr, h2, h3, ?_⟩
  subst hsize
  subst hby
  have hsmall : n + m ≤ 9223372036854775807 := by simp only [maxLen] at h63; omega
  rcases hown.2 with ⟨rfl, rfl⟩ | ⟨g, cap, cur, rfl, hbg, hg, hnc, hcm, hcs, htake⟩
  · by_cases hm : m = 0
    · left
      rw [h4.2 ⟨rfl, hm⟩]
    · right
      have e1 := run_append_nil (P := P) w t ty e i z ht hi hz a m c news hl hnews (by omega) (by omega) (by have hb := hbytes; simp only [Nat.zero_add] at hb; omega)
      rw [hr] at e1
      cases e1
      rfl
  · by_cases hroom : n + m ≤ cap
    · left
      have hfit : n * i.size + news.length ≤ cur.size := by rw [hl, hcs, ← Nat.add_mul]; exact Nat.mul_le_mul_right _ hroom
      have e1 := run_append_room (P := P) w t ty e i ht hi g n cap cur hg a m c news hl hnews h1 hroom hfit
      rw [hr] at e1
      cases e1
      rfl
    · right
      have holds : ∀ j u, xs[j]? = some u → w.cell? ((⟨g, 0, none⟩ : Addr).add j) = some u := hown.cells (g := g) rfl
      have e1 := run_append_grow (P := P) w t ty e i z ht hi hz ⟨g, 0, none⟩ n cap xs hown.1 holds a m c news hl hnews (by omega) (by omega) (growslice_fits (by omega) hbytes)
      rw [hr] at e1
      cases e1
      rfl

theorem wpList_append_at {ops : Array Oper} {rest : List Oper} {o : Oper} {a : Act} {Q : Exit → Act → World → Prop} (hgd : o.guard = none) (s x : Operand) (t : TypeId)
    (ho : o.op = .call { callee := .builtin .append, args := #[s, x], argTypes := #[t, t] })
    (e : TypeId) (i : TypeInfo) (z : Value) (size bytes : Nat) (ht : P.underlying t = some (.slice e)) (hi : P.info? e = some i) (hz : i.zero = some z)
    (hsize : i.size = size) (hby : i.bytes = bytes) (hzs : z.cells.size = size) (hsz : 0 < size)
    (v : Value) (n : Nat) (xs : List Value) (hs : a.eval s = v) (hown : w.ownsRow 0 e size v n xs)
    (ad : Addr) (m c : Nat) (news : List Value) (hx : a.eval x = .slice (some ad) m c) (hl : news.length = m * size) (hnews : ∀ j u, news[j]? = some u → w.cell? (ad.add j) = some u) (h1 : ∀ u ∈ news, u.oneCell' = true)
    (h63 : n + m ≤ maxLen) (hbytes : (n + m) * bytes ≤ 140737488355328)
    (h : ∀ v' w', w'.ownsRow 0 e size v' (n + m) (xs ++ news) → w.grownBy w' v.ownBlock → (v'.ownBlock = v.ownBlock ∨ v'.ownBlock = some w.heap.size) → wpList P ops Q rest (a.put o.dst v') w') : wpList P ops Q (o :: rest) a w := by
  obtain ⟨v', w', hr, h2, h3, h4⟩ := run_append_at (P := P) w t o.type e i z size bytes ht hi hz hsize hby hzs hsz v n xs hown ad m c news hl hnews h1 h63 hbytes
  exact Lib.wpList_append_run w hgd s x t t ho v _ hs hx v' w' hr (h v' w' h2 h3 h4)

/-- append(row, make([]T, m)...), elements of one cell -/
theorem run_append_zeros (t tn ty e : TypeId) (i : TypeInfo) (z : Value) (kn : IntKind) (ht : P.underlying t = some (.slice e)) (htn : P.underlying tn = some (.int kn)) (hi : P.info? e = some i) (hz : i.zero = some z)
    (hsize : i.size = 1) (hby : i.bytes ≤ 8) (hzs : z.cells = #[z]) (hz1 : z.oneCell' = true)
    (g n cap : Nat) (xs : List Value) (hown : w.ownsRow 0 e 1 (.slice (some ⟨g, 0, none⟩) n cap) n xs)
    (m : Nat) (hm0 : 0 < m) (hm : n + m ≤ 1000000) :
    ∃ v' w', (Builtin.append_ #[t, tn] ty #[.slice (some ⟨g, 0, none⟩) n cap, .int .i64 m]).run P w = .ok v' w' ∧ w'.ownsRow 0 e 1 v' (n + m) (xs ++ List.replicate m z) ∧ w.grownBy w' (some g) ∧
      (v'.ownBlock = some g ∨ v'.ownBlock = some w.heap.size) := by
  have hcells : (Builtin.zeroCells z.cells m).toList = List.replicate m z := by
    rw [hzs]
    unfold Builtin.zeroCells
    simp [Nat.mod_one, List.map_const']
  have hw : IntKind.i64.wrap (m : Int) = m := by rw [IntKind.wrap_i64]; omega
  have hneg : ¬ ((m : Int) < 0) := by omega
  have hmb : m * i.bytes ≤ 8000000 := Nat.le_trans (Nat.mul_le_mul (show m ≤ 1000000 by omega) hby) (by omega)
  have h48 : ¬ (281474976710656 < (m : Int) * (i.bytes : Int)) := by rw [← Int.natCast_mul]; omega
  rcases hown.2 with ⟨h', _⟩ | ⟨g', cap', cur, h', hbg, hg, hnc, hcm, hcs, htake⟩
  · cases h'
  · simp only [Value.slice.injEq, Option.some.injEq, Addr.mk.injEq, and_true, true_and] at h'
    obtain ⟨rfl, rfl⟩ := h'
    have hxl : xs.length = n := by simpa using hown.1
    have hlen : (xs ++ List.replicate m z).length = (n + m) * 1 := by simp [hxl]
    by_cases hroom : n + m ≤ cap
    · have hst := run_storeCells_at P g (n * i.size) e (List.replicate m z) 0 cur w hg (by simp [hsize, hcs]; omega) (fun u hu => by rw [(List.mem_replicate.1 hu).2]; exact hz1)
      simp only [Nat.add_zero] at hst
      refine ⟨.slice (some ⟨g, 0, none⟩) (n + m) cap, _, ?_, ⟨hlen, .inr ⟨g, cap, _, rfl, hbg, setRow_heap w g cur (cur.toList.take (n * i.size) ++ List.replicate m z ++ cur.toList.drop (n * i.size + m)).toArray e _ hg, hroom, hcm, ?_, ?_⟩⟩, ⟨rfl, rfl, rfl, by simp, fun k _ hk => setRow_other w g k _ (fun e => hk (by simp [e]))⟩, .inl rfl⟩
      · have hm0' : m ≠ 0 := by omega
        simp [Builtin.append_, run_underlying ht, run_underlying htn, sizeOf, typeInfo, zeroValue, hi, hz, asInt, asIntOf, hw, hneg, h48, hroom, hm0', hsize, hcells, Addr.add_lit]
        simp only [hsize, Nat.mul_one, List.length_replicate, List.append_assoc] at hst
        rw [hst]
        rfl
      · simp [hsize, hcs]; omega
      · rw [hsize, htake, ← hlen]; exact List.take_left
    · have holds : ∀ j u, xs[j]? = some u → w.cell? ((⟨g, 0, none⟩ : Addr).add j) = some u := hown.cells (g := g) rfl
      have hf := run_firstCells_some (P := P) w.drew 1 n ⟨g, 0, none⟩ n cap xs (by simpa using hxl) holds
      have hge := grownCap_ge w (n + m) cap e
      have hcm2 : grownCap w (n + m) cap e ≤ maxLen := grownCap_le_maxLen w (n + m) cap e (by unfold maxLen; omega)
      have hbits : ¬ (281474976710656 < Builtin.nextslicecap (n + m) cap * i.bytes) := by
        have := growslice_fits (need := n + m) (old := cap) (bytes := i.bytes) (by omega) (Nat.le_trans (Nat.mul_le_mul hm hby) (by omega))
        omega
      have hn63 : ¬ (9223372036854775807 < (n : Int) + (m : Int)) := by omega
      have hm0' : m ≠ 0 := by omega
      refine ⟨.slice (some ⟨w.heap.size, 0, none⟩) (n + m) (grownCap w (n + m) cap e), w.drew.alloc (.cells (xs.toArray ++ Builtin.zeroCells z.cells m ++ Builtin.zeroCells z.cells (grownCap w (n + m) cap e - (n + m))) e), ?_, ⟨hlen, .inr ⟨w.heap.size, _, _, rfl, Nat.zero_le _, heap_alloc_new w.drew _, hge, hcm2, ?_, ?_⟩⟩, ⟨rfl, rfl, rfl, by simp, fun k hk _ => Below.heap_alloc w.drew _ k hk⟩, .inr rfl⟩
      · simp [Builtin.append_, run_underlying ht, run_underlying htn, sizeOf, typeInfo, zeroValue, hi, hz, asInt, asIntOf, hw, hneg, h48, hroom, hm0', hsize, hbits, hn63, Question.forced, hf, newRow, grownCap]
      · simp [size_zeroCells, hzs, hxl]; omega
      · simp only [Array.toList_append, List.append_assoc, hcells]
        rw [← List.append_assoc, ← hlen]
        exact List.take_left
theorem wpList_append_zeros {ops : Array Oper} {rest : List Oper} {o : Oper} {a : Act} {Q : Exit → Act → World → Prop} (hgd : o.guard = none) (s x : Operand) (t tn : TypeId)
    (ho : o.op = .call { callee := .builtin .append, args := #[s, x], argTypes := #[t, tn] })
    (e : TypeId) (i : TypeInfo) (z : Value) (kn : IntKind) (ht : P.underlying t = some (.slice e)) (htn : P.underlying tn = some (.int kn)) (hi : P.info? e = some i) (hz : i.zero = some z)
    (hsize : i.size = 1) (hby : i.bytes ≤ 8) (hzs : z.cells = #[z]) (hz1 : z.oneCell' = true)
    (g n cap : Nat) (xs : List Value) (hs : a.eval s = .slice (some ⟨g, 0, none⟩) n cap) (hown : w.ownsRow 0 e 1 (.slice (some ⟨g, 0, none⟩) n cap) n xs)
    (M : Int) (m : Nat) (hM : M = (m : Int)) (hx : a.eval x = .int .i64 M) (hm0 : 0 < m) (hm : n + m ≤ 1000000)
    (h : ∀ v' w', w'.ownsRow 0 e 1 v' (n + m) (xs ++ List.replicate m z) → w.grownBy w' (some g) → (v'.ownBlock = some g ∨ v'.ownBlock = some w.heap.size) → wpList P ops Q rest (a.put o.dst v') w') : wpList P ops Q (o :: rest) a w := by
  subst hM
  obtain ⟨v', w', hr, h2, h3, h4⟩ := run_append_zeros (P := P) w t tn o.type e i z kn ht htn hi hz hsize hby hzs hz1 g n cap xs hown m hm0 hm
  exact Lib.wpList_append_run w hgd s x t tn ho _ _ hs hx v' w' hr (h v' w' h2 h3 h4)
end
end Go.Proofs.YtomcfjckhajhmabGreatDoor
namespace Go.Proofs.YtomcfjckhajhmabGreatDoor
open Go.RowKit

theorem infoWord : (Tryz.prog.info? 29).map (fun i => (i.zero, i.size, i.bytes)) = some (some (.int .u64 0), 1, 8) := by kernel_rfl
theorem sizeWord : (Tryz.prog.info? 29).map (·.size) = some 1 := by kernel_rfl
/-- the row under way: k times the word, zeros behind -/
def RepRow (w : World) (b n k : Nat) (F : Value) : Prop := w.heap[b]? = some (.cells (List.replicate k F ++ List.replicate (n - k) (Value.int .u64 0)).toArray 29 (0, 0))
theorem splice_rep {α : Type} (F Z : α) (n k c : Nat) : splice (List.replicate k F ++ List.replicate (n - k) Z) k (List.replicate c F) = List.replicate (k + c) F ++ List.replicate (n - (k + c)) Z := by
  unfold splice
  rw [List.take_left' (by simp), List.length_replicate, List.drop_append, List.length_replicate, List.drop_eq_nil_of_le (by simp), List.nil_append, show k + c - k = c by omega, List.drop_replicate, show n - k - c = n - (k + c) by omega, ← List.append_assoc, List.replicate_append_replicate]
theorem RepRow.cell {w : World} {b n k : Nat} {F : Value} (h : RepRow w b n k F) (j : Nat) (hj : j < k) : w.cell? ⟨b, j, none⟩ = some F := by
  refine cell_of_heap h ?_
  rw [List.getElem?_toArray, List.getElem?_append_left (by simpa using hj)]
  simp [hj]
theorem row_of_own {w : World} {b n : Nat} {xs : List Value} (h : w.ownsRow 0 29 1 (.slice (some ⟨b, 0, none⟩) n n) n xs) : w.heap[b]? = some (.cells xs.toArray 29 (0, 0)) := by
  rcases h.2 with ⟨h', _⟩ | ⟨g, cap, cur, h', _, hg, _, _, hcs, ht⟩
  · cases h'
  · simp only [Value.slice.injEq, Option.some.injEq, Addr.mk.injEq, and_true, true_and] at h'
    obtain ⟨rfl, rfl⟩ := h'
    rw [hg, ← ht, List.take_of_length_le (by rw [Array.length_toList, hcs]; exact Nat.le_refl _)]
theorem own_of_row {w : World} {b n : Nat} {xs : List Value} (h : w.heap[b]? = some (.cells xs.toArray 29 (0, 0))) (hl : xs.length = n) (hn : n ≤ 65536) : w.ownsRow 0 29 1 (.slice (some ⟨b, 0, none⟩) n n) n xs :=
  ⟨by omega, .inr ⟨b, n, xs.toArray, rfl, Nat.zero_le _, h, Nat.le_refl _, by unfold maxLen; omega, by simpa using hl, by rw [Nat.mul_one, ← hl]; simp⟩⟩
theorem row_made {w : World} {b n : Nat} (h : w.ownsRow 0 29 1 (.slice (some ⟨b, 0, none⟩) n n) n (madeCells (Value.int .u64 0).cells (n * 1)).toList) : w.heap[b]? = some (.cells (List.replicate n (Value.int .u64 0)).toArray 29 (0, 0)) := by
  have e := row_of_own h
  rw [Nat.mul_one, show (Value.int .u64 0).cells = #[Value.int .u64 0] from rfl, toList_madeCells_one] at e
  exact e
theorem cell1 {w : World} {g : Nat} {F : Value} (h : w.cell? ⟨g, 0, none⟩ = some F) : ∀ j v, [F][j]? = some v → w.cell? ((⟨g, 0, none⟩ : Addr).add j) = some v := by
  intro j v hj
  cases j with
  | zero => cases hj; exact h
  | succ j => simp at hj
theorem copy1 {w : World} {g : Nat} {F : Value} (b : Nat) (h : w.cell? ⟨g, 0, none⟩ = some F) : 0 < [F].length → some (⟨b, 0, none⟩ : Addr) = some ⟨b, 0, none⟩ ∧ ∃ ad, some (⟨g, 0, none⟩ : Addr) = some ad ∧ ∀ j v, [F][j]? = some v → w.cell? (ad.add j) = some v := fun _ => ⟨rfl, _, rfl, cell1 h⟩
theorem rep_first {w : World} {b n : Nat} {F : Value} (h : w.heap[b]? = some (.cells (splice (List.replicate n (Value.int .u64 0)) 0 [F]).toArray 29 (0, 0))) : RepRow w b n 1 F := by
  unfold RepRow
  rw [h]
  have := splice_rep F (Value.int .u64 0) n 0 1
  simp only [List.replicate_zero, List.nil_append, Nat.sub_zero, Nat.zero_add] at this
  rw [← this]
  rfl
theorem rep_next {w : World} {b n k c : Nat} {F : Value} (h : w.heap[b]? = some (.cells (splice (List.replicate k F ++ List.replicate (n - k) (Value.int .u64 0)) k (List.replicate c F)).toArray 29 (0, 0))) : RepRow w b n (k + c) F := by
  unfold RepRow
  rw [h, splice_rep]
theorem rep_cells {w : World} {b n k c : Nat} {F : Value} (h : RepRow w b n k F) (hc : c ≤ k) : ∀ j v, (List.replicate c F)[j]? = some v → w.cell? ((⟨b, 0, none⟩ : Addr).add j) = some v := by
  intro j v hj
  have hj' : j < c := by have := (List.getElem?_eq_some_iff.1 hj).1; simpa using this
  rw [List.getElem?_replicate, if_pos hj'] at hj
  cases hj
  rw [Lib.add_plain, Nat.zero_add]
  exact h.cell j (by omega)
theorem copied_count (k n : Nat) (h1 : 1 ≤ k) (h2 : k < n) : ∃ c, c ≤ k ∧ k + c ≤ n ∧ 1 ≤ c ∧ Hid (c = Nat.min k (n - k)) := by
  refine ⟨min k (n - k), by omega, by omega, by omega, ?_⟩
  show min k (n - k) = Nat.min k (n - k)
  rfl
theorem rep_one (c : Nat) (x : Int) : ∀ v ∈ List.replicate c (Value.int .u64 x), v.oneCell' = true := by
  intro v hv
  rw [(List.mem_replicate.1 hv).2]
  rfl
/-- Returned a new row of n times F. -/
def Repeats (n : Nat) (F : Value) (w : World) (e : Ending) (w' : World) : Prop := ∃ b, e = .returned (.slice (some ⟨b, 0, none⟩) n n) ∧ w.heap.size ≤ b ∧ w'.ownsRow 0 29 1 (.slice (some ⟨b, 0, none⟩) n n) n (List.replicate n F) ∧ Fr [] w w'

end Go.Proofs.YtomcfjckhajhmabGreatDoor
namespace Go.Proofs.YtomcfjckhajhmabGreatDoor
open Go.RowKit

theorem tag_ne {w : World} {a b : Nat} {c d : Array Value} {s t : TypeId} {f g : Nat × Nat} (h1 : w.heap[a]? = some (.cells c s f)) (h2 : w.heap[b]? = some (.cells d t g)) (hne : s ≠ t) : a ≠ b := by
  rintro rfl
  have := h1.symm.trans h2
  simp at this
  exact hne this.2.1
end Go.Proofs.YtomcfjckhajhmabGreatDoor
namespace Go.Proofs.YtomcfjckhajhmabGreatDoor
open Go.RowKit

theorem infoBool : (Tryz.prog.info? 4).map (fun i => (i.zero, i.size, i.bytes)) = some (some (.bool false), 1, 1) := by kernel_rfl
/-- the memory with one more object -/
def Mem.push (m : Mem) (x h : Int) (fs : List Int) : Mem := { m with W := m.W ++ [x, h, (fs.length : Int)] ++ fs, M := m.M ++ (true :: List.replicate (2 + fs.length) false) }
theorem news3 (w : World) (a b c : Value) : ∀ j u, [a, b, c][j]? = some u → (w.alloc (.cells #[a, b, c] 29)).cell? ((⟨w.heap.size, 0, none⟩ : Addr).add j) = some u := by
  intro j u hj
  rw [Lib.add_plain, Nat.zero_add, World.cell?_alloc_new]
  simpa using hj
/-- the blocks of a row behind an append lie among those of S, or are new -/
theorem fresh_step {S : List Nat} {w : World} {n : Nat} {v v' : Value} (h : v'.ownBlock = v.ownBlock ∨ v'.ownBlock = some n) (hn : w.heap.size ≤ n) (hv : ∀ k, v.ownBlock = some k → k ∈ S ∨ w.heap.size ≤ k) : ∀ k, v'.ownBlock = some k → k ∈ S ∨ w.heap.size ≤ k := by
  intro k hk
  rcases h with h | h
  · exact hv k (h ▸ hk)
  · rw [h] at hk; cases hk; exact .inr hn
/-- the cells of the fields, as an append wants them -/
def FieldsAt (w : World) (fb fo : Nat) (fs : List Int) : Prop := ∀ j u, (fs.map (Value.int .u64))[j]? = some u → w.cell? ((⟨fb, fo, none⟩ : Addr).add j) = some u
theorem FieldsAt.fr {S : List Nat} {w w' : World} {fb fo : Nat} {fs : List Int} (h : FieldsAt w fb fo fs) (hF : Fr S w w') (hb : fb ∉ S) : FieldsAt w' fb fo fs := by
  intro j u hu
  have := h j u hu
  rw [Lib.add_plain] at this ⊢
  exact hF.cell hb this
theorem ints_one (fs : List Int) : ∀ u ∈ fs.map (Value.int .u64), u.oneCell' = true := ints_oneCell .u64 fs
end Go.Proofs.YtomcfjckhajhmabGreatDoor
namespace Go.Proofs.YtomcfjckhajhmabGreatDoor
open Go.RowKit

end Go.Proofs.YtomcfjckhajhmabGreatDoor
namespace Go.Proofs.YtomcfjckhajhmabGreatDoor
open Go.RowKit

end Go.Proofs.YtomcfjckhajhmabGreatDoor
