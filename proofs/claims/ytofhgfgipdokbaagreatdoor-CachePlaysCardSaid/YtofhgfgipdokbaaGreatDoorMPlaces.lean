/- append to a row that is known: what lies in the row behind it, and that the row is the old one or a new block; append of zeros likewise. Plain, over any program. slices.Repeat at one word: a new row that holds the word so many times. What the memory's place does: an object's words behind the last ones, a mark where it begins. The memory's place, walked. The memory's place, of an object without fields whose slice is nil. The memory's place, whatever address the fields' slice bears. -/
import Derived.Test.YtofhgfgipdokbaaGreatDoorMBase
import Derived.Test.YtofhgfgipdokbaaGreatDoorMWords
import Derived.Lib.AppendZeros
import Derived.Laws.OwnMore
import Derived.Laws.CopyOwn
import Derived.Deep.RegionLaw
import Derived.Deep.DeepCutAuto
import Derived.Laws.AppendOwnNone
namespace Go.Proofs.YtofhgfgipdokbaaGreatDoor
open Go.RowKit

section
variable {P : Program} (w : World)
theorem run_append_at (t ty e : TypeId) (i : TypeInfo) (z : Value) (size bytes : Nat) (ht : P.underlying t = some (.slice e)) (hi : P.info? e = some i) (hz : i.zero = some z)
    (hsize : i.size = size) (hby : i.bytes = bytes) (hzs : z.cells.size = size) (hsz : 0 < size)
    (v : Value) (n : Nat) (xs : List Value) (hown : w.ownsRow 0 e size v n xs)
    (a : Addr) (m c : Nat) (news : List Value) (hl : news.length = m * size) (hnews : ∀ j u, news[j]? = some u → w.cell? (a.add j) = some u) (h1 : ∀ u ∈ news, u.oneCell' = true)
    (h63 : n + m ≤ maxLen) (hbytes : (n + m) * bytes ≤ 140737488355328) :
    ∃ v' w', (Builtin.append_ #[t, t] ty #[v, .slice (some a) m c]).run P w = .ok v' w' ∧ w'.ownsRow 0 e size v' (n + m) (xs ++ news) ∧ w.grownBy w' v.ownBlock ∧
      (v'.ownBlock = v.ownBlock ∨ v'.ownBlock = some w.heap.size) := by
  obtain ⟨v', w', hr, h2, h3, h4⟩ := run_append_own (P := P) w 0 t ty e i z size bytes ht hi hz hsize hby hzs hsz v n xs hown a m c news hl hnews h1 h63 hbytes (Nat.zero_le _)
  refine ⟨v', w', hr, h2, h3, ?_⟩
  subst hsize
  subst hby
  have hsmall : n + m ≤ 9223372036854775807 := by simp only [maxLen] at h63; omega
  rcases hown.2 with ⟨rfl, rfl⟩ | ⟨g, cap, cur, rfl, hbg, hg, hnc, hcm, hcs, htake⟩
  · by_cases hm : m = 0
    · left
      rw [h4.2 ⟨rfl, hm⟩]
    · right
      have e1 := run_append_nil (P := P) w t ty e i z ht hi hz a m c news hl hnews (by omega) (by omega) (by have hb := hbytes; simp only [Nat.zero_add] at hb; omega)
      rw [hr] at e1
      cases e1
      rfl
  · by_cases hroom : n + m ≤ cap
    · left
      have hfit : n * i.size + news.length ≤ cur.size := by rw [hl, hcs, ← Nat.add_mul]; exact Nat.mul_le_mul_right _ hroom
      have e1 := run_append_room (P := P) w t ty e i ht hi g n cap cur hg a m c news hl hnews h1 hroom hfit
      rw [hr] at e1
      cases e1
      rfl
    · right
      have holds : ∀ j u, xs[j]? = some u → w.cell? ((⟨g, 0, none⟩ : Addr).add j) = some u := hown.cells (g := g) rfl
      have e1 := run_append_grow (P := P) w t ty e i z ht hi hz ⟨g, 0, none⟩ n cap xs hown.1 holds a m c news hl hnews (by omega) (by omega) (growslice_fits (by omega) hbytes)
      rw [hr] at e1
      cases e1
      rfl

theorem wpList_append_at {ops : Array Oper} {rest : List Oper} {o : Oper} {a : Act} {Q : Exit → Act → World → Prop} (hgd : o.guard = none) (s x : Operand) (t : TypeId)
    (ho : o.op = .call { callee := .builtin .append, args := #[s, x], argTypes := #[t, t] })
    (e : TypeId) (i : TypeInfo) (z : Value) (size bytes : Nat) (ht : P.underlying t = some (.slice e)) (hi : P.info? e = some i) (hz : i.zero = some z)
    (hsize : i.size = size) (hby : i.bytes = bytes) (hzs : z.cells.size = size) (hsz : 0 < size)
    (v : Value) (n : Nat) (xs : List Value) (hs : a.eval s = v) (hown : w.ownsRow 0 e size v n xs)
    (ad : Addr) (m c : Nat) (news : List Value) (hx : a.eval x = .slice (some ad) m c) (hl : news.length = m * size) (hnews : ∀ j u, news[j]? = some u → w.cell? (ad.add j) = some u) (h1 : ∀ u ∈ news, u.oneCell' = true)
    (h63 : n + m ≤ maxLen) (hbytes : (n + m) * bytes ≤ 140737488355328)
    (h : ∀ v' w', w'.ownsRow 0 e size v' (n + m) (xs ++ news) → w.grownBy w' v.ownBlock → (v'.ownBlock = v.ownBlock ∨ v'.ownBlock = some w.heap.size) → wpList P ops Q rest (a.put o.dst v') w') : wpList P ops Q (o :: rest) a w := by
  obtain ⟨v', w', hr, h2, h3, h4⟩ := run_append_at (P := P) w t o.type e i z size bytes ht hi hz hsize hby hzs hsz v n xs hown ad m c news hl hnews h1 h63 hbytes
  exact Lib.wpList_append_run w hgd s x t t ho v _ hs hx v' w' hr (h v' w' h2 h3 h4)

/-- append(row, make([]T, m)...), elements of one cell -/
theorem run_append_zeros (t tn ty e : TypeId) (i : TypeInfo) (z : Value) (kn : IntKind) (ht : P.underlying t = some (.slice e)) (htn : P.underlying tn = some (.int kn)) (hi : P.info? e = some i) (hz : i.zero = some z)
    (hsize : i.size = 1) (hby : i.bytes ≤ 8) (hzs : z.cells = #[z]) (hz1 : z.oneCell' = true)
    (g n cap : Nat) (xs : List Value) (hown : w.ownsRow 0 e 1 (.slice (some ⟨g, 0, none⟩) n cap) n xs)
    (m : Nat) (hm0 : 0 < m) (hm : n + m ≤ 1000000) :
    ∃ v' w', (Builtin.append_ #[t, tn] ty #[.slice (some ⟨g, 0, none⟩) n cap, .int .i64 m]).run P w = .ok v' w' ∧ w'.ownsRow 0 e 1 v' (n + m) (xs ++ List.replicate m z) ∧ w.grownBy w' (some g) ∧
      (v'.ownBlock = some g ∨ v'.ownBlock = some w.heap.size) := by
  have hcells : (Builtin.zeroCells z.cells m).toList = List.replicate m z := by
    rw [hzs]
    unfold Builtin.zeroCells
    simp [Nat.mod_one, List.map_const']
  have hw : IntKind.i64.wrap (m : Int) = m := by rw [IntKind.wrap_i64]; omega
  have hneg : ¬ ((m : Int) < 0) := by omega
  have hmb : m * i.bytes ≤ 8000000 := Nat.le_trans (Nat.mul_le_mul (show m ≤ 1000000 by omega) hby) (by omega)
  have h48 : ¬ (281474976710656 < (m : Int) * (i.bytes : Int)) := by rw [← Int.natCast_mul]; omega
  rcases hown.2 with ⟨h', _⟩ | ⟨g', cap', cur, h', hbg, hg, hnc, hcm, hcs, htake⟩
  · cases h'
  · simp only [Value.slice.injEq, Option.some.injEq, Addr.mk.injEq, and_true, true_and] at h'
    obtain ⟨rfl, rfl⟩ := h'
    have hxl : xs.length = n := by simpa using hown.1
    have hlen : (xs ++ List.replicate m z).length = (n + m) * 1 := by simp [hxl]
    by_cases hroom : n + m ≤ cap
    · have hst := run_storeCells_at P g (n * i.size) e (List.replicate m z) 0 cur w hg (by simp [hsize, hcs]; omega) (fun u hu => by rw [(List.mem_replicate.1 hu).2]; exact hz1)
      simp only [Nat.add_zero] at hst
      refine ⟨.slice (some ⟨g, 0, none⟩) (n + m) cap, _, ?_, ⟨hlen, .inr ⟨g, cap, _, rfl, hbg, setRow_heap w g cur (cur.toList.take (n * i.size) ++ List.replicate m z ++ cur.toList.drop (n * i.size + m)).toArray e _ hg, hroom, hcm, ?_, ?_⟩⟩, ⟨rfl, rfl, rfl, by simp, fun k _ hk => setRow_other w g k _ (fun e => hk (by simp [e]))⟩, .inl rfl⟩
      · have hm0' : m ≠ 0 := by omega
        simp [Builtin.append_, run_underlying ht, run_underlying htn, sizeOf, typeInfo, zeroValue, hi, hz, asInt, asIntOf, hw, hneg, h48, hroom, hm0', hsize, hcells, Addr.add_lit]
        simp only [hsize, Nat.mul_one, List.length_replicate, List.append_assoc] at hst
        rw [hst]
        rfl
      · simp [hsize, hcs]; omega
      · rw [hsize, htake, ← hlen]; exact List.take_left
    · have holds : ∀ j u, xs[j]? = some u → w.cell? ((⟨g, 0, none⟩ : Addr).add j) = some u := hown.cells (g := g) rfl
      have hf := run_firstCells_some (P := P) w.drew 1 n ⟨g, 0, none⟩ n cap xs (by simpa using hxl) holds
      have hge := grownCap_ge w (n + m) cap e
      have hcm2 : grownCap w (n + m) cap e ≤ maxLen := grownCap_le_maxLen w (n + m) cap e (by unfold maxLen; omega)
      have hbits : ¬ (281474976710656 < Builtin.nextslicecap (n + m) cap * i.bytes) := by
        have := growslice_fits (need := n + m) (old := cap) (bytes := i.bytes) (by omega) (Nat.le_trans (Nat.mul_le_mul hm hby) (by omega))
        omega
      have hn63 : ¬ (9223372036854775807 < (n : Int) + (m : Int)) := by omega
      have hm0' : m ≠ 0 := by omega
      refine ⟨.slice (some ⟨w.heap.size, 0, none⟩) (n + m) (grownCap w (n + m) cap e), w.drew.alloc (.cells (xs.toArray ++ Builtin.zeroCells z.cells m ++ Builtin.zeroCells z.cells (grownCap w (n + m) cap e - (n + m))) e), ?_, ⟨hlen, .inr ⟨w.heap.size, _, _, rfl, Nat.zero_le _, heap_alloc_new w.drew _, hge, hcm2, ?_, ?_⟩⟩, ⟨rfl, rfl, rfl, by simp, fun k hk _ => Below.heap_alloc w.drew _ k hk⟩, .inr rfl⟩
      · simp [Builtin.append_, run_underlying ht, run_underlying htn, sizeOf, typeInfo, zeroValue, hi, hz, asInt, asIntOf, hw, hneg, h48, hroom, hm0', hsize, hbits, hn63, Question.forced, hf, newRow, grownCap]
      · simp [size_zeroCells, hzs, hxl]; omega
      · simp only [Array.toList_append, List.append_assoc, hcells]
        rw [← List.append_assoc, ← hlen]
        exact List.take_left
theorem wpList_append_zeros {ops : Array Oper} {rest : List Oper} {o : Oper} {a : Act} {Q : Exit → Act → World → Prop} (hgd : o.guard = none) (s x : Operand) (t tn : TypeId)
    (ho : o.op = .call { callee := .builtin .append, args := #[s, x], argTypes := #[t, tn] })
    (e : TypeId) (i : TypeInfo) (z : Value) (kn : IntKind) (ht : P.underlying t = some (.slice e)) (htn : P.underlying tn = some (.int kn)) (hi : P.info? e = some i) (hz : i.zero = some z)
    (hsize : i.size = 1) (hby : i.bytes ≤ 8) (hzs : z.cells = #[z]) (hz1 : z.oneCell' = true)
    (g n cap : Nat) (xs : List Value) (hs : a.eval s = .slice (some ⟨g, 0, none⟩) n cap) (hown : w.ownsRow 0 e 1 (.slice (some ⟨g, 0, none⟩) n cap) n xs)
    (M : Int) (m : Nat) (hM : M = (m : Int)) (hx : a.eval x = .int .i64 M) (hm0 : 0 < m) (hm : n + m ≤ 1000000)
    (h : ∀ v' w', w'.ownsRow 0 e 1 v' (n + m) (xs ++ List.replicate m z) → w.grownBy w' (some g) → (v'.ownBlock = some g ∨ v'.ownBlock = some w.heap.size) → wpList P ops Q rest (a.put o.dst v') w') : wpList P ops Q (o :: rest) a w := by
  subst hM
  obtain ⟨v', w', hr, h2, h3, h4⟩ := run_append_zeros (P := P) w t tn o.type e i z kn ht htn hi hz hsize hby hzs hz1 g n cap xs hown m hm0 hm
  exact Lib.wpList_append_run w hgd s x t tn ho _ _ hs hx v' w' hr (h v' w' h2 h3 h4)
end
end Go.Proofs.YtofhgfgipdokbaaGreatDoor
namespace Go.Proofs.YtofhgfgipdokbaaGreatDoor
open Go.RowKit

theorem infoWord : (Tryz.prog.info? 24).map (fun i => (i.zero, i.size, i.bytes)) = some (some (.int .u64 0), 1, 8) := by kernel_rfl
theorem sizeWord : (Tryz.prog.info? 24).map (·.size) = some 1 := by kernel_rfl
/-- the row under way: k times the word, zeros behind -/
def RepRow (w : World) (b n k : Nat) (F : Value) : Prop := w.heap[b]? = some (.cells (List.replicate k F ++ List.replicate (n - k) (Value.int .u64 0)).toArray 24 (0, 0))
theorem splice_rep {α : Type} (F Z : α) (n k c : Nat) : splice (List.replicate k F ++ List.replicate (n - k) Z) k (List.replicate c F) = List.replicate (k + c) F ++ List.replicate (n - (k + c)) Z := by
  unfold splice
  rw [List.take_left' (by simp), List.length_replicate, List.drop_append, List.length_replicate, List.drop_eq_nil_of_le (by simp), List.nil_append, show k + c - k = c by omega, List.drop_replicate, show n - k - c = n - (k + c) by omega, ← List.append_assoc, List.replicate_append_replicate]
theorem RepRow.cell {w : World} {b n k : Nat} {F : Value} (h : RepRow w b n k F) (j : Nat) (hj : j < k) : w.cell? ⟨b, j, none⟩ = some F := by
  refine cell_of_heap h ?_
  rw [List.getElem?_toArray, List.getElem?_append_left (by simpa using hj)]
  simp [hj]
theorem row_of_own {w : World} {b n : Nat} {xs : List Value} (h : w.ownsRow 0 24 1 (.slice (some ⟨b, 0, none⟩) n n) n xs) : w.heap[b]? = some (.cells xs.toArray 24 (0, 0)) := by
  rcases h.2 with ⟨h', _⟩ | ⟨g, cap, cur, h', _, hg, _, _, hcs, ht⟩
  · cases h'
  · simp only [Value.slice.injEq, Option.some.injEq, Addr.mk.injEq, and_true, true_and] at h'
    obtain ⟨rfl, rfl⟩ := h'
    rw [hg, ← ht, List.take_of_length_le (by rw [Array.length_toList, hcs]; exact Nat.le_refl _)]
theorem own_of_row {w : World} {b n : Nat} {xs : List Value} (h : w.heap[b]? = some (.cells xs.toArray 24 (0, 0))) (hl : xs.length = n) (hn : n ≤ 65536) : w.ownsRow 0 24 1 (.slice (some ⟨b, 0, none⟩) n n) n xs :=
  ⟨by omega, .inr ⟨b, n, xs.toArray, rfl, Nat.zero_le _, h, Nat.le_refl _, by unfold maxLen; omega, by simpa using hl, by rw [Nat.mul_one, ← hl]; simp⟩⟩
theorem row_made {w : World} {b n : Nat} (h : w.ownsRow 0 24 1 (.slice (some ⟨b, 0, none⟩) n n) n (madeCells (Value.int .u64 0).cells (n * 1)).toList) : w.heap[b]? = some (.cells (List.replicate n (Value.int .u64 0)).toArray 24 (0, 0)) := by
  have e := row_of_own h
  rw [Nat.mul_one, show (Value.int .u64 0).cells = #[Value.int .u64 0] from rfl, toList_madeCells_one] at e
  exact e
theorem cell1 {w : World} {g : Nat} {F : Value} (h : w.cell? ⟨g, 0, none⟩ = some F) : ∀ j v, [F][j]? = some v → w.cell? ((⟨g, 0, none⟩ : Addr).add j) = some v := by
  intro j v hj
  cases j with
  | zero => cases hj; exact h
  | succ j => simp at hj
theorem copy1 {w : World} {g : Nat} {F : Value} (b : Nat) (h : w.cell? ⟨g, 0, none⟩ = some F) : 0 < [F].length → some (⟨b, 0, none⟩ : Addr) = some ⟨b, 0, none⟩ ∧ ∃ ad, some (⟨g, 0, none⟩ : Addr) = some ad ∧ ∀ j v, [F][j]? = some v → w.cell? (ad.add j) = some v := fun _ => ⟨rfl, _, rfl, cell1 h⟩
theorem rep_first {w : World} {b n : Nat} {F : Value} (h : w.heap[b]? = some (.cells (splice (List.replicate n (Value.int .u64 0)) 0 [F]).toArray 24 (0, 0))) : RepRow w b n 1 F := by
  unfold RepRow
  rw [h]
  have := splice_rep F (Value.int .u64 0) n 0 1
  simp only [List.replicate_zero, List.nil_append, Nat.sub_zero, Nat.zero_add] at this
  rw [← this]
  rfl
theorem rep_next {w : World} {b n k c : Nat} {F : Value} (h : w.heap[b]? = some (.cells (splice (List.replicate k F ++ List.replicate (n - k) (Value.int .u64 0)) k (List.replicate c F)).toArray 24 (0, 0))) : RepRow w b n (k + c) F := by
  unfold RepRow
  rw [h, splice_rep]
theorem rep_cells {w : World} {b n k c : Nat} {F : Value} (h : RepRow w b n k F) (hc : c ≤ k) : ∀ j v, (List.replicate c F)[j]? = some v → w.cell? ((⟨b, 0, none⟩ : Addr).add j) = some v := by
  intro j v hj
  have hj' : j < c := by have := (List.getElem?_eq_some_iff.1 hj).1; simpa using this
  rw [List.getElem?_replicate, if_pos hj'] at hj
  cases hj
  rw [Lib.add_plain, Nat.zero_add]
  exact h.cell j (by omega)
theorem copied_count (k n : Nat) (h1 : 1 ≤ k) (h2 : k < n) : ∃ c, c ≤ k ∧ k + c ≤ n ∧ 1 ≤ c ∧ Hid (c = Nat.min k (n - k)) := by
  refine ⟨min k (n - k), by omega, by omega, by omega, ?_⟩
  show min k (n - k) = Nat.min k (n - k)
  rfl
theorem rep_one (c : Nat) (x : Int) : ∀ v ∈ List.replicate c (Value.int .u64 x), v.oneCell' = true := by
  intro v hv
  rw [(List.mem_replicate.1 hv).2]
  rfl
/-- Returned a new row of n times F. -/
def Repeats (n : Nat) (F : Value) (w : World) (e : Ending) (w' : World) : Prop := ∃ b, e = .returned (.slice (some ⟨b, 0, none⟩) n n) ∧ w.heap.size ≤ b ∧ w'.ownsRow 0 24 1 (.slice (some ⟨b, 0, none⟩) n n) n (List.replicate n F) ∧ Fr [] w w'

end Go.Proofs.YtofhgfgipdokbaaGreatDoor
namespace Go.Proofs.YtofhgfgipdokbaaGreatDoor
open Go.RowKit

/-- a memory under way -/
structure Raw (w : World) (mb : Nat) (m : Mem) (wv sv : Value) : Prop where
  mem : w.heap[mb]? = some (.cells #[.int .i64 m.lim, wv, sv, .int .u64 m.root, .int .i64 m.hashes] 101 (0, 0))
  words : w.ownsRow 0 24 1 wv m.W.length (m.W.map (Value.int .u64))
  starts : w.ownsRow 0 4 1 sv m.M.length (m.M.map Value.bool)
theorem MemAt.raw {w : World} {mb : Nat} {m : Mem} {wv sv : Value} (h : MemAt w mb m wv sv) : Raw w mb m wv sv := ⟨h.mem, h.words, h.starts⟩
theorem tag_ne {w : World} {a b : Nat} {c d : Array Value} {s t : TypeId} {f g : Nat × Nat} (h1 : w.heap[a]? = some (.cells c s f)) (h2 : w.heap[b]? = some (.cells d t g)) (hne : s ≠ t) : a ≠ b := by
  rintro rfl
  have := h1.symm.trans h2
  simp at this
  exact hne this.2.1
theorem Raw.w_ne_mb {w : World} {mb : Nat} {m : Mem} {wv sv : Value} (h : Raw w mb m wv sv) {g : Nat} (hg : wv.ownBlock = some g) : g ≠ mb := by
  obtain ⟨cur, hh⟩ := row_heap h.words hg
  exact tag_ne hh h.mem (by decide)
theorem Raw.s_ne_mb {w : World} {mb : Nat} {m : Mem} {wv sv : Value} (h : Raw w mb m wv sv) {g : Nat} (hg : sv.ownBlock = some g) : g ≠ mb := by
  obtain ⟨cur, hh⟩ := row_heap h.starts hg
  exact tag_ne hh h.mem (by decide)
theorem Raw.w_ne_s {w : World} {mb : Nat} {m : Mem} {wv sv : Value} (h : Raw w mb m wv sv) {g k : Nat} (hg : wv.ownBlock = some g) (hk : sv.ownBlock = some k) : g ≠ k := by
  obtain ⟨c1, h1⟩ := row_heap h.words hg
  obtain ⟨c2, h2⟩ := row_heap h.starts hk
  exact tag_ne h1 h2 (by decide)
theorem Raw.fr0 {w w' : World} {mb : Nat} {m : Mem} {wv sv : Value} (h : Raw w mb m wv sv) (hF : Fr [] w w') : Raw w' mb m wv sv :=
  ⟨hF.heap (by simp) h.mem, hF.row h.words (fun _ _ => by simp), hF.row h.starts (fun _ _ => by simp)⟩
/-- behind an append to the words: the field that is to be written, and the memory once it is -/
theorem Raw.appW {w w1 : World} {mb k : Nat} {m : Mem} {wv sv v1 : Value} {news : List Int} (h : Raw w mb m wv sv) (hk : news.length = k) (ho : w1.ownsRow 0 24 1 v1 (m.W.length + k) (m.W.map (Value.int .u64) ++ news.map (Value.int .u64))) (hg : w.grownBy w1 wv.ownBlock) :
    w1.cell? ⟨mb, 1, none⟩ = some wv ∧ w1.frozen? ⟨mb, 1, none⟩ = false ∧ Raw (w1.setCell ⟨mb, 1, none⟩ v1) mb { m with W := m.W ++ news } v1 sv := by
  have hm1 : w1.heap[mb]? = some (.cells #[.int .i64 m.lim, wv, sv, .int .u64 m.root, .int .i64 m.hashes] 101 (0, 0)) :=
    (hg.block mb (lt_of_heap h.mem) (fun e => h.w_ne_mb e.symm rfl)).trans h.mem
  have hs1 : w1.ownsRow 0 4 1 sv m.M.length (m.M.map Value.bool) := h.starts.kept hg (by
    cases hs : sv.ownBlock with
    | none => exact .inl rfl
    | some k => exact .inr (fun e => h.w_ne_s e.symm hs rfl))
  have hF : Fr [mb] w1 (w1.setCell ⟨mb, 1, none⟩ v1) := (Fr.refl _ _).setCell (fun _ => by simp) _
  refine ⟨cell_of_heap hm1 rfl, frozen_of_heap hm1, heap_setCell_same hm1 _, ?_, hF.row hs1 (fun k hk => by simpa using h.s_ne_mb hk)⟩
  rw [List.length_append, List.map_append, hk]
  refine hF.row ho (fun j hj => ?_)
  obtain ⟨cur, hh⟩ := row_heap ho hj
  simpa using tag_ne hh hm1 (by decide)
/-- likewise of the marks -/
theorem Raw.appS {w w1 : World} {mb k : Nat} {m : Mem} {wv sv v1 : Value} {news : List Bool} (h : Raw w mb m wv sv) (hk : news.length = k) (ho : w1.ownsRow 0 4 1 v1 (m.M.length + k) (m.M.map Value.bool ++ news.map Value.bool)) (hg : w.grownBy w1 sv.ownBlock) :
    w1.cell? ⟨mb, 2, none⟩ = some sv ∧ w1.frozen? ⟨mb, 2, none⟩ = false ∧ Raw (w1.setCell ⟨mb, 2, none⟩ v1) mb { m with M := m.M ++ news } wv v1 := by
  have hm1 : w1.heap[mb]? = some (.cells #[.int .i64 m.lim, wv, sv, .int .u64 m.root, .int .i64 m.hashes] 101 (0, 0)) :=
    (hg.block mb (lt_of_heap h.mem) (fun e => h.s_ne_mb e.symm rfl)).trans h.mem
  have hs1 : w1.ownsRow 0 24 1 wv m.W.length (m.W.map (Value.int .u64)) := h.words.kept hg (by
    cases hs : wv.ownBlock with
    | none => exact .inl rfl
    | some k => exact .inr (fun e => h.w_ne_s hs e.symm rfl))
  have hF : Fr [mb] w1 (w1.setCell ⟨mb, 2, none⟩ v1) := (Fr.refl _ _).setCell (fun _ => by simp) _
  refine ⟨cell_of_heap hm1 rfl, frozen_of_heap hm1, heap_setCell_same hm1 _, hF.row hs1 (fun k hk => by simpa using h.w_ne_mb hk), ?_⟩
  rw [List.length_append, List.map_append, hk]
  refine hF.row ho (fun j hj => ?_)
  obtain ⟨cur, hh⟩ := row_heap ho hj
  simpa using tag_ne hh hm1 (by decide)
/-- a mark is set -/
theorem Raw.setMark {w : World} {mb : Nat} {m : Mem} {wv : Value} {g cap : Nat} (h : Raw w mb m wv (.slice (some ⟨g, 0, none⟩) m.M.length cap)) (i : Nat) (b : Bool) :
    Raw (w.setCell ⟨g, i, none⟩ (.bool b)) mb { m with M := m.M.set i b } wv (.slice (some ⟨g, 0, none⟩) m.M.length cap) := by
  have hF : Fr [g] w (w.setCell ⟨g, i, none⟩ (.bool b)) := (Fr.refl _ _).setCell (fun _ => by simp) _
  have h1 := h.s_ne_mb (g := g) rfl
  refine ⟨hF.heap (by simpa using fun e => h1 e.symm) h.mem, hF.row h.words (fun k hk => by have := h.w_ne_s (k := g) hk rfl; simpa using this), ?_⟩
  have := (h.starts.stored i (.bool b)).1
  simpa [List.map_set] using this
end Go.Proofs.YtofhgfgipdokbaaGreatDoor
namespace Go.Proofs.YtofhgfgipdokbaaGreatDoor
open Go.RowKit

theorem infoBool : (Tryz.prog.info? 4).map (fun i => (i.zero, i.size, i.bytes)) = some (some (.bool false), 1, 1) := by kernel_rfl
/-- the memory with one more object -/
def Mem.push (m : Mem) (x h : Int) (fs : List Int) : Mem := { m with W := m.W ++ [x, h, (fs.length : Int)] ++ fs, M := m.M ++ (true :: List.replicate (2 + fs.length) false) }
/-- Returned v; at block mb lies the memory m', with rows of its own; nothing but the old blocks has changed. -/
def Acts (v : Value) (mb : Nat) (m' : Mem) (S : List Nat) (w : World) (e : Ending) (w' : World) : Prop :=
  e = .returned v ∧ ∃ wv' sv', MemAt w' mb m' wv' sv' ∧ Fr S w w' ∧ ∀ k ∈ foot mb wv' sv', k ∈ S ∨ w.heap.size ≤ k
theorem news3 (w : World) (a b c : Value) : ∀ j u, [a, b, c][j]? = some u → (w.alloc (.cells #[a, b, c] 24)).cell? ((⟨w.heap.size, 0, none⟩ : Addr).add j) = some u := by
  intro j u hj
  rw [Lib.add_plain, Nat.zero_add, World.cell?_alloc_new]
  simpa using hj
/-- the blocks of a row behind an append lie among those of S, or are new -/
theorem fresh_step {S : List Nat} {w : World} {n : Nat} {v v' : Value} (h : v'.ownBlock = v.ownBlock ∨ v'.ownBlock = some n) (hn : w.heap.size ≤ n) (hv : ∀ k, v.ownBlock = some k → k ∈ S ∨ w.heap.size ≤ k) : ∀ k, v'.ownBlock = some k → k ∈ S ∨ w.heap.size ≤ k := by
  intro k hk
  rcases h with h | h
  · exact hv k (h ▸ hk)
  · rw [h] at hk; cases hk; exact .inr hn
/-- the cells of the fields, as an append wants them -/
def FieldsAt (w : World) (fb fo : Nat) (fs : List Int) : Prop := ∀ j u, (fs.map (Value.int .u64))[j]? = some u → w.cell? ((⟨fb, fo, none⟩ : Addr).add j) = some u
theorem FieldsAt.fr {S : List Nat} {w w' : World} {fb fo : Nat} {fs : List Int} (h : FieldsAt w fb fo fs) (hF : Fr S w w') (hb : fb ∉ S) : FieldsAt w' fb fo fs := by
  intro j u hu
  have := h j u hu
  rw [Lib.add_plain] at this ⊢
  exact hF.cell hb this
theorem ints_one (fs : List Int) : ∀ u ∈ fs.map (Value.int .u64), u.oneCell' = true := ints_oneCell .u64 fs
set_option maxHeartbeats 4000000 in
set_option maxRecDepth 100000 in
theorem place_some {w : World} {mb : Nat} {m : Mem} {wv sv : Value} (h : MemAt w mb m wv sv) (hpos : 0 < m.W.length) (x hh : Int) (fb fo fcap : Nat) (fs : List Int)
    (hfs : FieldsAt w fb fo fs) (hfa : fb ∉ foot mb wv sv) (b1 : 0 ≤ hh) (b2 : hh ≤ 1099511627775) (hfit : m.W.length + 3 + fs.length ≤ 65536) :
    Calls Tryz.prog 61 #[.pointer (some ⟨mb, 0, none⟩), .int .u64 x, .int .i64 hh, .slice (some ⟨fb, fo, none⟩) fs.length fcap] w (Acts (.int .i64 m.W.length) mb (m.push x hh fs) (foot mb wv sv) w) := by
  obtain ⟨i0, hi, hz0, hz1, hz2⟩ := info_parts infoWord
  obtain ⟨i1, hi1, hy0, hy1, hy2⟩ := info_parts infoBool
  have hfl512 : fs.length ≤ 65536 := by omega
  have hm := h.most
  have ha := h.alike
  obtain ⟨wa, wcap, rfl⟩ := row_shape h.words
  obtain ⟨sg, scap, rfl, -⟩ := row_at h.starts (i := 0) (by omega)
  obtain ⟨S, hS⟩ : ∃ S, S = foot mb (.slice wa m.W.length wcap) (.slice (some ⟨sg, 0, none⟩) m.M.length scap) := ⟨_, rfl⟩
  rw [← hS] at hfa ⊢
  have c1 := h.cell.2.1
  have hR0 : Raw (w.alloc (.cells #[.int .u64 x, .int .u64 hh, .int .u64 fs.length] 24)) mb m (.slice wa m.W.length wcap) (.slice (some ⟨sg, 0, none⟩) m.M.length scap) := h.raw.fr0 ((Fr.refl _ _).alloc _)
  have HR0 := Lib.hid hR0
  have e3 := Lib.hid (news3 w (.int .u64 x) (.int .u64 hh) (.int .u64 fs.length))
  have e4 := Lib.hid (show ∀ u ∈ [Value.int .u64 x, .int .u64 hh, .int .u64 fs.length], u.oneCell' = true by simp [Value.oneCell'])
  have HH := Lib.hid h
  have HFS := Lib.hid hfs
  have HFA := Lib.hid hfa
  have HS := Lib.hid hS
  clear hR0 h hfs hfa hS
  have c1' : (w.alloc (.cells #[.int .u64 x, .int .u64 hh, .int .u64 fs.length] 24)).cell? ⟨mb, 1, none⟩ = some (.slice wa m.W.length wcap) := cell_of_heap HR0.out.mem rfl
  have HA := Lib.hid ha
  clear ha
  go_enter Tryz.func61, Tryz.ntmps61
  go_upto_region 3 with (first
    | (at_builtin; refine wpList_append_at _ rfl (.tmp 19) (.tmp 26) 38 rfl 24 i0 (.int .u64 0) 1 8 Tryz.underlying38 hi hz0 hz1 hz2 rfl (by decide) (.slice wa m.W.length wcap) m.W.length _ rfl HR0.out.words ⟨w.heap.size, 0, none⟩ 3 3 [.int .u64 x, .int .u64 hh, .int .u64 fs.length] rfl rfl e3.out e4.out (by unfold maxLen; omega) (by omega) ?_; intro v1 w1 ho1 hg1 hf1; obtain ⟨a1, cp1, rfl⟩ := row_shape ho1; have hap := Raw.appW (news := [x, hh, (fs.length : Int)]) HR0.out rfl ho1 hg1; have hc1 := hap.1; have hz1' := hap.2.1; have HR1 := Lib.hid hap.2.2; have HG1 := Lib.hid hg1; have HF1 := Lib.hid hf1; clear hap ho1 hg1 hf1))
  obtain ⟨W1, hW1⟩ : ∃ W1, W1 = w1.setCell ⟨mb, 1, none⟩ (.slice a1 (m.W.length + 3) cp1) := ⟨_, rfl⟩
  have FR1 : Hid (Fr S w W1) := by
    rw [hW1]
    refine Fr.setCell (Fr.grown ((Fr.refl _ _).alloc _) HG1.out (fun k hk _ => ?_)) (fun _ => ?_) _
    · rw [HS.out]; exact foot_w hk
    · rw [HS.out]; exact foot_mb
  have FB1 : Hid (∀ k, (Value.slice a1 (m.W.length + 3) cp1).ownBlock = some k → k ∈ S ∨ w.heap.size ≤ k) :=
    fresh_step HF1.out (by simp) (fun k hk => .inl (by rw [HS.out]; exact foot_w hk))
  have FS1 : Hid (FieldsAt W1 fb fo fs) := HFS.out.fr FR1.out HFA.out
  rw [← hW1] at HR1 ⊢
  have c2 : W1.cell? ⟨mb, 1, none⟩ = some (.slice a1 (m.W.length + 3) cp1) := cell_of_heap HR1.out.mem rfl
  have HW1 : Hid (W1.ownsRow 0 24 1 (.slice a1 (m.W.length + 3) cp1) (m.W.length + 3) ((m.W ++ [x, hh, (fs.length : Int)]).map (Value.int .u64))) := by have := HR1.out.words; simp only [List.length_append] at this; exact this
  clear hW1 hc1 hz1' HG1 HF1 c1 c1' e3 e4 HR0 HFS
  go_upto_region 4 with (first
    | (at_builtin; refine wpList_append_at _ rfl (.tmp 34) (.tmp 35) 38 rfl 24 i0 (.int .u64 0) 1 8 Tryz.underlying38 hi hz0 hz1 hz2 rfl (by decide) (.slice a1 (m.W.length + 3) cp1) (m.W.length + 3) _ rfl HW1.out ⟨fb, fo, none⟩ fs.length fcap (fs.map (Value.int .u64)) rfl (by simp) FS1.out (ints_one fs) (by unfold maxLen; omega) (by omega) ?_; intro v1 w2 ho1 hg1 hf1; obtain ⟨a2, cp2, rfl⟩ := row_shape ho1; have hap := Raw.appW (m := { m with W := m.W ++ [x, hh, (fs.length : Int)] }) (k := fs.length) (news := fs) HR1.out rfl (by simpa using ho1) hg1; have hc1 := hap.1; have hz1' := hap.2.1; have HR2 := Lib.hid hap.2.2; have HG2 := Lib.hid hg1; have HF2 := Lib.hid hf1; clear hap ho1 hg1 hf1))
  obtain ⟨W2, hW2⟩ : ∃ W2, W2 = w2.setCell ⟨mb, 1, none⟩ (.slice a2 (m.W.length + 3 + fs.length) cp2) := ⟨_, rfl⟩
  have FR2 : Hid (Fr S w W2) := by
    rw [hW2]
    refine Fr.setCell (Fr.grown FR1.out HG2.out (fun k hk hl => ?_)) (fun _ => ?_) _
    · rcases FB1.out k hk with h' | h'
      · exact h'
      · omega
    · rw [HS.out]; exact foot_mb
  have FB2 : Hid (∀ k, (Value.slice a2 (m.W.length + 3 + fs.length) cp2).ownBlock = some k → k ∈ S ∨ w.heap.size ≤ k) :=
    fresh_step HF2.out FR1.out.size FB1.out
  rw [← hW2] at HR2 ⊢
  have c3 : W2.cell? ⟨mb, 2, none⟩ = some (.slice (some ⟨sg, 0, none⟩) m.M.length scap) := cell_of_heap HR2.out.mem rfl
  have HW2 : Hid (W2.ownsRow 0 4 1 (.slice (some ⟨sg, 0, none⟩) m.M.length scap) m.M.length (m.M.map Value.bool)) := HR2.out.starts
  have hml : m.M.length ≤ 65536 := by rw [HA.out]; exact hm
  clear hW2 hc1 hz1' HG2 HF2 c2 HR1 FS1 HW1 FR1 FB1
  go_upto_region 5 with (first
    | (at_builtin; refine wpList_append_zeros _ rfl (.tmp 43) (.tmp 46) 99 3 rfl 4 i1 (.bool false) .i64 Tryz.underlying99 Tryz.underlying3 hi1 hy0 hy1 (by rw [hy2]; decide) rfl rfl sg m.M.length scap _ rfl HW2.out _ (3 + fs.length) (by omega) rfl (by omega) (by omega) ?_; intro v1 w3 ho1 hg1 hf1; obtain ⟨a3, cp3, rfl, -⟩ := row_at ho1 (i := 0) (by omega); have hap := Raw.appS (k := 3 + fs.length) (news := List.replicate (3 + fs.length) false) HR2.out (by simp) (by simpa using ho1) hg1; have hc1 := hap.1; have hz1' := hap.2.1; have HR3 := Lib.hid hap.2.2; have HG3 := Lib.hid hg1; have HF3 := Lib.hid hf1; clear hap ho1 hg1 hf1))
  obtain ⟨W3, hW3⟩ : ∃ W3, W3 = w3.setCell ⟨mb, 2, none⟩ (.slice (some ⟨a3, 0, none⟩) (m.M.length + (3 + fs.length)) cp3) := ⟨_, rfl⟩
  have FR3 : Hid (Fr S w W3) := by
    rw [hW3]
    refine Fr.setCell (Fr.grown FR2.out HG3.out (fun k hk hl => ?_)) (fun _ => ?_) _
    · rw [HS.out]; exact foot_s hk
    · rw [HS.out]; exact foot_mb
  have FB3 : Hid (a3 ∈ S ∨ w.heap.size ≤ a3) :=
    fresh_step (v := .slice (some ⟨sg, 0, none⟩) m.M.length scap) (v' := .slice (some ⟨a3, 0, none⟩) (m.M.length + (3 + fs.length)) cp3) HF3.out FR2.out.size (fun k hk => .inl (by rw [HS.out]; exact foot_s hk)) a3 rfl
  rw [← hW3] at HR3 ⊢
  have c4 : W3.cell? ⟨mb, 2, none⟩ = some (.slice (some ⟨a3, 0, none⟩) (m.M.length + (3 + fs.length)) cp3) := cell_of_heap HR3.out.mem rfl
  have hidx : m.W.length < m.M.length + (3 + fs.length) := by rw [HA.out]; omega
  have hst : Hid (W3.ownsRow 0 4 1 (.slice (some ⟨a3, 0, none⟩) (m.M.length + (3 + fs.length)) cp3) (m.M.length + (3 + fs.length)) ((m.M ++ List.replicate (3 + fs.length) false).map Value.bool)) := by have := HR3.out.starts; simp only [List.length_append, List.length_replicate] at this; exact this
  obtain ⟨b0, hb0⟩ : ∃ b0 : Bool, W3.cell? ⟨a3, m.W.length, none⟩ = some (.bool b0) := by
    have := hst.out.cellAt m.W.length (by omega)
    rw [this, List.getElem?_map, List.getElem?_append_right (by rw [HA.out]; exact Nat.le_refl _), HA.out, Nat.sub_self, List.getElem?_replicate, if_pos (by omega)]
    exact ⟨false, rfl⟩
  have hf0 := hst.out.frozenAt m.W.length
  have HE := Lib.hid (Raw.setMark (m := { m with W := m.W ++ [x, hh, (fs.length : Int)] ++ fs, M := m.M ++ List.replicate (3 + fs.length) false }) (cap := cp3) (g := a3) (wv := .slice a2 (m.W.length + 3 + fs.length) cp2) (by have := HR3.out; simp only [List.length_append, List.length_replicate]; exact this) m.W.length true)
  have FR4 : Hid (Fr S w (W3.setCell ⟨a3, m.W.length, none⟩ (.bool true))) := by
    refine Fr.setCell FR3.out (fun hl => ?_) _
    rcases FB3.out with h' | h'
    · exact h'
    · simp only at hl; omega
  clear hW3 hc1 hz1' HG3 HF3 c3 HR3 HR2 HW2 FR2 FR3 hst
  go_wp2
  go_ret
  refine ⟨rfl, .slice a2 (m.W.length + 3 + fs.length) cp2, .slice (some ⟨a3, 0, none⟩) (m.M.length + (3 + fs.length)) cp3, ?_, FR4.out, ?_⟩
  · have h := HE.out
    have e1 : (m.M ++ List.replicate (3 + fs.length) false).set m.W.length true = m.M ++ (true :: List.replicate (2 + fs.length) false) := by
      rw [← HA.out, List.set_append_right _ _ (Nat.le_refl _), Nat.sub_self, show 3 + fs.length = (2 + fs.length) + 1 by omega, List.replicate_succ, List.set_cons_zero]
    rw [e1] at h
    have hM : (m.push x hh fs).M.length = m.M.length + (3 + fs.length) := by simp [Mem.push]; omega
    have hW : (m.push x hh fs).W.length = m.W.length + 3 + fs.length := by simp [Mem.push]; omega
    refine ⟨?_, ?_, ?_, by rw [hW]; omega, by rw [hM, hW, HA.out]; omega⟩
    · have := h.mem; simpa [Mem.push] using this
    · have := h.words; rw [hW]; simpa [Mem.push, Nat.add_assoc, Nat.add_comm, Nat.add_left_comm] using this
    · have := h.starts; rw [hM]; simpa [Mem.push, Nat.add_assoc, Nat.add_comm, Nat.add_left_comm] using this
  · intro k hk
    simp only [foot, List.mem_cons, List.mem_append, Option.mem_toList] at hk
    rcases hk with rfl | hk | hk
    · left; rw [HS.out]; exact foot_mb
    · exact FB2.out k hk
    · simp [Value.ownBlock] at hk; subst hk; exact FB3.out
end Go.Proofs.YtofhgfgipdokbaaGreatDoor
namespace Go.Proofs.YtofhgfgipdokbaaGreatDoor
open Go.RowKit

set_option maxHeartbeats 4000000 in
set_option maxRecDepth 100000 in
theorem place_none {w : World} {mb : Nat} {m : Mem} {wv sv : Value} (h : MemAt w mb m wv sv) (hpos : 0 < m.W.length) (x hh : Int) (b1 : 0 ≤ hh) (b2 : hh ≤ 1099511627775) (hfit : m.W.length + 3 ≤ 65536) :
    Calls Tryz.prog 61 #[.pointer (some ⟨mb, 0, none⟩), .int .u64 x, .int .i64 hh, .slice none 0 0] w (Acts (.int .i64 m.W.length) mb (m.push x hh []) (foot mb wv sv) w) := by
  obtain ⟨i0, hi, hz0, hz1, hz2⟩ := info_parts infoWord
  obtain ⟨i1, hi1, hy0, hy1, hy2⟩ := info_parts infoBool
  have hm := h.most
  have ha := h.alike
  obtain ⟨wa, wcap, rfl⟩ := row_shape h.words
  obtain ⟨sg, scap, rfl, -⟩ := row_at h.starts (i := 0) (by omega)
  obtain ⟨S, hS⟩ : ∃ S, S = foot mb (.slice wa m.W.length wcap) (.slice (some ⟨sg, 0, none⟩) m.M.length scap) := ⟨_, rfl⟩
  rw [← hS]
  have c1 := h.cell.2.1
  have hR0 : Raw (w.alloc (.cells #[.int .u64 x, .int .u64 hh, .int .u64 0] 24)) mb m (.slice wa m.W.length wcap) (.slice (some ⟨sg, 0, none⟩) m.M.length scap) := h.raw.fr0 ((Fr.refl _ _).alloc _)
  have HR0 := Lib.hid hR0
  have e3 := Lib.hid (news3 w (.int .u64 x) (.int .u64 hh) (.int .u64 0))
  have e4 := Lib.hid (show ∀ u ∈ [Value.int .u64 x, .int .u64 hh, .int .u64 0], u.oneCell' = true by simp [Value.oneCell'])
  have HH := Lib.hid h
  have HS := Lib.hid hS
  clear hR0 h hS
  have c1' : (w.alloc (.cells #[.int .u64 x, .int .u64 hh, .int .u64 0] 24)).cell? ⟨mb, 1, none⟩ = some (.slice wa m.W.length wcap) := cell_of_heap HR0.out.mem rfl
  have HA := Lib.hid ha
  clear ha
  go_enter Tryz.func61, Tryz.ntmps61
  go_upto_region 3 with (first
    | (at_builtin; refine wpList_append_at _ rfl (.tmp 19) (.tmp 26) 38 rfl 24 i0 (.int .u64 0) 1 8 Tryz.underlying38 hi hz0 hz1 hz2 rfl (by decide) (.slice wa m.W.length wcap) m.W.length _ rfl HR0.out.words ⟨w.heap.size, 0, none⟩ 3 3 [.int .u64 x, .int .u64 hh, .int .u64 0] rfl rfl e3.out e4.out (by unfold maxLen; omega) (by omega) ?_; intro v1 w1 ho1 hg1 hf1; obtain ⟨a1, cp1, rfl⟩ := row_shape ho1; have hap := Raw.appW (news := [x, hh, (0 : Int)]) HR0.out rfl ho1 hg1; have hc1 := hap.1; have hz1' := hap.2.1; have HR1 := Lib.hid hap.2.2; have HG1 := Lib.hid hg1; have HF1 := Lib.hid hf1; clear hap ho1 hg1 hf1))
  obtain ⟨W1, hW1⟩ : ∃ W1, W1 = w1.setCell ⟨mb, 1, none⟩ (.slice a1 (m.W.length + 3) cp1) := ⟨_, rfl⟩
  have FR1 : Hid (Fr S w W1) := by
    rw [hW1]
    refine Fr.setCell (Fr.grown ((Fr.refl _ _).alloc _) HG1.out (fun k hk _ => ?_)) (fun _ => ?_) _
    · rw [HS.out]; exact foot_w hk
    · rw [HS.out]; exact foot_mb
  have FB1 : Hid (∀ k, (Value.slice a1 (m.W.length + 3) cp1).ownBlock = some k → k ∈ S ∨ w.heap.size ≤ k) :=
    fresh_step HF1.out (by simp) (fun k hk => .inl (by rw [HS.out]; exact foot_w hk))
  rw [← hW1] at HR1 ⊢
  have c2 : W1.cell? ⟨mb, 1, none⟩ = some (.slice a1 (m.W.length + 3) cp1) := cell_of_heap HR1.out.mem rfl
  have HW1 : Hid (W1.ownsRow 0 24 1 (.slice a1 (m.W.length + 3) cp1) (m.W.length + 3) ((m.W ++ [x, hh, (0 : Int)]).map (Value.int .u64))) := by have := HR1.out.words; simp only [List.length_append] at this; exact this
  have cfz : W1.frozen? ⟨mb, 1, none⟩ = false := frozen_of_heap HR1.out.mem
  clear hW1 hc1 hz1' HG1 HF1 c1 c1' e3 e4 HR0
  go_upto_region 4 with (first
    | (at_builtin; refine wpList_append_own_none rfl (.tmp 34) (.tmp 35) 38 rfl 0 24 i0 1 Tryz.underlying38 hi (.slice a1 (m.W.length + 3) cp1) (m.W.length + 3) _ rfl HW1.out rfl ?_))
  obtain ⟨W2, hW2⟩ : ∃ W2, W2 = W1.setCell ⟨mb, 1, none⟩ (.slice a1 (m.W.length + 3) cp1) := ⟨_, rfl⟩
  have hFm : Fr [mb] W1 W2 := by rw [hW2]; exact (Fr.refl _ _).setCell (fun _ => by simp) _
  have HR2 : Hid (Raw W2 mb { m with W := m.W ++ [x, hh, (0 : Int)] } (.slice a1 (m.W.length + 3) cp1) (.slice (some ⟨sg, 0, none⟩) m.M.length scap)) := by
    refine ⟨by rw [hW2]; exact heap_setCell_same HR1.out.mem _, hFm.row HR1.out.words (fun k hk => ?_), hFm.row HR1.out.starts (fun k hk => ?_)⟩
    · obtain ⟨c, hc⟩ := row_heap HR1.out.words hk; simpa using tag_ne hc HR1.out.mem (by decide)
    · obtain ⟨c, hc⟩ := row_heap HR1.out.starts hk; simpa using tag_ne hc HR1.out.mem (by decide)
  have FR2 : Hid (Fr S w W2) := by rw [hW2]; exact FR1.out.setCell (fun _ => by rw [HS.out]; exact foot_mb) _
  rw [← hW2]
  clear hW2 hFm c2 cfz HR1 HW1 FR1
  have c3 : W2.cell? ⟨mb, 2, none⟩ = some (.slice (some ⟨sg, 0, none⟩) m.M.length scap) := cell_of_heap HR2.out.mem rfl
  have HWB : Hid (W2.ownsRow 0 4 1 (.slice (some ⟨sg, 0, none⟩) m.M.length scap) m.M.length (m.M.map Value.bool)) := HR2.out.starts
  have hml : m.M.length ≤ 65536 := by rw [HA.out]; exact hm
  go_upto_region 5 with (first
    | (at_builtin; refine wpList_append_zeros _ rfl (.tmp 43) (.tmp 46) 99 3 rfl 4 i1 (.bool false) .i64 Tryz.underlying99 Tryz.underlying3 hi1 hy0 hy1 (by rw [hy2]; decide) rfl rfl sg m.M.length scap _ rfl HWB.out _ (3) (by omega) rfl (by omega) (by omega) ?_; intro v1 w3 ho1 hg1 hf1; obtain ⟨a3, cp3, rfl, -⟩ := row_at ho1 (i := 0) (by omega); have hap := Raw.appS (k := 3) (news := List.replicate (3) false) HR2.out (by simp) (by simpa using ho1) hg1; have hc1 := hap.1; have hz1' := hap.2.1; have HR3 := Lib.hid hap.2.2; have HG3 := Lib.hid hg1; have HF3 := Lib.hid hf1; clear hap ho1 hg1 hf1))
  obtain ⟨W3, hW3⟩ : ∃ W3, W3 = w3.setCell ⟨mb, 2, none⟩ (.slice (some ⟨a3, 0, none⟩) (m.M.length + (3)) cp3) := ⟨_, rfl⟩
  have FR3 : Hid (Fr S w W3) := by
    rw [hW3]
    refine Fr.setCell (Fr.grown FR2.out HG3.out (fun k hk hl => ?_)) (fun _ => ?_) _
    · rw [HS.out]; exact foot_s hk
    · rw [HS.out]; exact foot_mb
  have FB3 : Hid (a3 ∈ S ∨ w.heap.size ≤ a3) :=
    fresh_step (v := .slice (some ⟨sg, 0, none⟩) m.M.length scap) (v' := .slice (some ⟨a3, 0, none⟩) (m.M.length + (3)) cp3) HF3.out FR2.out.size (fun k hk => .inl (by rw [HS.out]; exact foot_s hk)) a3 rfl
  rw [← hW3] at HR3 ⊢
  have c4 : W3.cell? ⟨mb, 2, none⟩ = some (.slice (some ⟨a3, 0, none⟩) (m.M.length + (3)) cp3) := cell_of_heap HR3.out.mem rfl
  have hidx : m.W.length < m.M.length + (3) := by rw [HA.out]; omega
  have hst : Hid (W3.ownsRow 0 4 1 (.slice (some ⟨a3, 0, none⟩) (m.M.length + (3)) cp3) (m.M.length + (3)) ((m.M ++ List.replicate (3) false).map Value.bool)) := by have := HR3.out.starts; simp only [List.length_append, List.length_replicate] at this; exact this
  obtain ⟨b0, hb0⟩ : ∃ b0 : Bool, W3.cell? ⟨a3, m.W.length, none⟩ = some (.bool b0) := by
    have := hst.out.cellAt m.W.length (by omega)
    rw [this, List.getElem?_map, List.getElem?_append_right (by rw [HA.out]; exact Nat.le_refl _), HA.out, Nat.sub_self, List.getElem?_replicate, if_pos (by omega)]
    exact ⟨false, rfl⟩
  have hf0 := hst.out.frozenAt m.W.length
  have HE := Lib.hid (Raw.setMark (m := { m with W := m.W ++ [x, hh, (0 : Int)], M := m.M ++ List.replicate (3) false }) (cap := cp3) (g := a3) (wv := .slice a1 (m.W.length + 3) cp1) (by have := HR3.out; simp only [List.length_append, List.length_replicate]; exact this) m.W.length true)
  have FR4 : Hid (Fr S w (W3.setCell ⟨a3, m.W.length, none⟩ (.bool true))) := by
    refine Fr.setCell FR3.out (fun hl => ?_) _
    rcases FB3.out with h' | h'
    · exact h'
    · simp only at hl; omega
  clear hW3 hc1 hz1' HG3 HF3 c3 HR3 HR2 FR2 FR3 hst
  go_wp2
  go_ret
  refine ⟨rfl, .slice a1 (m.W.length + 3) cp1, .slice (some ⟨a3, 0, none⟩) (m.M.length + (3)) cp3, ?_, FR4.out, ?_⟩
  · have h := HE.out
    have e1 : (m.M ++ List.replicate (3) false).set m.W.length true = m.M ++ (true :: List.replicate (2) false) := by
      rw [← HA.out, List.set_append_right _ _ (Nat.le_refl _), Nat.sub_self, show 3 = (2) + 1 by omega, List.replicate_succ, List.set_cons_zero]
    rw [e1] at h
    have hM : (m.push x hh []).M.length = m.M.length + (3) := by simp [Mem.push]
    have hW : (m.push x hh []).W.length = m.W.length + 3 := by simp [Mem.push]
    refine ⟨?_, ?_, ?_, by rw [hW]; exact hfit, by rw [hM, hW, HA.out]⟩
    · have := h.mem; simpa [Mem.push] using this
    · have := h.words; rw [hW]; simpa [Mem.push, Nat.add_assoc, Nat.add_comm, Nat.add_left_comm] using this
    · have := h.starts; rw [hM]; simpa [Mem.push, Nat.add_assoc, Nat.add_comm, Nat.add_left_comm] using this
  · intro k hk
    simp only [foot, List.mem_cons, List.mem_append, Option.mem_toList] at hk
    rcases hk with rfl | hk | hk
    · left; rw [HS.out]; exact foot_mb
    · exact FB1.out k hk
    · simp [Value.ownBlock] at hk; subst hk; exact FB3.out
end Go.Proofs.YtofhgfgipdokbaaGreatDoor
namespace Go.Proofs.YtofhgfgipdokbaaGreatDoor
open Go.RowKit

set_option maxHeartbeats 4000000 in
set_option maxRecDepth 100000 in
theorem place_at {w : World} {mb : Nat} {m : Mem} {wv sv : Value} (h : MemAt w mb m wv sv) (hpos : 0 < m.W.length) (x hh : Int) (ad : Addr) (fcap : Nat) (fs : List Int)
    (hfs : ∀ W, Fr (foot mb wv sv) w W → ∀ j u, (fs.map (Value.int .u64))[j]? = some u → W.cell? (ad.add j) = some u) (b1 : 0 ≤ hh) (b2 : hh ≤ 1099511627775) (hfit : m.W.length + 3 + fs.length ≤ 65536) :
    Calls Tryz.prog 61 #[.pointer (some ⟨mb, 0, none⟩), .int .u64 x, .int .i64 hh, .slice (some ad) fs.length fcap] w (Acts (.int .i64 m.W.length) mb (m.push x hh fs) (foot mb wv sv) w) := by
  obtain ⟨i0, hi, hz0, hz1, hz2⟩ := info_parts infoWord
  obtain ⟨i1, hi1, hy0, hy1, hy2⟩ := info_parts infoBool
  have hfl512 : fs.length ≤ 65536 := by omega
  have hm := h.most
  have ha := h.alike
  obtain ⟨wa, wcap, rfl⟩ := row_shape h.words
  obtain ⟨sg, scap, rfl, -⟩ := row_at h.starts (i := 0) (by omega)
  obtain ⟨S, hS⟩ : ∃ S, S = foot mb (.slice wa m.W.length wcap) (.slice (some ⟨sg, 0, none⟩) m.M.length scap) := ⟨_, rfl⟩
  rw [← hS] at hfs ⊢
  have c1 := h.cell.2.1
  have hR0 : Raw (w.alloc (.cells #[.int .u64 x, .int .u64 hh, .int .u64 fs.length] 24)) mb m (.slice wa m.W.length wcap) (.slice (some ⟨sg, 0, none⟩) m.M.length scap) := h.raw.fr0 ((Fr.refl _ _).alloc _)
  have HR0 := Lib.hid hR0
  have e3 := Lib.hid (news3 w (.int .u64 x) (.int .u64 hh) (.int .u64 fs.length))
  have e4 := Lib.hid (show ∀ u ∈ [Value.int .u64 x, .int .u64 hh, .int .u64 fs.length], u.oneCell' = true by simp [Value.oneCell'])
  have HH := Lib.hid h
  have HFS := Lib.hid hfs
  have HS := Lib.hid hS
  clear hR0 h hfs hS
  have c1' : (w.alloc (.cells #[.int .u64 x, .int .u64 hh, .int .u64 fs.length] 24)).cell? ⟨mb, 1, none⟩ = some (.slice wa m.W.length wcap) := cell_of_heap HR0.out.mem rfl
  have HA := Lib.hid ha
  clear ha
  go_enter Tryz.func61, Tryz.ntmps61
  go_upto_region 3 with (first
    | (at_builtin; refine wpList_append_at _ rfl (.tmp 19) (.tmp 26) 38 rfl 24 i0 (.int .u64 0) 1 8 Tryz.underlying38 hi hz0 hz1 hz2 rfl (by decide) (.slice wa m.W.length wcap) m.W.length _ rfl HR0.out.words ⟨w.heap.size, 0, none⟩ 3 3 [.int .u64 x, .int .u64 hh, .int .u64 fs.length] rfl rfl e3.out e4.out (by unfold maxLen; omega) (by omega) ?_; intro v1 w1 ho1 hg1 hf1; obtain ⟨a1, cp1, rfl⟩ := row_shape ho1; have hap := Raw.appW (news := [x, hh, (fs.length : Int)]) HR0.out rfl ho1 hg1; have hc1 := hap.1; have hz1' := hap.2.1; have HR1 := Lib.hid hap.2.2; have HG1 := Lib.hid hg1; have HF1 := Lib.hid hf1; clear hap ho1 hg1 hf1))
  obtain ⟨W1, hW1⟩ : ∃ W1, W1 = w1.setCell ⟨mb, 1, none⟩ (.slice a1 (m.W.length + 3) cp1) := ⟨_, rfl⟩
  have FR1 : Hid (Fr S w W1) := by
    rw [hW1]
    refine Fr.setCell (Fr.grown ((Fr.refl _ _).alloc _) HG1.out (fun k hk _ => ?_)) (fun _ => ?_) _
    · rw [HS.out]; exact foot_w hk
    · rw [HS.out]; exact foot_mb
  have FB1 : Hid (∀ k, (Value.slice a1 (m.W.length + 3) cp1).ownBlock = some k → k ∈ S ∨ w.heap.size ≤ k) :=
    fresh_step HF1.out (by simp) (fun k hk => .inl (by rw [HS.out]; exact foot_w hk))
  have FS1 : Hid (∀ j u, (fs.map (Value.int .u64))[j]? = some u → W1.cell? (ad.add j) = some u) := Lib.hid (HFS.out W1 FR1.out)
  rw [← hW1] at HR1 ⊢
  have c2 : W1.cell? ⟨mb, 1, none⟩ = some (.slice a1 (m.W.length + 3) cp1) := cell_of_heap HR1.out.mem rfl
  have HW1 : Hid (W1.ownsRow 0 24 1 (.slice a1 (m.W.length + 3) cp1) (m.W.length + 3) ((m.W ++ [x, hh, (fs.length : Int)]).map (Value.int .u64))) := by have := HR1.out.words; simp only [List.length_append] at this; exact this
  clear hW1 hc1 hz1' HG1 HF1 c1 c1' e3 e4 HR0 HFS
  go_upto_region 4 with (first
    | (at_builtin; refine wpList_append_at _ rfl (.tmp 34) (.tmp 35) 38 rfl 24 i0 (.int .u64 0) 1 8 Tryz.underlying38 hi hz0 hz1 hz2 rfl (by decide) (.slice a1 (m.W.length + 3) cp1) (m.W.length + 3) _ rfl HW1.out ad fs.length fcap (fs.map (Value.int .u64)) rfl (by simp) FS1.out (ints_one fs) (by unfold maxLen; omega) (by omega) ?_; intro v1 w2 ho1 hg1 hf1; obtain ⟨a2, cp2, rfl⟩ := row_shape ho1; have hap := Raw.appW (m := { m with W := m.W ++ [x, hh, (fs.length : Int)] }) (k := fs.length) (news := fs) HR1.out rfl (by simpa using ho1) hg1; have hc1 := hap.1; have hz1' := hap.2.1; have HR2 := Lib.hid hap.2.2; have HG2 := Lib.hid hg1; have HF2 := Lib.hid hf1; clear hap ho1 hg1 hf1))
  obtain ⟨W2, hW2⟩ : ∃ W2, W2 = w2.setCell ⟨mb, 1, none⟩ (.slice a2 (m.W.length + 3 + fs.length) cp2) := ⟨_, rfl⟩
  have FR2 : Hid (Fr S w W2) := by
    rw [hW2]
    refine Fr.setCell (Fr.grown FR1.out HG2.out (fun k hk hl => ?_)) (fun _ => ?_) _
    · rcases FB1.out k hk with h' | h'
      · exact h'
      · omega
    · rw [HS.out]; exact foot_mb
  have FB2 : Hid (∀ k, (Value.slice a2 (m.W.length + 3 + fs.length) cp2).ownBlock = some k → k ∈ S ∨ w.heap.size ≤ k) :=
    fresh_step HF2.out FR1.out.size FB1.out
  rw [← hW2] at HR2 ⊢
  have c3 : W2.cell? ⟨mb, 2, none⟩ = some (.slice (some ⟨sg, 0, none⟩) m.M.length scap) := cell_of_heap HR2.out.mem rfl
  have HW2 : Hid (W2.ownsRow 0 4 1 (.slice (some ⟨sg, 0, none⟩) m.M.length scap) m.M.length (m.M.map Value.bool)) := HR2.out.starts
  have hml : m.M.length ≤ 65536 := by rw [HA.out]; exact hm
  clear hW2 hc1 hz1' HG2 HF2 c2 HR1 FS1 HW1 FR1 FB1
  go_upto_region 5 with (first
    | (at_builtin; refine wpList_append_zeros _ rfl (.tmp 43) (.tmp 46) 99 3 rfl 4 i1 (.bool false) .i64 Tryz.underlying99 Tryz.underlying3 hi1 hy0 hy1 (by rw [hy2]; decide) rfl rfl sg m.M.length scap _ rfl HW2.out _ (3 + fs.length) (by omega) rfl (by omega) (by omega) ?_; intro v1 w3 ho1 hg1 hf1; obtain ⟨a3, cp3, rfl, -⟩ := row_at ho1 (i := 0) (by omega); have hap := Raw.appS (k := 3 + fs.length) (news := List.replicate (3 + fs.length) false) HR2.out (by simp) (by simpa using ho1) hg1; have hc1 := hap.1; have hz1' := hap.2.1; have HR3 := Lib.hid hap.2.2; have HG3 := Lib.hid hg1; have HF3 := Lib.hid hf1; clear hap ho1 hg1 hf1))
  obtain ⟨W3, hW3⟩ : ∃ W3, W3 = w3.setCell ⟨mb, 2, none⟩ (.slice (some ⟨a3, 0, none⟩) (m.M.length + (3 + fs.length)) cp3) := ⟨_, rfl⟩
  have FR3 : Hid (Fr S w W3) := by
    rw [hW3]
    refine Fr.setCell (Fr.grown FR2.out HG3.out (fun k hk hl => ?_)) (fun _ => ?_) _
    · rw [HS.out]; exact foot_s hk
    · rw [HS.out]; exact foot_mb
  have FB3 : Hid (a3 ∈ S ∨ w.heap.size ≤ a3) :=
    fresh_step (v := .slice (some ⟨sg, 0, none⟩) m.M.length scap) (v' := .slice (some ⟨a3, 0, none⟩) (m.M.length + (3 + fs.length)) cp3) HF3.out FR2.out.size (fun k hk => .inl (by rw [HS.out]; exact foot_s hk)) a3 rfl
  rw [← hW3] at HR3 ⊢
  have c4 : W3.cell? ⟨mb, 2, none⟩ = some (.slice (some ⟨a3, 0, none⟩) (m.M.length + (3 + fs.length)) cp3) := cell_of_heap HR3.out.mem rfl
  have hidx : m.W.length < m.M.length + (3 + fs.length) := by rw [HA.out]; omega
  have hst : Hid (W3.ownsRow 0 4 1 (.slice (some ⟨a3, 0, none⟩) (m.M.length + (3 + fs.length)) cp3) (m.M.length + (3 + fs.length)) ((m.M ++ List.replicate (3 + fs.length) false).map Value.bool)) := by have := HR3.out.starts; simp only [List.length_append, List.length_replicate] at this; exact this
  obtain ⟨b0, hb0⟩ : ∃ b0 : Bool, W3.cell? ⟨a3, m.W.length, none⟩ = some (.bool b0) := by
    have := hst.out.cellAt m.W.length (by omega)
    rw [this, List.getElem?_map, List.getElem?_append_right (by rw [HA.out]; exact Nat.le_refl _), HA.out, Nat.sub_self, List.getElem?_replicate, if_pos (by omega)]
    exact ⟨false, rfl⟩
  have hf0 := hst.out.frozenAt m.W.length
  have HE := Lib.hid (Raw.setMark (m := { m with W := m.W ++ [x, hh, (fs.length : Int)] ++ fs, M := m.M ++ List.replicate (3 + fs.length) false }) (cap := cp3) (g := a3) (wv := .slice a2 (m.W.length + 3 + fs.length) cp2) (by have := HR3.out; simp only [List.length_append, List.length_replicate]; exact this) m.W.length true)
  have FR4 : Hid (Fr S w (W3.setCell ⟨a3, m.W.length, none⟩ (.bool true))) := by
    refine Fr.setCell FR3.out (fun hl => ?_) _
    rcases FB3.out with h' | h'
    · exact h'
    · simp only at hl; omega
  clear hW3 hc1 hz1' HG3 HF3 c3 HR3 HR2 HW2 FR2 FR3 hst
  go_wp2
  go_ret
  refine ⟨rfl, .slice a2 (m.W.length + 3 + fs.length) cp2, .slice (some ⟨a3, 0, none⟩) (m.M.length + (3 + fs.length)) cp3, ?_, FR4.out, ?_⟩
  · have h := HE.out
    have e1 : (m.M ++ List.replicate (3 + fs.length) false).set m.W.length true = m.M ++ (true :: List.replicate (2 + fs.length) false) := by
      rw [← HA.out, List.set_append_right _ _ (Nat.le_refl _), Nat.sub_self, show 3 + fs.length = (2 + fs.length) + 1 by omega, List.replicate_succ, List.set_cons_zero]
    rw [e1] at h
    have hM : (m.push x hh fs).M.length = m.M.length + (3 + fs.length) := by simp [Mem.push]; omega
    have hW : (m.push x hh fs).W.length = m.W.length + 3 + fs.length := by simp [Mem.push]; omega
    refine ⟨?_, ?_, ?_, by rw [hW]; omega, by rw [hM, hW, HA.out]; omega⟩
    · have := h.mem; simpa [Mem.push] using this
    · have := h.words; rw [hW]; simpa [Mem.push, Nat.add_assoc, Nat.add_comm, Nat.add_left_comm] using this
    · have := h.starts; rw [hM]; simpa [Mem.push, Nat.add_assoc, Nat.add_comm, Nat.add_left_comm] using this
  · intro k hk
    simp only [foot, List.mem_cons, List.mem_append, Option.mem_toList] at hk
    rcases hk with rfl | hk | hk
    · left; rw [HS.out]; exact foot_mb
    · exact FB2.out k hk
    · simp [Value.ownBlock] at hk; subst hk; exact FB3.out
end Go.Proofs.YtofhgfgipdokbaaGreatDoor
