/- slices.Repeat at one word: a new row that holds the word so many times. -/
import Derived.Test.YtfcigjicikpabaaDoorAdmit
import Derived.Laws.CopyOwn
import Derived.Deep.RegionLaw
namespace Go.Proofs.YtfcigjicikpabaaDoor
open Go.RowKit

theorem infoWord : (Tryd.prog.info? 23).map (fun i => (i.zero, i.size, i.bytes)) = some (some (.int .u64 0), 1, 8) := by kernel_rfl
theorem sizeWord : (Tryd.prog.info? 23).map (·.size) = some 1 := by kernel_rfl
theorem mul1 (n : Int) (h0 : 0 ≤ n) (hn : n ≤ 512) (w : World) : Calls Tryd.prog 45 #[.int .u64 1, .int .u64 n] w (Gives (.tuple #[.int .u64 0, .int .u64 n]) w) := by
  obtain ⟨k, rfl⟩ := Int.eq_ofNat_of_zero_le h0
  refine (Tryd.bits_Mul 1 k (by omega) (by omega) w).mono ?_
  rintro e w' ⟨rfl, rfl⟩
  refine ⟨?_, rfl⟩
  rw [show 1 * k / 18446744073709551616 = 0 by omega, show 1 * k % 18446744073709551616 = k by omega]
  rfl
/-- the row under way: k times the word, zeros behind -/
def RepRow (w : World) (b n k : Nat) (F : Value) : Prop := w.heap[b]? = some (.cells (List.replicate k F ++ List.replicate (n - k) (Value.int .u64 0)).toArray 23 (0, 0))
theorem splice_rep {α : Type} (F Z : α) (n k c : Nat) : splice (List.replicate k F ++ List.replicate (n - k) Z) k (List.replicate c F) = List.replicate (k + c) F ++ List.replicate (n - (k + c)) Z := by
  unfold splice
  rw [List.take_left' (by simp), List.length_replicate, List.drop_append, List.length_replicate, List.drop_eq_nil_of_le (by simp), List.nil_append, show k + c - k = c by omega, List.drop_replicate, show n - k - c = n - (k + c) by omega, ← List.append_assoc, List.replicate_append_replicate]
theorem RepRow.cell {w : World} {b n k : Nat} {F : Value} (h : RepRow w b n k F) (j : Nat) (hj : j < k) : w.cell? ⟨b, j, none⟩ = some F := by
  refine cell_of_heap h ?_
  rw [List.getElem?_toArray, List.getElem?_append_left (by simpa using hj)]
  simp [hj]
theorem row_of_own {w : World} {b n : Nat} {xs : List Value} (h : w.ownsRow 0 23 1 (.slice (some ⟨b, 0, none⟩) n n) n xs) : w.heap[b]? = some (.cells xs.toArray 23 (0, 0)) := by
  rcases h.2 with ⟨h', _⟩ | ⟨g, cap, cur, h', _, hg, _, _, hcs, ht⟩
  · cases h'
  · simp only [Value.slice.injEq, Option.some.injEq, Addr.mk.injEq, and_true, true_and] at h'
    obtain ⟨rfl, rfl⟩ := h'
    rw [hg, ← ht, List.take_of_length_le (by rw [Array.length_toList, hcs]; exact Nat.le_refl _)]
theorem own_of_row {w : World} {b n : Nat} {xs : List Value} (h : w.heap[b]? = some (.cells xs.toArray 23 (0, 0))) (hl : xs.length = n) (hn : n ≤ 65536) : w.ownsRow 0 23 1 (.slice (some ⟨b, 0, none⟩) n n) n xs :=
  ⟨by omega, .inr ⟨b, n, xs.toArray, rfl, Nat.zero_le _, h, Nat.le_refl _, by unfold maxLen; omega, by simpa using hl, by rw [Nat.mul_one, ← hl]; simp⟩⟩
theorem row_made {w : World} {b n : Nat} (h : w.ownsRow 0 23 1 (.slice (some ⟨b, 0, none⟩) n n) n (madeCells (Value.int .u64 0).cells (n * 1)).toList) : w.heap[b]? = some (.cells (List.replicate n (Value.int .u64 0)).toArray 23 (0, 0)) := by
  have e := row_of_own h
  rw [Nat.mul_one, show (Value.int .u64 0).cells = #[Value.int .u64 0] from rfl, toList_madeCells_one] at e
  exact e
theorem cell1 {w : World} {g : Nat} {F : Value} (h : w.cell? ⟨g, 0, none⟩ = some F) : ∀ j v, [F][j]? = some v → w.cell? ((⟨g, 0, none⟩ : Addr).add j) = some v := by
  intro j v hj
  cases j with
  | zero => cases hj; exact h
  | succ j => simp at hj
theorem copy1 {w : World} {g : Nat} {F : Value} (b : Nat) (h : w.cell? ⟨g, 0, none⟩ = some F) : 0 < [F].length → some (⟨b, 0, none⟩ : Addr) = some ⟨b, 0, none⟩ ∧ ∃ ad, some (⟨g, 0, none⟩ : Addr) = some ad ∧ ∀ j v, [F][j]? = some v → w.cell? (ad.add j) = some v := fun _ => ⟨rfl, _, rfl, cell1 h⟩
theorem rep_first {w : World} {b n : Nat} {F : Value} (h : w.heap[b]? = some (.cells (splice (List.replicate n (Value.int .u64 0)) 0 [F]).toArray 23 (0, 0))) : RepRow w b n 1 F := by
  unfold RepRow
  rw [h]
  have := splice_rep F (Value.int .u64 0) n 0 1
  simp only [List.replicate_zero, List.nil_append, Nat.sub_zero, Nat.zero_add] at this
  rw [← this]
  rfl
theorem rep_next {w : World} {b n k c : Nat} {F : Value} (h : w.heap[b]? = some (.cells (splice (List.replicate k F ++ List.replicate (n - k) (Value.int .u64 0)) k (List.replicate c F)).toArray 23 (0, 0))) : RepRow w b n (k + c) F := by
  unfold RepRow
  rw [h, splice_rep]
theorem rep_cells {w : World} {b n k c : Nat} {F : Value} (h : RepRow w b n k F) (hc : c ≤ k) : ∀ j v, (List.replicate c F)[j]? = some v → w.cell? ((⟨b, 0, none⟩ : Addr).add j) = some v := by
  intro j v hj
  have hj' : j < c := by have := (List.getElem?_eq_some_iff.1 hj).1; simpa using this
  rw [List.getElem?_replicate, if_pos hj'] at hj
  cases hj
  rw [Lib.add_plain, Nat.zero_add]
  exact h.cell j (by omega)
theorem copied_count (k n : Nat) (h1 : 1 ≤ k) (h2 : k < n) : ∃ c, c ≤ k ∧ k + c ≤ n ∧ 1 ≤ c ∧ Hid (c = Nat.min k (n - k)) := by
  refine ⟨min k (n - k), by omega, by omega, by omega, ?_⟩
  show min k (n - k) = Nat.min k (n - k)
  rfl
theorem rep_one (c : Nat) (x : Int) : ∀ v ∈ List.replicate c (Value.int .u64 x), v.oneCell' = true := by
  intro v hv
  rw [(List.mem_replicate.1 hv).2]
  rfl
/-- Returned a new row of n times F. -/
def Repeats (n : Nat) (F : Value) (w : World) (e : Ending) (w' : World) : Prop := ∃ b, e = .returned (.slice (some ⟨b, 0, none⟩) n n) ∧ w.heap.size ≤ b ∧ w'.ownsRow 0 23 1 (.slice (some ⟨b, 0, none⟩) n n) n (List.replicate n F) ∧ Fr [] w w'

set_option maxHeartbeats 2000000 in
set_option maxRecDepth 100000 in
theorem repeat_some (g : Nat) (N : Int) (x : Int) (w : World) (hc : w.cell? ⟨g, 0, none⟩ = some (.int .u64 x)) (h1 : 1 ≤ N) (h2 : N ≤ 512) :
    Calls Tryd.prog 28 #[.slice (some ⟨g, 0, none⟩) 1 1, .int .i64 N] w (Repeats N.toNat (.int .u64 x) w) := by
  obtain ⟨i0, hi, hz0, hz1, hz2⟩ := info_parts infoWord
  have hmul := mul1 N (by omega) h2 w
  have hgl := World.block_lt_of_cell? w _ hc
  simp only at hgl
  obtain ⟨n, hn⟩ : ∃ n, n = N.toNat := ⟨_, rfl⟩
  rw [← hn]
  have hN : N = (n : Int) := by omega
  have n1 : 1 ≤ n := by omega
  have n2 : n ≤ 512 := by omega
  have HN := Lib.hid hN
  clear hn hN
  have e1 := Lib.hid (show [Value.int .u64 x].length = Nat.min 1 n from (Nat.min_eq_left n1).symm)
  have e2 := Lib.hid (show 0 + [Value.int .u64 x].length ≤ (List.replicate n (Value.int .u64 0)).length by simp; omega)
  have e3 := Lib.hid (show ∀ v ∈ [Value.int .u64 x], v.oneCell' = true by simp [Value.oneCell'])
  go_enter Tryd.func28, Tryd.ntmps28
  go_wp2_with (first
    | (go_at_call 45; refine hmul.mono ?_; rintro e w' ⟨rfl, rfl⟩)
    | (at_make; refine wpList_make_full _ rfl _ _ 44 rfl 0 23 i0 (.int .u64 0) 1 Tryd.underlying44 hi hz0 hz1 _ _ _ _ n rfl rfl HN.out HN.out (by rw [hz2]; omega) (by unfold maxLen; omega) (Nat.zero_le _) ?_; intro w0 hown0 hgrow0; have hR0 := Lib.hid (row_made hown0); have hP0 := Lib.hid (copy1 w.heap.size (hgrow0.cell hc (by simp))); have hB0 := Lib.hid ((Below.refl w.heap.size w).grown hgrow0 (Nat.le_refl _) (fun _ e => by cases e)); clear hown0 hgrow0)
    | (with_reducible refine wpList_copy_splice rfl (.tmp 31) (.tmp 32) 44 44 rfl 23 Tryd.underlying44 sizeWord (some ⟨w.heap.size, 0, none⟩) (some ⟨g, 0, none⟩) n n 1 1 rfl rfl w.heap.size 0 (List.replicate n (Value.int .u64 0)) 23 hR0.out [.int .u64 x] e1.out hP0.out e2.out e3.out w.heap.size w hB0.out (Nat.le_refl _) ?_; intro w1 hR1 hB1))
  have hR2 := Lib.hid (rep_first hR1.out)
  have hB2 := Lib.hid hB1
  clear hR1 hB1 hR0 hB0 hP0 hmul hc
  go_loopw [8] (fun v wr => ∃ k : Nat, 1 ≤ k ∧ k ≤ n ∧ v = .int .i64 k ∧ Hid (RepRow wr w.heap.size n k (.int .u64 x)) ∧ Hid (Below w.heap.size w wr)) (fun v _ => n - (intOf v).toNat)
  case atStart => exact ⟨1, Nat.le_refl _, n1, rfl, hR2, hB2⟩
  case round =>
    obtain ⟨k, k1, k2, rfl, hR, hB⟩ := hrel
    clear hR2 hB2
    by_cases hlt : k < n
    · obtain ⟨c, hc1, hc2, hc3, hc4⟩ := copied_count k n k1 hlt
      have hkn : ¬ n = k := by omega
      have hwr : IntKind.i64.wrap ((k : Int) + (c : Int)) = ((k + c : Nat) : Int) := by rw [IntKind.wrap_i64]; omega
      go_wp2_with fail
      go_region_law (refine step_copy_splice rfl (.tmp 41) (.tmp 44) 44 44 rfl 23 Tryd.underlying44 sizeWord (some ⟨w.heap.size, k, none⟩) (some ⟨w.heap.size, 0, none⟩) (n - k) (n - k) k n (by simp [Act.eval, Act.put]) (by simp [Act.eval, Act.put]) w.heap.size k (List.replicate k (Value.int .u64 x) ++ List.replicate (n - k) (Value.int .u64 0)) 23 hR.out (List.replicate c (.int .u64 x)) (by rw [List.length_replicate]; exact hc4.out) (fun _ => ⟨rfl, _, rfl, rep_cells hR.out hc1⟩) (by simp; omega) (rep_one c x) w.heap.size w hB.out.drew (Nat.le_refl _) ?_; intro w1 hR1 hB1)
      have hR3 := Lib.hid (rep_next hR1.out)
      have hB3 := Lib.hid hB1
      clear hR1 hB1 hR hB
      go_wp2
      go_simp
      exact ⟨⟨k + c, by omega, by omega, by omega, hR3⟩, by simp [intOf]; omega⟩
    · obtain rfl : k = n := by omega
      go_wp2
      go_ret
      refine ⟨w.heap.size, rfl, Nat.le_refl _, own_of_row ?_ (by simp) (by omega), Fr.below hB.out⟩
      have h := hR.out
      unfold RepRow at h
      rw [h]
      simp
set_option maxHeartbeats 2000000 in
set_option maxRecDepth 100000 in
theorem repeat_none (g : Nat) (x : Int) (w : World) : Calls Tryd.prog 28 #[.slice (some ⟨g, 0, none⟩) 1 1, .int .i64 0] w (Repeats 0 (.int .u64 x) w) := by
  obtain ⟨i0, hi, hz0, hz1, hz2⟩ := info_parts infoWord
  have hmul := mul1 0 (by omega) (by omega) w
  go_enter Tryd.func28, Tryd.ntmps28
  go_wp2_with (first
    | (go_at_call 45; refine hmul.mono ?_; rintro e w' ⟨rfl, rfl⟩)
    | (at_make; refine wpList_make_full _ rfl _ _ 44 rfl 0 23 i0 (.int .u64 0) 1 Tryd.underlying44 hi hz0 hz1 _ _ _ _ 0 rfl rfl rfl rfl (by rw [hz2]; omega) (by unfold maxLen; omega) (Nat.zero_le _) ?_; intro w0 hown0 hgrow0; have hO := Lib.hid hown0; have hG := Lib.hid hgrow0; clear hown0 hgrow0)
    | (with_reducible refine wpList_copy_nothing rfl (.tmp 31) (.tmp 32) 44 44 rfl 23 Tryd.underlying44 sizeWord (some ⟨w.heap.size, 0, none⟩) (some ⟨g, 0, none⟩) 0 0 1 1 rfl rfl rfl ?_))
  go_loop [8] (fun v => v = .int .i64 0) (fun _ => 0)
  case atStart => rfl
  case round =>
    obtain rfl := hrel
    go_wp2
    go_ret
    refine ⟨w.heap.size, rfl, Nat.le_refl _, ?_, (Fr.refl _ _).grown hG.out (fun _ e => by cases e)⟩
    have h := hO.out
    rw [Nat.zero_mul, show (Value.int .u64 0).cells = #[Value.int .u64 0] from rfl, toList_madeCells_one] at h
    simpa using h
end Go.Proofs.YtfcigjicikpabaaDoor
