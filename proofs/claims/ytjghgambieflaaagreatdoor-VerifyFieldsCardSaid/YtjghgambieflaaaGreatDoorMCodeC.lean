/- code.fieldsOf, decodedCode: an object's fields in a new row; instructions out of words. code.decodedNumbers: the numbers ahead of the literals. code.decoded: the method whose fields these are. code.Read, whatever is read. -/
import Derived.Test.YtjghgambieflaaaGreatDoorMCodeB
import Derived.Test.YtjghgambieflaaaGreatDoorMRanges
namespace Go.Proofs.YtjghgambieflaaaGreatDoor
open Go.RowKit

/-- a row that is filled from its front -/
structure FillsW (w : World) (g n k : Nat) (xs : List Int) (W : World) (cur : Array Value) : Prop where
  block : W.heap[g]? = some (.cells cur 32 (0, 0))
  size : cur.size = n
  done : cur.toList.take k = (xs.take k).map (Value.int .u64)
  fr : Fr [] w W
  new : w.heap.size ≤ g
theorem FillsW.step {w W W1 : World} {g n k : Nat} {xs : List Int} {cur : Array Value} {x : Int} (h : FillsW w g n k xs W cur) (hF : Fr [] W W1) (hx : xs[k]? = some x) (hk : k < n) : FillsW w g n (k + 1) xs (W1.setCell ⟨g, k, none⟩ (.int .u64 x)) (cur.setIfInBounds k (.int .u64 x)) := by
  refine ⟨heap_setCell_same (hF.heap (by simp) h.block) _, by simp [h.size], ?_, (h.fr.trans hF).setCell (fun hl => by have := h.new; simp only at hl; omega) _, h.new⟩
  rw [List.take_add_one, List.take_add_one, hx]
  rw [Array.toList_setIfInBounds]
  have hl : k < cur.toList.length := by simp [h.size]; exact hk
  rw [List.take_set_of_le (Nat.le_refl _), h.done, List.getElem?_set_self hl]
  simp
set_option maxRecDepth 100000 in
set_option maxHeartbeats 1000000 in
theorem fieldsOf_at {W : World} {hb mb : Nat} {lim root hashes : Int} {pre post : List Ob} {o : Ob} {wv sv : Value} (hI : OInv lim (pre ++ o :: post) hashes) (hH : HeapAt W hb mb (absMem lim (pre ++ o :: post) root hashes) wv sv) :
    Calls Tryz.prog 76 #[.pointer (some ⟨hb, 0, none⟩), .int .u64 (2 * (endOf pre : Int))] W (Lists 32 1 o.2.2.length (o.2.2.map (Value.int .u64)) W) := by
  have hp := endOf_pos pre
  have hq := endOf_lt pre post o
  have hfit := hI.fit
  have hl2 := hI.l2
  obtain ⟨xs, hxs⟩ : ∃ xs, xs = o.2.2 := ⟨_, rfl⟩
  obtain ⟨n, hn⟩ : ∃ n, n = xs.length := ⟨_, rfl⟩
  have HSZ : Hid (∀ W', Fr [] W W' → Calls Tryz.prog 106 #[.pointer (some ⟨hb, 0, none⟩), .int .u64 (2 * (endOf pre : Int))] W' (Still (.tuple #[.int .i64 n, .int .i64 0]) W')) := Lib.hid fun W' hF => by
    rw [hn, hxs]
    exact size_yes (memory_at (hH.fr hF (by simp) (fun _ _ => by simp))) (endOf pre) o.2.2.length abs_mark hp (by omega) abs_size (by omega)
  have HFT : Hid (∀ W' (j : Nat) (x : Int), Fr [] W W' → xs[j]? = some x → Calls Tryz.prog 107 #[.pointer (some ⟨hb, 0, none⟩), .int .u64 (2 * (endOf pre : Int)), .int .i64 j] W' (Still (.tuple #[.int .u64 x, .int .i64 0]) W')) := Lib.hid fun W' j x hF hj => by
    rw [hxs] at hj
    have hjl := (List.getElem?_eq_some_iff.1 hj).1
    exact fetch_yes (memory_at (hH.fr hF (by simp) (fun _ _ => by simp))) (endOf pre) o.2.2.length j x abs_mark hp abs_size (by omega) hjl (by rw [abs_field j hjl]; exact hj)
  have hnb : n ≤ 65536 := by rw [hn, hxs]; omega
  rw [← hxs, ← hn]
  have HN := Lib.hid hn
  obtain ⟨x, hx⟩ : ∃ x, x = 2 * (endOf pre : Int) := ⟨_, rfl⟩
  rw [← hx] at HSZ HFT ⊢
  have hx1 : 0 ≤ x := by omega
  have hx2 : x ≤ 18446744073709551615 := by omega
  obtain ⟨Z, HZ, hmk⟩ := makeWs n n (Nat.le_refl _) hnb
  clear hI hH hp hq hfit hl2 hxs hn hx
  go_enter Tryz.func76, Tryz.ntmps76
  go_wp2_with (first | (go_at_call 106; refine (HSZ.out _ (Fr.refl _ _)).mono ?_; rintro e w1 ⟨rfl, hF1⟩; have HF1 := Lib.hid hF1; clear hF1))
  go_loopw [19] (fun i wr => ∃ k : Nat, k ≤ n ∧ i = .int .i64 k ∧ ∃ cur, Hid (FillsW W w1.heap.size n k xs wr cur)) (fun i _ => n - (intOf i).toNat)
  case atStart => exact ⟨0, Nat.zero_le _, rfl, Z, ⟨heap_new _ _, HZ.out.1, by simp, HF1.out.alloc _, HF1.out.size⟩⟩
  case round =>
    obtain ⟨k, hk, rfl, cur, hS⟩ := hrel
    by_cases hlt : k < n
    · have hkl : k < xs.length := by rw [← HN.out]; exact hlt
      obtain ⟨y, hy⟩ : ∃ y, xs[k]? = some y := ⟨_, List.getElem?_eq_getElem hkl⟩
      have hft := HFT.out wr k y hS.out.fr hy
      have HST : Hid (∀ W1, Fr [] wr W1 → FillsW W w1.heap.size n (k + 1) xs (W1.setCell ⟨w1.heap.size, k, none⟩ (.int .u64 y)) (cur.setIfInBounds k (.int .u64 y))) := Lib.hid fun W1 hF => hS.out.step hF hy hlt
      have k0 : (0 : Int) ≤ (k : Int) := by omega
      have k1 : (k : Int) < (n : Int) := by omega
      have HCL : Hid (∀ W1, Fr [] wr W1 → (∃ u, W1.cell? ⟨w1.heap.size, k, none⟩ = some u) ∧ W1.frozen? ⟨w1.heap.size, k, none⟩ = false) := Lib.hid fun W1 hF => by
        have hb := hF.heap (by simp) hS.out.block
        exact ⟨⟨_, cell_of_heap hb (Array.getElem?_eq_getElem (by rw [hS.out.size]; exact hlt))⟩, frozen_of_heap hb⟩
      clear hkl hy
      go_wp2_with (first | (go_at_call 107; refine hft.mono ?_; rintro e w2 ⟨rfl, hF2⟩; obtain ⟨⟨u, hu⟩, hfz⟩ := HCL.out w2 hF2; have HS2 := Lib.hid (HST.out w2 hF2); clear hF2))
      go_roundw
      case rel => exact ⟨k + 1, by omega, by go_num, _, HS2⟩
      case measure => simp [intOf]; omega
    · have hkn : k = n := by omega
      subst hkn
      have hkd : decide (k < k) = false := by simp
      have HR : Hid (wr.ownsRow 0 32 1 (.slice (some ⟨w1.heap.size, 0, none⟩) k k) k (xs.map (Value.int .u64))) := by
        refine ⟨by simp [HN.out], .inr ⟨_, k, cur, rfl, Nat.zero_le _, hS.out.block, Nat.le_refl _, by unfold maxLen; omega, by rw [hS.out.size, Nat.mul_one], ?_⟩⟩
        have h1 := hS.out.done
        have h2 : xs.take k = xs := List.take_of_length_le (by rw [← HN.out]; omega)
        rw [h2] at h1
        rw [Nat.mul_one]
        exact h1
      go_wp2_with fail
      go_ret
      exact ⟨_, rfl, HR.out, hS.out.fr, fun b hb => by cases hb; exact hS.out.new⟩
theorem infoInstr : (Tryz.prog.info? 42).map (fun i => (i.zero, i.size, i.bytes)) = some (some (.agg #[.int .i64 0, .int .i64 0, .int .i64 0]), 3, 24) := by kernel_rfl
theorem flatI_snoc (l : List Ins) (i : Ins) : flatI (l ++ [i]) = flatI l ++ [.int .i64 i.op, .int .i64 i.a, .int .i64 i.b] := by simp [flatI]
theorem flatI_len (l : List Ins) : (flatI l).length = l.length * 3 := by
  induction l with
  | nil => rfl
  | cons a l ih => rw [show flatI (a :: l) = .int .i64 a.op :: .int .i64 a.a :: .int .i64 a.b :: flatI l from rfl]; simp [ih]; omega
/-- instructions and no error, or none and a fault -/
def Decoded (xs : List Int) (w : World) (e : Ending) (w' : World) : Prop := (xs.all insOk = true ∧ ∃ v, e = .returned (.tuple #[v, .nilIface]) ∧ w'.ownsRow 0 42 3 v xs.length (flatI (xs.map fun x => insOf (intOfW x))) ∧ Fr [] w w' ∧ ∀ b, v.ownBlock = some b → w.heap.size ≤ b) ∨ (xs.all insOk = false ∧ (∃ s n, e = .returned (.tuple #[.slice none 0 0, .iface 203 (.agg #[.string s, .int .i64 n])])) ∧ Fr [] w w')
theorem three_cells (w : World) (a b c : Value) (t : TypeId) : ∀ j u, [a, b, c][j]? = some u → (w.alloc (.cells #[a, b, c] t)).cell? ((⟨w.heap.size, 0, none⟩ : Addr).add j) = some u := by
  intro j u hj
  rw [Lib.add_plain, Nat.zero_add, World.cell?_alloc_new]
  match j, hj with
  | 0, h => simpa using h
  | 1, h => simpa using h
  | 2, h => simpa using h
  | j + 3, h => simp at h
set_option maxRecDepth 100000 in
set_option maxHeartbeats 1000000 in
theorem decodedCode_at {w : World} {fa : Option Addr} {fc : Nat} (xs : List Int) (hX : WordsAt w fa xs) (hW : ∀ x ∈ xs, WB x) (hl : xs.length ≤ 65536) : Calls Tryz.prog 104 #[.slice fa xs.length fc] w (Decoded xs w) := by
  obtain ⟨i0, hi, hz0, hz1, hz2⟩ := info_parts infoInstr
  obtain ⟨n, hn⟩ : ∃ n, n = xs.length := ⟨_, rfl⟩
  rw [← hn] at hl ⊢
  have HN := Lib.hid hn
  have HX := Lib.hid hX
  have HW := Lib.hid hW
  clear hn hX hW
  go_enter Tryz.func104, Tryz.ntmps104
  go_wp2_with fail
  go_loopw [4, 11] (fun v i wr => ∃ k : Nat, k ≤ n ∧ i = .int .i64 k ∧ Hid (Grows w 42 3 k (flatI ((xs.take k).map fun x => insOf (intOfW x))) v wr ∧ (xs.take k).all insOk = true)) (fun _ i _ => n - (intOf i).toNat)
  case atStart => exact ⟨0, Nat.zero_le _, rfl, ⟨World.ownsRow_nil _ _ _ _, Fr.refl _ _, fun _ h => by cases h⟩, rfl⟩
  case round =>
    obtain ⟨k, hk, rfl, hG⟩ := hrel
    obtain ⟨vo, vc, rfl⟩ := row_shape' hG.out.1.row
    by_cases hlt : k < n
    · have hkl : k < xs.length := by rw [← HN.out]; exact hlt
      obtain ⟨x, hx⟩ : ∃ x, xs[k]? = some x := ⟨_, List.getElem?_eq_getElem hkl⟩
      obtain ⟨g, off, rfl, hc⟩ := HX.out k x hx
      have hc' := hG.out.1.fr.cell (by simp) hc
      have HUP := Lib.hid (unpacked_at x (HW.out x (List.mem_of_getElem? hx)) wr)
      have k0 : (0 : Int) ≤ (k : Int) := by omega
      have k1 : (k : Int) < (n : Int) := by omega
      have HTK : Hid (xs.take (k + 1) = xs.take k ++ [x]) := by rw [List.take_add_one, hx]; exact Lib.hid rfl
      have HNO : Hid (insOk x = false → xs.all insOk = false) := Lib.hid fun h => List.all_eq_false.2 ⟨x, List.mem_of_getElem? hx, by rw [h]; simp⟩
      unfold insOk at HNO
      obtain ⟨ok, hok⟩ : ∃ ok, ok = (odd x && (insOf (intOfW x)).ok) := ⟨_, rfl⟩
      rw [← hok] at HUP HNO
      have HOK : Hid (ok = insOk x) := Lib.hid (by rw [hok]; rfl)
      obtain ⟨i, hi'⟩ : ∃ i, i = insOf (intOfW x) := ⟨_, rfl⟩
      rw [← hi'] at HUP
      have HI := Lib.hid hi'
      unfold Unpacked Ins.v at HUP
      clear hkl hx hc hok hi'
      go_wp2_with fail
      refine HUP.out.mono ?_
      rintro e w2 ⟨hF2, ⟨ho, rfl⟩ | ⟨ho, s, q, rfl⟩⟩
      · have HF2 := Lib.hid hF2
        have HO := Lib.hid ho
        clear hF2 ho
        obtain ⟨op, a, b⟩ := i
        simp only
        have HRW : Hid (((w2.alloc (.cells #[.int .i64 op, .int .i64 a, .int .i64 b] 42)).alloc (.cells #[.int .i64 op, .int .i64 a, .int .i64 b] 42)).ownsRow 0 42 3 (.slice vo k vc) k _) := ((HF2.out.alloc _).alloc _).row hG.out.1.row (fun _ _ => by simp)
        have HN3 := Lib.hid (three_cells (w2.alloc (.cells #[.int .i64 op, .int .i64 a, .int .i64 b] 42)) (.int .i64 op) (.int .i64 a) (.int .i64 b) 42)
        go_wp2_with (at_builtin; refine wpList_append_at _ rfl (.tmp 23) (.tmp 25) 23 rfl 42 i0 _ 3 24 Tryz.underlying23 hi hz0 hz1 hz2 rfl (by decide) (.slice vo k vc) k _ rfl HRW.out _ 1 1 [.int .i64 op, .int .i64 a, .int .i64 b] rfl rfl (by simpa using HN3.out) (by simp [Value.oneCell']) (by unfold maxLen; omega) (by omega) ?_; intro v5 w5 ho5 hg5 hf5; obtain ⟨a5, p5, rfl⟩ := row_shape' ho5; have HGn := Lib.hid (hG.out.1.step ((HF2.out.alloc _).alloc _) ho5 hg5 hf5); clear ho5 hg5 hf5)
        go_roundw
        case rel =>
          refine ⟨k + 1, by omega, by go_num, ?_, ?_⟩
          · rw [HTK.out, List.map_append, List.map_cons, List.map_nil, flatI_snoc, ← HI.out]
            exact HGn.out
          · rw [HTK.out, List.all_append, hG.out.2]
            simp [← HOK.out, HO.out]
        case measure => simp [intOf]; omega
      · have HF2 := Lib.hid hF2
        have HO := Lib.hid (HNO.out ho)
        clear hF2 ho
        go_wp2_with fail
        go_ret2
        exact .inr ⟨HO.out, ⟨_, _, rfl⟩, hG.out.1.fr.trans (HF2.out.alloc _)⟩
    · have hkn : k = n := by omega
      subst hkn
      have hkd : decide (k < k) = false := by simp
      have HT : Hid (xs.take k = xs) := List.take_of_length_le (by rw [← HN.out]; omega)
      have HX2 := hG.out
      rw [HT.out] at HX2
      have HX3 := Lib.hid HX2
      clear HX2
      go_wp2_with fail
      go_ret2
      exact .inl ⟨HX3.out.2, _, rfl, by rw [← HN.out]; exact HX3.out.1.row, HX3.out.1.fr, HX3.out.1.new⟩
end Go.Proofs.YtjghgambieflaaaGreatDoor
namespace Go.Proofs.YtjghgambieflaaaGreatDoor
open Go.RowKit

/-- the five numbers and no error, or some numbers and a fault -/
def NumsTo (xs : List Int) (w : World) (e : Ending) (w' : World) : Prop := Fr [] w w' ∧ ((headOk xs = true ∧ e = .returned (.tuple #[.agg #[.int .i64 (intOfW (xs.getD 0 0)), .int .i64 (intOfW (xs.getD 1 0)), .int .i64 (intOfW (xs.getD 2 0)), .int .i64 (intOfW (xs.getD 3 0)), .int .i64 (intOfW (xs.getD 4 0))], .nilIface])) ∨ (headOk xs = false ∧ ∃ a b c d f s n, e = .returned (.tuple #[.agg #[.int .i64 a, .int .i64 b, .int .i64 c, .int .i64 d, .int .i64 f], .iface 203 (.agg #[.string s, .int .i64 n])])))
/-- between two numbers -/
structure NumInv (w : World) (xs : List Int) (k : Nat) (cur : List Int) (wr : World) : Prop where
  res : wr.heap[w.heap.size]? = some (.cells #[.int .i64 0, .int .i64 0, .int .i64 0, .int .i64 0, .int .i64 0] 188 (0, 0))
  head : wr.heap[w.heap.size + 1]? = some (.cells (cur.map (Value.int .i64)).toArray 188 (0, 0))
  len : cur.length = 5
  got : ∀ j, j < k → cur[j]? = some (intOfW (xs.getD j 0)) ∧ odd (xs.getD j 0) = true
  fr : Fr [] w wr
theorem list_five {l : List Int} (h : l.length = 5) : ∃ a b c d e, l = [a, b, c, d, e] := by
  match l, h with
  | [a, b, c, d, e], _ => exact ⟨a, b, c, d, e, rfl⟩
theorem odd_head {xs : List Int} {k : Nat} (hk : k < 5) (hl : 5 ≤ xs.length) (h : odd (xs.getD k 0) = false) : headOk xs = false := by
  have hg : xs[k]? = some (xs.getD k 0) := by rw [List.getD_eq_getElem?_getD, List.getElem?_eq_getElem (by omega)]; rfl
  have : (xs.take 5).all odd = false := List.all_eq_false.2 ⟨xs.getD k 0, List.mem_of_getElem? (i := k) (by rw [List.getElem?_take_of_lt hk]; exact hg), by rw [h]; simp⟩
  unfold headOk
  rw [this]
  simp
theorem head_of {xs : List Int} (hl : 5 ≤ xs.length) (h : ∀ j, j < 5 → odd (xs.getD j 0) = true) : headOk xs = decide (0 ≤ nLits xs ∧ nLits xs ≤ (xs.length : Int) - 5) := by
  unfold headOk
  have : (xs.take 5).all odd = true := by
    rw [List.all_eq_true]
    intro x hx
    obtain ⟨j, hj⟩ := List.getElem?_of_mem hx
    have hj5 : j < 5 := by have := (List.getElem?_eq_some_iff.1 hj).1; simp at this; omega
    rw [List.getElem?_take_of_lt hj5] at hj
    have := h j hj5
    rw [List.getD_eq_getElem?_getD, hj] at this
    exact this
  rw [this]
  simp [hl]
theorem NumInv.step {w wr w2 : World} {xs : List Int} {k : Nat} {cur : List Int} (h : NumInv w xs k cur wr) (hF : Fr [] wr w2) (hk : k < 5) (ho : odd (xs.getD k 0) = true) : NumInv w xs (k + 1) (cur.set k (intOfW (xs.getD k 0))) (w2.setCell ⟨w.heap.size + 1, k, none⟩ (.int .i64 (intOfW (xs.getD k 0)))) := by
  have hlt := lt_of_heap h.head
  refine ⟨?_, ?_, by simp [h.len], fun j hj => ?_, (h.fr.trans hF).setCell (fun hl => by simp only at hl; omega) _⟩
  · rw [Below.heap_setCell _ _ _ _ (by simp)]
    exact hF.heap (by simp) h.res
  · rw [heap_setCell_same (hF.heap (by simp) h.head)]
    simp
  · by_cases hjk : k = j
    · subst hjk
      rw [List.getElem?_set_self (by rw [h.len]; exact hk)]
      exact ⟨rfl, ho⟩
    · rw [List.getElem?_set_ne hjk]
      exact h.got j (by omega)
set_option maxRecDepth 100000 in
set_option maxHeartbeats 1000000 in
theorem decodedNumbers_at {w : World} {fa : Option Addr} {fc : Nat} (xs : List Int) (hX : WordsAt w fa xs) (hW : ∀ x ∈ xs, WB x) (hl : xs.length ≤ 65536) : Calls Tryz.prog 103 #[.slice fa xs.length fc] w (NumsTo xs w) := by
  obtain ⟨n, hn⟩ : ∃ n, n = xs.length := ⟨_, rfl⟩
  rw [← hn] at hl ⊢
  have HN := Lib.hid hn
  have HX := Lib.hid hX
  have HW := Lib.hid hW
  clear hn hX hW
  by_cases h5 : n < 5
  · have HNO : Hid (headOk xs = false) := Lib.hid (by unfold headOk; rw [← HN.out]; simp; omega)
    go_enter Tryz.func103, Tryz.ntmps103
    go_wp2_with fail
    (try simp only [Exit.inBlock, Exit.then])
    refine bodyPost_ret (v := .tuple #[.agg #[.int .i64 0, .int .i64 0, .int .i64 0, .int .i64 0, .int .i64 0], .iface 203 (.agg #[.string ⟨#[110, 117, 109, 98, 101, 114, 32, 111, 102, 32, 102, 105, 101, 108, 100, 115]⟩, .int .i64 n])]) ?_ rfl ⟨?_, .inr ⟨HNO.out, _, _, _, _, _, _, _, rfl⟩⟩
    · rw [results_cell_tmp rfl]
      go_simp
    · exact ((Fr.refl [] w).alloc _).alloc _
  · have h5' : ¬ (n : Int) < 5 := by omega
    go_enter Tryz.func103, Tryz.ntmps103
    go_wp2_with fail
    go_loopw [16] (fun i wr => ∃ k : Nat, k ≤ 5 ∧ i = .int .i64 k ∧ ∃ cur, Hid (NumInv w xs k cur wr)) (fun i _ => 5 - (intOf i).toNat)
    case atStart => exact ⟨0, Nat.zero_le _, rfl, [0, 0, 0, 0, 0], ⟨((Fr.refl [] _).alloc _).heap (by simp) (heap_new _ _), by simpa using heap_new (w.alloc (.cells #[.int .i64 0, .int .i64 0, .int .i64 0, .int .i64 0, .int .i64 0] 188)) (.cells #[.int .i64 0, .int .i64 0, .int .i64 0, .int .i64 0, .int .i64 0] 188), rfl, fun j hj => by omega, ((Fr.refl [] w).alloc _).alloc _⟩⟩
    case round =>
      obtain ⟨k, hk, rfl, cur, hS⟩ := hrel
      by_cases hlt : k < 5
      · have hkl : k < xs.length := by rw [← HN.out]; omega
        obtain ⟨x, hx⟩ : ∃ x, x = xs.getD k 0 := ⟨_, rfl⟩
        have hxk : xs[k]? = some x := by rw [hx, List.getD_eq_getElem?_getD, List.getElem?_eq_getElem hkl]; rfl
        obtain ⟨g, off, rfl, hc⟩ := HX.out k x hxk
        have hc' := hS.out.fr.cell (by simp) hc
        have hnm := fun s => number_at s x (HW.out x (List.mem_of_getElem? hxk)) wr
        have k0 : (0 : Int) ≤ (k : Int) := by omega
        have k1 : (k : Int) < (n : Int) := by omega
        have k2 : (k : Int) < 5 := by omega
        have HXX := Lib.hid hx
        have HLN : Hid (5 ≤ xs.length) := Lib.hid (by rw [← HN.out]; omega)
        clear hx hxk hc hkl
        cases ho : odd x
        · rw [ho] at hnm
          have HNO : Hid (headOk xs = false) := Lib.hid (odd_head hlt HLN.out (by rw [← HXX.out]; exact ho))
          clear ho
          go_wp2_with fail
          refine (hnm _).mono ?_
          rintro e w2 ⟨hF2, ⟨hx, -⟩ | ⟨-, s, m, rfl⟩⟩
          · cases hx
          obtain ⟨c0, c1, c2, c3, c4, rfl⟩ := list_five hS.out.len
          have HH := Lib.hid (hF2.heap (by simp) hS.out.head)
          have HR := Lib.hid (hF2.heap (by simp) hS.out.res)
          have HF2 := Lib.hid (hS.out.fr.trans hF2)
          have q0 := cell_of_heap (o := 0) HH.out rfl
          have q1 := cell_of_heap (o := 1) HH.out rfl
          have q2 := cell_of_heap (o := 2) HH.out rfl
          have q3 := cell_of_heap (o := 3) HH.out rfl
          have q4 := cell_of_heap (o := 4) HH.out rfl
          have r0 := cell_of_heap (o := 0) HR.out rfl
          have r1 := cell_of_heap (o := 1) HR.out rfl
          have r2 := cell_of_heap (o := 2) HR.out rfl
          have r3 := cell_of_heap (o := 3) HR.out rfl
          have r4 := cell_of_heap (o := 4) HR.out rfl
          have f0 := frozen_of_heap (o := 0) HR.out
          have f1 := frozen_of_heap (o := 1) HR.out
          have f2 := frozen_of_heap (o := 2) HR.out
          have f3 := frozen_of_heap (o := 3) HR.out
          have f4 := frozen_of_heap (o := 4) HR.out
          clear hF2 hnm hc'
          go_wp2_with fail
          (try simp only [Exit.inBlock, Exit.then])
          refine bodyPost_ret (v := .tuple #[.agg #[.int .i64 c0, .int .i64 c1, .int .i64 c2, .int .i64 c3, .int .i64 c4], .iface 203 (.agg #[.string s, .int .i64 m])]) ?_ rfl ⟨?_, .inr ⟨HNO.out, _, _, _, _, _, _, _, rfl⟩⟩
          · rw [results_cell_tmp rfl]
            go_simp
          · exact ((((HF2.out.setCell (fun h => absurd h (Nat.lt_irrefl _)) _).setCell (fun h => absurd h (Nat.lt_irrefl _)) _).setCell (fun h => absurd h (Nat.lt_irrefl _)) _).setCell (fun h => absurd h (Nat.lt_irrefl _)) _).setCell (fun h => absurd h (Nat.lt_irrefl _)) _
        · rw [ho] at hnm
          have HST : Hid (∀ w2, Fr [] wr w2 → NumInv w xs (k + 1) (cur.set k (intOfW x)) (w2.setCell ⟨w.heap.size + 1, k, none⟩ (.int .i64 (intOfW x)))) := Lib.hid fun w2 hF => by
            rw [HXX.out]
            exact hS.out.step hF hlt (by rw [← HXX.out]; exact ho)
          clear ho
          obtain ⟨y, hy⟩ : ∃ y, y = intOfW x := ⟨_, rfl⟩
          rw [← hy] at hnm HST
          clear hy
          go_wp2_with fail
          refine (hnm _).mono ?_
          rintro e w2 ⟨hF2, ⟨-, rfl⟩ | ⟨hx, -⟩⟩
          rotate_left
          · cases hx
          have HH := Lib.hid (hF2.heap (by simp) hS.out.head)
          obtain ⟨u, hu⟩ : ∃ u, (cur.map (Value.int .i64)).toArray[k]? = some u := ⟨_, Array.getElem?_eq_getElem (by simp [hS.out.len]; exact hlt)⟩
          have qk := cell_of_heap (o := k) HH.out hu
          have fk := frozen_of_heap (o := k) HH.out
          have HS2 := Lib.hid (HST.out w2 hF2)
          clear hF2 hnm hc' hu HST
          go_wp2_with fail
          go_roundw
          case rel => exact ⟨k + 1, by omega, by go_num, _, HS2⟩
          case measure => simp [intOf]; omega
      · have hk5 : k = 5 := by omega
        subst hk5
        obtain ⟨c0, c1, c2, c3, c4, rfl⟩ := list_five hS.out.len
        have HHD : Hid (headOk xs = decide (0 ≤ c4 ∧ c4 ≤ (n : Int) - 5)) := by
          rw [head_of (by rw [← HN.out]; omega) (fun j hj => (hS.out.got j hj).2), ← HN.out]
          have := (hS.out.got 4 (by omega)).1
          simp at this
          unfold nLits
          rw [List.getD_eq_getElem?_getD, ← this]
          exact Lib.hid rfl
        have HG : Hid (c0 = intOfW (xs.getD 0 0) ∧ c1 = intOfW (xs.getD 1 0) ∧ c2 = intOfW (xs.getD 2 0) ∧ c3 = intOfW (xs.getD 3 0) ∧ c4 = intOfW (xs.getD 4 0)) := by
          refine ⟨?_, ?_, ?_, ?_, ?_⟩
          · have := (hS.out.got 0 (by omega)).1; exact Option.some.inj this
          · have := (hS.out.got 1 (by omega)).1; exact Option.some.inj this
          · have := (hS.out.got 2 (by omega)).1; exact Option.some.inj this
          · have := (hS.out.got 3 (by omega)).1; exact Option.some.inj this
          · have := (hS.out.got 4 (by omega)).1; exact Option.some.inj this
        have HF := Lib.hid hS.out.fr
        have HH := Lib.hid hS.out.head
        have HR := Lib.hid hS.out.res
        have hmx : Tryz.prog.follows .mixedOrders = true := by kernel_rfl
        have q0 := cell_of_heap (o := 0) HH.out rfl
        have q1 := cell_of_heap (o := 1) HH.out rfl
        have q2 := cell_of_heap (o := 2) HH.out rfl
        have q3 := cell_of_heap (o := 3) HH.out rfl
        have q4 := cell_of_heap (o := 4) HH.out rfl
        have e5 : IntKind.i64.wrap ((n : Int) - 5) = (n : Int) - 5 := by rw [IntKind.wrap_i64]; omega
        clear hS
        go_wp2_with fail
        have hwi := fun (s : ByteArray) (W : World) => within_at [⟨s, c4, 0, (n : Int) - 5⟩] (row_cells_at W #[.string s, .int .i64 c4, .int .i64 0, .int .i64 ((n : Int) - 5)] 165) (bc := 1) (by simp)
        have HWI := Lib.hid hwi
        clear hwi
        have HEND : Hid (∀ (fv : Value) (s : ByteArray) (W : World), Fr [] w W → fv = faultOf [⟨s, c4, 0, (n : Int) - 5⟩] → NumsTo xs w (.returned (.tuple #[.agg #[.int .i64 c0, .int .i64 c1, .int .i64 c2, .int .i64 c3, .int .i64 c4], fv])) W) := Lib.hid fun fv s W hFW hfv => by
          refine ⟨hFW, ?_⟩
          have ha : ([⟨s, c4, 0, (n : Int) - 5⟩] : List Bd).all (fun b => !b.out) = headOk xs := by
            rw [HHD.out, Bool.eq_iff_iff]
            simp [Bd.out]
          rcases faultOf_case [⟨s, c4, 0, (n : Int) - 5⟩] with ⟨h1, h2⟩ | ⟨h1, s', m', h2⟩
          · left
            rw [ha] at h1
            obtain ⟨g0, g1, g2, g3, g4⟩ := HG.out
            rw [hfv, h2, ← g0, ← g1, ← g2, ← g3, ← g4]
            exact ⟨h1, rfl⟩
          · right
            rw [ha] at h1
            rw [hfv, h2]
            exact ⟨h1, _, _, _, _, _, _, _, rfl⟩
        refine region_own' (S := fun w' => w'.cell? ⟨w.heap.size + 1, 0, none⟩ = some (.int .i64 c0) ∧ w'.cell? ⟨w.heap.size + 1, 1, none⟩ = some (.int .i64 c1) ∧ w'.cell? ⟨w.heap.size + 1, 2, none⟩ = some (.int .i64 c2) ∧ w'.cell? ⟨w.heap.size + 1, 3, none⟩ = some (.int .i64 c3) ∧ w'.cell? ⟨w.heap.size + 1, 4, none⟩ = some (.int .i64 c4)) hmx ⟨q0, q1, q2, q3, q4⟩ (fun hHeld => ?_)
        (refine wpAnyH_take (i := 0) (oi := ⟨some 35, _, _, _, _, _⟩) (v := ?_) rfl (by kernel_rfl) (by kernel_rfl) (by kernel_rfl) (fun _ _ _ h => h) (Or.inl ⟨by rfl, ?_⟩) (by assumption) ?_); rotate_left; focus (intro w hSw; (try dsimp only at hSw); go_split_ands; go_simp; try with_reducible rfl); (try simp only [Act.put, List.setIfInBounds_toArray, List.set_cons_zero, List.set_cons_succ])
        (refine wpAnyH_take (i := 1) (oi := ⟨some 36, _, _, _, _, _⟩) (v := ?_) rfl (by kernel_rfl) (by kernel_rfl) (by kernel_rfl) (fun _ _ _ h => h) (Or.inl ⟨by rfl, ?_⟩) (by assumption) ?_); rotate_left; focus (intro w hSw; (try dsimp only at hSw); go_split_ands; go_simp; try with_reducible rfl); (try simp only [Act.put, List.setIfInBounds_toArray, List.set_cons_zero, List.set_cons_succ])
        (refine wpAnyH_take (i := 2) (oi := ⟨some 37, _, _, _, _, _⟩) (v := ?_) rfl (by kernel_rfl) (by kernel_rfl) (by kernel_rfl) (fun _ _ _ h => h) (Or.inl ⟨by rfl, ?_⟩) (by assumption) ?_); rotate_left; focus (intro w hSw; (try dsimp only at hSw); go_split_ands; go_simp; try with_reducible rfl); (try simp only [Act.put, List.setIfInBounds_toArray, List.set_cons_zero, List.set_cons_succ])
        (refine wpAnyH_take (i := 3) (oi := ⟨some 38, _, _, _, _, _⟩) (v := ?_) rfl (by kernel_rfl) (by kernel_rfl) (by kernel_rfl) (fun _ _ _ h => h) (Or.inl ⟨by rfl, ?_⟩) (by assumption) ?_); rotate_left; focus (intro w hSw; (try dsimp only at hSw); go_split_ands; go_simp; try with_reducible rfl); (try simp only [Act.put, List.setIfInBounds_toArray, List.set_cons_zero, List.set_cons_succ])
        (refine wpAnyH_take (i := 4) (oi := ⟨some 39, _, _, _, _, _⟩) (v := ?_) rfl (by kernel_rfl) (by kernel_rfl) (by kernel_rfl) (fun _ _ _ h => h) (Or.inl ⟨by rfl, ?_⟩) (by assumption) ?_); rotate_left; focus (intro w hSw; (try dsimp only at hSw); go_split_ands; go_simp; try with_reducible rfl); (try simp only [Act.put, List.setIfInBounds_toArray, List.set_cons_zero, List.set_cons_succ])
        (refine wpAnyH_take (i := 5) (oi := ⟨some 40, _, _, _, _, _⟩) (v := ?_) rfl (by kernel_rfl) (by kernel_rfl) (by kernel_rfl) (fun _ _ _ h => h) (Or.inl ⟨by rfl, ?_⟩) (by assumption) ?_); rotate_left; focus (intro w hSw; (try dsimp only at hSw); go_split_ands; go_simp; try with_reducible rfl); (try simp only [Act.put, List.setIfInBounds_toArray, List.set_cons_zero, List.set_cons_succ])
        (refine wpAnyH_take (i := 6) (oi := ⟨some 41, _, _, _, _, _⟩) (v := ?_) rfl (by kernel_rfl) (by kernel_rfl) (by kernel_rfl) (fun _ _ _ h => h) (Or.inl ⟨by rfl, ?_⟩) (by assumption) ?_); rotate_left; focus (intro w hSw; (try dsimp only at hSw); go_split_ands; go_simp; try with_reducible rfl); (try simp only [Act.put, List.setIfInBounds_toArray, List.set_cons_zero, List.set_cons_succ])
        (refine wpAnyH_ready (rs := [7]) (by kernel_rfl) (by simp) ?_; refine AllReadyH.cons rfl (fun K hK => ?_) AllReadyH.nil); go_simp
        have HW1 : Hid (Fr [] wr (wr.drew.alloc (.cells #[.string ⟨#[110, 117, 109, 98, 101, 114, 32, 111, 102, 32, 108, 105, 116, 101, 114, 97, 108, 115]⟩, .int .i64 c4, .int .i64 0, .int .i64 ((n : Int) - 5)] 165))) := (Fr.refl [] wr).drew.alloc _
        refine hK.out _ _ ⟨HW1.out.cell (by simp) q0, HW1.out.cell (by simp) q1, HW1.out.cell (by simp) q2, HW1.out.cell (by simp) q3, HW1.out.cell (by simp) q4⟩ (fun hHeld2 => ?_)
        clear hK
        (refine wpAnyH_ready (rs := [8]) (by kernel_rfl) (by simp) ?_; refine AllReadyH.cons rfl (fun K hK => ?_) AllReadyH.nil); go_simp
        refine (HWI.out _ wr.drew).mono ?_
        rintro e w3 ⟨rfl, hF3⟩
        have HF3 : Hid (Fr [] wr w3) := HW1.out.trans hF3
        have HFE := Lib.hid (HF.out.trans HF3.out)
        have HR3 := Lib.hid (HF3.out.heap (by simp) HR.out)
        have HH3 := Lib.hid (HF3.out.heap (by simp) HH.out)
        have r0 := cell_of_heap (o := 0) HR3.out rfl
        have r1 := cell_of_heap (o := 1) HR3.out rfl
        have r2 := cell_of_heap (o := 2) HR3.out rfl
        have r3 := cell_of_heap (o := 3) HR3.out rfl
        have r4 := cell_of_heap (o := 4) HR3.out rfl
        have f0 := frozen_of_heap (o := 0) HR3.out
        have f1 := frozen_of_heap (o := 1) HR3.out
        have f2 := frozen_of_heap (o := 2) HR3.out
        have f3 := frozen_of_heap (o := 3) HR3.out
        have f4 := frozen_of_heap (o := 4) HR3.out
        have t0 := cell_of_heap (o := 0) HH3.out rfl
        have t1 := cell_of_heap (o := 1) HH3.out rfl
        have t2 := cell_of_heap (o := 2) HH3.out rfl
        have t3 := cell_of_heap (o := 3) HH3.out rfl
        have t4 := cell_of_heap (o := 4) HH3.out rfl
        refine hK.out _ _ ⟨t0, t1, t2, t3, t4⟩ (fun hHeld3 => ?_)
        clear hK hF3 q0 q1 q2 q3 q4
        (refine wpAnyH_ready (rs := [9]) (by kernel_rfl) (by simp) ?_; refine AllReadyH.cons rfl (fun K hK => ?_) AllReadyH.nil); go_simp
        refine hK.out _ _ (by go_simp) (fun hHeld4 => ?_)
        clear hK
        (refine wpAnyH_ready (rs := [10]) (by kernel_rfl) (by simp) ?_; refine AllReadyH.cons rfl (fun K hK => ?_) AllReadyH.nil); go_simp
        refine hK.out _ _ hHeld4 (fun hHeld5 => ?_)
        clear hK
        refine wpAnyH_done (by kernel_rfl) (Norm.mk ?_) _
        go_wp2_with fail
        (try simp only [Exit.inBlock, Exit.then])
        refine bodyPost_ret (v := .tuple #[.agg #[.int .i64 c0, .int .i64 c1, .int .i64 c2, .int .i64 c3, .int .i64 c4], faultOf [⟨⟨#[110, 117, 109, 98, 101, 114, 32, 111, 102, 32, 108, 105, 116, 101, 114, 97, 108, 115]⟩, c4, 0, (n : Int) - 5⟩]]) ?_ rfl (HEND.out _ _ _ ?_ rfl)
        · rw [results_cell_tmp rfl]
          go_simp
        · exact ((((HFE.out.setCell (fun h => absurd h (Nat.lt_irrefl _)) _).setCell (fun h => absurd h (Nat.lt_irrefl _)) _).setCell (fun h => absurd h (Nat.lt_irrefl _)) _).setCell (fun h => absurd h (Nat.lt_irrefl _)) _).setCell (fun h => absurd h (Nat.lt_irrefl _)) _
end Go.Proofs.YtjghgambieflaaaGreatDoor
namespace Go.Proofs.YtjghgambieflaaaGreatDoor
open Go.RowKit

def Mth.zero : Mth := ⟨0, 0, 0, 0, [], []⟩
/-- a method of its own and no error, or the zero method and a fault -/
def DecTo (xs : List Int) (w : World) (e : Ending) (w' : World) : Prop := Fr [] w w' ∧ ((decOk xs = true ∧ ∃ la lc ca cc, e = .returned (.tuple #[(decM xs).v la lc ca cc, .nilIface]) ∧ MAt w' (decM xs) la lc ca ∧ (∀ a, la = some a → w.heap.size ≤ a.block) ∧ ∀ a, ca = some a → w.heap.size ≤ a.block) ∨ (decOk xs = false ∧ ∃ s n, e = .returned (.tuple #[.agg #[.int .i64 0, .int .i64 0, .int .i64 0, .int .i64 0, .slice none 0 0, .slice none 0 0], .iface 203 (.agg #[.string s, .int .i64 n])])))
theorem elem_Words : Tryz.prog.underlying 22 = some (.slice (Tryz.prog.elem 22)) := by kernel_rfl
theorem size_Words (W : World) : (sizeOf (Tryz.prog.elem 22)).run Tryz.prog W = .ok 1 W := by kernel_rfl
/-- xs[lo:], whatever its address -/
theorem slice_from {g n fc lo : Nat} (h1 : lo ≤ n) (h2 : n ≤ fc) : ∃ o c, Hid (lo < n → o = lo) ∧ ∀ W, (Instr.slice 22 (.slice (some ⟨g, 0, none⟩) n fc) (some (.int .i64 (lo : Int))) none none).run Tryz.prog W = .ok (.slice (some ⟨g, o, none⟩) (n - lo) c) W := by
  refine ⟨if fc = lo then 0 else lo, fc - lo, fun h => by rw [if_neg (by omega)], fun W => ?_⟩
  rw [run_slice_l W 22 _ _ _ elem_Words .i64 lo (by omega) (by omega), size_Words]
  simp only [Result.andThen, sliced, Int.toNat_natCast]
  by_cases h : fc = lo
  · rw [if_pos h, if_pos h]
  · rw [if_neg h, if_neg h]
    simp [Addr.add, eq_comm]
/-- xs[lo:hi], whatever its address -/
theorem slice_part {g n fc lo hi : Nat} (h0 : lo ≤ hi) (h1 : hi ≤ n) (h2 : n ≤ fc) : ∃ o c, Hid (lo < hi → o = lo) ∧ ∀ W, (Instr.slice 22 (.slice (some ⟨g, 0, none⟩) n fc) (some (.int .i64 (lo : Int))) (some (.int .i64 (hi : Int))) none).run Tryz.prog W = .ok (.slice (some ⟨g, o, none⟩) (hi - lo) c) W := by
  refine ⟨if fc = lo then 0 else lo, fc - lo, fun h => by rw [if_neg (by omega)], fun W => ?_⟩
  rw [run_slice_lh W 22 _ _ _ elem_Words .i64 .i64 lo hi (by omega) (by omega) (by omega), size_Words]
  simp only [Result.andThen, sliced, Int.toNat_natCast]
  by_cases h : fc = lo
  · rw [if_pos h, if_pos h]
  · rw [if_neg h, if_neg h]
    simp [Addr.add, eq_comm]
theorem words_cut {w : World} {g o lo m : Nat} {xs : List Int} (hX : WordsAt w (some ⟨g, 0, none⟩) xs) (ho : 0 < m → o = lo) : WordsAt w (some ⟨g, o, none⟩) ((xs.drop lo).take m) := by
  intro i x hx
  have hi : i < m := by have := (List.getElem?_eq_some_iff.1 hx).1; simp at this; omega
  rw [List.getElem?_take_of_lt hi, List.getElem?_drop] at hx
  obtain ⟨g', o', e, hc⟩ := hX _ x hx
  cases e
  refine ⟨g, o, rfl, ?_⟩
  rw [ho (by omega)]
  rwa [Nat.zero_add] at hc
theorem own_new {w : World} {B size : Nat} {e : TypeId} {ca : Option Addr} {n cc : Nat} {xs : List Value} (hr : w.ownsRow 0 e size (.slice ca n cc) n xs) (hn : ∀ b, (Value.slice ca n cc).ownBlock = some b → B ≤ b) : ∀ a, ca = some a → B ≤ a.block := by
  intro a ha
  subst ha
  rcases hr.2 with ⟨h0, -⟩ | ⟨g, cap, cur, h0, -⟩
  · cases h0
  · cases h0; exact hn g rfl
theorem own_none {w : World} {size : Nat} {e : TypeId} {n cc : Nat} {xs : List Value} (hr : w.ownsRow 0 e size (.slice none n cc) n xs) : cc = 0 ∧ n = 0 := by
  rcases hr.2 with ⟨h0, h1⟩ | ⟨g, cap, cur, h0, -⟩
  · cases h0; exact ⟨rfl, h1⟩
  · cases h0
theorem Fr.cons' {a b c : World} {k : Nat} (h : Fr [] a b) (hk : Fr [k] b c) (hl : a.heap.size ≤ k) : Fr [] a c := h.trans' hk (fun _ _ e => by cases e) (fun j hj e => by simp at e; omega)
theorem six_set {w : World} {b : Nat} {t : TypeId} {z0 z1 z2 z3 z4 z5 a0 a1 a2 a3 a4 a5 : Value} (h : w.heap[b]? = some (.cells #[z0, z1, z2, z3, z4, z5] t (0, 0))) : ((((((w.setCell ⟨b, 0, none⟩ a0).setCell ⟨b, 1, none⟩ a1).setCell ⟨b, 2, none⟩ a2).setCell ⟨b, 3, none⟩ a3).setCell ⟨b, 4, none⟩ a4).setCell ⟨b, 5, none⟩ a5).heap[b]? = some (.cells #[a0, a1, a2, a3, a4, a5] t (0, 0)) := by
  rw [heap_setCell_same (heap_setCell_same (heap_setCell_same (heap_setCell_same (heap_setCell_same (heap_setCell_same h _) _) _) _) _) _]
  simp
theorem six_fr {a w : World} (h : Fr [] a w) (a0 a1 a2 a3 a4 a5 : Value) : Fr [] a ((((((w.setCell ⟨a.heap.size, 0, none⟩ a0).setCell ⟨a.heap.size, 1, none⟩ a1).setCell ⟨a.heap.size, 2, none⟩ a2).setCell ⟨a.heap.size, 3, none⟩ a3).setCell ⟨a.heap.size, 4, none⟩ a4).setCell ⟨a.heap.size, 5, none⟩ a5) :=
  (((((h.setCell (fun h => absurd h (Nat.lt_irrefl _)) _).setCell (fun h => absurd h (Nat.lt_irrefl _)) _).setCell (fun h => absurd h (Nat.lt_irrefl _)) _).setCell (fun h => absurd h (Nat.lt_irrefl _)) _).setCell (fun h => absurd h (Nat.lt_irrefl _)) _).setCell (fun h => absurd h (Nat.lt_irrefl _)) _
theorem six_frS (a w : World) (a0 a1 a2 a3 a4 a5 : Value) : Fr [a.heap.size] w ((((((w.setCell ⟨a.heap.size, 0, none⟩ a0).setCell ⟨a.heap.size, 1, none⟩ a1).setCell ⟨a.heap.size, 2, none⟩ a2).setCell ⟨a.heap.size, 3, none⟩ a3).setCell ⟨a.heap.size, 4, none⟩ a4).setCell ⟨a.heap.size, 5, none⟩ a5) :=
  ((((((Fr.refl _ w).setCell (fun _ => by simp) _).setCell (fun _ => by simp) _).setCell (fun _ => by simp) _).setCell (fun _ => by simp) _).setCell (fun _ => by simp) _).setCell (fun _ => by simp) _
theorem MAt.fr {S : List Nat} {w w' : World} {m : Mth} {la ca : Option Addr} {lc : Nat} (h : MAt w m la lc ca) (hF : Fr S w w') (h1 : ∀ a, la = some a → a.block ∉ S) (h2 : ∀ a, ca = some a → a.block ∉ S) : MAt w' m la lc ca :=
  ⟨h.lits.fr hF h1, h.none, h.code.fr hF h2⟩
theorem dec_head {xs : List Int} (h : headOk xs = false) : decOk xs = false := by unfold decOk; rw [h]; rfl
set_option maxRecDepth 100000 in
set_option maxHeartbeats 1600000 in
theorem decoded_at {w : World} {fa : Option Addr} {fc : Nat} (xs : List Int) (hR : w.ownsRow 0 32 1 (.slice fa xs.length fc) xs.length (xs.map (Value.int .u64))) (hW : ∀ x ∈ xs, WB x) (hl : xs.length ≤ 65536) : Calls Tryz.prog 75 #[.slice fa xs.length fc] w (DecTo xs w) := by
  have HX : Hid (WordsAt w fa xs) := words_row (row_rowAt hR)
  have HNM := Lib.hid (fun W (hF : Fr [] w W) => decodedNumbers_at (fc := fc) xs (HX.out.fr hF (fun _ _ => by simp)) hW hl)
  have HDC := Lib.hid (fun (ys : List Int) W (a : Option Addr) (c : Nat) (hF : WordsAt W a ys) (hy : ∀ x ∈ ys, x ∈ xs) (hyl : ys.length ≤ 65536) => decodedCode_at (fc := c) ys hF (fun x hx => hW x (hy x hx)) hyl)
  obtain ⟨n, hn⟩ : ∃ n, n = xs.length := ⟨_, rfl⟩
  rw [← hn] at hl HNM hR ⊢
  have HN := Lib.hid hn
  have HR := Lib.hid hR
  have HW := Lib.hid hW
  clear hn hR hW
  cases hh : headOk xs
  · have HH := Lib.hid (dec_head hh)
    have HHH := Lib.hid hh
    clear hh
    go_enter Tryz.func75, Tryz.ntmps75
    go_wp2_with fail
    refine (HNM.out _ ((Fr.refl _ _).alloc _)).mono ?_
    rintro e w2 ⟨hF2, ⟨hx, -⟩ | ⟨-, a, b, c, d, f, s, q, rfl⟩⟩
    · rw [HHH.out] at hx; cases hx
    have HB := Lib.hid (hF2.heap (by simp) (heap_new _ _))
    have HF2 : Hid (Fr [] w w2) := ((Fr.refl [] w).alloc _).trans hF2
    have r0 := cell_of_heap (o := 0) HB.out rfl
    have r1 := cell_of_heap (o := 1) HB.out rfl
    have r2 := cell_of_heap (o := 2) HB.out rfl
    have r3 := cell_of_heap (o := 3) HB.out rfl
    have r4 := cell_of_heap (o := 4) HB.out rfl
    have r5 := cell_of_heap (o := 5) HB.out rfl
    have f0 := frozen_of_heap (o := 0) HB.out
    have f1 := frozen_of_heap (o := 1) HB.out
    have f2 := frozen_of_heap (o := 2) HB.out
    have f3 := frozen_of_heap (o := 3) HB.out
    have f4 := frozen_of_heap (o := 4) HB.out
    have f5 := frozen_of_heap (o := 5) HB.out
    have hlt : w.heap.size < w2.heap.size := lt_of_heap HB.out
    clear hF2
    go_wp2_with fail
    (try simp only [Exit.inBlock, Exit.then])
    refine bodyPost_ret (v := .tuple #[.agg #[.int .i64 0, .int .i64 0, .int .i64 0, .int .i64 0, .slice none 0 0, .slice none 0 0], .iface 203 (.agg #[.string s, .int .i64 q])]) ?_ rfl ⟨?_, .inr ⟨HH.out, _, _, rfl⟩⟩
    · rw [results_cell_tmp rfl]
      go_simp
    · (repeat (first | (with_reducible refine Fr.setCell ?_ (fun h => absurd h (Nat.lt_irrefl _)) _) | (with_reducible refine Fr.alloc ?_ _) | (with_reducible refine Fr.drew ?_) | (with_reducible exact HF2.out)))
  · have HHD := Lib.hid hh
    have h5 : 5 ≤ n ∧ (0 ≤ nLits xs ∧ nLits xs ≤ (n : Int) - 5) := by
      unfold headOk at hh
      rw [← HN.out] at hh
      simp only [Bool.and_eq_true, decide_eq_true_eq] at hh
      exact ⟨hh.1.1, hh.2⟩
    obtain ⟨L, hL⟩ : ∃ L : Nat, nLits xs = L := ⟨(nLits xs).toNat, by omega⟩
    rw [hL] at h5
    obtain ⟨g, cap, cur, hv, -, -, hcap, hmx, -⟩ : ∃ g cap cur, (Value.slice fa n fc) = .slice (some ⟨g, 0, none⟩) n cap ∧ 0 ≤ g ∧ w.heap[g]? = some (.cells cur 32 (0, 0)) ∧ n ≤ cap ∧ cap ≤ maxLen ∧ True := by
      rcases HR.out.2 with ⟨h0, h1⟩ | ⟨g, cap, cur, h0, h1, h2, h3, h4, -⟩
      · omega
      · exact ⟨g, cap, cur, h0, h1, h2, h3, h4, trivial⟩
    cases hv
    have HLL := Lib.hid hL
    unfold maxLen at hmx
    have h50 : (0 : Int) ≤ 5 + (L : Int) := by omega
    have h51 : (5 : Int) + L ≤ n := by omega
    have h52 : (n : Int) ≤ fc := by omega
    have h53 : 5 + L ≤ n := by omega
    clear hh hL
    obtain ⟨c0, hc0⟩ : ∃ c, c = intOfW (xs.getD 0 0) := ⟨_, rfl⟩
    obtain ⟨c1, hc1⟩ : ∃ c, c = intOfW (xs.getD 1 0) := ⟨_, rfl⟩
    obtain ⟨c2, hc2⟩ : ∃ c, c = intOfW (xs.getD 2 0) := ⟨_, rfl⟩
    obtain ⟨c3, hc3⟩ : ∃ c, c = intOfW (xs.getD 3 0) := ⟨_, rfl⟩
    have hc4 : intOfW (xs.getD 4 0) = L := HLL.out
    unfold NumsTo at HNM
    rw [HHD.out, ← hc0, ← hc1, ← hc2, ← hc3, hc4] at HNM
    have HDM : Hid (decM xs = ⟨c0, c1, c2, c3, (xs.drop 5).take L, (xs.drop (5 + L)).map (fun x => insOf (intOfW x))⟩) := Lib.hid (by unfold decM; rw [HLL.out, Int.toNat_natCast, hc0, hc1, hc2, hc3])
    obtain ⟨o1, p1, HO1, hs1⟩ := slice_from (g := g) h53 hcap
    obtain ⟨o2, p2, HO2, hs2⟩ := slice_part (g := g) (lo := 5) (hi := 5 + L) (by omega) h53 hcap
    have ei : ((5 + L : Nat) : Int) = 5 + (L : Int) := by omega
    have ei5 : ((5 : Nat) : Int) = 5 := rfl
    rw [ei] at hs1 hs2
    rw [ei5] at hs2
    have el1 : 5 + L - 5 = L := by omega
    rw [el1] at hs2
    obtain ⟨N1, hN1⟩ : ∃ N1, N1 = n - (5 + L) := ⟨_, rfl⟩
    rw [← hN1] at hs1
    have HD1 : Hid ((xs.drop (5 + L)).length = N1) := Lib.hid (by rw [hN1, HN.out]; simp)
    have HD2 : Hid (((xs.drop 5).take L).length = L) := Lib.hid (by simp; rw [← HN.out]; omega)
    have HX1 : Hid (∀ W, Fr [] w W → WordsAt W (some ⟨g, o1, none⟩) (xs.drop (5 + L))) := Lib.hid fun W hF => by
      have := words_cut (lo := 5 + L) (m := n - (5 + L)) (o := o1) (HX.out.fr hF (fun _ _ => by simp)) (fun h => HO1.out (by omega))
      rwa [List.take_of_length_le (by simp [HN.out])] at this
    have HX2 : Hid (∀ W, Fr [] w W → WordsAt W (some ⟨g, o2, none⟩) ((xs.drop 5).take L)) := Lib.hid fun W hF => words_cut (lo := 5) (m := L) (o := o2) (HX.out.fr hF (fun _ _ => by simp)) (fun h => HO2.out (by omega))
    have hN1b : N1 ≤ 65536 := by omega
    have hmx' : Tryz.prog.follows .mixedOrders = true := by kernel_rfl
    clear hc0 hc1 hc2 hc3 hc4 ei ei5 el1 hN1 HO1 HO2
    go_enter Tryz.func75, Tryz.ntmps75
    go_wp2_with fail
    refine (HNM.out _ ((Fr.refl _ _).alloc _)).mono ?_
    rintro e w2 ⟨hF2, ⟨-, rfl⟩ | ⟨hx, -⟩⟩
    rotate_left
    · cases hx
    have HB := Lib.hid (hF2.heap (by simp) (heap_new _ _))
    have HF2 : Hid (Fr [] w w2) := ((Fr.refl [] w).alloc _).trans hF2
    clear hF2
    go_wp2_with fail
    have hdc := HDC.out (xs.drop (5 + L)) (w2.alloc (.cells #[.int .i64 c0, .int .i64 c1, .int .i64 c2, .int .i64 c3, .int .i64 (L : Int)] 188)) (some ⟨g, o1, none⟩) p1 (HX1.out _ (HF2.out.alloc _)) (fun x hx => List.mem_of_mem_drop hx) (by rw [HD1.out]; exact hN1b)
    rw [HD1.out] at hdc
    refine hdc.mono ?_
    clear hdc
    rintro e w3 (⟨hall, v, rfl, hrow, hF3, hnew⟩ | ⟨hno, ⟨s, q, rfl⟩, hF3⟩)
    rotate_left
    · have HH : Hid (decOk xs = false) := Lib.hid (by unfold decOk codeOk; rw [HLL.out, Int.toNat_natCast, hno]; simp)
      have HB3 := Lib.hid (hF3.heap (by simp) (((Fr.refl [] w2).alloc _).heap (by simp) HB.out))
      have HF3 : Hid (Fr [] w w3) := (HF2.out.alloc _).trans hF3
      have r0 := cell_of_heap (o := 0) HB3.out rfl; have r1 := cell_of_heap (o := 1) HB3.out rfl; have r2 := cell_of_heap (o := 2) HB3.out rfl; have r3 := cell_of_heap (o := 3) HB3.out rfl; have r4 := cell_of_heap (o := 4) HB3.out rfl; have r5 := cell_of_heap (o := 5) HB3.out rfl
      have f0 := frozen_of_heap (o := 0) HB3.out; have f1 := frozen_of_heap (o := 1) HB3.out; have f2 := frozen_of_heap (o := 2) HB3.out; have f3 := frozen_of_heap (o := 3) HB3.out; have f4 := frozen_of_heap (o := 4) HB3.out; have f5 := frozen_of_heap (o := 5) HB3.out
      clear hF3 hno
      go_wp2_with fail
      (try simp only [Exit.inBlock, Exit.then])
      refine bodyPost_ret (v := .tuple #[.agg #[.int .i64 0, .int .i64 0, .int .i64 0, .int .i64 0, .slice none 0 0, .slice none 0 0], .iface 203 (.agg #[.string s, .int .i64 q])]) ?_ rfl ⟨?_, .inr ⟨HH.out, _, _, rfl⟩⟩
      · rw [results_cell_tmp rfl]
        go_simp
      · (repeat (first | (with_reducible refine Fr.setCell ?_ (fun h => absurd h (Nat.lt_irrefl _)) _) | (with_reducible refine Fr.alloc ?_ _) | (with_reducible refine Fr.drew ?_) | (with_reducible exact HF3.out)))
    · rw [HD1.out] at hrow
      obtain ⟨ca, cc, rfl⟩ := row_shape' hrow
      have HB3 := Lib.hid (hF3.heap (by simp) (((Fr.refl [] w2).alloc _).heap (by simp) HB.out))
      have HD3 := Lib.hid (hF3.heap (by simp) (heap_new w2 _))
      have HF3 : Hid (Fr [] w w3) := (HF2.out.alloc _).trans hF3
      have HROW := Lib.hid hrow
      have HNEW := Lib.hid hnew
      have HALL := Lib.hid hall
      have d0 := cell_of_heap (o := 0) HD3.out rfl; have d1 := cell_of_heap (o := 1) HD3.out rfl; have d2 := cell_of_heap (o := 2) HD3.out rfl; have d3 := cell_of_heap (o := 3) HD3.out rfl; have d4 := cell_of_heap (o := 4) HD3.out rfl
      clear hF3 hrow hnew hall
      have hmt : (decM xs).v = fun la lc ca cc => .agg #[.int .i64 c0, .int .i64 c1, .int .i64 c2, .int .i64 c3, .slice la L lc, .slice ca N1 cc] := by
        funext la lc ca cc
        unfold Mth.v
        rw [HDM.out]
        simp only [List.length_map]
        rw [HD1.out, HD2.out]
      have HCM : Hid (∀ W, Fr [] w3 W → ∀ la lc, Calls Tryz.prog 52 #[.agg #[.int .i64 c0, .int .i64 c1, .int .i64 c2, .int .i64 c3, .slice la L lc, .slice ca N1 cc]] W (Faulty (decM xs).ok W)) := Lib.hid fun W hF la lc => by
        have := checkMethod_at (decM xs) la ca lc cc W (by rw [HDM.out]; exact row_fr (row_rowAt HROW.out) hF)
        rw [hmt] at this
        exact this
      have HNOK : Hid ((decM xs).ok = false → decOk xs = false) := Lib.hid fun h => by unfold decOk; rw [h]; simp
      have HEND : Hid (∀ W7 w6 la lc, Fr [] w3 w6 → Fr [w.heap.size] w6 W7 → ((∃ w4, w4.ownsRow 0 32 1 (.slice la L lc) L (((xs.drop 5).take L).map (Value.int .u64)) ∧ Fr [] w4 w6 ∧ ∀ b, (Value.slice la L lc).ownBlock = some b → w3.heap.size ≤ b)) → (decM xs).ok = true → DecTo xs w (.returned (.tuple #[.agg #[.int .i64 c0, .int .i64 c1, .int .i64 c2, .int .i64 c3, .slice la L lc, .slice ca N1 cc], .nilIface])) W7) := Lib.hid fun W7 w6 la lc hF6 hF7 hla hok => by
        obtain ⟨w4, hrow4, hF46, hnew4⟩ := hla
        have hs3 := HF3.out.size
        have hlt3 : w.heap.size < w3.heap.size := lt_of_heap HB3.out
        have hla' : ∀ a, la = some a → w3.heap.size ≤ a.block := own_new hrow4 hnew4
        have hca' : ∀ a, ca = some a → w.heap.size + 1 ≤ a.block := fun a ha => by
          have h1 := own_new HROW.out HNEW.out a ha
          have h2 := lt_of_heap HB.out
          simp at h1
          omega
        refine ⟨((HF3.out.trans hF6).cons' hF7 (Nat.le_refl _)), .inl ⟨?_, la, lc, ca, cc, by rw [hmt], ?_, fun a ha => ?_, fun a ha => ?_⟩⟩
        · unfold decOk
          rw [HHD.out, hok]
          unfold codeOk
          rw [HLL.out, Int.toNat_natCast, HALL.out]
          rfl
        · refine MAt.fr (w := w6) ⟨?_, fun h => ?_, ?_⟩ hF7 (fun a ha => ?_) (fun a ha => ?_)
          · rw [HDM.out]
            exact (words_row (row_rowAt hrow4)).fr hF46 (fun _ _ => by simp)
          · subst h
            obtain ⟨h1, h2⟩ := own_none hrow4
            refine ⟨h1, ?_⟩
            rw [HDM.out]
            simp only
            rw [h2]
            simp
          · rw [HDM.out]
            exact row_fr (row_rowAt HROW.out) hF6
          · have := hla' a ha
            simp
            omega
          · have := hca' a ha
            simp
            omega
        · have := hla' a ha
          omega
        · have := hca' a ha
          omega
      have HCL : Hid (∀ W, Fr [] w3 W → Calls Tryz.prog 105 #[.slice (some ⟨g, o2, none⟩) L p2] W (Lists 32 1 L (((xs.drop 5).take L).map (Value.int .u64)) W)) := Lib.hid fun W hF => by
        have := clone_some (c := p2) ((xs.drop 5).take L) (HX2.out W (HF3.out.trans hF)) (by rw [HD2.out]; omega)
        rw [HD2.out] at this
        exact this
      clear hmt
      go_wp2_with fail
      refine region_own' (S := fun w' => w'.cell? ⟨w2.heap.size, 0, none⟩ = some (.int .i64 c0) ∧ w'.cell? ⟨w2.heap.size, 1, none⟩ = some (.int .i64 c1) ∧ w'.cell? ⟨w2.heap.size, 2, none⟩ = some (.int .i64 c2) ∧ w'.cell? ⟨w2.heap.size, 3, none⟩ = some (.int .i64 c3)) hmx' ⟨d0, d1, d2, d3⟩ (fun hHeld => ?_)
      (refine wpAnyH_take (i := 0) (oi := ⟨some 33, _, _, _, _, _⟩) (v := ?_) rfl (by kernel_rfl) (by kernel_rfl) (by kernel_rfl) (fun _ _ _ h => h) (Or.inl ⟨by rfl, ?_⟩) (by assumption) ?_); rotate_left; focus (intro w hSw; (try dsimp only at hSw); go_split_ands; go_simp; try with_reducible rfl); (try simp only [Act.put, List.setIfInBounds_toArray, List.set_cons_zero, List.set_cons_succ])
      (refine wpAnyH_take (i := 1) (oi := ⟨some 34, _, _, _, _, _⟩) (v := ?_) rfl (by kernel_rfl) (by kernel_rfl) (by kernel_rfl) (fun _ _ _ h => h) (Or.inl ⟨by rfl, ?_⟩) (by assumption) ?_); rotate_left; focus (intro w hSw; (try dsimp only at hSw); go_split_ands; go_simp; try with_reducible rfl); (try simp only [Act.put, List.setIfInBounds_toArray, List.set_cons_zero, List.set_cons_succ])
      (refine wpAnyH_take (i := 2) (oi := ⟨some 35, _, _, _, _, _⟩) (v := ?_) rfl (by kernel_rfl) (by kernel_rfl) (by kernel_rfl) (fun _ _ _ h => h) (Or.inl ⟨by rfl, ?_⟩) (by assumption) ?_); rotate_left; focus (intro w hSw; (try dsimp only at hSw); go_split_ands; go_simp; try with_reducible rfl); (try simp only [Act.put, List.setIfInBounds_toArray, List.set_cons_zero, List.set_cons_succ])
      (refine wpAnyH_take (i := 3) (oi := ⟨some 36, _, _, _, _, _⟩) (v := ?_) rfl (by kernel_rfl) (by kernel_rfl) (by kernel_rfl) (fun _ _ _ h => h) (Or.inl ⟨by rfl, ?_⟩) (by assumption) ?_); rotate_left; focus (intro w hSw; (try dsimp only at hSw); go_split_ands; go_simp; try with_reducible rfl); (try simp only [Act.put, List.setIfInBounds_toArray, List.set_cons_zero, List.set_cons_succ])
      (refine wpAnyH_take (i := 4) (oi := ⟨some 37, _, _, _, _, _⟩) (v := ?_) rfl (by kernel_rfl) (by kernel_rfl) (by kernel_rfl) (fun _ _ _ h => h) (Or.inl ⟨by rfl, ?_⟩) (by assumption) ?_); rotate_left; focus (intro w hSw; (try dsimp only at hSw); go_split_ands; go_simp; try with_reducible rfl); (try simp only [Act.put, List.setIfInBounds_toArray, List.set_cons_zero, List.set_cons_succ])
      (refine wpAnyH_take (i := 5) (oi := ⟨some 38, _, _, _, _, _⟩) (v := ?_) rfl (by kernel_rfl) (by kernel_rfl) (by kernel_rfl) (fun _ _ _ h => h) (Or.inl ⟨by rfl, ?_⟩) (by assumption) ?_); rotate_left; focus (intro w hSw; (try dsimp only at hSw); go_split_ands; go_simp; try with_reducible rfl); (try simp only [Act.put, List.setIfInBounds_toArray, List.set_cons_zero, List.set_cons_succ])
      (refine wpAnyH_take (i := 6) (oi := ⟨some 39, _, _, _, _, _⟩) (v := ?_) rfl (by kernel_rfl) (by kernel_rfl) (by kernel_rfl) (fun _ _ _ h => h) (Or.inl ⟨by rfl, ?_⟩) (by assumption) ?_); rotate_left; focus (intro w hSw; (try dsimp only at hSw); go_split_ands; go_simp; try with_reducible rfl); (try simp only [Act.put, List.setIfInBounds_toArray, List.set_cons_zero, List.set_cons_succ])
      (refine wpAnyH_take (i := 7) (oi := ⟨some 40, _, _, _, _, _⟩) (v := ?_) rfl (by kernel_rfl) (by kernel_rfl) (by kernel_rfl) (fun _ _ _ h => h) (Or.inl ⟨by rfl, ?_⟩) (by assumption) ?_); rotate_left; focus (intro w hSw; (try dsimp only at hSw); go_split_ands; go_simp; try with_reducible rfl); (try simp only [Act.put, List.setIfInBounds_toArray, List.set_cons_zero, List.set_cons_succ])
      (refine wpAnyH_take (i := 8) (oi := ⟨some 41, _, _, _, _, _⟩) (v := ?_) rfl (by kernel_rfl) (by kernel_rfl) (by kernel_rfl) (fun _ _ _ h => h) (Or.inl ⟨by rfl, ?_⟩) (by assumption) ?_); rotate_left; focus (intro w hSw; (try dsimp only at hSw); go_split_ands; go_simp; try with_reducible rfl); (try simp only [Act.put, List.setIfInBounds_toArray, List.set_cons_zero, List.set_cons_succ])
      (refine wpAnyH_take (i := 9) (oi := ⟨some 42, _, _, _, _, _⟩) (v := ?_) rfl (by kernel_rfl) (by kernel_rfl) (by kernel_rfl) (fun _ _ _ h => h) (Or.inl ⟨by rfl, ?_⟩) (by assumption) ?_); rotate_left; focus (intro w hSw; (try dsimp only at hSw); go_split_ands; go_simp; try with_reducible rfl); (try simp only [Act.put, List.setIfInBounds_toArray, List.set_cons_zero, List.set_cons_succ])
      (refine wpAnyH_take (i := 10) (oi := ⟨some 43, _, _, _, _, _⟩) (v := ?_) rfl (by kernel_rfl) (by kernel_rfl) (by kernel_rfl) (fun _ _ _ h => h) (Or.inl ⟨by rfl, ?_⟩) (by assumption) ?_); rotate_left; focus (intro w hSw; (try dsimp only at hSw); go_split_ands; go_simp; try with_reducible rfl); (try simp only [Act.put, List.setIfInBounds_toArray, List.set_cons_zero, List.set_cons_succ])
      (refine wpAnyH_take (i := 12) (oi := ⟨some 45, _, _, _, _, _⟩) (v := ?_) rfl (by kernel_rfl) (by kernel_rfl) (by kernel_rfl) (fun _ _ _ h => h) (Or.inl ⟨by rfl, ?_⟩) (by assumption) ?_); rotate_left; focus (intro w hSw; (try dsimp only at hSw); go_split_ands; go_simp; try with_reducible rfl); (try simp only [Act.put, List.setIfInBounds_toArray, List.set_cons_zero, List.set_cons_succ])
      refine wpAnyH_ready (rs := [11, 14]) (by kernel_rfl) (by simp) ?_
      refine AllReadyH.cons rfl (fun K hK => ?_) (AllReadyH.cons rfl (fun K hK => ?_) AllReadyH.nil)
      · go_simp
        refine (HCL.out w3.drew (Fr.refl [] w3).drew).mono ?_
        rintro e w4 ⟨v, rfl, hrow4, hF4, hnew4⟩
        obtain ⟨la, lc, rfl⟩ := row_shape hrow4
        have HF4 : Hid (Fr [] w3 w4) := (Fr.refl [] w3).drew.trans hF4
        have HR4 := Lib.hid hrow4
        have HN4 := Lib.hid hnew4
        refine hK.out _ _ ⟨HF4.out.cell (by simp) d0, HF4.out.cell (by simp) d1, HF4.out.cell (by simp) d2, HF4.out.cell (by simp) d3⟩ (fun hHeld2 => ?_)
        clear hK hrow4 hF4 hnew4
        (refine wpAnyH_take (i := 13) (oi := ⟨some 46, _, _, _, _, _⟩) (v := ?_) rfl (by kernel_rfl) (by kernel_rfl) (by kernel_rfl) (fun _ _ _ h => h) (Or.inl ⟨by rfl, ?_⟩) (by assumption) ?_); rotate_left; focus (intro w hSw; (try dsimp only at hSw); go_split_ands; go_simp; try with_reducible rfl); (try simp only [Act.put, List.setIfInBounds_toArray, List.set_cons_zero, List.set_cons_succ])
        (refine wpAnyH_ready (rs := [14]) (by kernel_rfl) (by simp) ?_; refine AllReadyH.cons rfl (fun K hK => ?_) AllReadyH.nil); go_simp
        refine hK.out _ _ ⟨(HF4.out.alloc _).cell (by simp) d0, (HF4.out.alloc _).cell (by simp) d1, (HF4.out.alloc _).cell (by simp) d2, (HF4.out.alloc _).cell (by simp) d3⟩ (fun hHeld3 => ?_)
        clear hK
        (refine wpAnyH_ready (rs := [15]) (by kernel_rfl) (by simp) ?_; refine AllReadyH.cons rfl (fun K hK => ?_) AllReadyH.nil); go_simp
        refine hK.out _ _ ⟨(HF4.out.alloc _).cell (by simp) d0, (HF4.out.alloc _).cell (by simp) d1, (HF4.out.alloc _).cell (by simp) d2, (HF4.out.alloc _).cell (by simp) d3⟩ (fun hHeld4 => ?_)
        clear hK
        refine wpAnyH_done (by kernel_rfl) (Norm.mk ?_) _
        clear hHeld hHeld2 hHeld3 hHeld4
        go_wp2_with fail
        refine (HCM.out _ (HF4.out.alloc _) la lc).mono ?_
        rintro e w6 ⟨hF6, ⟨hok, rfl⟩ | ⟨hok, s, q, rfl⟩⟩
        · have HB6 := Lib.hid (hF6.heap (by simp) ((heap_new w4 _)))
          have HF6 : Hid (Fr [] w3 w6) := Fr.trans ((HF4.out.alloc _)) hF6
          have HF46 : Hid (Fr [] w4 w6) := ((Fr.refl [] w4).alloc _).trans hF6
          have HRB := Lib.hid (HF6.out.heap (by simp) HB3.out)
          have HOK := Lib.hid hok
          have m0 := cell_of_heap (o := 0) HB6.out rfl; have m1 := cell_of_heap (o := 1) HB6.out rfl; have m2 := cell_of_heap (o := 2) HB6.out rfl; have m3 := cell_of_heap (o := 3) HB6.out rfl; have m4 := cell_of_heap (o := 4) HB6.out rfl; have m5 := cell_of_heap (o := 5) HB6.out rfl
          have r0 := cell_of_heap (o := 0) HRB.out rfl; have r1 := cell_of_heap (o := 1) HRB.out rfl; have r2 := cell_of_heap (o := 2) HRB.out rfl; have r3 := cell_of_heap (o := 3) HRB.out rfl; have r4 := cell_of_heap (o := 4) HRB.out rfl; have r5 := cell_of_heap (o := 5) HRB.out rfl
          have f0 := frozen_of_heap (o := 0) HRB.out; have f1 := frozen_of_heap (o := 1) HRB.out; have f2 := frozen_of_heap (o := 2) HRB.out; have f3 := frozen_of_heap (o := 3) HRB.out; have f4 := frozen_of_heap (o := 4) HRB.out; have f5 := frozen_of_heap (o := 5) HRB.out
          clear hF6 hok
          go_wp2_with fail
          (try simp only [Exit.inBlock, Exit.then])
          refine bodyPost_ret (v := .tuple #[.agg #[.int .i64 c0, .int .i64 c1, .int .i64 c2, .int .i64 c3, .slice la L lc, .slice ca N1 cc], .nilIface]) ?_ rfl (HEND.out _ w6 la lc HF6.out ?_ ⟨w4, HR4.out, HF46.out, HN4.out⟩ HOK.out)
          · rw [results_cell_tmp rfl]
            go_simp
          · (repeat (first | (with_reducible refine Fr.setCell ?_ (fun _ => by simp) _) | (with_reducible exact Fr.refl _ _)))
        · have HF6 : Hid (Fr [] w3 w6) := Fr.trans ((HF4.out.alloc _)) hF6
          have HRB := Lib.hid (HF6.out.heap (by simp) HB3.out)
          have HOK := Lib.hid (HNOK.out hok)
          have HFW := Lib.hid (HF3.out.trans HF6.out)
          have r0 := cell_of_heap (o := 0) HRB.out rfl; have r1 := cell_of_heap (o := 1) HRB.out rfl; have r2 := cell_of_heap (o := 2) HRB.out rfl; have r3 := cell_of_heap (o := 3) HRB.out rfl; have r4 := cell_of_heap (o := 4) HRB.out rfl; have r5 := cell_of_heap (o := 5) HRB.out rfl
          have f0 := frozen_of_heap (o := 0) HRB.out; have f1 := frozen_of_heap (o := 1) HRB.out; have f2 := frozen_of_heap (o := 2) HRB.out; have f3 := frozen_of_heap (o := 3) HRB.out; have f4 := frozen_of_heap (o := 4) HRB.out; have f5 := frozen_of_heap (o := 5) HRB.out
          clear hF6 hok
          go_wp2_with fail
          (try simp only [Exit.inBlock, Exit.then])
          refine bodyPost_ret (v := .tuple #[.agg #[.int .i64 0, .int .i64 0, .int .i64 0, .int .i64 0, .slice none 0 0, .slice none 0 0], .iface 203 (.agg #[.string s, .int .i64 q])]) ?_ rfl ⟨?_, .inr ⟨HOK.out, _, _, rfl⟩⟩
          · rw [results_cell_tmp rfl]
            go_simp
          · (repeat (first | (with_reducible refine Fr.setCell ?_ (fun h => absurd h (Nat.lt_irrefl _)) _) | (with_reducible refine Fr.alloc ?_ _) | (with_reducible refine Fr.drew ?_) | (with_reducible exact HFW.out)))
      · go_simp
        have HF3a : Hid (Fr [] w3 (w3.drew.alloc (.cells #[.int .i64 0, .int .i64 0, .int .i64 0, .int .i64 0, .slice none 0 0, .slice none 0 0] 25))) := (Fr.refl [] w3).drew.alloc _
        refine hK.out _ _ ⟨(HF3a.out).cell (by simp) d0, (HF3a.out).cell (by simp) d1, (HF3a.out).cell (by simp) d2, (HF3a.out).cell (by simp) d3⟩ (fun hHeld2 => ?_)
        clear hK
        (refine wpAnyH_ready (rs := [11]) (by kernel_rfl) (by simp) ?_; refine AllReadyH.cons rfl (fun K hK => ?_) AllReadyH.nil); go_simp
        refine (HCL.out (w3.drew.alloc (.cells #[.int .i64 0, .int .i64 0, .int .i64 0, .int .i64 0, .slice none 0 0, .slice none 0 0] 25)) HF3a.out).mono ?_
        rintro e w4 ⟨v, rfl, hrow4, hF4, hnew4⟩
        obtain ⟨la, lc, rfl⟩ := row_shape hrow4
        have HF4 : Hid (Fr [] w3 w4) := HF3a.out.trans hF4
        have HR4 := Lib.hid hrow4
        have HN4 : Hid (∀ b, (Value.slice la L lc).ownBlock = some b → w3.heap.size + 1 ≤ b) := Lib.hid fun b hb => by
          have := hnew4 b hb
          simpa using this
        have HZ4 : Hid (w4.heap[w3.heap.size]? = some (.cells #[.int .i64 0, .int .i64 0, .int .i64 0, .int .i64 0, .slice none 0 0, .slice none 0 0] 25 (0, 0))) := hF4.heap (by simp) (heap_new w3.drew _)
        refine hK.out _ _ ⟨(HF4.out).cell (by simp) d0, (HF4.out).cell (by simp) d1, (HF4.out).cell (by simp) d2, (HF4.out).cell (by simp) d3⟩ (fun hHeld3 => ?_)
        clear hK hrow4 hF4 hnew4
        (refine wpAnyH_take (i := 13) (oi := ⟨some 46, _, _, _, _, _⟩) (v := ?_) rfl (by kernel_rfl) (by kernel_rfl) (by kernel_rfl) (fun _ _ _ h => h) (Or.inl ⟨by rfl, ?_⟩) (by assumption) ?_); rotate_left; focus (intro w hSw; (try dsimp only at hSw); go_split_ands; go_simp; try with_reducible rfl); (try simp only [Act.put, List.setIfInBounds_toArray, List.set_cons_zero, List.set_cons_succ])
        have z0 := cell_of_heap (o := 0) HZ4.out rfl; have z1 := cell_of_heap (o := 1) HZ4.out rfl; have z2 := cell_of_heap (o := 2) HZ4.out rfl; have z3 := cell_of_heap (o := 3) HZ4.out rfl; have z4 := cell_of_heap (o := 4) HZ4.out rfl; have z5 := cell_of_heap (o := 5) HZ4.out rfl
        have y0 := frozen_of_heap (o := 0) HZ4.out; have y1 := frozen_of_heap (o := 1) HZ4.out; have y2 := frozen_of_heap (o := 2) HZ4.out; have y3 := frozen_of_heap (o := 3) HZ4.out; have y4 := frozen_of_heap (o := 4) HZ4.out; have y5 := frozen_of_heap (o := 5) HZ4.out
        have hltz : w2.heap.size < w3.heap.size := lt_of_heap HD3.out
        have hnez : w2.heap.size ≠ w3.heap.size := by omega
        have e0 := HF4.out.cell (by simp) d0
        have e1 := HF4.out.cell (by simp) d1
        have e2 := HF4.out.cell (by simp) d2
        have e3 := HF4.out.cell (by simp) d3
        (refine wpAnyH_ready (rs := [15]) (by kernel_rfl) (by simp) ?_; refine AllReadyH.cons rfl (fun K hK => ?_) AllReadyH.nil); go_simp
        refine hK.out _ _ (by go_simp) (fun hHeld4 => ?_)
        clear hK hHeld hHeld2 hHeld3 hHeld4 z0 z1 z2 z3 z4 z5 y0 y1 y2 y3 y4 y5 e0 e1 e2 e3 hnez hltz
        refine wpAnyH_done (by kernel_rfl) (Norm.mk ?_) _
        obtain ⟨W5, hW5⟩ : ∃ W5, W5 = ((((((w4.setCell ⟨w3.heap.size, 0, none⟩ (.int .i64 c0)).setCell ⟨w3.heap.size, 1, none⟩ (.int .i64 c1)).setCell ⟨w3.heap.size, 2, none⟩ (.int .i64 c2)).setCell ⟨w3.heap.size, 3, none⟩ (.int .i64 c3)).setCell ⟨w3.heap.size, 4, none⟩ (.slice la L lc)).setCell ⟨w3.heap.size, 5, none⟩ (.slice ca N1 cc)) := ⟨_, rfl⟩
        have HF5 : Hid (Fr [] w3 W5) := by rw [hW5]; exact six_fr HF4.out _ _ _ _ _ _
        have HB5 : Hid (W5.heap[w3.heap.size]? = some (.cells #[.int .i64 c0, .int .i64 c1, .int .i64 c2, .int .i64 c3, .slice la L lc, .slice ca N1 cc] 25 (0, 0))) := by rw [hW5]; exact six_set HZ4.out
        have HR5 : Hid (W5.ownsRow 0 32 1 (.slice la L lc) L (((xs.drop 5).take L).map (Value.int .u64))) := by rw [hW5]; exact Fr.row (six_frS w3 w4 _ _ _ _ _ _) HR4.out (fun k hk => by have := HN4.out k hk; simp; omega)
        have j0 := cell_of_heap (o := 0) HB5.out rfl; have j1 := cell_of_heap (o := 1) HB5.out rfl; have j2 := cell_of_heap (o := 2) HB5.out rfl; have j3 := cell_of_heap (o := 3) HB5.out rfl; have j4 := cell_of_heap (o := 4) HB5.out rfl; have j5 := cell_of_heap (o := 5) HB5.out rfl
        rw [← hW5]
        clear hW5
        go_wp2_with fail
        refine (HCM.out _ HF5.out la lc).mono ?_
        rintro e w6 ⟨hF6, ⟨hok, rfl⟩ | ⟨hok, s, q, rfl⟩⟩
        · have HB6 := Lib.hid (hF6.heap (by simp) (HB5.out))
          have HF6 : Hid (Fr [] w3 w6) := Fr.trans (HF5.out) hF6
          have HRW6 : Hid (w6.ownsRow 0 32 1 (.slice la L lc) L (((xs.drop 5).take L).map (Value.int .u64))) := hF6.row HR5.out (fun _ _ => by simp)
          have HN46 : Hid (∀ b, (Value.slice la L lc).ownBlock = some b → w3.heap.size ≤ b) := Lib.hid fun b hb => by have := HN4.out b hb; omega
          have HRB := Lib.hid (HF6.out.heap (by simp) HB3.out)
          have HOK := Lib.hid hok
          have m0 := cell_of_heap (o := 0) HB6.out rfl; have m1 := cell_of_heap (o := 1) HB6.out rfl; have m2 := cell_of_heap (o := 2) HB6.out rfl; have m3 := cell_of_heap (o := 3) HB6.out rfl; have m4 := cell_of_heap (o := 4) HB6.out rfl; have m5 := cell_of_heap (o := 5) HB6.out rfl
          have r0 := cell_of_heap (o := 0) HRB.out rfl; have r1 := cell_of_heap (o := 1) HRB.out rfl; have r2 := cell_of_heap (o := 2) HRB.out rfl; have r3 := cell_of_heap (o := 3) HRB.out rfl; have r4 := cell_of_heap (o := 4) HRB.out rfl; have r5 := cell_of_heap (o := 5) HRB.out rfl
          have f0 := frozen_of_heap (o := 0) HRB.out; have f1 := frozen_of_heap (o := 1) HRB.out; have f2 := frozen_of_heap (o := 2) HRB.out; have f3 := frozen_of_heap (o := 3) HRB.out; have f4 := frozen_of_heap (o := 4) HRB.out; have f5 := frozen_of_heap (o := 5) HRB.out
          clear hF6 hok
          go_wp2_with fail
          (try simp only [Exit.inBlock, Exit.then])
          refine bodyPost_ret (v := .tuple #[.agg #[.int .i64 c0, .int .i64 c1, .int .i64 c2, .int .i64 c3, .slice la L lc, .slice ca N1 cc], .nilIface]) ?_ rfl (HEND.out _ w6 la lc HF6.out ?_ ⟨w6, HRW6.out, Fr.refl _ _, HN46.out⟩ HOK.out)
          · rw [results_cell_tmp rfl]
            go_simp
          · (repeat (first | (with_reducible refine Fr.setCell ?_ (fun _ => by simp) _) | (with_reducible exact Fr.refl _ _)))
        · have HF6 : Hid (Fr [] w3 w6) := Fr.trans (HF5.out) hF6
          have HRB := Lib.hid (HF6.out.heap (by simp) HB3.out)
          have HOK := Lib.hid (HNOK.out hok)
          have HFW := Lib.hid (HF3.out.trans HF6.out)
          have r0 := cell_of_heap (o := 0) HRB.out rfl; have r1 := cell_of_heap (o := 1) HRB.out rfl; have r2 := cell_of_heap (o := 2) HRB.out rfl; have r3 := cell_of_heap (o := 3) HRB.out rfl; have r4 := cell_of_heap (o := 4) HRB.out rfl; have r5 := cell_of_heap (o := 5) HRB.out rfl
          have f0 := frozen_of_heap (o := 0) HRB.out; have f1 := frozen_of_heap (o := 1) HRB.out; have f2 := frozen_of_heap (o := 2) HRB.out; have f3 := frozen_of_heap (o := 3) HRB.out; have f4 := frozen_of_heap (o := 4) HRB.out; have f5 := frozen_of_heap (o := 5) HRB.out
          clear hF6 hok
          go_wp2_with fail
          (try simp only [Exit.inBlock, Exit.then])
          refine bodyPost_ret (v := .tuple #[.agg #[.int .i64 0, .int .i64 0, .int .i64 0, .int .i64 0, .slice none 0 0, .slice none 0 0], .iface 203 (.agg #[.string s, .int .i64 q])]) ?_ rfl ⟨?_, .inr ⟨HOK.out, _, _, rfl⟩⟩
          · rw [results_cell_tmp rfl]
            go_simp
          · (repeat (first | (with_reducible refine Fr.setCell ?_ (fun h => absurd h (Nat.lt_irrefl _)) _) | (with_reducible refine Fr.alloc ?_ _) | (with_reducible refine Fr.drew ?_) | (with_reducible exact HFW.out)))
end Go.Proofs.YtjghgambieflaaaGreatDoor
namespace Go.Proofs.YtjghgambieflaaaGreatDoor
open Go.RowKit

/-- a method of its own, or the zero method and ErrMethod -/
def ReadTo (ok : Bool) (m : Mth) (w : World) (e : Ending) (w' : World) : Prop := Fr [] w w' ∧ ((ok = true ∧ ∃ la lc ca cc, e = .returned (.tuple #[m.v la lc ca cc, .int .i64 0]) ∧ MAt w' m la lc ca ∧ (∀ a, la = some a → w.heap.size ≤ a.block) ∧ ∀ a, ca = some a → w.heap.size ≤ a.block) ∨ (ok = false ∧ e = .returned (.tuple #[.agg #[.int .i64 0, .int .i64 0, .int .i64 0, .int .i64 0, .slice none 0 0, .slice none 0 0], .int .i64 4])))
set_option maxRecDepth 100000 in
set_option maxHeartbeats 1600000 in
theorem read_no {W : World} {hv : Value} {m : Mem} {wv sv : Value} (hO : ∀ W', Fr [] W W' → ∃ mb, Opens hv mb m wv sv W') (x : Int) (hx : WB x) (hst : stB m.M x = false) (m' : Mth) : Calls Tryz.prog 39 #[hv, .int .u64 x] W (ReadTo false m' W) := by
  have HHS : Hid (∀ W', Fr [] W W' → Calls Tryz.prog 74 #[hv, .int .u64 x] W' (Still (.bool false) W')) := Lib.hid fun W' hF => by
    obtain ⟨mb', h⟩ := hO W' hF
    have := has_still h x hx.1 hx.2
    rw [hst] at this
    exact this
  clear hO hst
  go_enter Tryz.func39, Tryz.ntmps39
  go_wp2_with fail
  refine (HHS.out _ ((Fr.refl _ _).alloc _)).mono ?_
  rintro e w2 ⟨rfl, hF2⟩
  have HB := Lib.hid (hF2.heap (by simp) (heap_new _ _))
  have HF2 : Hid (Fr [] W w2) := ((Fr.refl [] W).alloc _).trans hF2
  have r0 := cell_of_heap (o := 0) HB.out rfl; have r1 := cell_of_heap (o := 1) HB.out rfl; have r2 := cell_of_heap (o := 2) HB.out rfl; have r3 := cell_of_heap (o := 3) HB.out rfl; have r4 := cell_of_heap (o := 4) HB.out rfl; have r5 := cell_of_heap (o := 5) HB.out rfl
  have f0 := frozen_of_heap (o := 0) HB.out; have f1 := frozen_of_heap (o := 1) HB.out; have f2 := frozen_of_heap (o := 2) HB.out; have f3 := frozen_of_heap (o := 3) HB.out; have f4 := frozen_of_heap (o := 4) HB.out; have f5 := frozen_of_heap (o := 5) HB.out
  clear hF2
  go_wp2_with fail
  (try simp only [Exit.inBlock, Exit.then])
  refine bodyPost_ret (v := .tuple #[.agg #[.int .i64 0, .int .i64 0, .int .i64 0, .int .i64 0, .slice none 0 0, .slice none 0 0], .int .i64 4]) ?_ rfl ⟨?_, .inr ⟨rfl, rfl⟩⟩
  · rw [results_cell_tmp rfl]
    go_simp
  · (repeat (first | (with_reducible refine Fr.setCell ?_ (fun h => absurd h (Nat.lt_irrefl _)) _) | (with_reducible refine Fr.alloc ?_ _) | (with_reducible refine Fr.drew ?_) | (with_reducible exact HF2.out)))
set_option maxRecDepth 100000 in
set_option maxHeartbeats 1600000 in
theorem read_at {W : World} {hb mb : Nat} {lim root hashes : Int} {pre post : List Ob} {o : Ob} {wv sv : Value} (hE : Field W) (hI : OInv lim (pre ++ o :: post) hashes) (hH : HeapAt W hb mb (absMem lim (pre ++ o :: post) root hashes) wv sv) : Calls Tryz.prog 39 #[.pointer (some ⟨hb, 0, none⟩), .int .u64 (2 * (endOf pre : Int))] W (ReadTo (decOk o.2.2) (decM o.2.2) W) := by
  have hp := endOf_pos pre
  have hq := endOf_lt pre post o
  have hfit := hI.fit
  have hl2 := hI.l2
  have HHS : Hid (∀ W', Fr [] W W' → Calls Tryz.prog 74 #[.pointer (some ⟨hb, 0, none⟩), .int .u64 (2 * (endOf pre : Int))] W' (Still (.bool true) W')) := Lib.hid fun W' hF => by
    have := has_still (memory_at (hH.fr hF (by simp) (fun _ _ => by simp))) (2 * (endOf pre : Int)) (by omega) (by omega)
    rw [stB_mk (M := (absMem lim (pre ++ o :: post) root hashes).M) hp (by omega) abs_mark] at this
    exact this
  have HFO := Lib.hid (fun W' (hF : Fr [] W W') => fieldsOf_at hI (hH.fr hF (by simp) (fun _ _ => by simp)))
  have HWB := Lib.hid ((hI.bd o (by simp)).2)
  have hnb : o.2.2.length ≤ 65536 := by omega
  obtain ⟨xs, hxs⟩ : ∃ xs, xs = o.2.2 := ⟨_, rfl⟩
  rw [← hxs] at HFO HWB hnb ⊢
  have HDE := Lib.hid (fun W' fa fc hr => decoded_at (w := W') (fa := fa) (fc := fc) xs hr HWB.out hnb)
  obtain ⟨x, hx⟩ : ∃ x, x = 2 * (endOf pre : Int) := ⟨_, rfl⟩
  rw [← hx] at HHS HFO ⊢
  obtain ⟨eb, heb⟩ := hE
  have HEB := Lib.hid heb
  obtain ⟨n, hn⟩ : ∃ n, n = xs.length := ⟨_, rfl⟩
  rw [← hn] at HFO HDE
  have hx1 : 0 ≤ x := by omega
  have hx2 : x ≤ 18446744073709551615 := by omega
  clear hI hH hp hq hfit hl2 hxs hx hn heb hnb HWB
  go_enter Tryz.func39, Tryz.ntmps39
  go_wp2_with fail
  refine (HHS.out _ ((Fr.refl _ _).alloc _)).mono ?_
  rintro e w2 ⟨rfl, hF2⟩
  have HB := Lib.hid (hF2.heap (by simp) (heap_new _ _))
  have HF2 : Hid (Fr [] W w2) := ((Fr.refl [] W).alloc _).trans hF2
  clear hF2
  go_wp2_with fail
  refine (HFO.out _ HF2.out).mono ?_
  rintro e w3 ⟨v, rfl, hrow, hF3, hnew⟩
  obtain ⟨fa, fc, rfl⟩ := row_shape hrow
  have HB3 := Lib.hid (hF3.heap (by simp) HB.out)
  have HF3 : Hid (Fr [] W w3) := HF2.out.trans hF3
  have hde := HDE.out w3 fa fc hrow
  clear hrow hF3 hnew
  go_wp2_with fail
  refine hde.mono ?_
  clear hde
  rintro e w4 ⟨hF4, ⟨hok, la, lc, ca, cc, rfl, hM, hla, hca⟩ | ⟨hok, s, q, rfl⟩⟩
  · have HB4 := Lib.hid (hF4.heap (by simp) HB3.out)
    have HF4 : Hid (Fr [] W w4) := HF3.out.trans hF4
    have HOK := Lib.hid hok
    have HM := Lib.hid hM
    have hs3 : W.heap.size + 1 ≤ w3.heap.size := lt_of_heap HB3.out
    have HLA : Hid (∀ a, la = some a → W.heap.size + 1 ≤ a.block) := Lib.hid fun a ha => by have := hla a ha; omega
    have HCA : Hid (∀ a, ca = some a → W.heap.size + 1 ≤ a.block) := Lib.hid fun a ha => by have := hca a ha; omega
    obtain ⟨m, hm⟩ : ∃ m, m = decM xs := ⟨_, rfl⟩
    rw [← hm] at HM
    have HMM := Lib.hid hm
    rw [← hm]
    have ke : ∀ ob, (w4.alloc ob).cell? ⟨2, 0, none⟩ = some (.iface 224 (.pointer (some eb))) := fun ob => (HF4.out.alloc ob).cell (by simp) HEB.out
    clear hF4 hok hM hla hca hs3 hm
    unfold Mth.v
    go_wp2_with fail
    refine (is_nil eb _).mono ?_
    rintro e w5 ⟨rfl, hF5⟩
    have HBX := Lib.hid (hF5.heap (by simp) (heap_new w4 _))
    have HRB := Lib.hid (hF5.heap (by simp) (((Fr.refl [] w4).alloc _).heap (by simp) HB4.out))
    have HF5 : Hid (Fr [] W w5) := (HF4.out.alloc _).trans hF5
    have HM5 : Hid (MAt w5 m la lc ca) := HM.out.fr0 (((Fr.refl [] w4).alloc _).trans hF5)
    have m0 := cell_of_heap (o := 0) HBX.out rfl; have m1 := cell_of_heap (o := 1) HBX.out rfl; have m2 := cell_of_heap (o := 2) HBX.out rfl; have m3 := cell_of_heap (o := 3) HBX.out rfl; have m4 := cell_of_heap (o := 4) HBX.out rfl; have m5 := cell_of_heap (o := 5) HBX.out rfl
    have r0 := cell_of_heap (o := 0) HRB.out rfl; have r1 := cell_of_heap (o := 1) HRB.out rfl; have r2 := cell_of_heap (o := 2) HRB.out rfl; have r3 := cell_of_heap (o := 3) HRB.out rfl; have r4 := cell_of_heap (o := 4) HRB.out rfl; have r5 := cell_of_heap (o := 5) HRB.out rfl
    have f0 := frozen_of_heap (o := 0) HRB.out; have f1 := frozen_of_heap (o := 1) HRB.out; have f2 := frozen_of_heap (o := 2) HRB.out; have f3 := frozen_of_heap (o := 3) HRB.out; have f4 := frozen_of_heap (o := 4) HRB.out; have f5 := frozen_of_heap (o := 5) HRB.out
    clear hF5 ke
    go_wp2_with fail
    (try simp only [Exit.inBlock, Exit.then])
    refine bodyPost_ret (v := .tuple #[m.v la lc ca cc, .int .i64 0]) ?_ rfl ⟨?_, .inl ⟨HOK.out, la, lc, ca, cc, by rw [HMM.out], ?_, fun a ha => by have := HLA.out a ha; omega, fun a ha => by have := HCA.out a ha; omega⟩⟩
    · rw [results_cell_tmp rfl]
      unfold Mth.v
      go_simp
    · (repeat (first | (with_reducible refine Fr.setCell ?_ (fun h => absurd h (Nat.lt_irrefl _)) _) | (with_reducible refine Fr.alloc ?_ _) | (with_reducible refine Fr.drew ?_) | (with_reducible exact HF5.out)))
    · rw [← HMM.out]
      refine MAt.fr (S := [W.heap.size]) HM5.out ?_ (fun a ha => by have := HLA.out a ha; simp; omega) (fun a ha => by have := HCA.out a ha; simp; omega)
      (repeat (first | (with_reducible refine Fr.setCell ?_ (fun _ => by simp) _) | (with_reducible exact Fr.refl _ _)))
  · have HB4 := Lib.hid (hF4.heap (by simp) HB3.out)
    have HF4 : Hid (Fr [] W w4) := HF3.out.trans hF4
    have HOK := Lib.hid hok
    have ke := (HF4.out.alloc (.cells #[.int .i64 0, .int .i64 0, .int .i64 0, .int .i64 0, .slice none 0 0, .slice none 0 0] 25)).cell (by simp) HEB.out
    clear hF4 hok
    go_wp2_with fail
    refine (is_fault s q eb _ ke).mono ?_
    rintro e w5 ⟨rfl, hF5⟩
    have HRB := Lib.hid (hF5.heap (by simp) (((Fr.refl [] w4).alloc _).heap (by simp) HB4.out))
    have HF5 : Hid (Fr [] W w5) := (HF4.out.alloc _).trans hF5
    have r0 := cell_of_heap (o := 0) HRB.out rfl; have r1 := cell_of_heap (o := 1) HRB.out rfl; have r2 := cell_of_heap (o := 2) HRB.out rfl; have r3 := cell_of_heap (o := 3) HRB.out rfl; have r4 := cell_of_heap (o := 4) HRB.out rfl; have r5 := cell_of_heap (o := 5) HRB.out rfl
    have f0 := frozen_of_heap (o := 0) HRB.out; have f1 := frozen_of_heap (o := 1) HRB.out; have f2 := frozen_of_heap (o := 2) HRB.out; have f3 := frozen_of_heap (o := 3) HRB.out; have f4 := frozen_of_heap (o := 4) HRB.out; have f5 := frozen_of_heap (o := 5) HRB.out
    clear hF5 ke
    go_wp2_with fail
    (try simp only [Exit.inBlock, Exit.then])
    refine bodyPost_ret (v := .tuple #[.agg #[.int .i64 0, .int .i64 0, .int .i64 0, .int .i64 0, .slice none 0 0, .slice none 0 0], .int .i64 4]) ?_ rfl ⟨?_, .inr ⟨HOK.out, rfl⟩⟩
    · rw [results_cell_tmp rfl]
      go_simp
    · (repeat (first | (with_reducible refine Fr.setCell ?_ (fun h => absurd h (Nat.lt_irrefl _)) _) | (with_reducible refine Fr.alloc ?_ _) | (with_reducible refine Fr.drew ?_) | (with_reducible exact HF5.out)))
end Go.Proofs.YtjghgambieflaaaGreatDoor
