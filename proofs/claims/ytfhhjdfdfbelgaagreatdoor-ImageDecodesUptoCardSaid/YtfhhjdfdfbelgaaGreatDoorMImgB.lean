/- What the reader of an image does: number, readNumbers. What readers of an image do: readNumbers, readObject. image.readObject: one object. image.readObjects: a list of objects. -/
import Derived.Test.YtfhhjdfdfbelgaaGreatDoorMImgA
import Derived.Test.YtfhhjdfdfbelgaaGreatDoorMLists
import Derived.Test.YtfhhjdfdfbelgaaGreatDoorMLoading
import Derived.Test.YtfhhjdfdfbelgaaGreatDoorMCodeA
import Derived.Test.YtfhhjdfdfbelgaaGreatDoorMRLoads
import Derived.Laws.ResultCell
namespace Go.Proofs.YtfhhjdfdfbelgaaGreatDoor
open Go.RowKit

/-- bytes that lie in a row -/
def BytesAt (w : World) (ao : Option Addr) (bs : List Int) : Prop := ∀ i x, bs[i]? = some x → ∃ g o, ao = some ⟨g, o, none⟩ ∧ w.cell? ⟨g, o + i, none⟩ = some (.int .u8 x)
theorem BytesAt.fr {S : List Nat} {w w' : World} {ao : Option Addr} {bs : List Int} (h : BytesAt w ao bs) (hF : Fr S w w') (hS : ∀ a, ao = some a → a.block ∉ S) : BytesAt w' ao bs := by
  intro i x hx
  obtain ⟨g, o, rfl, hc⟩ := h i x hx
  exact ⟨g, o, rfl, hF.cell (hS ⟨g, o, none⟩ rfl) hc⟩
theorem BytesAt.drop {w : World} {g o : Nat} {bs : List Int} (h : BytesAt w (some ⟨g, o, none⟩) bs) (k : Nat) : BytesAt w (some ⟨g, o + k, none⟩) (bs.drop k) := by
  intro i x hx
  rw [List.getElem?_drop] at hx
  obtain ⟨g', o', e, hc⟩ := h _ x hx
  cases e
  exact ⟨g, o + k, rfl, by rw [Nat.add_assoc]; exact hc⟩
/-- a reader at block rb that has bs left -/
structure ReadAt (w : World) (rb : Nat) (bs : List Int) : Prop where
  ex : ∃ ao cap, w.heap[rb]? = some (.cells #[.slice ao bs.length cap] 98 (0, 0)) ∧ BytesAt w ao bs ∧ bs.length ≤ cap ∧ ∀ a, ao = some a → a.block < rb
  byte : ∀ x ∈ bs, B x
theorem ReadAt.fr {S : List Nat} {w w' : World} {rb : Nat} {bs : List Int} (h : ReadAt w rb bs) (hF : Fr S w w') (hS : ∀ k ∈ S, rb < k) : ReadAt w' rb bs := by
  obtain ⟨ao, cap, h1, h2, h3, h4⟩ := h.ex
  exact ⟨⟨ao, cap, hF.heap (fun e => Nat.lt_irrefl _ (hS _ e)) h1, h2.fr hF (fun a ha e => by have := hS _ e; have := h4 a ha; omega), h3, h4⟩, h.byte⟩
theorem ReadAt.still {w w' : World} {rb : Nat} {bs : List Int} (h : ReadAt w rb bs) (hF : Fr [] w w') : ReadAt w' rb bs := h.fr hF (fun _ h => by cases h)
theorem ReadAt.lt {w : World} {rb : Nat} {bs : List Int} (h : ReadAt w rb bs) : rb < w.heap.size := by
  obtain ⟨ao, cap, h1, -⟩ := h.ex
  exact lt_of_heap h1
/-- the two errors -/
structure IErrs (w : World) (bT bF : Addr) : Prop where
  t : w.cell? ⟨0, 0, none⟩ = some (.iface 185 (.pointer (some bT)))
  f : w.cell? ⟨1, 0, none⟩ = some (.iface 185 (.pointer (some bF)))
theorem IErrs.fr {S : List Nat} {w w' : World} {bT bF : Addr} (h : IErrs w bT bF) (hF : Fr S w w') (hS : ∀ k ∈ S, 0 < k ∧ 1 < k) : IErrs w' bT bF :=
  ⟨hF.cell (fun e => Nat.lt_irrefl _ (hS _ e).1) h.t, hF.cell (fun e => Nat.lt_irrefl _ (hS _ e).2) h.f⟩
theorem IErrs.still {w w' : World} {bT bF : Addr} (h : IErrs w bT bF) (hF : Fr [] w w') : IErrs w' bT bF := h.fr hF (fun _ h => by cases h)
theorem IErrs.lt {w : World} {bT bF : Addr} (h : IErrs w bT bF) : 0 < w.heap.size ∧ 1 < w.heap.size := ⟨World.block_lt_of_cell? w _ h.t, World.block_lt_of_cell? w _ h.f⟩
set_option maxRecDepth 100000 in
set_option maxHeartbeats 1000000 in
theorem number_no {w : World} {rb : Nat} {bs : List Int} {bT bF : Addr} (h : ReadAt w rb bs) (hE : IErrs w bT bF) (hl : bs.length < 8) : Calls Tryz.prog 45 #[.pointer (some ⟨rb, 0, none⟩)] w (Still (.tuple #[.int .u64 0, .iface 185 (.pointer (some bT))]) w) := by
  obtain ⟨ao, cap, h1, h2, h3, h4⟩ := h.ex
  have c0 := cell_of_heap (o := 0) h1 rfl
  have hb := lt_of_heap h1
  have ht := hE.t
  have hl' : (bs.length : Int) < 8 := by omega
  generalize bs.length = n at *
  clear h h1 h2 h4 hE
  go_enter Tryz.func45, Tryz.ntmps45
  go_wp2_with fail
  go_quiet (fail)
  go_wp2
  go_ret2
  exact ⟨rfl, (Fr.refl _ _).drewN _⟩
/-- so many bytes of a number -/
def part (bs : List Int) : Nat → Int
  | 0 => 0
  | k + 1 => part bs k + bs.getD k 0 * 2 ^ (8 * k)
theorem getD_B {bs : List Int} (h : ∀ x ∈ bs, B x) (k : Nat) : B (bs.getD k 0) := by
  rw [List.getD_eq_getElem?_getD]
  cases hk : bs[k]? with
  | none => exact ⟨Int.le_refl _, by decide⟩
  | some v => exact h v (List.mem_of_getElem? hk)
theorem part_nat {bs : List Int} (h : ∀ x ∈ bs, B x) : ∀ k, ∃ p : Nat, part bs k = (p : Int) ∧ p < 2 ^ (8 * k)
  | 0 => ⟨0, rfl, by decide⟩
  | k + 1 => by
    obtain ⟨p, h1, h2⟩ := part_nat h k
    obtain ⟨b1, b2⟩ := getD_B h k
    obtain ⟨b, hb⟩ : ∃ b : Nat, bs.getD k 0 = (b : Int) := ⟨(bs.getD k 0).toNat, by omega⟩
    refine ⟨p + b * 2 ^ (8 * k), ?_, ?_⟩
    · rw [part, h1, hb]; simp
    · have h3 : b ≤ 255 := by omega
      have h4 : b * 2 ^ (8 * k) ≤ 255 * 2 ^ (8 * k) := Nat.mul_le_mul_right _ h3
      rw [show 8 * (k + 1) = 8 * k + 8 by omega, Nat.pow_add]
      omega
theorem or_u64_nat (a b : Nat) (ha : a < 2 ^ 64) (hb : b < 2 ^ 64) : bits .or .u64 (a : Int) (b : Int) = ((a ||| b : Nat) : Int) := by
  show IntKind.u64.wrap ((BitVec.ofInt 64 a ||| BitVec.ofInt 64 b).toNat : Int) = _
  rw [BitVec.toNat_or, uns_toNat, uns_toNat]
  have e1 : uns (a : Int) = a := by unfold uns; omega
  have e2 : uns (b : Int) = b := by unfold uns; omega
  rw [e1, e2]
  have hlt : a ||| b < 2 ^ 64 := Nat.or_lt_two_pow ha hb
  rw [IntKind.wrap_u64]
  omega
theorem part_step {bs : List Int} (h : ∀ x ∈ bs, B x) {k : Nat} (hk : k < 8) {x : Int} (hx : bs[k]? = some x) : bits .or .u64 (part bs k) (IntKind.u64.wrap (x * 2 ^ (8 * k))) = part bs (k + 1) := by
  obtain ⟨p, h1, h2⟩ := part_nat h k
  obtain ⟨b1, b2⟩ := h x (List.mem_of_getElem? hx)
  obtain ⟨b, rfl⟩ : ∃ b : Nat, x = (b : Int) := ⟨x.toNat, by omega⟩
  have hg : bs.getD k 0 = (b : Int) := by rw [List.getD_eq_getElem?_getD, hx]; rfl
  have h3 : b ≤ 255 := by omega
  have h5 : 2 ^ (8 * k) ≤ 2 ^ 56 := Nat.pow_le_pow_right (by decide) (by omega)
  have h4 : b * 2 ^ (8 * k) ≤ 255 * 2 ^ 56 := Nat.mul_le_mul h3 h5
  have e : ((b : Int) * 2 ^ (8 * k)) = ((b * 2 ^ (8 * k) : Nat) : Int) := by simp
  rw [part, hg, e, h1, IntKind.wrap_u64, Int.emod_eq_of_lt (by omega) (by omega), or_u64_nat _ _ (Nat.lt_of_lt_of_le h2 (by omega)) (by omega), or_shift b p (8 * k) h2]
  simp
  omega
theorem part_all (bs : List Int) : part bs 8 = numB bs := by
  simp only [part, numB, n8]
  simp
  omega
theorem ReadAt.next {w w' : World} {rb g o n : Nat} {bs : List Int} (h : ReadAt w rb bs) (hn : n = bs.length) (hF : Fr [] w w') (hB : BytesAt w (some ⟨g, o, none⟩) bs) (hG : ∀ a, some (⟨g, o, none⟩ : Addr) = some a → a.block < rb) (hl : 8 ≤ n) (o2 c2 : Nat) (ho : n = 8 ∨ o2 = o + 8) (hc : n - 8 ≤ c2) : ReadAt (w'.setCell ⟨rb, 0, none⟩ (.slice (some ⟨g, o2, none⟩) (n - 8) c2)) rb (bs.drop 8) := by
  obtain ⟨ao, cap, h1, h2, h3, h4⟩ := h.ex
  have hgl : g < rb := hG _ rfl
  have hgr : g ≠ rb := by omega
  have hF2 : Fr [rb] w' (w'.setCell ⟨rb, 0, none⟩ (.slice (some ⟨g, o2, none⟩) (n - 8) c2)) := (Fr.refl _ _).setCell (fun _ => by simp) _
  have hd : (bs.drop 8).length = n - 8 := by simp [hn]
  refine ⟨⟨some ⟨g, o2, none⟩, c2, ?_, ?_, by omega, fun a ha => by cases ha; exact hgl⟩, fun x hx => h.byte x (List.mem_of_mem_drop hx)⟩
  · have := heap_setCell_same (hF.heap (by simp) h1) (o := 0) (.slice (some ⟨g, o2, none⟩) (n - 8) c2)
    rw [hd]
    simpa using this
  · rcases ho with e | rfl
    · intro i x hx
      have := (List.getElem?_eq_some_iff.1 hx).1
      omega
    · exact (hB.fr hF (fun _ _ => by simp)).drop 8 |>.fr hF2 (fun a ha => by cases ha; simpa using hgr)
set_option maxRecDepth 100000 in
set_option maxHeartbeats 2000000 in
theorem number_yes {w : World} {rb : Nat} {bs : List Int} (h : ReadAt w rb bs) (hl : 8 ≤ bs.length) : Calls Tryz.prog 45 #[.pointer (some ⟨rb, 0, none⟩)] w (fun e w' => e = .returned (.tuple #[.int .u64 (numB bs), .nilIface]) ∧ ReadAt w' rb (bs.drop 8) ∧ Fr [rb] w w') := by
  obtain ⟨ao, cap, h1, h2, h3, h4⟩ := h.ex
  obtain ⟨g, o, rfl⟩ : ∃ g o, ao = some ⟨g, o, none⟩ := by
    obtain ⟨g, o, e, -⟩ := h2 0 _ (List.getElem?_eq_getElem (by omega))
    exact ⟨g, o, e⟩
  have c0 := cell_of_heap (o := 0) h1 rfl
  have z0 := frozen_of_heap (o := 0) h1
  have hb := lt_of_heap h1
  have hl' : ¬ (bs.length : Int) < 8 := by omega
  have HB := Lib.hid h2
  have H := Lib.hid h
  obtain ⟨n, hn⟩ : ∃ n, n = bs.length := ⟨_, rfl⟩
  rw [← hn] at c0 h3 hl hl'
  have HN := Lib.hid hn
  have HG := Lib.hid h4
  clear h h1 h2 h4 hn
  go_enter Tryz.func45, Tryz.ntmps45
  go_wp2_with fail
  go_loopw [4, 20] (fun v i wr => ∃ k : Nat, k ≤ 8 ∧ i = .int .i64 k ∧ v = .int .u64 (part bs k) ∧ Hid (Fr [] w wr)) (fun _ i _ => 8 - (intOf i).toNat)
  case atStart => exact ⟨0, Nat.zero_le _, rfl, rfl, Fr.refl _ _⟩
  case round =>
    obtain ⟨k, hk, rfl, rfl, hF⟩ := hrel
    by_cases hlt : k < 8
    · obtain ⟨x, hx⟩ : ∃ x, bs[k]? = some x := ⟨_, List.getElem?_eq_getElem (by rw [← HN.out]; omega)⟩
      obtain ⟨g', o', e, hc⟩ := HB.out k x hx
      cases e
      have hc' := hF.out.cell (by simp) hc
      obtain ⟨x1, x2⟩ := H.out.byte x (List.mem_of_getElem? hx)
      have hps := part_step H.out.byte hlt hx
      have k0 : (0 : Int) ≤ (k : Int) := by omega
      have k1 : (k : Int) < 8 := by omega
      have HPS := Lib.hid hps
      clear hc hx hps
      go_wp2_with fail
      go_roundw
      case rel => exact ⟨k + 1, by omega, by go_num, by rw [HPS.out], hF⟩
      case measure => simp [intOf]; omega
    · obtain rfl : k = 8 := by omega
      have c1 : wr.cell? ⟨rb, 0, none⟩ = some (.slice (some ⟨g, o, none⟩) n cap) := hF.out.cell (by simp) c0
      have z1 := hF.out.frozen hb (by simp) z0
      rw [part_all]
      have hb1 : rb < wr.heap.size := Nat.lt_of_lt_of_le hb hF.out.size
      have HE := Lib.hid (fun (o2 c2 : Nat) => H.out.next (w' := wr) (g := g) (o := o) (n := n) HN.out (hF.out) HB.out HG.out hl o2 c2)
      clear c0 z0
      by_cases hc8 : cap = 8
      · subst hc8
        obtain rfl : n = 8 := by omega
        go_wp2_with fail
        go_ret2
        exact ⟨rfl, by simpa using HE.out o 0 (.inl trivial) (by simp), hF.out.weak.trans ((Fr.refl [rb] wr).setCell (fun _ => by simp) _)⟩
      · go_wp2_with fail
        go_ret2
        exact ⟨rfl, HE.out (o + 8) (cap - 8) (.inr rfl) (by omega), hF.out.weak.trans ((Fr.refl [rb] wr).setCell (fun _ => by simp) _)⟩
end Go.Proofs.YtfhhjdfdfbelgaaGreatDoor
namespace Go.Proofs.YtfhhjdfdfbelgaaGreatDoor
open Go.RowKit

theorem info64 : (Tryz.prog.info? 34).map (fun i => (i.zero, i.size, i.bytes)) = some (some (.int .u64 0), 1, 8) := by kernel_rfl
theorem zeros_of (z : Value) (n : Nat) (h : z.cells = #[z]) : madeCells z.cells n = (List.replicate n z).toArray := by
  apply Array.ext'
  rw [h, toList_madeCells_one]
theorem make64 (n : Nat) (h2 : n ≤ 65536) (W : World) : (Instr.makeSlice 115 (.int .i64 (n : Int)) (.int .i64 (n : Int))).run Tryz.prog W = .ok (.slice (some ⟨W.heap.size, 0, none⟩) n n) (W.alloc (.cells (List.replicate n (Value.int .u64 0)).toArray 34)) := by
  obtain ⟨i0, hi, hz0, hz1, hz2⟩ := info_parts info64
  have hr := run_make (P := Tryz.prog) W 115 34 i0 (.int .u64 0) Tryz.underlying115 hi hz0 .i64 .i64 n n (by omega) (by omega) (by rw [hz2]; omega) (by omega)
  simp only [Int.toNat_natCast, hz1, Nat.mul_one] at hr
  rw [zeros_of _ _ rfl] at hr
  exact hr
theorem makeWd (n : Nat) (h2 : n ≤ 65536) (W : World) : (Instr.makeSlice 70 (.int .i64 (n : Int)) (.int .i64 (n : Int))).run Tryz.prog W = .ok (.slice (some ⟨W.heap.size, 0, none⟩) n n) (W.alloc (.cells (List.replicate n (Value.int .u64 0)).toArray 35)) := by
  obtain ⟨i0, hi, hz0, hz1, hz2⟩ := info_parts infoWord
  have hr := run_make (P := Tryz.prog) W 70 35 i0 (.int .u64 0) Tryz.underlying70 hi hz0 .i64 .i64 n n (by omega) (by omega) (by rw [hz2]; omega) (by omega)
  simp only [Int.toNat_natCast, hz1, Nat.mul_one] at hr
  rw [zeros_of _ _ rfl] at hr
  exact hr
/-- the first numbers, and zeros -/
noncomputable def numsK (xs : List Int) (n : Nat) : Array Value := ((xs ++ List.replicate (n - xs.length) 0).map (Value.int .u64)).toArray
theorem numsK_zero (n : Nat) : numsK [] n = (List.replicate n (Value.int .u64 0)).toArray := by simp [numsK]
theorem numsK_next {xs : List Int} {n k : Nat} {x : Int} (hk : xs.length = k) (h : k < n) : (numsK xs n).setIfInBounds k (.int .u64 x) = numsK (xs ++ [x]) n := by
  unfold numsK
  simp only [List.setIfInBounds_toArray]
  congr 1
  rw [← List.map_set]
  congr 1
  rw [List.set_append_right _ _ (by omega), hk, Nat.sub_self, show n - k = (n - (k + 1)) + 1 by omega, List.replicate_succ]
  simp [hk]
theorem numsK_done {xs : List Int} {n : Nat} (h : xs.length = n) : numsK xs n = (xs.map (Value.int .u64)).toArray := by simp [numsK, h]
theorem numsK_size {xs : List Int} {n : Nat} (h : xs.length ≤ n) : (numsK xs n).size = n := by simp [numsK]; omega
theorem rdNs_none {k n : Nat} {l xs r : List Int} (h : rdNs k l = some (xs, r)) (hr : rdN r = none) (hk : k < n) : rdNs n l = none := by
  induction n with
  | zero => omega
  | succ n ih =>
    rw [rdNs_snoc]
    by_cases e : k = n
    · subst e
      rw [h]
      simp only [hr]
    · rw [ih (by omega)]
/-- between two numbers -/
structure NumsInv (w : World) (rb : Nat) (bs : List Int) (n k : Nat) (xs r : List Int) (wr : World) : Prop where
  rd : rdNs k bs = some (xs, r)
  row : wr.heap[w.heap.size]? = some (.cells (numsK xs n) 34 (0, 0))
  at_ : ReadAt wr rb r
  fr : Fr [rb] w wr
theorem NumsInv.step {w wr w2 : World} {rb n k : Nat} {bs xs r : List Int} (h : NumsInv w rb bs n k xs r wr) (hk : k < n) (hl : 8 ≤ r.length) (hA : ReadAt w2 rb (r.drop 8)) (hF : Fr [rb] wr w2) (hrb : rb < w.heap.size) : NumsInv w rb bs n (k + 1) (xs ++ [numB r]) (r.drop 8) (w2.setCell ⟨w.heap.size, k, none⟩ (.int .u64 (numB r))) := by
  have hx := rdNs_some h.rd
  refine ⟨?_, ?_, ?_, ?_⟩
  · rw [rdNs_snoc, h.rd]
    simp only [rdN, if_neg (show ¬ r.length < 8 by omega)]
  · rw [heap_setCell_same (hF.heap (by simp; omega) h.row), numsK_next hx hk]
  · exact hA.fr (S := [w.heap.size]) ((Fr.refl _ _).setCell (fun _ => by simp) _) (fun k hk => by simp at hk; omega)
  · exact (h.fr.trans hF).setCell (fun hl => by simp only at hl; omega) _
/-- numbers, or an error -/
def NumsOut (n : Nat) (bT : Addr) (rb : Nat) (bs : List Int) (w : World) (e : Ending) (w' : World) : Prop := match rdNs n bs with
  | some (xs, r) => e = .returned (.tuple #[.slice (some ⟨w.heap.size, 0, none⟩) n n, .nilIface]) ∧ w'.heap[w.heap.size]? = some (.cells (xs.map (Value.int .u64)).toArray 34 (0, 0)) ∧ ReadAt w' rb r ∧ Fr [rb] w w'
  | none => ∃ r, e = .returned (.tuple #[.slice none 0 0, .iface 185 (.pointer (some bT))]) ∧ ReadAt w' rb r ∧ Fr [rb] w w'
set_option maxRecDepth 100000 in
set_option maxHeartbeats 2000000 in
theorem readNumbers_at {w : World} {rb : Nat} {bs : List Int} {bT bF : Addr} (h : ReadAt w rb bs) (hE : IErrs w bT bF) (hg : 0 < rb ∧ 1 < rb) (n : Nat) (hn : n ≤ 65536) : Calls Tryz.prog 58 #[.func (.func 45) #[.pointer (some ⟨rb, 0, none⟩)] #[], .int .i64 n] w (NumsOut n bT rb bs w) := by
  have hmk := make64 n hn
  have H := Lib.hid h
  have HE := Lib.hid hE
  have hrb := h.lt
  have HG := Lib.hid hg
  obtain ⟨Z, hZ⟩ : ∃ Z, Z = (List.replicate n (Value.int .u64 0)).toArray := ⟨_, rfl⟩
  rw [← hZ] at hmk
  have HZ := Lib.hid hZ
  clear h hE hZ hg
  go_enter Tryz.func58, Tryz.ntmps58
  go_wp2_with fail
  go_loopw [14] (fun i wr => ∃ k : Nat, k ≤ n ∧ i = .int .i64 k ∧ ∃ xs r, Hid (NumsInv w rb bs n k xs r wr)) (fun i _ => n - (intOf i).toNat)
  case atStart => exact ⟨0, Nat.zero_le _, rfl, [], bs, ⟨rfl, by rw [numsK_zero, ← HZ.out]; exact heap_new _ _, H.out.still ((Fr.refl _ _).alloc _), (Fr.refl _ _).alloc _⟩⟩
  case round =>
    obtain ⟨k, hk, rfl, xs, r, hI⟩ := hrel
    by_cases hlt : k < n
    · have k0 : (0 : Int) ≤ (k : Int) := by omega
      have k1 : (k : Int) < (n : Int) := by omega
      by_cases hl : r.length < 8
      · have hnm := number_no hI.out.at_ (HE.out.fr hI.out.fr (fun k hk => by simp at hk; subst hk; exact HG.out)) hl
        have HNO : Hid (rdNs n bs = none) := Lib.hid (rdNs_none hI.out.rd (by unfold rdN; rw [if_pos hl]) hlt)
        clear hl
        go_wp2_with fail
        refine hnm.mono ?_
        rintro e w2 ⟨rfl, hF2⟩
        have HF2 := Lib.hid hF2
        clear hnm hF2
        go_wp2_with fail
        go_ret2
        unfold NumsOut
        rw [HNO.out]
        exact ⟨r, rfl, hI.out.at_.still HF2.out, hI.out.fr.trans HF2.out.weak⟩
      · have hnm := number_yes hI.out.at_ (by omega)
        obtain ⟨y, hy⟩ : ∃ y, y = numB r := ⟨_, rfl⟩
        rw [← hy] at hnm
        have HY := Lib.hid hy
        have HST : Hid (∀ w2, ReadAt w2 rb (r.drop 8) → Fr [rb] wr w2 → NumsInv w rb bs n (k + 1) (xs ++ [y]) (r.drop 8) (w2.setCell ⟨w.heap.size, k, none⟩ (.int .u64 y))) := Lib.hid fun w2 h1 h2 => by
          rw [HY.out]
          exact hI.out.step hlt (by omega) h1 h2 hrb
        clear hl hy
        go_wp2_with fail
        refine hnm.mono ?_
        rintro e w2 ⟨rfl, hA2, hF2⟩
        have HR := hF2.heap (by simp; omega) hI.out.row
        have hsz : (numsK xs n).size = n := numsK_size (by rw [rdNs_some hI.out.rd]; omega)
        have qk := cell_of_heap (o := k) HR (Array.getElem?_eq_getElem (by rw [hsz]; exact hlt))
        have fk := frozen_of_heap (o := k) HR
        generalize (numsK xs n)[k]'(by rw [hsz]; exact hlt) = ov at qk
        have HS2 := Lib.hid (HST.out w2 hA2 hF2)
        clear hnm hA2 hF2 HST HR hsz
        go_wp2_with fail
        go_roundw
        case rel => exact ⟨k + 1, by omega, by go_num, _, _, HS2⟩
        case measure => simp [intOf]; omega
    · obtain rfl : k = n := by omega
      have hkd : decide (k < k) = false := by simp
      go_wp2_with fail
      go_ret2
      unfold NumsOut
      rw [hI.out.rd]
      refine ⟨rfl, ?_, hI.out.at_, hI.out.fr⟩
      rw [hI.out.row, numsK_done (rdNs_some hI.out.rd)]
end Go.Proofs.YtfhhjdfdfbelgaaGreatDoor
namespace Go.Proofs.YtfhhjdfdfbelgaaGreatDoor
open Go.RowKit

/-- an object, or an error -/
def ObOut (bT bF : Addr) (rb : Nat) (bs : List Int) (w : World) (e : Ending) (w' : World) : Prop := match rdOb bs with
  | some ((c, h, fs), r) => ∃ g, e = .returned (.tuple #[.agg #[.int .u64 c, .int .i64 h, .slice (some ⟨g, 0, none⟩) fs.length fs.length], .nilIface]) ∧ w'.heap[g]? = some (.cells (fs.map (Value.int .u64)).toArray 35 (0, 0)) ∧ w.heap.size ≤ g ∧ ReadAt w' rb r ∧ Fr [rb] w w'
  | none => ∃ r b, (b = bT ∨ b = bF) ∧ e = .returned (.tuple #[.agg #[.int .u64 0, .int .i64 0, .slice none 0 0], .iface 185 (.pointer (some b))]) ∧ ReadAt w' rb r ∧ Fr [rb] w w'
theorem wrap_sgn {x : Int} (h0 : 0 ≤ x) (h1 : x ≤ 18446744073709551615) : IntKind.i64.wrap x = sgn x := by
  unfold sgn
  rw [IntKind.wrap_i64]
  split <;> omega
/-- words from numbers, between two -/
structure CopyInv (w : World) (fs : List Int) (k : Nat) (wr : World) : Prop where
  row : wr.heap[w.heap.size]? = some (.cells (numsK (fs.take k) fs.length) 35 (0, 0))
  fr : Fr [] w wr
theorem CopyInv.step {w wr : World} {fs : List Int} {k : Nat} {x : Int} (h : CopyInv w fs k wr) (hx : fs[k]? = some x) : CopyInv w fs (k + 1) (wr.setCell ⟨w.heap.size, k, none⟩ (.int .u64 x)) := by
  have hk := (List.getElem?_eq_some_iff.1 hx).1
  refine ⟨?_, h.fr.setCell (fun hl => by simp only at hl; omega) _⟩
  rw [heap_setCell_same h.row, numsK_next (k := k) (by simp; omega) hk, List.take_add_one, hx]
  rfl
theorem fr_three (W : World) (b : Nat) (x y z : Value) : Fr [b] W (((W.setCell ⟨b, 0, none⟩ x).setCell ⟨b, 1, none⟩ y).setCell ⟨b, 2, none⟩ z) :=
  (((Fr.refl _ _).setCell (fun _ => by simp) _).setCell (fun _ => by simp) _).setCell (fun _ => by simp) _
theorem Fr.res {S : List Nat} {w W X : World} (h : Fr S w W) (hx : Fr [w.heap.size] W X) : Fr S w X := h.trans' hx (fun _ _ e => e) (fun j hj e => by simp at e; omega)
theorem ReadAt.res {w W X : World} {rb : Nat} {bs : List Int} (h : ReadAt W rb bs) (hb : rb < w.heap.size) (hx : Fr [w.heap.size] W X) : ReadAt X rb bs := h.fr hx (fun k hk => by simp at hk; omega)
/-- the block of a result that is an object -/
def zeroOb : Obj := .cells #[.int .u64 0, .int .i64 0, .slice none 0 0] 74
theorem zero_ob (w : World) : (w.alloc (.cells #[.int .u64 0, .int .i64 0, .slice none 0 0] 74)).heap[w.heap.size]? = some (.cells #[.int .u64 0, .int .i64 0, .slice none 0 0] 74 (0, 0)) := heap_new _ _
set_option maxRecDepth 100000 in
set_option maxHeartbeats 4000000 in
theorem readObject_at {w : World} {rb : Nat} {bs : List Int} {bT bF : Addr} (h : ReadAt w rb bs) (hE : IErrs w bT bF) (hg : 0 < rb ∧ 1 < rb) : Calls Tryz.prog 70 #[.func (.func 45) #[.pointer (some ⟨rb, 0, none⟩)] #[]] w (ObOut bT bF rb bs w) := by
  have HF0 : Hid (Fr [] w (w.alloc (.cells #[.int .u64 0, .int .i64 0, .slice none 0 0] 74))) := (Fr.refl _ _).alloc _
  have HZ0 := Lib.hid (zero_ob w)
  have h3 := readNumbers_at (h.still HF0.out) (hE.still HF0.out) hg 3 (by omega)
  have H := Lib.hid h
  have HE := Lib.hid hE
  have HG := Lib.hid hg
  have hrb := h.lt
  have HNE : Hid (w.heap.size ∉ [rb]) := by show _ ∉ _; simp; omega
  have e3 : ((3 : Nat) : Int) = 3 := rfl
  rw [e3] at h3
  cases hq : rdNs 3 bs with
  | none =>
    have HNO : Hid (rdOb bs = none) := Lib.hid (by unfold rdOb; rw [hq])
    unfold NumsOut at h3
    rw [hq] at h3
    clear h hE hg hq
    go_enter Tryz.func70, Tryz.ntmps70
    go_wp2_with fail
    refine h3.mono ?_
    rintro e w1 ⟨r, rfl, hA1, hF1⟩
    have HA1 := Lib.hid hA1
    have HF1 := Lib.hid hF1
    have HB := Lib.hid (hF1.heap HNE.out HZ0.out)
    have k0 := cell_of_heap (o := 0) HB.out rfl; have k1 := cell_of_heap (o := 1) HB.out rfl; have k2 := cell_of_heap (o := 2) HB.out rfl; have f0 := frozen_of_heap (o := 0) HB.out; have f1 := frozen_of_heap (o := 1) HB.out; have f2 := frozen_of_heap (o := 2) HB.out
    clear h3 hA1 hF1
    go_wp2_with fail
    (try simp only [Exit.inBlock, Exit.then])
    refine bodyPost_ret (v := .tuple #[.agg #[.int .u64 0, .int .i64 0, .slice none 0 0], .iface 185 (.pointer (some bT))]) ?_ rfl ?_
    · rw [results_cell_tmp rfl]
      go_simp
    · unfold ObOut
      rw [HNO.out]
      have hx := fr_three w1 w.heap.size (.int .u64 0) (.int .i64 0) (.slice none 0 0)
      exact ⟨r, bT, .inl rfl, rfl, HA1.out.res hrb hx, (HF0.out.weak.trans HF1.out).res hx⟩
  | some p =>
    obtain ⟨xs, r⟩ := p
    obtain ⟨-, hl3, hbd⟩ := rdNs_inv 3 bs h.byte xs r hq
    obtain ⟨c, hs, s, rfl⟩ : ∃ c hs s, xs = [c, hs, s] := by
      match xs, hl3 with
      | [a, b, c], _ => exact ⟨a, b, c, rfl⟩
    obtain ⟨c1, c2⟩ := hbd c (by simp)
    obtain ⟨d1, d2⟩ := hbd hs (by simp)
    obtain ⟨s1, s2⟩ := hbd s (by simp)
    obtain ⟨m, rfl⟩ : ∃ m : Nat, s = (m : Int) := ⟨s.toNat, by omega⟩
    have hsg := wrap_sgn d1 d2
    have HSG := Lib.hid hsg
    unfold NumsOut at h3
    rw [hq] at h3
    have HQ := Lib.hid hq
    clear hq hbd hl3 hsg
    have e4 : (w.alloc (.cells #[.int .u64 0, .int .i64 0, .slice none 0 0] 74)).heap.size = w.heap.size + 1 := by simp
    rw [e4] at h3
    by_cases hm : 512 < m
    · have HNO : Hid (rdOb bs = none) := Lib.hid (by unfold rdOb; rw [HQ.out]; simp only [List.getD_cons_zero, List.getD_cons_succ]; rw [if_pos (by omega)])
      have hm' : (512 : Int) < (m : Int) := by omega
      clear h hE hg e4
      go_enter Tryz.func70, Tryz.ntmps70
      go_wp2_with fail
      refine h3.mono ?_
      rintro e w1 ⟨rfl, hr1, hA1, hF1⟩
      have q2 := cell_of_heap (o := 2) hr1 rfl
      have hE1 := ((HE.out.still HF0.out).fr hF1 (fun k hk => by simp at hk; subst hk; exact HG.out)).f
      have HA1 := Lib.hid hA1
      have HF1 := Lib.hid hF1
      have HB := Lib.hid (hF1.heap HNE.out HZ0.out)
      have k0 := cell_of_heap (o := 0) HB.out rfl; have k1 := cell_of_heap (o := 1) HB.out rfl; have k2 := cell_of_heap (o := 2) HB.out rfl; have f0 := frozen_of_heap (o := 0) HB.out; have f1 := frozen_of_heap (o := 1) HB.out; have f2 := frozen_of_heap (o := 2) HB.out
      clear h3 hA1 hF1 hr1
      go_wp2_with fail
      have hgn : 1 < w.heap.size := Nat.lt_trans HG.out.2 hrb
      go_region
      go_wp2_with fail
      (try simp only [Exit.inBlock, Exit.then])
      refine bodyPost_ret (v := .tuple #[.agg #[.int .u64 0, .int .i64 0, .slice none 0 0], .iface 185 (.pointer (some bF))]) ?_ rfl ?_
      · rw [results_cell_tmp rfl]
        go_simp
      · unfold ObOut
        rw [HNO.out]
        have hx := (fr_three w1 w.heap.size (.int .u64 0) (.int .i64 0) (.slice none 0 0)).drew
        exact ⟨r, bF, .inr rfl, rfl, HA1.out.res hrb hx, (HF0.out.weak.trans HF1.out).res hx⟩
    · have hm' : ¬ (512 : Int) < (m : Int) := by omega
      have hm2 : m ≤ 512 := by omega
      clear h hE hg hm e4
      go_enter Tryz.func70, Tryz.ntmps70
      go_wp2_with fail
      refine h3.mono ?_
      rintro e w1 ⟨rfl, hr1, hA1, hF1⟩
      have q2 := cell_of_heap (o := 2) hr1 rfl
      have HR1 := Lib.hid hr1
      have h4 := readNumbers_at hA1 ((HE.out.still HF0.out).fr hF1 (fun k hk => by simp at hk; subst hk; exact HG.out)) HG.out m (by omega)
      have HA1 := Lib.hid hA1
      have HF1 := Lib.hid hF1
      have HB := Lib.hid (hF1.heap HNE.out HZ0.out)
      clear h3 hA1 hF1 hr1
      cases hq2 : rdNs m r with
      | none =>
        have HNO : Hid (rdOb bs = none) := Lib.hid (by unfold rdOb; rw [HQ.out]; simp only [List.getD_cons_zero, List.getD_cons_succ, Int.toNat_natCast]; rw [if_neg (by omega), hq2])
        unfold NumsOut at h4
        rw [hq2] at h4
        clear hq2
        go_wp2_with fail
        refine h4.mono ?_
        rintro e w2 ⟨r2, rfl, hA2, hF2⟩
        have HB2 := Lib.hid (hF2.heap HNE.out HB.out)
        have HA2 := Lib.hid hA2
        have HF2 := Lib.hid (HF1.out.trans hF2)
        have k0 := cell_of_heap (o := 0) HB2.out rfl; have k1 := cell_of_heap (o := 1) HB2.out rfl; have k2 := cell_of_heap (o := 2) HB2.out rfl; have f0 := frozen_of_heap (o := 0) HB2.out; have f1 := frozen_of_heap (o := 1) HB2.out; have f2 := frozen_of_heap (o := 2) HB2.out
        clear h4 hA2 hF2
        go_wp2_with fail
        (try simp only [Exit.inBlock, Exit.then])
        refine bodyPost_ret (v := .tuple #[.agg #[.int .u64 0, .int .i64 0, .slice none 0 0], .iface 185 (.pointer (some bT))]) ?_ rfl ?_
        · rw [results_cell_tmp rfl]
          go_simp
        · unfold ObOut
          rw [HNO.out]
          have hx := fr_three w2 w.heap.size (.int .u64 0) (.int .i64 0) (.slice none 0 0)
          exact ⟨r2, bT, .inl rfl, rfl, HA2.out.res hrb hx, (HF0.out.weak.trans HF2.out).res hx⟩
      | some p =>
        obtain ⟨fs, r2⟩ := p
        have hfl := rdNs_some hq2
        have HYES : Hid (rdOb bs = some ((c, sgn hs, fs), r2)) := Lib.hid (by unfold rdOb; rw [HQ.out]; simp only [List.getD_cons_zero, List.getD_cons_succ, Int.toNat_natCast]; rw [if_neg (by omega), hq2])
        unfold NumsOut at h4
        rw [hq2] at h4
        subst hfl
        have hmk := makeWd fs.length (by omega)
        obtain ⟨n, hn⟩ : ∃ n, n = fs.length := ⟨_, rfl⟩
        obtain ⟨Z, hZ⟩ : ∃ Z, Z = (List.replicate fs.length (Value.int .u64 0)).toArray := ⟨_, rfl⟩
        rw [← hZ] at hmk
        rw [← hn] at hmk h4 hm' hm2 q2
        have HZ := Lib.hid hZ
        have HN := Lib.hid hn
        clear hq2 hZ hn
        go_wp2_with fail
        refine h4.mono ?_
        rintro e w2 ⟨rfl, hr2, hA2, hF2⟩
        have HR2 := Lib.hid hr2
        have HH2 := Lib.hid (hF2.heap (by simp; have := HF1.out.size; simp at this; omega) HR1.out)
        have HB2 := Lib.hid (hF2.heap HNE.out HB.out)
        have HA2 := Lib.hid hA2
        have HF2 := Lib.hid (HF1.out.trans hF2)
        clear h4 hA2 hF2 hr2 q2
        go_wp2_with fail
        go_loopw [43] (fun i wr => ∃ k : Nat, k ≤ n ∧ i = .int .i64 k ∧ Hid (CopyInv w2 fs k wr)) (fun i _ => n - (intOf i).toNat)
        case atStart => exact ⟨0, Nat.zero_le _, rfl, ⟨by rw [show fs.take 0 = [] from rfl, numsK_zero, ← HZ.out]; exact heap_new _ _, (Fr.refl _ _).alloc _⟩⟩
        case round =>
          obtain ⟨k, hk, rfl, hI⟩ := hrel
          by_cases hlt : k < n
          · have k0 : (0 : Int) ≤ (k : Int) := by omega
            have k1 : (k : Int) < (n : Int) := by omega
            obtain ⟨x, hx⟩ : ∃ x, fs[k]? = some x := ⟨_, List.getElem?_eq_getElem (by rw [← HN.out]; exact hlt)⟩
            have hr2 := hI.out.fr.heap (by simp) HR2.out
            have qx := cell_of_heap (o := k) hr2 (v := .int .u64 x) (by simp [hx])
            have hsz : (numsK (fs.take k) fs.length).size = fs.length := numsK_size (by simp; omega)
            have qk := cell_of_heap (o := k) hI.out.row (Array.getElem?_eq_getElem (by rw [hsz, ← HN.out]; exact hlt))
            have fk := frozen_of_heap (o := k) hI.out.row
            generalize (numsK (fs.take k) fs.length)[k]'(by rw [hsz, ← HN.out]; exact hlt) = ov at qk
            have HST := Lib.hid (hI.out.step hx)
            clear hsz hr2 hx
            go_wp2_with fail
            go_roundw
            case rel => exact ⟨k + 1, by omega, by go_num, HST⟩
            case measure => simp [intOf]; omega
          · obtain rfl : k = n := by omega
            have hkd : decide (k < k) = false := by simp
            have HR3 : Hid (wr.heap[w2.heap.size]? = some (.cells (fs.map (Value.int .u64)).toArray 35 (0, 0))) := Lib.hid (by
              rw [hI.out.row, List.take_of_length_le (Nat.le_of_eq HN.out.symm), numsK_done rfl])
            have hh := hI.out.fr.heap (by simp) HH2.out
            have hb := hI.out.fr.heap (by simp) HB2.out
            have HA3 := Lib.hid (HA2.out.still hI.out.fr)
            have HF3 := Lib.hid (HF2.out.trans hI.out.fr.weak)
            have h0 := cell_of_heap (o := 0) hh rfl; have h1 := cell_of_heap (o := 1) hh rfl; have h2 := cell_of_heap (o := 2) hh rfl
            have k0 := cell_of_heap (o := 0) hb rfl; have k1 := cell_of_heap (o := 1) hb rfl; have k2 := cell_of_heap (o := 2) hb rfl; have f0 := frozen_of_heap (o := 0) hb; have f1 := frozen_of_heap (o := 1) hb; have f2 := frozen_of_heap (o := 2) hb
            clear hh hb hI
            have hcs : IntKind.i64.wrap hs = sgn hs := HSG.out
            go_wp2_with fail
            go_region
            go_wp2_with fail
            (try simp only [Exit.inBlock, Exit.then])
            refine bodyPost_ret (v := .tuple #[.agg #[.int .u64 c, .int .i64 (sgn hs), .slice (some ⟨w2.heap.size, 0, none⟩) k k], .nilIface]) ?_ rfl ?_
            · rw [results_cell_tmp rfl]
              go_simp
            · unfold ObOut
              rw [HYES.out]
              have hx := (fr_three wr w.heap.size (.int .u64 c) (.int .i64 (sgn hs)) (.slice (some ⟨w2.heap.size, 0, none⟩) k k)).drew
              have hsz := HF2.out.size
              simp at hsz
              exact ⟨w2.heap.size, by rw [← HN.out], hx.heap (by simp; omega) HR3.out, by omega, HA3.out.res hrb hx, (HF0.out.weak.trans HF3.out).res hx⟩
end Go.Proofs.YtfhhjdfdfbelgaaGreatDoor
namespace Go.Proofs.YtfhhjdfdfbelgaaGreatDoor
open Go.RowKit

theorem rdNs_len : ∀ (n : Nat) (l xs r : List Int), rdNs n l = some (xs, r) → 8 * n + r.length = l.length
  | 0, l, xs, r, h => by
    obtain ⟨h1, h2⟩ := Prod.mk.inj (Option.some.inj h)
    rw [← h2]; omega
  | n + 1, l, xs, r, h => by
    rw [rdNs] at h
    cases h1 : rdN l with
    | none => simp [h1] at h
    | some p =>
      obtain ⟨x, q⟩ := p
      simp only [h1] at h
      have hl : 8 + q.length = l.length := by
        unfold rdN at h1
        split at h1
        · cases h1
        · next hn =>
          obtain ⟨-, e⟩ := Prod.mk.inj (Option.some.inj h1)
          rw [← e, List.length_drop]
          omega
      cases h2 : rdNs n q with
      | none => simp [h2] at h
      | some p2 =>
        obtain ⟨ys, q2⟩ := p2
        simp only [h2] at h
        obtain ⟨-, h4⟩ := Prod.mk.inj (Option.some.inj h)
        have := rdNs_len n q ys q2 h2
        rw [← h4]
        omega
theorem rdOb_len {l r : List Int} {o : Int × Int × List Int} (h : rdOb l = some (o, r)) : 24 + r.length ≤ l.length ∧ o.2.2.length ≤ 512 := by
  unfold rdOb at h
  cases h1 : rdNs 3 l with
  | none => simp [h1] at h
  | some p =>
    obtain ⟨xs, q⟩ := p
    simp only [h1] at h
    have e1 := rdNs_len 3 l xs q h1
    split at h
    · cases h
    · next hc =>
      cases h2 : rdNs (xs.getD 2 0).toNat q with
      | none => simp only [h2] at h; cases h
      | some p2 =>
        obtain ⟨fs, q2⟩ := p2
        simp only [h2] at h
        obtain ⟨h3, h4⟩ := Prod.mk.inj (Option.some.inj h)
        have e2 := rdNs_len _ q fs q2 h2
        have e3 := rdNs_some h2
        rw [← h4, ← h3]
        simp only
        omega
theorem rdObs_len : ∀ (n : Nat) (l : List Int) (os : List (Int × Int × List Int)) (r : List Int), rdObs n l = some (os, r) → 24 * n + r.length ≤ l.length ∧ os.length = n
  | 0, l, os, r, h => by
    obtain ⟨h1, h2⟩ := Prod.mk.inj (Option.some.inj h)
    rw [← h1, ← h2]; exact ⟨by omega, rfl⟩
  | n + 1, l, os, r, h => by
    rw [rdObs] at h
    cases h1 : rdOb l with
    | none => simp [h1] at h
    | some p =>
      obtain ⟨x, q⟩ := p
      simp only [h1] at h
      cases h2 : rdObs n q with
      | none => simp [h2] at h
      | some p2 =>
        obtain ⟨ys, q2⟩ := p2
        simp only [h2] at h
        obtain ⟨h3, h4⟩ := Prod.mk.inj (Option.some.inj h)
        have e1 := rdObs_len n q ys q2 h2
        have e2 := rdOb_len h1
        rw [← h4, ← h3]
        simp only [List.length_cons]
        omega
theorem rdObs_none {k n : Nat} {l r : List Int} {os : List (Int × Int × List Int)} (h : rdObs k l = some (os, r)) (hr : rdOb r = none) (hk : k < n) : rdObs n l = none := by
  induction n with
  | zero => omega
  | succ n ih =>
    rw [rdObs_snoc]
    by_cases e : k = n
    · subst e
      rw [h]
      simp only [hr]
    · rw [ih (by omega)]
/-- objects that a reader has made since w -/
structure ObsIn (w : World) (v : Value) (its : List It) (W : World) : Prop where
  row : W.ownsRow 0 74 3 v its.length (flat3 its)
  own : ∀ o ∈ its, ItOwn W o
  fresh : ∀ o ∈ its, ∀ b, o.fv.ownBlock = some b → w.heap.size ≤ b
  new : ∀ b, v.ownBlock = some b → w.heap.size ≤ b
theorem ObsIn.fr {S : List Nat} {w W W' : World} {v : Value} {its : List It} (h : ObsIn w v its W) (hF : Fr S W W') (hS : ∀ k ∈ S, k < w.heap.size) : ObsIn w v its W' :=
  ⟨hF.row h.row (fun k hk hm => by have := hS k hm; have := h.new k hk; omega), fun o ho => (h.own o ho).fr hF (fun k hk hm => by have := hS k hm; have := h.fresh o ho k hk; omega), h.fresh, h.new⟩
/-- a list of objects under way -/
structure ObsLoop (w : World) (rb : Nat) (bs : List Int) (k : Nat) (v : Value) (its : List It) (r : List Int) (W : World) : Prop where
  rd : rdObs k bs = some (obsOf its, r)
  inn : ObsIn w v its W
  at_ : ReadAt W rb r
  fr : Fr [rb] w W
theorem ObsLoop.len {w W : World} {rb k : Nat} {bs r : List Int} {v : Value} {its : List It} (h : ObsLoop w rb bs k v its r W) : its.length = k := by
  have := (rdObs_len _ _ _ _ h.rd).2
  simpa [obsOf] using this
theorem ItOwn.mk' {W : World} {g : Nat} {c h : Int} {fs : List Int} (hh : W.heap[g]? = some (.cells (fs.map (Value.int .u64)).toArray 35 (0, 0))) (hl : fs.length ≤ 512) : ItOwn W ⟨c, h, .slice (some ⟨g, 0, none⟩) fs.length fs.length, fs⟩ := by
  have hm : fs.length ≤ maxLen := by unfold maxLen; omega
  exact ⟨⟨by simp, .inr ⟨g, fs.length, _, rfl, Nat.zero_le _, hh, Nat.le_refl _, hm, by simp, List.take_of_length_le (by simp)⟩⟩, Nat.le_trans hl (by decide)⟩
theorem ObsLoop.step {w W W2 Wa W3 : World} {rb k g : Nat} {bs r r2 : List Int} {v v' : Value} {its : List It} {c h : Int} {fs : List Int} (hL : ObsLoop w rb bs k v its r W) (hrb : rb < w.heap.size) (hx : rdOb r = some ((c, h, fs), r2)) (hg : W2.heap[g]? = some (.cells (fs.map (Value.int .u64)).toArray 35 (0, 0))) (hgn : W.heap.size ≤ g) (hA : ReadAt W2 rb r2) (hF : Fr [rb] W W2)
    (hFa : Fr [] W2 Wa) (ho : Wa.ownsRow 0 74 3 v its.length (flat3 its) → W3.ownsRow 0 74 3 v' (its.length + 1) (flat3 its ++ [.int .u64 c, .int .i64 h, .slice (some ⟨g, 0, none⟩) fs.length fs.length])) (hgr : Wa.grownBy W3 v.ownBlock) (hf : v.ownBlock = v'.ownBlock ∨ v'.ownBlock = some Wa.heap.size) :
    ObsLoop w rb bs (k + 1) v' (its ++ [⟨c, h, .slice (some ⟨g, 0, none⟩) fs.length fs.length, fs⟩]) r2 W3 := by
  have hI2 := (hL.inn.fr hF (fun j hj => by simp at hj; omega)).fr hFa (fun j hj => by cases hj)
  have hF3 : Fr v.ownBlock.toList Wa W3 := (Fr.refl _ _).grown hgr (fun q hq _ => by simp [hq])
  have hw : w.heap.size ≤ W2.heap.size := Nat.le_trans hL.fr.size hF.size
  have hle := (rdOb_len hx).2
  have hov : ∀ o, ItOwn Wa o → ItOwn W3 o := fun o ho => ho.grown hI2.row hgr (by decide)
  refine ⟨?_, ⟨?_, ?_, ?_, ?_⟩, ?_, ?_⟩
  · rw [rdObs_snoc, hL.rd]
    simp only [hx, obsOf, List.map_append, List.map_cons, List.map_nil, It.key]
  · rw [flat3_snoc, List.length_append]
    exact ho hI2.row
  · intro o hom
    rcases List.mem_append.1 hom with hom | hom
    · exact hov o (hI2.own o hom)
    · rw [List.mem_singleton] at hom
      subst hom
      exact hov _ (ItOwn.mk' (hFa.heap (by simp) hg) hle)
  · intro o hom b hb
    rcases List.mem_append.1 hom with hom | hom
    · exact hL.inn.fresh o hom b hb
    · rw [List.mem_singleton] at hom
      subst hom
      cases hb
      exact Nat.le_trans hL.fr.size hgn
  · intro b hb
    rcases hf with hf | hf
    · exact hL.inn.new b (hf.trans hb)
    · have e := hf.symm.trans hb
      cases e
      exact Nat.le_trans hw hFa.size
  · exact (hA.still hFa).fr hF3 (fun q hq => by have := hL.inn.new q (by simpa using hq); omega)
  · have hF4 : Fr v.ownBlock.toList W2 W3 := (hFa.weak (S := v.ownBlock.toList)).trans hF3
    exact (hL.fr.trans hF).trans' hF4 (fun _ _ e => e) (fun j hj hm => by have := hL.inn.new j (by simpa using hm); omega)
/-- objects, or an error -/
def ObsOut (n : Nat) (bT bF : Addr) (rb : Nat) (bs : List Int) (w : World) (e : Ending) (w' : World) : Prop := match rdObs n bs with
  | some (os, r) => ∃ v its, e = .returned (.tuple #[v, .nilIface]) ∧ obsOf its = os ∧ ObsIn w v its w' ∧ ReadAt w' rb r ∧ Fr [rb] w w'
  | none => ∃ r b, (b = bT ∨ b = bF) ∧ e = .returned (.tuple #[.slice none 0 0, .iface 185 (.pointer (some b))]) ∧ ReadAt w' rb r ∧ Fr [rb] w w'
set_option maxRecDepth 100000 in
set_option maxHeartbeats 4000000 in
theorem readObjects_at {w : World} {rb : Nat} {bs : List Int} {bT bF : Addr} (h : ReadAt w rb bs) (hE : IErrs w bT bF) (hg : 0 < rb ∧ 1 < rb) (hl : bs.length ≤ 35184372088832) (n : Nat) (hn : n ≤ 18446744073709551615) : Calls Tryz.prog 59 #[.func (.func 45) #[.pointer (some ⟨rb, 0, none⟩)] #[], .int .u64 n] w (ObsOut n bT bF rb bs w) := by
  obtain ⟨i0, hi, hz0, hz1, hz2⟩ := info_parts infoHO
  have H := Lib.hid h
  have HE := Lib.hid hE
  have hrb := h.lt
  have HG := Lib.hid hg
  have HL := Lib.hid hl
  clear h hE hg hl
  go_enter Tryz.func59, Tryz.ntmps59
  go_wp2_with fail
  go_loopw [6, 10] (fun v i wr => ∃ k : Nat, k ≤ n ∧ i = .int .u64 k ∧ ∃ its r, Hid (ObsLoop w rb bs k v its r wr)) (fun _ i _ => n - (intOf i).toNat)
  case atStart => exact ⟨0, Nat.zero_le _, rfl, [], bs, ⟨rfl, ⟨World.ownsRow_nil _ _ _ _, (fun _ h => by cases h), (fun _ h => by cases h), (fun _ h => by cases h)⟩, H.out, Fr.refl _ _⟩⟩
  case round =>
    obtain ⟨k, hk, rfl, its, r, hI⟩ := hrel
    obtain ⟨vo, vc, rfl⟩ := row_shape' hI.out.inn.row
    have hlen := hI.out.len
    by_cases hlt : k < n
    · have k0 : (0 : Int) ≤ (k : Int) := by omega
      have k1 : (k : Int) < (n : Int) := by omega
      have hro := readObject_at hI.out.at_ (HE.out.fr hI.out.fr (fun k hk => by simp at hk; subst hk; exact HG.out)) HG.out
      cases hx : rdOb r with
      | none =>
        have HNO : Hid (rdObs n bs = none) := Lib.hid (rdObs_none hI.out.rd hx hlt)
        unfold ObOut at hro
        rw [hx] at hro
        clear hx
        go_wp2_with fail
        refine hro.mono ?_
        rintro e w2 ⟨r2, b, hb, rfl, hA2, hF2⟩
        have HB := Lib.hid hb
        have HA2 := Lib.hid hA2
        have HF2 := Lib.hid (hI.out.fr.trans hF2)
        clear hro hA2 hF2 hb
        go_wp2_with fail
        go_ret2
        unfold ObsOut
        rw [HNO.out]
        exact ⟨r2, b, HB.out, rfl, HA2.out.still ((Fr.refl _ _).alloc _), HF2.out.alloc _⟩
      | some p =>
        obtain ⟨⟨c, h, fs⟩, r2⟩ := p
        have HX := Lib.hid hx
        have hkl := (rdObs_len _ _ _ _ hI.out.rd).1
        have hkb : k ≤ 1466015503701 := by have := HL.out; omega
        unfold ObOut at hro
        rw [hx] at hro
        subst hlen
        obtain ⟨q, hq⟩ : ∃ q, q = fs.length := ⟨_, rfl⟩
        obtain ⟨K, hK⟩ : ∃ K, K = its.length := ⟨_, rfl⟩
        rw [← hK] at k0 k1 hkb
        simp only [← hq] at hro
        have HK := Lib.hid hK
        have HQ := Lib.hid hq
        have HIK : Hid (ObsLoop w rb bs K (.slice vo K vc) its r wr) := Lib.hid (by
          have h1 := hI.out
          rw [← hK] at h1
          exact h1)
        rw [← hK]
        clear hx hkl hq hK hk
        go_wp2_with fail
        refine hro.mono ?_
        rintro e w2 ⟨g, rfl, hg, hgn, hA2, hF2⟩
        have HGB := Lib.hid hg
        have HGN := Lib.hid hgn
        have HA2 := Lib.hid hA2
        have HF2 := Lib.hid hF2
        clear hro hA2 hF2 hg hgn
        obtain ⟨O, hO⟩ : ∃ O, O = Obj.cells #[.int .u64 c, .int .i64 h, .slice (some ⟨g, 0, none⟩) q q] 74 := ⟨_, rfl⟩
        have HFA : Hid (Fr [] w2 ((w2.alloc O).alloc O)) := ((Fr.refl _ _).alloc _).alloc _
        have hnew : ((w2.alloc O).alloc O).heap[w2.heap.size + 1]? = some O := by
          have := heap_new (w2.alloc O) O
          simpa using this
        have HRA : Hid (((w2.alloc O).alloc O).ownsRow 0 74 3 (.slice vo K vc) K (flat3 its)) := by
          have h1 := hI.out.inn.row
          rw [← HK.out] at h1
          exact HFA.out.row (HF2.out.row h1 (fun k hk hm => by have := hI.out.inn.new k (by rw [← HK.out]; exact hk); simp at hm; omega)) (fun _ _ => by simp)
        have HNW : Hid (∀ (j : Nat) u, [Value.int .u64 c, .int .i64 h, .slice (some ⟨g, 0, none⟩) q q][j]? = some u → ((w2.alloc O).alloc O).cell? ((⟨w2.heap.size + 1, 0, none⟩ : Addr).add j) = some u) := by
          rw [hO] at hnew
          rw [hO]
          exact World.news_of_block (cs := #[.int .u64 c, .int .i64 h, .slice (some ⟨g, 0, none⟩) q q]) (t := 74) (fr := (0, 0)) hnew
        have hsz2 : ((w2.alloc O).alloc O).heap.size = w2.heap.size + 1 + 1 := by simp
        have HS2 := Lib.hid hsz2
        clear hnew hsz2
        subst hO
        go_wp2_with (at_builtin; refine wpList_append_at _ rfl (.tmp 20) (.tmp 22) 46 rfl 74 i0 _ 3 40 Tryz.underlying46 hi hz0 hz1 hz2 rfl (by decide) (.slice vo K vc) K _ rfl HRA.out ⟨w2.heap.size + 1, 0, none⟩ 1 1 [.int .u64 c, .int .i64 h, .slice (some ⟨g, 0, none⟩) q q] rfl rfl HNW.out (by simp [Value.oneCell']) (by unfold maxLen; omega) (by omega) ?_; intro v5 w5 ho5 hg5 hf5; obtain ⟨a5, p5, rfl⟩ := row_shape' ho5; have HO5 := Lib.hid ho5; have HG5 := Lib.hid hg5; have HF5 := Lib.hid hf5; clear ho5 hg5 hf5)
        go_roundw
        case rel =>
          have h5 := HIK.out.step (v' := .slice a5 (K + 1) p5) hrb HX.out HGB.out HGN.out HA2.out HF2.out HFA.out (fun _ => by rw [← HK.out, ← HQ.out]; exact HO5.out) HG5.out (HF5.out.imp (fun e => e.symm) (fun e => e))
          exact ⟨K + 1, by omega, by go_num, _, r2, h5⟩
        case measure => simp [intOf]; omega
    · obtain rfl : k = n := by omega
      have hkd : decide (k < k) = false := by simp
      go_wp2_with fail
      go_ret2
      unfold ObsOut
      rw [hI.out.rd]
      refine ⟨_, its, rfl, rfl, hI.out.inn, hI.out.at_, hI.out.fr⟩
end Go.Proofs.YtfhhjdfdfbelgaaGreatDoor
