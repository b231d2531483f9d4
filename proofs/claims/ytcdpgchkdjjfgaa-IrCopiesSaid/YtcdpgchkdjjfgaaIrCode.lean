/- ir: the instructions of a unit. -/
import Derived.Test.YtcdpgchkdjjfgaaIrNums
import Derived.Test.YtcdpgchkdjjfgaaIrInst
namespace Go.Proofs.Ytcdpgchkdjjfgaa
open Go.RowKit

/-- no two sends have one site -/
def apart (l : List Ii) : Prop := ∀ (i j : Nat) (a b : Ii), i < j → l[i]? = some a → l[j]? = some b → a.op = 7 → b.op = 7 → a.n ≠ b.n
/-- which sites were taken -/
def marks (S : Nat) (l : List Ii) : List Bool := (List.range S).map fun (j : Nat) => l.any fun i => decide (i.op = 7 ∧ i.n = (j : Int))
theorem marks_len (S : Nat) (l : List Ii) : (marks S l).length = S := by simp [marks]
theorem marks_nil (S : Nat) : marks S [] = List.replicate S false := by
  unfold marks
  simp only [List.any_nil]
  exact List.ext_getElem (by simp) (fun i h1 h2 => by simp)
theorem marks_at {S : Nat} {l : List Ii} {j : Nat} (h : j < S) : (marks S l)[j]? = some (l.any fun i => decide (i.op = 7 ∧ i.n = (j : Int))) := by
  simp [marks, h]
theorem marks_other {S : Nat} {l : List Ii} {i : Ii} (h : i.op ≠ 7) : marks S (l ++ [i]) = marks S l := by
  unfold marks
  simp [h]
theorem marks_set {S : Nat} {l : List Ii} {i : Ii} {n : Nat} (h : i.op = 7) (hn : i.n = (n : Int)) : marks S (l ++ [i]) = (marks S l).set n true := by
  apply List.ext_getElem?
  intro j
  by_cases hj : j < S
  · rw [marks_at hj]
    by_cases e : n = j
    · subst e
      rw [List.getElem?_set_self (by rw [marks_len]; exact hj)]
      simp [h, hn]
    · rw [List.getElem?_set_ne e, marks_at hj]
      have : ¬ ((n : Int) = (j : Int)) := by omega
      simp [hn, this]
  · rw [List.getElem?_eq_none (by rw [marks_len]; omega), List.getElem?_eq_none (by rw [List.length_set, marks_len]; omega)]
theorem apart_snoc {l : List Ii} {k : Nat} {i : Ii} (h : l[k]? = some i) (ha : apart (l.take k)) (hn : i.op = 7 → (l.take k).any (fun a => decide (a.op = 7 ∧ a.n = i.n)) = false) : apart (l.take (k + 1)) := by
  intro x y a b hxy hx hy ha7 hb7
  have hyl := (List.getElem?_eq_some_iff.1 hy).1
  rw [List.length_take] at hyl
  by_cases hyk : y = k
  · subst hyk
    rw [List.getElem?_take_of_lt (by omega)] at hx hy
    rw [h] at hy
    cases hy
    intro e
    have := hn hb7
    rw [List.any_eq_false] at this
    refine this a (List.mem_of_getElem? (i := x) ?_) (by simp [ha7, e])
    rw [List.getElem?_take_of_lt hxy]
    exact hx
  · refine ha x y a b hxy ?_ ?_ ha7 hb7
    · rw [List.getElem?_take_of_lt (by omega)] at hx ⊢; exact hx
    · rw [List.getElem?_take_of_lt (by omega)] at hy ⊢; exact hy
theorem apart_no {l : List Ii} {k : Nat} {i : Ii} (h : l[k]? = some i) (h7 : i.op = 7) (hn : (l.take k).any (fun a => decide (a.op = 7 ∧ a.n = i.n)) = true) : ¬ apart l := by
  intro hA
  obtain ⟨a, ha, hb⟩ := List.any_eq_true.1 hn
  simp only [decide_eq_true_eq] at hb
  obtain ⟨x, hx⟩ := List.getElem?_of_mem ha
  have hxl := (List.getElem?_eq_some_iff.1 hx).1
  rw [List.length_take] at hxl
  rw [List.getElem?_take_of_lt (by omega)] at hx
  exact hA x k a i (by omega) hx h hb.1 h7 hb.2
/-- a row of truths -/
def TkAt (w : World) (b : Nat) (M : List Bool) : Prop := w.heap[b]? = some (.cells (M.map Value.bool).toArray 4 (0, 0))
theorem TkAt.set {w : World} {b : Nat} {M : List Bool} (h : TkAt w b M) (k : Nat) (x : Bool) : TkAt (w.setCell ⟨b, k, none⟩ (.bool x)) b (M.set k x) := by
  unfold TkAt
  rw [heap_setCell_same h]
  simp [List.map_set]
theorem TkAt.cell {w : World} {b : Nat} {M : List Bool} (h : TkAt w b M) {k : Nat} {x : Bool} (hk : M[k]? = some x) : w.cell? ⟨b, k, none⟩ = some (.bool x) := cell_of_heap h (by simp [hk])
theorem mades_ones (z : Value) (n : Nat) (h : z.cells = #[z]) : madeCells z.cells n = (List.replicate n z).toArray := by
  apply Array.ext'
  rw [h, toList_madeCells_one]
theorem infoTk : (Try.prog.info? 4).map (fun i => (i.zero, i.size, i.bytes)) = some (some (.bool false), 1, 1) := by kernel_rfl
theorem makeTk (n : Nat) (h2 : n ≤ 65536) (W : World) : (Instr.makeSlice 67 (.int .i64 (n : Int)) (.int .i64 (n : Int))).run Try.prog W = .ok (.slice (some ⟨W.heap.size, 0, none⟩) n n) (W.alloc (.cells (List.replicate n (Value.bool false)).toArray 4)) := by
  obtain ⟨i0, hi, hz0, hz1, hz2⟩ := info_parts infoTk
  have hr := run_make (P := Try.prog) W 67 4 i0 (.bool false) Try.underlying67 hi hz0 .i64 .i64 n n (by omega) (by omega) (by rw [hz2]; omega) (by omega)
  simp only [Int.toNat_natCast, hz1, Nat.mul_one] at hr
  rw [mades_ones _ _ rfl] at hr
  exact hr
theorem made_marks (S : Nat) : List.replicate S (Value.bool false) = (marks S []).map Value.bool := by rw [marks_nil]; simp
open Classical in
/-- may the instructions be? -/
noncomputable def codeOk (u : Un) : Bool := decide ((∀ i ∈ u.enter, i.op = 1) ∧ u.enter.all (insOk u.regs u.spills u.sites u.maps.length) = true ∧ u.code.all (insOk u.regs u.spills u.sites u.maps.length) = true ∧ apart u.code)
theorem codeOk_iff (u : Un) : codeOk u = true ↔ ((∀ i ∈ u.enter, i.op = 1) ∧ u.enter.all (insOk u.regs u.spills u.sites u.maps.length) = true ∧ u.code.all (insOk u.regs u.spills u.sites u.maps.length) = true ∧ apart u.code) := by
  unfold codeOk
  simp
theorem insOk_site {R P S M : Int} {i : Ii} (h : insOk R P S M i = true) (h7 : i.op = 7) : 0 ≤ i.n ∧ i.n < S := by
  unfold insOk at h
  simp only [Bool.and_eq_true] at h
  have h2 := h.1.2
  rw [h7] at h2
  unfold wtn grt at h2
  simp at h2
  omega
set_option maxRecDepth 100000 in
set_option maxHeartbeats 8000000 in
theorem ir_isCode (u : Un) (w : World) (hA : UAt w u) (hB : UB u) (hS : 0 ≤ u.sites ∧ u.sites ≤ 128) (hM : (u.maps.length : Int) ≤ 128) : Calls Try.prog 29 #[u.v] w (Still (.bool (codeOk u)) w) := by
  have hen := hB.en
  have hcn := hB.cn
  have hr := fun W => ir_rangesOf u W
  have HE1 : Hid (∀ (i : Ii) (W : World), i ∈ u.enter → SrcsAt W i.la i.l → Calls Try.prog 42 #[rgV u.regs u.spills u.sites u.maps.length, i.v] W (Still (.bool (insOk u.regs u.spills u.sites u.maps.length i)) W)) := Lib.hid fun i W hi h => ir_isInstruction u.regs u.spills u.sites u.maps.length i W (hB.enter i hi) h hS ⟨by omega, hM⟩
  have HE2 : Hid (∀ (i : Ii) (W : World), i ∈ u.code → SrcsAt W i.la i.l → Calls Try.prog 42 #[rgV u.regs u.spills u.sites u.maps.length, i.v] W (Still (.bool (insOk u.regs u.spills u.sites u.maps.length i)) W)) := Lib.hid fun i W hi h => ir_isInstruction u.regs u.spills u.sites u.maps.length i W (hB.code i hi) h hS ⟨by omega, hM⟩
  have hAE := hA.enter
  have hAC := hA.code
  have hI := codeOk_iff u
  have HQS : Hid (∀ i, insOk u.regs u.spills u.sites u.maps.length i = true → i.op = 7 → 0 ≤ i.n ∧ i.n < u.sites) := Lib.hid fun i h h7 => insOk_site h h7
  generalize codeOk u = v at *
  generalize hq : insOk u.regs u.spills u.sites u.maps.length = q at *
  clear hq hA hB hM
  obtain ⟨method, args, T, R, P, S, ea, en, ec, ca, co, cc, sa, st, sc, ma, mp, mc⟩ := u
  unfold Un.v at hr ⊢
  unfold rgV at hr HE1 HE2
  simp only at hen hcn hr HE1 HE2 hAE hAC hI HQS hS ⊢
  obtain ⟨s0, s1⟩ := hS
  obtain ⟨Sn, rfl⟩ : ∃ n : Nat, S = (n : Int) := ⟨S.toNat, by omega⟩
  generalize st.length = sl at *
  generalize mp.length = ml at *
  obtain ⟨el, hel⟩ : ∃ n, n = en.length := ⟨_, rfl⟩
  obtain ⟨cl, hcl⟩ : ∃ n, n = co.length := ⟨_, rfl⟩
  rw [← hel] at hen
  rw [← hcl] at hcn
  simp only [← hel, ← hcl] at hr ⊢
  have HEL := Lib.hid hel
  have HCL := Lib.hid hcl
  have HAE := Lib.hid hAE
  have HAC := Lib.hid hAC
  have HI := Lib.hid hI
  have hmk := fun W => makeTk Sn (by omega) W
  clear hel hcl hAE hAC hI
  go_enter Try.func29, Try.ntmps29
  go_wp2_with (go_at_call 40; refine (hr _).mono ?_; rintro e w1 ⟨rfl, hF⟩; have HF1 : Hid (Fr [] w w1) := ((Fr.refl [] w).alloc _).trans hF; have HU := Lib.hid (hF.heap (by simp) (heap_new w _)); have b0 := cell_of_heap (o := 0) HU.out rfl; have b1 := cell_of_heap (o := 1) HU.out rfl; have b2 := cell_of_heap (o := 2) HU.out rfl; have b3 := cell_of_heap (o := 3) HU.out rfl; have b4 := cell_of_heap (o := 4) HU.out rfl; have b5 := cell_of_heap (o := 5) HU.out rfl; have b6 := cell_of_heap (o := 6) HU.out rfl; have b7 := cell_of_heap (o := 7) HU.out rfl; have b8 := cell_of_heap (o := 8) HU.out rfl; have b9 := cell_of_heap (o := 9) HU.out rfl; have hsz1 := lt_of_heap HU.out; clear hF)
  clear b0 b1 b2 b3 b4 b5 b6 b7 b8 b9
  go_loopw [14] (fun i wr => ∃ k : Nat, k ≤ el ∧ i = .int .i64 k ∧ Hid (Fr [] w wr) ∧ Hid (wr.heap[w.heap.size]? = some (.cells #[.int .u64 method, .int .i64 args, .int .i64 T, .int .i64 R, .int .i64 P, .int .i64 Sn, .slice ea el ec, .slice ca cl cc, .slice sa sl sc, .slice ma ml mc] 43)) ∧ Hid (wr.heap[w1.heap.size]? = some (.cells #[.int .i64 R, .int .i64 P, .int .i64 Sn, .int .i64 ml] 63)) ∧ Hid ((en.take k).all q = true) ∧ Hid (∀ i ∈ en.take k, i.op = 1)) (fun i _ => el - (intOf i).toNat)
  case atStart => exact ⟨0, Nat.zero_le _, rfl, HF1.out.alloc _, ((Fr.refl [] w1).alloc _).heap (by simp) HU.out, heap_new _ _, Lib.hid (by simp), Lib.hid (by simp)⟩
  case round =>
    obtain ⟨k, hk, rfl, HF, HB, HR, HT, HO⟩ := hrel
    have hw0 : w.heap.size < wr.heap.size := lt_of_heap HB.out
    have hw1 : w1.heap.size < wr.heap.size := lt_of_heap HR.out
    by_cases hlt : k < el
    · have hkl : k < en.length := by rw [← HEL.out]; exact hlt
      obtain ⟨m, hm⟩ : ∃ m, en[k]? = some m := ⟨_, List.getElem?_eq_getElem hkl⟩
      obtain ⟨⟨g, o, rfl, c0, c1, c2, c3, c4, c5, c6⟩, hs⟩ := (HAE.out.fr HF.out) k m hm
      have HSS : Hid (∀ W, Fr [] wr W → Calls Try.prog 42 #[.agg #[.int .i64 R, .int .i64 P, .int .i64 Sn, .int .i64 ml], m.v] W (Still (.bool (q m)) W)) := Lib.hid fun W hF => HE1.out m W (List.mem_of_getElem? hm) (hs.fr hF)
      have hg : g < wr.heap.size := World.block_lt_of_cell? wr _ c0
      have HY := Lib.hid (fun hp => all_snoc hm HT.out (p := q) hp)
      have HN : Hid (m.op ≠ 1 ∨ q m = false → v = false) := Lib.hid (fun hp => by
        cases v
        · rfl
        · have h := HI.out.1 rfl
          rcases hp with hp | hp
          · exact absurd (h.1 m (List.mem_of_getElem? hm)) hp
          · rw [all_no hm hp] at h; exact absurd h.2.1 (by simp))
      have HO2 : Hid (m.op = 1 → ∀ i ∈ en.take (k + 1), i.op = 1) := Lib.hid (fun h1 i hi => by
        rw [take_snoc hm] at hi
        rcases List.mem_append.1 hi with hi | hi
        · exact HO.out i hi
        · simp at hi; rw [hi]; exact h1)
      obtain ⟨b, hb⟩ : ∃ b, b = q m := ⟨_, rfl⟩
      simp only [← hb] at HY HN HSS
      have k0 : (0 : Int) ≤ (k : Int) := by omega
      have k1 : (k : Int) < (el : Int) := by omega
      have b0 := cell_of_heap (o := 0) HB.out rfl; have b1 := cell_of_heap (o := 1) HB.out rfl; have b2 := cell_of_heap (o := 2) HB.out rfl; have b3 := cell_of_heap (o := 3) HB.out rfl; have b4 := cell_of_heap (o := 4) HB.out rfl; have b5 := cell_of_heap (o := 5) HB.out rfl; have b6 := cell_of_heap (o := 6) HB.out rfl; have b7 := cell_of_heap (o := 7) HB.out rfl; have b8 := cell_of_heap (o := 8) HB.out rfl; have b9 := cell_of_heap (o := 9) HB.out rfl
      have r0 := cell_of_heap (o := 0) HR.out rfl; have r1 := cell_of_heap (o := 1) HR.out rfl; have r2 := cell_of_heap (o := 2) HR.out rfl; have r3 := cell_of_heap (o := 3) HR.out rfl
      obtain ⟨op, n, ⟨dk, dn, dw⟩, la, l, lc, x⟩ := m
      unfold Ii.v at HSS
      simp only at c0 c1 c2 c3 c4 c5 c6 hs HSS HN HO2
      generalize l.length = ll at *
      clear hb hkl hm hs
      by_cases h1 : op = 1
      · subst h1
        cases b
        · have HE := Lib.hid (HN.out (.inr rfl))
          clear HN HY HO2
          go_wp2_with (first
            | (go_at_call 42; refine (HSS.out _ (by (repeat (first | (with_reducible refine Fr.setCell ?_ (fun h => absurd h (Nat.lt_irrefl _)) _) | (with_reducible refine Fr.setCell ?_ (fun h => absurd h (by first | omega | (simp; done) | (simp; omega) | (dsimp only; omega))) _) | (with_reducible refine Fr.alloc ?_ _) | (with_reducible refine Fr.drew ?_) | (with_reducible refine Fr.drewN ?_ _) | (with_reducible exact Fr.refl [] wr))))).mono ?_; rintro e w2 ⟨rfl, hF⟩; have HF2 : Hid (Fr [] wr w2) := ((Fr.refl [] wr).alloc _).trans hF; clear hF))
          go_ret
          exact ⟨ret1 (vb HE.out.symm), HF.out.trans HF2.out⟩
        · have HE := Lib.hid (HY.out rfl)
          have HO3 := Lib.hid (HO2.out rfl)
          clear HN HY HO2
          go_wp2_with (first
            | (go_at_call 42; refine (HSS.out _ (by (repeat (first | (with_reducible refine Fr.setCell ?_ (fun h => absurd h (Nat.lt_irrefl _)) _) | (with_reducible refine Fr.setCell ?_ (fun h => absurd h (by first | omega | (simp; done) | (simp; omega) | (dsimp only; omega))) _) | (with_reducible refine Fr.alloc ?_ _) | (with_reducible refine Fr.drew ?_) | (with_reducible refine Fr.drewN ?_ _) | (with_reducible exact Fr.refl [] wr))))).mono ?_; rintro e w2 ⟨rfl, hF⟩; have HF2 : Hid (Fr [] wr w2) := ((Fr.refl [] wr).alloc _).trans hF; clear hF))
          go_roundw
          case rel => exact ⟨k + 1, by omega, by go_num, HF.out.trans HF2.out, HF2.out.heap (by simp) HB.out, HF2.out.heap (by simp) HR.out, HE, HO3⟩
          case measure => simp [intOf]; omega
      · have HE := Lib.hid (HN.out (.inl h1))
        have e1 : (op == 1) = false := by simp [h1]
        have e2 : (op != 1) = true := by simp [h1]
        clear HN HY HO2 h1
        go_wp2_with fail
        go_ret
        exact ⟨ret1 (vb HE.out.symm), HF.out.alloc _⟩
    · have hkn : k = el := by omega
      subst hkn
      have hkd : decide (k < k) = false := by simp
      have HEA := Lib.hid (all_end HT.out HEL.out)
      have HEO : Hid (∀ i ∈ en, i.op = 1) := Lib.hid (by have := HO.out; rw [HEL.out, List.take_length] at this; exact this)
      have b0 := cell_of_heap (o := 0) HB.out rfl; have b1 := cell_of_heap (o := 1) HB.out rfl; have b2 := cell_of_heap (o := 2) HB.out rfl; have b3 := cell_of_heap (o := 3) HB.out rfl; have b4 := cell_of_heap (o := 4) HB.out rfl; have b5 := cell_of_heap (o := 5) HB.out rfl; have b6 := cell_of_heap (o := 6) HB.out rfl; have b7 := cell_of_heap (o := 7) HB.out rfl; have b8 := cell_of_heap (o := 8) HB.out rfl; have b9 := cell_of_heap (o := 9) HB.out rfl
      have hwF := HF.out.size
      clear HT HO
      go_wp2_with fail
      clear b0 b1 b2 b3 b4 b5 b6 b7 b8 b9
      have HB4 := Lib.hid (((Fr.refl [] wr).alloc (.cells (Array.replicate Sn (Value.bool false)) 4)).heap (by simp) HB.out)
      have HR4 := Lib.hid (((Fr.refl [] wr).alloc (.cells (Array.replicate Sn (Value.bool false)) 4)).heap (by simp) HR.out)
      have HF4 := Lib.hid (HF.out.alloc (.cells (Array.replicate Sn (Value.bool false)) 4))
      have HK4 : Hid (TkAt (wr.alloc (.cells (Array.replicate Sn (Value.bool false)) 4)) wr.heap.size (marks Sn (co.take 0))) := Lib.hid (by
        rw [List.take_zero]
        unfold TkAt
        rw [← made_marks, List.toArray_replicate]
        exact heap_new _ _)
      clear HB HR HF HU HF1 HAE HE1
      generalize wr.alloc (.cells (Array.replicate Sn (Value.bool false)) 4) = wt at *
      generalize wr.heap.size = tb at *
      go_loopw [34] (fun i wq => ∃ j : Nat, j ≤ cl ∧ i = .int .i64 j ∧ Hid (Fr [] w wq) ∧ Hid (wq.heap[w.heap.size]? = some (.cells #[.int .u64 method, .int .i64 args, .int .i64 T, .int .i64 R, .int .i64 P, .int .i64 Sn, .slice ea k ec, .slice ca cl cc, .slice sa sl sc, .slice ma ml mc] 43)) ∧ Hid (wq.heap[w1.heap.size]? = some (.cells #[.int .i64 R, .int .i64 P, .int .i64 Sn, .int .i64 ml] 63)) ∧ Hid (TkAt wq tb (marks Sn (co.take j))) ∧ Hid ((co.take j).all q = true) ∧ Hid (apart (co.take j))) (fun i _ => cl - (intOf i).toNat)
      case atStart => exact ⟨0, Nat.zero_le _, rfl, HF4, HB4, HR4, HK4, Lib.hid (by simp), Lib.hid (fun i j a b _ h => by simp at h)⟩
      case round =>
        obtain ⟨j, hj, rfl, HF, HB, HR, HK, HT, HP⟩ := hrel
        have hw30 : w.heap.size < wr.heap.size := lt_of_heap HB.out
        have hw31 : w1.heap.size < wr.heap.size := lt_of_heap HR.out
        have hw32 : tb < wr.heap.size := lt_of_heap HK.out
        by_cases hlt : j < cl
        · have hkl : j < co.length := by rw [← HCL.out]; exact hlt
          obtain ⟨m, hm⟩ : ∃ m, co[j]? = some m := ⟨_, List.getElem?_eq_getElem hkl⟩
          obtain ⟨⟨g, o, rfl, c0, c1, c2, c3, c4, c5, c6⟩, hs⟩ := (HAC.out.fr HF.out) j m hm
          have HSS : Hid (∀ W, Fr [] wr W → Calls Try.prog 42 #[.agg #[.int .i64 R, .int .i64 P, .int .i64 Sn, .int .i64 ml], m.v] W (Still (.bool (q m)) W)) := Lib.hid fun W hF => HE2.out m W (List.mem_of_getElem? hm) (hs.fr hF)
          have hg : g < wr.heap.size := World.block_lt_of_cell? wr _ c0
          have HY := Lib.hid (fun hp => all_snoc hm HT.out (p := q) hp)
          have HN : Hid (q m = false → v = false) := Lib.hid (fun hp => by
            cases v
            · rfl
            · have h := HI.out.1 rfl
              rw [all_no hm hp] at h
              exact absurd h.2.2.1 (by simp))
          have HNN : Hid (m.op = 7 → (co.take j).any (fun a => decide (a.op = 7 ∧ a.n = m.n)) = true → v = false) := Lib.hid (fun h7 hp => by
            cases v
            · rfl
            · exact absurd (HI.out.1 rfl).2.2.2 (apart_no hm h7 hp))
          have HPP : Hid ((m.op = 7 → (co.take j).any (fun a => decide (a.op = 7 ∧ a.n = m.n)) = false) → apart (co.take (j + 1))) := Lib.hid (fun h => apart_snoc hm HP.out h)
          have HMO : Hid (m.op ≠ 7 → marks Sn (co.take (j + 1)) = marks Sn (co.take j)) := Lib.hid (fun h => by rw [take_snoc hm]; exact marks_other h)
          have HMS : Hid (∀ n : Nat, m.op = 7 → m.n = (n : Int) → marks Sn (co.take (j + 1)) = (marks Sn (co.take j)).set n true) := Lib.hid (fun n h hn => by rw [take_snoc hm]; exact marks_set h hn)
          have HQ1 := Lib.hid (HQS.out m)
          obtain ⟨b, hb⟩ : ∃ b, b = q m := ⟨_, rfl⟩
          simp only [← hb] at HY HN HSS HQ1
          have k0 : (0 : Int) ≤ (j : Int) := by omega
          have k1 : (j : Int) < (cl : Int) := by omega
          have b0 := cell_of_heap (o := 0) HB.out rfl; have b1 := cell_of_heap (o := 1) HB.out rfl; have b2 := cell_of_heap (o := 2) HB.out rfl; have b3 := cell_of_heap (o := 3) HB.out rfl; have b4 := cell_of_heap (o := 4) HB.out rfl; have b5 := cell_of_heap (o := 5) HB.out rfl; have b6 := cell_of_heap (o := 6) HB.out rfl; have b7 := cell_of_heap (o := 7) HB.out rfl; have b8 := cell_of_heap (o := 8) HB.out rfl; have b9 := cell_of_heap (o := 9) HB.out rfl
          have r0 := cell_of_heap (o := 0) HR.out rfl; have r1 := cell_of_heap (o := 1) HR.out rfl; have r2 := cell_of_heap (o := 2) HR.out rfl; have r3 := cell_of_heap (o := 3) HR.out rfl
          obtain ⟨op, n, ⟨dk, dn, dw⟩, la, l, lc, x⟩ := m
          unfold Ii.v at HSS
          simp only at c0 c1 c2 c3 c4 c5 c6 hs HSS HN HNN HPP HMO HMS HQ1
          generalize l.length = ll at *
          clear hb hkl hm hs
          cases b
          · have HE := Lib.hid (HN.out rfl)
            clear HN HY HNN HPP HMO HMS HQ1
            go_wp2_with (first
              | (go_at_call 42; refine (HSS.out _ (by (repeat (first | (with_reducible refine Fr.setCell ?_ (fun h => absurd h (Nat.lt_irrefl _)) _) | (with_reducible refine Fr.setCell ?_ (fun h => absurd h (by first | omega | (simp; done) | (simp; omega) | (dsimp only; omega))) _) | (with_reducible refine Fr.alloc ?_ _) | (with_reducible refine Fr.drew ?_) | (with_reducible refine Fr.drewN ?_ _) | (with_reducible exact Fr.refl [] wr))))).mono ?_; rintro e w2 ⟨rfl, hF⟩; have HF2 : Hid (Fr [] wr w2) := ((Fr.refl [] wr).alloc _).trans hF; clear hF))
            go_ret
            exact ⟨ret1 (vb HE.out.symm), HF.out.trans HF2.out⟩
          · have HE := Lib.hid (HY.out rfl)
            clear HN HY
            by_cases h7 : op = 7
            · subst h7
              have hq7 := HQ1.out rfl rfl
              obtain ⟨nn, rfl⟩ : ∃ z : Nat, n = (z : Int) := ⟨n.toNat, by omega⟩
              have hn1 : nn < Sn := by omega
              have n0 : (0 : Int) ≤ (nn : Int) := by omega
              have n1 : (nn : Int) < (Sn : Int) := by omega
              have HMA := Lib.hid (marks_at (l := co.take j) hn1)
              have HNN2 := Lib.hid (HNN.out rfl)
              have HPP2 : Hid ((co.take j).any (fun a => decide (a.op = 7 ∧ a.n = (nn : Int))) = false → apart (co.take (j + 1))) := Lib.hid (fun h => HPP.out (fun _ => h))
              have HMS2 := Lib.hid (HMS.out nn rfl rfl)
              clear HNN HPP HMO HMS HQ1 hq7 hn1
              generalize (co.take j).any (fun a => decide (a.op = 7 ∧ a.n = (nn : Int))) = tk at *
              cases tk
              · have HP2 := Lib.hid (HPP2.out rfl)
                clear HNN2 HPP2
                go_wp2_with (first
                  | (go_at_call 42; refine (HSS.out _ (by (repeat (first | (with_reducible refine Fr.setCell ?_ (fun h => absurd h (Nat.lt_irrefl _)) _) | (with_reducible refine Fr.setCell ?_ (fun h => absurd h (by first | omega | (simp; done) | (simp; omega) | (dsimp only; omega))) _) | (with_reducible refine Fr.alloc ?_ _) | (with_reducible refine Fr.drew ?_) | (with_reducible refine Fr.drewN ?_ _) | (with_reducible exact Fr.refl [] wr))))).mono ?_; rintro e w2 ⟨rfl, hF⟩; have HF2 : Hid (Fr [] wr w2) := ((Fr.refl [] wr).alloc _).trans hF; have HI2 := Lib.hid (hF.heap (by simp) (heap_new wr _)); have i0 := cell_of_heap (o := 0) HI2.out rfl; have i1 := cell_of_heap (o := 1) HI2.out rfl; have i2 := cell_of_heap (o := 2) HI2.out rfl; have i3 := cell_of_heap (o := 3) HI2.out rfl; have i4 := cell_of_heap (o := 4) HI2.out rfl; have i5 := cell_of_heap (o := 5) HI2.out rfl; have i6 := cell_of_heap (o := 6) HI2.out rfl; have HK2 : Hid (TkAt w2 tb _) := Lib.hid (HF2.out.heap (by simp) HK.out); have ht := HK2.out.cell HMA.out; have hfz := frozen_of_heap (o := nn) HK2.out; have hw2 := lt_of_heap HI2.out; clear hF))
                go_roundw
                case rel =>
                  refine ⟨j + 1, by omega, by go_num, (HF.out.trans HF2.out).setCell (fun h => absurd h (by show ¬ tb < w.heap.size; omega)) _, ?_, ?_, ?_, HE, HP2⟩
                  · exact ((Fr.refl [tb] w2).setCell (fun _ => by simp) _).heap (by simp; omega) (HF2.out.heap (by simp) HB.out)
                  · exact ((Fr.refl [tb] w2).setCell (fun _ => by simp) _).heap (by simp; omega) (HF2.out.heap (by simp) HR.out)
                  · rw [HMS2.out]
                    exact HK2.out.set nn true
                case measure => simp [intOf]; omega
              · have HV := Lib.hid (HNN2.out rfl)
                clear HNN2 HPP2
                go_wp2_with (first
                  | (go_at_call 42; refine (HSS.out _ (by (repeat (first | (with_reducible refine Fr.setCell ?_ (fun h => absurd h (Nat.lt_irrefl _)) _) | (with_reducible refine Fr.setCell ?_ (fun h => absurd h (by first | omega | (simp; done) | (simp; omega) | (dsimp only; omega))) _) | (with_reducible refine Fr.alloc ?_ _) | (with_reducible refine Fr.drew ?_) | (with_reducible refine Fr.drewN ?_ _) | (with_reducible exact Fr.refl [] wr))))).mono ?_; rintro e w2 ⟨rfl, hF⟩; have HF2 : Hid (Fr [] wr w2) := ((Fr.refl [] wr).alloc _).trans hF; have HI2 := Lib.hid (hF.heap (by simp) (heap_new wr _)); have i0 := cell_of_heap (o := 0) HI2.out rfl; have i1 := cell_of_heap (o := 1) HI2.out rfl; have i2 := cell_of_heap (o := 2) HI2.out rfl; have i3 := cell_of_heap (o := 3) HI2.out rfl; have i4 := cell_of_heap (o := 4) HI2.out rfl; have i5 := cell_of_heap (o := 5) HI2.out rfl; have i6 := cell_of_heap (o := 6) HI2.out rfl; have HK2 : Hid (TkAt w2 tb _) := Lib.hid (HF2.out.heap (by simp) HK.out); have ht := HK2.out.cell HMA.out; have hw2 := lt_of_heap HI2.out; clear hF))
                go_ret
                exact ⟨ret1 (vb HV.out.symm), HF.out.trans HF2.out⟩
            · have HP2 := Lib.hid (HPP.out (fun h => absurd h h7))
              have HM2 := Lib.hid (HMO.out h7)
              have e1 : (op == 7) = false := by simp [h7]
              have e2 : (op != 7) = true := by simp [h7]
              clear HNN HPP HMO HMS HQ1 h7
              go_wp2_with (first
                | (go_at_call 42; refine (HSS.out _ (by (repeat (first | (with_reducible refine Fr.setCell ?_ (fun h => absurd h (Nat.lt_irrefl _)) _) | (with_reducible refine Fr.setCell ?_ (fun h => absurd h (by first | omega | (simp; done) | (simp; omega) | (dsimp only; omega))) _) | (with_reducible refine Fr.alloc ?_ _) | (with_reducible refine Fr.drew ?_) | (with_reducible refine Fr.drewN ?_ _) | (with_reducible exact Fr.refl [] wr))))).mono ?_; rintro e w2 ⟨rfl, hF⟩; have HF2 : Hid (Fr [] wr w2) := ((Fr.refl [] wr).alloc _).trans hF; have HI2 := Lib.hid (hF.heap (by simp) (heap_new wr _)); have i0 := cell_of_heap (o := 0) HI2.out rfl; have i1 := cell_of_heap (o := 1) HI2.out rfl; have i2 := cell_of_heap (o := 2) HI2.out rfl; have i3 := cell_of_heap (o := 3) HI2.out rfl; have i4 := cell_of_heap (o := 4) HI2.out rfl; have i5 := cell_of_heap (o := 5) HI2.out rfl; have i6 := cell_of_heap (o := 6) HI2.out rfl; have hw2 := lt_of_heap HI2.out; clear hF))
              go_roundw
              case rel => exact ⟨j + 1, by omega, by go_num, HF.out.trans HF2.out, HF2.out.heap (by simp) HB.out, HF2.out.heap (by simp) HR.out, Lib.hid (by rw [HM2.out]; exact HF2.out.heap (by simp) HK.out), HE, HP2⟩
              case measure => simp [intOf]; omega
        · have hkn : j = cl := by omega
          have HTA := Lib.hid (all_end HT.out (hkn.trans HCL.out))
          have HPA : Hid (apart co) := Lib.hid (by have := HP.out; rw [hkn, HCL.out, List.take_length] at this; exact this)
          have HV : Hid (v = true) := Lib.hid (HI.out.2 ⟨HEO.out, HEA.out, HTA.out, HPA.out⟩)
          have hkd2 : decide (j < cl) = false := by simp; omega
          have hkd3 : ¬ (j : Int) < (cl : Int) := by omega
          clear hkn
          go_wp2_with fail
          go_ret
          exact ⟨ret1 (vb HV.out.symm), HF.out⟩
end Go.Proofs.Ytcdpgchkdjjfgaa
