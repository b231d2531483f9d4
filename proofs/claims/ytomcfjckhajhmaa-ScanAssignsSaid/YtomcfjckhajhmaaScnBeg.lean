/- scan: the numbers of the intervals in the order in which they are taken. -/
import Derived.Test.YtomcfjckhajhmaaScnPlace
namespace Go.Proofs.Ytomcfjckhajhmaa
open Go.RowKit Go.Shelf Go.Sort

section
variable {L : List Iv} {m : Nat} (hL : L.length = m + 1) (nd : L.Pairwise (fun a b => a.v ≠ b.v))
theorem lt_beg (x y : Fin (m + 1)) : ltOf (fun a b : Fin (m + 1) => cmpBeg (getI L a.val) (getI L b.val)) x y = decide (begLt (getI L x.val) (getI L y.val)) := by
  unfold ltOf
  rw [decide_eq_decide]
  exact cmpBeg_neg
theorem swo_beg : SWO (ltOf (fun a b : Fin (m + 1) => cmpBeg (getI L a.val) (getI L b.val))) where
  irrefl x := by rw [lt_beg]; simp; exact fun h => by unfold begLt at h; omega
  trans x y z h1 h2 := by rw [lt_beg] at *; simp at *; exact h1.trans h2
  ntrans x y z h1 h2 := by rw [lt_beg] at *; simp at *; unfold begLt at *; omega
include hL nd in
theorem tot_beg (x y : Fin (m + 1)) (h1 : ltOf (fun a b : Fin (m + 1) => cmpBeg (getI L a.val) (getI L b.val)) x y = false) (h2 : ltOf (fun a b : Fin (m + 1) => cmpBeg (getI L a.val) (getI L b.val)) y x = false) : x = y := by
  rw [lt_beg] at *
  simp at h1 h2
  apply Fin.ext
  exact nd_inj nd (getI_at (by omega)) (getI_at (by omega)) (by unfold begLt at *; omega)
include hL nd in
theorem beg_sorted (l : List (Fin (m + 1))) (hn : l.Nodup) : ((l.mergeSort fun x y => !ltOf (fun a b : Fin (m + 1) => cmpBeg (getI L a.val) (getI L b.val)) y x).map fun k => k.val).Perm (l.map fun k => k.val) ∧
    (((l.mergeSort fun x y => !ltOf (fun a b : Fin (m + 1) => cmpBeg (getI L a.val) (getI L b.val)) y x).map fun k => k.val).map (getI L)).Pairwise begLt := by
  have hp := List.mergeSort_perm l (fun x y => !ltOf (fun a b : Fin (m + 1) => cmpBeg (getI L a.val) (getI L b.val)) y x)
  refine ⟨hp.map _, List.pairwise_map.2 (List.pairwise_map.2 ?_)⟩
  have hs := List.pairwise_mergeSort (le := fun x y => !ltOf (fun a b : Fin (m + 1) => cmpBeg (getI L a.val) (getI L b.val)) y x) (fun a b c h1 h2 => by rw [lt_beg] at *; simp at *; unfold begLt at *; omega) (fun a b => by rw [lt_beg, lt_beg]; simp; unfold begLt; omega) l
  have hn' := hp.nodup_iff.2 hn
  refine (hs.and hn').imp ?_
  rintro a b ⟨h1, h2⟩
  rw [lt_beg] at h1
  simp at h1
  by_cases he : (getI L a.val).v = (getI L b.val).v
  · exact absurd (Fin.ext (nd_inj nd (getI_at (by omega)) (getI_at (by omega)) he)) h2
  · unfold begLt at *; omega
end
/-- all numbers of intervals, sorted -/
theorem sort_all {L : List Iv} {n g bx lc : Nat} {la : Option Addr} {w : World} (hr : w.ownsRow 0 3 1 (.slice (some ⟨g, 0, none⟩) n n) n ((List.range n).map fun k : Nat => .int .i64 (k : Int))) (hL : ∀ W, Fr [g] w W → IvM W la L) (hn : L.length = n) (nd : L.Pairwise (fun a b => a.v ≠ b.v)) (hnn : n < 4611686018427387904)
    (hbx : w.heap[bx]? = some (.cells #[.slice la n lc] 22 (0, 0))) :
    Calls Try.prog 20 #[.slice (some ⟨g, 0, none⟩) n n, .func (.func 21) #[] #[.pointer (some ⟨bx, 0, none⟩)]] w fun e w' => e = .returned (.tuple #[]) ∧ Fr [g] w w' ∧ ∃ ys : List Nat, ys.Perm (List.range n) ∧ (ys.map (getI L)).Pairwise begLt ∧ w'.ownsRow 0 3 1 (.slice (some ⟨g, 0, none⟩) n n) n (ys.map fun k : Nat => .int .i64 (k : Int)) := by
  by_cases h0 : n = 0
  · subst h0
    have h1 := AnyF.slices_SortFunc_none (P := Try.prog) (ρ := Try.scSort_ren) { Try.scSort with } (some ⟨g, 0, none⟩) 0 (.func (.func 21) #[] #[.pointer (some ⟨bx, 0, none⟩)]) w
    refine h1.mono ?_
    rintro e w' ⟨rfl, rfl⟩
    exact ⟨rfl, Fr.refl _ _, [], List.Perm.refl _, List.Pairwise.nil, hr⟩
  obtain ⟨m, rfl⟩ : ∃ m, n = m + 1 := ⟨n - 1, by omega⟩
  obtain ⟨l, hl⟩ := fin_list (List.range (m + 1)) (fun x hx => List.mem_range.1 hx)
  have hlen : l.length = m + 1 := by have := congrArg List.length hl; simpa using this
  have hln : l.Nodup := by
    have := List.nodup_range (n := m + 1)
    rw [← hl] at this
    exact List.Pairwise.of_map (fun k => k.val) (fun a b h e => h (by rw [e])) this
  have hrow := hr
  rw [← hl, ← encF_map] at hrow
  have hne : bx ≠ g := by
    rcases hr.2 with ⟨hv, -⟩ | ⟨g', cap', cur', hv, -, hh, -⟩
    · cases hv
    · cases hv
      exact heap_ne hbx hh (by decide)
  obtain ⟨p1, p2⟩ := beg_sorted hn nd l hln
  have hs := sl_sortFn 21 (enters_of Try.func21 (by kernel_rfl) rfl) #[.pointer (some ⟨bx, 0, none⟩)] (fun a b : Fin (m + 1) => cmpBeg (getI L a.val) (getI L b.val)) swo_beg (tot_beg hn nd) (g := g) (cap := m + 1) (l := l) (w := w) (by rw [hlen]; exact hrow)
    (by omega) (fun W hW x y => by
      have hb1 := hW.heap (k := bx) (by simpa using hne) hbx
      exact sc_begin1 bx la lc (m + 1) L x.val y.val _ _ W (cell_of_heap hb1 rfl) (hL W hW) hn (getI_at (by omega)) (getI_at (by omega)))
  rw [hlen] at hs
  refine hs.mono ?_
  rintro e w' ⟨rfl, hF, hR⟩
  refine ⟨rfl, hF, _, by rw [← hl]; exact p1, p2, ?_⟩
  rw [encF_map] at hR
  exact hR
theorem made_all (z : Value) (n : Nat) (hz : z.cells = #[z]) : madeCells z.cells n = (List.replicate n z).toArray := by
  rw [hz]
  apply Array.ext_getElem?
  intro k
  by_cases h : k < n
  · simp [madeCells, h, Nat.mod_one]
  · simp [madeCells, h]
theorem makeNn (n : Nat) (h2 : n < 1099511627776 * 8) (W : World) : (Instr.makeSlice 41 (.int .i64 (n : Int)) (.int .i64 (n : Int))).run Try.prog W = .ok (.slice (some ⟨W.heap.size, 0, none⟩) n n) (W.alloc (.cells (List.replicate n (Value.int .i64 0)).toArray 3)) := by
  obtain ⟨i0, hi, hz0, hz1, hz2⟩ := info_parts infoN
  have hr := run_make (P := Try.prog) W 41 3 i0 (.int .i64 0) Try.underlying41 hi hz0 .i64 .i64 n n (by omega) (by omega) (by rw [hz2]; omega) (by omega)
  simp only [Int.toNat_natCast, hz1, Nat.mul_one] at hr
  rw [made_all _ _ rfl] at hr
  exact hr
set_option maxRecDepth 100000 in
set_option maxHeartbeats 4000000 in
theorem sc_byBeginning (la : Option Addr) (lc n : Nat) (L : List Iv) (w : World) (hL : IvM w la L) (hn : L.length = n) (nd : L.Pairwise (fun a b => a.v ≠ b.v)) (hnn : n < 1099511627776 * 8) :
    Calls Try.prog 14 #[.slice la n lc] w fun e w' => ∃ g ys, e = .returned (.slice (some ⟨g, 0, none⟩) n n) ∧ Fr [] w w' ∧ List.Perm ys (List.range n) ∧ (ys.map (getI L)).Pairwise begLt ∧ w'.ownsRow 0 3 1 (.slice (some ⟨g, 0, none⟩) n n) n (ys.map fun k : Nat => .int .i64 (k : Int)) := by
  have HL := Lib.hid hL
  have HN := Lib.hid hn
  have HND := Lib.hid nd
  have b1 : (0 : Int) ≤ (n : Int) := by omega
  have b2 : (n : Int) * 8 ≤ 281474976710656 := by omega
  clear hL hn nd
  go_enter Try.func14, Try.ntmps14
  have hmk := fun W => makeNn n hnn W
  go_wp2
  obtain ⟨bx, hbx⟩ : ∃ bx, bx = w.heap.size := ⟨_, rfl⟩
  obtain ⟨g, hg⟩ : ∃ g, g = w.heap.size + 1 := ⟨_, rfl⟩
  rw [← hg, ← hbx]
  obtain ⟨W1, hW1⟩ : ∃ W1, W1 = (w.alloc (.cells #[.slice la n lc] 22)).alloc (.cells (Array.replicate n (Value.int .i64 0)) 3) := ⟨_, rfl⟩
  rw [← hW1]
  have h1 : W1.heap[bx]? = some (.cells #[.slice la n lc] 22 (0, 0)) := by
    rw [hW1, hbx]
    exact ((Fr.refl [] (w.alloc (.cells #[.slice la n lc] 22))).alloc _).heap (by simp) (heap_new w _)
  have h2 : W1.heap[g]? = some (.cells (Array.replicate n (Value.int .i64 0)) 3 (0, 0)) := by
    rw [hW1, hg]
    have := heap_new (w.alloc (.cells #[.slice la n lc] 22)) (.cells (Array.replicate n (Value.int .i64 0)) 3)
    simpa using this
  have hF1 : Fr [] w W1 := by rw [hW1]; exact ((Fr.refl _ _).alloc _).alloc _
  have hgw : w.heap.size ≤ g := by omega
  have hbg : bx ≠ g := by omega
  have H1 := Lib.hid h1
  have H2 := Lib.hid h2
  have HF1 := Lib.hid hF1
  clear h1 h2 hW1 hbx hg hF1 hmk
  go_loopw [10] (fun i wr => ∃ (k : Nat) (cur : Array Value), k ≤ n ∧ i = .int .i64 k ∧ Hid (wr.heap[g]? = some (.cells cur 3 (0, 0))) ∧ Hid (cur.size = n) ∧ Hid (∀ j, j < k → cur[j]? = some (.int .i64 j)) ∧ Hid (Fr [g] W1 wr)) (fun i _ => n - (RowKit.intOf i).toNat)
  case atStart => exact ⟨0, _, Nat.zero_le _, rfl, H2, Lib.hid (by simp), Lib.hid (fun j hj => by omega), Fr.refl _ _⟩
  case round =>
    obtain ⟨k, cur, hk, rfl, HH, HZ, HC, HF⟩ := hrel
    have hlt := lt_of_heap HH.out
    by_cases hkn : k < n
    · have k0 : (0 : Int) ≤ (k : Int) := by omega
      have k1 : (k : Int) < (n : Int) := by omega
      obtain ⟨v, hv⟩ : ∃ v, cur[k]? = some v := ⟨_, Array.getElem?_eq_getElem (by rw [HZ.out]; exact hkn)⟩
      have c0 : wr.cell? ⟨g, k, none⟩ = some v := cell_of_heap HH.out hv
      have f0 : wr.frozen? ⟨g, k, none⟩ = false := frozen_of_heap HH.out
      clear hv
      go_wp2
      go_roundw
      case rel =>
        refine ⟨k + 1, cur.setIfInBounds k (.int .i64 k), by omega, by go_num, Lib.hid (heap_setCell_same HH.out _), Lib.hid (by simpa using HZ.out), Lib.hid (fun j hj => ?_), Lib.hid (Fr.setCell HF.out (fun _ => by simp) _)⟩
        rw [Array.getElem?_setIfInBounds]
        by_cases e : k = j
        · subst e
          rw [if_pos rfl, if_pos (by rw [HZ.out]; exact hkn)]
        · rw [if_neg e]
          exact HC.out j (by omega)
      case measure => simp [RowKit.intOf]; omega
    · have hke : k = n := by omega
      have k1 : ¬ (k : Int) < (n : Int) := by omega
      have hrow : wr.ownsRow 0 3 1 (.slice (some ⟨g, 0, none⟩) n n) n ((List.range n).map fun k : Nat => .int .i64 (k : Int)) := by
        refine ⟨by simp, .inr ⟨g, n, cur, rfl, Nat.zero_le _, HH.out, Nat.le_refl _, by unfold maxLen; omega, by rw [HZ.out, Nat.mul_one], ?_⟩⟩
        apply List.ext_getElem?
        intro j
        rw [Nat.mul_one, List.getElem?_take, List.getElem?_map]
        by_cases hj : j < n
        · rw [if_pos hj, Array.getElem?_toList, HC.out j (by omega)]
          simp [hj]
        · rw [if_neg hj]
          simp [hj]
      have hb := HF.out.heap (by simpa using hbg) H1.out
      have HS := Lib.hid (sort_all hrow (fun W hW => HL.out.fr (HF1.out.trans' (HF.out.trans hW) (S'' := []) (fun _ _ e => e) (fun j hj e => by simp only [List.mem_cons, List.not_mem_nil, or_false] at e; omega))) HN.out HND.out (by omega) hb)
      have hb0 := cell_of_heap (o := 0) hb rfl
      clear hrow hke
      go_wp2_with (go_at_call 20; refine HS.out.mono ?_; rintro e w2 ⟨rfl, hF2, ys, hp, hs, hr⟩; have HR2 := Lib.hid hr; have HF2 := Lib.hid hF2; have HP2 := Lib.hid hp; have HS2 := Lib.hid hs; clear hr hF2 hp hs)
      go_ret
      exact ⟨g, ys, rfl, HF1.out.trans' (HF.out.trans HF2.out) (S'' := []) (fun _ _ e => e) (fun j hj e => by simp only [List.mem_cons, List.not_mem_nil, or_false] at e; omega), HP2.out, HS2.out, HR2.out⟩
end Go.Proofs.Ytomcfjckhajhmaa
