/- scan: the program's Assign. -/
import Derived.Test.YtomcfjckhajhmaaScnValid
namespace Go.Proofs.Ytomcfjckhajhmaa
open Go.RowKit

/-- the places of all intervals, in the order in which they are taken -/
def Scanned (L : List Iv) (r : Nat) (s : St) : Prop := ∃ S : List Iv, S.Perm L ∧ S.Pairwise begLt ∧ Run r S s
/-- returned: a place for each, and the cells -/
def AsgYes (L : List Iv) (r n : Nat) (w : World) (e : Ending) (w' : World) : Prop := ∃ pb s cur, e = .returned (.tuple #[.slice (some ⟨pb, 0, none⟩) n n, .int .i64 (s.cells : Int), .int .i64 0]) ∧ Fr [] w w' ∧ w.heap.size ≤ pb ∧ w'.heap[pb]? = some (.cells cur 31 (0, 0)) ∧ PlC cur L s.out ∧ Scanned L r s
def AsgNo (w : World) (e : Ending) (w' : World) : Prop := e = .returned (.tuple #[.slice none 0 0, .int .i64 0, .int .i64 1]) ∧ Fr [] w w'
theorem infoSc : (Try.prog.info? 31).map (fun i => (i.zero, i.size, i.bytes)) = some (some (.agg #[.int .i64 0, .int .i64 0, .int .u64 0]), 3, 24) := by kernel_rfl
theorem infoBo : (Try.prog.info? 4).map (fun i => (i.zero, i.size, i.bytes)) = some (some (.bool false), 1, 1) := by kernel_rfl
theorem makeBo (n : Nat) (h2 : n ≤ 8) (W : World) : (Instr.makeSlice 40 (.int .i64 (n : Int)) (.int .i64 (n : Int))).run Try.prog W = .ok (.slice (some ⟨W.heap.size, 0, none⟩) n n) (W.alloc (.cells (takenL (List.replicate n none)).toArray 4)) := by
  obtain ⟨i0, hi, hz0, hz1, hz2⟩ := info_parts infoBo
  have hr := run_make (P := Try.prog) W 40 4 i0 (.bool false) Try.underlying40 hi hz0 .i64 .i64 n n (by omega) (by omega) (by rw [hz2]; omega) (by omega)
  simp only [Int.toNat_natCast, hz1, Nat.mul_one] at hr
  rw [made_all _ _ rfl] at hr
  rw [show takenL (List.replicate n none) = List.replicate n (Value.bool false) by unfold takenL; simp]
  exact hr
theorem makePl (L : List Iv) (n : Nat) (hn : L.length = n) (h2 : n < 1099511627776 * 8) : ∃ Z : Array Value, Hid (PlC Z L fun _ => (0, 0)) ∧ ∀ W : World, (Instr.makeSlice 24 (.int .i64 (n : Int)) (.int .i64 (n : Int))).run Try.prog W = .ok (.slice (some ⟨W.heap.size, 0, none⟩) n n) (W.alloc (.cells Z 31)) := by
  obtain ⟨i0, hi, hz0, hz1, hz2⟩ := info_parts infoSc
  refine ⟨madeCells (Value.agg #[.int .i64 0, .int .i64 0, .int .u64 0]).cells (n * 3), ⟨by rw [size_madeCells, hn], fun k x hx => ?_⟩, fun W => ?_⟩
  · have hk : k < n := by rw [← hn]; exact (List.getElem?_eq_some_iff.1 hx).1
    have e0 : k * 3 < n * 3 := by omega
    have e1 : k * 3 + 1 < n * 3 := by omega
    have e2 : k * 3 + 2 < n * 3 := by omega
    have m0 : k * 3 % 3 = 0 := by omega
    have m1 : (k * 3 + 1) % 3 = 1 := by omega
    have m2 : (k * 3 + 2) % 3 = 2 := by omega
    refine ⟨?_, ?_, ?_⟩ <;> simp [madeCells, e0, e1, e2, m0, m1, m2, Value.cells]
  · have hr := run_make (P := Try.prog) W 24 31 i0 _ Try.underlying24 hi hz0 .i64 .i64 n n (by omega) (by omega) (by rw [hz2]; omega) (by omega)
    simp only [Int.toNat_natCast, hz1] at hr
    exact hr
theorem al_start {W2 : World} {la : Option Addr} {lc n : Nat} {L : List Iv} {r b pb tb : Nat} {Z : Array Value} (hlb : L ≠ [] → ∀ g o, la = some ⟨g, o, none⟩ → g ∉ [b, pb, tb]) (hB : W2.heap[b]? = some (.cells #[.slice la n lc, .slice (some ⟨pb, 0, none⟩) n n, .slice (some ⟨tb, 0, none⟩) r r, .slice none 0 0, .int .i64 0] 43 (0, 0))) (hP : W2.heap[pb]? = some (.cells Z 31 (0, 0))) (hT : W2.heap[tb]? = some (.cells (takenL (List.replicate r none)).toArray 4 (0, 0))) (hZ : PlC Z L fun _ => (0, 0)) : AL ⟨W2, la, lc, L, r, b, pb, tb⟩ n (startS r) [] (.slice none 0 0) W2 :=
  ⟨Fr.refl _ _, hlb, hB, ⟨rfl, .inl ⟨rfl, rfl⟩⟩, (fun _ h => by cases h), ⟨Z, hP, hZ⟩, hT, (by simp [startS]), ⟨(fun k hk => by cases hk), fun q x hq => absurd ((inv_start r).held q x hq).1 (by simp), List.Pairwise.nil⟩⟩
/-- the intervals by their numbers, in the order in which they are taken -/
structure Sorted3 (L : List Iv) (n : Nat) (ys : List Nat) : Prop where
  perm : (ys.map (getI L)).Perm L
  so : (ys.map (getI L)).Pairwise begLt
  good : GoodP (ys.map (getI L))
theorem range_getI {L : List Iv} {n : Nat} (hn : L.length = n) : (List.range n).map (getI L) = L := by
  apply List.ext_getElem?
  intro k
  rw [List.getElem?_map]
  by_cases h : k < n
  · rw [List.getElem?_range h, getI_at (by omega)]; rfl
  · rw [List.getElem?_eq_none (by simp; omega), List.getElem?_eq_none (by omega)]; rfl
theorem sorted3 {L : List Iv} {n : Nat} {ys : List Nat} (hn : L.length = n) (nd : L.Pairwise (fun a b => a.v ≠ b.v)) (hp : ys.Perm (List.range n)) (hs : (ys.map (getI L)).Pairwise begLt) : Sorted3 L n ys := by
  have h1 : (ys.map (getI L)).Perm L := by have := hp.map (getI L); rwa [range_getI hn] at this
  exact ⟨h1, hs, hs, (h1.pairwise_iff (fun h => h.symm)).2 nd⟩
theorem GoodP.take {P : List Iv} (h : GoodP P) (k : Nat) : GoodP (P.take k) := ⟨h.so.sublist (List.take_sublist _ _), h.nd.sublist (List.take_sublist _ _)⟩
theorem asg_round {w2 wr : World} {la : Option Addr} {lc n : Nat} {L : List Iv} {r b pb tb k g : Nat} {ys hs : List Nat} {s : St} {hv : Value} (hn : L.length = n) (nd : L.Pairwise (fun a b => a.v ≠ b.v)) (hS : Sorted3 L n ys) (hY : ∀ x, x ∈ ys → x < n) (hYL : ys.length = n) (hR : w2.ownsRow 0 3 1 (.slice (some ⟨g, 0, none⟩) n n) n (ys.map fun k : Nat => .int .i64 (k : Int))) (hRu : Run r ((ys.map (getI L)).take k) s) (hA2 : AL ⟨w2, la, lc, L, r, b, pb, tb⟩ n (startS r) [] (.slice none 0 0) w2) (hA : AL ⟨w2, la, lc, L, r, b, pb, tb⟩ n s hs hv wr) (hk : k < n) :
    ∃ (x : Nat), wr.cell? ⟨g, k, none⟩ = some (.int .i64 (x : Int)) ∧ x < n ∧ L[x]? = some (getI L x) ∧ x ∉ hs ∧ s.cells ≤ n ∧ (ys.map (getI L)).take (k + 1) = (ys.map (getI L)).take k ++ [getI L x] := by
  have hyl : k < ys.length := by omega
  have hy : ys[k]? = some ys[k] := List.getElem?_eq_getElem hyl
  have hm := hY _ (List.getElem_mem hyl)
  have hg := hS.good.take k
  have hI := hRu.inv hg
  have hx : (ys.map (getI L))[k]? = some (getI L ys[k]) := by rw [List.getElem?_map, hy]; rfl
  refine ⟨ys[k], ?_, hm, getI_at (by omega), fun hmem => ?_, ?_, by rw [List.take_add_one, hx]; rfl⟩
  · have h5 := hR.cells (g := g) rfl k (.int .i64 (ys[k] : Nat)) (by rw [List.getElem?_map, hy]; rfl)
    rw [Lib.add_plain, Nat.zero_add] at h5
    obtain ⟨cur, hp, -⟩ := hA.pl
    refine hA.fr.cell ?_ h5
    rcases hR.2 with ⟨hv, -⟩ | ⟨g', cap', cur', hv, -, hh, -⟩
    · cases hv
    · cases hv
      obtain ⟨cur2, hp2, -⟩ := hA2.pl
      have n1 := heap_ne hh hA2.box (by decide)
      have n2 := heap_ne hh hp2 (by decide)
      have n3 := heap_ne hh hA2.tk (by decide)
      dsimp only at n1 n2 n3
      simp only [List.mem_cons, List.not_mem_nil, or_false]
      omega
  · obtain ⟨x, hx2, q, hq⟩ := hA.pr.pr _ hmem
    have h9 := (hI.held q x hq).1
    have e : x = getI L ys[k] := (getI_some hx2).symm
    rw [e] at h9
    obtain ⟨j, hj, he⟩ := List.mem_iff_getElem.1 h9
    have hjk : j < k := by have := hj; simp at this; omega
    have hnd := hS.good.nodup
    have hx3 := List.getElem?_eq_some_iff.1 hx
    rw [List.getElem_take] at he
    have := (List.getElem_inj hnd).1 (he.trans hx3.2.symm)
    omega
  · have h1 := hI.cnt
    have h2 : ((ys.map (getI L)).take k).length ≤ n := by simp; omega
    omega
set_option maxRecDepth 100000 in
set_option maxHeartbeats 4000000 in
theorem sc_Assign_no (la : Option Addr) (lc n : Nat) (L : List Iv) (r : Int) (w : World) (hL : IvM w la L) (hn : L.length = n) (hnn : n < 1099511627776 * 8) (hno : r < 1 ∨ 8 < r ∨ okL L = false) : Calls Try.prog 10 #[.slice la n lc, .int .i64 r] w (AsgNo w) := by
  have HV := Lib.hid (sc_valid la lc n L w hL hn hnn)
  clear hL
  by_cases h1 : r < 1
  · have e1 : decide (r < 1) = true := by simpa using h1
    clear hno HV
    go_enter Try.func10, Try.ntmps10
    go_wp2_with fail
    go_ret3
    exact ⟨rfl, by (repeat (first | (with_reducible refine Fr.setCell ?_ (fun h => absurd h (Nat.lt_irrefl _)) _) | (with_reducible refine Fr.setCell ?_ (fun h => absurd h (by first | omega | (simp; done) | (simp; omega) | (dsimp only; omega))) _) | (with_reducible refine Fr.alloc ?_ _) | (with_reducible refine Fr.drew ?_) | (with_reducible refine Fr.drewN ?_ _) | (with_reducible exact Fr.refl _ _)))⟩
  · by_cases h2 : 8 < r
    · have e1 : decide (r < 1) = false := by simpa using h1
      have e2 : decide (8 < r) = true := by simpa using h2
      clear hno HV
      go_enter Try.func10, Try.ntmps10
      go_wp2_with fail
      go_ret3
      exact ⟨rfl, by (repeat (first | (with_reducible refine Fr.setCell ?_ (fun h => absurd h (Nat.lt_irrefl _)) _) | (with_reducible refine Fr.setCell ?_ (fun h => absurd h (by first | omega | (simp; done) | (simp; omega) | (dsimp only; omega))) _) | (with_reducible refine Fr.alloc ?_ _) | (with_reducible refine Fr.drew ?_) | (with_reducible refine Fr.drewN ?_ _) | (with_reducible exact Fr.refl _ _)))⟩
    · have e1 : decide (r < 1) = false := by simpa using h1
      have e2 : decide (8 < r) = false := by simpa using h2
      have h3 : okL L = false := by rcases hno with h | h | h; exact absurd h h1; exact absurd h h2; exact h
      rw [h3] at HV
      clear hno h3
      go_enter Try.func10, Try.ntmps10
      go_wp2_with (go_at_call 13; refine HV.out.mono ?_; rintro e w1 ⟨rfl, hF⟩; have HF := Lib.hid hF; clear hF)
      go_ret3
      exact ⟨rfl, HF.out⟩
set_option maxRecDepth 100000 in
set_option maxHeartbeats 8000000 in
theorem sc_Assign_yes (la : Option Addr) (lc n : Nat) (L : List Iv) (r : Nat) (w : World) (hL : IvM w la L) (hn : L.length = n) (hnn : n < 1099511627776 * 8) (hr : 1 ≤ r ∧ r ≤ 8) (hok : okL L = true) : Calls Try.prog 10 #[.slice la n lc, .int .i64 r] w (AsgYes L r n w) := by
  have HV := Lib.hid (sc_valid la lc n L w hL hn hnn)
  rw [hok] at HV
  have hnd : L.Pairwise (fun a b => a.v ≠ b.v) := by
    unfold okL at hok
    simp only [Bool.and_eq_true, decide_eq_true_eq] at hok
    exact List.pairwise_map.1 hok.2
  obtain ⟨Z, HZ, hmp⟩ := makePl L n hn hnn
  have hmb := fun W => makeBo r hr.2 W
  have HL := Lib.hid hL
  have HN := Lib.hid hn
  have HND := Lib.hid hnd
  have e1 : decide ((r : Int) < 1) = false := by simp; omega
  have e2 : decide ((8 : Int) < (r : Int)) = false := by simp; omega
  clear hL hn hnd hok
  go_enter Try.func10, Try.ntmps10
  go_wp2_with (go_at_call 13; refine HV.out.mono ?_; rintro e w1 ⟨rfl, hF⟩; have HF1 := Lib.hid hF; clear hF)
  go_region
  · obtain ⟨W, hW⟩ : ∃ W, W = (((w1.alloc (.cells Z 31)).alloc (.cells (takenL (List.replicate r none)).toArray 4)).alloc (.cells #[.slice la n lc, .slice (some ⟨w1.heap.size, 0, none⟩) n n, .slice (some ⟨w1.heap.size + 1, 0, none⟩) r r, .slice none 0 0, .int .i64 0] 43)).drew := ⟨_, rfl⟩
    rw [← hW]
    have hP : W.heap[w1.heap.size]? = some (.cells Z 31 (0, 0)) := by rw [hW]; exact ((((Fr.refl [] (w1.alloc (.cells Z 31))).alloc _).alloc _).drew.heap (by simp) (heap_new w1 (.cells Z 31)))
    have hT : W.heap[w1.heap.size + 1]? = some (.cells (takenL (List.replicate r none)).toArray 4 (0, 0)) := by rw [hW]; exact (((Fr.refl [] ((w1.alloc (.cells Z 31)).alloc (.cells (takenL (List.replicate r none)).toArray 4))).alloc _).drew.heap (by simp) (heap2_new w1 (.cells Z 31) (.cells (takenL (List.replicate r none)).toArray 4)))
    have hB : W.heap[w1.heap.size + 1 + 1]? = some (.cells #[.slice la n lc, .slice (some ⟨w1.heap.size, 0, none⟩) n n, .slice (some ⟨w1.heap.size + 1, 0, none⟩) r r, .slice none 0 0, .int .i64 0] 43 (0, 0)) := by rw [hW]; exact heap3_drew _ _ _ _
    have hFW : Fr [] w W := by rw [hW]; exact HF1.out.trans (by (repeat (first | (with_reducible refine Fr.setCell ?_ (fun h => absurd h (Nat.lt_irrefl _)) _) | (with_reducible refine Fr.setCell ?_ (fun h => absurd h (by first | omega | (simp; done) | (simp; omega) | (dsimp only; omega))) _) | (with_reducible refine Fr.alloc ?_ _) | (with_reducible refine Fr.drew ?_) | (with_reducible refine Fr.drewN ?_ _) | (with_reducible exact Fr.refl _ _))))
    have hz := HF1.out.size
    obtain ⟨b, hb⟩ : ∃ b, b = w1.heap.size + 1 + 1 := ⟨_, rfl⟩
    obtain ⟨tb, hq2⟩ : ∃ b, b = w1.heap.size + 1 := ⟨_, rfl⟩
    obtain ⟨pb, hq1⟩ : ∃ b, b = w1.heap.size := ⟨_, rfl⟩
    rw [← hb] at hB ⊢
    (try rw [← hq2] at hP)
    (try rw [← hq2] at hT)
    rw [← hq2] at hB ⊢
    (try rw [← hq1] at hP)
    (try rw [← hq1] at hT)
    rw [← hq1] at hB ⊢
    have hpw : w.heap.size ≤ pb := by omega
    have hlb : L ≠ [] → ∀ g o, la = some ⟨g, o, none⟩ → g ∉ [b, pb, tb] := fun hne g o e => by
      have := HL.out.lt hne g o e
      simp only [List.mem_cons, List.not_mem_nil, or_false]
      omega
    have HA0 : Hid (∀ W2, Fr [] W W2 → AL ⟨W2, la, lc, L, r, b, pb, tb⟩ n (startS r) [] (.slice none 0 0) W2) := Lib.hid fun W2 hF2 => al_start hlb (hF2.heap (by simp) hB) (hF2.heap (by simp) hP) (hF2.heap (by simp) hT) HZ.out
    have HFW := Lib.hid hFW
    have HPW := Lib.hid hpw
    have HNW : Hid (w.heap.size ≤ b ∧ w.heap.size ≤ pb ∧ w.heap.size ≤ tb) := Lib.hid (by omega)
    have HLB := Lib.hid hlb
    have hrest := fun (W : World) (hF : Fr [] w W) => sc_byBeginning la lc n L W (HL.out.fr hF) HN.out HND.out hnn
    have HBG := Lib.hid hrest
    clear hrest hW hP hT hB hFW hz hb hq1 hq2 hpw hlb hmp hmb HF1 HV
    go_wp2_with (go_at_call 14; refine (HBG.out _ HFW.out).mono ?_; rintro e w2 ⟨g, ys, rfl, hF2, hp, hs, hr2⟩; have HF2 := Lib.hid hF2; have HSO : Hid (Sorted3 L n ys) := Lib.hid (sorted3 HN.out HND.out hp hs); have HR2 := Lib.hid hr2; have HY : Hid (∀ x, x ∈ ys → x < n) := Lib.hid (fun x hx => List.mem_range.1 (hp.mem_iff.1 hx)); have HYL : Hid (ys.length = n) := Lib.hid (by rw [hp.length_eq]; simp); clear hF2 hp hs hr2)
    have HI2 := Lib.hid (HL.out.fr (HFW.out.trans HF2.out))
    have HA2 := Lib.hid (HA0.out _ HF2.out)
    have hn9 : (0 : Int) ≤ (n : Int) := by omega
    go_loopw [32] (fun i wr => ∃ (k : Nat) (s : St) (hs : List Nat) (hv : Value), k ≤ n ∧ i = .int .i64 k ∧ Hid (Run r ((ys.map (getI L)).take k) s) ∧ Hid (AL ⟨w2, la, lc, L, r, b, pb, tb⟩ n s hs hv wr)) (fun i _ => n - (RowKit.intOf i).toNat)
    case atStart => exact ⟨0, startS r, [], _, Nat.zero_le _, rfl, Lib.hid Run.nil, HA2⟩
    case round =>
      obtain ⟨k, s, hs, hv, hk, rfl, HRU, HA⟩ := hrel
      by_cases hkn : k < n
      · obtain ⟨x, c0, hx, hix, hnh, hcl, htk⟩ := asg_round HN.out HND.out HSO.out HY.out HYL.out HR2.out HRU.out HA2.out HA.out hkn
        have k0 : (0 : Int) ≤ (k : Int) := by omega
        have k1 : (k : Int) < (n : Int) := by omega
        have HPL := Lib.hid (fun W (hF : Fr [] wr W) => sa_place (HA.out.still hF) HI2.out HN.out HND.out hnn hr hcl hix hnh)
        have HTK := Lib.hid htk
        clear hix hnh hcl htk hx
        go_wp2_with (go_at_call 15; refine (HPL.out _ (by (repeat (first | (with_reducible refine Fr.setCell ?_ (fun h => absurd h (Nat.lt_irrefl _)) _) | (with_reducible refine Fr.setCell ?_ (fun h => absurd h (by first | omega | (simp; done) | (simp; omega) | (dsimp only; omega))) _) | (with_reducible refine Fr.alloc ?_ _) | (with_reducible refine Fr.drew ?_) | (with_reducible refine Fr.drewN ?_ _) | (with_reducible exact Fr.refl _ _))))).mono ?_; rintro e w3 ⟨rfl, s3, hs3, hv3, hst3, hA3⟩; have HA3 := Lib.hid hA3; have HS3 := Lib.hid hst3; clear hA3 hst3)
        go_roundw
        case rel => exact ⟨k + 1, s3, hs3, hv3, by omega, by go_num, Lib.hid (by rw [HTK.out]; exact Run.snoc HRU.out HS3.out), HA3⟩
        case measure => simp [RowKit.intOf]; omega
      · have hke : k = n := by omega
        have k1 : ¬ (k : Int) < (n : Int) := by omega
        have hfin : Scanned L r s := ⟨ys.map (getI L), HSO.out.perm, HSO.out.so, by have h9 := HRU.out; rw [hke, List.take_of_length_le (by rw [List.length_map, HYL.out]; exact Nat.le_refl _)] at h9; exact h9⟩
        have HFN := Lib.hid hfin
        have hbx := HA.out.box
        dsimp only at hbx
        have c0 := cell_of_heap (o := 0) hbx rfl; have c1 := cell_of_heap (o := 1) hbx rfl; have c2 := cell_of_heap (o := 2) hbx rfl; have c3 := cell_of_heap (o := 3) hbx rfl; have c4 := cell_of_heap (o := 4) hbx rfl
        simp only [List.getElem_toArray, List.getElem_cons_zero, List.getElem_cons_succ] at c0 c1 c2 c3 c4
        have hFR : Fr [] w wr := (HFW.out.trans HF2.out).trans' HA.out.fr (fun _ _ e => e) (fun j hj e => by have := HNW.out; simp only [List.mem_cons, List.not_mem_nil, or_false] at e; omega)
        have HFR := Lib.hid hFR
        obtain ⟨cur, hcur, hpc⟩ := HA.out.pl
        have HCU := Lib.hid hcur
        have HPC := Lib.hid hpc
        clear hfin hbx hFR hcur hpc hke
        go_wp2_with fail
        go_quiet (fail)
        go_wp2_with fail
        go_ret3
        exact ⟨pb, s, cur, rfl, HFR.out.trans ((Fr.refl _ _).drewN _), HPW.out, HCU.out, HPC.out, HFN.out⟩
  · obtain ⟨W, hW⟩ : ∃ W, W = (((w1.alloc (.cells (takenL (List.replicate r none)).toArray 4)).alloc (.cells Z 31)).alloc (.cells #[.slice la n lc, .slice (some ⟨w1.heap.size + 1, 0, none⟩) n n, .slice (some ⟨w1.heap.size, 0, none⟩) r r, .slice none 0 0, .int .i64 0] 43)).drew := ⟨_, rfl⟩
    rw [← hW]
    have hP : W.heap[w1.heap.size + 1]? = some (.cells Z 31 (0, 0)) := by rw [hW]; exact (((Fr.refl [] ((w1.alloc (.cells (takenL (List.replicate r none)).toArray 4)).alloc (.cells Z 31))).alloc _).drew.heap (by simp) (heap2_new w1 (.cells (takenL (List.replicate r none)).toArray 4) (.cells Z 31)))
    have hT : W.heap[w1.heap.size]? = some (.cells (takenL (List.replicate r none)).toArray 4 (0, 0)) := by rw [hW]; exact ((((Fr.refl [] (w1.alloc (.cells (takenL (List.replicate r none)).toArray 4))).alloc _).alloc _).drew.heap (by simp) (heap_new w1 (.cells (takenL (List.replicate r none)).toArray 4)))
    have hB : W.heap[w1.heap.size + 1 + 1]? = some (.cells #[.slice la n lc, .slice (some ⟨w1.heap.size + 1, 0, none⟩) n n, .slice (some ⟨w1.heap.size, 0, none⟩) r r, .slice none 0 0, .int .i64 0] 43 (0, 0)) := by rw [hW]; exact heap3_drew _ _ _ _
    have hFW : Fr [] w W := by rw [hW]; exact HF1.out.trans (by (repeat (first | (with_reducible refine Fr.setCell ?_ (fun h => absurd h (Nat.lt_irrefl _)) _) | (with_reducible refine Fr.setCell ?_ (fun h => absurd h (by first | omega | (simp; done) | (simp; omega) | (dsimp only; omega))) _) | (with_reducible refine Fr.alloc ?_ _) | (with_reducible refine Fr.drew ?_) | (with_reducible refine Fr.drewN ?_ _) | (with_reducible exact Fr.refl _ _))))
    have hz := HF1.out.size
    obtain ⟨b, hb⟩ : ∃ b, b = w1.heap.size + 1 + 1 := ⟨_, rfl⟩
    obtain ⟨pb, hq2⟩ : ∃ b, b = w1.heap.size + 1 := ⟨_, rfl⟩
    obtain ⟨tb, hq1⟩ : ∃ b, b = w1.heap.size := ⟨_, rfl⟩
    rw [← hb] at hB ⊢
    (try rw [← hq2] at hP)
    (try rw [← hq2] at hT)
    rw [← hq2] at hB ⊢
    (try rw [← hq1] at hP)
    (try rw [← hq1] at hT)
    rw [← hq1] at hB ⊢
    have hpw : w.heap.size ≤ pb := by omega
    have hlb : L ≠ [] → ∀ g o, la = some ⟨g, o, none⟩ → g ∉ [b, pb, tb] := fun hne g o e => by
      have := HL.out.lt hne g o e
      simp only [List.mem_cons, List.not_mem_nil, or_false]
      omega
    have HA0 : Hid (∀ W2, Fr [] W W2 → AL ⟨W2, la, lc, L, r, b, pb, tb⟩ n (startS r) [] (.slice none 0 0) W2) := Lib.hid fun W2 hF2 => al_start hlb (hF2.heap (by simp) hB) (hF2.heap (by simp) hP) (hF2.heap (by simp) hT) HZ.out
    have HFW := Lib.hid hFW
    have HPW := Lib.hid hpw
    have HNW : Hid (w.heap.size ≤ b ∧ w.heap.size ≤ pb ∧ w.heap.size ≤ tb) := Lib.hid (by omega)
    have HLB := Lib.hid hlb
    have hrest := fun (W : World) (hF : Fr [] w W) => sc_byBeginning la lc n L W (HL.out.fr hF) HN.out HND.out hnn
    have HBG := Lib.hid hrest
    clear hrest hW hP hT hB hFW hz hb hq1 hq2 hpw hlb hmp hmb HF1 HV
    go_wp2_with (go_at_call 14; refine (HBG.out _ HFW.out).mono ?_; rintro e w2 ⟨g, ys, rfl, hF2, hp, hs, hr2⟩; have HF2 := Lib.hid hF2; have HSO : Hid (Sorted3 L n ys) := Lib.hid (sorted3 HN.out HND.out hp hs); have HR2 := Lib.hid hr2; have HY : Hid (∀ x, x ∈ ys → x < n) := Lib.hid (fun x hx => List.mem_range.1 (hp.mem_iff.1 hx)); have HYL : Hid (ys.length = n) := Lib.hid (by rw [hp.length_eq]; simp); clear hF2 hp hs hr2)
    have HI2 := Lib.hid (HL.out.fr (HFW.out.trans HF2.out))
    have HA2 := Lib.hid (HA0.out _ HF2.out)
    have hn9 : (0 : Int) ≤ (n : Int) := by omega
    go_loopw [32] (fun i wr => ∃ (k : Nat) (s : St) (hs : List Nat) (hv : Value), k ≤ n ∧ i = .int .i64 k ∧ Hid (Run r ((ys.map (getI L)).take k) s) ∧ Hid (AL ⟨w2, la, lc, L, r, b, pb, tb⟩ n s hs hv wr)) (fun i _ => n - (RowKit.intOf i).toNat)
    case atStart => exact ⟨0, startS r, [], _, Nat.zero_le _, rfl, Lib.hid Run.nil, HA2⟩
    case round =>
      obtain ⟨k, s, hs, hv, hk, rfl, HRU, HA⟩ := hrel
      by_cases hkn : k < n
      · obtain ⟨x, c0, hx, hix, hnh, hcl, htk⟩ := asg_round HN.out HND.out HSO.out HY.out HYL.out HR2.out HRU.out HA2.out HA.out hkn
        have k0 : (0 : Int) ≤ (k : Int) := by omega
        have k1 : (k : Int) < (n : Int) := by omega
        have HPL := Lib.hid (fun W (hF : Fr [] wr W) => sa_place (HA.out.still hF) HI2.out HN.out HND.out hnn hr hcl hix hnh)
        have HTK := Lib.hid htk
        clear hix hnh hcl htk hx
        go_wp2_with (go_at_call 15; refine (HPL.out _ (by (repeat (first | (with_reducible refine Fr.setCell ?_ (fun h => absurd h (Nat.lt_irrefl _)) _) | (with_reducible refine Fr.setCell ?_ (fun h => absurd h (by first | omega | (simp; done) | (simp; omega) | (dsimp only; omega))) _) | (with_reducible refine Fr.alloc ?_ _) | (with_reducible refine Fr.drew ?_) | (with_reducible refine Fr.drewN ?_ _) | (with_reducible exact Fr.refl _ _))))).mono ?_; rintro e w3 ⟨rfl, s3, hs3, hv3, hst3, hA3⟩; have HA3 := Lib.hid hA3; have HS3 := Lib.hid hst3; clear hA3 hst3)
        go_roundw
        case rel => exact ⟨k + 1, s3, hs3, hv3, by omega, by go_num, Lib.hid (by rw [HTK.out]; exact Run.snoc HRU.out HS3.out), HA3⟩
        case measure => simp [RowKit.intOf]; omega
      · have hke : k = n := by omega
        have k1 : ¬ (k : Int) < (n : Int) := by omega
        have hfin : Scanned L r s := ⟨ys.map (getI L), HSO.out.perm, HSO.out.so, by have h9 := HRU.out; rw [hke, List.take_of_length_le (by rw [List.length_map, HYL.out]; exact Nat.le_refl _)] at h9; exact h9⟩
        have HFN := Lib.hid hfin
        have hbx := HA.out.box
        dsimp only at hbx
        have c0 := cell_of_heap (o := 0) hbx rfl; have c1 := cell_of_heap (o := 1) hbx rfl; have c2 := cell_of_heap (o := 2) hbx rfl; have c3 := cell_of_heap (o := 3) hbx rfl; have c4 := cell_of_heap (o := 4) hbx rfl
        simp only [List.getElem_toArray, List.getElem_cons_zero, List.getElem_cons_succ] at c0 c1 c2 c3 c4
        have hFR : Fr [] w wr := (HFW.out.trans HF2.out).trans' HA.out.fr (fun _ _ e => e) (fun j hj e => by have := HNW.out; simp only [List.mem_cons, List.not_mem_nil, or_false] at e; omega)
        have HFR := Lib.hid hFR
        obtain ⟨cur, hcur, hpc⟩ := HA.out.pl
        have HCU := Lib.hid hcur
        have HPC := Lib.hid hpc
        clear hfin hbx hFR hcur hpc hke
        go_wp2_with fail
        go_quiet (fail)
        go_wp2_with fail
        go_ret3
        exact ⟨pb, s, cur, rfl, HFR.out.trans ((Fr.refl _ _).drewN _), HPW.out, HCU.out, HPC.out, HFN.out⟩
end Go.Proofs.Ytomcfjckhajhmaa
