/- ir: a unit in other places may be if and only if it may be. gen.Gen. gen: the document's example, and that the statements' own example holds. -/
import Derived.Test.YtomcfjckhajhmabGreatDoorMIrB
import Derived.Test.YtomcfjckhajhmabGreatDoorMIrD
import Derived.Test.YtomcfjckhajhmabGreatDoorMGnE
import Derived.Test.YtomcfjckhajhmabGreatDoorMVerE
import Derived.Test.YtomcfjckhajhmabGreatDoorMGenA
namespace Go.Proofs.YtomcfjckhajhmabGreatDoor
open Go.RowKit

theorem er_at {l m : List Ii} (h : l.map Ii.er = m.map Ii.er) {k : Nat} {a : Ii} (hk : m[k]? = some a) : ∃ b, l[k]? = some b ∧ b.er = a.er := by
  have h1 : (l.map Ii.er)[k]? = (m.map Ii.er)[k]? := by rw [h]
  rw [List.getElem?_map, List.getElem?_map, hk] at h1
  cases hl : l[k]? with
  | none => rw [hl] at h1; cases h1
  | some b => rw [hl] at h1; exact ⟨b, rfl, by simpa using h1⟩
theorem er_len {l m : List Ii} (h : l.map Ii.er = m.map Ii.er) : l.length = m.length := by
  have := congrArg List.length h
  simpa using this
theorem er_fields {a b : Ii} (h : b.er = a.er) : b.op = a.op ∧ b.n = a.n ∧ b.d = a.d ∧ b.l = a.l ∧ b.w = a.w := by
  simp only [Ii.er, Ii.mk.injEq] at h
  exact ⟨h.1, h.2.1, h.2.2.1, h.2.2.2.2.1, h.2.2.2.2.2.2⟩
theorem er_mem {l m : List Ii} (h : l.map Ii.er = m.map Ii.er) {a : Ii} (ha : a ∈ m) : ∃ b ∈ l, b.er = a.er := by
  obtain ⟨k, hk⟩ := List.getElem?_of_mem ha
  obtain ⟨b, hb, he⟩ := er_at h hk
  exact ⟨b, List.mem_of_getElem? hb, he⟩
theorem insOk_er (R P S M : Int) (i : Ii) : insOkU R P S M i.er = insOkU R P S M i := rfl
theorem all_er {l m : List Ii} (h : l.map Ii.er = m.map Ii.er) (R P S M : Int) : l.all (insOkU R P S M) = m.all (insOkU R P S M) := by
  have e (l : List Ii) : l.all (insOkU R P S M) = (l.map Ii.er).all (insOkU R P S M) := by rw [List.all_map]; rfl
  rw [e l, e m, h]
theorem apart_er {l m : List Ii} (h : l.map Ii.er = m.map Ii.er) (ha : apart l) : apart m := by
  intro i j a b hij hi hj h7 h8
  obtain ⟨a', h1, e1⟩ := er_at h hi
  obtain ⟨b', h2, e2⟩ := er_at h hj
  have f1 := er_fields e1
  have f2 := er_fields e2
  rw [← f1.2.1, ← f2.2.1]
  exact ha i j a' b' hij h1 h2 (f1.1.trans h7) (f2.1.trans h8)
theorem ones_er {l m : List Ii} (h : l.map Ii.er = m.map Ii.er) (ha : ∀ i ∈ l, i.op = 1) : ∀ i ∈ m, i.op = 1 := by
  intro i hi
  obtain ⟨b, hb, he⟩ := er_mem h hi
  rw [← (er_fields he).1]
  exact ha b hb
theorem maps_len {u v : Un} (h : SameU u v) : v.maps.length = u.maps.length := by
  have := congrArg List.length h.maps
  simpa using this
theorem errU_same {u v : Un} (h : SameU u v) : errU v = errU u := by
  have hm := maps_len h
  have h1 : numsOk v = numsOk u := by unfold numsOk; rw [h.method, h.args, h.temps, h.regs, h.spills, h.sites]
  have h2 : startsOk v = startsOk u := by
    rw [Bool.eq_iff_iff, startsOk_iff, startsOk_iff, h.starts, hm, er_len h.code]
  have h3 : v.maps.all (mapOk v.regs v.spills v.temps) = u.maps.all (mapOk u.regs u.spills u.temps) := by
    rw [h.regs, h.spills, h.temps]
    have e (l : List Mp) : l.all (mapOk u.regs u.spills u.temps) = (l.map Mp.l).all (fun q => (decide (q.length = 0) || wtn q.length u.temps (u.temps + 16)) && q.all (srcOk u.regs u.spills)) := by rw [List.all_map]; rfl
    rw [e, e, h.maps]
  have h4 : codeOkU v = codeOkU u := by
    rw [Bool.eq_iff_iff, codeOk_iff, codeOk_iff, h.regs, h.spills, h.sites, hm, all_er h.enter, all_er h.code]
    constructor
    · rintro ⟨a, b, c, d⟩; exact ⟨ones_er h.enter a, b, c, apart_er h.code d⟩
    · rintro ⟨a, b, c, d⟩; exact ⟨ones_er h.enter.symm a, b, c, apart_er h.code.symm d⟩
  unfold errU okU
  rw [h1, h2, h3, h4]
theorem IB_er {a b : Ii} (h : b.er = a.er) (ha : IB a) (hs : SlOk b.la b.l.length b.lc) : IB b := by
  obtain ⟨-, -, hd, hl, hw⟩ := er_fields h
  exact ⟨hs, by rw [hw]; exact ha.w, by rw [hd]; exact ha.d, by rw [hl]; exact ha.l, by rw [hl]; exact ha.n⟩
theorem UB_same {u v : Un} {lo : Nat} {w : World} (h : SameU u v) (hB : UB u) (hO : OwnU lo w v) : UB v := by
  refine ⟨fun i hi => ?_, fun i hi => ?_, fun m hm => ?_, hO.enter.1, hO.code.1, hO.starts.1, hO.maps.1, by rw [er_len h.enter]; exact hB.en, by rw [er_len h.code]; exact hB.cn, by rw [h.starts]; exact hB.sn, by rw [maps_len h]; exact hB.mn, by rw [h.method]; exact hB.method, by rw [h.starts]; exact hB.sb, by rw [h.args]; exact hB.args, by rw [h.temps]; exact hB.temps, by rw [h.regs]; exact hB.regs, by rw [h.spills]; exact hB.spills, by rw [h.sites]; exact hB.sites⟩
  · obtain ⟨b, hb, he⟩ := er_mem h.enter.symm hi
    exact IB_er he.symm (hB.enter b hb) (hO.enter.2.2 i hi).1
  · obtain ⟨b, hb, he⟩ := er_mem h.code.symm hi
    exact IB_er he.symm (hB.code b hb) (hO.code.2.2 i hi).1
  · have h1 : m.l ∈ u.maps.map Mp.l := by rw [← h.maps]; exact List.mem_map.2 ⟨m, hm, rfl⟩
    obtain ⟨b, hb, he⟩ := List.mem_map.1 h1
    have h2 := hB.maps b hb
    exact ⟨by rw [← he]; exact h2.1, by rw [← he]; exact h2.2.1, (hO.maps.2.2 m hm).1⟩
end Go.Proofs.YtomcfjckhajhmabGreatDoor
namespace Go.Proofs.YtomcfjckhajhmabGreatDoor
open Go.RowKit

/-- a method that has register code -/
structure GenOk (m : Mth) (method : Int) : Prop where
  good : m.good
  blk : m.blk = false
  method : method ≠ 0
  lacks : m.lackB = false
theorem GenOk.wf {m : Mth} {method : Int} (h : GenOk m method) : (gmOf m).wf := by
  have hok := (m.ok_iff.1 h.good.ok).2
  refine wf_of h.good (fun i hi => ?_) (fun p i hi ho hop h0 => ?_)
  · have h1 := (Ins.ok_iff i).1 (hok i hi)
    have h2 := h.blk
    unfold Mth.blk at h2
    rw [List.any_eq_false] at h2
    have h3 := h2 i hi
    have h4 : ¬ blkOp i := by simpa using h3
    unfold blkOp at h4
    omega
  · have h2 := h.lacks
    rw [Mth.lack_yes hi ⟨ho, hop, h0⟩] at h2
    cases h2
theorem Mth.good.ld {m : Mth} (g : m.good) : LdOk m := by
  obtain ⟨hh, hc⟩ := m.ok_iff.1 g.ok
  have hd := m.head_iff.1 hh
  refine ⟨by omega, by simp only [gmOf, Mth.depths_len], fun p i hi ho hop => ?_, fun p i hi ho hop => ?_⟩
  · have h1 := (Ins.ok_iff i).1 (hc i (List.mem_of_getElem? hi))
    have h2 := g.op i (List.mem_of_getElem? hi)
    unfold Mth.opOk at h2
    rw [if_neg (by omega), if_neg (by omega), if_neg (by omega), if_neg (by omega), if_pos hop] at h2
    have h3 := of_decide_eq_true h2
    omega
  · obtain ⟨-, d, hw⟩ := gm_on ho
    exact g.goes hw hi (by unfold Ins.goesOn Ins.ends; simp; omega)
theorem RowN.of {w9 wB W : World} {gb : Nat} {a : Option Addr} {xs : List Value} (h : RowAt w9 a xs) (hF : Fr [] w9 wB) (hge : w9.heap.size ≤ gb) (hF2 : Fr [gb] wB W) : RowN W gb a xs := fun j u hj => by
  obtain ⟨g, o, e, c⟩ := h j u hj
  have hl := World.block_lt_of_cell? w9 _ c
  have hl2 : g < w9.heap.size := hl
  exact ⟨g, o, e, by omega, hF2.cell (by simp; omega) (hF.cell (by simp) c)⟩
theorem gk_ok {m : Mth} {method : Int} (H : GenOk m method) {la ca da : Option Addr} {lc cc dc eb gb : Nat} {w9 wB : World} (hcode : RowAt w9 ca (flatI m.code)) (hlits : RowAt w9 la (m.lits.map (Value.int .u64))) (hdep : RowAt w9 da ((gmOf m).dep.map (Value.int .i64))) (hF : Fr [] w9 wB) (hge : w9.heap.size ≤ gb) (hne : eb ≠ gb) (hB : BlAt wB eb ((gmOf m).leadL m.code.length m.code.length)) : ∀ W, Fr [gb] wB W → GKok (newK m la ca da lc cc dc eb) W gb ((gmOf m).leadL m.code.length m.code.length) := fun W hW =>
  ⟨RowN.of hcode hF hge hW, RowN.of hlits hF hge hW, RowN.of hdep hF hge hW, fun j u hj => ⟨eb, 0, rfl, hne, by
    rw [Nat.zero_add]
    refine hW.cell (by simpa using hne) ?_
    rw [List.getElem?_map] at hj
    cases hx : ((gmOf m).leadL m.code.length m.code.length)[j]? with
    | none => rw [hx] at hj; cases hj
    | some x => rw [hx] at hj; cases hj; exact hB.cell hx⟩, rfl, rfl, fun p hp => by
    show ((gmOf m).leadL m.code.length m.code.length)[p]? = _
    have h9 := GM.leadL_at (gmOf m) (n := m.code.length) (k := m.code.length) (p := p) hp
    rw [h9]
    have hl : m.code.length = (gmOf m).code.length := by simp [gmOf]
    rw [hl]
    rfl, H.wf, H.good⟩
/-- what Gen answers -/
def GenTo (m : Mth) (method : Int) (w : World) (e : Ending) (w' : World) : Prop := Fr [] w w' ∧ ((GenOk m method ∧ ∃ (v : Un) (lo : Nat), e = .returned (.tuple #[v.v, .int .i64 0]) ∧ SameU ((gmOf m).unit method) v ∧ OwnU lo w' v) ∨ (¬ GenOk m method ∧ ∃ er : Int, (er = 4 ∨ er = 8) ∧ e = .returned (.tuple #[noU.v, .int .i64 er])))
set_option maxRecDepth 100000 in
set_option maxHeartbeats 8000000 in
theorem gn_Gen (m : Mth) (method : Int) (la ca : Option Addr) (lc cc : Nat) (w : World) (hcode : RowAt w ca (flatI m.code)) (hlits : RowAt w la (m.lits.map (Value.int .u64))) (hg : VG w) : Calls Tryz.prog 6 #[m.v la lc ca cc, .int .u64 method] w (GenTo m method w) := by
  have HDE : Hid (∀ W, Fr [] w W → Calls Tryz.prog 17 #[m.v la lc ca cc] W (DepOut m W)) := Lib.hid fun W hF => Depths_at m la ca lc cc W (hcode.fr0 hF) (hg.errs.fr hF) (by obtain ⟨b, hb⟩ := hg.field; exact ⟨b, hF.cell (by simp) hb⟩) (hg.db.fr hF) (hg.et.fr hF)
  have HBL : Hid (∀ W, Fr [] w W → m.code.length ≤ 128 → Calls Tryz.prog 18 #[m.v la lc ca cc] W (Still (.bool m.blk) W)) := Lib.hid fun W hF hl => gn_isOfBlock m la ca lc cc W (hcode.fr0 hF) hl
  have HLA : Hid (∀ W da dc, Fr [] w W → m.good → RowAt W da (m.depths.map (Value.int .i64)) → Calls Tryz.prog 19 #[m.v la lc ca cc, .slice da m.code.length dc] W (Still (.bool m.lackB) W)) := Lib.hid fun W da dc hF g hd => gn_lacksWord m la ca da lc cc dc W (hcode.fr0 hF) (hlits.fr0 hF) hd (by simp only [gmOf, Mth.depths_len]) (fun i hi => by
    have h1 := (Ins.ok_iff i).1 ((m.ok_iff.1 g.ok).2 i hi)
    have h2 := opOk_lit (g.op i hi)
    exact ⟨h1.2.2.1, fun h => h.elim h2.1 (fun h => (h2.2 h).1)⟩) (by have := m.head_iff.1 (m.ok_iff.1 g.ok).1; omega)
  have HNG : Hid (∀ W da dc, Fr [] w W → m.good → RowAt W da (m.depths.map (Value.int .i64)) → Calls Tryz.prog 20 #[m.v la lc ca cc, .slice da m.code.length dc] W (fun e w' => ∃ gb eb, e = .returned (.pointer (some ⟨gb, 0, none⟩)) ∧ w'.heap[gb]? = some (.cells (gcells (newK m la ca da lc cc dc eb) none 0 0 noU) 100 (0, 0)) ∧ W.heap.size ≤ gb ∧ eb ≠ gb ∧ W.heap.size ≤ eb ∧ BlAt w' eb ((gmOf m).leadL m.code.length m.code.length) ∧ Fr [] W w')) := Lib.hid fun W da dc hF g hd => gn_newGenerator m la ca da lc cc dc W (hcode.fr0 hF) hd g.ld
  have HC := Lib.hid hcode
  have HL := Lib.hid hlits
  unfold Mth.v at HDE HBL HLA HNG ⊢
  obtain ⟨n, hnn⟩ : ∃ n, n = m.code.length := ⟨_, rfl⟩
  obtain ⟨ll, hll⟩ : ∃ ll, ll = m.lits.length := ⟨_, rfl⟩
  simp only [← hnn, ← hll] at HDE HBL HLA HNG ⊢
  have HN := Lib.hid hnn
  have hw0 := heap_new w (.cells #[.int .i64 m.args, .int .i64 m.temps, .int .i64 m.stack, .int .i64 m.prim, .slice la ll lc, .slice ca n cc] 25)
  have HW0 := Lib.hid hw0
  clear hcode hlits hg hw0 hnn hll
  go_enter Tryz.func6, Tryz.ntmps6
  go_upto_region 2 with (go_at_call 17; refine (HDE.out _ (by (repeat (first | (with_reducible refine Fr.setCell ?_ (fun h => absurd h (Nat.lt_irrefl _)) _) | (with_reducible refine Fr.setCell ?_ (fun h => absurd h (by first | omega | (simp; done) | (simp; omega) | (dsimp only; omega))) _) | (with_reducible refine Fr.alloc ?_ _) | (with_reducible refine Fr.drew ?_) | (with_reducible refine Fr.drewN ?_ _) | (with_reducible exact Fr.refl _ _))))).mono ?_; rintro e w2 ⟨l, p, en, da, dc, hto, rfl, hF, hR, -⟩; have HF2 : Hid (Fr [] w w2) := Lib.hid (Fr.trans (by (repeat (first | (with_reducible refine Fr.setCell ?_ (fun h => absurd h (Nat.lt_irrefl _)) _) | (with_reducible refine Fr.setCell ?_ (fun h => absurd h (by first | omega | (simp; done) | (simp; omega) | (dsimp only; omega))) _) | (with_reducible refine Fr.alloc ?_ _) | (with_reducible refine Fr.drew ?_) | (with_reducible refine Fr.drewN ?_ _) | (with_reducible exact Fr.refl _ _)))) hF); have HTO := Lib.hid hto; have HR := Lib.hid hR; have HMB := Lib.hid (hF.heap (k := w.heap.size) (by simp) (((Fr.refl [] _).alloc _).heap (by simp) HW0.out)); have HUB := Lib.hid (hF.heap (k := w.heap.size + 1) (by simp) (by first | exact heap_new _ _ | (simpa using heap_new (w.alloc (.cells #[.int .i64 m.args, .int .i64 m.temps, .int .i64 m.stack, .int .i64 m.prim, .slice la ll lc, .slice ca n cc] 25)) _))); clear hF hto hR)
  have hw2 := HUB.out
  have r0 := cell_of_heap (o := 0) hw2 rfl; have r1 := cell_of_heap (o := 1) hw2 rfl; have r2 := cell_of_heap (o := 2) hw2 rfl; have r3 := cell_of_heap (o := 3) hw2 rfl; have r4 := cell_of_heap (o := 4) hw2 rfl; have r5 := cell_of_heap (o := 5) hw2 rfl; have r6 := cell_of_heap (o := 6) hw2 rfl; have r7 := cell_of_heap (o := 7) hw2 rfl; have r8 := cell_of_heap (o := 8) hw2 rfl; have r9 := cell_of_heap (o := 9) hw2 rfl
  have rz0 := frozen_of_heap (o := 0) hw2; have rz1 := frozen_of_heap (o := 1) hw2; have rz2 := frozen_of_heap (o := 2) hw2; have rz3 := frozen_of_heap (o := 3) hw2; have rz4 := frozen_of_heap (o := 4) hw2; have rz5 := frozen_of_heap (o := 5) hw2; have rz6 := frozen_of_heap (o := 6) hw2; have rz7 := frozen_of_heap (o := 7) hw2; have rz8 := frozen_of_heap (o := 8) hw2; have rz9 := frozen_of_heap (o := 9) hw2
  have hmb := HMB.out
  have y0 := cell_of_heap (o := 0) hmb rfl; have y1 := cell_of_heap (o := 1) hmb rfl; have y2 := cell_of_heap (o := 2) hmb rfl; have y3 := cell_of_heap (o := 3) hmb rfl; have y4 := cell_of_heap (o := 4) hmb rfl; have y5 := cell_of_heap (o := 5) hmb rfl
  have hl2 := lt_of_heap hw2
  have hl3 := lt_of_heap hmb
  clear hw2 hmb
  by_cases hen : en = 0
  · subst hen
    obtain ⟨hgood, hl, hp⟩ := HTO.out.ok_good
    have hle : l.length = n := by rw [hl, m.depths_len, HN.out]
    subst hl
    rw [hle]
    have HGD := Lib.hid hgood
    have hn128 : n ≤ 128 := by have := m.head_iff.1 (m.ok_iff.1 hgood.ok).1; rw [HN.out]; omega
    have HBL2 := Lib.hid (fun W hF => HBL.out W hF hn128)
    obtain ⟨bl, hbl⟩ : ∃ bl, bl = m.blk := ⟨_, rfl⟩
    obtain ⟨lk, hlk⟩ : ∃ lk, lk = m.lackB := ⟨_, rfl⟩
    rw [← hbl] at HBL2
    rw [← hlk] at HLA
    have HBE := Lib.hid hbl
    have HLE := Lib.hid hlk
    clear hgood hle hbl hlk HTO HBL HDE
    cases bl
    case true =>
      have HNO : Hid (¬ GenOk m method) := Lib.hid fun h => by have := h.blk; rw [← HBE.out] at this; cases this
      go_wp2_with (go_at_call 18; refine (HBL2.out _ HF2.out).mono ?_; rintro e w3 ⟨rfl, hF⟩; have HF3 : Hid (Fr [] w w3) := Lib.hid (HF2.out.trans hF); have hu := hF.heap (by simp) HUB.out; have s0 := cell_of_heap (o := 0) hu rfl; have s1 := cell_of_heap (o := 1) hu rfl; have s2 := cell_of_heap (o := 2) hu rfl; have s3 := cell_of_heap (o := 3) hu rfl; have s4 := cell_of_heap (o := 4) hu rfl; have s5 := cell_of_heap (o := 5) hu rfl; have s6 := cell_of_heap (o := 6) hu rfl; have s7 := cell_of_heap (o := 7) hu rfl; have s8 := cell_of_heap (o := 8) hu rfl; have s9 := cell_of_heap (o := 9) hu rfl; have sz0 := frozen_of_heap (o := 0) hu; have sz1 := frozen_of_heap (o := 1) hu; have sz2 := frozen_of_heap (o := 2) hu; have sz3 := frozen_of_heap (o := 3) hu; have sz4 := frozen_of_heap (o := 4) hu; have sz5 := frozen_of_heap (o := 5) hu; have sz6 := frozen_of_heap (o := 6) hu; have sz7 := frozen_of_heap (o := 7) hu; have sz8 := frozen_of_heap (o := 8) hu; have sz9 := frozen_of_heap (o := 9) hu; have hul := lt_of_heap hu; clear hF hu)
      refine bodyPost_ret (v := .tuple #[.agg #[.int .u64 0, .int .i64 0, .int .i64 0, .int .i64 0, .int .i64 0, .int .i64 0, .slice none 0 0, .slice none 0 0, .slice none 0 0, .slice none 0 0], .int .i64 8]) (by rw [results_cell_tmp rfl]; simp [go_sem]; go_simp) rfl ⟨by (repeat (first | (with_reducible refine Fr.setCell ?_ (fun h => absurd h (Nat.lt_irrefl _)) _) | (with_reducible refine Fr.setCell ?_ (fun h => absurd h (by first | omega | (simp; done) | (simp; omega) | (dsimp only; omega))) _) | (with_reducible refine Fr.alloc ?_ _) | (with_reducible refine Fr.drew ?_) | (with_reducible refine Fr.drewN ?_ _) | (with_reducible exact HF3.out))), .inr ⟨HNO.out, 8, .inr rfl, rfl⟩⟩
    case false =>
      by_cases hm0 : method = 0
      · have HNO : Hid (¬ GenOk m method) := Lib.hid fun h => h.method hm0
        subst hm0
        go_wp2_with (go_at_call 18; refine (HBL2.out _ HF2.out).mono ?_; rintro e w3 ⟨rfl, hF⟩; have HF3 : Hid (Fr [] w w3) := Lib.hid (HF2.out.trans hF); have hu := hF.heap (by simp) HUB.out; have s0 := cell_of_heap (o := 0) hu rfl; have s1 := cell_of_heap (o := 1) hu rfl; have s2 := cell_of_heap (o := 2) hu rfl; have s3 := cell_of_heap (o := 3) hu rfl; have s4 := cell_of_heap (o := 4) hu rfl; have s5 := cell_of_heap (o := 5) hu rfl; have s6 := cell_of_heap (o := 6) hu rfl; have s7 := cell_of_heap (o := 7) hu rfl; have s8 := cell_of_heap (o := 8) hu rfl; have s9 := cell_of_heap (o := 9) hu rfl; have sz0 := frozen_of_heap (o := 0) hu; have sz1 := frozen_of_heap (o := 1) hu; have sz2 := frozen_of_heap (o := 2) hu; have sz3 := frozen_of_heap (o := 3) hu; have sz4 := frozen_of_heap (o := 4) hu; have sz5 := frozen_of_heap (o := 5) hu; have sz6 := frozen_of_heap (o := 6) hu; have sz7 := frozen_of_heap (o := 7) hu; have sz8 := frozen_of_heap (o := 8) hu; have sz9 := frozen_of_heap (o := 9) hu; have hul := lt_of_heap hu; have hmm := hF.heap (by simp) HMB.out; have t0 := cell_of_heap (o := 0) hmm rfl; have t1 := cell_of_heap (o := 1) hmm rfl; have t2 := cell_of_heap (o := 2) hmm rfl; have t3 := cell_of_heap (o := 3) hmm rfl; have t4 := cell_of_heap (o := 4) hmm rfl; have t5 := cell_of_heap (o := 5) hmm rfl; have hml := lt_of_heap hmm; clear hF hu hmm)
        refine bodyPost_ret (v := .tuple #[.agg #[.int .u64 0, .int .i64 0, .int .i64 0, .int .i64 0, .int .i64 0, .int .i64 0, .slice none 0 0, .slice none 0 0, .slice none 0 0, .slice none 0 0], .int .i64 4]) (by rw [results_cell_tmp rfl]; simp [go_sem]; go_simp) rfl ⟨by (repeat (first | (with_reducible refine Fr.setCell ?_ (fun h => absurd h (Nat.lt_irrefl _)) _) | (with_reducible refine Fr.setCell ?_ (fun h => absurd h (by first | omega | (simp; done) | (simp; omega) | (dsimp only; omega))) _) | (with_reducible refine Fr.alloc ?_ _) | (with_reducible refine Fr.drew ?_) | (with_reducible refine Fr.drewN ?_ _) | (with_reducible exact HF3.out))), .inr ⟨HNO.out, 4, .inl rfl, rfl⟩⟩
      · have hmq : (method == 0) = false := by simpa using hm0
        go_upto_region 6 with (go_at_call 18; refine (HBL2.out _ HF2.out).mono ?_; rintro e w3 ⟨rfl, hF⟩; have HF23 : Hid (Fr [] w2 w3) := Lib.hid hF; have HF3 : Hid (Fr [] w w3) := Lib.hid (HF2.out.trans hF); have hu := hF.heap (by simp) HUB.out; have HUB3 := Lib.hid hu; have s0 := cell_of_heap (o := 0) hu rfl; have s1 := cell_of_heap (o := 1) hu rfl; have s2 := cell_of_heap (o := 2) hu rfl; have s3 := cell_of_heap (o := 3) hu rfl; have s4 := cell_of_heap (o := 4) hu rfl; have s5 := cell_of_heap (o := 5) hu rfl; have s6 := cell_of_heap (o := 6) hu rfl; have s7 := cell_of_heap (o := 7) hu rfl; have s8 := cell_of_heap (o := 8) hu rfl; have s9 := cell_of_heap (o := 9) hu rfl; have sz0 := frozen_of_heap (o := 0) hu; have sz1 := frozen_of_heap (o := 1) hu; have sz2 := frozen_of_heap (o := 2) hu; have sz3 := frozen_of_heap (o := 3) hu; have sz4 := frozen_of_heap (o := 4) hu; have sz5 := frozen_of_heap (o := 5) hu; have sz6 := frozen_of_heap (o := 6) hu; have sz7 := frozen_of_heap (o := 7) hu; have sz8 := frozen_of_heap (o := 8) hu; have sz9 := frozen_of_heap (o := 9) hu; have hul := lt_of_heap hu; have hmm := hF.heap (by simp) HMB.out; have HMB3 := Lib.hid hmm; have t0 := cell_of_heap (o := 0) hmm rfl; have t1 := cell_of_heap (o := 1) hmm rfl; have t2 := cell_of_heap (o := 2) hmm rfl; have t3 := cell_of_heap (o := 3) hmm rfl; have t4 := cell_of_heap (o := 4) hmm rfl; have t5 := cell_of_heap (o := 5) hmm rfl; have hml := lt_of_heap hmm; clear hF hu hmm)
        have HLK3 := Lib.hid (fun W hF => HLA.out W da dc (HF3.out.trans hF) HGD.out (HR.out.fr0 (HF23.out.trans hF)))
        cases lk
        case true =>
          have HNO : Hid (¬ GenOk m method) := Lib.hid fun h => by have := h.lacks; rw [← HLE.out] at this; cases this
          go_wp2_with (go_at_call 19; refine (HLK3.out _ (Fr.refl _ _)).mono ?_; rintro e w4 ⟨rfl, hF⟩; have HF4 : Hid (Fr [] w w4) := Lib.hid (HF3.out.trans hF); have hu := hF.heap (by simp) HUB3.out; have v0 := cell_of_heap (o := 0) hu rfl; have v1 := cell_of_heap (o := 1) hu rfl; have v2 := cell_of_heap (o := 2) hu rfl; have v3 := cell_of_heap (o := 3) hu rfl; have v4 := cell_of_heap (o := 4) hu rfl; have v5 := cell_of_heap (o := 5) hu rfl; have v6 := cell_of_heap (o := 6) hu rfl; have v7 := cell_of_heap (o := 7) hu rfl; have v8 := cell_of_heap (o := 8) hu rfl; have v9 := cell_of_heap (o := 9) hu rfl; have vz0 := frozen_of_heap (o := 0) hu; have vz1 := frozen_of_heap (o := 1) hu; have vz2 := frozen_of_heap (o := 2) hu; have vz3 := frozen_of_heap (o := 3) hu; have vz4 := frozen_of_heap (o := 4) hu; have vz5 := frozen_of_heap (o := 5) hu; have vz6 := frozen_of_heap (o := 6) hu; have vz7 := frozen_of_heap (o := 7) hu; have vz8 := frozen_of_heap (o := 8) hu; have vz9 := frozen_of_heap (o := 9) hu; have hvl := lt_of_heap hu; clear hF hu)
          refine bodyPost_ret (v := .tuple #[.agg #[.int .u64 0, .int .i64 0, .int .i64 0, .int .i64 0, .int .i64 0, .int .i64 0, .slice none 0 0, .slice none 0 0, .slice none 0 0, .slice none 0 0], .int .i64 4]) (by rw [results_cell_tmp rfl]; simp [go_sem]; go_simp) rfl ⟨by (repeat (first | (with_reducible refine Fr.setCell ?_ (fun h => absurd h (Nat.lt_irrefl _)) _) | (with_reducible refine Fr.setCell ?_ (fun h => absurd h (by first | omega | (simp; done) | (simp; omega) | (dsimp only; omega))) _) | (with_reducible refine Fr.alloc ?_ _) | (with_reducible refine Fr.drew ?_) | (with_reducible refine Fr.drewN ?_ _) | (with_reducible exact HF4.out))), .inr ⟨HNO.out, 4, .inl rfl, rfl⟩⟩
        case false =>
          have HOK : Hid (GenOk m method) := Lib.hid ⟨HGD.out, HBE.out.symm, hm0, HLE.out.symm⟩
          clear r0 r1 r2 r3 r4 r5 r6 r7 r8 r9 rz0 rz1 rz2 rz3 rz4 rz5 rz6 rz7 rz8 rz9 y0 y1 y2 y3 y4 y5 hl2 hl3
          go_upto_region 8 with (go_at_call 19; refine (HLK3.out _ (Fr.refl _ _)).mono ?_; rintro e w4 ⟨rfl, hF⟩; have HF24 : Hid (Fr [] w2 w4) := Lib.hid (HF23.out.trans hF); have HF4 : Hid (Fr [] w w4) := Lib.hid (HF3.out.trans hF); have hu := hF.heap (by simp) HUB3.out; have HUB4 := Lib.hid hu; have hmm := hF.heap (by simp) HMB3.out; have v0 := cell_of_heap (o := 0) hmm rfl; have v1 := cell_of_heap (o := 1) hmm rfl; have v2 := cell_of_heap (o := 2) hmm rfl; have v3 := cell_of_heap (o := 3) hmm rfl; have v4 := cell_of_heap (o := 4) hmm rfl; have v5 := cell_of_heap (o := 5) hmm rfl; have hvl := lt_of_heap hmm; clear hF hu hmm)
          clear s0 s1 s2 s3 s4 s5 s6 s7 s8 s9 sz0 sz1 sz2 sz3 sz4 sz5 sz6 sz7 sz8 sz9 t0 t1 t2 t3 t4 t5 hul hml
          have HNG4 := Lib.hid (fun W hF => HNG.out W da dc (HF4.out.trans hF) HGD.out (HR.out.fr0 (HF24.out.trans hF)))
          have HC4 := Lib.hid (HC.out.fr0 HF4.out)
          have HL4 := Lib.hid (HL.out.fr0 HF4.out)
          have HR4 := Lib.hid (HR.out.fr0 HF24.out)
          go_wp2_with (first
            | (go_at_call 20; refine (HNG4.out _ (Fr.refl _ _)).mono ?_; rintro e w5 ⟨gb, eb, rfl, hbx, hge, hne, -, hB, hF⟩; rw [HN.out] at hB; have HF5 : Hid (Fr [] w w5) := Lib.hid (HF4.out.trans hF); have HBX := Lib.hid hbx; have HGE := Lib.hid hge; have HUO := Lib.hid (gn_unitOf (newK m la ca da lc cc dc eb) gb method _ w5 hbx ⟨rfl, rfl⟩ (gk_ok HOK.out HC4.out HL4.out HR4.out hF hge hne hB)); have HUB5 := Lib.hid (hF.heap (by simp) HUB4.out); have hlt4 := lt_of_heap HUB4.out; have HLT := Lib.hid hlt4; clear hbx hge hne hB hF hlt4)
            | (go_at_call 21; refine HUO.out.mono ?_; rintro e w6 ⟨⟨vm, vg, vt, vr, vp, vs, vea, ven, vec, vca, vco, vcc, vsa, vst, vsc, vma, vmp, vmc⟩, lo, rfl, hsame, hown, hlo, hF⟩; unfold Un.v; dsimp only; have hub := hF.heap (k := w.heap.size + 1) (by have := HLT.out; have := HGE.out; simp; omega) HUB5.out; have x0 := cell_of_heap (o := 0) hub rfl; have x1 := cell_of_heap (o := 1) hub rfl; have x2 := cell_of_heap (o := 2) hub rfl; have x3 := cell_of_heap (o := 3) hub rfl; have x4 := cell_of_heap (o := 4) hub rfl; have x5 := cell_of_heap (o := 5) hub rfl; have x6 := cell_of_heap (o := 6) hub rfl; have x7 := cell_of_heap (o := 7) hub rfl; have x8 := cell_of_heap (o := 8) hub rfl; have x9 := cell_of_heap (o := 9) hub rfl; have xz0 := frozen_of_heap (o := 0) hub; have xz1 := frozen_of_heap (o := 1) hub; have xz2 := frozen_of_heap (o := 2) hub; have xz3 := frozen_of_heap (o := 3) hub; have xz4 := frozen_of_heap (o := 4) hub; have xz5 := frozen_of_heap (o := 5) hub; have xz6 := frozen_of_heap (o := 6) hub; have xz7 := frozen_of_heap (o := 7) hub; have xz8 := frozen_of_heap (o := 8) hub; have xz9 := frozen_of_heap (o := 9) hub; have hxl := lt_of_heap hub; have HSAME := Lib.hid hsame; have HOWN := Lib.hid hown; have HLO := Lib.hid hlo; have HF56 : Hid (Fr [] w w6) := Lib.hid (HF5.out.trans' hF (fun _ _ h => h) (fun j hj hjs => by (have h1 := HGE.out; have h2 := HF4.out.size; simp at hjs; omega))); have HLT5 : Hid (w.heap.size + 1 < w5.heap.size) := Lib.hid (lt_of_heap HUB5.out); clear hsame hown hlo hF hub)
            | fail)
          refine bodyPost_ret (v := .tuple #[.agg #[.int .u64 vm, .int .i64 vg, .int .i64 vt, .int .i64 vr, .int .i64 vp, .int .i64 vs, .slice vea ven.length vec, .slice vca vco.length vcc, .slice vsa vst.length vsc, .slice vma vmp.length vmc], .int .i64 0]) (by rw [results_cell_tmp rfl]; simp [go_sem]; go_simp) rfl ⟨?_, .inl ⟨HOK.out, ⟨vm, vg, vt, vr, vp, vs, vea, ven, vec, vca, vco, vcc, vsa, vst, vsc, vma, vmp, vmc⟩, lo, rfl, HSAME.out, HOWN.out.frs (S := [w.heap.size + 1]) (by repeat (first | (with_reducible exact Fr.refl _ _) | (with_reducible refine Fr.setCell ?_ (fun _ => by simp) _))) (fun b hb => by have := HLO.out; have := HLT5.out; simp at hb; omega)⟩⟩
          repeat (first | (with_reducible exact HF56.out) | (with_reducible refine Fr.setCell ?_ (fun h => absurd h (by simp)) _))
  · have hp := HTO.out.err
    have hen4 : en = 4 := by rcases hp with h | ⟨h, -⟩; exact absurd h hen; exact h
    have HNO : Hid (¬ GenOk m method) := Lib.hid fun h => hen (HTO.out.of_good h.good).2.2
    subst hen4
    clear hp HTO hen
    go_wp2_with fail
    refine bodyPost_ret (v := .tuple #[.agg #[.int .u64 0, .int .i64 0, .int .i64 0, .int .i64 0, .int .i64 0, .int .i64 0, .slice none 0 0, .slice none 0 0, .slice none 0 0, .slice none 0 0], .int .i64 4]) (by rw [results_cell_tmp rfl]; simp [go_sem]; go_simp) rfl ⟨by (repeat (first | (with_reducible refine Fr.setCell ?_ (fun h => absurd h (Nat.lt_irrefl _)) _) | (with_reducible refine Fr.setCell ?_ (fun h => absurd h (by first | omega | (simp; done) | (simp; omega) | (dsimp only; omega))) _) | (with_reducible refine Fr.alloc ?_ _) | (with_reducible refine Fr.drew ?_) | (with_reducible refine Fr.drewN ?_ _) | (with_reducible exact HF2.out))), .inr ⟨HNO.out, 4, .inl rfl, rfl⟩⟩
end Go.Proofs.YtomcfjckhajhmabGreatDoor
namespace Go.Proofs.YtomcfjckhajhmabGreatDoor
open Go.RowKit

def exM : Mth := ⟨0, 1, 2, 0, [], [⟨1, 0, 0⟩, ⟨8, 2049, 0⟩, ⟨13, 0, 0⟩, ⟨2, 0, 0⟩, ⟨18, 0, 0⟩]⟩
theorem exM_good : exM.good := Mth.good_of (t := [0, 1, 2, 1, 0]) (by decide) (by decide) rfl (by decide) (by decide)
theorem exM_depths : exM.depths = [0, 1, 2, 1, 0] := by
  have h0 : Way exM 0 0 := .start
  have h1 : Way exM 1 1 := .next (i := ⟨1, 0, 0⟩) h0 rfl (by decide) (by decide) (by decide)
  have h2 : Way exM 2 2 := .next (i := ⟨8, 2049, 0⟩) h1 rfl (by decide) (by decide) (by decide)
  have h3 : Way exM 3 1 := .next (i := ⟨13, 0, 0⟩) h2 rfl (by decide) (by decide) (by decide)
  have h4 : Way exM 4 0 := .next (i := ⟨2, 0, 0⟩) h3 rfl (by decide) (by decide) (by decide)
  refine Mth.depths_of (t := [0, 1, 2, 1, 0]) exM_good rfl fun pc d h => ?_
  match pc with
  | 0 => cases h; exact h0
  | 1 => cases h; exact h1
  | 2 => cases h; exact h2
  | 3 => cases h; exact h3
  | 4 => cases h; exact h4
  | n + 5 => simp at h
def exGM : GM := ⟨0, 1, 2, [], [⟨1, 0, 0⟩, ⟨8, 2049, 0⟩, ⟨13, 0, 0⟩, ⟨2, 0, 0⟩, ⟨18, 0, 0⟩], [0, 1, 2, 1, 0]⟩
theorem exGM_is : gmOf exM = exGM := by unfold gmOf; rw [exM_depths]; rfl
theorem exM_code : ((gmOf exM).unit 4).code.map (fun x => (x.op, x.l.length)) = [(2, 2), (1, 1), (8, 1)] := by rw [exGM_is]; decide +kernel
theorem exM_maps : ((gmOf exM).unit 4).maps.map Mp.l = [[⟨0, 0, 0⟩], [⟨0, 0, 0⟩, ⟨0, 0, 0⟩], [⟨0, 0, 0⟩, ⟨0, 0, 0⟩, ⟨1, 0, 3⟩], [⟨0, 0, 0⟩, ⟨0, 1, 0⟩], [⟨0, 0, 0⟩]] := by rw [exGM_is]; decide +kernel
theorem exM_ok : GenOk exM 4 := by
  refine ⟨exM_good, by decide, by decide, Mth.lack_no fun j i _ hi h => ?_⟩
  have hm := List.mem_of_getElem? hi
  have h2 : ∀ i ∈ exM.code, ¬ (i.op = 3 ∨ i.op = 11) := by decide
  exact h2 i hm h.2.1
theorem er_same {u v : Un} (h : SameU u v) : v.code.map (fun x => (x.op, x.l.length)) = u.code.map (fun x => (x.op, x.l.length)) := by
  have h1 := congrArg (List.map fun x : Ii => (x.op, x.l.length)) h.code
  rw [List.map_map, List.map_map] at h1
  exact h1
/-- what the example's unit holds in memory -/
theorem ex_unit {v : Un} {w : World} (h : SameU ((gmOf exM).unit 4) v) (hA : UAt w v) : v.code.length = 3 ∧ v.maps.length = 5 ∧ (∃ gc oc, v.ca = some ⟨gc, oc, none⟩ ∧ w.cell? ⟨gc, oc, none⟩ = some (.int .i64 2) ∧ w.cell? ⟨gc, oc + 7, none⟩ = some (.int .i64 1) ∧ w.cell? ⟨gc, oc + 14, none⟩ = some (.int .i64 8) ∧ ∃ la lc, w.cell? ⟨gc, oc + 5, none⟩ = some (.slice la 2 lc)) ∧ ∃ gm om, v.ma = some ⟨gm, om, none⟩ ∧ ∃ g2 o2 c2, w.cell? ⟨gm, om + 2, none⟩ = some (.slice (some ⟨g2, o2, none⟩) 3 c2) ∧ w.cell? ⟨g2, o2 + 8, none⟩ = some (.int .u64 3) := by
  have hc := er_same h
  rw [exM_code] at hc
  have hm := h.maps
  rw [exM_maps] at hm
  have hcl : v.code.length = 3 := by have := congrArg List.length hc; simpa using this
  have hml : v.maps.length = 5 := by have := congrArg List.length hm; simpa using this
  refine ⟨hcl, hml, ?_, ?_⟩
  · obtain ⟨i0, h0⟩ : ∃ i, v.code[0]? = some i := ⟨_, List.getElem?_eq_getElem (by omega)⟩
    obtain ⟨i1, h1⟩ : ∃ i, v.code[1]? = some i := ⟨_, List.getElem?_eq_getElem (by omega)⟩
    obtain ⟨i2, h2⟩ : ∃ i, v.code[2]? = some i := ⟨_, List.getElem?_eq_getElem (by omega)⟩
    have a0 := congrArg (fun l => l[0]?) hc
    have a1 := congrArg (fun l => l[1]?) hc
    have a2 := congrArg (fun l => l[2]?) hc
    simp only [List.getElem?_map, h0, h1, h2, Option.map_some] at a0 a1 a2
    simp at a0 a1 a2
    obtain ⟨⟨g, o, e, c0, -, -, -, -, c5, -⟩, -⟩ := hA.code 0 i0 h0
    obtain ⟨⟨g1, o1, e1, d0, -⟩, -⟩ := hA.code 1 i1 h1
    obtain ⟨⟨g2, o2, e2, f0, -⟩, -⟩ := hA.code 2 i2 h2
    rw [e] at e1 e2
    cases e1
    cases e2
    rw [a0.1] at c0
    rw [a0.2] at c5
    rw [a1.1] at d0
    rw [a2.1] at f0
    exact ⟨g, o, e, by simpa using c0, by simpa using d0, by simpa using f0, _, _, by simpa using c5⟩
  · obtain ⟨q, hq⟩ : ∃ i, v.maps[2]? = some i := ⟨_, List.getElem?_eq_getElem (by omega)⟩
    have a0 := congrArg (fun l => l[2]?) hm
    simp only [List.getElem?_map, hq, Option.map_some] at a0
    simp at a0
    obtain ⟨⟨g, o, e, c0⟩, hs⟩ := hA.maps 2 q hq
    obtain ⟨g2, o2, e2, -, -, c2⟩ := hs 2 ⟨1, 0, 3⟩ (by rw [a0]; rfl)
    rw [e2, a0] at c0
    exact ⟨g, o, e, g2, o2, _, by simpa using c0, by simpa using c2⟩
theorem exG_at {W : World} (hg : VG W) (b : Nat) (hb : W.heap[b]? = some (.cells #[.int .i64 1, .int .i64 0, .int .i64 0, .int .i64 8, .int .i64 2049, .int .i64 0, .int .i64 13, .int .i64 0, .int .i64 0, .int .i64 2, .int .i64 0, .int .i64 0, .int .i64 18, .int .i64 0, .int .i64 0] 69 (0, 0))) :
    Calls Tryz.prog 6 #[.agg #[.int .i64 0, .int .i64 1, .int .i64 2, .int .i64 0, .slice none 0 0, .slice (some ⟨b, 0, none⟩) 5 5], .int .u64 4] W fun e w' => Fr [] W w' ∧ ∃ v : Un, e = .returned (.tuple #[v.v, .int .i64 0]) ∧ v.code.length = 3 ∧ v.maps.length = 5 ∧ (∃ gc oc, v.ca = some ⟨gc, oc, none⟩ ∧ w'.cell? ⟨gc, oc, none⟩ = some (.int .i64 2) ∧ w'.cell? ⟨gc, oc + 7, none⟩ = some (.int .i64 1) ∧ w'.cell? ⟨gc, oc + 14, none⟩ = some (.int .i64 8) ∧ ∃ la lc, w'.cell? ⟨gc, oc + 5, none⟩ = some (.slice la 2 lc)) ∧ ∃ gm om, v.ma = some ⟨gm, om, none⟩ ∧ ∃ g2 o2 c2, w'.cell? ⟨gm, om + 2, none⟩ = some (.slice (some ⟨g2, o2, none⟩) 3 c2) ∧ w'.cell? ⟨g2, o2 + 8, none⟩ = some (.int .u64 3) := by
  have hr : RowAt W (some ⟨b, 0, none⟩) (flatI exM.code) := fun j u hj => ⟨b, 0, rfl, by rw [Nat.zero_add]; exact cell_of_heap hb (by have h9 := hj; simpa [exM, flatI] using h9)⟩
  have h := gn_Gen exM 4 none (some ⟨b, 0, none⟩) 0 5 W hr (fun j u hj => by simp [exM] at hj) hg
  refine h.mono ?_
  rintro e w' ⟨hF, ⟨-, v, lo, he, hs, hO⟩ | ⟨hn, -⟩⟩
  · exact ⟨hF, v, he, ex_unit hs hO.at⟩
  · exact absurd exM_ok hn
set_option maxRecDepth 100000 in
set_option maxHeartbeats 4000000 in
theorem awake12 (w : World) (hg : VG w) : Calls Tryz.prog 5 #[] w (Still (.bool true) w) := by
  have HG := Lib.hid hg
  clear hg
  go_enter Tryz.func5, Tryz.ntmps5
  go_wp2_with (go_at_call 6; refine (exG_at (HG.out.fr (by (repeat (first | (with_reducible refine Fr.setCell ?_ (fun h => absurd h (Nat.lt_irrefl _)) _) | (with_reducible refine Fr.setCell ?_ (fun h => absurd h (by first | omega | (simp; done) | (simp; omega) | (dsimp only; omega))) _) | (with_reducible refine Fr.alloc ?_ _) | (with_reducible refine Fr.drew ?_) | (with_reducible refine Fr.drewN ?_ _) | (with_reducible exact Fr.refl _ _))))) w.heap.size (((Fr.refl [] _).alloc _).heap (by simp) (heap_new w _))).mono ?_; rintro e w2 ⟨hF, ⟨vm, vg, vt, vr, vp, vs, vea, ven, vec, vca, vco, vcc, vsa, vst, vsc, vma, vmp, vmc⟩, rfl, h3, h5, ⟨gc, oc, e1, c0, c7, c14, la, lc, c5⟩, gm, om, e2, g2, o2, c2, d2, d8⟩; simp only at h3 h5 e1 e2; subst e1 e2; unfold Un.v; dsimp only; rw [h3, h5]; generalize ven.length = el; generalize vst.length = sl; have HF2 : Hid (Fr [] w w2) := Lib.hid (Fr.trans (by (repeat (first | (with_reducible refine Fr.setCell ?_ (fun h => absurd h (Nat.lt_irrefl _)) _) | (with_reducible refine Fr.setCell ?_ (fun h => absurd h (by first | omega | (simp; done) | (simp; omega) | (dsimp only; omega))) _) | (with_reducible refine Fr.alloc ?_ _) | (with_reducible refine Fr.drew ?_) | (with_reducible refine Fr.drewN ?_ _) | (with_reducible exact Fr.refl _ _)))) hF); have hgc := World.block_lt_of_cell? w2 _ c0; have hgm := World.block_lt_of_cell? w2 _ d2; have hg2 := World.block_lt_of_cell? w2 _ d8; clear hF)
  go_ret
  exact ⟨rfl, by (repeat (first | (with_reducible refine Fr.setCell ?_ (fun h => absurd h (Nat.lt_irrefl _)) _) | (with_reducible refine Fr.setCell ?_ (fun h => absurd h (by first | omega | (simp; done) | (simp; omega) | (dsimp only; omega))) _) | (with_reducible refine Fr.alloc ?_ _) | (with_reducible refine Fr.drew ?_) | (with_reducible refine Fr.drewN ?_ _) | (with_reducible exact HF2.out)))⟩
end Go.Proofs.YtomcfjckhajhmabGreatDoor
