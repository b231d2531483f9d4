/- gen: one instruction's contracts, whatever its operation. gen: the code of one instruction: to whom it is handed. (written by gengt.py) gen: the code of one instruction. -/
import Derived.Test.YtomcfjckhajhmabGreatDoorMGnB
import Derived.Test.YtomcfjckhajhmabGreatDoorMGenWf
namespace Go.Proofs.YtomcfjckhajhmabGreatDoor
open Go.RowKit

/-- a row that lies apart from the generator -/
def RowN (w : World) (gb : Nat) (a : Option Addr) (vals : List Value) : Prop := ∀ j u, vals[j]? = some u → ∃ g o, a = some ⟨g, o, none⟩ ∧ g ≠ gb ∧ w.cell? ⟨g, o + j, none⟩ = some u
/-- the lists of a generator, and that its method is in order -/
structure GKok (κ : GK) (w1 : World) (gb : Nat) (E : List Bool) : Prop where
  code : RowN w1 gb κ.ca (flatI κ.m.code)
  lits : RowN w1 gb κ.la (κ.m.lits.map (Value.int .u64))
  dep : RowN w1 gb κ.da ((gmOf κ.m).dep.map (Value.int .i64))
  lead : RowN w1 gb κ.ea (E.map Value.bool)
  dl : κ.dl = κ.m.code.length
  el : κ.el = κ.m.code.length
  leads : ∀ p, p < κ.m.code.length → E[p]? = some ((gmOf κ.m).lead p)
  wf : (gmOf κ.m).wf
  good : κ.m.good
theorem litIdx {κ : GK} {w1 : World} {gb : Nat} {E : List Bool} (K : GKok κ w1 gb E) {k : Nat} (hk : k < κ.m.lits.length) : ∃ gl ol, κ.la = some ⟨gl, ol, none⟩ ∧ ∀ W', Fr [gb] w1 W' → W'.cell? ⟨gl, ol + k, none⟩ = some (.int .u64 ((gmOf κ.m).lit (k : Int))) := by
  obtain ⟨gl, ol, e, hne, hc⟩ := K.lits k (.int .u64 ((gmOf κ.m).lit (k : Int))) (by
    rw [List.getElem?_map, List.getElem?_eq_getElem hk]
    simp [GM.lit, gmOf, List.getD_eq_getElem?_getD, hk])
  exact ⟨gl, ol, e, fun W' hF => hF.cell (by simpa using hne) hc⟩
section
variable {κ : GK} {w1 : World} {gb : Nat} {X : List (Nat × Obj)} {na : Option Addr} {nc : Nat} {N : List Sr} {g : GS} {W : World} {E : List Bool}
theorem gn_note_any (K : GKok κ w1 gb E) (h : GIs κ w1 gb X na nc N g W) (hT : 0 ≤ κ.m.temps ∧ κ.m.temps ≤ 16) (hN : N.length ≤ 900) (hgl : g.code.length ≤ 50000) (i : GI) (hop : i.op = 1 ∨ i.op = 2 ∨ i.op = 3 ∨ i.op = 4 ∨ i.op = 5 ∨ i.op = 6 ∨ i.op = 8 ∨ i.op = 9 ∨ i.op = 10) (ha : 0 ≤ i.a ∧ i.a ≤ 4095) (h0 : i.op = 2 ∨ i.op = 5 ∨ i.op = 9 ∨ i.op = 10 → 0 < N.length) (hlit : i.op = 3 → i.a < κ.m.lits.length) : Calls Tryz.prog 64 #[.pointer (some ⟨gb, 0, none⟩), .agg #[.int .i64 i.op, .int .i64 i.a, .int .i64 i.b]] W (NoteTo κ w1 gb X (plain (gmOf κ.m) i N).2 (g.add (plain (gmOf κ.m) i N).1)) := by
  obtain ⟨op, a, b⟩ := i
  simp only at hop ha h0 hlit ⊢
  rcases hop with rfl | rfl | rfl | rfl | rfl | rfl | rfl | rfl | rfl
  · exact gn_note_temp h hT hN hgl a b
  · exact gn_note_pop h hT hN hgl a b (h0 (.inl rfl))
  · obtain ⟨k, hk⟩ : ∃ k : Nat, a = (k : Int) := ⟨a.toNat, by omega⟩
    subst hk
    have hk2 := hlit rfl
    obtain ⟨gl, ol, e, hc⟩ := litIdx K (k := k) (by omega)
    exact gn_note_lit h hT hN hgl (k : Int) b k rfl _ e rfl (by omega) hc
  · exact gn_note_load h hT hN hgl a b
  · exact gn_note_store h hT hN hgl a b (h0 (.inr (.inl rfl)))
  · exact gn_note_self h hT hN hgl a b
  · exact gn_note_int h hT hN hgl a b ha _ rfl
  · exact gn_note_dup h hT hN hgl a b (h0 (.inr (.inr (.inl rfl))))
  · exact gn_note_drop h hT hN hgl a b (h0 (.inr (.inr (.inr rfl))))
/-- how many sites there are behind an instruction -/
def sitesN (i : GI) (k : Int) : Int := if i.op = 11 then k + 1 else k
theorem gn_call_any (K : GKok κ w1 gb E) (h : GIs κ w1 gb X na nc N g W) (hT : 0 ≤ κ.m.temps ∧ κ.m.temps ≤ 16) (hN : N.length ≤ 900) (hgl : g.code.length ≤ 50000) (i : GI) (hop : i.op = 13 ∨ i.op = 11) (nx : Bool) (ha : 0 ≤ i.a) (hb : i.op = 11 → 0 ≤ i.b ∧ i.b ≤ 4) (ht : i.takes ≤ N.length) (hlit : i.op = 11 → i.a < κ.m.lits.length) (hsi : 0 ≤ g.sites ∧ g.sites ≤ 1000) : Calls Tryz.prog 60 #[.pointer (some ⟨gb, 0, none⟩), .agg #[.int .i64 i.op, .int .i64 i.a, .int .i64 i.b], .bool nx] W (NoteTo κ w1 gb X (one (gmOf κ.m) nx i N g.sites).2 ((g.add (one (gmOf κ.m) nx i N g.sites).1).site (sitesN i g.sites))) := by
  have hone : one (gmOf κ.m) nx i N g.sites = ((if nx = true then bringC κ.m.temps 0 (N.take (N.length - i.takes)) else []) ++ [if i.op = 13 then mkI 2 i.a (home κ.m.temps (N.length - i.takes)) (N.drop (N.length - i.takes)) 0 else mkI 7 g.sites (home κ.m.temps (N.length - i.takes)) (N.drop (N.length - i.takes)) ((gmOf κ.m).lit i.a)], (if nx = true then homes κ.m.temps (N.length - i.takes) else N.take (N.length - i.takes)) ++ [home κ.m.temps (N.length - i.takes)]) := by
    have hrl : (N.take (N.length - i.takes)).length = N.length - i.takes := by rw [List.length_take]; omega
    unfold one
    rw [if_pos hop]
    simp only [hrl]
    rfl
  rw [hone]
  obtain ⟨op, a, b⟩ := i
  simp only at hop ha hb ht hlit ⊢
  obtain ⟨q, hq⟩ : ∃ q, q = N.length - (⟨op, a, b⟩ : GI).takes := ⟨_, rfl⟩
  rw [← hq]
  rcases hop with rfl | rfl
  · have htk : (⟨13, a, b⟩ : GI).takes = 2 := by simp [GI.takes]
    rw [htk] at hq ht
    have hs : (g.add ((if nx = true then bringC κ.m.temps 0 (N.take q) else []) ++ [mkI 2 a (home κ.m.temps q) (N.drop q) 0])).site (sitesN ⟨13, a, b⟩ g.sites) = g.add ((if nx = true then bringC κ.m.temps 0 (N.take q) else []) ++ [mkI 2 a (home κ.m.temps q) (N.drop q) 0]) := by
      simp [GS.site, GS.add, sitesN]
    simp only [if_true] at hs ⊢
    rw [hs]
    cases nx
    · exact gn_call_arithN h hT hN hgl a b (q := q) (by omega)
    · exact gn_call_arithL h hT hN hgl a b (q := q) (by omega)
  · obtain ⟨ka, rfl⟩ : ∃ k : Nat, a = (k : Int) := ⟨a.toNat, by omega⟩
    have hb2 := hb rfl
    obtain ⟨kb, rfl⟩ : ∃ k : Nat, b = (k : Int) := ⟨b.toNat, by omega⟩
    have htk : (⟨11, (ka : Int), (kb : Int)⟩ : GI).takes = kb + 1 := by simp [GI.takes]
    rw [htk] at hq ht
    have hk2 := hlit rfl
    obtain ⟨gl, ol, e, hc⟩ := litIdx K (k := ka) (by omega)
    have hs : sitesN ⟨11, (ka : Int), (kb : Int)⟩ g.sites = g.sites + 1 := by simp [sitesN]
    rw [hs]
    simp only [show ¬ ((11 : Int) = 13) by omega, if_false]
    cases nx
    · exact gn_call_sendN h hT hN hgl ka kb _ e rfl (by omega) hc (by omega) hsi (q := q) (by omega)
    · exact gn_call_sendL h hT hN hgl ka kb _ e rfl (by omega) hc (by omega) hsi (q := q) (by omega)
end
end Go.Proofs.YtomcfjckhajhmabGreatDoor
namespace Go.Proofs.YtomcfjckhajhmabGreatDoor
open Go.RowKit

section
variable {κ : GK} {w1 : World} {gb : Nat} {X : List (Nat × Obj)} {na : Option Addr} {nc : Nat} {N : List Sr} {g : GS} {W : World}
theorem GIs.rowCells (h : GIs κ w1 gb X na nc N g W) : W.cell? ⟨gb, 5, none⟩ = some (.slice κ.ca κ.m.code.length κ.cc) ∧ W.cell? ⟨gb, 6, none⟩ = some (.slice κ.da κ.dl κ.dc) ∧ W.cell? ⟨gb, 7, none⟩ = some (.slice κ.ea κ.el κ.ec) := by
  obtain ⟨u, h1, h2⟩ := h
  exact ⟨cell_of_heap h1.box rfl, cell_of_heap h1.box rfl, cell_of_heap h1.box rfl⟩
set_option maxRecDepth 100000 in
set_option maxHeartbeats 4000000 in
theorem gn_tr_13 (h : GIs κ w1 gb X na nc N g W) {p n gc oc : Nat} (hca : κ.ca = some ⟨gc, oc, none⟩) (hn : n = κ.m.code.length) (hp : p < n) (hn2 : n ≤ 128) (a b : Int) (hc : ∀ W', Fr [gb] w1 W' → W'.cell? ⟨gc, oc + p * 3, none⟩ = some (.int .i64 13) ∧ W'.cell? ⟨gc, oc + p * 3 + 1, none⟩ = some (.int .i64 a) ∧ W'.cell? ⟨gc, oc + p * 3 + 2, none⟩ = some (.int .i64 b)) {ge oe : Nat} (hea : κ.ea = some ⟨ge, oe, none⟩) (hel : κ.el = n) (hp1 : p + 1 < n) (nx : Bool) (hx : ∀ W', Fr [gb] w1 W' → W'.cell? ⟨ge, oe + (p + 1), none⟩ = some (.bool nx)) (N2 : List Sr) (g2 : GS) (hcall : ∀ X' W', GIs κ w1 gb X' na nc N g W' → Calls Tryz.prog 60 #[.pointer (some ⟨gb, 0, none⟩), .agg #[.int .i64 13, .int .i64 a, .int .i64 b], .bool nx] W' (NoteTo κ w1 gb X' N2 g2)) : Calls Tryz.prog 43 #[.pointer (some ⟨gb, 0, none⟩), .int .i64 p] W (NoteTo κ w1 gb X N2 g2) := by
  have hgb := h.lt
  have HG := Lib.hid h
  obtain ⟨c0, c1, c2⟩ := hc W h.fr
  have hgc : gc < W.heap.size := World.block_lt_of_cell? W _ c0
  have p5 := h.rowCells.1
  rw [hca, ← hn] at p5
  have k0 : (0 : Int) ≤ (p : Int) := by omega
  have k1 : (p : Int) < (n : Int) := by omega
  have HCX := Lib.hid hc
  have HCA : Hid (κ.ca = some ⟨gc, oc, none⟩ ∧ n = κ.m.code.length) := Lib.hid ⟨hca, hn⟩
  have HX := Lib.hid hx
  have hx0 := hx W h.fr
  have hge : ge < W.heap.size := World.block_lt_of_cell? W _ hx0
  have p7 := h.rowCells.2.2
  rw [hea, hel] at p7
  have HEA : Hid (κ.ea = some ⟨ge, oe, none⟩ ∧ κ.el = n) := Lib.hid ⟨hea, hel⟩
  have e0 : (0 : Int) ≤ (p : Int) + 1 := by omega
  have e1 : (p : Int) + 1 < (n : Int) := by omega
  have e2 : IntKind.i64.wrap ((p : Int) + 1) = (p : Int) + 1 := IntWalk.i64_in _ (by omega)
  have HCL := Lib.hid hcall
  have hw0 := heap_new W (.cells #[.int .i64 13, .int .i64 a, .int .i64 b] 69)
  have HW0 := Lib.hid hw0
  have i0 := cell_of_heap (o := 0) hw0 rfl; have i1 := cell_of_heap (o := 1) hw0 rfl; have i2 := cell_of_heap (o := 2) hw0 rfl
  have p7' := ((Fr.refl [] W).alloc (.cells #[.int .i64 13, .int .i64 a, .int .i64 b] 69)).cell (by simp) p7
  have hx0' := ((Fr.refl [] W).alloc (.cells #[.int .i64 13, .int .i64 a, .int .i64 b] 69)).cell (by simp) hx0
  clear h hc hca hn hx hea hel hcall hw0
  go_enter Tryz.func43, Tryz.ntmps43
  go_wp2_with fail
  go_region_held3 (fun w' => w'.cell? ⟨W.heap.size, 0, none⟩ = some (.int .i64 13) ∧ w'.cell? ⟨W.heap.size, 1, none⟩ = some (.int .i64 a) ∧ w'.cell? ⟨W.heap.size, 2, none⟩ = some (.int .i64 b) ∧ w'.cell? ⟨gb, 7, none⟩ = some (.slice (some ⟨ge, oe, none⟩) n κ.ec) ∧ w'.cell? ⟨ge, oe + (p + 1), none⟩ = some (.bool nx))
    (first | exact ⟨i0, i1, i2, p7', hx0'⟩ | exact ⟨j0, j1, j2, t7, tx⟩ | go_keep)
    ((go_at_call 60; refine (HCL.out _ _ (HG.out.fresh (W' := (W.alloc (.cells #[.int .i64 13, .int .i64 a, .int .i64 b] 69)).drewN _) (by (repeat (first | (with_reducible refine Fr.setCell ?_ (fun h => absurd h (Nat.lt_irrefl _)) _) | (with_reducible refine Fr.setCell ?_ (fun h => absurd h (by first | omega | (simp; done) | (simp; omega) | (dsimp only; omega))) _) | (with_reducible refine Fr.alloc ?_ _) | (with_reducible refine Fr.drew ?_) | (with_reducible refine Fr.drewN ?_ _) | (with_reducible exact Fr.refl _ _)))) HW0.out (Nat.le_refl _))).mono ?_; rintro e w2 ⟨rfl, na', nc', hG⟩; have hj := hG.keep _ (List.mem_cons_self ..); have j0 := cell_of_heap (o := 0) hj rfl; have j1 := cell_of_heap (o := 1) hj rfl; have j2 := cell_of_heap (o := 2) hj rfl; have t7 := hG.rowCells.2.2; rw [HEA.out.1, HEA.out.2] at t7; have tx := HX.out w2 hG.fr; have HG2 := Lib.hid hG; clear hj hG))
  all_goals (try go_wp2_with fail)
  all_goals (go_end0; exact ⟨rfl, na', nc', (HG2.out.fr0 (by (repeat (first | (with_reducible refine Fr.setCell ?_ (fun h => absurd h (Nat.lt_irrefl _)) _) | (with_reducible refine Fr.setCell ?_ (fun h => absurd h (by first | omega | (simp; done) | (simp; omega) | (dsimp only; omega))) _) | (with_reducible refine Fr.alloc ?_ _) | (with_reducible refine Fr.drew ?_) | (with_reducible refine Fr.drewN ?_ _) | (with_reducible exact Fr.refl _ _))))).less (fun x hx => List.mem_cons_of_mem _ hx)⟩)
set_option maxRecDepth 100000 in
set_option maxHeartbeats 4000000 in
theorem gn_tr_11 (h : GIs κ w1 gb X na nc N g W) {p n gc oc : Nat} (hca : κ.ca = some ⟨gc, oc, none⟩) (hn : n = κ.m.code.length) (hp : p < n) (hn2 : n ≤ 128) (a b : Int) (hc : ∀ W', Fr [gb] w1 W' → W'.cell? ⟨gc, oc + p * 3, none⟩ = some (.int .i64 11) ∧ W'.cell? ⟨gc, oc + p * 3 + 1, none⟩ = some (.int .i64 a) ∧ W'.cell? ⟨gc, oc + p * 3 + 2, none⟩ = some (.int .i64 b)) {ge oe : Nat} (hea : κ.ea = some ⟨ge, oe, none⟩) (hel : κ.el = n) (hp1 : p + 1 < n) (nx : Bool) (hx : ∀ W', Fr [gb] w1 W' → W'.cell? ⟨ge, oe + (p + 1), none⟩ = some (.bool nx)) (N2 : List Sr) (g2 : GS) (hcall : ∀ X' W', GIs κ w1 gb X' na nc N g W' → Calls Tryz.prog 60 #[.pointer (some ⟨gb, 0, none⟩), .agg #[.int .i64 11, .int .i64 a, .int .i64 b], .bool nx] W' (NoteTo κ w1 gb X' N2 g2)) : Calls Tryz.prog 43 #[.pointer (some ⟨gb, 0, none⟩), .int .i64 p] W (NoteTo κ w1 gb X N2 g2) := by
  have hgb := h.lt
  have HG := Lib.hid h
  obtain ⟨c0, c1, c2⟩ := hc W h.fr
  have hgc : gc < W.heap.size := World.block_lt_of_cell? W _ c0
  have p5 := h.rowCells.1
  rw [hca, ← hn] at p5
  have k0 : (0 : Int) ≤ (p : Int) := by omega
  have k1 : (p : Int) < (n : Int) := by omega
  have HCX := Lib.hid hc
  have HCA : Hid (κ.ca = some ⟨gc, oc, none⟩ ∧ n = κ.m.code.length) := Lib.hid ⟨hca, hn⟩
  have HX := Lib.hid hx
  have hx0 := hx W h.fr
  have hge : ge < W.heap.size := World.block_lt_of_cell? W _ hx0
  have p7 := h.rowCells.2.2
  rw [hea, hel] at p7
  have HEA : Hid (κ.ea = some ⟨ge, oe, none⟩ ∧ κ.el = n) := Lib.hid ⟨hea, hel⟩
  have e0 : (0 : Int) ≤ (p : Int) + 1 := by omega
  have e1 : (p : Int) + 1 < (n : Int) := by omega
  have e2 : IntKind.i64.wrap ((p : Int) + 1) = (p : Int) + 1 := IntWalk.i64_in _ (by omega)
  have HCL := Lib.hid hcall
  have hw0 := heap_new W (.cells #[.int .i64 11, .int .i64 a, .int .i64 b] 69)
  have HW0 := Lib.hid hw0
  have i0 := cell_of_heap (o := 0) hw0 rfl; have i1 := cell_of_heap (o := 1) hw0 rfl; have i2 := cell_of_heap (o := 2) hw0 rfl
  have p7' := ((Fr.refl [] W).alloc (.cells #[.int .i64 11, .int .i64 a, .int .i64 b] 69)).cell (by simp) p7
  have hx0' := ((Fr.refl [] W).alloc (.cells #[.int .i64 11, .int .i64 a, .int .i64 b] 69)).cell (by simp) hx0
  clear h hc hca hn hx hea hel hcall hw0
  go_enter Tryz.func43, Tryz.ntmps43
  go_wp2_with fail
  go_region_held3 (fun w' => w'.cell? ⟨W.heap.size, 0, none⟩ = some (.int .i64 11) ∧ w'.cell? ⟨W.heap.size, 1, none⟩ = some (.int .i64 a) ∧ w'.cell? ⟨W.heap.size, 2, none⟩ = some (.int .i64 b) ∧ w'.cell? ⟨gb, 7, none⟩ = some (.slice (some ⟨ge, oe, none⟩) n κ.ec) ∧ w'.cell? ⟨ge, oe + (p + 1), none⟩ = some (.bool nx))
    (first | exact ⟨i0, i1, i2, p7', hx0'⟩ | exact ⟨j0, j1, j2, t7, tx⟩ | go_keep)
    ((go_at_call 60; refine (HCL.out _ _ (HG.out.fresh (W' := (W.alloc (.cells #[.int .i64 11, .int .i64 a, .int .i64 b] 69)).drewN _) (by (repeat (first | (with_reducible refine Fr.setCell ?_ (fun h => absurd h (Nat.lt_irrefl _)) _) | (with_reducible refine Fr.setCell ?_ (fun h => absurd h (by first | omega | (simp; done) | (simp; omega) | (dsimp only; omega))) _) | (with_reducible refine Fr.alloc ?_ _) | (with_reducible refine Fr.drew ?_) | (with_reducible refine Fr.drewN ?_ _) | (with_reducible exact Fr.refl _ _)))) HW0.out (Nat.le_refl _))).mono ?_; rintro e w2 ⟨rfl, na', nc', hG⟩; have hj := hG.keep _ (List.mem_cons_self ..); have j0 := cell_of_heap (o := 0) hj rfl; have j1 := cell_of_heap (o := 1) hj rfl; have j2 := cell_of_heap (o := 2) hj rfl; have t7 := hG.rowCells.2.2; rw [HEA.out.1, HEA.out.2] at t7; have tx := HX.out w2 hG.fr; have HG2 := Lib.hid hG; clear hj hG))
  all_goals (try go_wp2_with fail)
  all_goals (go_end0; exact ⟨rfl, na', nc', (HG2.out.fr0 (by (repeat (first | (with_reducible refine Fr.setCell ?_ (fun h => absurd h (Nat.lt_irrefl _)) _) | (with_reducible refine Fr.setCell ?_ (fun h => absurd h (by first | omega | (simp; done) | (simp; omega) | (dsimp only; omega))) _) | (with_reducible refine Fr.alloc ?_ _) | (with_reducible refine Fr.drew ?_) | (with_reducible refine Fr.drewN ?_ _) | (with_reducible exact Fr.refl _ _))))).less (fun x hx => List.mem_cons_of_mem _ hx)⟩)
set_option maxRecDepth 100000 in
set_option maxHeartbeats 4000000 in
theorem gn_tr_14 (h : GIs κ w1 gb X na nc N g W) {p n gc oc : Nat} (hca : κ.ca = some ⟨gc, oc, none⟩) (hn : n = κ.m.code.length) (hp : p < n) (hn2 : n ≤ 128) (a b : Int) (hc : ∀ W', Fr [gb] w1 W' → W'.cell? ⟨gc, oc + p * 3, none⟩ = some (.int .i64 14) ∧ W'.cell? ⟨gc, oc + p * 3 + 1, none⟩ = some (.int .i64 a) ∧ W'.cell? ⟨gc, oc + p * 3 + 2, none⟩ = some (.int .i64 b)) (N2 : List Sr) (g2 : GS) (hcall : ∀ W', GIs κ w1 gb X na nc N g W' → Calls Tryz.prog 61 #[.pointer (some ⟨gb, 0, none⟩), .agg #[.int .i64 14, .int .i64 a, .int .i64 b]] W' (NoteTo κ w1 gb X N2 g2)) : Calls Tryz.prog 43 #[.pointer (some ⟨gb, 0, none⟩), .int .i64 p] W (NoteTo κ w1 gb X N2 g2) := by
  have hgb := h.lt
  have HG := Lib.hid h
  obtain ⟨c0, c1, c2⟩ := hc W h.fr
  have hgc : gc < W.heap.size := World.block_lt_of_cell? W _ c0
  have p5 := h.rowCells.1
  rw [hca, ← hn] at p5
  have k0 : (0 : Int) ≤ (p : Int) := by omega
  have k1 : (p : Int) < (n : Int) := by omega
  have HCX := Lib.hid hc
  have HCA : Hid (κ.ca = some ⟨gc, oc, none⟩ ∧ n = κ.m.code.length) := Lib.hid ⟨hca, hn⟩
  have HCL := Lib.hid hcall
  clear h hc hca hn hcall
  go_enter Tryz.func43, Tryz.ntmps43
  go_wp2_with (go_at_call 61; refine (HCL.out _ (HG.out.fr0 (by (repeat (first | (with_reducible refine Fr.setCell ?_ (fun h => absurd h (Nat.lt_irrefl _)) _) | (with_reducible refine Fr.setCell ?_ (fun h => absurd h (by first | omega | (simp; done) | (simp; omega) | (dsimp only; omega))) _) | (with_reducible refine Fr.alloc ?_ _) | (with_reducible refine Fr.drew ?_) | (with_reducible refine Fr.drewN ?_ _) | (with_reducible exact Fr.refl _ _)))))).mono ?_; rintro e w2 ⟨rfl, na', nc', hG⟩; have HG2 := Lib.hid hG; clear hG)
  go_end0
  exact ⟨rfl, na', nc', HG2.out⟩
set_option maxRecDepth 100000 in
set_option maxHeartbeats 4000000 in
theorem gn_tr_15 (h : GIs κ w1 gb X na nc N g W) {p n gc oc : Nat} (hca : κ.ca = some ⟨gc, oc, none⟩) (hn : n = κ.m.code.length) (hp : p < n) (hn2 : n ≤ 128) (a b : Int) (hc : ∀ W', Fr [gb] w1 W' → W'.cell? ⟨gc, oc + p * 3, none⟩ = some (.int .i64 15) ∧ W'.cell? ⟨gc, oc + p * 3 + 1, none⟩ = some (.int .i64 a) ∧ W'.cell? ⟨gc, oc + p * 3 + 2, none⟩ = some (.int .i64 b)) (N2 : List Sr) (g2 : GS) (hcall : ∀ W', GIs κ w1 gb X na nc N g W' → Calls Tryz.prog 61 #[.pointer (some ⟨gb, 0, none⟩), .agg #[.int .i64 15, .int .i64 a, .int .i64 b]] W' (NoteTo κ w1 gb X N2 g2)) : Calls Tryz.prog 43 #[.pointer (some ⟨gb, 0, none⟩), .int .i64 p] W (NoteTo κ w1 gb X N2 g2) := by
  have hgb := h.lt
  have HG := Lib.hid h
  obtain ⟨c0, c1, c2⟩ := hc W h.fr
  have hgc : gc < W.heap.size := World.block_lt_of_cell? W _ c0
  have p5 := h.rowCells.1
  rw [hca, ← hn] at p5
  have k0 : (0 : Int) ≤ (p : Int) := by omega
  have k1 : (p : Int) < (n : Int) := by omega
  have HCX := Lib.hid hc
  have HCA : Hid (κ.ca = some ⟨gc, oc, none⟩ ∧ n = κ.m.code.length) := Lib.hid ⟨hca, hn⟩
  have HCL := Lib.hid hcall
  clear h hc hca hn hcall
  go_enter Tryz.func43, Tryz.ntmps43
  go_wp2_with (go_at_call 61; refine (HCL.out _ (HG.out.fr0 (by (repeat (first | (with_reducible refine Fr.setCell ?_ (fun h => absurd h (Nat.lt_irrefl _)) _) | (with_reducible refine Fr.setCell ?_ (fun h => absurd h (by first | omega | (simp; done) | (simp; omega) | (dsimp only; omega))) _) | (with_reducible refine Fr.alloc ?_ _) | (with_reducible refine Fr.drew ?_) | (with_reducible refine Fr.drewN ?_ _) | (with_reducible exact Fr.refl _ _)))))).mono ?_; rintro e w2 ⟨rfl, na', nc', hG⟩; have HG2 := Lib.hid hG; clear hG)
  go_end0
  exact ⟨rfl, na', nc', HG2.out⟩
set_option maxRecDepth 100000 in
set_option maxHeartbeats 4000000 in
theorem gn_tr_16 (h : GIs κ w1 gb X na nc N g W) {p n gc oc : Nat} (hca : κ.ca = some ⟨gc, oc, none⟩) (hn : n = κ.m.code.length) (hp : p < n) (hn2 : n ≤ 128) (a b : Int) (hc : ∀ W', Fr [gb] w1 W' → W'.cell? ⟨gc, oc + p * 3, none⟩ = some (.int .i64 16) ∧ W'.cell? ⟨gc, oc + p * 3 + 1, none⟩ = some (.int .i64 a) ∧ W'.cell? ⟨gc, oc + p * 3 + 2, none⟩ = some (.int .i64 b)) (N2 : List Sr) (g2 : GS) (hcall : ∀ W', GIs κ w1 gb X na nc N g W' → Calls Tryz.prog 61 #[.pointer (some ⟨gb, 0, none⟩), .agg #[.int .i64 16, .int .i64 a, .int .i64 b]] W' (NoteTo κ w1 gb X N2 g2)) : Calls Tryz.prog 43 #[.pointer (some ⟨gb, 0, none⟩), .int .i64 p] W (NoteTo κ w1 gb X N2 g2) := by
  have hgb := h.lt
  have HG := Lib.hid h
  obtain ⟨c0, c1, c2⟩ := hc W h.fr
  have hgc : gc < W.heap.size := World.block_lt_of_cell? W _ c0
  have p5 := h.rowCells.1
  rw [hca, ← hn] at p5
  have k0 : (0 : Int) ≤ (p : Int) := by omega
  have k1 : (p : Int) < (n : Int) := by omega
  have HCX := Lib.hid hc
  have HCA : Hid (κ.ca = some ⟨gc, oc, none⟩ ∧ n = κ.m.code.length) := Lib.hid ⟨hca, hn⟩
  have HCL := Lib.hid hcall
  clear h hc hca hn hcall
  go_enter Tryz.func43, Tryz.ntmps43
  go_wp2_with (go_at_call 61; refine (HCL.out _ (HG.out.fr0 (by (repeat (first | (with_reducible refine Fr.setCell ?_ (fun h => absurd h (Nat.lt_irrefl _)) _) | (with_reducible refine Fr.setCell ?_ (fun h => absurd h (by first | omega | (simp; done) | (simp; omega) | (dsimp only; omega))) _) | (with_reducible refine Fr.alloc ?_ _) | (with_reducible refine Fr.drew ?_) | (with_reducible refine Fr.drewN ?_ _) | (with_reducible exact Fr.refl _ _)))))).mono ?_; rintro e w2 ⟨rfl, na', nc', hG⟩; have HG2 := Lib.hid hG; clear hG)
  go_end0
  exact ⟨rfl, na', nc', HG2.out⟩
set_option maxRecDepth 100000 in
set_option maxHeartbeats 4000000 in
theorem gn_tr_17 (h : GIs κ w1 gb X na nc N g W) {p n gc oc : Nat} (hca : κ.ca = some ⟨gc, oc, none⟩) (hn : n = κ.m.code.length) (hp : p < n) (hn2 : n ≤ 128) (a b : Int) (hc : ∀ W', Fr [gb] w1 W' → W'.cell? ⟨gc, oc + p * 3, none⟩ = some (.int .i64 17) ∧ W'.cell? ⟨gc, oc + p * 3 + 1, none⟩ = some (.int .i64 a) ∧ W'.cell? ⟨gc, oc + p * 3 + 2, none⟩ = some (.int .i64 b)) (N2 : List Sr) (g2 : GS) (hcall : ∀ W', GIs κ w1 gb X na nc N g W' → Calls Tryz.prog 62 #[.pointer (some ⟨gb, 0, none⟩), .agg #[.int .i64 17, .int .i64 a, .int .i64 b]] W' (NoteTo κ w1 gb X N2 g2)) : Calls Tryz.prog 43 #[.pointer (some ⟨gb, 0, none⟩), .int .i64 p] W (NoteTo κ w1 gb X N2 g2) := by
  have hgb := h.lt
  have HG := Lib.hid h
  obtain ⟨c0, c1, c2⟩ := hc W h.fr
  have hgc : gc < W.heap.size := World.block_lt_of_cell? W _ c0
  have p5 := h.rowCells.1
  rw [hca, ← hn] at p5
  have k0 : (0 : Int) ≤ (p : Int) := by omega
  have k1 : (p : Int) < (n : Int) := by omega
  have HCX := Lib.hid hc
  have HCA : Hid (κ.ca = some ⟨gc, oc, none⟩ ∧ n = κ.m.code.length) := Lib.hid ⟨hca, hn⟩
  have HCL := Lib.hid hcall
  clear h hc hca hn hcall
  go_enter Tryz.func43, Tryz.ntmps43
  go_wp2_with (go_at_call 62; refine (HCL.out _ (HG.out.fr0 (by (repeat (first | (with_reducible refine Fr.setCell ?_ (fun h => absurd h (Nat.lt_irrefl _)) _) | (with_reducible refine Fr.setCell ?_ (fun h => absurd h (by first | omega | (simp; done) | (simp; omega) | (dsimp only; omega))) _) | (with_reducible refine Fr.alloc ?_ _) | (with_reducible refine Fr.drew ?_) | (with_reducible refine Fr.drewN ?_ _) | (with_reducible exact Fr.refl _ _)))))).mono ?_; rintro e w2 ⟨rfl, na', nc', hG⟩; have HG2 := Lib.hid hG; clear hG)
  go_end0
  exact ⟨rfl, na', nc', HG2.out⟩
set_option maxRecDepth 100000 in
set_option maxHeartbeats 4000000 in
theorem gn_tr_18 (h : GIs κ w1 gb X na nc N g W) {p n gc oc : Nat} (hca : κ.ca = some ⟨gc, oc, none⟩) (hn : n = κ.m.code.length) (hp : p < n) (hn2 : n ≤ 128) (a b : Int) (hc : ∀ W', Fr [gb] w1 W' → W'.cell? ⟨gc, oc + p * 3, none⟩ = some (.int .i64 18) ∧ W'.cell? ⟨gc, oc + p * 3 + 1, none⟩ = some (.int .i64 a) ∧ W'.cell? ⟨gc, oc + p * 3 + 2, none⟩ = some (.int .i64 b)) (N2 : List Sr) (g2 : GS) (hcall : ∀ W', GIs κ w1 gb X na nc N g W' → Calls Tryz.prog 62 #[.pointer (some ⟨gb, 0, none⟩), .agg #[.int .i64 18, .int .i64 a, .int .i64 b]] W' (NoteTo κ w1 gb X N2 g2)) : Calls Tryz.prog 43 #[.pointer (some ⟨gb, 0, none⟩), .int .i64 p] W (NoteTo κ w1 gb X N2 g2) := by
  have hgb := h.lt
  have HG := Lib.hid h
  obtain ⟨c0, c1, c2⟩ := hc W h.fr
  have hgc : gc < W.heap.size := World.block_lt_of_cell? W _ c0
  have p5 := h.rowCells.1
  rw [hca, ← hn] at p5
  have k0 : (0 : Int) ≤ (p : Int) := by omega
  have k1 : (p : Int) < (n : Int) := by omega
  have HCX := Lib.hid hc
  have HCA : Hid (κ.ca = some ⟨gc, oc, none⟩ ∧ n = κ.m.code.length) := Lib.hid ⟨hca, hn⟩
  have HCL := Lib.hid hcall
  clear h hc hca hn hcall
  go_enter Tryz.func43, Tryz.ntmps43
  go_wp2_with (go_at_call 62; refine (HCL.out _ (HG.out.fr0 (by (repeat (first | (with_reducible refine Fr.setCell ?_ (fun h => absurd h (Nat.lt_irrefl _)) _) | (with_reducible refine Fr.setCell ?_ (fun h => absurd h (by first | omega | (simp; done) | (simp; omega) | (dsimp only; omega))) _) | (with_reducible refine Fr.alloc ?_ _) | (with_reducible refine Fr.drew ?_) | (with_reducible refine Fr.drewN ?_ _) | (with_reducible exact Fr.refl _ _)))))).mono ?_; rintro e w2 ⟨rfl, na', nc', hG⟩; have HG2 := Lib.hid hG; clear hG)
  go_end0
  exact ⟨rfl, na', nc', HG2.out⟩
set_option maxRecDepth 100000 in
set_option maxHeartbeats 4000000 in
theorem gn_tr_7 (h : GIs κ w1 gb X na nc N g W) {p n gc oc : Nat} (hca : κ.ca = some ⟨gc, oc, none⟩) (hn : n = κ.m.code.length) (hp : p < n) (hn2 : n ≤ 128) (a b : Int) (hc : ∀ W', Fr [gb] w1 W' → W'.cell? ⟨gc, oc + p * 3, none⟩ = some (.int .i64 7) ∧ W'.cell? ⟨gc, oc + p * 3 + 1, none⟩ = some (.int .i64 a) ∧ W'.cell? ⟨gc, oc + p * 3 + 2, none⟩ = some (.int .i64 b)) (hgl : g.code.length ≤ 50000) : Calls Tryz.prog 43 #[.pointer (some ⟨gb, 0, none⟩), .int .i64 p] W (NoteTo κ w1 gb X N (g.add [mkI 9 0 zeroS [] 0])) := by
  have hgb := h.lt
  have HG := Lib.hid h
  obtain ⟨c0, c1, c2⟩ := hc W h.fr
  have hgc : gc < W.heap.size := World.block_lt_of_cell? W _ c0
  have p5 := h.rowCells.1
  rw [hca, ← hn] at p5
  have k0 : (0 : Int) ≤ (p : Int) := by omega
  have k1 : (p : Int) < (n : Int) := by omega
  have HCX := Lib.hid hc
  have HCA : Hid (κ.ca = some ⟨gc, oc, none⟩ ∧ n = κ.m.code.length) := Lib.hid ⟨hca, hn⟩
  have HGL := Lib.hid hgl
  clear h hc hca hn hgl
  go_enter Tryz.func43, Tryz.ntmps43
  go_wp2_with (go_at_call 63; refine (gn_addNone (HG.out.fr0 (by (repeat (first | (with_reducible refine Fr.setCell ?_ (fun h => absurd h (Nat.lt_irrefl _)) _) | (with_reducible refine Fr.setCell ?_ (fun h => absurd h (by first | omega | (simp; done) | (simp; omega) | (dsimp only; omega))) _) | (with_reducible refine Fr.alloc ?_ _) | (with_reducible refine Fr.drew ?_) | (with_reducible refine Fr.drewN ?_ _) | (with_reducible exact Fr.refl _ _))))) 9 0 (by have := HGL.out; omega)).mono ?_; rintro e w2 ⟨rfl, hG⟩; have HG2 := Lib.hid hG; clear hG)
  go_end0
  exact ⟨rfl, na, nc, HG2.out⟩
set_option maxRecDepth 100000 in
set_option maxHeartbeats 4000000 in
theorem gn_tr_19 (h : GIs κ w1 gb X na nc N g W) {p n gc oc : Nat} (hca : κ.ca = some ⟨gc, oc, none⟩) (hn : n = κ.m.code.length) (hp : p < n) (hn2 : n ≤ 128) (a b : Int) (hc : ∀ W', Fr [gb] w1 W' → W'.cell? ⟨gc, oc + p * 3, none⟩ = some (.int .i64 19) ∧ W'.cell? ⟨gc, oc + p * 3 + 1, none⟩ = some (.int .i64 a) ∧ W'.cell? ⟨gc, oc + p * 3 + 2, none⟩ = some (.int .i64 b)) (hgl : g.code.length ≤ 50000) : Calls Tryz.prog 43 #[.pointer (some ⟨gb, 0, none⟩), .int .i64 p] W (NoteTo κ w1 gb X N (g.add [mkI 9 0 zeroS [] 0])) := by
  have hgb := h.lt
  have HG := Lib.hid h
  obtain ⟨c0, c1, c2⟩ := hc W h.fr
  have hgc : gc < W.heap.size := World.block_lt_of_cell? W _ c0
  have p5 := h.rowCells.1
  rw [hca, ← hn] at p5
  have k0 : (0 : Int) ≤ (p : Int) := by omega
  have k1 : (p : Int) < (n : Int) := by omega
  have HCX := Lib.hid hc
  have HCA : Hid (κ.ca = some ⟨gc, oc, none⟩ ∧ n = κ.m.code.length) := Lib.hid ⟨hca, hn⟩
  have HGL := Lib.hid hgl
  clear h hc hca hn hgl
  go_enter Tryz.func43, Tryz.ntmps43
  go_wp2_with (go_at_call 63; refine (gn_addNone (HG.out.fr0 (by (repeat (first | (with_reducible refine Fr.setCell ?_ (fun h => absurd h (Nat.lt_irrefl _)) _) | (with_reducible refine Fr.setCell ?_ (fun h => absurd h (by first | omega | (simp; done) | (simp; omega) | (dsimp only; omega))) _) | (with_reducible refine Fr.alloc ?_ _) | (with_reducible refine Fr.drew ?_) | (with_reducible refine Fr.drewN ?_ _) | (with_reducible exact Fr.refl _ _))))) 9 0 (by have := HGL.out; omega)).mono ?_; rintro e w2 ⟨rfl, hG⟩; have HG2 := Lib.hid hG; clear hG)
  go_end0
  exact ⟨rfl, na, nc, HG2.out⟩
set_option maxRecDepth 100000 in
set_option maxHeartbeats 4000000 in
theorem gn_tr_12 (h : GIs κ w1 gb X na nc N g W) {p n gc oc : Nat} (hca : κ.ca = some ⟨gc, oc, none⟩) (hn : n = κ.m.code.length) (hp : p < n) (hn2 : n ≤ 128) (a b : Int) (hc : ∀ W', Fr [gb] w1 W' → W'.cell? ⟨gc, oc + p * 3, none⟩ = some (.int .i64 12) ∧ W'.cell? ⟨gc, oc + p * 3 + 1, none⟩ = some (.int .i64 a) ∧ W'.cell? ⟨gc, oc + p * 3 + 2, none⟩ = some (.int .i64 b)) (hgl : g.code.length ≤ 50000) : Calls Tryz.prog 43 #[.pointer (some ⟨gb, 0, none⟩), .int .i64 p] W (NoteTo κ w1 gb X N (g.add [mkI 9 0 zeroS [] 0])) := by
  have hgb := h.lt
  have HG := Lib.hid h
  obtain ⟨c0, c1, c2⟩ := hc W h.fr
  have hgc : gc < W.heap.size := World.block_lt_of_cell? W _ c0
  have p5 := h.rowCells.1
  rw [hca, ← hn] at p5
  have k0 : (0 : Int) ≤ (p : Int) := by omega
  have k1 : (p : Int) < (n : Int) := by omega
  have HCX := Lib.hid hc
  have HCA : Hid (κ.ca = some ⟨gc, oc, none⟩ ∧ n = κ.m.code.length) := Lib.hid ⟨hca, hn⟩
  have HGL := Lib.hid hgl
  clear h hc hca hn hgl
  go_enter Tryz.func43, Tryz.ntmps43
  go_wp2_with (go_at_call 63; refine (gn_addNone (HG.out.fr0 (by (repeat (first | (with_reducible refine Fr.setCell ?_ (fun h => absurd h (Nat.lt_irrefl _)) _) | (with_reducible refine Fr.setCell ?_ (fun h => absurd h (by first | omega | (simp; done) | (simp; omega) | (dsimp only; omega))) _) | (with_reducible refine Fr.alloc ?_ _) | (with_reducible refine Fr.drew ?_) | (with_reducible refine Fr.drewN ?_ _) | (with_reducible exact Fr.refl _ _))))) 9 0 (by have := HGL.out; omega)).mono ?_; rintro e w2 ⟨rfl, hG⟩; have HG2 := Lib.hid hG; clear hG)
  go_end0
  exact ⟨rfl, na, nc, HG2.out⟩
set_option maxRecDepth 100000 in
set_option maxHeartbeats 4000000 in
theorem gn_tr_noteN (h : GIs κ w1 gb X na nc N g W) {p n gc oc : Nat} (hca : κ.ca = some ⟨gc, oc, none⟩) (hn : n = κ.m.code.length) (hp : p < n) (hn2 : n ≤ 128) (op a b : Int) (hc : ∀ W', Fr [gb] w1 W' → W'.cell? ⟨gc, oc + p * 3, none⟩ = some (.int .i64 op) ∧ W'.cell? ⟨gc, oc + p * 3 + 1, none⟩ = some (.int .i64 a) ∧ W'.cell? ⟨gc, oc + p * 3 + 2, none⟩ = some (.int .i64 b)) {ge oe : Nat} (hea : κ.ea = some ⟨ge, oe, none⟩) (hel : κ.el = n) (hp1 : p + 1 < n) (hx : ∀ W', Fr [gb] w1 W' → W'.cell? ⟨ge, oe + (p + 1), none⟩ = some (.bool false)) (hop : (op == 13) = false ∧ (op == 11) = false ∧ (op == 14) = false ∧ (op == 15) = false ∧ (op == 16) = false ∧ (op == 17) = false ∧ (op == 18) = false ∧ (op == 7) = false ∧ (op == 19) = false ∧ (op == 12) = false) (hT : 0 ≤ κ.m.temps ∧ κ.m.temps ≤ 16) (N1 : List Sr) (g1 : GS) (hN1 : N1.length ≤ 900) (hg1 : g1.code.length ≤ 50000) (hcall : ∀ W', GIs κ w1 gb X na nc N g W' → Calls Tryz.prog 64 #[.pointer (some ⟨gb, 0, none⟩), .agg #[.int .i64 op, .int .i64 a, .int .i64 b]] W' (NoteTo κ w1 gb X N1 g1)) : Calls Tryz.prog 43 #[.pointer (some ⟨gb, 0, none⟩), .int .i64 p] W (NoteTo κ w1 gb X N1 g1) := by
  have hgb := h.lt
  have HG := Lib.hid h
  obtain ⟨c0, c1, c2⟩ := hc W h.fr
  have hgc : gc < W.heap.size := World.block_lt_of_cell? W _ c0
  have p5 := h.rowCells.1
  rw [hca, ← hn] at p5
  have k0 : (0 : Int) ≤ (p : Int) := by omega
  have k1 : (p : Int) < (n : Int) := by omega
  have HCX := Lib.hid hc
  have HCA : Hid (κ.ca = some ⟨gc, oc, none⟩ ∧ n = κ.m.code.length) := Lib.hid ⟨hca, hn⟩
  have HX := Lib.hid hx
  have hx0 := hx W h.fr
  have hge : ge < W.heap.size := World.block_lt_of_cell? W _ hx0
  have p7 := h.rowCells.2.2
  rw [hea, hel] at p7
  have HEA : Hid (κ.ea = some ⟨ge, oe, none⟩ ∧ κ.el = n) := Lib.hid ⟨hea, hel⟩
  have e0 : (0 : Int) ≤ (p : Int) + 1 := by omega
  have e1 : (p : Int) + 1 < (n : Int) := by omega
  have e2 : IntKind.i64.wrap ((p : Int) + 1) = (p : Int) + 1 := IntWalk.i64_in _ (by omega)
  have HCL := Lib.hid hcall
  have HTq := Lib.hid hT
  have HN1 := Lib.hid hN1
  have HG1 := Lib.hid hg1
  obtain ⟨o13, o11, o14, o15, o16, o17, o18, o7, o19, o12⟩ := hop
  clear h hc hca hn hx hea hel hcall hT hN1 hg1
  go_enter Tryz.func43, Tryz.ntmps43
  go_wp2_with (first
    | (go_at_call 64; refine (HCL.out _ (HG.out.fr0 (by (repeat (first | (with_reducible refine Fr.setCell ?_ (fun h => absurd h (Nat.lt_irrefl _)) _) | (with_reducible refine Fr.setCell ?_ (fun h => absurd h (by first | omega | (simp; done) | (simp; omega) | (dsimp only; omega))) _) | (with_reducible refine Fr.alloc ?_ _) | (with_reducible refine Fr.drew ?_) | (with_reducible refine Fr.drewN ?_ _) | (with_reducible exact Fr.refl _ _)))))).mono ?_; rintro e w2 ⟨rfl, na', nc', hG⟩; have t7 := hG.rowCells.2.2; rw [HEA.out.1, HEA.out.2] at t7; have tx := HX.out w2 hG.fr; have hg2 := hG.lt; have hge2 : ge < w2.heap.size := World.block_lt_of_cell? w2 _ tx; have HG2 := Lib.hid hG; clear hG)
    | (go_at_call 65; refine (gn_allHome HG2.out HTq.out HN1.out HG1.out).mono ?_; rintro e w3 ⟨rfl, hG⟩; have HG3 := Lib.hid hG; clear hG))
  go_end0
  exact ⟨rfl, na', nc', HG2.out⟩
set_option maxRecDepth 100000 in
set_option maxHeartbeats 4000000 in
theorem gn_tr_noteL (h : GIs κ w1 gb X na nc N g W) {p n gc oc : Nat} (hca : κ.ca = some ⟨gc, oc, none⟩) (hn : n = κ.m.code.length) (hp : p < n) (hn2 : n ≤ 128) (op a b : Int) (hc : ∀ W', Fr [gb] w1 W' → W'.cell? ⟨gc, oc + p * 3, none⟩ = some (.int .i64 op) ∧ W'.cell? ⟨gc, oc + p * 3 + 1, none⟩ = some (.int .i64 a) ∧ W'.cell? ⟨gc, oc + p * 3 + 2, none⟩ = some (.int .i64 b)) {ge oe : Nat} (hea : κ.ea = some ⟨ge, oe, none⟩) (hel : κ.el = n) (hp1 : p + 1 < n) (hx : ∀ W', Fr [gb] w1 W' → W'.cell? ⟨ge, oe + (p + 1), none⟩ = some (.bool true)) (hop : (op == 13) = false ∧ (op == 11) = false ∧ (op == 14) = false ∧ (op == 15) = false ∧ (op == 16) = false ∧ (op == 17) = false ∧ (op == 18) = false ∧ (op == 7) = false ∧ (op == 19) = false ∧ (op == 12) = false) (hT : 0 ≤ κ.m.temps ∧ κ.m.temps ≤ 16) (N1 : List Sr) (g1 : GS) (hN1 : N1.length ≤ 900) (hg1 : g1.code.length ≤ 50000) (hcall : ∀ W', GIs κ w1 gb X na nc N g W' → Calls Tryz.prog 64 #[.pointer (some ⟨gb, 0, none⟩), .agg #[.int .i64 op, .int .i64 a, .int .i64 b]] W' (NoteTo κ w1 gb X N1 g1)) : Calls Tryz.prog 43 #[.pointer (some ⟨gb, 0, none⟩), .int .i64 p] W (NoteTo κ w1 gb X (homes κ.m.temps N1.length) (g1.add (bringC κ.m.temps 0 N1))) := by
  have hgb := h.lt
  have HG := Lib.hid h
  obtain ⟨c0, c1, c2⟩ := hc W h.fr
  have hgc : gc < W.heap.size := World.block_lt_of_cell? W _ c0
  have p5 := h.rowCells.1
  rw [hca, ← hn] at p5
  have k0 : (0 : Int) ≤ (p : Int) := by omega
  have k1 : (p : Int) < (n : Int) := by omega
  have HCX := Lib.hid hc
  have HCA : Hid (κ.ca = some ⟨gc, oc, none⟩ ∧ n = κ.m.code.length) := Lib.hid ⟨hca, hn⟩
  have HX := Lib.hid hx
  have hx0 := hx W h.fr
  have hge : ge < W.heap.size := World.block_lt_of_cell? W _ hx0
  have p7 := h.rowCells.2.2
  rw [hea, hel] at p7
  have HEA : Hid (κ.ea = some ⟨ge, oe, none⟩ ∧ κ.el = n) := Lib.hid ⟨hea, hel⟩
  have e0 : (0 : Int) ≤ (p : Int) + 1 := by omega
  have e1 : (p : Int) + 1 < (n : Int) := by omega
  have e2 : IntKind.i64.wrap ((p : Int) + 1) = (p : Int) + 1 := IntWalk.i64_in _ (by omega)
  have HCL := Lib.hid hcall
  have HTq := Lib.hid hT
  have HN1 := Lib.hid hN1
  have HG1 := Lib.hid hg1
  obtain ⟨o13, o11, o14, o15, o16, o17, o18, o7, o19, o12⟩ := hop
  clear h hc hca hn hx hea hel hcall hT hN1 hg1
  go_enter Tryz.func43, Tryz.ntmps43
  go_wp2_with (first
    | (go_at_call 64; refine (HCL.out _ (HG.out.fr0 (by (repeat (first | (with_reducible refine Fr.setCell ?_ (fun h => absurd h (Nat.lt_irrefl _)) _) | (with_reducible refine Fr.setCell ?_ (fun h => absurd h (by first | omega | (simp; done) | (simp; omega) | (dsimp only; omega))) _) | (with_reducible refine Fr.alloc ?_ _) | (with_reducible refine Fr.drew ?_) | (with_reducible refine Fr.drewN ?_ _) | (with_reducible exact Fr.refl _ _)))))).mono ?_; rintro e w2 ⟨rfl, na', nc', hG⟩; have t7 := hG.rowCells.2.2; rw [HEA.out.1, HEA.out.2] at t7; have tx := HX.out w2 hG.fr; have hg2 := hG.lt; have hge2 : ge < w2.heap.size := World.block_lt_of_cell? w2 _ tx; have HG2 := Lib.hid hG; clear hG)
    | (go_at_call 65; refine (gn_allHome HG2.out HTq.out HN1.out HG1.out).mono ?_; rintro e w3 ⟨rfl, hG⟩; have HG3 := Lib.hid hG; clear hG))
  go_end0
  exact ⟨rfl, na', nc', HG3.out⟩
end
end Go.Proofs.YtomcfjckhajhmabGreatDoor
namespace Go.Proofs.YtomcfjckhajhmabGreatDoor
open Go.RowKit

theorem RowN.code {w1 : World} {gb : Nat} {κ : GK} {E : List Bool} (K : GKok κ w1 gb E) {p : Nat} {i : Ins} (hi : κ.m.code[p]? = some i) : ∃ gc oc, κ.ca = some ⟨gc, oc, none⟩ ∧ ∀ W', Fr [gb] w1 W' → W'.cell? ⟨gc, oc + p * 3, none⟩ = some (.int .i64 i.op) ∧ W'.cell? ⟨gc, oc + p * 3 + 1, none⟩ = some (.int .i64 i.a) ∧ W'.cell? ⟨gc, oc + p * 3 + 2, none⟩ = some (.int .i64 i.b) := by
  obtain ⟨f0, f1, f2⟩ := flatI_at hi
  obtain ⟨gc, oc, e, hne, c0⟩ := K.code _ _ f0
  obtain ⟨g1, o1, e1, -, c1⟩ := K.code _ _ f1
  obtain ⟨g2, o2, e2, -, c2⟩ := K.code _ _ f2
  rw [e] at e1 e2
  cases e1
  cases e2
  have hn : gc ∉ [gb] := by simpa using hne
  exact ⟨gc, oc, e, fun W' hF => ⟨hF.cell hn c0, by rw [Nat.add_assoc]; exact hF.cell hn c1, by rw [Nat.add_assoc]; exact hF.cell hn c2⟩⟩
theorem leadIdx {κ : GK} {w1 : World} {gb : Nat} {E : List Bool} (K : GKok κ w1 gb E) {p : Nat} (hp : p < κ.m.code.length) : ∃ ge oe, κ.ea = some ⟨ge, oe, none⟩ ∧ ∀ W', Fr [gb] w1 W' → W'.cell? ⟨ge, oe + p, none⟩ = some (.bool ((gmOf κ.m).lead p)) := by
  obtain ⟨ge, oe, e, hne, hc⟩ := K.lead p (.bool ((gmOf κ.m).lead p)) (by rw [List.getElem?_map, K.leads p hp]; rfl)
  exact ⟨ge, oe, e, fun W' hF => hF.cell (by simpa using hne) hc⟩
theorem depIdx {κ : GK} {w1 : World} {gb : Nat} {E : List Bool} (K : GKok κ w1 gb E) {p : Nat} (hp : p < κ.m.code.length) : ∃ gd od, κ.da = some ⟨gd, od, none⟩ ∧ ∀ W', Fr [gb] w1 W' → W'.cell? ⟨gd, od + p, none⟩ = some (.int .i64 ((gmOf κ.m).dep.getD p (-1))) := by
  obtain ⟨gd, od, e, hne, hc⟩ := K.dep p (.int .i64 ((gmOf κ.m).dep.getD p (-1))) (by
    have hl : p < (gmOf κ.m).dep.length := by rw [K.wf.dl]; simpa [gmOf] using hp
    rw [List.getElem?_map, List.getD_eq_getElem?_getD, List.getElem?_eq_getElem hl]
    rfl)
  exact ⟨gd, od, e, fun W' hF => hF.cell (by simpa using hne) hc⟩
theorem opOk_lit {m : Mth} {i : Ins} (h : m.opOk i = true) : (i.op = 3 → i.a < m.lits.length) ∧ (i.op = 11 → i.a < m.lits.length ∧ i.b ≤ 4) := by
  unfold Mth.opOk at h
  refine ⟨fun e => ?_, fun e => ?_⟩
  · rw [if_neg (by omega), if_pos (by omega)] at h
    exact of_decide_eq_true h
  · rw [if_neg (by omega), if_neg (by omega), if_pos (by omega), Bool.and_eq_true] at h
    exact ⟨of_decide_eq_true h.1, of_decide_eq_true h.2⟩
theorem site_same (g : GS) (C : List Ii) (i : GI) (h : i.op ≠ 11) : (g.add C).site (sitesN i g.sites) = g.add C := by
  unfold sitesN
  rw [if_neg h]
  rfl
theorem plain_le (g : GM) (i : GI) (N : List Sr) : (plain g i N).1.length ≤ N.length + 1 := by
  have h2 := flushC_le g.temps i.a 0 N.dropLast
  have h3 : N.dropLast.length ≤ N.length := by simp
  unfold plain
  split
  · simp
  split
  · simp
  split
  · simp
  split
  · simp
  split
  · simp
  split
  · simp
  split
  · split
    · simp
    · rw [List.length_append, List.length_singleton]; omega
  split
  · simp
  split
  · simp
  · simp
section
variable {κ : GK} {w1 : World} {gb : Nat} {X : List (Nat × Obj)} {na : Option Addr} {nc : Nat} {g : GS} {W : World} {E : List Bool}
set_option maxHeartbeats 4000000 in
theorem gn_translate (K : GKok κ w1 gb E) {p : Nat} {i : Ins} (hi : κ.m.code[p]? = some i) (hon : (gmOf κ.m).on p) (h : GIs κ w1 gb X na nc ((gmOf κ.m).N p) g W) (hgl : g.code.length ≤ 40000) (hsi : g.sites = ((gmOf κ.m).nk p).2) (hsb : 0 ≤ g.sites ∧ g.sites ≤ 1000) : Calls Tryz.prog 43 #[.pointer (some ⟨gb, 0, none⟩), .int .i64 p] W (NoteTo κ w1 gb X ((gmOf κ.m).cd p ⟨i.op, i.a, i.b⟩).2 ((g.add ((gmOf κ.m).cd p ⟨i.op, i.a, i.b⟩).1).site (sitesN ⟨i.op, i.a, i.b⟩ g.sites))) := by
  have Wf := K.wf
  have hg : (gmOf κ.m).code[p]? = some ⟨i.op, i.a, i.b⟩ := by simp [gmOf, hi]
  have hm := List.mem_of_getElem? hg
  obtain ⟨r1, r2, r3, r4, r5⟩ := Wf.op _ hm
  have hmay := Wf.may _ hm
  obtain ⟨hn1, hn2⟩ := Wf.need p _ hg hon
  have hnx := Wf.next p _ hg hon
  have hl := GM.N_len Wf hon
  have hnts := GM.N_nts Wf hon
  have hfit := Wf.fits p hon
  have hst := Wf.stack
  have htm := Wf.temps
  have hag := Wf.args
  have hT : 0 ≤ κ.m.temps ∧ κ.m.temps ≤ 16 := ⟨by have : (gmOf κ.m).temps = κ.m.temps := rfl; omega, htm.2⟩
  have hop := opOk_lit (K.good.op i (List.mem_of_getElem? hi))
  have hpl := (List.getElem?_eq_some_iff.1 hi).1
  have hcl : κ.m.code.length ≤ 128 := by have := Wf.len.2; simpa [gmOf] using this
  obtain ⟨gc, oc, hca, hc⟩ := RowN.code K hi
  have hN : ((gmOf κ.m).N p).length ≤ 900 := by omega
  have hcd : (gmOf κ.m).cd p ⟨i.op, i.a, i.b⟩ = one (gmOf κ.m) ((gmOf κ.m).lead (p + 1)) ⟨i.op, i.a, i.b⟩ ((gmOf κ.m).N p) g.sites := by rw [GM.cd, hsi]
  rw [hcd]
  generalize hNN : (gmOf κ.m).N p = N at *
  obtain ⟨op, a, b⟩ := i
  simp only at r1 r2 r3 r4 r5 hmay hn1 hn2 hnx hop hc hg ⊢
  by_cases h13 : op = 13 ∨ op = 11
  · have hgo := hnx (by unfold GI.goes; simp only; omega)
    have hp1 : p + 1 < κ.m.code.length := by have := hgo.1; simpa [gmOf] using this
    obtain ⟨ge, oe, hea, hx⟩ := leadIdx K hp1
    have htk := GI.takes_le Wf hg hon (by simpa using h13)
    have hca9 := fun X' W' (hG : GIs κ w1 gb X' na nc N g W') => gn_call_any (X := X') (W := W') K hG hT hN (by omega) ⟨op, a, b⟩ h13 ((gmOf κ.m).lead (p + 1)) r3 (fun e => ⟨r5, (hop.2 e).2⟩) (by omega) (fun e => (hop.2 e).1) hsb
    rcases h13 with rfl | rfl
    · exact gn_tr_13 h hca rfl hpl hcl a b hc hea K.el hp1 _ hx _ _ hca9
    · exact gn_tr_11 h hca rfl hpl hcl a b hc hea K.el hp1 _ hx _ _ hca9
  · rw [site_same g _ _ (by simp only; omega)]
    by_cases h14 : op = 14
    · subst h14
      refine gn_tr_14 h hca rfl hpl hcl a b hc _ _ fun W' hG => ?_
      have h9 := gn_jump hG hT hN (by omega) a b
      simpa [one, gmOf] using h9
    by_cases h15 : op = 15
    · subst h15
      refine gn_tr_15 h hca rfl hpl hcl a b hc _ _ fun W' hG => ?_
      have h9 := gn_jump_true hG hN (by simp [GI.need] at hn1; omega) (by omega) a b
      simpa [one, gmOf] using h9
    by_cases h16 : op = 16
    · subst h16
      refine gn_tr_16 h hca rfl hpl hcl a b hc _ _ fun W' hG => ?_
      have h9 := gn_jump_false hG hN (by simp [GI.need] at hn1; omega) (by omega) a b
      simpa [one, gmOf] using h9
    by_cases h17 : op = 17
    · subst h17
      refine gn_tr_17 h hca rfl hpl hcl a b hc _ _ fun W' hG => ?_
      have h9 := gn_return hG hN (by simp [GI.need] at hn1; omega) (by omega) a b
      simpa [one, gmOf] using h9
    by_cases h18 : op = 18
    · subst h18
      refine gn_tr_18 h hca rfl hpl hcl a b hc _ _ fun W' hG => ?_
      have h9 := gn_returnSelf hG hN (by omega) a b
      simpa [one, gmOf] using h9
    by_cases h7 : op = 7
    · subst h7
      have h9 := gn_tr_7 h hca rfl hpl hcl a b hc (by omega)
      simpa [one, gmOf] using h9
    by_cases h19 : op = 19
    · subst h19
      have h9 := gn_tr_19 h hca rfl hpl hcl a b hc (by omega)
      simpa [one, gmOf] using h9
    by_cases h12 : op = 12
    · subst h12
      have h9 := gn_tr_12 h hca rfl hpl hcl a b hc (by omega)
      simpa [one, gmOf] using h9
    have hpo : op = 1 ∨ op = 2 ∨ op = 3 ∨ op = 4 ∨ op = 5 ∨ op = 6 ∨ op = 8 ∨ op = 9 ∨ op = 10 := by omega
    have hgo := hnx (by unfold GI.goes; simp only; omega)
    have hp1 : p + 1 < κ.m.code.length := by have := hgo.1; simpa [gmOf] using this
    obtain ⟨ge, oe, hea, hx⟩ := leadIdx K hp1
    have hpi := (plain_inv Wf hg hon (N := N) hl hnts (by simpa using hpo)).1
    have hca9 := fun W' (hG : GIs κ w1 gb X na nc N g W') => gn_note_any (X := X) (W := W') K hG hT hN (by omega) ⟨op, a, b⟩ hpo ⟨r3, r4⟩ (fun e => by
      rcases e with e | e | e | e <;> (simp only at e; subst e; simp [GI.need] at hn1; omega)) (fun e => hop.1 e)
    have hpc : (g.add (plain (gmOf κ.m) ⟨op, a, b⟩ N).1).code.length ≤ 50000 := by
      have h1 := plain_le (gmOf κ.m) ⟨op, a, b⟩ N
      simp only [GS.add, List.length_append]
      omega
    have hone : ∀ nx, one (gmOf κ.m) nx ⟨op, a, b⟩ N g.sites = ((plain (gmOf κ.m) ⟨op, a, b⟩ N).1 ++ (if nx = true then bringC κ.m.temps 0 (plain (gmOf κ.m) ⟨op, a, b⟩ N).2 else []), if nx = true then homes κ.m.temps (plain (gmOf κ.m) ⟨op, a, b⟩ N).2.length else (plain (gmOf κ.m) ⟨op, a, b⟩ N).2) := by
      intro nx
      unfold one
      rw [if_neg (by simpa using h13), if_neg (by simpa using h14), if_neg (by simp only; omega), if_neg (by simpa using h17), if_neg (by simpa using h18), if_neg (by simp only; omega)]
      rfl
    rw [hone]
    have hq : (op == 13) = false ∧ (op == 11) = false ∧ (op == 14) = false ∧ (op == 15) = false ∧ (op == 16) = false ∧ (op == 17) = false ∧ (op == 18) = false ∧ (op == 7) = false ∧ (op == 19) = false ∧ (op == 12) = false := by
      simp only [beq_eq_false_iff_ne, ne_eq]
      omega
    cases hlx : (gmOf κ.m).lead (p + 1)
    · rw [hlx] at hx
      have h9 := gn_tr_noteN h hca rfl hpl hcl op a b hc hea K.el hp1 hx hq hT _ _ (by omega) hpc hca9
      simpa using h9
    · rw [hlx] at hx
      have h9 := gn_tr_noteL h hca rfl hpl hcl op a b hc hea K.el hp1 hx hq hT _ _ (by omega) hpc hca9
      simpa [GS.add_add] using h9
end
end Go.Proofs.YtomcfjckhajhmabGreatDoor
