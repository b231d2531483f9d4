/- gen: instructions that do nothing but push, pop and store, one operation each. (written by gengn.py) gen: what may lead into another method. (written by gengc.py) gen: jumps and returns. -/
import Derived.Test.YtomcfjckhajhmabGreatDoorMGnA
namespace Go.Proofs.YtomcfjckhajhmabGreatDoor
open Go.RowKit

/-- Returned: the generator, with what is noted. -/
def NoteTo (κ : GK) (w1 : World) (gb : Nat) (X : List (Nat × Obj)) (N : List Sr) (g : GS) (e : Ending) (w' : World) : Prop := e = .returned (.tuple #[]) ∧ ∃ na nc, GIs κ w1 gb X na nc N g w'
theorem gn_number_x (n x : Int) (hx : numW n = x) (w : World) (h : fit n = true) : Calls Tryz.prog 90 #[.int .i64 n] w (Gives (.int .u64 x) w) := by
  subst hx
  exact gn_number n w h
section
variable {κ : GK} {w1 : World} {gb : Nat} {X : List (Nat × Obj)} {na : Option Addr} {nc : Nat} {N : List Sr} {g : GS} {W : World}
set_option maxRecDepth 100000 in
set_option maxHeartbeats 4000000 in
theorem gn_note_temp (h : GIs κ w1 gb X na nc N g W) (hT : 0 ≤ κ.m.temps ∧ κ.m.temps ≤ 16) (hN : N.length ≤ 900) (hgl : g.code.length ≤ 50000) (a b : Int) : Calls Tryz.prog 64 #[.pointer (some ⟨gb, 0, none⟩), .agg #[.int .i64 1, .int .i64 a, .int .i64 b]] W (NoteTo κ w1 gb X (N ++ [regS a]) (g.add ([]))) := by
  have hgb := h.lt
  have HTq := Lib.hid hT
  have HGL := Lib.hid hgl
  have HG := Lib.hid h
  have hw0 := heap_new W (.cells #[.int .i64 1, .int .i64 a, .int .i64 b] 69)
  have i0 := cell_of_heap (o := 0) hw0 rfl; have i1 := cell_of_heap (o := 1) hw0 rfl; have i2 := cell_of_heap (o := 2) hw0 rfl
  have HW0 := Lib.hid hw0
  clear h hw0 hT hgl
  go_enter Tryz.func64, Tryz.ntmps64
  go_wp2_with fail
  go_region_held3 (fun w' => w'.cell? ⟨W.heap.size, 1, none⟩ = some (.int .i64 a))
    (first | exact i1 | exact j1 | exact l1 | go_keep)
    (first
      | (go_at_call 59; refine (gn_register a _).mono ?_; rintro e w2 ⟨rfl, hF⟩; have HF2 : Hid (Fr [] W w2) := Lib.hid (Fr.trans (by (repeat (first | (with_reducible refine Fr.setCell ?_ (fun h => absurd h (Nat.lt_irrefl _)) _) | (with_reducible refine Fr.setCell ?_ (fun h => absurd h (by first | omega | (simp; done) | (simp; omega) | (dsimp only; omega))) _) | (with_reducible refine Fr.alloc ?_ _) | (with_reducible refine Fr.drew ?_) | (with_reducible refine Fr.drewN ?_ _) | (with_reducible exact Fr.refl _ _)))) hF); have hj := hF.heap (k := W.heap.size) (by simp) HW0.out; have HJ2 := Lib.hid hj; have j0 := cell_of_heap (o := 0) hj rfl; have j1 := cell_of_heap (o := 1) hj rfl; have j2 := cell_of_heap (o := 2) hj rfl; clear hF hj)
      | (go_at_call 57; refine (gn_push (HG.out.fresh (by (repeat (first | (with_reducible refine Fr.setCell ?_ (fun h => absurd h (Nat.lt_irrefl _)) _) | (with_reducible refine Fr.setCell ?_ (fun h => absurd h (by first | omega | (simp; done) | (simp; omega) | (dsimp only; omega))) _) | (with_reducible refine Fr.alloc ?_ _) | (with_reducible refine Fr.drew ?_) | (with_reducible refine Fr.drewN ?_ _) | (with_reducible exact HF2.out)))) HJ2.out (Nat.le_refl _)) (regS a) (by omega)).mono ?_; rintro e w3 ⟨rfl, na', nc', hG⟩; have hl3 := hG.keep _ (List.mem_cons_self ..); have l0 := cell_of_heap (o := 0) hl3 rfl; have l1 := cell_of_heap (o := 1) hl3 rfl; have l2 := cell_of_heap (o := 2) hl3 rfl; have HG3 := Lib.hid hG; clear hl3 hG))
  go_end0
  exact ⟨rfl, na', nc', by rw [GS.add_nil]; exact (HG3.out.fr0 (by (repeat (first | (with_reducible refine Fr.setCell ?_ (fun h => absurd h (Nat.lt_irrefl _)) _) | (with_reducible refine Fr.setCell ?_ (fun h => absurd h (by first | omega | (simp; done) | (simp; omega) | (dsimp only; omega))) _) | (with_reducible refine Fr.alloc ?_ _) | (with_reducible refine Fr.drew ?_) | (with_reducible refine Fr.drewN ?_ _) | (with_reducible exact Fr.refl _ _))))).less (fun x hx => List.mem_cons_of_mem _ hx)⟩
set_option maxRecDepth 100000 in
set_option maxHeartbeats 4000000 in
theorem gn_note_self (h : GIs κ w1 gb X na nc N g W) (hT : 0 ≤ κ.m.temps ∧ κ.m.temps ≤ 16) (hN : N.length ≤ 900) (hgl : g.code.length ≤ 50000) (a b : Int) : Calls Tryz.prog 64 #[.pointer (some ⟨gb, 0, none⟩), .agg #[.int .i64 6, .int .i64 a, .int .i64 b]] W (NoteTo κ w1 gb X (N ++ [slfS]) (g.add ([]))) := by
  have hgb := h.lt
  have HTq := Lib.hid hT
  have HGL := Lib.hid hgl
  have HG := Lib.hid h
  have hw0 := heap_new W (.cells #[.int .i64 6, .int .i64 a, .int .i64 b] 69)
  have i0 := cell_of_heap (o := 0) hw0 rfl; have i1 := cell_of_heap (o := 1) hw0 rfl; have i2 := cell_of_heap (o := 2) hw0 rfl
  have HW0 := Lib.hid hw0
  clear h hw0 hT hgl
  go_enter Tryz.func64, Tryz.ntmps64
  go_wp2_with fail
  go_region_held3 (fun w' => w'.cell? ⟨W.heap.size, 1, none⟩ = some (.int .i64 a))
    (first | exact i1 | exact j1 | exact l1 | go_keep)
    (first
      | (go_at_call 91; refine (gn_receiver _).mono ?_; rintro e w2 ⟨rfl, hF⟩; have HF2 : Hid (Fr [] W w2) := Lib.hid (Fr.trans (by (repeat (first | (with_reducible refine Fr.setCell ?_ (fun h => absurd h (Nat.lt_irrefl _)) _) | (with_reducible refine Fr.setCell ?_ (fun h => absurd h (by first | omega | (simp; done) | (simp; omega) | (dsimp only; omega))) _) | (with_reducible refine Fr.alloc ?_ _) | (with_reducible refine Fr.drew ?_) | (with_reducible refine Fr.drewN ?_ _) | (with_reducible exact Fr.refl _ _)))) hF); have hj := hF.heap (k := W.heap.size) (by simp) HW0.out; have HJ2 := Lib.hid hj; have j0 := cell_of_heap (o := 0) hj rfl; have j1 := cell_of_heap (o := 1) hj rfl; have j2 := cell_of_heap (o := 2) hj rfl; clear hF hj)
      | (go_at_call 57; refine (gn_push (HG.out.fresh (by (repeat (first | (with_reducible refine Fr.setCell ?_ (fun h => absurd h (Nat.lt_irrefl _)) _) | (with_reducible refine Fr.setCell ?_ (fun h => absurd h (by first | omega | (simp; done) | (simp; omega) | (dsimp only; omega))) _) | (with_reducible refine Fr.alloc ?_ _) | (with_reducible refine Fr.drew ?_) | (with_reducible refine Fr.drewN ?_ _) | (with_reducible exact HF2.out)))) HJ2.out (Nat.le_refl _)) (slfS) (by omega)).mono ?_; rintro e w3 ⟨rfl, na', nc', hG⟩; have hl3 := hG.keep _ (List.mem_cons_self ..); have l0 := cell_of_heap (o := 0) hl3 rfl; have l1 := cell_of_heap (o := 1) hl3 rfl; have l2 := cell_of_heap (o := 2) hl3 rfl; have HG3 := Lib.hid hG; clear hl3 hG))
  go_end0
  exact ⟨rfl, na', nc', by rw [GS.add_nil]; exact (HG3.out.fr0 (by (repeat (first | (with_reducible refine Fr.setCell ?_ (fun h => absurd h (Nat.lt_irrefl _)) _) | (with_reducible refine Fr.setCell ?_ (fun h => absurd h (by first | omega | (simp; done) | (simp; omega) | (dsimp only; omega))) _) | (with_reducible refine Fr.alloc ?_ _) | (with_reducible refine Fr.drew ?_) | (with_reducible refine Fr.drewN ?_ _) | (with_reducible exact Fr.refl _ _))))).less (fun x hx => List.mem_cons_of_mem _ hx)⟩
set_option maxRecDepth 100000 in
set_option maxHeartbeats 4000000 in
theorem gn_note_lit (h : GIs κ w1 gb X na nc N g W) (hT : 0 ≤ κ.m.temps ∧ κ.m.temps ≤ 16) (hN : N.length ≤ 900) (hgl : g.code.length ≤ 50000) (a b : Int) {gl ol : Nat} {ll : Nat} (k : Nat) (ha : a = (k : Int)) (x : Int) (hla : κ.la = some ⟨gl, ol, none⟩) (hll : ll = κ.m.lits.length) (hkl : k < ll) (hlx : ∀ W', Fr [gb] w1 W' → W'.cell? ⟨gl, ol + k, none⟩ = some (.int .u64 x)) : Calls Tryz.prog 64 #[.pointer (some ⟨gb, 0, none⟩), .agg #[.int .i64 3, .int .i64 a, .int .i64 b]] W (NoteTo κ w1 gb X (N ++ [litS x]) (g.add ([]))) := by
  have hgb := h.lt
  have HTq := Lib.hid hT
  have HGL := Lib.hid hgl
  subst ha
  have p4 := h.litsCell
  rw [← hll, hla] at p4
  have hx := hlx W h.fr
  have HLX := Lib.hid hlx
  have HLA : Hid (κ.la = some ⟨gl, ol, none⟩ ∧ ll = κ.m.lits.length) := Lib.hid ⟨hla, hll⟩
  have hgl2 : gl < W.heap.size := World.block_lt_of_cell? W _ hx
  have k0 : (0 : Int) ≤ (k : Int) := by omega
  have k1 : (k : Int) < (ll : Int) := by omega
  have p4' := ((Fr.refl [] W).alloc (.cells #[.int .i64 3, .int .i64 k, .int .i64 b] 69)).cell (by simp) p4
  have hx' := ((Fr.refl [] W).alloc (.cells #[.int .i64 3, .int .i64 k, .int .i64 b] 69)).cell (by simp) hx
  clear hla hll hkl hlx
  have HG := Lib.hid h
  have hw0 := heap_new W (.cells #[.int .i64 3, .int .i64 k, .int .i64 b] 69)
  have i0 := cell_of_heap (o := 0) hw0 rfl; have i1 := cell_of_heap (o := 1) hw0 rfl; have i2 := cell_of_heap (o := 2) hw0 rfl
  have HW0 := Lib.hid hw0
  clear h hw0 hT hgl
  go_enter Tryz.func64, Tryz.ntmps64
  go_wp2_with fail
  go_region_held3 (fun w' => w'.cell? ⟨W.heap.size, 1, none⟩ = some (.int .i64 k) ∧ w'.cell? ⟨gb, 4, none⟩ = some (.slice (some ⟨gl, ol, none⟩) ll κ.lc) ∧ w'.cell? ⟨gl, ol + k, none⟩ = some (.int .u64 x))
    (first | exact ⟨i1, p4', hx'⟩ | exact ⟨j1, q4, r4⟩ | exact ⟨l1, s4, t4⟩ | go_keep)
    (first
      | (go_at_call 92; refine (gn_literal x _).mono ?_; rintro e w2 ⟨rfl, hF⟩; have HF2 : Hid (Fr [] W w2) := Lib.hid (Fr.trans (by (repeat (first | (with_reducible refine Fr.setCell ?_ (fun h => absurd h (Nat.lt_irrefl _)) _) | (with_reducible refine Fr.setCell ?_ (fun h => absurd h (by first | omega | (simp; done) | (simp; omega) | (dsimp only; omega))) _) | (with_reducible refine Fr.alloc ?_ _) | (with_reducible refine Fr.drew ?_) | (with_reducible refine Fr.drewN ?_ _) | (with_reducible exact Fr.refl _ _)))) hF); have q4 := HF2.out.cell (by simp) p4; have r4 := HF2.out.cell (by simp) hx; have hj := hF.heap (k := W.heap.size) (by simp) HW0.out; have HJ2 := Lib.hid hj; have j0 := cell_of_heap (o := 0) hj rfl; have j1 := cell_of_heap (o := 1) hj rfl; have j2 := cell_of_heap (o := 2) hj rfl; clear hF hj)
      | (go_at_call 57; refine (gn_push (HG.out.fresh (by (repeat (first | (with_reducible refine Fr.setCell ?_ (fun h => absurd h (Nat.lt_irrefl _)) _) | (with_reducible refine Fr.setCell ?_ (fun h => absurd h (by first | omega | (simp; done) | (simp; omega) | (dsimp only; omega))) _) | (with_reducible refine Fr.alloc ?_ _) | (with_reducible refine Fr.drew ?_) | (with_reducible refine Fr.drewN ?_ _) | (with_reducible exact HF2.out)))) HJ2.out (Nat.le_refl _)) (litS x) (by omega)).mono ?_; rintro e w3 ⟨rfl, na', nc', hG⟩; have hl3 := hG.keep _ (List.mem_cons_self ..); have l0 := cell_of_heap (o := 0) hl3 rfl; have l1 := cell_of_heap (o := 1) hl3 rfl; have l2 := cell_of_heap (o := 2) hl3 rfl; have HG3 := Lib.hid hG; have s4 := hG.litsCell; rw [HLA.out.1, ← HLA.out.2] at s4; have t4 := HLX.out w3 hG.fr; clear hl3 hG))
  go_end0
  exact ⟨rfl, na', nc', by rw [GS.add_nil]; exact (HG3.out.fr0 (by (repeat (first | (with_reducible refine Fr.setCell ?_ (fun h => absurd h (Nat.lt_irrefl _)) _) | (with_reducible refine Fr.setCell ?_ (fun h => absurd h (by first | omega | (simp; done) | (simp; omega) | (dsimp only; omega))) _) | (with_reducible refine Fr.alloc ?_ _) | (with_reducible refine Fr.drew ?_) | (with_reducible refine Fr.drewN ?_ _) | (with_reducible exact Fr.refl _ _))))).less (fun x hx => List.mem_cons_of_mem _ hx)⟩
set_option maxRecDepth 100000 in
set_option maxHeartbeats 4000000 in
theorem gn_note_int (h : GIs κ w1 gb X na nc N g W) (hT : 0 ≤ κ.m.temps ∧ κ.m.temps ≤ 16) (hN : N.length ≤ 900) (hgl : g.code.length ≤ 50000) (a b : Int) (h1 : 0 ≤ a ∧ a ≤ 4095) (x : Int) (hx : numW (a - 2048) = x) : Calls Tryz.prog 64 #[.pointer (some ⟨gb, 0, none⟩), .agg #[.int .i64 8, .int .i64 a, .int .i64 b]] W (NoteTo κ w1 gb X (N ++ [litS x]) (g.add ([]))) := by
  have hgb := h.lt
  have HTq := Lib.hid hT
  have HGL := Lib.hid hgl
  have hfit : fit (a - 2048) = true := by unfold fit; simp; omega
  obtain ⟨y, hy⟩ : ∃ y, y = a - 2048 := ⟨_, rfl⟩
  have e1 : IntKind.i64.wrap (a - 2048) = y := by rw [hy]; exact IntWalk.i64_in _ (by omega)
  rw [← hy] at hx hfit
  have HNU := Lib.hid (fun w => gn_number_x y x hx w hfit)
  clear hx hfit hy h1
  have HG := Lib.hid h
  have hw0 := heap_new W (.cells #[.int .i64 8, .int .i64 a, .int .i64 b] 69)
  have i0 := cell_of_heap (o := 0) hw0 rfl; have i1 := cell_of_heap (o := 1) hw0 rfl; have i2 := cell_of_heap (o := 2) hw0 rfl
  have HW0 := Lib.hid hw0
  clear h hw0 hT hgl
  go_enter Tryz.func64, Tryz.ntmps64
  go_wp2_with fail
  go_region_held3 (fun w' => w'.cell? ⟨W.heap.size, 1, none⟩ = some (.int .i64 a))
    (first | exact i1 | exact j1 | exact l1 | go_keep)
    (first
      | (go_at_call 92; refine (gn_literal x _).mono ?_; rintro e w2 ⟨rfl, hF⟩; have HF2 : Hid (Fr [] W w2) := Lib.hid (Fr.trans (by (repeat (first | (with_reducible refine Fr.setCell ?_ (fun h => absurd h (Nat.lt_irrefl _)) _) | (with_reducible refine Fr.setCell ?_ (fun h => absurd h (by first | omega | (simp; done) | (simp; omega) | (dsimp only; omega))) _) | (with_reducible refine Fr.alloc ?_ _) | (with_reducible refine Fr.drew ?_) | (with_reducible refine Fr.drewN ?_ _) | (with_reducible exact Fr.refl _ _)))) hF); have hj := hF.heap (k := W.heap.size) (by simp) HW0.out; have HJ2 := Lib.hid hj; have j0 := cell_of_heap (o := 0) hj rfl; have j1 := cell_of_heap (o := 1) hj rfl; have j2 := cell_of_heap (o := 2) hj rfl; clear hF hj)
      | (go_at_call 57; refine (gn_push (HG.out.fresh (by (repeat (first | (with_reducible refine Fr.setCell ?_ (fun h => absurd h (Nat.lt_irrefl _)) _) | (with_reducible refine Fr.setCell ?_ (fun h => absurd h (by first | omega | (simp; done) | (simp; omega) | (dsimp only; omega))) _) | (with_reducible refine Fr.alloc ?_ _) | (with_reducible refine Fr.drew ?_) | (with_reducible refine Fr.drewN ?_ _) | (with_reducible exact HF2.out)))) HJ2.out (Nat.le_refl _)) (litS x) (by omega)).mono ?_; rintro e w3 ⟨rfl, na', nc', hG⟩; have hl3 := hG.keep _ (List.mem_cons_self ..); have l0 := cell_of_heap (o := 0) hl3 rfl; have l1 := cell_of_heap (o := 1) hl3 rfl; have l2 := cell_of_heap (o := 2) hl3 rfl; have HG3 := Lib.hid hG; clear hl3 hG)
      | (go_at_call 90; (with_reducible refine (HNU.out _).mono ?_); rintro e w9 ⟨rfl, rfl⟩))
  go_end0
  exact ⟨rfl, na', nc', by rw [GS.add_nil]; exact (HG3.out.fr0 (by (repeat (first | (with_reducible refine Fr.setCell ?_ (fun h => absurd h (Nat.lt_irrefl _)) _) | (with_reducible refine Fr.setCell ?_ (fun h => absurd h (by first | omega | (simp; done) | (simp; omega) | (dsimp only; omega))) _) | (with_reducible refine Fr.alloc ?_ _) | (with_reducible refine Fr.drew ?_) | (with_reducible refine Fr.drewN ?_ _) | (with_reducible exact Fr.refl _ _))))).less (fun x hx => List.mem_cons_of_mem _ hx)⟩
set_option maxRecDepth 100000 in
set_option maxHeartbeats 4000000 in
theorem gn_note_dup (h : GIs κ w1 gb X na nc N g W) (hT : 0 ≤ κ.m.temps ∧ κ.m.temps ≤ 16) (hN : N.length ≤ 900) (hgl : g.code.length ≤ 50000) (a b : Int) (h0 : 0 < N.length) : Calls Tryz.prog 64 #[.pointer (some ⟨gb, 0, none⟩), .agg #[.int .i64 9, .int .i64 a, .int .i64 b]] W (NoteTo κ w1 gb X (N ++ [top N]) (g.add ([]))) := by
  have hgb := h.lt
  have HTq := Lib.hid hT
  have HGL := Lib.hid hgl
  have p8 := h.notesCell
  obtain ⟨n, hn⟩ : ∃ n, n = N.length := ⟨_, rfl⟩
  have HTOP : Hid (∀ W', Fr [] W W' → Calls Tryz.prog 93 #[.slice na n nc] W' (Still (top N).v W')) := Lib.hid fun W' hF => by rw [hn]; exact gn_top (h.fr0 hF) h0 (by omega)
  rw [← hn] at p8
  have p8' := ((Fr.refl [] W).alloc (.cells #[.int .i64 9, .int .i64 a, .int .i64 b] 69)).cell (by simp) p8
  obtain ⟨s, hs⟩ : ∃ s, s = top N := ⟨_, rfl⟩
  rw [← hs] at HTOP ⊢
  obtain ⟨sk, sn, sw⟩ := s
  unfold Sr.v at HTOP
  clear hs hn
  have HG := Lib.hid h
  have hw0 := heap_new W (.cells #[.int .i64 9, .int .i64 a, .int .i64 b] 69)
  have i0 := cell_of_heap (o := 0) hw0 rfl; have i1 := cell_of_heap (o := 1) hw0 rfl; have i2 := cell_of_heap (o := 2) hw0 rfl
  have HW0 := Lib.hid hw0
  clear h hw0 hT hgl
  go_enter Tryz.func64, Tryz.ntmps64
  go_wp2_with fail
  go_region_law (first
    | (go_simp; go_at_call 93; refine (HTOP.out _ (by (repeat (first | (with_reducible refine Fr.setCell ?_ (fun h => absurd h (Nat.lt_irrefl _)) _) | (with_reducible refine Fr.setCell ?_ (fun h => absurd h (by first | omega | (simp; done) | (simp; omega) | (dsimp only; omega))) _) | (with_reducible refine Fr.alloc ?_ _) | (with_reducible refine Fr.drew ?_) | (with_reducible refine Fr.drewN ?_ _) | (with_reducible exact Fr.refl _ _))))).mono ?_; rintro e w2 ⟨rfl, hF⟩; have HF2 : Hid (Fr [] W w2) := Lib.hid (Fr.trans (by (repeat (first | (with_reducible refine Fr.setCell ?_ (fun h => absurd h (Nat.lt_irrefl _)) _) | (with_reducible refine Fr.setCell ?_ (fun h => absurd h (by first | omega | (simp; done) | (simp; omega) | (dsimp only; omega))) _) | (with_reducible refine Fr.alloc ?_ _) | (with_reducible refine Fr.drew ?_) | (with_reducible refine Fr.drewN ?_ _) | (with_reducible exact Fr.refl _ _)))) hF); clear hF)
    | (go_simp; go_at_call 57; refine (gn_push (HG.out.fr0 (by (repeat (first | (with_reducible refine Fr.setCell ?_ (fun h => absurd h (Nat.lt_irrefl _)) _) | (with_reducible refine Fr.setCell ?_ (fun h => absurd h (by first | omega | (simp; done) | (simp; omega) | (dsimp only; omega))) _) | (with_reducible refine Fr.alloc ?_ _) | (with_reducible refine Fr.drew ?_) | (with_reducible refine Fr.drewN ?_ _) | (with_reducible exact HF2.out))))) ⟨sk, sn, sw⟩ (by omega)).mono ?_; rintro e w3 ⟨rfl, na', nc', hG⟩; have HG3 := Lib.hid hG; clear hG))
  all_goals (go_end0; exact ⟨rfl, na', nc', by rw [GS.add_nil]; exact HG3.out.fr0 (by (repeat (first | (with_reducible refine Fr.setCell ?_ (fun h => absurd h (Nat.lt_irrefl _)) _) | (with_reducible refine Fr.setCell ?_ (fun h => absurd h (by first | omega | (simp; done) | (simp; omega) | (dsimp only; omega))) _) | (with_reducible refine Fr.alloc ?_ _) | (with_reducible refine Fr.drew ?_) | (with_reducible refine Fr.drewN ?_ _) | (with_reducible exact Fr.refl _ _))))⟩)
set_option maxRecDepth 100000 in
set_option maxHeartbeats 4000000 in
theorem gn_note_drop (h : GIs κ w1 gb X na nc N g W) (hT : 0 ≤ κ.m.temps ∧ κ.m.temps ≤ 16) (hN : N.length ≤ 900) (hgl : g.code.length ≤ 50000) (a b : Int) (h0 : 0 < N.length) : Calls Tryz.prog 64 #[.pointer (some ⟨gb, 0, none⟩), .agg #[.int .i64 10, .int .i64 a, .int .i64 b]] W (NoteTo κ w1 gb X (N.dropLast) (g.add ([]))) := by
  have hgb := h.lt
  have HTq := Lib.hid hT
  have HGL := Lib.hid hgl
  obtain ⟨q, hq⟩ : ∃ q, q + 1 = N.length := ⟨N.length - 1, by omega⟩
  have hone := took_one hq
  have hrest := took_rest hq
  have HTK : Hid (∀ W', Fr [] W W' → Calls Tryz.prog 88 #[.pointer (some ⟨gb, 8, none⟩), .int .i64 1] W' (fun e w' => ∃ b c rest, e = .returned (.slice (some ⟨b, 0, none⟩) 1 c) ∧ SlOk (some ⟨b, 0, none⟩) 1 c ∧ w1.heap.size ≤ b ∧ GIs κ w1 gb ((b, .cells (#[.int .i64 (top N).kind, .int .i64 (top N).n, .int .u64 (top N).w] ++ rest) 57 (0, 0)) :: X) na nc N.dropLast g w')) := Lib.hid fun W' hF => took_to (h.fr0 hF) hq hone hrest (by omega)
  clear hone hrest hq
  have HG := Lib.hid h
  have hw0 := heap_new W (.cells #[.int .i64 10, .int .i64 a, .int .i64 b] 69)
  have i0 := cell_of_heap (o := 0) hw0 rfl; have i1 := cell_of_heap (o := 1) hw0 rfl; have i2 := cell_of_heap (o := 2) hw0 rfl
  have HW0 := Lib.hid hw0
  clear h hw0 hT hgl
  go_enter Tryz.func64, Tryz.ntmps64
  go_wp2_with (go_at_call 88; refine (HTK.out _ (by (repeat (first | (with_reducible refine Fr.setCell ?_ (fun h => absurd h (Nat.lt_irrefl _)) _) | (with_reducible refine Fr.setCell ?_ (fun h => absurd h (by first | omega | (simp; done) | (simp; omega) | (dsimp only; omega))) _) | (with_reducible refine Fr.alloc ?_ _) | (with_reducible refine Fr.drew ?_) | (with_reducible refine Fr.drewN ?_ _) | (with_reducible exact Fr.refl _ _))))).mono ?_; rintro e w3 ⟨b3, c3, rest, rfl, -, -, hG⟩; have HG3 := Lib.hid hG; clear hG)
  go_end0
  exact ⟨rfl, na, nc, by rw [GS.add_nil]; exact HG3.out.less (fun x hx => List.mem_cons_of_mem _ hx)⟩
set_option maxRecDepth 100000 in
set_option maxHeartbeats 4000000 in
theorem gn_note_pop (h : GIs κ w1 gb X na nc N g W) (hT : 0 ≤ κ.m.temps ∧ κ.m.temps ≤ 16) (hN : N.length ≤ 900) (hgl : g.code.length ≤ 50000) (a b : Int) (h0 : 0 < N.length) : Calls Tryz.prog 64 #[.pointer (some ⟨gb, 0, none⟩), .agg #[.int .i64 2, .int .i64 a, .int .i64 b]] W (NoteTo κ w1 gb X ((popC κ.m.temps a N).2) (g.add ((popC κ.m.temps a N).1))) := by
  have hgb := h.lt
  have HTq := Lib.hid hT
  have HGL := Lib.hid hgl
  have HG := Lib.hid h
  have hw0 := heap_new W (.cells #[.int .i64 2, .int .i64 a, .int .i64 b] 69)
  have i0 := cell_of_heap (o := 0) hw0 rfl; have i1 := cell_of_heap (o := 1) hw0 rfl; have i2 := cell_of_heap (o := 2) hw0 rfl
  have HW0 := Lib.hid hw0
  clear h hw0 hT hgl
  go_enter Tryz.func64, Tryz.ntmps64
  go_wp2_with (go_at_call 94; refine (gn_popTemp (HG.out.fr0 (by (repeat (first | (with_reducible refine Fr.setCell ?_ (fun h => absurd h (Nat.lt_irrefl _)) _) | (with_reducible refine Fr.setCell ?_ (fun h => absurd h (by first | omega | (simp; done) | (simp; omega) | (dsimp only; omega))) _) | (with_reducible refine Fr.alloc ?_ _) | (with_reducible refine Fr.drew ?_) | (with_reducible refine Fr.drewN ?_ _) | (with_reducible exact Fr.refl _ _))))) HTq.out hN h0 a HGL.out).mono ?_; rintro e w3 ⟨rfl, hG⟩; have HG3 := Lib.hid hG; clear hG)
  go_end0
  exact ⟨rfl, na, nc, HG3.out⟩
set_option maxRecDepth 100000 in
set_option maxHeartbeats 4000000 in
theorem gn_note_load (h : GIs κ w1 gb X na nc N g W) (hT : 0 ≤ κ.m.temps ∧ κ.m.temps ≤ 16) (hN : N.length ≤ 900) (hgl : g.code.length ≤ 50000) (a b : Int) : Calls Tryz.prog 64 #[.pointer (some ⟨gb, 0, none⟩), .agg #[.int .i64 4, .int .i64 a, .int .i64 b]] W (NoteTo κ w1 gb X (N ++ [home κ.m.temps N.length]) (g.add ([mkI 3 a (home κ.m.temps N.length) [] 0]))) := by
  have hgb := h.lt
  have HTq := Lib.hid hT
  have HGL := Lib.hid hgl
  have HG := Lib.hid h
  have hw0 := heap_new W (.cells #[.int .i64 4, .int .i64 a, .int .i64 b] 69)
  have i0 := cell_of_heap (o := 0) hw0 rfl; have i1 := cell_of_heap (o := 1) hw0 rfl; have i2 := cell_of_heap (o := 2) hw0 rfl
  have HW0 := Lib.hid hw0
  clear h hw0 hT hgl
  go_enter Tryz.func64, Tryz.ntmps64
  go_wp2_with (go_at_call 89; refine (gn_addResult (HG.out.fr0 (by (repeat (first | (with_reducible refine Fr.setCell ?_ (fun h => absurd h (Nat.lt_irrefl _)) _) | (with_reducible refine Fr.setCell ?_ (fun h => absurd h (by first | omega | (simp; done) | (simp; omega) | (dsimp only; omega))) _) | (with_reducible refine Fr.alloc ?_ _) | (with_reducible refine Fr.drew ?_) | (with_reducible refine Fr.drewN ?_ _) | (with_reducible exact Fr.refl _ _))))) HTq.out ⟨3, a, ⟨0, 0, 0⟩, none, [], 0, 0⟩ InX.nil hN (by have := HGL.out; omega)).mono ?_; rintro e w3 ⟨rfl, na', nc', hG⟩; have HG3 := Lib.hid hG; clear hG)
  go_end0
  exact ⟨rfl, na', nc', HG3.out⟩
set_option maxRecDepth 100000 in
set_option maxHeartbeats 4000000 in
theorem gn_note_store (h : GIs κ w1 gb X na nc N g W) (hT : 0 ≤ κ.m.temps ∧ κ.m.temps ≤ 16) (hN : N.length ≤ 900) (hgl : g.code.length ≤ 50000) (a b : Int) (h0 : 0 < N.length) : Calls Tryz.prog 64 #[.pointer (some ⟨gb, 0, none⟩), .agg #[.int .i64 5, .int .i64 a, .int .i64 b]] W (NoteTo κ w1 gb X (N.dropLast) (g.add ([mkI 4 a zeroS [top N] 0]))) := by
  have hgb := h.lt
  have HTq := Lib.hid hT
  have HGL := Lib.hid hgl
  obtain ⟨q, hq⟩ : ∃ q, q + 1 = N.length := ⟨N.length - 1, by omega⟩
  have hone := took_one hq
  have hrest := took_rest hq
  obtain ⟨s, hs⟩ : ∃ s, s = top N := ⟨_, rfl⟩
  obtain ⟨M, hM⟩ : ∃ M, M = N.dropLast := ⟨_, rfl⟩
  rw [← hs] at hone ⊢
  rw [← hM] at hrest ⊢
  have HTK : Hid (∀ W', Fr [] (W.alloc (.cells #[.int .i64 5, .int .i64 a, .int .i64 b] 69)) W' → Calls Tryz.prog 88 #[.pointer (some ⟨gb, 8, none⟩), .int .i64 1] W' (fun e w' => ∃ b2 c rest, e = .returned (.slice (some ⟨b2, 0, none⟩) 1 c) ∧ SlOk (some ⟨b2, 0, none⟩) 1 c ∧ w1.heap.size ≤ b2 ∧ GIs κ w1 gb ((b2, .cells (#[.int .i64 s.kind, .int .i64 s.n, .int .u64 s.w] ++ rest) 57 (0, 0)) :: (W.heap.size, .cells #[.int .i64 5, .int .i64 a, .int .i64 b] 69 (0, 0)) :: X) na nc M g w')) := Lib.hid fun W' hF => took_to (h.fresh (((Fr.refl [] W).alloc _).trans hF) (hF.heap (by simp) (heap_new _ _)) (Nat.le_refl _)) hq hone hrest (by omega)
  obtain ⟨sk, sn, sw⟩ := s
  simp only at HTK
  clear hone hrest hq hs hM
  have HG := Lib.hid h
  have hw0 := heap_new W (.cells #[.int .i64 5, .int .i64 a, .int .i64 b] 69)
  have i0 := cell_of_heap (o := 0) hw0 rfl; have i1 := cell_of_heap (o := 1) hw0 rfl; have i2 := cell_of_heap (o := 2) hw0 rfl
  have HW0 := Lib.hid hw0
  clear h hw0 hT hgl
  go_enter Tryz.func64, Tryz.ntmps64
  go_wp2_with fail
  go_region_held3 (fun w' => w'.cell? ⟨W.heap.size, 1, none⟩ = some (.int .i64 a))
    (first | exact i1 | exact j1 | exact l1 | go_keep)
    (first
      | (go_at_call 63; refine (gn_add (HG2.out.fr0 (by (repeat (first | (with_reducible refine Fr.setCell ?_ (fun h => absurd h (Nat.lt_irrefl _)) _) | (with_reducible refine Fr.setCell ?_ (fun h => absurd h (by first | omega | (simp; done) | (simp; omega) | (dsimp only; omega))) _) | (with_reducible refine Fr.alloc ?_ _) | (with_reducible refine Fr.drew ?_) | (with_reducible refine Fr.drewN ?_ _) | (with_reducible exact Fr.refl _ _))))) ⟨4, a, ⟨0, 0, 0⟩, some ⟨b2, 0, none⟩, [⟨sk, sn, sw⟩], c2, 0⟩ (took_inX (s := ⟨sk, sn, sw⟩) HK2.out HLO.out (List.mem_cons_self ..)) (by have := HGL.out; omega)).mono ?_; rintro e w3 ⟨rfl, hG⟩; have hl3 := hG.keep _ (List.mem_cons_of_mem _ (List.mem_cons_self ..)); have l0 := cell_of_heap (o := 0) hl3 rfl; have l1 := cell_of_heap (o := 1) hl3 rfl; have l2 := cell_of_heap (o := 2) hl3 rfl; have HG3 := Lib.hid hG; clear hl3 hG)
      | (go_at_call 88; refine (HTK.out _ (by first | exact Fr.refl _ _ | exact (Fr.refl _ _).drew | exact (Fr.refl _ _).drewN _)).mono ?_; rintro e w2 ⟨b2, c2, rest, rfl, hk, hlo, hG⟩; have hj := hG.keep _ (List.mem_cons_of_mem _ (List.mem_cons_self ..)); have j0 := cell_of_heap (o := 0) hj rfl; have j1 := cell_of_heap (o := 1) hj rfl; have j2 := cell_of_heap (o := 2) hj rfl; have HK2 := Lib.hid hk; have HLO := Lib.hid hlo; have HG2 := Lib.hid hG; clear hk hlo hj hG))
  all_goals (go_end0; exact ⟨rfl, na, nc, (HG3.out.fr0 (by (repeat (first | (with_reducible refine Fr.setCell ?_ (fun h => absurd h (Nat.lt_irrefl _)) _) | (with_reducible refine Fr.setCell ?_ (fun h => absurd h (by first | omega | (simp; done) | (simp; omega) | (dsimp only; omega))) _) | (with_reducible refine Fr.alloc ?_ _) | (with_reducible refine Fr.drew ?_) | (with_reducible refine Fr.drewN ?_ _) | (with_reducible exact Fr.refl _ _))))).less (fun x hx => List.mem_cons_of_mem _ (List.mem_cons_of_mem _ hx))⟩)
end
end Go.Proofs.YtomcfjckhajhmabGreatDoor
namespace Go.Proofs.YtomcfjckhajhmabGreatDoor
open Go.RowKit

section
variable {κ : GK} {w1 : World} {gb : Nat} {X : List (Nat × Obj)} {na : Option Addr} {nc : Nat} {N : List Sr} {g : GS} {W : World}
theorem gn_addTook (h : GIs κ w1 gb X na nc N g W) (hT : 0 ≤ κ.m.temps ∧ κ.m.temps ≤ 16) (op n : Int) (b c nn : Nat) (l : List Sr) (hl : l.length = nn) (hx : InX w1 X (some ⟨b, 0, none⟩) l c) (w : Int) (hN : N.length ≤ 900) (hgl : g.code.length ≤ 100000) : Calls Tryz.prog 89 #[.pointer (some ⟨gb, 0, none⟩), .agg #[.int .i64 op, .int .i64 n, .int .i64 0, .int .i64 0, .int .u64 0, .slice (some ⟨b, 0, none⟩) nn c, .int .u64 w]] W (NoteTo κ w1 gb X (N ++ [home κ.m.temps N.length]) (g.add [mkI op n (home κ.m.temps N.length) l w])) := by
  subst hl
  exact gn_addResult h hT ⟨op, n, ⟨0, 0, 0⟩, some ⟨b, 0, none⟩, l, c, w⟩ hx hN hgl
theorem GIs.sitesCell (h : GIs κ w1 gb X na nc N g W) : W.cell? ⟨gb, 14, none⟩ = some (.int .i64 g.sites) ∧ W.frozen? ⟨gb, 14, none⟩ = false := by
  obtain ⟨u, h1, h2⟩ := h
  rw [← h2.sites]
  exact ⟨cell_of_heap h1.box rfl, frozen_of_heap h1.box⟩
def GS.site (g : GS) (k : Int) : GS := { g with sites := k }
theorem GIs.sited (h : GIs κ w1 gb X na nc N g W) (k : Int) : GIs κ w1 gb X na nc N (g.site k) (W.setCell ⟨gb, 14, none⟩ (.int .i64 k)) := by
  obtain ⟨u, h1, h2⟩ := h
  exact ⟨_, h1.sited k, ⟨h2.method, h2.args, h2.temps, h2.regs, h2.spills, rfl, h2.ea, h2.enter, h2.ec, h2.code, h2.starts, h2.maps⟩⟩
/-- Returned: the uppermost notes, in a new block beside a box. -/
theorem gn_take_box (h : GIs κ w1 gb X na nc N g W) {q nn : Nat} (hq : q + nn = N.length) (h0 : 0 < nn) (hl : N.length ≤ 1000) (o : Obj) {W' : World} (hF : Fr [] (W.alloc o) W') {z : Int} (hz : z = (nn : Int)) : Calls Tryz.prog 88 #[.pointer (some ⟨gb, 8, none⟩), .int .i64 z] W' (fun e w' => ∃ b c, e = .returned (.slice (some ⟨b, 0, none⟩) nn c) ∧ (∃ X', InX w1 X' (some ⟨b, 0, none⟩) (N.drop q) c ∧ (W.heap.size, o) ∈ X' ∧ (∀ x ∈ X, x ∈ X') ∧ GIs κ w1 gb X' na nc (N.take q) g w')) :=
  (gn_take (h.fresh (((Fr.refl [] W).alloc o).trans hF) (hF.heap (by simp) (heap_new W o)) (Nat.le_refl _)) hz hq h0 hl).mono (by
    rintro e w' ⟨b, c, cur, rest, he, hc, hk, hlo, hG⟩
    have hl2 : (N.drop q).length = nn := by rw [List.length_drop]; omega
    exact ⟨b, c, he, _, ⟨by rw [hl2]; exact hk, .inr ⟨b, cur, rest, rfl, hlo, List.mem_cons_self .., hc⟩⟩, List.mem_cons_of_mem _ (List.mem_cons_self ..), fun x hx => List.mem_cons_of_mem _ (List.mem_cons_of_mem _ hx), hG⟩)
set_option maxRecDepth 100000 in
set_option maxHeartbeats 4000000 in
theorem gn_call_arithN (h : GIs κ w1 gb X na nc N g W) (hT : 0 ≤ κ.m.temps ∧ κ.m.temps ≤ 16) (hN : N.length ≤ 900) (hgl : g.code.length ≤ 50000) (a : Int) (b : Int) {q : Nat} (hq : q + 2 = N.length) : Calls Tryz.prog 60 #[.pointer (some ⟨gb, 0, none⟩), .agg #[.int .i64 13, .int .i64 a, .int .i64 b], .bool false] W (NoteTo κ w1 gb X ((N.take q) ++ [home κ.m.temps q]) (g.add ([mkI 2 a (home κ.m.temps q) (N.drop q) 0]))) := by
  have hgb := h.lt
  have HTq := Lib.hid hT
  have HTK := Lib.hid (fun W' hF z hz => gn_take_box (nn := 2) h hq (by omega) (by omega) (.cells #[.int .i64 13, .int .i64 a, .int .i64 b] 69) (W' := W') hF (z := z) hz)
  have HQL : Hid ((N.take q).length = q) := Lib.hid (take_len_lt (by omega))
  have HDL : Hid ((N.drop q).length = 2) := Lib.hid (by rw [List.length_drop]; omega)
  have hqn : q ≤ 900 := by omega
  have HC1 : Hid ((g.add (bringC κ.m.temps 0 (N.take q))).code.length ≤ 100000) := Lib.hid (by have h1 := bringC_le κ.m.temps 0 (N.take q); rw [HQL.out] at h1; simp only [GS.add, List.length_append]; omega)
  have HC0 : Hid (g.code.length ≤ 50000) := Lib.hid hgl
  have hw0 := heap_new W (.cells #[.int .i64 13, .int .i64 a, .int .i64 b] 69)
  have i0 := cell_of_heap (o := 0) hw0 rfl; have i1 := cell_of_heap (o := 1) hw0 rfl; have i2 := cell_of_heap (o := 2) hw0 rfl
  have HNL : Hid (N.length ≤ 900) := Lib.hid hN
  have HQ := Lib.hid hq
  clear h hT hgl hw0 hN hq
  go_enter Tryz.func60, Tryz.ntmps60
  go_wp2_with (first
    | (go_at_call 88; refine (HTK.out _ (by first | exact Fr.refl _ _ | exact (Fr.refl _ _).drew | exact (Fr.refl _ _).drewN _) _ (by first | rfl | (push_cast; rfl) | omega)).mono ?_; rintro e w2 ⟨b2, c2, rfl, X2, hx, hmem, hsub, hG⟩; have hj := hG.keep _ hmem; have j0 := cell_of_heap (o := 0) hj rfl; have j1 := cell_of_heap (o := 1) hj rfl; have j2 := cell_of_heap (o := 2) hj rfl; have hjl := lt_of_heap hj; have HX2 := Lib.hid hx; have HM2 := Lib.hid hmem; have HS2 := Lib.hid hsub; have HG2 := Lib.hid hG; clear hx hmem hsub hj hG)
    | (go_at_call 89; refine (gn_addTook HG2.out HTq.out 2 a b2 c2 2 (N.drop q) HDL.out HX2.out 0 (by have := HQL.out; omega) (by have := HC0.out; omega)).mono ?_; rintro e w4 ⟨rfl, na', nc', hG⟩; rw [HQL.out] at hG; have HG4 := Lib.hid hG; clear hG))
  first
    | (go_end0; exact ⟨rfl, na', nc', by first | exact HG4.out.less HS2.out | (rw [← GS.add_add]; exact HG4.out.less HS2.out)⟩)
    | (refine bodyPost_ret (results_none rfl _ _ _) rfl ⟨rfl, na', nc', ?_⟩; first | exact HG4.out.less HS2.out | (rw [← GS.add_add]; exact HG4.out.less HS2.out))
set_option maxRecDepth 100000 in
set_option maxHeartbeats 4000000 in
theorem gn_call_arithL (h : GIs κ w1 gb X na nc N g W) (hT : 0 ≤ κ.m.temps ∧ κ.m.temps ≤ 16) (hN : N.length ≤ 900) (hgl : g.code.length ≤ 50000) (a : Int) (b : Int) {q : Nat} (hq : q + 2 = N.length) : Calls Tryz.prog 60 #[.pointer (some ⟨gb, 0, none⟩), .agg #[.int .i64 13, .int .i64 a, .int .i64 b], .bool true] W (NoteTo κ w1 gb X ((homes κ.m.temps q) ++ [home κ.m.temps q]) (g.add (bringC κ.m.temps 0 (N.take q) ++ [mkI 2 a (home κ.m.temps q) (N.drop q) 0]))) := by
  have hgb := h.lt
  have HTq := Lib.hid hT
  have HTK := Lib.hid (fun W' hF z hz => gn_take_box (nn := 2) h hq (by omega) (by omega) (.cells #[.int .i64 13, .int .i64 a, .int .i64 b] 69) (W' := W') hF (z := z) hz)
  have HQL : Hid ((N.take q).length = q) := Lib.hid (take_len_lt (by omega))
  have HDL : Hid ((N.drop q).length = 2) := Lib.hid (by rw [List.length_drop]; omega)
  have hqn : q ≤ 900 := by omega
  have HC1 : Hid ((g.add (bringC κ.m.temps 0 (N.take q))).code.length ≤ 100000) := Lib.hid (by have h1 := bringC_le κ.m.temps 0 (N.take q); rw [HQL.out] at h1; simp only [GS.add, List.length_append]; omega)
  have HC0 : Hid (g.code.length ≤ 50000) := Lib.hid hgl
  have hw0 := heap_new W (.cells #[.int .i64 13, .int .i64 a, .int .i64 b] 69)
  have i0 := cell_of_heap (o := 0) hw0 rfl; have i1 := cell_of_heap (o := 1) hw0 rfl; have i2 := cell_of_heap (o := 2) hw0 rfl
  have HNL : Hid (N.length ≤ 900) := Lib.hid hN
  have HQ := Lib.hid hq
  clear h hT hgl hw0 hN hq
  go_enter Tryz.func60, Tryz.ntmps60
  go_wp2_with (first
    | (go_at_call 88; refine (HTK.out _ (by first | exact Fr.refl _ _ | exact (Fr.refl _ _).drew | exact (Fr.refl _ _).drewN _) _ (by first | rfl | (push_cast; rfl) | omega)).mono ?_; rintro e w2 ⟨b2, c2, rfl, X2, hx, hmem, hsub, hG⟩; have hj := hG.keep _ hmem; have j0 := cell_of_heap (o := 0) hj rfl; have j1 := cell_of_heap (o := 1) hj rfl; have j2 := cell_of_heap (o := 2) hj rfl; have hjl := lt_of_heap hj; have HX2 := Lib.hid hx; have HM2 := Lib.hid hmem; have HS2 := Lib.hid hsub; have HG2 := Lib.hid hG; clear hx hmem hsub hj hG)
    | (go_at_call 65; refine (gn_allHome HG2.out HTq.out (by have := HQL.out; omega) HC0.out).mono ?_; rintro e w3 ⟨rfl, hG⟩; have hG := hG; rw [HQL.out] at hG; have hv := hG.keep _ HM2.out; have v0 := cell_of_heap (o := 0) hv rfl; have v1 := cell_of_heap (o := 1) hv rfl; have v2 := cell_of_heap (o := 2) hv rfl; have hvl := lt_of_heap hv; have HG3 := Lib.hid hG; clear hv hG)
    | (go_at_call 89; refine (gn_addTook HG3.out HTq.out 2 a b2 c2 2 (N.drop q) HDL.out HX2.out 0 (by rw [homes_len]; omega) HC1.out).mono ?_; rintro e w4 ⟨rfl, na', nc', hG⟩; rw [homes_len] at hG; have HG4 := Lib.hid hG; clear hG))
  first
    | (go_end0; exact ⟨rfl, na', nc', by first | exact HG4.out.less HS2.out | (rw [← GS.add_add]; exact HG4.out.less HS2.out)⟩)
    | (refine bodyPost_ret (results_none rfl _ _ _) rfl ⟨rfl, na', nc', ?_⟩; first | exact HG4.out.less HS2.out | (rw [← GS.add_add]; exact HG4.out.less HS2.out))
set_option maxRecDepth 100000 in
set_option maxHeartbeats 4000000 in
theorem gn_call_sendN (h : GIs κ w1 gb X na nc N g W) (hT : 0 ≤ κ.m.temps ∧ κ.m.temps ≤ 16) (hN : N.length ≤ 900) (hgl : g.code.length ≤ 50000) (ka : Nat) (kb : Nat) {gl ol : Nat} {ll : Nat} (x : Int) (hla : κ.la = some ⟨gl, ol, none⟩) (hll : ll = κ.m.lits.length) (hkl : ka < ll) (hlx : ∀ W', Fr [gb] w1 W' → W'.cell? ⟨gl, ol + ka, none⟩ = some (.int .u64 x)) (hkb : kb ≤ 4) (hsi : 0 ≤ g.sites ∧ g.sites ≤ 1000) {q : Nat} (hq : q + (kb + 1) = N.length) : Calls Tryz.prog 60 #[.pointer (some ⟨gb, 0, none⟩), .agg #[.int .i64 11, .int .i64 (ka : Int), .int .i64 (kb : Int)], .bool false] W (NoteTo κ w1 gb X ((N.take q) ++ [home κ.m.temps q]) ((g.add ([mkI 7 g.sites (home κ.m.temps q) (N.drop q) x])).site (g.sites + 1))) := by
  have hgb := h.lt
  have HTq := Lib.hid hT
  have HTK := Lib.hid (fun W' hF z hz => gn_take_box (nn := (kb + 1)) h hq (by omega) (by omega) (.cells #[.int .i64 11, .int .i64 (ka : Int), .int .i64 (kb : Int)] 69) (W' := W') hF (z := z) hz)
  have HQL : Hid ((N.take q).length = q) := Lib.hid (take_len_lt (by omega))
  have HDL : Hid ((N.drop q).length = (kb + 1)) := Lib.hid (by rw [List.length_drop]; omega)
  have hqn : q ≤ 900 := by omega
  have HC1 : Hid ((g.add (bringC κ.m.temps 0 (N.take q))).code.length ≤ 100000) := Lib.hid (by have h1 := bringC_le κ.m.temps 0 (N.take q); rw [HQL.out] at h1; simp only [GS.add, List.length_append]; omega)
  have HC0 : Hid (g.code.length ≤ 50000) := Lib.hid hgl
  have k0 : (0 : Int) ≤ (ka : Int) := by omega
  have k1 : (ka : Int) < (ll : Int) := by omega
  have b0 : (0 : Int) ≤ (kb : Int) := by omega
  have HLX := Lib.hid hlx
  have HLA : Hid (κ.la = some ⟨gl, ol, none⟩ ∧ ll = κ.m.lits.length) := Lib.hid ⟨hla, hll⟩
  obtain ⟨si, hsi1⟩ : ∃ si, si = g.sites := ⟨_, rfl⟩
  rw [← hsi1] at hsi ⊢
  have HSI : Hid (si = g.sites) := Lib.hid hsi1
  clear hla hll hkl hlx hsi1
  have hw0 := heap_new W (.cells #[.int .i64 11, .int .i64 (ka : Int), .int .i64 (kb : Int)] 69)
  have i0 := cell_of_heap (o := 0) hw0 rfl; have i1 := cell_of_heap (o := 1) hw0 rfl; have i2 := cell_of_heap (o := 2) hw0 rfl
  have HNL : Hid (N.length ≤ 900) := Lib.hid hN
  have HQ := Lib.hid hq
  clear h hT hgl hw0 hN hq
  go_enter Tryz.func60, Tryz.ntmps60
  go_wp2_with (first
    | (go_at_call 88; refine (HTK.out _ (by first | exact Fr.refl _ _ | exact (Fr.refl _ _).drew | exact (Fr.refl _ _).drewN _) _ (by first | rfl | (push_cast; rfl) | omega)).mono ?_; rintro e w2 ⟨b2, c2, rfl, X2, hx, hmem, hsub, hG⟩; have hj := hG.keep _ hmem; have j0 := cell_of_heap (o := 0) hj rfl; have j1 := cell_of_heap (o := 1) hj rfl; have j2 := cell_of_heap (o := 2) hj rfl; have hjl := lt_of_heap hj; have HX2 := Lib.hid hx; have HM2 := Lib.hid hmem; have HS2 := Lib.hid hsub; have HG2 := Lib.hid hG; clear hx hmem hsub hj hG)
    | fail)
  have s14 := HG2.out.sitesCell
  have s14a := s14.1
  change w2.cell? ⟨gb, 14, none⟩ = some (.int .i64 g.sites) at s14a
  rw [← HSI.out] at s14a
  clear s14
  have s4 := HG2.out.litsCell
  rw [HLA.out.1, ← HLA.out.2] at s4
  have sx := HLX.out w2 HG2.out.fr
  have hgl3 : gl < w2.heap.size := World.block_lt_of_cell? w2 _ sx
  have hgb3 := HG2.out.lt
  go_region_held3 (fun w' => w'.cell? ⟨gb, 14, none⟩ = some (.int .i64 si) ∧ w'.cell? ⟨gb, 4, none⟩ = some (.slice (some ⟨gl, ol, none⟩) ll κ.lc) ∧ w'.cell? ⟨W.heap.size, 1, none⟩ = some (.int .i64 ka) ∧ w'.cell? ⟨gl, ol + ka, none⟩ = some (.int .u64 x))
    (first | exact ⟨s14a, s4, j1, sx⟩ | exact ⟨t14a, t4, u1, tx⟩ | go_keep)
    ((go_at_call 89; refine (gn_addTook (HG2.out.fr0 (by (repeat (first | (with_reducible refine Fr.setCell ?_ (fun h => absurd h (Nat.lt_irrefl _)) _) | (with_reducible refine Fr.setCell ?_ (fun h => absurd h (by first | omega | (simp; done) | (simp; omega) | (dsimp only; omega))) _) | (with_reducible refine Fr.alloc ?_ _) | (with_reducible refine Fr.drew ?_) | (with_reducible refine Fr.drewN ?_ _) | (with_reducible exact Fr.refl _ _))))) HTq.out 7 si b2 c2 (kb + 1) (N.drop q) HDL.out HX2.out x (by have := HQL.out; omega) (by have := HC0.out; omega)).mono ?_; rintro e w4 ⟨rfl, na', nc', hG⟩; rw [HQL.out] at hG; have t14 := hG.sitesCell; have t14a := t14.1; have t14b := t14.2; clear t14; change w4.cell? ⟨gb, 14, none⟩ = some (.int .i64 g.sites) at t14a; rw [← HSI.out] at t14a; have t4 := hG.litsCell; rw [HLA.out.1, ← HLA.out.2] at t4; have tx := HLX.out w4 hG.fr; have hu := hG.keep _ HM2.out; have u0 := cell_of_heap (o := 0) hu rfl; have u1 := cell_of_heap (o := 1) hu rfl; have u2 := cell_of_heap (o := 2) hu rfl; have hg4 := hG.lt; have HG4 := Lib.hid hG; clear hu hG))
  have e1 : IntKind.i64.wrap (si + 1) = si + 1 := IntWalk.i64_in _ (by omega)
  go_wp2_with fail
  go_end0
  exact ⟨rfl, na', nc', by first | exact ((HG4.out.fr0 (by (repeat (first | (with_reducible refine Fr.setCell ?_ (fun h => absurd h (Nat.lt_irrefl _)) _) | (with_reducible refine Fr.setCell ?_ (fun h => absurd h (by first | omega | (simp; done) | (simp; omega) | (dsimp only; omega))) _) | (with_reducible refine Fr.alloc ?_ _) | (with_reducible refine Fr.drew ?_) | (with_reducible refine Fr.drewN ?_ _) | (with_reducible exact Fr.refl _ _))))).sited (si + 1)).less HS2.out | (rw [← GS.add_add]; exact ((HG4.out.fr0 (by (repeat (first | (with_reducible refine Fr.setCell ?_ (fun h => absurd h (Nat.lt_irrefl _)) _) | (with_reducible refine Fr.setCell ?_ (fun h => absurd h (by first | omega | (simp; done) | (simp; omega) | (dsimp only; omega))) _) | (with_reducible refine Fr.alloc ?_ _) | (with_reducible refine Fr.drew ?_) | (with_reducible refine Fr.drewN ?_ _) | (with_reducible exact Fr.refl _ _))))).sited (si + 1)).less HS2.out)⟩
set_option maxRecDepth 100000 in
set_option maxHeartbeats 4000000 in
theorem gn_call_sendL (h : GIs κ w1 gb X na nc N g W) (hT : 0 ≤ κ.m.temps ∧ κ.m.temps ≤ 16) (hN : N.length ≤ 900) (hgl : g.code.length ≤ 50000) (ka : Nat) (kb : Nat) {gl ol : Nat} {ll : Nat} (x : Int) (hla : κ.la = some ⟨gl, ol, none⟩) (hll : ll = κ.m.lits.length) (hkl : ka < ll) (hlx : ∀ W', Fr [gb] w1 W' → W'.cell? ⟨gl, ol + ka, none⟩ = some (.int .u64 x)) (hkb : kb ≤ 4) (hsi : 0 ≤ g.sites ∧ g.sites ≤ 1000) {q : Nat} (hq : q + (kb + 1) = N.length) : Calls Tryz.prog 60 #[.pointer (some ⟨gb, 0, none⟩), .agg #[.int .i64 11, .int .i64 (ka : Int), .int .i64 (kb : Int)], .bool true] W (NoteTo κ w1 gb X ((homes κ.m.temps q) ++ [home κ.m.temps q]) ((g.add (bringC κ.m.temps 0 (N.take q) ++ [mkI 7 g.sites (home κ.m.temps q) (N.drop q) x])).site (g.sites + 1))) := by
  have hgb := h.lt
  have HTq := Lib.hid hT
  have HTK := Lib.hid (fun W' hF z hz => gn_take_box (nn := (kb + 1)) h hq (by omega) (by omega) (.cells #[.int .i64 11, .int .i64 (ka : Int), .int .i64 (kb : Int)] 69) (W' := W') hF (z := z) hz)
  have HQL : Hid ((N.take q).length = q) := Lib.hid (take_len_lt (by omega))
  have HDL : Hid ((N.drop q).length = (kb + 1)) := Lib.hid (by rw [List.length_drop]; omega)
  have hqn : q ≤ 900 := by omega
  have HC1 : Hid ((g.add (bringC κ.m.temps 0 (N.take q))).code.length ≤ 100000) := Lib.hid (by have h1 := bringC_le κ.m.temps 0 (N.take q); rw [HQL.out] at h1; simp only [GS.add, List.length_append]; omega)
  have HC0 : Hid (g.code.length ≤ 50000) := Lib.hid hgl
  have k0 : (0 : Int) ≤ (ka : Int) := by omega
  have k1 : (ka : Int) < (ll : Int) := by omega
  have b0 : (0 : Int) ≤ (kb : Int) := by omega
  have HLX := Lib.hid hlx
  have HLA : Hid (κ.la = some ⟨gl, ol, none⟩ ∧ ll = κ.m.lits.length) := Lib.hid ⟨hla, hll⟩
  obtain ⟨si, hsi1⟩ : ∃ si, si = g.sites := ⟨_, rfl⟩
  rw [← hsi1] at hsi ⊢
  have HSI : Hid (si = g.sites) := Lib.hid hsi1
  clear hla hll hkl hlx hsi1
  have hw0 := heap_new W (.cells #[.int .i64 11, .int .i64 (ka : Int), .int .i64 (kb : Int)] 69)
  have i0 := cell_of_heap (o := 0) hw0 rfl; have i1 := cell_of_heap (o := 1) hw0 rfl; have i2 := cell_of_heap (o := 2) hw0 rfl
  have HNL : Hid (N.length ≤ 900) := Lib.hid hN
  have HQ := Lib.hid hq
  clear h hT hgl hw0 hN hq
  go_enter Tryz.func60, Tryz.ntmps60
  go_wp2_with (first
    | (go_at_call 88; refine (HTK.out _ (by first | exact Fr.refl _ _ | exact (Fr.refl _ _).drew | exact (Fr.refl _ _).drewN _) _ (by first | rfl | (push_cast; rfl) | omega)).mono ?_; rintro e w2 ⟨b2, c2, rfl, X2, hx, hmem, hsub, hG⟩; have hj := hG.keep _ hmem; have j0 := cell_of_heap (o := 0) hj rfl; have j1 := cell_of_heap (o := 1) hj rfl; have j2 := cell_of_heap (o := 2) hj rfl; have hjl := lt_of_heap hj; have HX2 := Lib.hid hx; have HM2 := Lib.hid hmem; have HS2 := Lib.hid hsub; have HG2 := Lib.hid hG; clear hx hmem hsub hj hG)
    | (go_at_call 65; refine (gn_allHome HG2.out HTq.out (by have := HQL.out; omega) HC0.out).mono ?_; rintro e w3 ⟨rfl, hG⟩; have hG := hG; rw [HQL.out] at hG; have hv := hG.keep _ HM2.out; have v0 := cell_of_heap (o := 0) hv rfl; have v1 := cell_of_heap (o := 1) hv rfl; have v2 := cell_of_heap (o := 2) hv rfl; have hvl := lt_of_heap hv; have HG3 := Lib.hid hG; clear hv hG)
    | fail)
  have s14 := HG3.out.sitesCell
  have s14a := s14.1
  change w3.cell? ⟨gb, 14, none⟩ = some (.int .i64 g.sites) at s14a
  rw [← HSI.out] at s14a
  clear s14
  have s4 := HG3.out.litsCell
  rw [HLA.out.1, ← HLA.out.2] at s4
  have sx := HLX.out w3 HG3.out.fr
  have hgl3 : gl < w3.heap.size := World.block_lt_of_cell? w3 _ sx
  have hgb3 := HG3.out.lt
  go_region_held3 (fun w' => w'.cell? ⟨gb, 14, none⟩ = some (.int .i64 si) ∧ w'.cell? ⟨gb, 4, none⟩ = some (.slice (some ⟨gl, ol, none⟩) ll κ.lc) ∧ w'.cell? ⟨W.heap.size, 1, none⟩ = some (.int .i64 ka) ∧ w'.cell? ⟨gl, ol + ka, none⟩ = some (.int .u64 x))
    (first | exact ⟨s14a, s4, v1, sx⟩ | exact ⟨t14a, t4, u1, tx⟩ | go_keep)
    ((go_at_call 89; refine (gn_addTook (HG3.out.fr0 (by (repeat (first | (with_reducible refine Fr.setCell ?_ (fun h => absurd h (Nat.lt_irrefl _)) _) | (with_reducible refine Fr.setCell ?_ (fun h => absurd h (by first | omega | (simp; done) | (simp; omega) | (dsimp only; omega))) _) | (with_reducible refine Fr.alloc ?_ _) | (with_reducible refine Fr.drew ?_) | (with_reducible refine Fr.drewN ?_ _) | (with_reducible exact Fr.refl _ _))))) HTq.out 7 si b2 c2 (kb + 1) (N.drop q) HDL.out HX2.out x (by rw [homes_len]; omega) HC1.out).mono ?_; rintro e w4 ⟨rfl, na', nc', hG⟩; rw [homes_len] at hG; have t14 := hG.sitesCell; have t14a := t14.1; have t14b := t14.2; clear t14; change w4.cell? ⟨gb, 14, none⟩ = some (.int .i64 g.sites) at t14a; rw [← HSI.out] at t14a; have t4 := hG.litsCell; rw [HLA.out.1, ← HLA.out.2] at t4; have tx := HLX.out w4 hG.fr; have hu := hG.keep _ HM2.out; have u0 := cell_of_heap (o := 0) hu rfl; have u1 := cell_of_heap (o := 1) hu rfl; have u2 := cell_of_heap (o := 2) hu rfl; have hg4 := hG.lt; have HG4 := Lib.hid hG; clear hu hG))
  have e1 : IntKind.i64.wrap (si + 1) = si + 1 := IntWalk.i64_in _ (by omega)
  go_wp2_with fail
  go_end0
  exact ⟨rfl, na', nc', by first | exact ((HG4.out.fr0 (by (repeat (first | (with_reducible refine Fr.setCell ?_ (fun h => absurd h (Nat.lt_irrefl _)) _) | (with_reducible refine Fr.setCell ?_ (fun h => absurd h (by first | omega | (simp; done) | (simp; omega) | (dsimp only; omega))) _) | (with_reducible refine Fr.alloc ?_ _) | (with_reducible refine Fr.drew ?_) | (with_reducible refine Fr.drewN ?_ _) | (with_reducible exact Fr.refl _ _))))).sited (si + 1)).less HS2.out | (rw [← GS.add_add]; exact ((HG4.out.fr0 (by (repeat (first | (with_reducible refine Fr.setCell ?_ (fun h => absurd h (Nat.lt_irrefl _)) _) | (with_reducible refine Fr.setCell ?_ (fun h => absurd h (by first | omega | (simp; done) | (simp; omega) | (dsimp only; omega))) _) | (with_reducible refine Fr.alloc ?_ _) | (with_reducible refine Fr.drew ?_) | (with_reducible refine Fr.drewN ?_ _) | (with_reducible exact Fr.refl _ _))))).sited (si + 1)).less HS2.out)⟩
end
end Go.Proofs.YtomcfjckhajhmabGreatDoor
namespace Go.Proofs.YtomcfjckhajhmabGreatDoor
open Go.RowKit

section
variable {κ : GK} {w1 : World} {gb : Nat} {X : List (Nat × Obj)} {na : Option Addr} {nc : Nat} {N : List Sr} {g : GS} {W : World}
/-- the top note, taken beside a box -/
theorem gn_take_top (h : GIs κ w1 gb X na nc N g W) (h0 : 0 < N.length) (hl : N.length ≤ 1000) (o : Obj) {W' : World} (hF : Fr [] (W.alloc o) W') : Calls Tryz.prog 88 #[.pointer (some ⟨gb, 8, none⟩), .int .i64 1] W' (fun e w' => ∃ b c, e = .returned (.slice (some ⟨b, 0, none⟩) 1 c) ∧ (∃ X', InX w1 X' (some ⟨b, 0, none⟩) [top N] c ∧ (W.heap.size, o) ∈ X' ∧ (∀ x ∈ X, x ∈ X') ∧ GIs κ w1 gb X' na nc N.dropLast g w')) := by
  obtain ⟨q, hq⟩ : ∃ q, q + 1 = N.length := ⟨N.length - 1, by omega⟩
  have hone := took_one hq
  have hrest := took_rest hq
  have h9 := gn_take_box (nn := 1) h hq (by omega) hl o hF (z := 1) rfl
  rw [hone, hrest] at h9
  exact h9
theorem gn_addOne (h : GIs κ w1 gb X na nc N g W) (op n : Int) (b c : Nat) (s : Sr) (hx : InX w1 X (some ⟨b, 0, none⟩) [s] c) (w : Int) (hgl : g.code.length ≤ 100000) : Calls Tryz.prog 63 #[.pointer (some ⟨gb, 0, none⟩), .agg #[.int .i64 op, .int .i64 n, .int .i64 0, .int .i64 0, .int .u64 0, .slice (some ⟨b, 0, none⟩) 1 c, .int .u64 w]] W (fun e w' => e = .returned (.tuple #[]) ∧ GIs κ w1 gb X na nc N (g.add [mkI op n zeroS [s] w]) w') := gn_add h ⟨op, n, ⟨0, 0, 0⟩, some ⟨b, 0, none⟩, [s], c, w⟩ hx hgl
theorem gn_addNone (h : GIs κ w1 gb X na nc N g W) (op n : Int) (hgl : g.code.length ≤ 100000) : Calls Tryz.prog 63 #[.pointer (some ⟨gb, 0, none⟩), .agg #[.int .i64 op, .int .i64 n, .int .i64 0, .int .i64 0, .int .u64 0, .slice none 0 0, .int .u64 0]] W (fun e w' => e = .returned (.tuple #[]) ∧ GIs κ w1 gb X na nc N (g.add [mkI op n zeroS [] 0]) w') := gn_add h ⟨op, n, ⟨0, 0, 0⟩, none, [], 0, 0⟩ InX.nil hgl
set_option maxRecDepth 100000 in
set_option maxHeartbeats 4000000 in
theorem gn_jump (h : GIs κ w1 gb X na nc N g W) (hT : 0 ≤ κ.m.temps ∧ κ.m.temps ≤ 16) (hN : N.length ≤ 900) (hgl : g.code.length ≤ 50000) (a b : Int) : Calls Tryz.prog 61 #[.pointer (some ⟨gb, 0, none⟩), .agg #[.int .i64 14, .int .i64 a, .int .i64 b]] W (NoteTo κ w1 gb X (homes κ.m.temps N.length) (g.add (bringC κ.m.temps 0 N ++ [mkI 5 a zeroS [] 0]))) := by
  have hgb := h.lt
  have HC1 : Hid ((g.add (bringC κ.m.temps 0 N)).code.length ≤ 100000) := Lib.hid (by have h1 := bringC_le κ.m.temps 0 N; simp only [GS.add, List.length_append]; omega)
  have hw0 := heap_new W (.cells #[.int .i64 14, .int .i64 a, .int .i64 b] 69)
  have HH : Hid (∀ W', Fr [] (W.alloc (.cells #[.int .i64 14, .int .i64 a, .int .i64 b] 69)) W' → Calls Tryz.prog 65 #[.pointer (some ⟨gb, 0, none⟩)] W' (fun e w' => e = .returned (.tuple #[]) ∧ GIs κ w1 gb ((W.heap.size, .cells #[.int .i64 14, .int .i64 a, .int .i64 b] 69 (0, 0)) :: X) na nc (homes κ.m.temps N.length) (g.add (bringC κ.m.temps 0 N)) w')) := Lib.hid fun W' hF => gn_allHome (h.fresh (((Fr.refl [] W).alloc _).trans hF) (hF.heap (by simp) hw0) (Nat.le_refl _)) hT hN hgl
  have i0 := cell_of_heap (o := 0) hw0 rfl; have i1 := cell_of_heap (o := 1) hw0 rfl; have i2 := cell_of_heap (o := 2) hw0 rfl
  clear h hT hN hgl hw0
  go_enter Tryz.func61, Tryz.ntmps61
  go_wp2_with (first
    | (go_at_call 65; refine (HH.out _ (by first | exact Fr.refl _ _ | exact (Fr.refl _ _).drew | exact (Fr.refl _ _).drewN _)).mono ?_; rintro e w2 ⟨rfl, hG⟩; have hj := hG.keep _ (List.mem_cons_self ..); have j0 := cell_of_heap (o := 0) hj rfl; have j1 := cell_of_heap (o := 1) hj rfl; have j2 := cell_of_heap (o := 2) hj rfl; have hjl := lt_of_heap hj; have HG2 := Lib.hid hG; clear hj hG)
    | (go_at_call 63; refine (gn_addNone HG2.out 5 a HC1.out).mono ?_; rintro e w3 ⟨rfl, hG⟩; have HG3 := Lib.hid hG; clear hG))
  go_end0
  exact ⟨rfl, na, nc, by rw [← GS.add_add]; exact HG3.out.less (fun x hx => List.mem_cons_of_mem _ hx)⟩
set_option maxRecDepth 100000 in
set_option maxHeartbeats 4000000 in
theorem gn_jump_true (h : GIs κ w1 gb X na nc N g W) (hN : N.length ≤ 900) (h0 : 0 < N.length) (hgl : g.code.length ≤ 50000) (a b : Int) : Calls Tryz.prog 61 #[.pointer (some ⟨gb, 0, none⟩), .agg #[.int .i64 15, .int .i64 a, .int .i64 b]] W (NoteTo κ w1 gb X N.dropLast (g.add [mkI 6 a zeroS [top N] (numW 1)])) := by
  have hgb := h.lt
  have HGL := Lib.hid hgl
  have hw0 := heap_new W (.cells #[.int .i64 15, .int .i64 a, .int .i64 b] 69)
  have HTK := Lib.hid (fun W' hF => gn_take_top h h0 (by omega) (.cells #[.int .i64 15, .int .i64 a, .int .i64 b] 69) (W' := W') hF)
  have i0 := cell_of_heap (o := 0) hw0 rfl; have i1 := cell_of_heap (o := 1) hw0 rfl; have i2 := cell_of_heap (o := 2) hw0 rfl
  have HNU := Lib.hid (fun w => gn_number 1 w (by decide))
  obtain ⟨x, hx⟩ : ∃ x, x = numW 1 := ⟨_, rfl⟩
  rw [← hx] at HNU ⊢
  clear h h0 hN hgl hw0 hx
  go_enter Tryz.func61, Tryz.ntmps61
  go_wp2_with fail
  go_region_held3 (fun w' => w'.cell? ⟨W.heap.size, 1, none⟩ = some (.int .i64 a))
    (first | exact i1 | exact j1 | exact l1 | go_keep)
    (first
      | (go_at_call 88; refine (HTK.out _ (by first | exact Fr.refl _ _ | exact (Fr.refl _ _).drew | exact (Fr.refl _ _).drewN _)).mono ?_; rintro e w2 ⟨b2, c2, rfl, X2, hx, hmem, hsub, hG⟩; have hj := hG.keep _ hmem; have j0 := cell_of_heap (o := 0) hj rfl; have j1 := cell_of_heap (o := 1) hj rfl; have j2 := cell_of_heap (o := 2) hj rfl; have HX2 := Lib.hid hx; have HM2 := Lib.hid hmem; have HS2 := Lib.hid hsub; have HG2 := Lib.hid hG; clear hx hmem hsub hj hG)
      | (go_at_call 90; (with_reducible refine (HNU.out _).mono ?_); rintro e w9 ⟨rfl, rfl⟩)
      | (go_at_call 63; refine (gn_addOne (HG2.out.fr0 (by (repeat (first | (with_reducible refine Fr.setCell ?_ (fun h => absurd h (Nat.lt_irrefl _)) _) | (with_reducible refine Fr.setCell ?_ (fun h => absurd h (by first | omega | (simp; done) | (simp; omega) | (dsimp only; omega))) _) | (with_reducible refine Fr.alloc ?_ _) | (with_reducible refine Fr.drew ?_) | (with_reducible refine Fr.drewN ?_ _) | (with_reducible exact Fr.refl _ _))))) 6 a b2 c2 (top N) HX2.out x (by have := HGL.out; omega)).mono ?_; rintro e w3 ⟨rfl, hG⟩; have hl3 := hG.keep _ HM2.out; have l0 := cell_of_heap (o := 0) hl3 rfl; have l1 := cell_of_heap (o := 1) hl3 rfl; have l2 := cell_of_heap (o := 2) hl3 rfl; have HG3 := Lib.hid hG; clear hl3 hG))
  all_goals (try go_wp2_with fail)
  all_goals (go_end0; exact ⟨rfl, na, nc, (HG3.out.fr0 (by (repeat (first | (with_reducible refine Fr.setCell ?_ (fun h => absurd h (Nat.lt_irrefl _)) _) | (with_reducible refine Fr.setCell ?_ (fun h => absurd h (by first | omega | (simp; done) | (simp; omega) | (dsimp only; omega))) _) | (with_reducible refine Fr.alloc ?_ _) | (with_reducible refine Fr.drew ?_) | (with_reducible refine Fr.drewN ?_ _) | (with_reducible exact Fr.refl _ _))))).less HS2.out⟩)
set_option maxRecDepth 100000 in
set_option maxHeartbeats 4000000 in
theorem gn_jump_false (h : GIs κ w1 gb X na nc N g W) (hN : N.length ≤ 900) (h0 : 0 < N.length) (hgl : g.code.length ≤ 50000) (a b : Int) : Calls Tryz.prog 61 #[.pointer (some ⟨gb, 0, none⟩), .agg #[.int .i64 16, .int .i64 a, .int .i64 b]] W (NoteTo κ w1 gb X N.dropLast (g.add [mkI 6 a zeroS [top N] (numW 0)])) := by
  have hgb := h.lt
  have HGL := Lib.hid hgl
  have hw0 := heap_new W (.cells #[.int .i64 16, .int .i64 a, .int .i64 b] 69)
  have HTK := Lib.hid (fun W' hF => gn_take_top h h0 (by omega) (.cells #[.int .i64 16, .int .i64 a, .int .i64 b] 69) (W' := W') hF)
  have i0 := cell_of_heap (o := 0) hw0 rfl; have i1 := cell_of_heap (o := 1) hw0 rfl; have i2 := cell_of_heap (o := 2) hw0 rfl
  have HNU := Lib.hid (fun w => gn_number 0 w (by decide))
  obtain ⟨x, hx⟩ : ∃ x, x = numW 0 := ⟨_, rfl⟩
  rw [← hx] at HNU ⊢
  clear h h0 hN hgl hw0 hx
  go_enter Tryz.func61, Tryz.ntmps61
  go_wp2_with fail
  go_region_held3 (fun w' => w'.cell? ⟨W.heap.size, 1, none⟩ = some (.int .i64 a))
    (first | exact i1 | exact j1 | exact l1 | go_keep)
    (first
      | (go_at_call 88; refine (HTK.out _ (by first | exact Fr.refl _ _ | exact (Fr.refl _ _).drew | exact (Fr.refl _ _).drewN _)).mono ?_; rintro e w2 ⟨b2, c2, rfl, X2, hx, hmem, hsub, hG⟩; have hj := hG.keep _ hmem; have j0 := cell_of_heap (o := 0) hj rfl; have j1 := cell_of_heap (o := 1) hj rfl; have j2 := cell_of_heap (o := 2) hj rfl; have HX2 := Lib.hid hx; have HM2 := Lib.hid hmem; have HS2 := Lib.hid hsub; have HG2 := Lib.hid hG; clear hx hmem hsub hj hG)
      | (go_at_call 90; (with_reducible refine (HNU.out _).mono ?_); rintro e w9 ⟨rfl, rfl⟩)
      | (go_at_call 63; refine (gn_addOne (HG2.out.fr0 (by (repeat (first | (with_reducible refine Fr.setCell ?_ (fun h => absurd h (Nat.lt_irrefl _)) _) | (with_reducible refine Fr.setCell ?_ (fun h => absurd h (by first | omega | (simp; done) | (simp; omega) | (dsimp only; omega))) _) | (with_reducible refine Fr.alloc ?_ _) | (with_reducible refine Fr.drew ?_) | (with_reducible refine Fr.drewN ?_ _) | (with_reducible exact Fr.refl _ _))))) 6 a b2 c2 (top N) HX2.out x (by have := HGL.out; omega)).mono ?_; rintro e w3 ⟨rfl, hG⟩; have hl3 := hG.keep _ HM2.out; have l0 := cell_of_heap (o := 0) hl3 rfl; have l1 := cell_of_heap (o := 1) hl3 rfl; have l2 := cell_of_heap (o := 2) hl3 rfl; have HG3 := Lib.hid hG; clear hl3 hG))
  all_goals (try go_wp2_with fail)
  all_goals (go_end0; exact ⟨rfl, na, nc, (HG3.out.fr0 (by (repeat (first | (with_reducible refine Fr.setCell ?_ (fun h => absurd h (Nat.lt_irrefl _)) _) | (with_reducible refine Fr.setCell ?_ (fun h => absurd h (by first | omega | (simp; done) | (simp; omega) | (dsimp only; omega))) _) | (with_reducible refine Fr.alloc ?_ _) | (with_reducible refine Fr.drew ?_) | (with_reducible refine Fr.drewN ?_ _) | (with_reducible exact Fr.refl _ _))))).less HS2.out⟩)
set_option maxRecDepth 100000 in
set_option maxHeartbeats 4000000 in
theorem gn_return (h : GIs κ w1 gb X na nc N g W) (hN : N.length ≤ 900) (h0 : 0 < N.length) (hgl : g.code.length ≤ 50000) (a b : Int) : Calls Tryz.prog 62 #[.pointer (some ⟨gb, 0, none⟩), .agg #[.int .i64 17, .int .i64 a, .int .i64 b]] W (NoteTo κ w1 gb X N.dropLast (g.add [mkI 8 0 zeroS [top N] 0])) := by
  have hgb := h.lt
  have HGL := Lib.hid hgl
  have HTK := Lib.hid (fun W' hF => gn_take_top h h0 (by omega) (.cells #[.int .i64 17, .int .i64 a, .int .i64 b] 69) (W' := W') hF)
  clear h h0 hN hgl
  go_enter Tryz.func62, Tryz.ntmps62
  go_wp2_with (first
      | (go_at_call 88; refine (HTK.out _ (by first | exact Fr.refl _ _ | exact (Fr.refl _ _).drew | exact (Fr.refl _ _).drewN _)).mono ?_; rintro e w2 ⟨b2, c2, rfl, X2, hx, hmem, hsub, hG⟩; have HX2 := Lib.hid hx; have HM2 := Lib.hid hmem; have HS2 := Lib.hid hsub; have HG2 := Lib.hid hG; clear hx hmem hsub hG)
      | (go_at_call 63; refine (gn_addOne (HG2.out.fr0 (by (repeat (first | (with_reducible refine Fr.setCell ?_ (fun h => absurd h (Nat.lt_irrefl _)) _) | (with_reducible refine Fr.setCell ?_ (fun h => absurd h (by first | omega | (simp; done) | (simp; omega) | (dsimp only; omega))) _) | (with_reducible refine Fr.alloc ?_ _) | (with_reducible refine Fr.drew ?_) | (with_reducible refine Fr.drewN ?_ _) | (with_reducible exact Fr.refl _ _))))) 8 0 b2 c2 (top N) HX2.out 0 (by have := HGL.out; omega)).mono ?_; rintro e w3 ⟨rfl, hG⟩; have HG3 := Lib.hid hG; clear hG))
  all_goals (go_end0; exact ⟨rfl, na, nc, (HG3.out.fr0 (by (repeat (first | (with_reducible refine Fr.setCell ?_ (fun h => absurd h (Nat.lt_irrefl _)) _) | (with_reducible refine Fr.setCell ?_ (fun h => absurd h (by first | omega | (simp; done) | (simp; omega) | (dsimp only; omega))) _) | (with_reducible refine Fr.alloc ?_ _) | (with_reducible refine Fr.drew ?_) | (with_reducible refine Fr.drewN ?_ _) | (with_reducible exact Fr.refl _ _))))).less HS2.out⟩)
set_option maxRecDepth 100000 in
set_option maxHeartbeats 4000000 in
theorem gn_returnSelf (h : GIs κ w1 gb X na nc N g W) (hN : N.length ≤ 900) (hgl : g.code.length ≤ 50000) (a b : Int) : Calls Tryz.prog 62 #[.pointer (some ⟨gb, 0, none⟩), .agg #[.int .i64 18, .int .i64 a, .int .i64 b]] W (NoteTo κ w1 gb X N (g.add [mkI 8 0 zeroS [slfS] 0])) := by
  have hgb := h.lt
  have HGL := Lib.hid hgl
  have HG := Lib.hid h
  have htop : top (N ++ [slfS]) = slfS := by simp [top]
  have hdl : (N ++ [slfS]).dropLast = N := by simp
  have HTK : Hid (∀ na' nc' W2 W', GIs κ w1 gb X na' nc' (N ++ [slfS]) g W2 → Fr [] W2 W' → Calls Tryz.prog 88 #[.pointer (some ⟨gb, 8, none⟩), .int .i64 1] W' (fun e w' => ∃ b c, e = .returned (.slice (some ⟨b, 0, none⟩) 1 c) ∧ (∃ X', InX w1 X' (some ⟨b, 0, none⟩) [slfS] c ∧ (∀ x ∈ X, x ∈ X') ∧ GIs κ w1 gb X' na' nc' N g w'))) := Lib.hid fun na' nc' W2 W' hG hF => by
    have h9 := took_to (hG.fr0 hF) (q := N.length) (s := slfS) (M := N) (by simp) (by simp) (by simp) (by simp; omega)
    refine h9.mono ?_
    rintro e w' ⟨b, c, rest, he, hk, hlo, hG2⟩
    exact ⟨b, c, he, _, took_inX (s := slfS) hk hlo (List.mem_cons_self ..), fun x hx => List.mem_cons_of_mem _ hx, hG2⟩
  clear h hgl htop hdl
  go_enter Tryz.func62, Tryz.ntmps62
  go_wp2_with fail
  go_region_law (first
    | (go_simp; go_at_call 91; refine (gn_receiver _).mono ?_; rintro e w2 ⟨rfl, hF⟩; have HF2 : Hid (Fr [] W w2) := Lib.hid (Fr.trans (by (repeat (first | (with_reducible refine Fr.setCell ?_ (fun h => absurd h (Nat.lt_irrefl _)) _) | (with_reducible refine Fr.setCell ?_ (fun h => absurd h (by first | omega | (simp; done) | (simp; omega) | (dsimp only; omega))) _) | (with_reducible refine Fr.alloc ?_ _) | (with_reducible refine Fr.drew ?_) | (with_reducible refine Fr.drewN ?_ _) | (with_reducible exact Fr.refl _ _)))) hF); clear hF)
    | (go_simp; go_at_call 57; refine (gn_push (HG.out.fr0 (by (repeat (first | (with_reducible refine Fr.setCell ?_ (fun h => absurd h (Nat.lt_irrefl _)) _) | (with_reducible refine Fr.setCell ?_ (fun h => absurd h (by first | omega | (simp; done) | (simp; omega) | (dsimp only; omega))) _) | (with_reducible refine Fr.alloc ?_ _) | (with_reducible refine Fr.drew ?_) | (with_reducible refine Fr.drewN ?_ _) | (with_reducible exact HF2.out))))) slfS (by omega)).mono ?_; rintro e w3 ⟨rfl, na', nc', hG⟩; have HG3 := Lib.hid hG; clear hG))
  all_goals
    go_wp2_with (first
      | (go_at_call 88; refine (HTK.out _ _ _ _ HG3.out (by (repeat (first | (with_reducible refine Fr.setCell ?_ (fun h => absurd h (Nat.lt_irrefl _)) _) | (with_reducible refine Fr.setCell ?_ (fun h => absurd h (by first | omega | (simp; done) | (simp; omega) | (dsimp only; omega))) _) | (with_reducible refine Fr.alloc ?_ _) | (with_reducible refine Fr.drew ?_) | (with_reducible refine Fr.drewN ?_ _) | (with_reducible exact Fr.refl _ _))))).mono ?_; rintro e w4 ⟨b2, c2, rfl, X2, hx, hsub, hG⟩; have HX2 := Lib.hid hx; have HS2 := Lib.hid hsub; have HG4 := Lib.hid hG; clear hx hsub hG)
      | (go_at_call 63; refine (gn_addOne (HG4.out.fr0 (by (repeat (first | (with_reducible refine Fr.setCell ?_ (fun h => absurd h (Nat.lt_irrefl _)) _) | (with_reducible refine Fr.setCell ?_ (fun h => absurd h (by first | omega | (simp; done) | (simp; omega) | (dsimp only; omega))) _) | (with_reducible refine Fr.alloc ?_ _) | (with_reducible refine Fr.drew ?_) | (with_reducible refine Fr.drewN ?_ _) | (with_reducible exact Fr.refl _ _))))) 8 0 b2 c2 slfS HX2.out 0 (by have := HGL.out; omega)).mono ?_; rintro e w5 ⟨rfl, hG⟩; have HG5 := Lib.hid hG; clear hG))
    go_end0
    exact ⟨rfl, na', nc', (HG5.out.fr0 (by (repeat (first | (with_reducible refine Fr.setCell ?_ (fun h => absurd h (Nat.lt_irrefl _)) _) | (with_reducible refine Fr.setCell ?_ (fun h => absurd h (by first | omega | (simp; done) | (simp; omega) | (dsimp only; omega))) _) | (with_reducible refine Fr.alloc ?_ _) | (with_reducible refine Fr.drew ?_) | (with_reducible refine Fr.drewN ?_ _) | (with_reducible exact Fr.refl _ _))))).less HS2.out⟩
end
end Go.Proofs.YtomcfjckhajhmabGreatDoor
