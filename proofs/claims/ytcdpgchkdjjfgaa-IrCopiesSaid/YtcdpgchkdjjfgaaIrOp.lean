/- ir: operationOf: the table of the operations, and what a number's row says. -/
import Derived.Test.YtcdpgchkdjjfgaaIrSmall
import Derived.Deep.Cut
import Derived.Great.BuildSlice
import Derived.Great.Walk
namespace Go.Proofs.Ytcdpgchkdjjfgaa
open Go.RowKit Go.Great
def opTbl : Array Value := #[.int .i64 0, .int .i64 (-1), .bool false, .int .i64 1, .int .i64 1, .bool true, .int .i64 2, .int .i64 2, .bool true, .int .i64 0, .int .i64 0, .bool true, .int .i64 1, .int .i64 1, .bool false, .int .i64 0, .int .i64 0, .bool false, .int .i64 1, .int .i64 1, .bool false, .int .i64 1, .int .i64 5, .bool true, .int .i64 1, .int .i64 1, .bool false, .int .i64 0, .int .i64 0, .bool false]
def opZero : Array Value := #[.int .i64 0, .int .i64 0, .bool false, .int .i64 0, .int .i64 0, .bool false, .int .i64 0, .int .i64 0, .bool false, .int .i64 0, .int .i64 0, .bool false, .int .i64 0, .int .i64 0, .bool false, .int .i64 0, .int .i64 0, .bool false, .int .i64 0, .int .i64 0, .bool false, .int .i64 0, .int .i64 0, .bool false, .int .i64 0, .int .i64 0, .bool false, .int .i64 0, .int .i64 0, .bool false]
def opV (op : Int) : Value := .agg #[.int .i64 (lst op), .int .i64 (mst op), .bool (lvs op)]
set_option maxRecDepth 100000 in
set_option maxHeartbeats 1000000 in
theorem ir_operationOf (op : Int) (w : World) : Calls Try.prog 25 #[.int .i64 op] w (Still (opV op) w) := by
  go_enter Try.func25, Try.ntmps25
  go_upto_region 1 with (fail)
  apply wp_region_lit
  have hz0 : w.heap.size < (w.alloc (.cells #[.int .i64 0, .int .i64 0, .bool false] 51)).heap.size := by simp
  have hb0 := heap_new w (.cells #[.int .i64 0, .int .i64 0, .bool false] 51)
  have hF0 : Fr [] w (w.alloc (.cells #[.int .i64 0, .int .i64 0, .bool false] 51)) := (Fr.refl _ _).alloc _
  generalize w.alloc (.cells #[.int .i64 0, .int .i64 0, .bool false] 51) = W at *
  refine wpList_buildTo rfl 51 _ rfl (some 4) rfl #[.int .i64 0, .int .i64 (-1), .bool false] (by as_aux_lemma => kernel_rfl) ?_
  refine wpList_buildTo rfl 51 _ rfl (some 5) rfl #[.int .i64 1, .int .i64 1, .bool true] (by as_aux_lemma => kernel_rfl) ?_
  refine wpList_buildTo rfl 51 _ rfl (some 6) rfl #[.int .i64 2, .int .i64 2, .bool true] (by as_aux_lemma => kernel_rfl) ?_
  refine wpList_buildTo rfl 51 _ rfl (some 7) rfl #[.int .i64 0, .int .i64 0, .bool true] (by as_aux_lemma => kernel_rfl) ?_
  refine wpList_buildTo rfl 51 _ rfl (some 8) rfl #[.int .i64 1, .int .i64 1, .bool false] (by as_aux_lemma => kernel_rfl) ?_
  refine wpList_buildTo rfl 51 _ rfl (some 9) rfl #[.int .i64 0, .int .i64 0, .bool false] (by as_aux_lemma => kernel_rfl) ?_
  refine wpList_buildTo rfl 51 _ rfl (some 10) rfl #[.int .i64 1, .int .i64 1, .bool false] (by as_aux_lemma => kernel_rfl) ?_
  refine wpList_buildTo rfl 51 _ rfl (some 11) rfl #[.int .i64 1, .int .i64 5, .bool true] (by as_aux_lemma => kernel_rfl) ?_
  refine wpList_buildTo rfl 51 _ rfl (some 12) rfl #[.int .i64 1, .int .i64 1, .bool false] (by as_aux_lemma => kernel_rfl) ?_
  refine wpList_buildTo rfl 51 _ rfl (some 13) rfl #[.int .i64 0, .int .i64 0, .bool false] (by as_aux_lemma => kernel_rfl) ?_
  refine wpList_buildTo rfl 61 _ rfl (some 14) rfl opTbl (by as_aux_lemma => kernel_rfl) ?_
  refine wpList_allocTo rfl (some 3) rfl (.pointer (some ⟨W.heap.size, 0, none⟩)) (.cells opZero 61) (by as_aux_lemma => kernel_rfl) ?_
  refine wpList_store_row rfl 61 _ _ rfl (W.heap.size) opTbl (by as_aux_lemma => kernel_rfl) (by as_aux_lemma => kernel_rfl) 61 opZero (heap_new W _) (by as_aux_lemma => kernel_rfl) rfl (by as_aux_lemma => kernel_rfl) ?_
  apply wpList_nil
  rename_i K hK
  refine hK _ _ ?_
  clear hK
  have hg := setRow_heap (W.alloc (.cells opZero 61)) W.heap.size opZero opTbl 61 (0, 0) (heap_new W _)
  have hr := (setRow_other (W.alloc (.cells opZero 61)) W.heap.size w.heap.size opTbl (by omega)).trans (((Fr.refl [] W).alloc (.cells opZero 61)).heap (by simp) hb0)
  have hF : Fr [] w ((W.alloc (.cells opZero 61)).setRow W.heap.size opTbl) := by
    have h1 := hF0.alloc (.cells opZero 61)
    have hS := hF0.size
    exact ⟨h1.os, h1.tape, h1.output, by rw [setRow_size]; exact h1.size, fun k hk hn => (setRow_other _ _ _ _ (by omega)).trans (h1.block k hk hn)⟩
  have hgs := lt_of_heap hg
  generalize (W.alloc (.cells opZero 61)).setRow W.heap.size opTbl = W1 at *
  have hgW : w.heap.size ≠ W.heap.size := by omega
  generalize W.heap.size = g at *
  clear hz0 hb0 hF0
  have r0 : W1.cell? ⟨w.heap.size, 0, none⟩ = some (.int .i64 0) := cell_of_heap hr rfl
  have r1 : W1.cell? ⟨w.heap.size, 1, none⟩ = some (.int .i64 0) := cell_of_heap hr rfl
  have r2 : W1.cell? ⟨w.heap.size, 2, none⟩ = some (.bool false) := cell_of_heap hr rfl
  have fr0 := frozen_of_heap (o := 0) hr; have fr1 := frozen_of_heap (o := 1) hr; have fr2 := frozen_of_heap (o := 2) hr
  have HF := Lib.hid hF
  have HG := Lib.hid hg
  clear hF hg hr
  rcases op_cases op with h | h
  · obtain ⟨e1, e2, e3⟩ := op_none h
    have e : opV op = .agg #[.int .i64 0, .int .i64 (-1), .bool false] := by unfold opV; rw [e1, e2, e3]
    rw [e]
    clear e e1 e2 e3
    have c0 : W1.cell? ⟨g, 0, none⟩ = some (.int .i64 0) := cell_of_heap HG.out rfl
    have c1 : W1.cell? ⟨g, 1, none⟩ = some (.int .i64 (-1)) := cell_of_heap HG.out rfl
    have c2 : W1.cell? ⟨g, 2, none⟩ = some (.bool false) := cell_of_heap HG.out rfl
    by_cases h0 : op = 0
    · subst h0
      clear h
      go_wp2
      exact bodyPost_ret (v := .agg #[.int .i64 0, .int .i64 (-1), .bool false]) (by simp [results, Try.results25, go_sem]; go_simp) rfl ⟨rfl, by (repeat (first | (with_reducible refine Fr.setCell ?_ (fun h => absurd h (Nat.lt_irrefl _)) _) | (with_reducible refine Fr.setCell ?_ (fun h => absurd h (by first | omega | (simp; done) | (simp; omega) | (dsimp only; omega))) _) | (with_reducible refine Fr.alloc ?_ _) | (with_reducible refine Fr.drew ?_) | (with_reducible refine Fr.drewN ?_ _) | (with_reducible exact HF.out)))⟩
    · by_cases h1 : op < 0
      · clear h h0
        go_wp2
        exact bodyPost_ret (v := .agg #[.int .i64 0, .int .i64 (-1), .bool false]) (by simp [results, Try.results25, go_sem]; go_simp) rfl ⟨rfl, by (repeat (first | (with_reducible refine Fr.setCell ?_ (fun h => absurd h (Nat.lt_irrefl _)) _) | (with_reducible refine Fr.setCell ?_ (fun h => absurd h (by first | omega | (simp; done) | (simp; omega) | (dsimp only; omega))) _) | (with_reducible refine Fr.alloc ?_ _) | (with_reducible refine Fr.drew ?_) | (with_reducible refine Fr.drewN ?_ _) | (with_reducible exact HF.out)))⟩
      · have h2 : 10 ≤ op := by omega
        clear h h0 h1
        go_wp2
        exact bodyPost_ret (v := .agg #[.int .i64 0, .int .i64 (-1), .bool false]) (by simp [results, Try.results25, go_sem]; go_simp) rfl ⟨rfl, by (repeat (first | (with_reducible refine Fr.setCell ?_ (fun h => absurd h (Nat.lt_irrefl _)) _) | (with_reducible refine Fr.setCell ?_ (fun h => absurd h (by first | omega | (simp; done) | (simp; omega) | (dsimp only; omega))) _) | (with_reducible refine Fr.alloc ?_ _) | (with_reducible refine Fr.drew ?_) | (with_reducible refine Fr.drewN ?_ _) | (with_reducible exact HF.out)))⟩
  · rcases h with rfl | rfl | rfl | rfl | rfl | rfl | rfl | rfl | rfl
    · have c0 : W1.cell? ⟨g, 3, none⟩ = some (.int .i64 1) := cell_of_heap HG.out rfl
      have c1 : W1.cell? ⟨g, 4, none⟩ = some (.int .i64 1) := cell_of_heap HG.out rfl
      have c2 : W1.cell? ⟨g, 5, none⟩ = some (.bool true) := cell_of_heap HG.out rfl
      go_wp2
      exact bodyPost_ret (v := .agg #[.int .i64 1, .int .i64 1, .bool true]) (by simp [results, Try.results25, go_sem]; go_simp) rfl ⟨rfl, by (repeat (first | (with_reducible refine Fr.setCell ?_ (fun h => absurd h (Nat.lt_irrefl _)) _) | (with_reducible refine Fr.setCell ?_ (fun h => absurd h (by first | omega | (simp; done) | (simp; omega) | (dsimp only; omega))) _) | (with_reducible refine Fr.alloc ?_ _) | (with_reducible refine Fr.drew ?_) | (with_reducible refine Fr.drewN ?_ _) | (with_reducible exact HF.out)))⟩
    · have c0 : W1.cell? ⟨g, 6, none⟩ = some (.int .i64 2) := cell_of_heap HG.out rfl
      have c1 : W1.cell? ⟨g, 7, none⟩ = some (.int .i64 2) := cell_of_heap HG.out rfl
      have c2 : W1.cell? ⟨g, 8, none⟩ = some (.bool true) := cell_of_heap HG.out rfl
      go_wp2
      exact bodyPost_ret (v := .agg #[.int .i64 2, .int .i64 2, .bool true]) (by simp [results, Try.results25, go_sem]; go_simp) rfl ⟨rfl, by (repeat (first | (with_reducible refine Fr.setCell ?_ (fun h => absurd h (Nat.lt_irrefl _)) _) | (with_reducible refine Fr.setCell ?_ (fun h => absurd h (by first | omega | (simp; done) | (simp; omega) | (dsimp only; omega))) _) | (with_reducible refine Fr.alloc ?_ _) | (with_reducible refine Fr.drew ?_) | (with_reducible refine Fr.drewN ?_ _) | (with_reducible exact HF.out)))⟩
    · have c0 : W1.cell? ⟨g, 9, none⟩ = some (.int .i64 0) := cell_of_heap HG.out rfl
      have c1 : W1.cell? ⟨g, 10, none⟩ = some (.int .i64 0) := cell_of_heap HG.out rfl
      have c2 : W1.cell? ⟨g, 11, none⟩ = some (.bool true) := cell_of_heap HG.out rfl
      go_wp2
      exact bodyPost_ret (v := .agg #[.int .i64 0, .int .i64 0, .bool true]) (by simp [results, Try.results25, go_sem]; go_simp) rfl ⟨rfl, by (repeat (first | (with_reducible refine Fr.setCell ?_ (fun h => absurd h (Nat.lt_irrefl _)) _) | (with_reducible refine Fr.setCell ?_ (fun h => absurd h (by first | omega | (simp; done) | (simp; omega) | (dsimp only; omega))) _) | (with_reducible refine Fr.alloc ?_ _) | (with_reducible refine Fr.drew ?_) | (with_reducible refine Fr.drewN ?_ _) | (with_reducible exact HF.out)))⟩
    · have c0 : W1.cell? ⟨g, 12, none⟩ = some (.int .i64 1) := cell_of_heap HG.out rfl
      have c1 : W1.cell? ⟨g, 13, none⟩ = some (.int .i64 1) := cell_of_heap HG.out rfl
      have c2 : W1.cell? ⟨g, 14, none⟩ = some (.bool false) := cell_of_heap HG.out rfl
      go_wp2
      exact bodyPost_ret (v := .agg #[.int .i64 1, .int .i64 1, .bool false]) (by simp [results, Try.results25, go_sem]; go_simp) rfl ⟨rfl, by (repeat (first | (with_reducible refine Fr.setCell ?_ (fun h => absurd h (Nat.lt_irrefl _)) _) | (with_reducible refine Fr.setCell ?_ (fun h => absurd h (by first | omega | (simp; done) | (simp; omega) | (dsimp only; omega))) _) | (with_reducible refine Fr.alloc ?_ _) | (with_reducible refine Fr.drew ?_) | (with_reducible refine Fr.drewN ?_ _) | (with_reducible exact HF.out)))⟩
    · have c0 : W1.cell? ⟨g, 15, none⟩ = some (.int .i64 0) := cell_of_heap HG.out rfl
      have c1 : W1.cell? ⟨g, 16, none⟩ = some (.int .i64 0) := cell_of_heap HG.out rfl
      have c2 : W1.cell? ⟨g, 17, none⟩ = some (.bool false) := cell_of_heap HG.out rfl
      go_wp2
      exact bodyPost_ret (v := .agg #[.int .i64 0, .int .i64 0, .bool false]) (by simp [results, Try.results25, go_sem]; go_simp) rfl ⟨rfl, by (repeat (first | (with_reducible refine Fr.setCell ?_ (fun h => absurd h (Nat.lt_irrefl _)) _) | (with_reducible refine Fr.setCell ?_ (fun h => absurd h (by first | omega | (simp; done) | (simp; omega) | (dsimp only; omega))) _) | (with_reducible refine Fr.alloc ?_ _) | (with_reducible refine Fr.drew ?_) | (with_reducible refine Fr.drewN ?_ _) | (with_reducible exact HF.out)))⟩
    · have c0 : W1.cell? ⟨g, 18, none⟩ = some (.int .i64 1) := cell_of_heap HG.out rfl
      have c1 : W1.cell? ⟨g, 19, none⟩ = some (.int .i64 1) := cell_of_heap HG.out rfl
      have c2 : W1.cell? ⟨g, 20, none⟩ = some (.bool false) := cell_of_heap HG.out rfl
      go_wp2
      exact bodyPost_ret (v := .agg #[.int .i64 1, .int .i64 1, .bool false]) (by simp [results, Try.results25, go_sem]; go_simp) rfl ⟨rfl, by (repeat (first | (with_reducible refine Fr.setCell ?_ (fun h => absurd h (Nat.lt_irrefl _)) _) | (with_reducible refine Fr.setCell ?_ (fun h => absurd h (by first | omega | (simp; done) | (simp; omega) | (dsimp only; omega))) _) | (with_reducible refine Fr.alloc ?_ _) | (with_reducible refine Fr.drew ?_) | (with_reducible refine Fr.drewN ?_ _) | (with_reducible exact HF.out)))⟩
    · have c0 : W1.cell? ⟨g, 21, none⟩ = some (.int .i64 1) := cell_of_heap HG.out rfl
      have c1 : W1.cell? ⟨g, 22, none⟩ = some (.int .i64 5) := cell_of_heap HG.out rfl
      have c2 : W1.cell? ⟨g, 23, none⟩ = some (.bool true) := cell_of_heap HG.out rfl
      go_wp2
      exact bodyPost_ret (v := .agg #[.int .i64 1, .int .i64 5, .bool true]) (by simp [results, Try.results25, go_sem]; go_simp) rfl ⟨rfl, by (repeat (first | (with_reducible refine Fr.setCell ?_ (fun h => absurd h (Nat.lt_irrefl _)) _) | (with_reducible refine Fr.setCell ?_ (fun h => absurd h (by first | omega | (simp; done) | (simp; omega) | (dsimp only; omega))) _) | (with_reducible refine Fr.alloc ?_ _) | (with_reducible refine Fr.drew ?_) | (with_reducible refine Fr.drewN ?_ _) | (with_reducible exact HF.out)))⟩
    · have c0 : W1.cell? ⟨g, 24, none⟩ = some (.int .i64 1) := cell_of_heap HG.out rfl
      have c1 : W1.cell? ⟨g, 25, none⟩ = some (.int .i64 1) := cell_of_heap HG.out rfl
      have c2 : W1.cell? ⟨g, 26, none⟩ = some (.bool false) := cell_of_heap HG.out rfl
      go_wp2
      exact bodyPost_ret (v := .agg #[.int .i64 1, .int .i64 1, .bool false]) (by simp [results, Try.results25, go_sem]; go_simp) rfl ⟨rfl, by (repeat (first | (with_reducible refine Fr.setCell ?_ (fun h => absurd h (Nat.lt_irrefl _)) _) | (with_reducible refine Fr.setCell ?_ (fun h => absurd h (by first | omega | (simp; done) | (simp; omega) | (dsimp only; omega))) _) | (with_reducible refine Fr.alloc ?_ _) | (with_reducible refine Fr.drew ?_) | (with_reducible refine Fr.drewN ?_ _) | (with_reducible exact HF.out)))⟩
    · have c0 : W1.cell? ⟨g, 27, none⟩ = some (.int .i64 0) := cell_of_heap HG.out rfl
      have c1 : W1.cell? ⟨g, 28, none⟩ = some (.int .i64 0) := cell_of_heap HG.out rfl
      have c2 : W1.cell? ⟨g, 29, none⟩ = some (.bool false) := cell_of_heap HG.out rfl
      go_wp2
      exact bodyPost_ret (v := .agg #[.int .i64 0, .int .i64 0, .bool false]) (by simp [results, Try.results25, go_sem]; go_simp) rfl ⟨rfl, by (repeat (first | (with_reducible refine Fr.setCell ?_ (fun h => absurd h (Nat.lt_irrefl _)) _) | (with_reducible refine Fr.setCell ?_ (fun h => absurd h (by first | omega | (simp; done) | (simp; omega) | (dsimp only; omega))) _) | (with_reducible refine Fr.alloc ?_ _) | (with_reducible refine Fr.drew ?_) | (with_reducible refine Fr.drewN ?_ _) | (with_reducible exact HF.out)))⟩
end Go.Proofs.Ytcdpgchkdjjfgaa
