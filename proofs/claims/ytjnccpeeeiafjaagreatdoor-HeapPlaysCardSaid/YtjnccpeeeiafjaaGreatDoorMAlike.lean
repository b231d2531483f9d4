/- alike: both heaps hold the same. -/
import Derived.Test.YtjnccpeeeiafjaaGreatDoorMSnap
namespace Go.Proofs.YtjnccpeeeiafjaaGreatDoor
open Go.RowKit

theorem refs_same {l : List RO} {os : List Ob} {p : Nat} (h : RAgree p l os) : refsI l = (startsOf p os).map (fun q : Nat => 2 * (q : Int)) := by
  induction l generalizing p os with
  | nil => cases os with | nil => rfl | cons => exact h.elim
  | cons r l ih =>
    cases os with
    | nil => exact h.elim
    | cons o os =>
      simp only [refsI, List.map_cons, startsOf, List.cons.injEq]
      exact ⟨by rw [h.2.1], ih h.2.2⟩
set_option maxRecDepth 100000 in
set_option maxHeartbeats 8000000 in
theorem alike_true {w0 W : World} {X : List (Nat × Obj)} {hb mb rb : Nat} {lim : Int} (hP : Pair w0 X hb mb rb lim W) :
    Calls Tryz.prog 14 #[.pointer (some ⟨hb, 0, none⟩), .pointer (some ⟨rb, 0, none⟩)] W (Still (.bool true) W) := by
  obtain ⟨os, l, root, hashes, hI, ha, hT⟩ := hP
  obtain ⟨wv, sv, lv, -, hH, hR, hF0, h1, h2, -⟩ := hT
  have hfit := hI.fit
  have hl2 := hI.l2
  have hlen : os.length ≤ 65536 := by have := len_end os; omega
  have atH : ∀ W', Fr [] W W' → HeapAt W' hb mb (absMem lim os root hashes) wv sv := fun W' hF => hH.fr hF (by simp) (fun _ _ => by simp)
  have HWO : Hid (∀ W', Fr [] W W' → Calls Tryz.prog 57 #[.pointer (some ⟨hb, 0, none⟩)] W' (Still (.int .i64 lim) W')) := Lib.hid fun W' hF => words_still (memory_at (atH W' hF))
  have HUS : Hid (∀ W', Fr [] W W' → Calls Tryz.prog 35 #[.pointer (some ⟨hb, 0, none⟩)] W' (Still (.int .i64 (endOf os : Nat)) W')) := Lib.hid fun W' hF => by have := used_still (memory_at (atH W' hF)); rw [(absMem_len _ _ _ _).1] at this; exact this
  have HRU : Hid (∀ W', Fr [] W W' → Calls Tryz.prog 36 #[.pointer (some ⟨rb, 0, none⟩)] W' (Still (.int .i64 (endOf os : Nat)) W')) := Lib.hid fun W' hF => (rused (hR.fr0 hF)).mono fun e w' ⟨he, m, hm⟩ => ⟨by rw [he, show usedR (RH.mk lim l root hashes).l = endOf os from agree_used ha], by rw [hm]; exact (Fr.refl _ _).drewN _⟩
  have HRT : Hid (∀ W', Fr [] W W' → Calls Tryz.prog 34 #[.pointer (some ⟨hb, 0, none⟩)] W' (Still (.int .u64 root) W')) := Lib.hid fun W' hF => root_still (memory_at (atH W' hF))
  have HHA : Hid (∀ W', Fr [] W W' → Calls Tryz.prog 19 #[.pointer (some ⟨hb, 0, none⟩)] W' (Still (.int .i64 hashes) W')) := Lib.hid fun W' hF => hashes_still (memory_at (atH W' hF))
  have HOB : Hid (∀ W', Fr [] W W' → Calls Tryz.prog 17 #[.pointer (some ⟨hb, 0, none⟩)] W' fun e W2 => ∃ oa oc, e = .returned (.slice oa (refsO os).length oc) ∧ WordsAt W2 oa (refsO os) ∧ Fr [] W' W2) := Lib.hid fun W' hF => (objects_at (w := w0) hI ⟨wv, sv, atH W' hF, hF0.trans hF, h1, h2⟩).mono fun e W2 ⟨oa, oc, he, hw, hF2, _⟩ => ⟨oa, oc, he, hw, hF2⟩
  have hrs : refsI l = refsO os := refs_same ha
  have HRO : Hid (∀ W', Fr [] W W' → Calls Tryz.prog 42 #[.pointer (some ⟨rb, 0, none⟩)] W' fun e W2 => ∃ oa oc, e = .returned (.slice oa (refsO os).length oc) ∧ WordsAt W2 oa (refsO os) ∧ Fr [] W' W2) := Lib.hid fun W' hF => by have := robjs (hR.fr0 hF); rw [show refsI (RH.mk lim l root hashes).l = refsO os from hrs] at this; exact this
  have HSW : Hid (∀ W' oa oc ra rc, WordsAt W' oa (refsO os) → WordsAt W' ra (refsO os) → Calls Tryz.prog 31 #[.slice oa (refsO os).length oc, .slice ra (refsO os).length rc] W' (Still (.bool true) W')) := Lib.hid fun W' oa oc ra rc h1 h2 => (sameWords (refsO os) (refsO os) h1 h2 (by rw [refsO_len]; omega)).mono fun e w' ⟨he, m, hm⟩ => ⟨by rw [he]; simp, by rw [hm]; exact (Fr.refl _ _).drewN _⟩
  have HDU : Hid (∀ W', Fr [] W W' → Calls Tryz.prog 16 #[.pointer (some ⟨hb, 0, none⟩)] W' fun e W1 => ∃ va vc its, e = .returned (.slice va its.length vc) ∧ RowAt W1 va (flat3 its) ∧ obsOf its = os ∧ (∀ o ∈ its, ItOwn W1 o) ∧ Fr [] W' W1 ∧ ∀ o ∈ its, ∀ b, o.fv.ownBlock = some b → W'.heap.size ≤ b) := Lib.hid fun W' hF => snap_at hI (atH W' hF)
  have HRD : Hid (∀ W', Fr [] W W' → Calls Tryz.prog 33 #[.pointer (some ⟨rb, 0, none⟩)] W' fun e W1 => ∃ ka kc kts, e = .returned (.slice ka kts.length kc) ∧ RowAt W1 ka (flat4 kts) ∧ (∀ o ∈ kts, ItOk W1 o.1) ∧ kts.map (fun o => o.1.key) = os ∧ Fr [] W' W1) := by
    refine Lib.hid fun W' hF => (rdump (hR.fr0 hF)).mono ?_
    rintro e W1 ⟨v, kts, rfl, hD⟩
    have hl : l.length = kts.length := by have := congrArg List.length hD.keys; simpa [keys4, keysR] using this.symm
    have hr' : W1.ownsRow 0 57 4 v kts.length (flat4 kts) := by rw [← hl]; exact hD.gr.row
    obtain ⟨ka, kc, rfl⟩ := row_shape' hr'
    refine ⟨ka, kc, kts, rfl, row_rowAt hr', fun o ho => (hD.own o ho).ok, ?_, hD.gr.fr⟩
    have := congrArg (List.map Prod.fst) hD.keys
    simp only [keys4, keysR, List.map_map] at this
    rw [← ROB ha]
    exact this
  have c0 : W.cell? ⟨rb, 0, none⟩ = some (.int .i64 lim) := cell_of_heap hR.heap rfl
  have c2 : W.cell? ⟨rb, 2, none⟩ = some (.int .u64 root) := cell_of_heap hR.heap rfl
  have c3 : W.cell? ⟨rb, 3, none⟩ = some (.int .i64 hashes) := cell_of_heap hR.heap rfl
  have hmx : Tryz.prog.follows .mixedOrders = true := by kernel_rfl
  clear hI ha hH hR hF0 h1 h2 atH hrs hfit hl2
  generalize hns : (refsO os).length = ns at *
  clear hns
  go_enter Tryz.func14, Tryz.ntmps14
  go_wp2_with fail
  refine Code.wp_mono Norm.imp (wp_region_held_drew (S := fun w' => w'.cell? ⟨rb, 0, none⟩ = some (.int .i64 lim) ∧ w'.cell? ⟨rb, 2, none⟩ = some (.int .u64 root) ∧ w'.cell? ⟨rb, 3, none⟩ = some (.int .i64 hashes)) hmx ⟨c0, c2, c3⟩ (fun hHeld => ?_))
  (refine wpAnyH_take (i := 0) (oi := ⟨some 5, _, _, _, _, _⟩) (v := ?_) rfl (by kernel_rfl) (by kernel_rfl) (by kernel_rfl) (fun _ _ _ h => h) (Or.inl ⟨by rfl, ?_⟩) (by assumption) ?_); rotate_left; focus (intro w hSw; (try dsimp only at hSw); go_split_ands; go_simp; try with_reducible rfl); (try simp only [Act.put, List.setIfInBounds_toArray, List.set_cons_zero, List.set_cons_succ])
  (refine wpAnyH_take (i := 2) (oi := ⟨some 7, _, _, _, _, _⟩) (v := ?_) rfl (by kernel_rfl) (by kernel_rfl) (by kernel_rfl) (fun _ _ _ h => h) (Or.inl ⟨by rfl, ?_⟩) (by assumption) ?_); rotate_left; focus (intro w hSw; (try dsimp only at hSw); go_split_ands; go_simp; try with_reducible rfl); (try simp only [Act.put, List.setIfInBounds_toArray, List.set_cons_zero, List.set_cons_succ])
  (refine wpAnyH_take (i := 3) (oi := ⟨some 8, _, _, _, _, _⟩) (v := ?_) rfl (by kernel_rfl) (by kernel_rfl) (by kernel_rfl) (fun _ _ _ h => h) (Or.inl ⟨by rfl, ?_⟩) (by assumption) ?_); rotate_left; focus (intro w hSw; (try dsimp only at hSw); go_split_ands; go_simp; try with_reducible rfl); (try simp only [Act.put, List.setIfInBounds_toArray, List.set_cons_zero, List.set_cons_succ])
  (refine wpAnyH_take (i := 4) (oi := ⟨some 9, _, _, _, _, _⟩) (v := ?_) rfl (by kernel_rfl) (by kernel_rfl) (by kernel_rfl) (fun _ _ _ h => h) (Or.inl ⟨by rfl, ?_⟩) (by assumption) ?_); rotate_left; focus (intro w hSw; (try dsimp only at hSw); go_split_ands; go_simp; try with_reducible rfl); (try simp only [Act.put, List.setIfInBounds_toArray, List.set_cons_zero, List.set_cons_succ])
  (refine wpAnyH_take (i := 5) (oi := ⟨some 10, _, _, _, _, _⟩) (v := ?_) rfl (by kernel_rfl) (by kernel_rfl) (by kernel_rfl) (fun _ _ _ h => h) (Or.inl ⟨by rfl, ?_⟩) (by assumption) ?_); rotate_left; focus (intro w hSw; (try dsimp only at hSw); go_split_ands; go_simp; try with_reducible rfl); (try simp only [Act.put, List.setIfInBounds_toArray, List.set_cons_zero, List.set_cons_succ])
  (refine wpAnyH_ready (rs := [1]) (by kernel_rfl) (by simp) ?_; refine AllReadyH.cons rfl (fun K hK => ?_) AllReadyH.nil); go_simp
  refine (HWO.out _ ((Fr.refl _ _).drew)).mono ?_
  rintro e w1 ⟨rfl, hF1⟩
  have HF1 : Hid (Fr [] W w1) := ((Fr.refl _ _).drew).trans hF1
  refine hK.out _ _ ⟨HF1.out.cell (by simp) c0, HF1.out.cell (by simp) c2, HF1.out.cell (by simp) c3⟩ (fun hHeld1 => ?_)
  clear hK hF1
  (refine wpAnyH_take (i := 6) (oi := ⟨some 11, _, _, _, _, _⟩) (v := ?_) rfl (by kernel_rfl) (by kernel_rfl) (by kernel_rfl) (fun _ _ _ h => h) (Or.inl ⟨by rfl, ?_⟩) (by assumption) ?_); rotate_left; focus (intro w hSw; (try dsimp only at hSw); go_split_ands; go_simp; try with_reducible rfl); (try simp only [Act.put, List.setIfInBounds_toArray, List.set_cons_zero, List.set_cons_succ])
  (refine wpAnyH_take (i := 7) (oi := ⟨some 12, _, _, _, _, _⟩) (v := ?_) rfl (by kernel_rfl) (by kernel_rfl) (by kernel_rfl) (fun _ _ _ h => h) (Or.inl ⟨by rfl, ?_⟩) (by assumption) ?_); rotate_left; focus (intro w hSw; (try dsimp only at hSw); go_split_ands; go_simp; try with_reducible rfl); (try simp only [Act.put, List.setIfInBounds_toArray, List.set_cons_zero, List.set_cons_succ])
  (refine wpAnyH_take (i := 8) (oi := ⟨some 13, _, _, _, _, _⟩) (v := ?_) rfl (by kernel_rfl) (by kernel_rfl) (by kernel_rfl) (fun _ _ _ h => h) (Or.inl ⟨by rfl, ?_⟩) (by assumption) ?_); rotate_left; focus (intro w hSw; (try dsimp only at hSw); go_split_ands; go_simp; try with_reducible rfl); (try simp only [Act.put, List.setIfInBounds_toArray, List.set_cons_zero, List.set_cons_succ])
  (refine wpAnyH_take (i := 10) (oi := ⟨some 15, _, _, _, _, _⟩) (v := ?_) rfl (by kernel_rfl) (by kernel_rfl) (by kernel_rfl) (fun _ _ _ h => h) (Or.inl ⟨by rfl, ?_⟩) (by assumption) ?_); rotate_left; focus (intro w hSw; (try dsimp only at hSw); go_split_ands; go_simp; try with_reducible rfl); (try simp only [Act.put, List.setIfInBounds_toArray, List.set_cons_zero, List.set_cons_succ])
  (refine wpAnyH_ready (rs := [9]) (by kernel_rfl) (by simp) ?_; refine AllReadyH.cons rfl (fun K hK => ?_) AllReadyH.nil); go_simp
  refine (HUS.out _ HF1.out).mono ?_
  rintro e w2 ⟨rfl, hF2⟩
  have HF2 : Hid (Fr [] W w2) := HF1.out.trans hF2
  refine hK.out _ _ ⟨HF2.out.cell (by simp) c0, HF2.out.cell (by simp) c2, HF2.out.cell (by simp) c3⟩ (fun hHeld2 => ?_)
  clear hK hF2
  (refine wpAnyH_ready (rs := [11]) (by kernel_rfl) (by simp) ?_; refine AllReadyH.cons rfl (fun K hK => ?_) AllReadyH.nil); go_simp
  refine (HRU.out _ HF2.out).mono ?_
  rintro e w3 ⟨rfl, hF3⟩
  have HF3 : Hid (Fr [] W w3) := HF2.out.trans hF3
  refine hK.out _ _ ⟨HF3.out.cell (by simp) c0, HF3.out.cell (by simp) c2, HF3.out.cell (by simp) c3⟩ (fun hHeld3 => ?_)
  clear hK hF3
  (refine wpAnyH_take (i := 12) (oi := ⟨some 17, _, _, _, _, _⟩) (v := ?_) rfl (by kernel_rfl) (by kernel_rfl) (by kernel_rfl) (fun _ _ _ h => h) (Or.inl ⟨by rfl, ?_⟩) (by assumption) ?_); rotate_left; focus (intro w hSw; (try dsimp only at hSw); go_split_ands; go_simp; try with_reducible rfl); (try simp only [Act.put, List.setIfInBounds_toArray, List.set_cons_zero, List.set_cons_succ])
  (refine wpAnyH_take (i := 13) (oi := ⟨some 18, _, _, _, _, _⟩) (v := ?_) rfl (by kernel_rfl) (by kernel_rfl) (by kernel_rfl) (fun _ _ _ h => h) (Or.inl ⟨by rfl, ?_⟩) (by assumption) ?_); rotate_left; focus (intro w hSw; (try dsimp only at hSw); go_split_ands; go_simp; try with_reducible rfl); (try simp only [Act.put, List.setIfInBounds_toArray, List.set_cons_zero, List.set_cons_succ])
  (refine wpAnyH_take (i := 14) (oi := ⟨some 19, _, _, _, _, _⟩) (v := ?_) rfl (by kernel_rfl) (by kernel_rfl) (by kernel_rfl) (fun _ _ _ h => h) (Or.inl ⟨by rfl, ?_⟩) (by assumption) ?_); rotate_left; focus (intro w hSw; (try dsimp only at hSw); go_split_ands; go_simp; try with_reducible rfl); (try simp only [Act.put, List.setIfInBounds_toArray, List.set_cons_zero, List.set_cons_succ])
  (refine wpAnyH_take (i := 15) (oi := ⟨some 20, _, _, _, _, _⟩) (v := ?_) rfl (by kernel_rfl) (by kernel_rfl) (by kernel_rfl) (fun _ _ _ h => h) (Or.inl ⟨by rfl, ?_⟩) (by assumption) ?_); rotate_left; focus (intro w hSw; (try dsimp only at hSw); go_split_ands; go_simp; try with_reducible rfl); (try simp only [Act.put, List.setIfInBounds_toArray, List.set_cons_zero, List.set_cons_succ])
  (refine wpAnyH_take (i := 17) (oi := ⟨some 22, _, _, _, _, _⟩) (v := ?_) rfl (by kernel_rfl) (by kernel_rfl) (by kernel_rfl) (fun _ _ _ h => h) (Or.inl ⟨by rfl, ?_⟩) (by assumption) ?_); rotate_left; focus (intro w hSw; (try dsimp only at hSw); go_split_ands; go_simp; try with_reducible rfl); (try simp only [Act.put, List.setIfInBounds_toArray, List.set_cons_zero, List.set_cons_succ])
  (refine wpAnyH_take (i := 18) (oi := ⟨some 23, _, _, _, _, _⟩) (v := ?_) rfl (by kernel_rfl) (by kernel_rfl) (by kernel_rfl) (fun _ _ _ h => h) (Or.inl ⟨by rfl, ?_⟩) (by assumption) ?_); rotate_left; focus (intro w hSw; (try dsimp only at hSw); go_split_ands; go_simp; try with_reducible rfl); (try simp only [Act.put, List.setIfInBounds_toArray, List.set_cons_zero, List.set_cons_succ])
  (refine wpAnyH_take (i := 19) (oi := ⟨some 24, _, _, _, _, _⟩) (v := ?_) rfl (by kernel_rfl) (by kernel_rfl) (by kernel_rfl) (fun _ _ _ h => h) (Or.inl ⟨by rfl, ?_⟩) (by assumption) ?_); rotate_left; focus (intro w hSw; (try dsimp only at hSw); go_split_ands; go_simp; try with_reducible rfl); (try simp only [Act.put, List.setIfInBounds_toArray, List.set_cons_zero, List.set_cons_succ])
  (refine wpAnyH_take (i := 20) (oi := ⟨some 25, _, _, _, _, _⟩) (v := ?_) rfl (by kernel_rfl) (by kernel_rfl) (by kernel_rfl) (fun _ _ _ h => h) (Or.inl ⟨by rfl, ?_⟩) (by assumption) ?_); rotate_left; focus (intro w hSw; (try dsimp only at hSw); go_split_ands; go_simp; try with_reducible rfl); (try simp only [Act.put, List.setIfInBounds_toArray, List.set_cons_zero, List.set_cons_succ])
  (refine wpAnyH_ready (rs := [16]) (by kernel_rfl) (by simp) ?_; refine AllReadyH.cons rfl (fun K hK => ?_) AllReadyH.nil); go_simp
  refine (HRT.out _ HF3.out).mono ?_
  rintro e w4 ⟨rfl, hF4⟩
  have HF4 : Hid (Fr [] W w4) := HF3.out.trans hF4
  refine hK.out _ _ ⟨HF4.out.cell (by simp) c0, HF4.out.cell (by simp) c2, HF4.out.cell (by simp) c3⟩ (fun hHeld4 => ?_)
  clear hK hF4
  (refine wpAnyH_take (i := 21) (oi := ⟨some 26, _, _, _, _, _⟩) (v := ?_) rfl (by kernel_rfl) (by kernel_rfl) (by kernel_rfl) (fun _ _ _ h => h) (Or.inl ⟨by rfl, ?_⟩) (by assumption) ?_); rotate_left; focus (intro w hSw; (try dsimp only at hSw); go_split_ands; go_simp; try with_reducible rfl); (try simp only [Act.put, List.setIfInBounds_toArray, List.set_cons_zero, List.set_cons_succ])
  (refine wpAnyH_take (i := 22) (oi := ⟨some 27, _, _, _, _, _⟩) (v := ?_) rfl (by kernel_rfl) (by kernel_rfl) (by kernel_rfl) (fun _ _ _ h => h) (Or.inl ⟨by rfl, ?_⟩) (by assumption) ?_); rotate_left; focus (intro w hSw; (try dsimp only at hSw); go_split_ands; go_simp; try with_reducible rfl); (try simp only [Act.put, List.setIfInBounds_toArray, List.set_cons_zero, List.set_cons_succ])
  (refine wpAnyH_take (i := 23) (oi := ⟨some 28, _, _, _, _, _⟩) (v := ?_) rfl (by kernel_rfl) (by kernel_rfl) (by kernel_rfl) (fun _ _ _ h => h) (Or.inl ⟨by rfl, ?_⟩) (by assumption) ?_); rotate_left; focus (intro w hSw; (try dsimp only at hSw); go_split_ands; go_simp; try with_reducible rfl); (try simp only [Act.put, List.setIfInBounds_toArray, List.set_cons_zero, List.set_cons_succ])
  (refine wpAnyH_take (i := 24) (oi := ⟨some 29, _, _, _, _, _⟩) (v := ?_) rfl (by kernel_rfl) (by kernel_rfl) (by kernel_rfl) (fun _ _ _ h => h) (Or.inl ⟨by rfl, ?_⟩) (by assumption) ?_); rotate_left; focus (intro w hSw; (try dsimp only at hSw); go_split_ands; go_simp; try with_reducible rfl); (try simp only [Act.put, List.setIfInBounds_toArray, List.set_cons_zero, List.set_cons_succ])
  (refine wpAnyH_take (i := 26) (oi := ⟨some 31, _, _, _, _, _⟩) (v := ?_) rfl (by kernel_rfl) (by kernel_rfl) (by kernel_rfl) (fun _ _ _ h => h) (Or.inl ⟨by rfl, ?_⟩) (by assumption) ?_); rotate_left; focus (intro w hSw; (try dsimp only at hSw); go_split_ands; go_simp; try with_reducible rfl); (try simp only [Act.put, List.setIfInBounds_toArray, List.set_cons_zero, List.set_cons_succ])
  (refine wpAnyH_take (i := 27) (oi := ⟨some 32, _, _, _, _, _⟩) (v := ?_) rfl (by kernel_rfl) (by kernel_rfl) (by kernel_rfl) (fun _ _ _ h => h) (Or.inl ⟨by rfl, ?_⟩) (by assumption) ?_); rotate_left; focus (intro w hSw; (try dsimp only at hSw); go_split_ands; go_simp; try with_reducible rfl); (try simp only [Act.put, List.setIfInBounds_toArray, List.set_cons_zero, List.set_cons_succ])
  (refine wpAnyH_take (i := 28) (oi := ⟨some 33, _, _, _, _, _⟩) (v := ?_) rfl (by kernel_rfl) (by kernel_rfl) (by kernel_rfl) (fun _ _ _ h => h) (Or.inl ⟨by rfl, ?_⟩) (by assumption) ?_); rotate_left; focus (intro w hSw; (try dsimp only at hSw); go_split_ands; go_simp; try with_reducible rfl); (try simp only [Act.put, List.setIfInBounds_toArray, List.set_cons_zero, List.set_cons_succ])
  (refine wpAnyH_take (i := 29) (oi := ⟨some 34, _, _, _, _, _⟩) (v := ?_) rfl (by kernel_rfl) (by kernel_rfl) (by kernel_rfl) (fun _ _ _ h => h) (Or.inl ⟨by rfl, ?_⟩) (by assumption) ?_); rotate_left; focus (intro w hSw; (try dsimp only at hSw); go_split_ands; go_simp; try with_reducible rfl); (try simp only [Act.put, List.setIfInBounds_toArray, List.set_cons_zero, List.set_cons_succ])
  (refine wpAnyH_ready (rs := [25]) (by kernel_rfl) (by simp) ?_; refine AllReadyH.cons rfl (fun K hK => ?_) AllReadyH.nil); go_simp
  refine (HHA.out _ HF4.out).mono ?_
  rintro e w5 ⟨rfl, hF5⟩
  have HF5 : Hid (Fr [] W w5) := HF4.out.trans hF5
  refine hK.out _ _ ⟨HF5.out.cell (by simp) c0, HF5.out.cell (by simp) c2, HF5.out.cell (by simp) c3⟩ (fun hHeld5 => ?_)
  clear hK hF5
  (refine wpAnyH_take (i := 30) (oi := ⟨some 35, _, _, _, _, _⟩) (v := ?_) rfl (by kernel_rfl) (by kernel_rfl) (by kernel_rfl) (fun _ _ _ h => h) (Or.inl ⟨by rfl, ?_⟩) (by assumption) ?_); rotate_left; focus (intro w hSw; (try dsimp only at hSw); go_split_ands; go_simp; try with_reducible rfl); (try simp only [Act.put, List.setIfInBounds_toArray, List.set_cons_zero, List.set_cons_succ])
  (refine wpAnyH_take (i := 31) (oi := ⟨some 36, _, _, _, _, _⟩) (v := ?_) rfl (by kernel_rfl) (by kernel_rfl) (by kernel_rfl) (fun _ _ _ h => h) (Or.inl ⟨by rfl, ?_⟩) (by assumption) ?_); rotate_left; focus (intro w hSw; (try dsimp only at hSw); go_split_ands; go_simp; try with_reducible rfl); (try simp only [Act.put, List.setIfInBounds_toArray, List.set_cons_zero, List.set_cons_succ])
  (refine wpAnyH_take (i := 32) (oi := ⟨some 37, _, _, _, _, _⟩) (v := ?_) rfl (by kernel_rfl) (by kernel_rfl) (by kernel_rfl) (fun _ _ _ h => h) (Or.inl ⟨by rfl, ?_⟩) (by assumption) ?_); rotate_left; focus (intro w hSw; (try dsimp only at hSw); go_split_ands; go_simp; try with_reducible rfl); (try simp only [Act.put, List.setIfInBounds_toArray, List.set_cons_zero, List.set_cons_succ])
  (refine wpAnyH_take (i := 33) (oi := ⟨some 38, _, _, _, _, _⟩) (v := ?_) rfl (by kernel_rfl) (by kernel_rfl) (by kernel_rfl) (fun _ _ _ h => h) (Or.inl ⟨by rfl, ?_⟩) (by assumption) ?_); rotate_left; focus (intro w hSw; (try dsimp only at hSw); go_split_ands; go_simp; try with_reducible rfl); (try simp only [Act.put, List.setIfInBounds_toArray, List.set_cons_zero, List.set_cons_succ])
  (refine wpAnyH_take (i := 35) (oi := ⟨some 40, _, _, _, _, _⟩) (v := ?_) rfl (by kernel_rfl) (by kernel_rfl) (by kernel_rfl) (fun _ _ _ h => h) (Or.inl ⟨by rfl, ?_⟩) (by assumption) ?_); rotate_left; focus (intro w hSw; (try dsimp only at hSw); go_split_ands; go_simp; try with_reducible rfl); (try simp only [Act.put, List.setIfInBounds_toArray, List.set_cons_zero, List.set_cons_succ])
  (refine wpAnyH_ready (rs := [34]) (by kernel_rfl) (by simp) ?_; refine AllReadyH.cons rfl (fun K hK => ?_) AllReadyH.nil); go_simp
  refine (HOB.out _ HF5.out).mono ?_
  rintro e w6 ⟨oa, oc, rfl, hw6, hF6⟩
  have HF6 : Hid (Fr [] W w6) := HF5.out.trans hF6
  have HW6 := Lib.hid hw6
  refine hK.out _ _ ⟨HF6.out.cell (by simp) c0, HF6.out.cell (by simp) c2, HF6.out.cell (by simp) c3⟩ (fun hHeld6 => ?_)
  clear hK hF6 hw6
  (refine wpAnyH_ready (rs := [36]) (by kernel_rfl) (by simp) ?_; refine AllReadyH.cons rfl (fun K hK => ?_) AllReadyH.nil); go_simp
  refine (HRO.out _ HF6.out).mono ?_
  rintro e w7 ⟨ra, rc, rfl, hw7, hF7⟩
  have HF7 : Hid (Fr [] W w7) := HF6.out.trans hF7
  have HW7 := Lib.hid hw7
  have hsw := HSW.out w7 oa oc ra rc (HW6.out.fr hF7 (fun _ _ => by simp)) hw7
  refine hK.out _ _ ⟨HF7.out.cell (by simp) c0, HF7.out.cell (by simp) c2, HF7.out.cell (by simp) c3⟩ (fun hHeld7 => ?_)
  clear hK hF7 hw7
  (refine wpAnyH_ready (rs := [37]) (by kernel_rfl) (by simp) ?_; refine AllReadyH.cons rfl (fun K hK => ?_) AllReadyH.nil); go_simp
  refine hsw.mono ?_
  rintro e w8 ⟨rfl, hF8⟩
  have HF8 : Hid (Fr [] W w8) := HF7.out.trans hF8
  refine hK.out _ _ ⟨HF8.out.cell (by simp) c0, HF8.out.cell (by simp) c2, HF8.out.cell (by simp) c3⟩ (fun hHeld8 => ?_)
  clear hK hF8 hsw
  (refine wpAnyH_take (i := 38) (oi := ⟨some 43, _, _, _, _, _⟩) (v := ?_) rfl (by kernel_rfl) (by kernel_rfl) (by kernel_rfl) (fun _ _ _ h => h) (Or.inl ⟨by rfl, ?_⟩) (by assumption) ?_); rotate_left; focus (intro w hSw; (try dsimp only at hSw); go_split_ands; go_simp; try with_reducible rfl); (try simp only [Act.put, List.setIfInBounds_toArray, List.set_cons_zero, List.set_cons_succ])
  (refine wpAnyH_take (i := 39) (oi := ⟨some 44, _, _, _, _, _⟩) (v := ?_) rfl (by kernel_rfl) (by kernel_rfl) (by kernel_rfl) (fun _ _ _ h => h) (Or.inl ⟨by rfl, ?_⟩) (by assumption) ?_); rotate_left; focus (intro w hSw; (try dsimp only at hSw); go_split_ands; go_simp; try with_reducible rfl); (try simp only [Act.put, List.setIfInBounds_toArray, List.set_cons_zero, List.set_cons_succ])
  (refine wpAnyH_take (i := 40) (oi := ⟨some 45, _, _, _, _, _⟩) (v := ?_) rfl (by kernel_rfl) (by kernel_rfl) (by kernel_rfl) (fun _ _ _ h => h) (Or.inl ⟨by rfl, ?_⟩) (by assumption) ?_); rotate_left; focus (intro w hSw; (try dsimp only at hSw); go_split_ands; go_simp; try with_reducible rfl); (try simp only [Act.put, List.setIfInBounds_toArray, List.set_cons_zero, List.set_cons_succ])
  (refine wpAnyH_take (i := 43) (oi := ⟨some 48, _, _, _, _, _⟩) (v := ?_) rfl (by kernel_rfl) (by kernel_rfl) (by kernel_rfl) (fun _ _ _ h => h) (Or.inl ⟨by rfl, ?_⟩) (by assumption) ?_); rotate_left; focus (intro w hSw; (try dsimp only at hSw); go_split_ands; go_simp; try with_reducible rfl); (try simp only [Act.put, List.setIfInBounds_toArray, List.set_cons_zero, List.set_cons_succ])
  (refine wpAnyH_ready (rs := [41]) (by kernel_rfl) (by simp) ?_; refine AllReadyH.cons rfl (fun K hK => ?_) AllReadyH.nil); go_simp
  refine (HDU.out _ HF8.out).mono ?_
  rintro e w9 ⟨va, vc, its, rfl, hr9, ho9, hown9, hF9, -⟩
  have HF9 : Hid (Fr [] W w9) := HF8.out.trans hF9
  have hil : its.length ≤ 65536 := by have h1 : its.length = os.length := (by rw [← ho9]; simp [obsOf]); omega
  have hth := theirs_at (vc := vc) hr9 hown9 hil
  have HO9 := Lib.hid ho9
  refine hK.out _ _ ⟨HF9.out.cell (by simp) c0, HF9.out.cell (by simp) c2, HF9.out.cell (by simp) c3⟩ (fun hHeld9 => ?_)
  clear hK hF9 hr9 hown9 ho9
  (refine wpAnyH_ready (rs := [42]) (by kernel_rfl) (by simp) ?_; refine AllReadyH.cons rfl (fun K hK => ?_) AllReadyH.nil); go_simp
  refine hth.mono ?_
  rintro e wa ⟨ba, bc, rfl, -, hGa, hFa, -⟩
  have HFa : Hid (Fr [] W wa) := HF9.out.trans hFa
  have HGa := Lib.hid hGa
  refine hK.out _ _ ⟨HFa.out.cell (by simp) c0, HFa.out.cell (by simp) c2, HFa.out.cell (by simp) c3⟩ (fun hHeld10 => ?_)
  clear hK hFa hGa hth
  (refine wpAnyH_ready (rs := [44]) (by kernel_rfl) (by simp) ?_; refine AllReadyH.cons rfl (fun K hK => ?_) AllReadyH.nil); go_simp
  refine (HRD.out _ HFa.out).mono ?_
  rintro e wb ⟨ka, kc, kts, rfl, hkr, hko, hkk, hFb⟩
  have HFb : Hid (Fr [] W wb) := HFa.out.trans hFb
  have hso := sameObjects (ac := bc) (bc := kc) (noPlace its) kts (HGa.out.fr0 hFb).row hkr (HGa.out.fr0 hFb).ok hko (by rw [noPlace_len]; omega)
  rw [noPlace_keys, HO9.out, hkk, noPlace_len] at hso
  have hde : decide (os = os) = true := by simp
  rw [hde] at hso
  refine hK.out _ _ ⟨HFb.out.cell (by simp) c0, HFb.out.cell (by simp) c2, HFb.out.cell (by simp) c3⟩ (fun hHeld11 => ?_)
  clear hK hFb hkr hko hkk hde
  (refine wpAnyH_ready (rs := [45]) (by kernel_rfl) (by simp) ?_; refine AllReadyH.cons rfl (fun K hK => ?_) AllReadyH.nil); go_simp
  refine hso.mono ?_
  rintro e wc ⟨rfl, hdc⟩
  have HFc : Hid (Fr [] W wc) := by obtain ⟨m, rfl⟩ := hdc; exact HFb.out.drewN _
  refine hK.out _ _ ⟨HFc.out.cell (by simp) c0, HFc.out.cell (by simp) c2, HFc.out.cell (by simp) c3⟩ (fun hHeld12 => ?_)
  clear hK hdc hso
  (refine wpAnyH_take (i := 46) (oi := ⟨some 51, _, _, _, _, _⟩) (v := ?_) rfl (by kernel_rfl) (by kernel_rfl) (by kernel_rfl) (fun _ _ _ h => h) (Or.inl ⟨by rfl, ?_⟩) (by assumption) ?_); rotate_left; focus (intro w hSw; (try dsimp only at hSw); go_split_ands; go_simp; try with_reducible rfl); (try simp only [Act.put, List.setIfInBounds_toArray, List.set_cons_zero, List.set_cons_succ])
  (refine wpAnyH_take (i := 47) (oi := ⟨some 4, _, _, _, _, _⟩) (v := ?_) rfl (by kernel_rfl) (by kernel_rfl) (by kernel_rfl) (fun _ _ _ h => h) (Or.inl ⟨by rfl, ?_⟩) (by assumption) ?_); rotate_left; focus (intro w hSw; (try dsimp only at hSw); go_split_ands; go_simp; try with_reducible rfl); (try simp only [Act.put, List.setIfInBounds_toArray, List.set_cons_zero, List.set_cons_succ])
  refine wpAnyH_done (by kernel_rfl) (Norm.mk ?_) _
  go_wp2
  go_ret
  exact ⟨rfl, HFc.out⟩
end Go.Proofs.YtjnccpeeeiafjaaGreatDoor
