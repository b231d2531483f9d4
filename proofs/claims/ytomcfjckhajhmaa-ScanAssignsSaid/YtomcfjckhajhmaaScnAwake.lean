/- scan: the document's example. -/
import Derived.Test.YtomcfjckhajhmaaScnAsg
namespace Go.Proofs.Ytomcfjckhajhmaa
open Go.RowKit

theorem begLt_antisymm {a b : Iv} (h : begLt a b) (h2 : begLt b a) : a = b := (h.not h2).elim
/-- the same intervals, in whatever order: the same places -/
theorem Scanned.unique {L L' : List Iv} {r : Nat} {s s' : St} (h : Scanned L r s) (h' : Scanned L' r s') (hp : L.Perm L') : s = s' := by
  obtain ⟨S, p, so, ru⟩ := h
  obtain ⟨S', p', so', ru'⟩ := h'
  have e : S = S' := List.Perm.eq_of_pairwise (le := begLt) (fun a b _ _ => begLt_antisymm) so so' (p.trans (hp.trans p'.symm))
  subst e
  exact ru.det ru'
theorem Scanned.good {L : List Iv} {r : Nat} {s : St} (h : Scanned L r s) (nd : L.Pairwise (fun a b => a.v ≠ b.v)) : ∃ S : List Iv, S.Perm L ∧ GoodP S ∧ Run r S s := by
  obtain ⟨S, p, so, ru⟩ := h
  exact ⟨S, p, ⟨so, (p.pairwise_iff (fun h => h.symm)).2 nd⟩, ru⟩
def exL : List Iv := [⟨0, 0, 5⟩, ⟨1, 2, 3⟩, ⟨2, 4, 6⟩]
theorem exL_scan {s : St} (h : Scanned exL 1 s) : s.out 0 = (3, 0) ∧ s.out 1 = (0, 0) ∧ s.out 2 = (0, 0) ∧ s.cells = 1 := by
  have h1 : Run 1 [⟨0, 0, 5⟩] ⟨[some ⟨0, 0, 5⟩], updO (fun _ => (0, 0)) 0 (0, 0), 0⟩ := Run.snoc Run.nil (Step.free (s := startS 1) (i := ⟨0, 0, 5⟩) 0 rfl (fun k hk => by omega))
  have h2 : Run 1 [⟨0, 0, 5⟩, ⟨1, 2, 3⟩] ⟨[some ⟨1, 2, 3⟩], updO (updO (updO (fun _ => (0, 0)) 0 (0, 0)) 1 (0, 0)) 0 (3, 0), 1⟩ := Run.snoc h1 (Step.other (i := ⟨1, 2, 3⟩) 0 ⟨0, 0, 5⟩ (fun k hk => by
      have : k = 0 := by simp at hk; omega
      subst this
      exact ⟨_, rfl⟩) rfl (by unfold endLt; simp) (fun k y hk => by
      cases k with
      | zero => exact Or.inl rfl
      | succ k => simp [relH] at hk))
  have h3 : Run 1 exL ⟨[some ⟨2, 4, 6⟩], updO (updO (updO (updO (fun _ => (0, 0)) 0 (0, 0)) 1 (0, 0)) 0 (3, 0)) 2 (0, 0), 1⟩ := Run.snoc h2 (Step.free (i := ⟨2, 4, 6⟩) 0 rfl (fun k hk => by omega))
  have h4 : Scanned exL 1 _ := ⟨exL, List.Perm.refl _, by unfold exL begLt; simp, h3⟩
  have e := h.unique h4 (List.Perm.refl _)
  rw [e]
  refine ⟨?_, ?_, ?_, rfl⟩ <;> simp [updO]
theorem exL_ok : okL exL = true := by decide +kernel
/-- at an argument that came in or was made -/
theorem ivM_three {w : World} {g : Nat} {t : TypeId} (h : w.heap[g]? = some (.cells #[.int .i64 0, .int .i64 0, .int .i64 5, .int .i64 1, .int .i64 2, .int .i64 3, .int .i64 2, .int .i64 4, .int .i64 6] t (0, 0))) : IvM w (some ⟨g, 0, none⟩) exL := by
  intro k x hx
  match k, hx with
  | 0, hx => simp [exL] at hx; subst hx; exact ⟨g, 0, rfl, cell_of_heap h rfl, cell_of_heap h rfl, cell_of_heap h rfl⟩
  | 1, hx => simp [exL] at hx; subst hx; exact ⟨g, 0, rfl, cell_of_heap h rfl, cell_of_heap h rfl, cell_of_heap h rfl⟩
  | 2, hx => simp [exL] at hx; subst hx; exact ⟨g, 0, rfl, cell_of_heap h rfl, cell_of_heap h rfl, cell_of_heap h rfl⟩
  | k + 3, hx => simp [exL] at hx
set_option maxRecDepth 100000 in
set_option maxHeartbeats 4000000 in
theorem awake14 (w : World) : Calls Try.prog 9 #[] w (Still (.bool true) w) := by
  have HAS := Lib.hid (fun (W : World) (g : Nat) (h : W.heap[g]? = some (.cells #[.int .i64 0, .int .i64 0, .int .i64 5, .int .i64 1, .int .i64 2, .int .i64 3, .int .i64 2, .int .i64 4, .int .i64 6] 35 (0, 0))) => sc_Assign_yes (some ⟨g, 0, none⟩) 3 3 exL 1 W (ivM_three h) rfl (by omega) (by omega) exL_ok)
  go_enter Try.func9, Try.ntmps9
  go_wp2_with (go_at_call 10; refine (HAS.out _ _ (heap_new _ _)).mono ?_; rintro e w2 ⟨pb, s, cur, rfl, hF, hpb, hcu, hpc, hsc⟩; obtain ⟨o0, o1, o2, hce⟩ := exL_scan hsc; obtain ⟨p0, p1, p2⟩ := hpc.at_ 0 _ rfl; obtain ⟨p3, p4, p5⟩ := hpc.at_ 1 _ rfl; obtain ⟨p6, p7, p8⟩ := hpc.at_ 2 _ rfl; rw [o0] at p0 p1; rw [o1] at p3 p4; rw [o2] at p6 p7; have c0 := cell_of_heap hcu p0; have c1 := cell_of_heap hcu p1; have c2 := cell_of_heap hcu p2; have c3 := cell_of_heap hcu p3; have c4 := cell_of_heap hcu p4; have c5 := cell_of_heap hcu p5; have c6 := cell_of_heap hcu p6; have c7 := cell_of_heap hcu p7; have c8 := cell_of_heap hcu p8; rw [hce]; have HF := Lib.hid hF; clear hF hcu hpc hsc p0 p1 p2 p3 p4 p5 p6 p7 p8 o0 o1 o2 hce)
  go_ret
  exact ⟨rfl, ((Fr.refl _ _).alloc _).trans HF.out⟩
end Go.Proofs.Ytomcfjckhajhmaa
