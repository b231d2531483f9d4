/- scan: one interval is placed. -/
import Derived.Test.YtomcfjckhajhmaaScnRel
namespace Go.Proofs.Ytomcfjckhajhmaa
open Go.RowKit

theorem idx_from (H : List (Option Iv)) : ∀ i : Nat, (∃ q : Nat, Lib.idxByFrom (fun x y => x == y) false (H.map (fun o => o.isSome)) i = ((i + q : Nat) : Int) ∧ H[q]? = some none ∧ ∀ k, k < q → ∃ x, H[k]? = some (some x)) ∨ (Lib.idxByFrom (fun x y => x == y) false (H.map (fun o => o.isSome)) i = -1 ∧ ∀ k, k < H.length → ∃ x, H[k]? = some (some x)) := by
  induction H with
  | nil => exact fun _ => Or.inr ⟨rfl, fun k hk => by simp at hk⟩
  | cons o H ih =>
    intro i
    cases o with
    | none => exact Or.inl ⟨0, rfl, rfl, fun k hk => by omega⟩
    | some y =>
      have e : Lib.idxByFrom (fun x y => x == y) false ((some y :: H).map (fun o => o.isSome)) i = Lib.idxByFrom (fun x y => x == y) false (H.map (fun o => o.isSome)) (i + 1) := rfl
      rw [e]
      rcases ih (i + 1) with ⟨q, h1, h2, h3⟩ | ⟨h1, h2⟩
      · refine Or.inl ⟨q + 1, by rw [h1]; congr 1; omega, by simpa using h2, fun k hk => ?_⟩
        cases k with
        | zero => exact ⟨y, rfl⟩
        | succ k => obtain ⟨x, hx⟩ := h3 k (by omega); exact ⟨x, by simpa using hx⟩
      · refine Or.inr ⟨h1, fun k hk => ?_⟩
        cases k with
        | zero => exact ⟨y, rfl⟩
        | succ k => obtain ⟨x, hx⟩ := h2 k (by simpa using hk); exact ⟨x, by simpa using hx⟩
theorem idx_cases (H : List (Option Iv)) : (∃ q : Nat, Lib.idxBy (fun x y => x == y) (H.map (fun o => o.isSome)) false = (q : Int) ∧ H[q]? = some none ∧ ∀ k, k < q → ∃ x, H[k]? = some (some x)) ∨ (Lib.idxBy (fun x y => x == y) (H.map (fun o => o.isSome)) false = -1 ∧ ∀ k, k < H.length → ∃ x, H[k]? = some (some x)) := by
  have := idx_from H 0
  simpa [Lib.idxBy] using this
theorem updO_comm (g : Int → Nat × Nat) {a b : Int} (h : a ≠ b) (p q : Nat × Nat) : updO (updO g a p) b q = updO (updO g b q) a p := by
  funext x
  unfold updO
  (repeat' split) <;> first | rfl | omega
theorem PR.last {L : List Iv} {s : St} {hs : List Nat} (h : PR L s hs) {j k : Nat} {x : Iv} (hj : hs[j]? = some k) (hl : j + 1 = hs.length) (hk : L[k]? = some x) {q : Nat} (hq : s.hold[q]? = some (some x)) (q' : Nat) (y : Iv) (hq' : s.hold[q']? = some (some y)) : q' = q ∨ endLt y x := by
  obtain ⟨-, k', hk', hy⟩ := h.cov q' y hq'
  obtain ⟨a, ha, e⟩ := List.mem_iff_getElem.1 hk'
  have hj' := List.getElem?_eq_some_iff.1 hj
  by_cases e2 : a = j
  · subst e2
    have : k' = k := by rw [← e, ← hj'.2]
    subst this
    rw [hk] at hy
    cases hy
    exact Or.inl (h.inj hq' hq)
  · have := List.pairwise_iff_getElem.1 h.srt a j ha hj'.1 (by omega) y x (by rw [e]; exact hy) (by rw [hj'.2]; exact hk)
    exact Or.inr this
set_option maxRecDepth 100000 in
set_option maxHeartbeats 8000000 in
theorem sa_place {K : SK} {n : Nat} {s : St} {hs : List Nat} {hv : Value} {w : World} (h : AL K n s hs hv w) (hL : IvM K.w0 K.la K.L) (hn : K.L.length = n) (nd : K.L.Pairwise (fun a b => a.v ≠ b.v)) (hnn : n < 1099511627776 * 8) (hr : 1 ≤ K.r ∧ K.r ≤ 8) (hc : s.cells ≤ n) {k : Nat} {i : Iv} (hk : K.L[k]? = some i) (hkn : k ∉ hs) :
    Calls Try.prog 15 #[.pointer (some ⟨K.b, 0, none⟩), .int .i64 k] w fun e w' => e = .returned (.tuple #[]) ∧ ∃ s' hs' hv', Step s i s' ∧ AL K n s' hs' hv' w' := by
  have HREL : Hid (∀ W, AL K n s hs hv W → Calls Try.prog 24 #[.pointer (some ⟨K.b, 0, none⟩), .int .i64 i.f] W fun e w' => e = .returned (.tuple #[]) ∧ ∃ hs' hv', (∀ k, k ∈ hs' → k ∈ hs) ∧ AL K n ⟨relH i.f s.hold, s.out, s.cells⟩ hs' hv' w') := Lib.hid fun W hA => sa_release hA hL hn nd hnn i.f
  have HOCC : Hid (∀ (s : St) (hs : List Nat) (hv : Value) (W : World) (q : Nat), AL K n s hs hv W → k ∉ hs → s.hold[q]? = some none → Calls Try.prog 26 #[.pointer (some ⟨K.b, 0, none⟩), .int .i64 k, .int .i64 q] W fun e w' => e = .returned (.tuple #[]) ∧ ∃ hs' hv', AL K n ⟨s.hold.set q (some i), updO s.out i.v (0, q), s.cells⟩ hs' hv' w') := Lib.hid fun s hs hv W q hA hkn hq => sa_occupy hA hL hn nd hnn hk hkn hq
  have HSP : Hid (∀ (s : St) (hs : List Nat) (hv : Value) (W : World) (k : Nat) (x : Iv), AL K n s hs hv W → K.L[k]? = some x → k ∉ hs → s.cells ≤ n → Calls Try.prog 28 #[.pointer (some ⟨K.b, 0, none⟩), .int .i64 k] W fun e w' => e = .returned (.tuple #[]) ∧ AL K n ⟨s.hold, updO s.out x.v (3, s.cells), s.cells + 1⟩ hs hv w') := Lib.hid fun s hs hv W k x hA hk hkn hc => sa_spill hA hn nd hk hkn (by omega)
  have HLV : Hid (∀ (s : St) (hs : List Nat) (hv : Value) (W : World) (j k q : Nat) (x : Iv), AL K n s hs hv W → hs[j]? = some k → K.L[k]? = some x → s.hold[q]? = some (some x) → Calls Try.prog 29 #[.pointer (some ⟨K.b, 0, none⟩), .int .i64 j] W fun e w' => e = .returned (.tuple #[]) ∧ ∃ hv', AL K n ⟨s.hold.set q none, s.out, s.cells⟩ (hs.eraseIdx j) hv' w') := Lib.hid fun s hs hv W j k q x hA hj hk hq => sa_leave hA hn nd hj hk hq
  have HFULL : Hid (∀ hs1 : List Nat, (∀ k', k' ∈ hs1 → k' ∈ hs) → k ∉ hs1) := Lib.hid fun hs1 h1 h2 => hkn (h1 k h2)
  have hrl := h.len
  obtain ⟨w0, la, lc, L, r, b, pb, tb⟩ := K
  dsimp only at hk hn nd hrl hr
  have hin : IvM w la L := hL.fr' h.fr h.nb
  obtain ⟨gl, ol, rfl, d0, d1, d2⟩ := hin k i hk
  have hkl : k < n := by rw [← hn]; exact (List.getElem?_eq_some_iff.1 hk).1
  have k0 : (0 : Int) ≤ (k : Int) := by omega
  have k1 : (k : Int) < (n : Int) := by omega
  have hbox := h.box
  dsimp only at hbox
  have c0 := cell_of_heap (o := 0) hbox rfl; have c1 := cell_of_heap (o := 1) hbox rfl; have c2 := cell_of_heap (o := 2) hbox rfl; have c3 := cell_of_heap (o := 3) hbox rfl; have c4 := cell_of_heap (o := 4) hbox rfl
  simp only [List.getElem_toArray, List.getElem_cons_zero, List.getElem_cons_succ] at c0 c1 c2 c3 c4
  have HA := Lib.hid h
  have HK := Lib.hid hk
  have HND := Lib.hid nd
  have HIV := Lib.hid hL
  have HN := Lib.hid hn
  have HRL := Lib.hid hrl
  have HC := Lib.hid hc
  clear h hk nd hL hn hin hkl hbox hrl hkn hc
  have HIX : Hid (∀ W : World, W.heap[tb]? = some (.cells (takenL (relH i.f s.hold)).toArray 4 (0, 0)) → Calls Try.prog 25 #[.slice (some ⟨tb, 0, none⟩) r r, .bool false] W (Gives (.int .i64 (Lib.idxBy (fun x y => x == y) ((relH i.f s.hold).map (fun o => o.isSome)) false)) W)) := Lib.hid fun W hW => by
    have h1 := sl_index hW (by rw [relH_len, HRL.out]; exact hr.2)
    rw [relH_len, HRL.out] at h1
    exact h1
  rcases idx_cases (relH i.f s.hold) with ⟨q, e1, e2, e3⟩ | ⟨e1, e2⟩
  · rw [e1] at HIX
    have HQ := Lib.hid e2
    have HQ3 := Lib.hid e3
    have q0 : (0 : Int) ≤ (q : Int) := by omega
    clear e1 e2 e3
    go_enter Try.func15, Try.ntmps15
    go_wp2_with (first
      | (go_at_call 24; refine (HREL.out _ (HA.out.still (by (repeat (first | (with_reducible refine Fr.setCell ?_ (fun h => absurd h (Nat.lt_irrefl _)) _) | (with_reducible refine Fr.setCell ?_ (fun h => absurd h (by first | omega | (simp; done) | (simp; omega) | (dsimp only; omega))) _) | (with_reducible refine Fr.alloc ?_ _) | (with_reducible refine Fr.drew ?_) | (with_reducible refine Fr.drewN ?_ _) | (with_reducible exact Fr.refl _ _)))))).mono ?_; rintro e w1 ⟨rfl, hs1, hv1, hm1, hA1⟩; have HA1 := Lib.hid hA1; have HM1 := Lib.hid hm1; have htk := Lib.hid hA1.tk; have hbx1 := hA1.box; dsimp only at hbx1; have y0 := cell_of_heap (o := 0) hbx1 rfl; have y1 := cell_of_heap (o := 1) hbx1 rfl; have y2 := cell_of_heap (o := 2) hbx1 rfl; have y3 := cell_of_heap (o := 3) hbx1 rfl; have y4 := cell_of_heap (o := 4) hbx1 rfl; simp only [List.getElem_toArray, List.getElem_cons_zero, List.getElem_cons_succ] at y0 y1 y2 y3 y4; clear hA1 hm1 hbx1)
      | (go_at_call 25; refine (HIX.out _ htk.out).mono ?_; rintro e w2 ⟨rfl, rfl⟩)
      | (go_at_call 26; refine (HOCC.out _ _ _ _ q (HA1.out.still (by (repeat (first | (with_reducible refine Fr.setCell ?_ (fun h => absurd h (Nat.lt_irrefl _)) _) | (with_reducible refine Fr.setCell ?_ (fun h => absurd h (by first | omega | (simp; done) | (simp; omega) | (dsimp only; omega))) _) | (with_reducible refine Fr.alloc ?_ _) | (with_reducible refine Fr.drew ?_) | (with_reducible refine Fr.drewN ?_ _) | (with_reducible exact Fr.refl _ _))))) (HFULL.out _ HM1.out) HQ.out).mono ?_; rintro e w3 ⟨rfl, hs3, hv3, hA3⟩; have HA3 := Lib.hid hA3; clear hA3))
    refine bodyPost_ret (results_none rfl _ _ _) rfl ⟨rfl, _, _, _, Step.free q HQ.out HQ3.out, HA3.out⟩
  · rw [e1] at HIX
    have HFL : Hid (∀ k, k < s.hold.length → ∃ x, (relH i.f s.hold)[k]? = some (some x)) := Lib.hid fun k hk => e2 k (by rw [relH_len]; exact hk)
    clear e1 e2
    go_enter Try.func15, Try.ntmps15
    go_wp2_with (first
      | (go_at_call 24; refine (HREL.out _ (HA.out.still (by (repeat (first | (with_reducible refine Fr.setCell ?_ (fun h => absurd h (Nat.lt_irrefl _)) _) | (with_reducible refine Fr.setCell ?_ (fun h => absurd h (by first | omega | (simp; done) | (simp; omega) | (dsimp only; omega))) _) | (with_reducible refine Fr.alloc ?_ _) | (with_reducible refine Fr.drew ?_) | (with_reducible refine Fr.drewN ?_ _) | (with_reducible exact Fr.refl _ _)))))).mono ?_; rintro e w1 ⟨rfl, hs1, hv1, hm1, hA1⟩; have HA1 := Lib.hid hA1; have HM1 := Lib.hid hm1; have htk := Lib.hid hA1.tk; have hbx1 := hA1.box; dsimp only at hbx1; have y0 := cell_of_heap (o := 0) hbx1 rfl; have y1 := cell_of_heap (o := 1) hbx1 rfl; have y2 := cell_of_heap (o := 2) hbx1 rfl; have y3 := cell_of_heap (o := 3) hbx1 rfl; have y4 := cell_of_heap (o := 4) hbx1 rfl; simp only [List.getElem_toArray, List.getElem_cons_zero, List.getElem_cons_succ] at y0 y1 y2 y3 y4; clear hA1 hm1 hbx1)
      | (go_at_call 25; refine (HIX.out _ htk.out).mono ?_; rintro e w2 ⟨rfl, rfl⟩))
    obtain ⟨j, k2, x2, q2, g, cap, hj, hjk, hx2, hq2, rfl, c5, ho2, hlast⟩ : ∃ j k2 x2 q2 g cap, hs1.length = j + 1 ∧ hs1[j]? = some k2 ∧ L[k2]? = some x2 ∧ (relH i.f s.hold)[q2]? = some (some x2) ∧ hv1 = .slice (some ⟨g, 0, none⟩) (j + 1) cap ∧ w1.cell? ⟨g, j, none⟩ = some (.int .i64 k2) ∧ s.out x2.v = (0, q2) ∧ (∀ (q' : Nat) (y : Iv), (relH i.f s.hold)[q']? = some (some y) → q' = q2 ∨ endLt y x2) := by
      obtain ⟨x0, hx0⟩ := HFL.out 0 (by have := HRL.out; omega)
      obtain ⟨-, k9, hk9, -⟩ := HA1.out.pr.cov 0 x0 hx0
      have hpos := List.length_pos_of_mem hk9
      have hjl : hs1.length - 1 < hs1.length := by omega
      have hjk := List.getElem?_eq_getElem hjl
      obtain ⟨x2, hx2, q2, hq2⟩ := HA1.out.pr.pr _ (List.getElem_mem hjl)
      have hol := HA1.out.hol
      obtain ⟨g, cap, rfl⟩ : ∃ g cap, hv1 = .slice (some ⟨g, 0, none⟩) hs1.length cap := by
        rcases hol.2 with ⟨-, e⟩ | ⟨g, cap, cur, e, -⟩
        · omega
        · exact ⟨g, cap, e⟩
      have e9 : hs1.length - 1 + 1 = hs1.length := by omega
      refine ⟨hs1.length - 1, _, x2, q2, g, cap, e9.symm, hjk, hx2, hq2, by rw [e9], ?_, (HA1.out.pr.cov q2 x2 hq2).1, HA1.out.pr.last hjk e9 hx2 hq2⟩
      have h5 := hol.cells (g := g) rfl (hs1.length - 1) (.int .i64 (hs1[hs1.length - 1] : Nat)) (by rw [List.getElem?_map, hjk]; rfl)
      rw [Lib.add_plain, Nat.zero_add] at h5
      exact h5
    obtain ⟨m, hm⟩ : ∃ m, m = j + 1 := ⟨_, rfl⟩
    rw [← hm] at y3
    have jw : IntKind.i64.wrap ((m : Int) - 1) = (j : Int) := by
      have : j < n := by
        have := nodup_lt HA1.out.pr.nodup (r := n) (fun x hx => by obtain ⟨y, hy, -⟩ := HA1.out.pr.pr x hx; rw [← HN.out]; exact (List.getElem?_eq_some_iff.1 hy).1)
        omega
      rw [IntKind.wrap_i64]; omega
    have j0 : (0 : Int) ≤ (j : Int) := by omega
    have j1 : (j : Int) < (m : Int) := by omega
    have HM := Lib.hid hm
    have HJ := Lib.hid hj
    have HJK := Lib.hid hjk
    have HX2 := Lib.hid hx2
    have HQ2 := Lib.hid hq2
    have HO2 := Lib.hid ho2
    have HLS := Lib.hid hlast
    have hF01 := HA1.out.fr
    obtain ⟨gl', ol', he, v0, v1, v2⟩ := (HIV.out.fr' hF01 HA1.out.nb) k2 x2 hx2
    cases he
    obtain ⟨gl', ol', he, i0, i1, i2⟩ := (HIV.out.fr' hF01 HA1.out.nb) k i HK.out
    cases he
    have l0 : (0 : Int) ≤ (k2 : Int) := by omega
    have l1 : (k2 : Int) < (n : Int) := by have := (List.getElem?_eq_some_iff.1 hx2).1; rw [HN.out] at this; omega
    clear hm hj hjk hx2 hq2 ho2 hlast hF01 HREL HIX
    go_quiet (fail)
    go_wp2_with fail
    have HCE : Hid (∀ W, Calls Try.prog 27 #[i.val, x2.val] W (Grows (.int .i64 (cmpEnd i x2)) W)) := Lib.hid fun W => sc_compareEnds i x2 W
    have HP : Hid (0 < cmpEnd i x2 ↔ endLt x2 i) := Lib.hid cmpEnd_pos
    generalize cmpEnd i x2 = ce at HCE HP
    have hk2m : k2 ∈ hs1 := List.mem_of_getElem? HJK.out
    have hkx : ¬ endLt x2 i → endLt i x2 := fun hne => by
      by_cases hv : i.v = x2.v
      · have e := nd_inj HND.out HK.out HX2.out hv
        exact absurd (HM1.out k (by rw [e]; exact hk2m)) (by have := HFULL.out hs (fun _ h => h); exact this)
      · unfold endLt at *; omega
    have HKX := Lib.hid hkx
    clear hkx
    obtain ⟨v2', f2, t2⟩ := x2
    obtain ⟨vi', fi, ti⟩ := i
    unfold Iv.val at HCE
    dsimp only at v0 v1 v2 i0 i1 i2 HCE
    have hmx : Try.prog.follows .mixedOrders = true := by kernel_rfl
    refine Code.wp_mono SNorm.imp (wp_region_held_drew (S := fun w' => w'.cell? ⟨b, 0, none⟩ = some (.slice (some ⟨gl, ol, none⟩) n lc) ∧ w'.cell? ⟨gl, ol + k * 3, none⟩ = some (.int .i64 vi') ∧ w'.cell? ⟨gl, ol + k * 3 + 1, none⟩ = some (.int .i64 fi) ∧ w'.cell? ⟨gl, ol + k * 3 + 2, none⟩ = some (.int .i64 ti) ∧ w'.cell? ⟨gl, ol + k2 * 3, none⟩ = some (.int .i64 v2') ∧ w'.cell? ⟨gl, ol + k2 * 3 + 1, none⟩ = some (.int .i64 f2) ∧ w'.cell? ⟨gl, ol + k2 * 3 + 2, none⟩ = some (.int .i64 t2)) hmx ⟨y0, i0, i1, i2, v0, v1, v2⟩ (fun hHeld => ?_))
    (refine wpAnyH_take (i := 0) (oi := ⟨some 40, _, _, _, _, _⟩) (v := ?_) rfl (by kernel_rfl) (by kernel_rfl) (by kernel_rfl) (fun _ _ _ h => h) (Or.inl ⟨by rfl, ?_⟩) (by assumption) ?_); rotate_left; focus (intro w hSw; (try dsimp only at hSw); go_split_ands; go_simp; try with_reducible rfl); (try simp only [Act.put, List.setIfInBounds_toArray, List.set_cons_zero, List.set_cons_succ])
    (refine wpAnyH_take (i := 1) (oi := ⟨some 41, _, _, _, _, _⟩) (v := ?_) rfl (by kernel_rfl) (by kernel_rfl) (by kernel_rfl) (fun _ _ _ h => h) (Or.inl ⟨by rfl, ?_⟩) (by assumption) ?_); rotate_left; focus (intro w hSw; (try dsimp only at hSw); go_split_ands; go_simp; try with_reducible rfl); (try simp only [Act.put, List.setIfInBounds_toArray, List.set_cons_zero, List.set_cons_succ])
    (refine wpAnyH_take (i := 2) (oi := ⟨some 42, _, _, _, _, _⟩) (v := ?_) rfl (by kernel_rfl) (by kernel_rfl) (by kernel_rfl) (fun _ _ _ h => h) (Or.inl ⟨by rfl, ?_⟩) (by assumption) ?_); rotate_left; focus (intro w hSw; (try dsimp only at hSw); go_split_ands; go_simp; try with_reducible rfl); (try simp only [Act.put, List.setIfInBounds_toArray, List.set_cons_zero, List.set_cons_succ])
    (refine wpAnyH_take (i := 3) (oi := ⟨some 43, _, _, _, _, _⟩) (v := ?_) rfl (by kernel_rfl) (by kernel_rfl) (by kernel_rfl) (fun _ _ _ h => h) (Or.inl ⟨by rfl, ?_⟩) (by assumption) ?_); rotate_left; focus (intro w hSw; (try dsimp only at hSw); go_split_ands; go_simp; try with_reducible rfl); (try simp only [Act.put, List.setIfInBounds_toArray, List.set_cons_zero, List.set_cons_succ])
    (refine wpAnyH_take (i := 4) (oi := ⟨some 44, _, _, _, _, _⟩) (v := ?_) rfl (by kernel_rfl) (by kernel_rfl) (by kernel_rfl) (fun _ _ _ h => h) (Or.inl ⟨by rfl, ?_⟩) (by assumption) ?_); rotate_left; focus (intro w hSw; (try dsimp only at hSw); go_split_ands; go_simp; try with_reducible rfl); (try simp only [Act.put, List.setIfInBounds_toArray, List.set_cons_zero, List.set_cons_succ])
    (refine wpAnyH_take (i := 5) (oi := ⟨some 45, _, _, _, _, _⟩) (v := ?_) rfl (by kernel_rfl) (by kernel_rfl) (by kernel_rfl) (fun _ _ _ h => h) (Or.inl ⟨by rfl, ?_⟩) (by assumption) ?_); rotate_left; focus (intro w hSw; (try dsimp only at hSw); go_split_ands; go_simp; try with_reducible rfl); (try simp only [Act.put, List.setIfInBounds_toArray, List.set_cons_zero, List.set_cons_succ])
    (refine wpAnyH_take (i := 6) (oi := ⟨some 46, _, _, _, _, _⟩) (v := ?_) rfl (by kernel_rfl) (by kernel_rfl) (by kernel_rfl) (fun _ _ _ h => h) (Or.inl ⟨by rfl, ?_⟩) (by assumption) ?_); rotate_left; focus (intro w hSw; (try dsimp only at hSw); go_split_ands; go_simp; try with_reducible rfl); (try simp only [Act.put, List.setIfInBounds_toArray, List.set_cons_zero, List.set_cons_succ])
    (refine wpAnyH_take (i := 7) (oi := ⟨some 47, _, _, _, _, _⟩) (v := ?_) rfl (by kernel_rfl) (by kernel_rfl) (by kernel_rfl) (fun _ _ _ h => h) (Or.inl ⟨by rfl, ?_⟩) (by assumption) ?_); rotate_left; focus (intro w hSw; (try dsimp only at hSw); go_split_ands; go_simp; try with_reducible rfl); (try simp only [Act.put, List.setIfInBounds_toArray, List.set_cons_zero, List.set_cons_succ])
    (refine wpAnyH_take (i := 8) (oi := ⟨some 48, _, _, _, _, _⟩) (v := ?_) rfl (by kernel_rfl) (by kernel_rfl) (by kernel_rfl) (fun _ _ _ h => h) (Or.inl ⟨by rfl, ?_⟩) (by assumption) ?_); rotate_left; focus (intro w hSw; (try dsimp only at hSw); go_split_ands; go_simp; try with_reducible rfl); (try simp only [Act.put, List.setIfInBounds_toArray, List.set_cons_zero, List.set_cons_succ])
    (refine wpAnyH_take (i := 9) (oi := ⟨some 49, _, _, _, _, _⟩) (v := ?_) rfl (by kernel_rfl) (by kernel_rfl) (by kernel_rfl) (fun _ _ _ h => h) (Or.inl ⟨by rfl, ?_⟩) (by assumption) ?_); rotate_left; focus (intro w hSw; (try dsimp only at hSw); go_split_ands; go_simp; try with_reducible rfl); (try simp only [Act.put, List.setIfInBounds_toArray, List.set_cons_zero, List.set_cons_succ])
    (refine wpAnyH_take (i := 10) (oi := ⟨some 50, _, _, _, _, _⟩) (v := ?_) rfl (by kernel_rfl) (by kernel_rfl) (by kernel_rfl) (fun _ _ _ h => h) (Or.inl ⟨by rfl, ?_⟩) (by assumption) ?_); rotate_left; focus (intro w hSw; (try dsimp only at hSw); go_split_ands; go_simp; try with_reducible rfl); (try simp only [Act.put, List.setIfInBounds_toArray, List.set_cons_zero, List.set_cons_succ])
    (refine wpAnyH_take (i := 11) (oi := ⟨some 51, _, _, _, _, _⟩) (v := ?_) rfl (by kernel_rfl) (by kernel_rfl) (by kernel_rfl) (fun _ _ _ h => h) (Or.inl ⟨by rfl, ?_⟩) (by assumption) ?_); rotate_left; focus (intro w hSw; (try dsimp only at hSw); go_split_ands; go_simp; try with_reducible rfl); (try simp only [Act.put, List.setIfInBounds_toArray, List.set_cons_zero, List.set_cons_succ])
    (refine wpAnyH_take (i := 12) (oi := ⟨some 52, _, _, _, _, _⟩) (v := ?_) rfl (by kernel_rfl) (by kernel_rfl) (by kernel_rfl) (fun _ _ _ h => h) (Or.inl ⟨by rfl, ?_⟩) (by assumption) ?_); rotate_left; focus (intro w hSw; (try dsimp only at hSw); go_split_ands; go_simp; try with_reducible rfl); (try simp only [Act.put, List.setIfInBounds_toArray, List.set_cons_zero, List.set_cons_succ])
    (refine wpAnyH_take (i := 13) (oi := ⟨some 53, _, _, _, _, _⟩) (v := ?_) rfl (by kernel_rfl) (by kernel_rfl) (by kernel_rfl) (fun _ _ _ h => h) (Or.inl ⟨by rfl, ?_⟩) (by assumption) ?_); rotate_left; focus (intro w hSw; (try dsimp only at hSw); go_split_ands; go_simp; try with_reducible rfl); (try simp only [Act.put, List.setIfInBounds_toArray, List.set_cons_zero, List.set_cons_succ])
    (refine wpAnyH_ready (rs := [14]) (by kernel_rfl) (by simp) ?_; refine AllReadyH.cons rfl (fun K hK => ?_) AllReadyH.nil); go_simp
    refine (HCE.out _).mono ?_
    rintro e2 w2 ⟨rfl, hG⟩
    have HG : Hid (Fr [] w1 w2) := Lib.hid (((Fr.refl [] w1).drewN _).drew.trans hG.fr)
    have hF := HG.out
    refine hK.out _ _ ⟨hF.cell (by simp) y0, hF.cell (by simp) i0, hF.cell (by simp) i1, hF.cell (by simp) i2, hF.cell (by simp) v0, hF.cell (by simp) v1, hF.cell (by simp) v2⟩ (fun hHeld4 => ?_)
    clear hK hG
    (refine wpAnyH_take (i := 15) (oi := ⟨some 55, _, _, _, _, _⟩) (v := ?_) rfl (by kernel_rfl) (by kernel_rfl) (by kernel_rfl) (fun _ _ _ h => h) (Or.inl ⟨by rfl, ?_⟩) (by assumption) ?_); rotate_left; focus (intro w hSw; (try dsimp only at hSw); go_split_ands; go_simp; try with_reducible rfl); (try simp only [Act.put, List.setIfInBounds_toArray, List.set_cons_zero, List.set_cons_succ])
    refine wpAnyH_done (by kernel_rfl) (SNorm.mk ?_) _
    simp only [Act.put, List.setIfInBounds_toArray, List.set_cons_zero, List.set_cons_succ]
    have HA2 := Lib.hid (HA1.out.still HG.out)
    have hbx2 := HA2.out.box
    dsimp only at hbx2
    rw [← HM.out] at hbx2
    clear hF y0 y1 y2 y3 y4 c5 c0 c1 c2 c3 c4 i0 i1 i2 v0 v1 v2 d0 d1 d2 hHeld hHeld4 hk2m
    have y0 := cell_of_heap (o := 0) hbx2 rfl; have y1 := cell_of_heap (o := 1) hbx2 rfl; have y2 := cell_of_heap (o := 2) hbx2 rfl; have y3 := cell_of_heap (o := 3) hbx2 rfl; have y4 := cell_of_heap (o := 4) hbx2 rfl
    simp only [List.getElem_toArray, List.getElem_cons_zero, List.getElem_cons_succ] at y0 y1 y2 y3 y4
    by_cases hgt : endLt ⟨v2', f2, t2⟩ ⟨vi', fi, ti⟩
    · have b1 : decide (0 < ce) = true := by simpa using HP.out.2 hgt
      have b2 : 0 < ce := HP.out.2 hgt
      have hm : ∀ (k : Nat) (x : Iv), (relH fi s.hold)[k]? = some (some x) → endLt x ⟨vi', fi, ti⟩ := fun k' x hx => by
        rcases HLS.out k' x hx with e | e
        · subst e
          have h9 := HQ2.out
          dsimp only at h9
          rw [h9] at hx
          cases hx
          exact hgt
        · exact e.trans hgt
      have HSF := Lib.hid (Step.self (s := s) (i := ⟨vi', fi, ti⟩) HFL.out hm)
      clear hm
      go_wp2_with (go_at_call 28; refine (HSP.out _ _ _ _ k _ (HA2.out.still (by (repeat (first | (with_reducible refine Fr.setCell ?_ (fun h => absurd h (Nat.lt_irrefl _)) _) | (with_reducible refine Fr.setCell ?_ (fun h => absurd h (by first | omega | (simp; done) | (simp; omega) | (dsimp only; omega))) _) | (with_reducible refine Fr.alloc ?_ _) | (with_reducible refine Fr.drew ?_) | (with_reducible refine Fr.drewN ?_ _) | (with_reducible exact Fr.refl _ _))))) HK.out (HFULL.out _ HM1.out) HC.out).mono ?_; rintro e w3 ⟨rfl, hA3⟩; have HA3 := Lib.hid hA3; clear hA3)
      refine bodyPost_ret (results_none rfl _ _ _) rfl ⟨rfl, _, _, _, HSF.out, HA3.out⟩
    · have b2 : ¬ 0 < ce := fun h => hgt (HP.out.1 h)
      have b1 : decide (0 < ce) = false := by simpa using b2
      have hix := HKX.out hgt
      have hvv : vi' ≠ v2' := fun e => by
        have e9 := nd_inj HND.out HK.out HX2.out e
        exact absurd (HM1.out k (by rw [e9]; exact List.mem_of_getElem? HJK.out)) (by have := HFULL.out hs (fun _ h => h); exact this)
      have hql := (List.getElem?_eq_some_iff.1 HQ2.out).1
      have HST := Lib.hid (Step.other (s := s) (i := ⟨vi', fi, ti⟩) q2 ⟨v2', f2, t2⟩ HFL.out HQ2.out hix HLS.out)
      rw [show updO (updO s.out (⟨vi', fi, ti⟩ : Iv).v (0, q2)) (⟨v2', f2, t2⟩ : Iv).v (3, s.cells) = updO (updO s.out v2' (3, s.cells)) vi' (0, q2) from updO_comm _ hvv _ _] at HST
      have hk2n : k2 ∉ hs1.eraseIdx j := fun hm => by
        obtain ⟨a, ha, hne, e⟩ := List.mem_eraseIdx_iff_getElem.1 hm
        have h8 := List.getElem?_eq_some_iff.1 HJK.out
        exact hne ((List.getElem_inj HA1.out.pr.nodup).1 (e.trans h8.2.symm))
      have hkn2 : k ∉ hs1.eraseIdx j := fun hm => HFULL.out _ HM1.out ((List.eraseIdx_sublist _ _).mem hm)
      have hnone : ((relH fi s.hold).set q2 none)[q2]? = some none := by rw [List.getElem?_set_self hql]
      have hset : ((relH fi s.hold).set q2 none).set q2 (some ⟨vi', fi, ti⟩) = (relH fi s.hold).set q2 (some ⟨vi', fi, ti⟩) := List.set_set ..
      have HN2 := Lib.hid hk2n
      have HN3 := Lib.hid hkn2
      have HNO := Lib.hid hnone
      have HSE := Lib.hid hset
      have jw2 := jw
      clear hix hvv hql hk2n hkn2 hnone hset
      go_wp2_with (first
        | (go_at_call 29; refine (HLV.out _ _ _ _ j k2 q2 _ (HA2.out.still (by (repeat (first | (with_reducible refine Fr.setCell ?_ (fun h => absurd h (Nat.lt_irrefl _)) _) | (with_reducible refine Fr.setCell ?_ (fun h => absurd h (by first | omega | (simp; done) | (simp; omega) | (dsimp only; omega))) _) | (with_reducible refine Fr.alloc ?_ _) | (with_reducible refine Fr.drew ?_) | (with_reducible refine Fr.drewN ?_ _) | (with_reducible exact Fr.refl _ _))))) HJK.out HX2.out HQ2.out).mono ?_; rintro e w3 ⟨rfl, hv3, hA3⟩; have HA3 := Lib.hid hA3; have hbx3 := hA3.box; dsimp only at hbx3; obtain ⟨cur, hp, hpc⟩ := hA3.pl; dsimp only at hp hpc; obtain ⟨p0, p1, p2⟩ := hpc.at_ k2 _ HX2.out; have p9 : w3.cell? ⟨pb, k2 * 3 + 1, none⟩ = some (.int .i64 q2) := (by rw [HO2.out] at p1; exact cell_of_heap hp p1); have x0 := cell_of_heap (o := 0) hbx3 rfl; have x1 := cell_of_heap (o := 1) hbx3 rfl; have x2 := cell_of_heap (o := 2) hbx3 rfl; have x3 := cell_of_heap (o := 3) hbx3 rfl; have x4 := cell_of_heap (o := 4) hbx3 rfl; simp only [List.getElem_toArray, List.getElem_cons_zero, List.getElem_cons_succ] at x0 x1 x2 x3 x4; clear hA3 hbx3 hp hpc p0 p1 p2 y0 y1 y2 y3 y4)
        | (go_at_call 28; refine (HSP.out _ _ _ _ k2 _ (HA3.out.still (by (repeat (first | (with_reducible refine Fr.setCell ?_ (fun h => absurd h (Nat.lt_irrefl _)) _) | (with_reducible refine Fr.setCell ?_ (fun h => absurd h (by first | omega | (simp; done) | (simp; omega) | (dsimp only; omega))) _) | (with_reducible refine Fr.alloc ?_ _) | (with_reducible refine Fr.drew ?_) | (with_reducible refine Fr.drewN ?_ _) | (with_reducible exact Fr.refl _ _))))) HX2.out HN2.out HC.out).mono ?_; rintro e w4 ⟨rfl, hA4⟩; have HA4 := Lib.hid hA4; clear hA4)
        | (go_at_call 26; refine (HOCC.out _ _ _ _ q2 (HA4.out.still (by (repeat (first | (with_reducible refine Fr.setCell ?_ (fun h => absurd h (Nat.lt_irrefl _)) _) | (with_reducible refine Fr.setCell ?_ (fun h => absurd h (by first | omega | (simp; done) | (simp; omega) | (dsimp only; omega))) _) | (with_reducible refine Fr.alloc ?_ _) | (with_reducible refine Fr.drew ?_) | (with_reducible refine Fr.drewN ?_ _) | (with_reducible exact Fr.refl _ _))))) HN3.out HNO.out).mono ?_; rintro e w5 ⟨rfl, hs5, hv5, hA5⟩; have HA5 := Lib.hid hA5; clear hA5))
      go_end0
      have h9 := HA5.out
      rw [HSE.out] at h9
      exact ⟨rfl, _, _, _, HST.out, h9⟩
end Go.Proofs.Ytomcfjckhajhmaa
