/- scan: registers are released. -/
import Derived.Test.YtomcfjckhajhmaaScnOcc3
import Derived.Deep.LoopGhost
namespace Go.Proofs.Ytomcfjckhajhmaa
open Go.RowKit

theorem relH_self {f : Int} {H : List (Option Iv)} (h : ∀ (q : Nat) (x : Iv), H[q]? = some (some x) → f ≤ x.t) : relH f H = H := by
  unfold relH
  apply List.ext_getElem?
  intro k
  rw [List.getElem?_map]
  cases hk : H[k]? with
  | none => rfl
  | some o =>
    cases o with
    | none => rfl
    | some x => simp [h k x hk]
theorem relH_drop {f : Int} {H : List (Option Iv)} {q : Nat} {x : Iv} (h : H[q]? = some (some x)) (hx : x.t < f) : relH f (H.set q none) = relH f H := by
  have hx' : ¬ f ≤ x.t := by omega
  unfold relH
  rw [List.map_set]
  apply List.ext_getElem?
  intro k
  rw [List.getElem?_set, List.getElem?_map]
  by_cases e : q = k
  · subst e
    rw [if_pos rfl, h]
    have e9 : Option.filter (fun x : Iv => decide (f ≤ x.t)) (some x) = none := by rw [Option.filter_some, if_neg (by simpa using hx')]
    simp [(List.getElem?_eq_some_iff.1 h).1, e9]
  · rw [if_neg e]
theorem PR.first {L : List Iv} {s : St} {k : Nat} {tl : List Nat} (h : PR L s (k :: tl)) {x : Iv} (hk : L[k]? = some x) {f : Int} (hx : f ≤ x.t) : relH f s.hold = s.hold := relH_self fun q y hq => by
  obtain ⟨-, k', hk', hy⟩ := h.cov q y hq
  rcases List.mem_cons.1 hk' with rfl | hm
  · rw [hk] at hy; cases hy; exact hx
  · have := ((List.pairwise_cons.1 h.srt).1 k' hm x y hk hy).le
    omega
theorem PR.nobody {L : List Iv} {s : St} (h : PR L s []) {f : Int} : relH f s.hold = s.hold := relH_self fun q y hq => by
  obtain ⟨-, k', hk', -⟩ := h.cov q y hq
  cases hk'
set_option maxRecDepth 100000 in
set_option maxHeartbeats 8000000 in
theorem sa_release {K : SK} {n : Nat} {s : St} {hs : List Nat} {hv : Value} {w : World} (h : AL K n s hs hv w) (hL : IvM K.w0 K.la K.L) (hn : K.L.length = n) (nd : K.L.Pairwise (fun a b => a.v ≠ b.v)) (hnn : n < 1099511627776 * 8) (f : Int) :
    Calls Try.prog 24 #[.pointer (some ⟨K.b, 0, none⟩), .int .i64 f] w fun e w' => e = .returned (.tuple #[]) ∧ ∃ hs' hv', (∀ k, k ∈ hs' → k ∈ hs) ∧ AL K n ⟨relH f s.hold, s.out, s.cells⟩ hs' hv' w' := by
  have HST : Hid (AL K n s hs hv w) := Lib.hid h
  have HE : Hid (∀ (H : List (Option Iv)) (hs1 : List Nat) (hv1 : Value) (W : World), relH f H = relH f s.hold → relH f H = H → (∀ k, k ∈ hs1 → k ∈ hs) → AL K n ⟨H, s.out, s.cells⟩ hs1 hv1 W → ∃ hs' hv', (∀ k, k ∈ hs' → k ∈ hs) ∧ AL K n ⟨relH f s.hold, s.out, s.cells⟩ hs' hv' W) := Lib.hid fun H hs1 hv1 W e1 e2 hm hA => ⟨hs1, hv1, hm, by rw [← e1, e2]; exact hA⟩
  have HLV : Hid (∀ (H : List (Option Iv)) (k : Nat) (tl : List Nat) (hv1 : Value) (q : Nat) (x : Iv) (W : World), AL K n ⟨H, s.out, s.cells⟩ (k :: tl) hv1 W → K.L[k]? = some x → H[q]? = some (some x) → Calls Try.prog 29 #[.pointer (some ⟨K.b, 0, none⟩), .int .i64 0] W fun e w' => e = .returned (.tuple #[]) ∧ ∃ hv', AL K n ⟨H.set q none, s.out, s.cells⟩ tl hv' w') := Lib.hid fun H k tl hv1 q x W hA hk hq => sa_leave hA hn nd (j := 0) (k := k) rfl hk hq
  obtain ⟨w0, la, lc, L, r, b, pb, tb⟩ := K
  have HIV := Lib.hid hL
  have HN := Lib.hid hn
  clear hL hn h
  go_enter Try.func24, Try.ntmps24
  go_wp2
  go_loopg [] hs.length (fun gk wr => ∃ (H : List (Option Iv)) (hs1 : List Nat) (hv1 : Value), Hid (relH f H = relH f s.hold) ∧ Hid (∀ k, k ∈ hs1 → k ∈ hs) ∧ Hid (AL ⟨w0, la, lc, L, r, b, pb, tb⟩ n ⟨H, s.out, s.cells⟩ hs1 hv1 wr) ∧ hs1.length ≤ gk)
  case atStart => exact ⟨s.hold, hs, hv, Lib.hid rfl, Lib.hid (fun _ h => h), HST, Nat.le_refl _⟩
  case round =>
    obtain ⟨H, hs1, hv1, HR, HM, HA, hgk⟩ := hrel
    have hbox := HA.out.box
    dsimp only at hbox
    match hs1, HM, HA, hgk with
    | [], HM, HA, hgk =>
      have hol := HA.out.hol
      obtain ⟨ao, cap, rfl⟩ : ∃ ao cap, hv1 = .slice ao 0 cap := by
        rcases hol.2 with ⟨e, e2⟩ | ⟨g, cap, cur, e, -⟩
        · exact ⟨none, 0, e⟩
        · exact ⟨_, cap, e⟩
      have c0 := cell_of_heap (o := 0) hbox rfl; have c1 := cell_of_heap (o := 1) hbox rfl; have c2 := cell_of_heap (o := 2) hbox rfl; have c3 := cell_of_heap (o := 3) hbox rfl; have c4 := cell_of_heap (o := 4) hbox rfl
      simp only [List.getElem_toArray, List.getElem_cons_zero, List.getElem_cons_succ] at c0 c1 c2 c3 c4
      have hE := HE.out H [] _ wr HR.out HA.out.pr.nobody HM.out HA.out
      have HE2 := Lib.hid hE
      clear hE hol hbox
      go_wp2_with fail
      go_quiet (fail)
      go_wp2_with fail
      go_end0
      exact ⟨rfl, HE2.out.imp fun _ h => h.imp fun _ h => ⟨h.1, h.2.still ((Fr.refl _ _).drewN _)⟩⟩
    | k :: tl, HM, HA, hgk =>
      obtain ⟨x, hx, q, hq⟩ := HA.out.pr.pr k (by simp)
      dsimp only at hx hq
      have hol := HA.out.hol
      obtain ⟨g, cap, rfl⟩ : ∃ g cap, hv1 = .slice (some ⟨g, 0, none⟩) (tl.length + 1) cap := by
        rcases hol.2 with ⟨e, e2⟩ | ⟨g, cap, cur, e, -⟩
        · simp at e2
        · exact ⟨g, cap, e⟩
      have c5 : wr.cell? ⟨g, 0, none⟩ = some (.int .i64 k) := by
        have h5 := hol.cells (g := g) rfl 0 (.int .i64 k) rfl
        rw [Lib.add_plain] at h5
        exact h5
      obtain ⟨gl, ol, rfl, i0, i1, i2⟩ := (HIV.out.fr' HA.out.fr HA.out.nb) k x hx
      have hkn : k < n := by rw [← HN.out]; exact (List.getElem?_eq_some_iff.1 hx).1
      have k0 : (0 : Int) ≤ (k : Int) := by omega
      have k1 : (k : Int) < (n : Int) := by omega
      obtain ⟨m, hm⟩ : ∃ m, m = tl.length + 1 := ⟨_, rfl⟩
      rw [← hm] at hbox
      have m1 : (0 : Int) < (m : Int) := by omega
      have m2 : decide (0 < m) = true := by simp; omega
      have m3 : 0 < m := by omega
      have HMM := Lib.hid hm
      have c0 := cell_of_heap (o := 0) hbox rfl; have c1 := cell_of_heap (o := 1) hbox rfl; have c2 := cell_of_heap (o := 2) hbox rfl; have c3 := cell_of_heap (o := 3) hbox rfl; have c4 := cell_of_heap (o := 4) hbox rfl
      simp only [List.getElem_toArray, List.getElem_cons_zero, List.getElem_cons_succ] at c0 c1 c2 c3 c4
      by_cases hf : f ≤ x.t
      · have hE := HE.out H (k :: tl) _ wr HR.out (HA.out.pr.first hx hf) HM.out HA.out
        have HE2 := Lib.hid hE
        have t1 : decide (x.t < f) = false := by simpa using hf
        clear hE hol hbox hm hx hq hgk i0 i1 hkn
        go_wp2_with fail
        go_quiet (fail)
        go_wp2_with fail
        go_end0
        exact ⟨rfl, HE2.out.imp fun _ h => h.imp fun _ h => ⟨h.1, h.2.still ((Fr.refl _ _).drewN _)⟩⟩
      · have t1 : decide (x.t < f) = true := by simp; omega
        have HD : Hid (relH f (H.set q none) = relH f s.hold) := Lib.hid (by rw [relH_drop hq (by omega)]; exact HR.out)
        have HC := Lib.hid (fun W (hF : Fr [] wr W) => HLV.out H k tl _ q x W (HA.out.still hF) hx hq)
        clear hol hbox hm hx hq i0 i1 hkn HLV HE HST
        go_wp2_with fail
        go_quiet (fail)
        go_wp2_with (go_at_call 29; refine (HC.out _ (by (repeat (first | (with_reducible refine Fr.setCell ?_ (fun h => absurd h (Nat.lt_irrefl _)) _) | (with_reducible refine Fr.setCell ?_ (fun h => absurd h (by first | omega | (simp; done) | (simp; omega) | (dsimp only; omega))) _) | (with_reducible refine Fr.alloc ?_ _) | (with_reducible refine Fr.drew ?_) | (with_reducible refine Fr.drewN ?_ _) | (with_reducible exact Fr.refl _ _))))).mono ?_; rintro e w2 ⟨rfl, hv2, hA2⟩; have HA2 := Lib.hid hA2; clear hA2)
        go_roundg tl.length
        case rel => exact ⟨H.set q none, tl, hv2, HD, Lib.hid (fun k' h => HM.out k' (by simp [h])), HA2, Nat.le_refl _⟩
        case measure => simp at hgk; omega
end Go.Proofs.Ytomcfjckhajhmaa
