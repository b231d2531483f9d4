/- scan: a register is left; it is free again. -/
import Derived.Test.YtomcfjckhajhmaaScnRow
namespace Go.Proofs.Ytomcfjckhajhmaa
open Go.RowKit

theorem PR.nodup {L : List Iv} {s : St} {hs : List Nat} (h : PR L s hs) : hs.Nodup := h.srt.imp_of_mem fun {a b} ha _ hab e => by
  subst e
  obtain ⟨x, hx, -⟩ := h.pr a ha
  exact (hab x x hx hx).irr
theorem PR.inj {L : List Iv} {s : St} {hs : List Nat} (h : PR L s hs) {q q' : Nat} {x : Iv} (hq : s.hold[q]? = some (some x)) (hq' : s.hold[q']? = some (some x)) : q = q' := by
  have e := (h.cov q x hq).1
  rw [(h.cov q' x hq').1] at e
  exact (Prod.mk.inj e).2.symm
theorem set_none {H : List (Option Iv)} {q k : Nat} {x : Iv} (h : (H.set q none)[k]? = some (some x)) : k ≠ q ∧ H[k]? = some (some x) := by
  rw [List.getElem?_set] at h
  by_cases e : q = k
  · subst e
    simp only [if_true] at h
    split at h <;> simp at h
  · rw [if_neg e] at h
    exact ⟨fun e' => e e'.symm, h⟩
theorem PR.left {L : List Iv} {s : St} {hs : List Nat} (h : PR L s hs) (nd : L.Pairwise (fun a b => a.v ≠ b.v)) {j k q : Nat} {x : Iv} (hj : hs[j]? = some k) (hk : L[k]? = some x) (hq : s.hold[q]? = some (some x)) : PR L ⟨s.hold.set q none, s.out, s.cells⟩ (hs.eraseIdx j) := by
  have hjl := (List.getElem?_eq_some_iff.1 hj).1
  have hjk : hs[j] = k := (List.getElem?_eq_some_iff.1 hj).2
  refine ⟨fun k' hk' => ?_, fun q' x' hq' => ?_, h.srt.sublist (List.eraseIdx_sublist _ _)⟩
  · obtain ⟨i, hi, hne, e⟩ := List.mem_eraseIdx_iff_getElem.1 hk'
    have hm : k' ∈ hs := e ▸ List.getElem_mem _
    obtain ⟨x', hx', q', hq'⟩ := h.pr k' hm
    refine ⟨x', hx', q', ?_⟩
    show (s.hold.set q none)[q']? = _
    rw [List.getElem?_set_ne]
    · exact hq'
    · intro e9
      subst e9
      rw [hq] at hq'
      cases hq'
      have e8 := nd_inj nd hk hx' rfl
      subst e8
      exact hne ((List.getElem_inj h.nodup).1 (e.trans hjk.symm))
  · obtain ⟨hne, hq''⟩ := set_none hq'
    obtain ⟨ho, k', hk', hx'⟩ := h.cov q' x' hq''
    refine ⟨ho, k', ?_, hx'⟩
    obtain ⟨i, hi, e⟩ := List.mem_iff_getElem.1 hk'
    refine List.mem_eraseIdx_iff_getElem.2 ⟨i, hi, fun e9 => ?_, e⟩
    subst e9
    have e8 : k' = k := e.symm.trans hjk
    subst e8
    rw [hk] at hx'
    cases hx'
    exact hne (h.inj hq'' hq)
theorem takenL_set (H : List (Option Iv)) (q : Nat) (o : Option Iv) : (takenL H).toArray.setIfInBounds q (.bool o.isSome) = (takenL (H.set q o)).toArray := by
  unfold takenL
  rw [List.setIfInBounds_toArray, List.map_set]
theorem AL.left {K : SK} {n : Nat} {s : St} {hs : List Nat} {hv : Value} {w : World} (h : AL K n s hs hv w) (nd : K.L.Pairwise (fun a b => a.v ≠ b.v)) {j k q g : Nat} {x : Iv} (hj : hs[j]? = some k) (hk : K.L[k]? = some x) (hq : s.hold[q]? = some (some x)) (hg : hv.ownBlock = some g) {W : World} {hv' : Value} (hF : Fr [K.tb, g, K.b] w W)
    (ht : W.heap[K.tb]? = some (.cells (takenL (s.hold.set q none)).toArray 4 (0, 0)))
    (hb : W.heap[K.b]? = some (.cells #[.slice K.la n K.lc, .slice (some ⟨K.pb, 0, none⟩) n n, .slice (some ⟨K.tb, 0, none⟩) K.r K.r, hv', .int .i64 s.cells] 43 (0, 0)))
    (hr : W.ownsRow 0 3 1 hv' (hs.eraseIdx j).length ((hs.eraseIdx j).map encN)) (hg' : hv'.ownBlock = some g) :
    AL K n ⟨s.hold.set q none, s.out, s.cells⟩ (hs.eraseIdx j) hv' W := by
  obtain ⟨a1, a2, a3, a4⟩ := h.apart
  obtain ⟨cur, hc, hpc⟩ := h.pl
  have hng := h.new g hg
  have hg4 := a4 g hg
  refine ⟨h.fr.trans' hF (fun _ _ e => e) (fun j hj e => ?_), h.nb, hb, hr, fun g' e => ?_, ⟨cur, hF.heap ?_ hc, hpc⟩, ht, by simp [h.len], h.pr.left nd hj hk hq⟩
  · simp only [List.mem_cons, List.not_mem_nil, or_false] at e ⊢
    omega
  · rw [hg'] at e
    cases e
    exact hng
  · simp only [List.mem_cons, List.not_mem_nil, or_false]
    omega
set_option maxRecDepth 100000 in
set_option maxHeartbeats 3200000 in
theorem sa_leave {K : SK} {n : Nat} {s : St} {hs : List Nat} {hv : Value} {w : World} (h : AL K n s hs hv w) (hn : K.L.length = n) (nd : K.L.Pairwise (fun a b => a.v ≠ b.v)) {j k q : Nat} {x : Iv} (hj : hs[j]? = some k) (hk : K.L[k]? = some x) (hq : s.hold[q]? = some (some x)) :
    Calls Try.prog 29 #[.pointer (some ⟨K.b, 0, none⟩), .int .i64 j] w fun e w' => e = .returned (.tuple #[]) ∧ ∃ hv', AL K n ⟨s.hold.set q none, s.out, s.cells⟩ (hs.eraseIdx j) hv' w' := by
  have hjl := (List.getElem?_eq_some_iff.1 hj).1
  have hol := h.hol
  obtain ⟨g, cap, rfl⟩ : ∃ g cap, hv = .slice (some ⟨g, 0, none⟩) hs.length cap := by
    rcases hol.2 with ⟨-, e⟩ | ⟨g, cap, cur, e, -⟩
    · omega
    · exact ⟨g, cap, e⟩
  obtain ⟨w0, la, lc, L, r, b, pb, tb⟩ := K
  have HK := Lib.hid hk
  have HQ := Lib.hid hq
  have HJ := Lib.hid hj
  have HA := Lib.hid h
  have hbox := h.box
  obtain ⟨a1, a2, a3, a4⟩ := h.apart
  have hga := a4 g rfl
  obtain ⟨cur, hp, hpc⟩ := h.pl
  have htk := h.tk
  have hlen := h.len
  have ho := (h.pr.cov q x hq).1
  dsimp only at hk hn nd hbox a1 a2 a3 hga hp hpc htk hlen ⊢
  have hqr : q < r := by rw [← hlen]; exact (List.getElem?_eq_some_iff.1 hq).1
  have hkn : k < n := by rw [← hn]; exact (List.getElem?_eq_some_iff.1 hk).1
  obtain ⟨m, hm⟩ : ∃ m, m = hs.length := ⟨_, rfl⟩
  have hcap := (row_holds encN hol).2
  have c5 : w.cell? ⟨g, j, none⟩ = some (.int .i64 k) := by
    have h5 := hol.cells (g := g) rfl j (.int .i64 k) (by rw [List.getElem?_map, hj]; rfl)
    rw [Lib.add_plain, Nat.zero_add] at h5
    exact h5
  have HD : Hid (∀ W, Fr [tb] w W → Calls Try.prog 35 #[.slice (some ⟨g, 0, none⟩) m cap, .int .i64 j, .int .i64 ((j : Int) + 1)] W fun e w' => e = .returned (.slice (some ⟨g, 0, none⟩) (m - 1) cap) ∧ Fr [g] W w' ∧ w'.ownsRow 0 3 1 (.slice (some ⟨g, 0, none⟩) (m - 1) cap) (m - 1) ((hs.eraseIdx j).map encN)) := Lib.hid fun W hF => by
    rw [hm]
    exact sl_delete (hF.row hol (fun g' e => by cases e; simp; omega)) hjl
  have HM := Lib.hid hm
  have k0 : (0 : Int) ≤ (k : Int) := by omega
  have k1 : (k : Int) < (n : Int) := by omega
  have j0 : (0 : Int) ≤ (j : Int) := by omega
  have j1 : (j : Int) < (m : Int) := by omega
  have q0 : (0 : Int) ≤ (q : Int) := by omega
  have q1 : (q : Int) < (r : Int) := by omega
  have jw : IntKind.i64.wrap ((j : Int) + 1) = (j : Int) + 1 := by rw [IntKind.wrap_i64]; unfold maxLen at hcap; omega
  rw [← hm] at hbox
  have c0 := cell_of_heap (o := 0) hbox rfl; have c1 := cell_of_heap (o := 1) hbox rfl; have c2 := cell_of_heap (o := 2) hbox rfl; have c3 := cell_of_heap (o := 3) hbox rfl; have c4 := cell_of_heap (o := 4) hbox rfl
  have z0 := frozen_of_heap (o := 0) hbox; have z1 := frozen_of_heap (o := 1) hbox; have z2 := frozen_of_heap (o := 2) hbox; have z3 := frozen_of_heap (o := 3) hbox; have z4 := frozen_of_heap (o := 4) hbox
  simp only [List.getElem_toArray, List.getElem_cons_zero, List.getElem_cons_succ] at c0 c1 c2 c3 c4
  have hlb := lt_of_heap hbox
  have HB := Lib.hid hbox
  have HT := Lib.hid htk
  obtain ⟨u0, u1, u2⟩ := hpc.at_ k x hk
  have g1 : w.cell? ⟨pb, k * 3 + 1, none⟩ = some (.int .i64 q) := by
    rw [ho] at u1
    exact cell_of_heap hp u1
  have tq : w.cell? ⟨tb, q, none⟩ = some (.bool true) := cell_of_heap htk (by unfold takenL; simp [hq])
  have ft : w.frozen? ⟨tb, q, none⟩ = false := frozen_of_heap htk
  have hlt := lt_of_heap htk
  clear hk hn hp hpc h hbox hkn u0 u1 u2 hq hj hm hcap hol htk a4 ho hjl hlen hqr
  go_enter Try.func29, Try.ntmps29
  go_wp2_with fail
  go_region
  go_wp2_with (go_at_call 35; refine (HD.out _ (by refine Fr.drew (Fr.setCell (Fr.refl _ _) ?_ _); intro _; simp)).mono ?_; rintro e w2 ⟨rfl, hF2, hR2⟩; have HR2 := Lib.hid hR2; have HT2 := Lib.hid (hF2.heap (by simp only [List.mem_cons, List.not_mem_nil, or_false]; omega) (show (w.setCell ⟨tb, q, none⟩ (.bool false)).drew.heap[tb]? = _ from heap_setCell_same HT.out (.bool false))); have hbx := hF2.heap (by simp only [List.mem_cons, List.not_mem_nil, or_false]; omega) (show (w.setCell ⟨tb, q, none⟩ (.bool false)).drew.heap[b]? = _ from heap_off HB.out _ _ a2); have HBX := Lib.hid hbx; have HF2 : Hid (Fr [tb, g] w w2) := Lib.hid (Fr.trans (b := (w.setCell ⟨tb, q, none⟩ (.bool false)).drew) (by refine Fr.drew (Fr.setCell (Fr.refl _ _) ?_ _); intro _; simp) (hF2.mono (fun _ _ h => by simp only [List.mem_cons, List.not_mem_nil, or_false] at h ⊢; omega))); have y0 := cell_of_heap (o := 0) hbx rfl; have y1 := cell_of_heap (o := 1) hbx rfl; have y2 := cell_of_heap (o := 2) hbx rfl; have y3 := cell_of_heap (o := 3) hbx rfl; have y4 := cell_of_heap (o := 4) hbx rfl; have x0 := frozen_of_heap (o := 0) hbx; have x1 := frozen_of_heap (o := 1) hbx; have x2 := frozen_of_heap (o := 2) hbx; have x3 := frozen_of_heap (o := 3) hbx; have x4 := frozen_of_heap (o := 4) hbx; simp only [List.getElem_toArray, List.getElem_cons_zero, List.getElem_cons_succ] at y0 y1 y2 y3 y4; have hlb2 := lt_of_heap hbx; clear hF2 hR2 hbx)
  go_end0
  have hl : (hs.eraseIdx j).length = m - 1 := by
    have h1 := (List.getElem?_eq_some_iff.1 HJ.out).1
    rw [List.length_eraseIdx, if_pos h1, ← HM.out]
  refine ⟨rfl, .slice (some ⟨g, 0, none⟩) (m - 1) cap, HA.out.left nd HJ.out HK.out HQ.out (g := g) rfl ?_ ?_ ?_ ?_ rfl⟩
  · refine Fr.setCell (HF2.out.mono (fun _ _ h => ?_)) (fun _ => ?_) _
    · simp only [List.mem_cons, List.not_mem_nil, or_false] at h ⊢
      omega
    · simp
  · refine heap_off ?_ _ _ (fun e => a2 e.symm)
    have h9 := HT2.out
    rw [← takenL_set]
    exact h9
  · exact heap_setCell_same (o := 3) HBX.out _
  · rw [hl]
    exact Fr.row (S := [b]) (Fr.setCell (Fr.refl _ _) (fun _ => by simp) _) HR2.out (fun g' e => by cases e; simp; exact hga.1)
end Go.Proofs.Ytomcfjckhajhmaa
