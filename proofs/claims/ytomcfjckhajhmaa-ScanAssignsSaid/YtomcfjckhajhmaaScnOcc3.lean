/- scan: a register is occupied: the method. -/
import Derived.Test.YtomcfjckhajhmaaScnOcc2
namespace Go.Proofs.Ytomcfjckhajhmaa
open Go.RowKit

set_option maxRecDepth 100000 in
set_option maxHeartbeats 8000000 in
theorem sa_occupy {K : SK} {n : Nat} {s : St} {hs : List Nat} {hv : Value} {w : World} (h : AL K n s hs hv w) (hL : IvM K.w0 K.la K.L) (hn : K.L.length = n) (nd : K.L.Pairwise (fun a b => a.v ≠ b.v)) (hnn : n < 1099511627776 * 8) {k q : Nat} {i : Iv} (hk : K.L[k]? = some i) (hkn : k ∉ hs) (hq : s.hold[q]? = some none) :
    Calls Try.prog 26 #[.pointer (some ⟨K.b, 0, none⟩), .int .i64 k, .int .i64 q] w fun e w' => e = .returned (.tuple #[]) ∧ ∃ hs' hv', AL K n ⟨s.hold.set q (some i), updO s.out i.v (0, q), s.cells⟩ hs' hv' w' := by
  obtain ⟨i0, hi, hz0, hz1, hz2⟩ := info_parts infoN
  have hol := h.hol
  obtain ⟨ao, cap, rfl⟩ : ∃ ao cap, hv = .slice ao hs.length cap := by
    rcases hol.2 with ⟨e, e2⟩ | ⟨g, cap, cur, e, -⟩
    · exact ⟨none, 0, by rw [e, e2]⟩
    · exact ⟨_, cap, e⟩
  have hlt : ∀ x, x ∈ hs ++ [k] → x < n := fun x hx => by
    rcases List.mem_append.1 hx with hm | hm
    · obtain ⟨y, hy, -⟩ := h.pr.pr x hm
      rw [← hn]; exact (List.getElem?_eq_some_iff.1 hy).1
    · have e : x = k := by simpa using hm
      rw [e, ← hn]; exact (List.getElem?_eq_some_iff.1 hk).1
  have hnd : (hs ++ [k]).Nodup := by
    refine List.nodup_append.2 ⟨h.pr.nodup, by simp, fun a ha b hb e => ?_⟩
    have e2 : b = k := by simpa using hb
    exact hkn (by rw [← e2, ← e]; exact ha)
  have hml : hs.length ≤ n := nodup_lt h.pr.nodup (fun x hx => hlt x (by simp [hx]))
  have HPR : Hid (∀ ys : List Nat, ys.Perm (hs ++ [k]) → ys.Pairwise (fun a b => ∀ x y : Iv, K.L[a]? = some x → K.L[b]? = some y → endLt x y) → PR K.L ⟨s.hold.set q (some i), updO s.out i.v (0, q), s.cells⟩ ys) := Lib.hid fun ys h1 h2 => h.pr.occupied nd hk hkn hq h1 h2
  have hA := h.am
  have HS : Hid (∀ (g c bx : Nat) (W : World), AM K n s.cells (updO s.out i.v (0, q)) (s.hold.set q (some i)) (hs ++ [k]) (.slice (some ⟨g, 0, none⟩) (hs.length + 1) c) W → W.heap[bx]? = some (.cells #[.pointer (some ⟨K.b, 0, none⟩)] 39 (0, 0)) →
      Calls Try.prog 20 #[.slice (some ⟨g, 0, none⟩) (hs.length + 1) c, .func (.func 34) #[] #[.pointer (some ⟨bx, 0, none⟩)]] W fun e w' => e = .returned (.tuple #[]) ∧ ∃ hs' hv', AL K n ⟨s.hold.set q (some i), updO s.out i.v (0, q), s.cells⟩ hs' hv' w') := Lib.hid fun g c bx W hW hb => by
    have e : (hs ++ [k]).length = hs.length + 1 := by simp
    rw [← e] at hW ⊢
    refine (sort_at hW hL hn nd hlt hnd (by omega) hb).mono ?_
    rintro e w' ⟨rfl, ys, y1, y2, y3⟩
    exact ⟨rfl, ys, _, y3.al (HPR.out ys y1 y2)⟩
  obtain ⟨w0, la, lc, L, r, b, pb, tb⟩ := K
  obtain ⟨m, hm⟩ : ∃ m, m = hs.length := ⟨_, rfl⟩
  have HM := Lib.hid hm
  have HA := Lib.hid hA
  have HK := Lib.hid hk
  have HND := Lib.hid nd
  have hbox := h.box
  obtain ⟨a1, a2, a3, -⟩ := h.apart
  obtain ⟨cur, hp, hpc⟩ := h.pl
  have htk := h.tk
  have hlen := h.len
  dsimp only at hk hn nd hbox a1 a2 a3 hp hpc htk hlen ⊢
  rw [← hm] at hbox hml HS
  have hqr : q < r := by rw [← hlen]; exact (List.getElem?_eq_some_iff.1 hq).1
  have hkl : k < n := by rw [← hn]; exact (List.getElem?_eq_some_iff.1 hk).1
  have k0 : (0 : Int) ≤ (k : Int) := by omega
  have k1 : (k : Int) < (n : Int) := by omega
  have q0 : (0 : Int) ≤ (q : Int) := by omega
  have q1 : (q : Int) < (r : Int) := by omega
  have hmx : m + 1 ≤ maxLen := by unfold maxLen; omega
  have hby : (m + 1) * 8 ≤ 140737488355328 := by omega
  have c0 := cell_of_heap (o := 0) hbox rfl; have c1 := cell_of_heap (o := 1) hbox rfl; have c2 := cell_of_heap (o := 2) hbox rfl; have c3 := cell_of_heap (o := 3) hbox rfl; have c4 := cell_of_heap (o := 4) hbox rfl
  have z0 := frozen_of_heap (o := 0) hbox; have z1 := frozen_of_heap (o := 1) hbox; have z2 := frozen_of_heap (o := 2) hbox; have z3 := frozen_of_heap (o := 3) hbox; have z4 := frozen_of_heap (o := 4) hbox
  simp only [List.getElem_toArray, List.getElem_cons_zero, List.getElem_cons_succ] at c0 c1 c2 c3 c4
  have hlb := lt_of_heap hbox
  obtain ⟨u0, u1, u2⟩ := hpc.at_ k i hk
  have g0 : w.cell? ⟨pb, k * 3, none⟩ = some (.int .i64 (s.out i.v).1) := cell_of_heap hp u0
  have g1 : w.cell? ⟨pb, k * 3 + 1, none⟩ = some (.int .i64 (s.out i.v).2) := cell_of_heap hp u1
  have g2 : w.cell? ⟨pb, k * 3 + 2, none⟩ = some (.int .u64 0) := cell_of_heap hp u2
  have f0 : w.frozen? ⟨pb, k * 3, none⟩ = false := frozen_of_heap hp
  have f1 : w.frozen? ⟨pb, k * 3 + 1, none⟩ = false := frozen_of_heap hp
  have f2 : w.frozen? ⟨pb, k * 3 + 2, none⟩ = false := frozen_of_heap hp
  have hlp := lt_of_heap hp
  have tq : w.cell? ⟨tb, q, none⟩ = some (.bool false) := cell_of_heap htk (by unfold takenL; simp [hq])
  have ft : w.frozen? ⟨tb, q, none⟩ = false := frozen_of_heap htk
  have hlt2 := lt_of_heap htk
  clear hn hk nd h hA hol hbox hp hpc htk hlen u0 u1 u2 hlt hnd hm hq hqr hkl hL HPR hkn hml hnn
  go_enter Try.func26, Try.ntmps26
  go_wp2_with fail
  obtain ⟨W3, hW3⟩ : ∃ W3, W3 = (((((w.setCell ⟨tb, q, none⟩ (.bool true)).setCell ⟨pb, k * 3, none⟩ (.int .i64 0)).setCell ⟨pb, k * 3 + 1, none⟩ (.int .i64 q)).setCell ⟨pb, k * 3 + 2, none⟩ (.int .u64 0)).alloc (.cells #[.pointer (some ⟨b, 0, none⟩)] 39)) := ⟨_, rfl⟩
  rw [← hW3]
  have HA3 : Hid (AM ⟨w0, la, lc, L, r, b, pb, tb⟩ n s.cells (updO s.out i.v (0, q)) (s.hold.set q (some i)) hs (.slice ao m cap) W3) := Lib.hid (by rw [hW3, HM.out]; exact ((HA.out.take q i).place HND.out HK.out q).still ((Fr.refl _ _).alloc _))
  obtain ⟨bx, hbx⟩ : ∃ bx, bx = w.heap.size := ⟨_, rfl⟩
  have hb3 : W3.heap[bx]? = some (.cells #[.pointer (some ⟨b, 0, none⟩)] 39 (0, 0)) := by
    rw [hW3, hbx]
    have := heap_new ((((w.setCell ⟨tb, q, none⟩ (.bool true)).setCell ⟨pb, k * 3, none⟩ (.int .i64 0)).setCell ⟨pb, k * 3 + 1, none⟩ (.int .i64 q)).setCell ⟨pb, k * 3 + 2, none⟩ (.int .u64 0)) (.cells #[.pointer (some ⟨b, 0, none⟩)] 39)
    simpa [World.setCell] using this
  rw [← hbx]
  have HB3 := Lib.hid hb3
  have x0 := cell_of_heap (o := 0) hb3 rfl
  simp only [List.getElem_toArray, List.getElem_cons_zero] at x0
  have hlx := lt_of_heap hb3
  have hbox3 := HA3.out.box
  dsimp only at hbox3
  have HBOX := Lib.hid hbox3
  have y0 := cell_of_heap (o := 0) hbox3 rfl; have y1 := cell_of_heap (o := 1) hbox3 rfl; have y2 := cell_of_heap (o := 2) hbox3 rfl; have y3 := cell_of_heap (o := 3) hbox3 rfl; have y4 := cell_of_heap (o := 4) hbox3 rfl
  have v0 := frozen_of_heap (o := 0) hbox3; have v1 := frozen_of_heap (o := 1) hbox3; have v2 := frozen_of_heap (o := 2) hbox3; have v3 := frozen_of_heap (o := 3) hbox3; have v4 := frozen_of_heap (o := 4) hbox3
  simp only [List.getElem_toArray, List.getElem_cons_zero, List.getElem_cons_succ] at y0 y1 y2 y3 y4
  have hlb3 := lt_of_heap hbox3
  have HRW : Hid (W3.ownsRow 0 3 1 (.slice ao m cap) m (hs.map fun k : Nat => .int .i64 (k : Int))) := Lib.hid (by have h7 := HA3.out.hol; rw [← HM.out] at h7; exact h7)
  clear hW3 hb3 hbox3 hbx c0 c1 c2 c3 c4 z0 z1 z2 z3 z4 g0 g1 g2 f0 f1 f2 hlp tq ft hlt2 hlb HA
  go_region_law (refine step_append_lies _ (by rfl) (.tmp 24) (.tmp 26) 41 (by rfl) 0 3 i0 (.int .i64 0) 1 8 Try.underlying41 hi hz0 hz1 hz2 rfl (by omega) (.slice ao m cap) m (hs.map fun k : Nat => .int .i64 (k : Int)) (by rfl) ?_ ⟨W3.heap.size, 0, none⟩ 1 1 [.int .i64 k] (by rfl) (by rfl) ?_ (by simp [Value.oneCell']) (by omega) hmx hby (Nat.zero_le _) (W3.heap.size + 1) (by simp) ?_; (focus exact Fr.row (S := []) (by (repeat (first | (with_reducible refine Fr.setCell ?_ (fun h => absurd h (Nat.lt_irrefl _)) _) | (with_reducible refine Fr.setCell ?_ (fun h => absurd h (by first | omega | (simp; done) | (simp; omega) | (dsimp only; omega))) _) | (with_reducible refine Fr.alloc ?_ _) | (with_reducible refine Fr.drew ?_) | (with_reducible refine Fr.drewN ?_ _) | (with_reducible exact Fr.refl _ _)))) HRW.out (fun _ _ => by simp)); (focus (intro j u hj; rw [Lib.add_plain, Nat.zero_add]; exact cell_of_heap (heap_new _ _) (by simpa using hj))); intro gg cq w5 hown1 hgrow hat hlt1; obtain ⟨q8, z9, hg9, hR⟩ := HA3.out.pushed' (W' := _) (k := k) (by (repeat (first | (with_reducible refine Fr.setCell ?_ (fun h => absurd h (Nat.lt_irrefl _)) _) | (with_reducible refine Fr.setCell ?_ (fun h => absurd h (by first | omega | (simp; done) | (simp; omega) | (dsimp only; omega))) _) | (with_reducible refine Fr.alloc ?_ _) | (with_reducible refine Fr.drew ?_) | (with_reducible refine Fr.drewN ?_ _) | (with_reducible exact Fr.refl _ _)))) HM.out hown1 hgrow (by simp) hat; have hx5 := HA3.out.far' (W' := _) (by (repeat (first | (with_reducible refine Fr.setCell ?_ (fun h => absurd h (Nat.lt_irrefl _)) _) | (with_reducible refine Fr.setCell ?_ (fun h => absurd h (by first | omega | (simp; done) | (simp; omega) | (dsimp only; omega))) _) | (with_reducible refine Fr.alloc ?_ _) | (with_reducible refine Fr.drew ?_) | (with_reducible refine Fr.drewN ?_ _) | (with_reducible exact Fr.refl _ _)))) hgrow HB3.out (by decide); have xx5 := cell_of_heap (o := 0) hx5 rfl; simp only [List.getElem_toArray, List.getElem_cons_zero] at xx5; have HGR := Lib.hid hR; have HX5 := Lib.hid hx5; clear hR hown1 hgrow hat hx5)
  all_goals
    have hbb : bx ≠ b := heap_ne HB3.out HBOX.out (by decide)
    obtain ⟨W6, hW6⟩ : ∃ W6, W6 = w5.setCell ⟨b, 3, none⟩ (.slice (some ⟨gg, 0, none⟩) (m + 1) cq) := ⟨_, rfl⟩
    have hb6 : W6.heap[bx]? = some (.cells #[.pointer (some ⟨b, 0, none⟩)] 39 (0, 0)) := by rw [hW6]; exact heap_off HX5.out _ _ hbb
    have HB6 := Lib.hid hb6
    have hR6 := HGR.out
    dsimp only at hR6
    rw [← hW6] at hR6 ⊢
    have HR6 := Lib.hid hR6
    have hbox6 := hR6.box
    dsimp only at hbox6
    have p0 := cell_of_heap (o := 0) hbox6 rfl; have p1 := cell_of_heap (o := 1) hbox6 rfl; have p2 := cell_of_heap (o := 2) hbox6 rfl; have p3 := cell_of_heap (o := 3) hbox6 rfl; have p4 := cell_of_heap (o := 4) hbox6 rfl
    simp only [List.getElem_toArray, List.getElem_cons_zero, List.getElem_cons_succ] at p0 p1 p2 p3 p4
    have r0 := cell_of_heap (o := 0) hb6 rfl
    simp only [List.getElem_toArray, List.getElem_cons_zero] at r0
    clear xx5 hW6 hbox6 hR6 hb6 q8 z9 hg9 y0 y1 y2 y3 y4 v0 v1 v2 v3 v4 x0 hlb3 hlx
    go_wp2_with (go_at_call 20; refine (HS.out gg cq bx _ (by first | exact HR6.out | exact HR6.out.still (by (repeat (first | (with_reducible refine Fr.setCell ?_ (fun h => absurd h (Nat.lt_irrefl _)) _) | (with_reducible refine Fr.setCell ?_ (fun h => absurd h (by first | omega | (simp; done) | (simp; omega) | (dsimp only; omega))) _) | (with_reducible refine Fr.alloc ?_ _) | (with_reducible refine Fr.drew ?_) | (with_reducible refine Fr.drewN ?_ _) | (with_reducible exact Fr.refl _ _))))) (by exact HB6.out)).mono ?_; rintro e w7 ⟨rfl, hh⟩)
    go_end0
    exact ⟨rfl, hh⟩
end Go.Proofs.Ytomcfjckhajhmaa
