/- scan: an allocation in memory: what each register holds, the places, who holds in the order of their ends. -/
import Derived.Test.YtomcfjckhajhmaaScnClo
import Derived.Test.YtomcfjckhajhmaaAppend
namespace Go.Proofs.Ytomcfjckhajhmaa
open Go.RowKit

/-- places in memory -/
structure PlC (cur : Array Value) (L : List Iv) (out : Int → Nat × Nat) : Prop where
  size : cur.size = L.length * 3
  at_ : ∀ (k : Nat) (x : Iv), L[k]? = some x → cur[k * 3]? = some (.int .i64 (out x.v).1) ∧ cur[k * 3 + 1]? = some (.int .i64 (out x.v).2) ∧ cur[k * 3 + 2]? = some (.int .u64 0)
theorem nd_inj {L : List Iv} (nd : L.Pairwise (fun a b => a.v ≠ b.v)) {j k : Nat} {x y : Iv} (hx : L[j]? = some x) (hy : L[k]? = some y) (he : x.v = y.v) : j = k := by
  obtain ⟨h1, rfl⟩ := List.getElem?_eq_some_iff.1 hx
  obtain ⟨h2, rfl⟩ := List.getElem?_eq_some_iff.1 hy
  rcases Nat.lt_trichotomy j k with h | h | h
  · exact absurd he (List.pairwise_iff_getElem.1 nd j k h1 h2 h)
  · exact h
  · exact absurd he.symm (List.pairwise_iff_getElem.1 nd k j h2 h1 h)
theorem PlC.put {cur : Array Value} {L : List Iv} {out : Int → Nat × Nat} (h : PlC cur L out) (nd : L.Pairwise (fun a b => a.v ≠ b.v)) {k : Nat} {i : Iv} (hi : L[k]? = some i) (a c : Nat) :
    PlC (((cur.setIfInBounds (k * 3) (.int .i64 a)).setIfInBounds (k * 3 + 1) (.int .i64 c)).setIfInBounds (k * 3 + 2) (.int .u64 0)) L (updO out i.v (a, c)) := by
  have hk := (List.getElem?_eq_some_iff.1 hi).1
  refine ⟨by simp [h.size], fun j x hx => ?_⟩
  have hj := (List.getElem?_eq_some_iff.1 hx).1
  have hs := h.size
  by_cases e : j = k
  · subst e
    rw [hi] at hx
    cases hx
    rw [updO_same]
    have q0 : j * 3 < cur.size := by omega
    have q1 : j * 3 + 1 < cur.size := by omega
    have q2 : j * 3 + 2 < cur.size := by omega
    refine ⟨?_, ?_, ?_⟩ <;> simp [Array.getElem?_setIfInBounds, q0, q1, q2]
  · obtain ⟨h0, h1, h2⟩ := h.at_ j x hx
    rw [updO_other _ _ _ (fun he => e (nd_inj nd hx hi he))]
    have q0 : k * 3 ≠ j * 3 := by omega
    have q1 : k * 3 + 1 ≠ j * 3 := by omega
    have q2 : k * 3 + 2 ≠ j * 3 := by omega
    have q3 : k * 3 ≠ j * 3 + 1 := by omega
    have q4 : k * 3 + 1 ≠ j * 3 + 1 := by omega
    have q5 : k * 3 + 2 ≠ j * 3 + 1 := by omega
    have q6 : k * 3 ≠ j * 3 + 2 := by omega
    have q7 : k * 3 + 1 ≠ j * 3 + 2 := by omega
    have q8 : k * 3 + 2 ≠ j * 3 + 2 := by omega
    refine ⟨?_, ?_, ?_⟩
    · rw [Array.getElem?_setIfInBounds_ne q2, Array.getElem?_setIfInBounds_ne q1, Array.getElem?_setIfInBounds_ne q0]; exact h0
    · rw [Array.getElem?_setIfInBounds_ne q5, Array.getElem?_setIfInBounds_ne q4, Array.getElem?_setIfInBounds_ne q3]; exact h1
    · rw [Array.getElem?_setIfInBounds_ne q8, Array.getElem?_setIfInBounds_ne q7, Array.getElem?_setIfInBounds_ne q6]; exact h2

/-- what does not turn -/
structure SK where
  w0 : World
  la : Option Addr
  lc : Nat
  L : List Iv
  r : Nat
  b : Nat
  pb : Nat
  tb : Nat
/-- the holders are those that hold, in the order of their ends -/
structure PR (L : List Iv) (s : St) (hs : List Nat) : Prop where
  pr : ∀ k, k ∈ hs → ∃ x, L[k]? = some x ∧ ∃ q : Nat, s.hold[q]? = some (some x)
  cov : ∀ (q : Nat) (x : Iv), s.hold[q]? = some (some x) → s.out x.v = (0, q) ∧ ∃ k, k ∈ hs ∧ L[k]? = some x
  srt : hs.Pairwise (fun a b => ∀ x y : Iv, L[a]? = some x → L[b]? = some y → endLt x y)
/-- the registers that are taken -/
def takenL (H : List (Option Iv)) : List Value := H.map fun o => .bool o.isSome
structure AL (K : SK) (n : Nat) (s : St) (hs : List Nat) (hv : Value) (w : World) : Prop where
  fr : Fr [K.b, K.pb, K.tb] K.w0 w
  nb : K.L ≠ [] → ∀ g o, K.la = some ⟨g, o, none⟩ → g ∉ [K.b, K.pb, K.tb]
  box : w.heap[K.b]? = some (.cells #[.slice K.la n K.lc, .slice (some ⟨K.pb, 0, none⟩) n n, .slice (some ⟨K.tb, 0, none⟩) K.r K.r, hv, .int .i64 s.cells] 43 (0, 0))
  hol : w.ownsRow 0 3 1 hv hs.length (hs.map fun k : Nat => .int .i64 (k : Int))
  new : ∀ g, hv.ownBlock = some g → K.w0.heap.size ≤ g
  pl : ∃ cur, w.heap[K.pb]? = some (.cells cur 31 (0, 0)) ∧ PlC cur K.L s.out
  tk : w.heap[K.tb]? = some (.cells (takenL s.hold).toArray 4 (0, 0))
  len : s.hold.length = K.r
  pr : PR K.L s hs
theorem heap_ne {w : World} {a b : Nat} {c c' : Array Value} {t t' : TypeId} {f f' : Nat × Nat} (h : w.heap[a]? = some (.cells c t f)) (h' : w.heap[b]? = some (.cells c' t' f')) (ht : t ≠ t') : a ≠ b := fun e => by
  subst e
  rw [h] at h'
  cases h'
  exact ht rfl
theorem AL.apart {K : SK} {n : Nat} {s : St} {hs : List Nat} {hv : Value} {w : World} (h : AL K n s hs hv w) : K.b ≠ K.pb ∧ K.b ≠ K.tb ∧ K.pb ≠ K.tb ∧ ∀ g, hv.ownBlock = some g → g ≠ K.b ∧ g ≠ K.pb ∧ g ≠ K.tb := by
  obtain ⟨cur, hp, -⟩ := h.pl
  refine ⟨heap_ne h.box hp (by decide), heap_ne h.box h.tk (by decide), heap_ne hp h.tk (by decide), fun g hg => ?_⟩
  rcases h.hol.2 with ⟨hv, -⟩ | ⟨g', cap, cur', hv, -, hh, -⟩
  · rw [hv] at hg; cases hg
  · rw [hv] at hg
    cases hg
    exact ⟨heap_ne hh h.box (by decide), heap_ne hh hp (by decide), heap_ne hh h.tk (by decide)⟩
/-- nothing turned but new memory -/
theorem AL.still {K : SK} {n : Nat} {s : St} {hs : List Nat} {hv : Value} {w w' : World} (h : AL K n s hs hv w) (hF : Fr [] w w') : AL K n s hs hv w' := by
  obtain ⟨cur, hp, hc⟩ := h.pl
  exact ⟨h.fr.trans hF.weak, h.nb, hF.heap (by simp) h.box, hF.row h.hol (fun _ _ => by simp), h.new, ⟨cur, hF.heap (by simp) hp, hc⟩, hF.heap (by simp) h.tk, h.len, h.pr⟩
theorem heap_put3 {w : World} {b : Nat} {c : Array Value} {t : TypeId} {f : Nat × Nat} (h : w.heap[b]? = some (.cells c t f)) (o : Nat) (v0 v1 v2 : Value) : (((w.setCell ⟨b, o, none⟩ v0).setCell ⟨b, o + 1, none⟩ v1).setCell ⟨b, o + 2, none⟩ v2).heap[b]? = some (.cells (((c.setIfInBounds o v0).setIfInBounds (o + 1) v1).setIfInBounds (o + 2) v2) t f) :=
  heap_setCell_same (heap_setCell_same (heap_setCell_same h _) _) _
theorem heap_off {w : World} {k : Nat} {o : Option Obj} (h : w.heap[k]? = o) (a : Addr) (u : Value) (hk : k ≠ a.block) : (w.setCell a u).heap[k]? = o := by rw [Below.heap_setCell _ _ _ _ hk]; exact h
theorem AL.spilled {K : SK} {n : Nat} {s : St} {hs : List Nat} {hv : Value} {w : World} (h : AL K n s hs hv w) (nd : K.L.Pairwise (fun a b => a.v ≠ b.v)) {k : Nat} {i : Iv} (hi : K.L[k]? = some i) (hk : k ∉ hs) {W : World} (hF : Fr [K.pb, K.b] w W)
    (hp : ∀ cur, w.heap[K.pb]? = some (.cells cur 31 (0, 0)) → W.heap[K.pb]? = some (.cells (((cur.setIfInBounds (k * 3) (.int .i64 3)).setIfInBounds (k * 3 + 1) (.int .i64 s.cells)).setIfInBounds (k * 3 + 2) (.int .u64 0)) 31 (0, 0)))
    (hb : W.heap[K.b]? = some (.cells #[.slice K.la n K.lc, .slice (some ⟨K.pb, 0, none⟩) n n, .slice (some ⟨K.tb, 0, none⟩) K.r K.r, hv, .int .i64 (s.cells + 1 : Nat)] 43 (0, 0))) :
    AL K n ⟨s.hold, updO s.out i.v (3, s.cells), s.cells + 1⟩ hs hv W := by
  obtain ⟨a1, a2, a3, a4⟩ := h.apart
  obtain ⟨cur, hc, hpc⟩ := h.pl
  refine ⟨h.fr.trans' hF (fun _ _ e => e) (fun j hj e => ?_), h.nb, hb, hF.row h.hol (fun g hg => ?_), h.new, ⟨_, hp cur hc, hpc.put nd hi 3 s.cells⟩, hF.heap ?_ h.tk, h.len, h.pr.pr, ?_, h.pr.srt⟩
  · simp only [List.mem_cons, List.not_mem_nil, or_false] at e ⊢
    omega
  · have := a4 g hg
    simp only [List.mem_cons, List.not_mem_nil, or_false]
    omega
  · simp only [List.mem_cons, List.not_mem_nil, or_false]
    omega
  · intro q x hq
    obtain ⟨ho, k', hk', hx⟩ := h.pr.cov q x hq
    refine ⟨?_, k', hk', hx⟩
    show updO s.out i.v _ x.v = _
    rw [updO_other _ _ _ (fun e => hk (by rw [← nd_inj nd hx hi e]; exact hk'))]
    exact ho
set_option maxRecDepth 100000 in
set_option maxHeartbeats 3200000 in
theorem sa_spill {K : SK} {n : Nat} {s : St} {hs : List Nat} {hv : Value} {w : World} (h : AL K n s hs hv w) (hn : K.L.length = n) (nd : K.L.Pairwise (fun a b => a.v ≠ b.v)) {k : Nat} {i : Iv} (hi : K.L[k]? = some i) (hk : k ∉ hs) (hc : s.cells < 4611686018427387904) :
    Calls Try.prog 28 #[.pointer (some ⟨K.b, 0, none⟩), .int .i64 k] w fun e w' => e = .returned (.tuple #[]) ∧ AL K n ⟨s.hold, updO s.out i.v (3, s.cells), s.cells + 1⟩ hs hv w' := by
  obtain ⟨w0, la, lc, L, r, b, pb, tb⟩ := K
  have HI := Lib.hid hi
  have HA := Lib.hid h
  have HN := Lib.hid hn
  have hbox := h.box
  have hap := h.apart.1
  obtain ⟨cur, hp, hpc⟩ := h.pl
  dsimp only at hi hn nd hbox hap hp hpc ⊢
  have hkn : k < n := by rw [← hn]; exact (List.getElem?_eq_some_iff.1 hi).1
  have k0 : (0 : Int) ≤ (k : Int) := by omega
  have k1 : (k : Int) < (n : Int) := by omega
  have c0 := cell_of_heap (o := 0) hbox rfl; have c1 := cell_of_heap (o := 1) hbox rfl; have c2 := cell_of_heap (o := 2) hbox rfl; have c3 := cell_of_heap (o := 3) hbox rfl; have c4 := cell_of_heap (o := 4) hbox rfl
  have z0 := frozen_of_heap (o := 0) hbox; have z1 := frozen_of_heap (o := 1) hbox; have z2 := frozen_of_heap (o := 2) hbox; have z3 := frozen_of_heap (o := 3) hbox; have z4 := frozen_of_heap (o := 4) hbox
  simp only [List.getElem_toArray, List.getElem_cons_zero, List.getElem_cons_succ] at c0 c1 c2 c3 c4
  have hlb := lt_of_heap hbox
  have HB := Lib.hid hbox
  have HP := Lib.hid hp
  have HPC := Lib.hid hpc
  have hlp := lt_of_heap hp
  obtain ⟨u0, u1, u2⟩ := hpc.at_ k i hi
  have g0 : w.cell? ⟨pb, k * 3, none⟩ = some (.int .i64 (s.out i.v).1) := cell_of_heap hp u0
  have g1 : w.cell? ⟨pb, k * 3 + 1, none⟩ = some (.int .i64 (s.out i.v).2) := cell_of_heap hp u1
  have g2 : w.cell? ⟨pb, k * 3 + 2, none⟩ = some (.int .u64 0) := cell_of_heap hp u2
  have f0 : w.frozen? ⟨pb, k * 3, none⟩ = false := frozen_of_heap hp
  have f1 : w.frozen? ⟨pb, k * 3 + 1, none⟩ = false := frozen_of_heap hp
  have f2 : w.frozen? ⟨pb, k * 3 + 2, none⟩ = false := frozen_of_heap hp
  clear hi hn hp hpc h hbox hkn u0 u1 u2
  go_enter Try.func28, Try.ntmps28
  go_wp2_with fail
  go_region
  go_wp2_with fail
  go_end0
  refine ⟨rfl, HA.out.spilled nd HI.out hk ?_ ?_ ?_⟩
  · refine Fr.drew (Fr.setCell (Fr.setCell (Fr.setCell (Fr.setCell (Fr.refl _ _) ?_ _) ?_ _) ?_ _) ?_ _) <;> (intro _; simp)
  · intro cur' hc'
    exact heap_off (heap_put3 hc' _ _ _ _) _ _ hap.symm
  · have h9 := heap_setCell_same (o := 4) (heap_off (heap_off (heap_off HB.out ⟨pb, k * 3, none⟩ (.int .i64 3) hap) ⟨pb, k * 3 + 1, none⟩ (.int .i64 s.cells) hap) ⟨pb, k * 3 + 2, none⟩ (.int .u64 0) hap) (.int .i64 ((s.cells : Int) + 1))
    exact h9
end Go.Proofs.Ytomcfjckhajhmaa
