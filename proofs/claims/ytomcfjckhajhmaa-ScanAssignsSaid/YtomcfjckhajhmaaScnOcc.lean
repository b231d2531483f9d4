/- scan: a register is occupied: who holds one, sorted anew. -/
import Derived.Test.YtomcfjckhajhmaaScnLeave
import Derived.Deep.RegionLaw
import Derived.Deep.AppendLies
namespace Go.Proofs.Ytomcfjckhajhmaa
open Go.RowKit Go.Shelf Go.Sort

/-- an allocation's memory, whoever holds -/
structure AM (K : SK) (n c : Nat) (out : Int → Nat × Nat) (hold : List (Option Iv)) (xs : List Nat) (hv : Value) (w : World) : Prop where
  fr : Fr [K.b, K.pb, K.tb] K.w0 w
  nb : K.L ≠ [] → ∀ g o, K.la = some ⟨g, o, none⟩ → g ∉ [K.b, K.pb, K.tb]
  box : w.heap[K.b]? = some (.cells #[.slice K.la n K.lc, .slice (some ⟨K.pb, 0, none⟩) n n, .slice (some ⟨K.tb, 0, none⟩) K.r K.r, hv, .int .i64 c] 43 (0, 0))
  hol : w.ownsRow 0 3 1 hv xs.length (xs.map fun k : Nat => .int .i64 (k : Int))
  new : ∀ g, hv.ownBlock = some g → K.w0.heap.size ≤ g
  pl : ∃ cur, w.heap[K.pb]? = some (.cells cur 31 (0, 0)) ∧ PlC cur K.L out
  tk : w.heap[K.tb]? = some (.cells (takenL hold).toArray 4 (0, 0))
  len : hold.length = K.r
section
variable {K : SK} {n c : Nat} {out : Int → Nat × Nat} {hold : List (Option Iv)} {xs : List Nat} {hv : Value} {w : World}
theorem AL.am {s : St} (h : AL K n s xs hv w) : AM K n s.cells s.out s.hold xs hv w := ⟨h.fr, h.nb, h.box, h.hol, h.new, h.pl, h.tk, h.len⟩
theorem AM.al {s : St} (h : AM K n s.cells s.out s.hold xs hv w) (hp : PR K.L s xs) : AL K n s xs hv w := ⟨h.fr, h.nb, h.box, h.hol, h.new, h.pl, h.tk, h.len, hp⟩
theorem AM.apart (h : AM K n c out hold xs hv w) : K.b ≠ K.pb ∧ K.b ≠ K.tb ∧ K.pb ≠ K.tb ∧ ∀ g, hv.ownBlock = some g → g ≠ K.b ∧ g ≠ K.pb ∧ g ≠ K.tb := by
  obtain ⟨cur, hp, -⟩ := h.pl
  refine ⟨heap_ne h.box hp (by decide), heap_ne h.box h.tk (by decide), heap_ne hp h.tk (by decide), fun g hg => ?_⟩
  rcases h.hol.2 with ⟨hv, -⟩ | ⟨g', cap, cur', hv, -, hh, -⟩
  · rw [hv] at hg; cases hg
  · rw [hv] at hg
    cases hg
    exact ⟨heap_ne hh h.box (by decide), heap_ne hh hp (by decide), heap_ne hh h.tk (by decide)⟩
theorem AM.still {w' : World} (h : AM K n c out hold xs hv w) (hF : Fr [] w w') : AM K n c out hold xs hv w' := by
  obtain ⟨cur, hp, hc⟩ := h.pl
  exact ⟨h.fr.trans hF.weak, h.nb, hF.heap (by simp) h.box, hF.row h.hol (fun _ _ => by simp), h.new, ⟨cur, hF.heap (by simp) hp, hc⟩, hF.heap (by simp) h.tk, h.len⟩
theorem AM.take (h : AM K n c out hold xs hv w) (q : Nat) (i : Iv) : AM K n c out (hold.set q (some i)) xs hv (w.setCell ⟨K.tb, q, none⟩ (.bool true)) := by
  obtain ⟨cur, hp, hc⟩ := h.pl
  obtain ⟨a1, a2, a3, a4⟩ := h.apart
  have hF : Fr [K.tb] w (w.setCell ⟨K.tb, q, none⟩ (.bool true)) := Fr.setCell (Fr.refl _ _) (fun _ => by simp) _
  refine ⟨h.fr.trans' hF (fun _ _ e => e) (fun j hj e => ?_), h.nb, heap_off h.box _ _ a2, hF.row h.hol (fun g hg => ?_), h.new, ⟨cur, heap_off hp _ _ a3, hc⟩, ?_, by simp [h.len]⟩
  · simp only [List.mem_cons, List.not_mem_nil, or_false] at e ⊢
    omega
  · have := a4 g hg
    simp only [List.mem_cons, List.not_mem_nil, or_false]
    omega
  · rw [← takenL_set]
    exact heap_setCell_same h.tk _
theorem AM.place (h : AM K n c out hold xs hv w) (nd : K.L.Pairwise (fun a b => a.v ≠ b.v)) {k : Nat} {i : Iv} (hi : K.L[k]? = some i) (q : Nat) : AM K n c (updO out i.v (0, q)) hold xs hv (((w.setCell ⟨K.pb, k * 3, none⟩ (.int .i64 0)).setCell ⟨K.pb, k * 3 + 1, none⟩ (.int .i64 q)).setCell ⟨K.pb, k * 3 + 2, none⟩ (.int .u64 0)) := by
  obtain ⟨cur, hp, hc⟩ := h.pl
  obtain ⟨a1, a2, a3, a4⟩ := h.apart
  have hF : Fr [K.pb] w (((w.setCell ⟨K.pb, k * 3, none⟩ (.int .i64 0)).setCell ⟨K.pb, k * 3 + 1, none⟩ (.int .i64 q)).setCell ⟨K.pb, k * 3 + 2, none⟩ (.int .u64 0)) := by
    refine Fr.setCell (Fr.setCell (Fr.setCell (Fr.refl _ _) ?_ _) ?_ _) ?_ _ <;> (intro _; simp)
  refine ⟨h.fr.trans' hF (fun _ _ e => e) (fun j hj e => ?_), h.nb, heap_off (heap_off (heap_off h.box _ _ a1) _ _ a1) _ _ a1, hF.row h.hol (fun g hg => ?_), h.new, ⟨_, heap_put3 hp _ _ _ _, hc.put nd hi 0 q⟩, heap_off (heap_off (heap_off h.tk _ _ a3.symm) _ _ a3.symm) _ _ a3.symm, h.len⟩
  · simp only [List.mem_cons, List.not_mem_nil, or_false] at e ⊢
    omega
  · have := a4 g hg
    simp only [List.mem_cons, List.not_mem_nil, or_false]
    omega
/-- one more, behind the others: what the store behind the append finds, and what is so behind it -/
theorem AM.pushed' (h : AM K n c out hold xs hv w) {W' w5 : World} (hF : Fr [] w W') {m g cq H k : Nat} (hm : m = xs.length) (ho : w5.ownsRow 0 3 1 (.slice (some ⟨g, 0, none⟩) (m + 1) cq) (m + 1) ((xs.map fun k : Nat => .int .i64 (k : Int)) ++ [.int .i64 k])) (hg : W'.grownBy w5 hv.ownBlock) (hH : W'.heap.size = H) (hat : hv.ownBlock = some g ∨ g = H) :
    w5.cell? ⟨K.b, 3, none⟩ = some hv ∧ w5.frozen? ⟨K.b, 3, none⟩ = false ∧ K.b < w5.heap.size ∧ AM K n c out hold (xs ++ [k]) (.slice (some ⟨g, 0, none⟩) (m + 1) cq) (w5.setCell ⟨K.b, 3, none⟩ (.slice (some ⟨g, 0, none⟩) (m + 1) cq)) := by
  subst hm hH
  have h9 := h.still hF
  obtain ⟨a1, a2, a3, a4⟩ := h9.apart
  obtain ⟨cur, hp, hc⟩ := h9.pl
  have keep : ∀ {b : Nat} {o : Obj}, W'.heap[b]? = some o → (∀ g, hv.ownBlock = some g → g ≠ b) → w5.heap[b]? = some o := fun hb hn => by
    rw [hg.block _ (lt_of_heap hb) (fun e => hn _ e.symm rfl)]
    exact hb
  have hb5 := keep h9.box (fun g hg => (a4 g hg).1)
  have hp5 := keep hp (fun g hg => (a4 g hg).2.1)
  have ht5 := keep h9.tk (fun g hg => (a4 g hg).2.2)
  have hng : K.w0.heap.size ≤ g := by
    rcases hat with e | e
    · exact h9.new g e
    · rw [e]; exact h9.fr.size
  have hgb : g ≠ K.b := by
    rcases hat with e | e
    · exact (a4 g e).1
    · have := lt_of_heap h9.box; omega
  refine ⟨cell_of_heap hb5 rfl, frozen_of_heap hb5, lt_of_heap hb5, ?_⟩
  have hF5 : Fr [K.b, K.pb, K.tb] K.w0 w5 := ⟨hg.os.trans h9.fr.os, hg.tape.trans h9.fr.tape, hg.output.trans h9.fr.output, Nat.le_trans h9.fr.size hg.size, fun j hj hjn => by
    rw [hg.block j (Nat.lt_of_lt_of_le hj h9.fr.size) (fun e => by have := h9.new j e.symm; omega)]
    exact h9.fr.block j hj hjn⟩
  refine ⟨hF5.setCell (fun _ => by simp) _, h9.nb, ?_, ?_, fun g' e => ?_, ⟨cur, heap_off hp5 _ _ a1.symm, hc⟩, heap_off ht5 _ _ a2.symm, h9.len⟩
  · exact heap_setCell_same (o := 3) hb5 _
  · have h8 : (xs ++ [k]).length = xs.length + 1 := by simp
    rw [h8]
    have h7 := Fr.row (S := [K.b]) (Fr.setCell (Fr.refl _ w5) (p := ⟨K.b, 3, none⟩) (fun _ => by simp) (.slice (some ⟨g, 0, none⟩) (xs.length + 1) cq)) ho (fun g' e => by cases e; simp; exact hgb)
    rw [List.map_append]
    exact h7
  · cases e
    exact hng
theorem AM.far' (h : AM K n c out hold xs hv w) {W' w5 : World} (hF : Fr [] w W') (hg : W'.grownBy w5 hv.ownBlock) {bx : Nat} {cs : Array Value} {t : TypeId} (hb : w.heap[bx]? = some (.cells cs t (0, 0))) (ht : t ≠ 3) : w5.heap[bx]? = some (.cells cs t (0, 0)) := by
  have hb1 := hF.heap (by simp) hb
  rw [hg.block bx (lt_of_heap hb1) (fun e => ?_)]
  · exact hb1
  · rcases h.hol.2 with ⟨hv, -⟩ | ⟨g', cap, cur', hv, -, hh, -⟩
    · rw [hv] at e; cases e
    · rw [hv] at e
      cases e
      exact heap_ne hb hh ht rfl
/-- the row of who holds, laid anew -/
theorem AM.resort (h : AM K n c out hold xs hv w) {g : Nat} (hg : hv.ownBlock = some g) {W : World} {ys : List Nat} (hF : Fr [g] w W) (hl : ys.length = xs.length) (hr : W.ownsRow 0 3 1 hv ys.length (ys.map fun k : Nat => .int .i64 (k : Int))) : AM K n c out hold ys hv W := by
  obtain ⟨a1, a2, a3, a4⟩ := h.apart
  obtain ⟨cur, hp, hc⟩ := h.pl
  have hng := h.new g hg
  have h4 := a4 g hg
  refine ⟨h.fr.trans' hF (fun _ _ e => e) (fun j hj e => ?_), h.nb, hF.heap ?_ h.box, hr, h.new, ⟨cur, hF.heap ?_ hp, hc⟩, hF.heap ?_ h.tk, h.len⟩ <;> simp only [List.mem_cons, List.not_mem_nil, or_false] at * <;> omega
end
/-- who holds, behind one more -/
theorem PR.occupied {L : List Iv} {s : St} {hs : List Nat} (h : PR L s hs) (nd : L.Pairwise (fun a b => a.v ≠ b.v)) {k q : Nat} {i : Iv} (hk : L[k]? = some i) (hn : k ∉ hs) (hq : s.hold[q]? = some none) {ys : List Nat} (hy : ys.Perm (hs ++ [k])) (hs' : ys.Pairwise (fun a b => ∀ x y : Iv, L[a]? = some x → L[b]? = some y → endLt x y)) :
    PR L ⟨s.hold.set q (some i), updO s.out i.v (0, q), s.cells⟩ ys := by
  have hql := (List.getElem?_eq_some_iff.1 hq).1
  refine ⟨fun k' hk' => ?_, fun q' x' hq' => ?_, hs'⟩
  · rcases List.mem_append.1 (hy.mem_iff.1 hk') with hm | hm
    · obtain ⟨x, hx, q', hq'⟩ := h.pr k' hm
      refine ⟨x, hx, q', ?_⟩
      show (s.hold.set q (some i))[q']? = _
      rw [List.getElem?_set_ne (fun e => by subst e; rw [hq] at hq'; cases hq')]
      exact hq'
    · have e : k' = k := by simpa using hm
      subst e
      exact ⟨i, hk, q, by show (s.hold.set q (some i))[q]? = _; rw [List.getElem?_set_self hql]⟩
  · rcases set_some hq' with ⟨rfl, rfl⟩ | ⟨hne, hq''⟩
    · exact ⟨updO_same _ _ _, k, hy.mem_iff.2 (by simp), hk⟩
    · obtain ⟨ho, k', hk', hx⟩ := h.cov q' x' hq''
      refine ⟨?_, k', hy.mem_iff.2 (by simp [hk']), hx⟩
      show updO s.out i.v _ x'.v = _
      rw [updO_other _ _ _ (fun e => hn (by rw [← nd_inj nd hx hk e]; exact hk'))]
      exact ho
end Go.Proofs.Ytomcfjckhajhmaa
