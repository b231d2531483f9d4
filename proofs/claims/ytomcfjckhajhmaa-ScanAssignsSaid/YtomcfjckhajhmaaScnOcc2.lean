/- scan: a register is occupied: the walk. -/
import Derived.Test.YtomcfjckhajhmaaScnOcc
namespace Go.Proofs.Ytomcfjckhajhmaa
open Go.RowKit Go.Shelf Go.Sort

def getI (L : List Iv) (k : Nat) : Iv := L.getD k ⟨0, 0, 0⟩
theorem getI_some {L : List Iv} {k : Nat} {x : Iv} (h : L[k]? = some x) : getI L k = x := by unfold getI; rw [List.getD_eq_getElem?_getD, h]; rfl
theorem getI_at {L : List Iv} {k : Nat} (h : k < L.length) : L[k]? = some (getI L k) := by
  rw [List.getElem?_eq_getElem h, getI_some (List.getElem?_eq_getElem h)]
theorem fin_list {m : Nat} : ∀ (xs : List Nat), (∀ x, x ∈ xs → x < m + 1) → ∃ l : List (Fin (m + 1)), l.map (fun k => k.val) = xs
  | [], _ => ⟨[], rfl⟩
  | x :: xs, h => by
    obtain ⟨l, hl⟩ := fin_list xs (fun y hy => h y (List.mem_cons_of_mem _ hy))
    exact ⟨⟨x, h x (by simp)⟩ :: l, by simp [hl]⟩
theorem encF_map {m : Nat} (l : List (Fin (m + 1))) : l.map encF = (l.map fun k => k.val).map fun k : Nat => Value.int .i64 (k : Int) := by
  rw [List.map_map]; rfl
section
variable {L : List Iv} {m : Nat} (hL : L.length = m + 1) (nd : L.Pairwise (fun a b => a.v ≠ b.v))
theorem lt_end (x y : Fin (m + 1)) : ltOf (fun a b : Fin (m + 1) => cmpEnd (getI L a.val) (getI L b.val)) x y = decide (endLt (getI L x.val) (getI L y.val)) := by
  unfold ltOf
  rw [decide_eq_decide]
  exact cmpEnd_neg
theorem swo_end : SWO (ltOf (fun a b : Fin (m + 1) => cmpEnd (getI L a.val) (getI L b.val))) where
  irrefl x := by rw [lt_end]; simp; exact fun h => h.irr
  trans x y z h1 h2 := by rw [lt_end] at *; simp at *; exact h1.trans h2
  ntrans x y z h1 h2 := by rw [lt_end] at *; simp at *; unfold endLt at *; omega
include hL nd in
theorem tot_end (x y : Fin (m + 1)) (h1 : ltOf (fun a b : Fin (m + 1) => cmpEnd (getI L a.val) (getI L b.val)) x y = false) (h2 : ltOf (fun a b : Fin (m + 1) => cmpEnd (getI L a.val) (getI L b.val)) y x = false) : x = y := by
  rw [lt_end] at *
  simp at h1 h2
  apply Fin.ext
  exact nd_inj nd (getI_at (by omega)) (getI_at (by omega)) (by unfold endLt at *; omega)
include nd in
theorem end_sorted (l : List (Fin (m + 1))) (hn : l.Nodup) : ((l.mergeSort fun x y => !ltOf (fun a b : Fin (m + 1) => cmpEnd (getI L a.val) (getI L b.val)) y x).map fun k => k.val).Perm (l.map fun k => k.val) ∧
    ((l.mergeSort fun x y => !ltOf (fun a b : Fin (m + 1) => cmpEnd (getI L a.val) (getI L b.val)) y x).map fun k => k.val).Pairwise (fun a b => ∀ x y : Iv, L[a]? = some x → L[b]? = some y → endLt x y) := by
  have hp := List.mergeSort_perm l (fun x y => !ltOf (fun a b : Fin (m + 1) => cmpEnd (getI L a.val) (getI L b.val)) y x)
  refine ⟨hp.map _, List.pairwise_map.2 ?_⟩
  have hs := List.pairwise_mergeSort (le := fun x y => !ltOf (fun a b : Fin (m + 1) => cmpEnd (getI L a.val) (getI L b.val)) y x) (fun a b c h1 h2 => by rw [lt_end] at *; simp at *; unfold endLt at *; omega) (fun a b => by rw [lt_end, lt_end]; simp; unfold endLt; omega) l
  have hn' := hp.nodup_iff.2 hn
  refine (hs.and hn').imp ?_
  rintro a b ⟨h1, h2⟩ x y hx hy
  rw [lt_end, getI_some hx, getI_some hy] at h1
  simp at h1
  by_cases he : x.v = y.v
  · exact absurd (Fin.ext (nd_inj nd hx hy he)) h2
  · unfold endLt at *; omega
end
/-- who holds, sorted -/
theorem sort_at {K : SK} {n c : Nat} {out : Int → Nat × Nat} {hold : List (Option Iv)} {xs : List Nat} {g cap bx : Nat} {w : World} (h : AM K n c out hold xs (.slice (some ⟨g, 0, none⟩) xs.length cap) w) (hL : IvM K.w0 K.la K.L) (hn : K.L.length = n) (nd : K.L.Pairwise (fun a b => a.v ≠ b.v)) (hx : ∀ x, x ∈ xs → x < n) (hxn : xs.Nodup) (hnn : n < 4611686018427387904)
    (hbx : w.heap[bx]? = some (.cells #[.pointer (some ⟨K.b, 0, none⟩)] 39 (0, 0))) :
    Calls Try.prog 20 #[.slice (some ⟨g, 0, none⟩) xs.length cap, .func (.func 34) #[] #[.pointer (some ⟨bx, 0, none⟩)]] w fun e w' => e = .returned (.tuple #[]) ∧ ∃ ys : List Nat, ys.Perm xs ∧ ys.Pairwise (fun a b => ∀ x y : Iv, K.L[a]? = some x → K.L[b]? = some y → endLt x y) ∧ AM K n c out hold ys (.slice (some ⟨g, 0, none⟩) xs.length cap) w' := by
  have hng := h.new g rfl
  by_cases h0 : xs = []
  · subst h0
    have h1 := AnyF.slices_SortFunc_none (P := Try.prog) (ρ := Try.scSort_ren) { Try.scSort with } (some ⟨g, 0, none⟩) cap (.func (.func 34) #[] #[.pointer (some ⟨bx, 0, none⟩)]) w
    refine h1.mono ?_
    rintro e w' ⟨rfl, rfl⟩
    exact ⟨rfl, [], List.Perm.refl _, List.Pairwise.nil, h⟩
  obtain ⟨m, rfl⟩ : ∃ m, n = m + 1 := ⟨n - 1, by
    cases xs with
    | nil => exact absurd rfl h0
    | cons x xs => have := hx x (by simp); omega⟩
  obtain ⟨l, hl⟩ := fin_list xs hx
  have hlen : l.length = xs.length := by rw [← hl]; simp
  have hln : l.Nodup := by
    rw [← hl] at hxn
    exact List.Pairwise.of_map (fun k => k.val) (fun a b h e => h (by rw [e])) hxn
  have hrow := h.hol
  rw [← hl, ← encF_map, List.length_map] at hrow
  have hne : bx ≠ g := by
    rcases h.hol.2 with ⟨hv, -⟩ | ⟨g', cap', cur', hv, -, hh, -⟩
    · cases hv
    · cases hv
      exact heap_ne hbx hh (by decide)
  obtain ⟨p1, p2⟩ := end_sorted nd l hln
  have hs := sl_sortFn 34 (enters_of Try.func34 (by kernel_rfl) rfl) #[.pointer (some ⟨bx, 0, none⟩)] (fun a b : Fin (m + 1) => cmpEnd (getI K.L a.val) (getI K.L b.val)) swo_end (tot_end hn nd) (g := g) (cap := cap) (l := l) (w := w) (by rw [hlen] at hrow ⊢; exact hrow)
    (by have := nodup_lt hxn hx; omega) (fun W hW x y => by
      have hW0 : Fr [K.b, K.pb, K.tb] K.w0 W := h.fr.trans' hW (fun _ _ e => e) (fun j hj e => by simp only [List.mem_cons, List.not_mem_nil, or_false] at e; omega)
      have hb1 := hW.heap (k := bx) (by simpa using hne) hbx
      have hb2 := hW.heap (k := K.b) (by have := h.apart.2.2.2 g rfl; simp; omega) h.box
      exact sc_occupy1 bx K.b K.la K.lc (m + 1) K.L x.val y.val _ _ W (cell_of_heap hb1 rfl) (cell_of_heap hb2 rfl) (hL.fr' hW0 h.nb) hn (getI_at (by omega)) (getI_at (by omega)))
  rw [hlen] at hs
  refine hs.mono ?_
  rintro e w' ⟨rfl, hF, hR⟩
  rw [← hl] 
  refine ⟨rfl, _, p1, p2, ?_⟩
  rw [hl]
  refine h.resort rfl hF (by simp [hlen]) ?_
  rw [encF_map] at hR
  simpa [hlen] using hR
end Go.Proofs.Ytomcfjckhajhmaa
