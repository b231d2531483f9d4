/- The document's cache (tappetref08): its memory; at, Get, Put, Drops, Clear, New. The document's cache: Put, Drops, Clear, New, Find. -/
import Derived.Test.YtofhgfgipdokbaaGreatDoorMCacA
import Derived.Test.YtofhgfgipdokbaaGreatDoorMWords
import Derived.Deep.RegionHeld3
import Derived.Deep.AppendLies
namespace Go.Proofs.YtofhgfgipdokbaaGreatDoor
open Go.RowKit

def Ln.rvals (l : Ln) : List Value := [.bool l.f, .int .u64 l.c, .int .u64 l.s, .int .u64 l.m]
def rlFlat (L : List Ln) : List Value := L.flatMap Ln.rvals
theorem rlFlat_len (L : List Ln) : (rlFlat L).length = L.length * 4 := by
  induction L with
  | nil => rfl
  | cons a l ih => simp only [rlFlat, List.flatMap_cons, List.length_append, List.length_cons] at ih ⊢; rw [ih]; simp [Ln.rvals]; omega
theorem rlFlat_app (A B : List Ln) : rlFlat (A ++ B) = rlFlat A ++ rlFlat B := by simp [rlFlat]
theorem rlFlat_at {L : List Ln} {i : Nat} {l : Ln} (h : L[i]? = some l) (j : Nat) (hj : j < 4) : (rlFlat L)[i * 4 + j]? = l.rvals[j]? := by
  have hi : i < L.length := (List.getElem?_eq_some_iff.1 h).1
  have e : rlFlat L = rlFlat (L.take i) ++ (l.rvals ++ rlFlat (L.drop (i + 1))) := by
    conv => lhs; rw [split_at h]
    rw [rlFlat_app]
    rfl
  have hl : (rlFlat (L.take i)).length = i * 4 := by rw [rlFlat_len, List.length_take, Nat.min_eq_left (by omega)]
  rw [e, List.getElem?_append_right (by omega), hl, Nat.add_sub_cancel_left, List.getElem?_append_left (by simpa [Ln.rvals] using hj)]
theorem rlFlat_set {L : List Ln} {i : Nat} (hi : i < L.length) (l : Ln) : ((((rlFlat L).set (i * 4) (.bool l.f)).set (i * 4 + 1) (.int .u64 l.c)).set (i * 4 + 2) (.int .u64 l.s)).set (i * 4 + 3) (.int .u64 l.m) = rlFlat (L.set i l) := by
  obtain ⟨o, ho⟩ : ∃ o, L[i]? = some o := ⟨_, List.getElem?_eq_getElem hi⟩
  have e : rlFlat L = rlFlat (L.take i) ++ (o.rvals ++ rlFlat (L.drop (i + 1))) := by
    conv => lhs; rw [split_at ho]
    rw [rlFlat_app]
    rfl
  have e2 : rlFlat (L.set i l) = rlFlat (L.take i) ++ (l.rvals ++ rlFlat (L.drop (i + 1))) := by
    have hs : (L.set i l)[i]? = some l := by rw [List.getElem?_set_self hi]
    conv => lhs; rw [split_at hs]
    rw [List.take_set_of_le (Nat.le_refl _), List.drop_set_of_lt (Nat.lt_succ_self _), rlFlat_app]
    rfl
  have hl : (rlFlat (L.take i)).length = i * 4 := by rw [rlFlat_len, List.length_take, Nat.min_eq_left (by omega)]
  rw [e, e2]
  rw [List.set_append_right _ _ (by omega), List.set_append_right _ _ (by omega), List.set_append_right _ _ (by omega), List.set_append_right _ _ (by omega), hl]
  simp only [Nat.sub_self, Nat.add_sub_cancel_left]
  rfl
/-- the document's cache at block cb, its lines at block lb -/
structure RcAt (w : World) (cb lb : Nat) (T : Tab) (ga : Option Addr) (gc : Nat) : Prop where
  box : w.heap[cb]? = some (.cells #[.slice (some ⟨lb, 0, none⟩) T.L.length T.L.length, .int .i64 T.r, .int .i64 T.k, .slice ga T.D.length gc] 55 (0, 0))
  lines : w.heap[lb]? = some (.cells (rlFlat T.L).toArray 84 (0, 0))
  gone : WordsAt w ga T.D
  gblk : ∀ a, ga = some a → ∃ cur, w.heap[a.block]? = some (.cells cur 24 (0, 0))
  gnil : ga = none → gc = 0 ∧ T.D = []
  n1 : 1 ≤ T.L.length
  n2 : T.L.length ≤ 256
  d64 : T.D.length ≤ 64
section
variable {w w' : World} {cb lb : Nat} {T : Tab} {ga : Option Addr} {gc : Nat}
theorem RcAt.cl (h : RcAt w cb lb T ga gc) : cb ≠ lb := tag_ne' h.box h.lines (by decide)
theorem RcAt.fr {S : List Nat} (h : RcAt w cb lb T ga gc) (hF : Fr S w w') (h1 : cb ∉ S) (h2 : lb ∉ S) (h3 : ∀ a, ga = some a → a.block ∉ S) : RcAt w' cb lb T ga gc :=
  ⟨hF.heap h1 h.box, hF.heap h2 h.lines, h.gone.fr hF h3, fun a ha => by obtain ⟨cur, hc⟩ := h.gblk a ha; exact ⟨cur, hF.heap (h3 a ha) hc⟩, h.gnil, h.n1, h.n2, h.d64⟩
theorem RcAt.fr0 (h : RcAt w cb lb T ga gc) (hF : Fr [] w w') : RcAt w' cb lb T ga gc := h.fr hF (by simp) (by simp) (fun _ _ => by simp)
theorem RcAt.gb (h : RcAt w cb lb T ga gc) {a : Addr} (ha : ga = some a) : a.block ≠ cb ∧ a.block ≠ lb := by
  obtain ⟨cur, hc⟩ := h.gblk a ha
  exact ⟨tag_ne' hc h.box (by decide), tag_ne' hc h.lines (by decide)⟩
/-- other lines -/
theorem RcAt.setLines (h : RcAt w cb lb T ga gc) {L' : List Ln} (hl : L'.length = T.L.length) (hF : Fr [lb] w w') (hh : w'.heap[lb]? = some (.cells (rlFlat L').toArray 84 (0, 0))) : RcAt w' cb lb { T with L := L' } ga gc := by
  refine ⟨?_, hh, h.gone.fr hF (fun a ha => by simpa using (h.gb ha).2), fun a ha => by obtain ⟨cur, hc⟩ := h.gblk a ha; exact ⟨cur, hF.heap (by simpa using (h.gb ha).2) hc⟩, h.gnil, ?_, ?_, h.d64⟩
  · have := hF.heap (k := cb) (by simpa using h.cl) h.box
    simpa [hl] using this
  · simpa [hl] using h.n1
  · simpa [hl] using h.n2
theorem rvals_at (h : RcAt w cb lb T ga gc) {i : Nat} {l : Ln} (hl : T.L[i]? = some l) :
    w.cell? ⟨lb, i * 4, none⟩ = some (.bool l.f) ∧ w.cell? ⟨lb, i * 4 + 1, none⟩ = some (.int .u64 l.c) ∧ w.cell? ⟨lb, i * 4 + 2, none⟩ = some (.int .u64 l.s) ∧ w.cell? ⟨lb, i * 4 + 3, none⟩ = some (.int .u64 l.m) := by
  have hh := fun j (hj : j < 4) => rlFlat_at hl j hj
  refine ⟨cell_of_heap h.lines ?_, cell_of_heap h.lines ?_, cell_of_heap h.lines ?_, cell_of_heap h.lines ?_⟩
  · have := hh 0 (by omega); simpa [Ln.rvals] using this
  · have := hh 1 (by omega); simpa [Ln.rvals] using this
  · have := hh 2 (by omega); simpa [Ln.rvals] using this
  · have := hh 3 (by omega); simpa [Ln.rvals] using this
theorem rheap_set4 {b i : Nat} {L : List Ln} {t : TypeId} (h : w.heap[b]? = some (.cells (rlFlat L).toArray t (0, 0))) (hi : i < L.length) (l : Ln) :
    ((((w.setCell ⟨b, i * 4, none⟩ (.bool l.f)).setCell ⟨b, i * 4 + 1, none⟩ (.int .u64 l.c)).setCell ⟨b, i * 4 + 2, none⟩ (.int .u64 l.s)).setCell ⟨b, i * 4 + 3, none⟩ (.int .u64 l.m)).heap[b]? = some (.cells (rlFlat (L.set i l)).toArray t (0, 0)) := by
  have h1 := heap_setCell_same h (o := i * 4) (.bool l.f)
  have h2 := heap_setCell_same h1 (o := i * 4 + 1) (.int .u64 l.c)
  have h3 := heap_setCell_same h2 (o := i * 4 + 2) (.int .u64 l.s)
  have h4 := heap_setCell_same h3 (o := i * 4 + 3) (.int .u64 l.m)
  rw [h4, ← rlFlat_set hi l]
  simp only [List.setIfInBounds_toArray]
theorem RcAt.cell0 (h : RcAt w cb lb T ga gc) : w.cell? ⟨cb, 0, none⟩ = some (.slice (some ⟨lb, 0, none⟩) T.L.length T.L.length) := cell_of_heap (o := 0) h.box rfl
theorem RcAt.cell1 (h : RcAt w cb lb T ga gc) : w.cell? ⟨cb, 1, none⟩ = some (.int .i64 T.r) := cell_of_heap (o := 1) h.box rfl
theorem RcAt.cell2 (h : RcAt w cb lb T ga gc) : w.cell? ⟨cb, 2, none⟩ = some (.int .i64 T.k) := cell_of_heap (o := 2) h.box rfl
theorem RcAt.cell3 (h : RcAt w cb lb T ga gc) : w.cell? ⟨cb, 3, none⟩ = some (.slice ga T.D.length gc) := cell_of_heap (o := 3) h.box rfl
set_option maxRecDepth 100000 in
set_option maxHeartbeats 1000000 in
theorem rat_at (h : RcAt w cb lb T ga gc) (c s : Int) (c1 : 0 ≤ c) (c2 : c ≤ 18446744073709551615) (s1 : 0 ≤ s) (s2 : s ≤ 18446744073709551615) :
    Calls Tryz.prog 34 #[.pointer (some ⟨cb, 0, none⟩), .int .u64 c, .int .u64 s] w (Gives (.int .i64 (ixN T.L.length c s : Nat)) w) := by
  have hb0 := And.intro (And.intro c1 c2) (And.intro s1 s2)
  clear hb0
  have hn1 := h.n1
  have hn2 := h.n2
  have hc0 := h.cell0
  clear h
  generalize T.L.length = n at *
  have hnz : ((n : Int) == 0) = false := by simp; omega
  have hnz' : ¬ n = 0 := by omega
  obtain ⟨i, hi⟩ : ∃ i, i = ixN n c s := ⟨_, rfl⟩
  have hil := ixN_lt hn1 c s
  have hw := ixN_tmod hn1 c s
  have hb := keyI_bd c s
  have hk : IntKind.u64.wrap (IntKind.u64.wrap (IntKind.u64.wrap (c.tdiv 2) * 31) + IntKind.u64.wrap (s.tdiv 2)) = keyI c s := rfl
  have hk2 := keyI_alt c1 c2 s1 s2
  rw [← hi] at hil hw ⊢
  generalize keyI c s = S at *
  have hil0 : (0 : Int) ≤ (i : Int) := by omega
  have hil1 : (i : Int) < (n : Int) := by omega
  clear hi hil
  go_enter Tryz.func34, Tryz.ntmps34
  go_wp2
  go_ret
  exact ⟨rfl, rfl⟩
set_option maxRecDepth 100000 in
set_option maxHeartbeats 2000000 in
theorem rget_at (h : RcAt w cb lb T ga gc) (c s : Int) (c1 : 0 ≤ c) (c2 : c ≤ 18446744073709551615) (s1 : 0 ≤ s) (s2 : s ≤ 18446744073709551615) :
    Calls Tryz.prog 22 #[.pointer (some ⟨cb, 0, none⟩), .int .u64 c, .int .u64 s] w (Still (.tuple #[.int .u64 (getM T.L c s), .bool (getB T.L c s)]) w) := by
  obtain ⟨l, hl⟩ := ln_at T h.n1 c s
  obtain ⟨g1, g2⟩ := get_of hl
  rw [g1, g2]
  have hp := fun w' (hF : Fr [] w w') => rat_at (h.fr0 hF) c s c1 c2 s1 s2
  have hil := ixN_lt h.n1 c s
  have hn2 := h.n2
  have hc0 := fun w' (hF : Fr [] w w') => (h.fr0 hF).cell0
  generalize ixN T.L.length c s = i at *
  obtain ⟨lc, ls, lf, lm⟩ := l
  have hv := fun w' (hF : Fr [] w w') => rvals_at (h.fr0 hF) hl
  simp only at hv
  generalize T.L.length = n at *
  have i0 : (0 : Int) ≤ (i : Int) := by omega
  have i1 : (i : Int) < (n : Int) := by omega
  clear g1 g2 h hl
  have hcc := hc0 w (Fr.refl _ _)
  obtain ⟨a0, a1, a2, a3⟩ := hv w (Fr.refl _ _)
  by_cases he : lc = c ∧ ls = s ∧ lf = true
  · obtain ⟨rfl, rfl, rfl⟩ := he
    have e1 : Ln.is ⟨lc, ls, true, lm⟩ lc ls = true := by simp [Ln.is]
    simp only [e1, if_true]
    clear e1
    go_enter Tryz.func22, Tryz.ntmps22
    go_wp2_with fail
    go_region_held3 (fun w' => w'.cell? ⟨cb, 0, none⟩ = some (.slice (some ⟨lb, 0, none⟩) n n) ∧ w'.cell? ⟨lb, i * 4, none⟩ = some (.bool true) ∧ w'.cell? ⟨lb, i * 4 + 1, none⟩ = some (.int .u64 lc) ∧ w'.cell? ⟨lb, i * 4 + 2, none⟩ = some (.int .u64 ls) ∧ w'.cell? ⟨lb, i * 4 + 3, none⟩ = some (.int .u64 lm))
      (go_keep)
      ((go_at_call 34; refine (hp _ (by first | exact (Fr.refl _ _).drew | exact ((Fr.refl _ _).drew).alloc _ | exact ((Fr.refl _ _).alloc _).drew | exact Fr.refl _ _)).mono ?_; rintro e w1 ⟨rfl, rfl⟩))
    all_goals (go_wp2_with fail)
    all_goals go_ret2
    all_goals exact ⟨rfl, by first | exact ((Fr.refl _ _).alloc _).drew | exact ((Fr.refl _ _).drew).alloc _⟩
  · have e1 : Ln.is ⟨lc, ls, lf, lm⟩ c s = false := by
      unfold Ln.is
      cases lf with
      | false => simp
      | true => simpa using fun h1 h2 => he ⟨h1, h2, rfl⟩
    simp only [e1, Bool.false_eq_true, if_false]
    clear e1
    cases lf with
    | false =>
      clear he
      go_enter Tryz.func22, Tryz.ntmps22
      go_wp2_with fail
      go_region_held3 (fun w' => w'.cell? ⟨cb, 0, none⟩ = some (.slice (some ⟨lb, 0, none⟩) n n) ∧ w'.cell? ⟨lb, i * 4, none⟩ = some (.bool false) ∧ w'.cell? ⟨lb, i * 4 + 1, none⟩ = some (.int .u64 lc) ∧ w'.cell? ⟨lb, i * 4 + 2, none⟩ = some (.int .u64 ls) ∧ w'.cell? ⟨lb, i * 4 + 3, none⟩ = some (.int .u64 lm))
        (go_keep)
        ((go_at_call 34; refine (hp _ (by first | exact (Fr.refl _ _).drew | exact ((Fr.refl _ _).drew).alloc _ | exact ((Fr.refl _ _).alloc _).drew | exact Fr.refl _ _)).mono ?_; rintro e w1 ⟨rfl, rfl⟩))
      all_goals (go_wp2_with fail)
      all_goals go_ret2
      all_goals exact ⟨rfl, by first | exact ((Fr.refl _ _).alloc _).drew | exact ((Fr.refl _ _).drew).alloc _⟩
    | true =>
      by_cases h1 : lc = c
      · subst h1
        have h2 : (ls == s) = false := by
          have : ls ≠ s := fun e => he ⟨rfl, e, rfl⟩
          simpa using this
        clear he
        go_enter Tryz.func22, Tryz.ntmps22
        go_wp2_with fail
        go_region_held3 (fun w' => w'.cell? ⟨cb, 0, none⟩ = some (.slice (some ⟨lb, 0, none⟩) n n) ∧ w'.cell? ⟨lb, i * 4, none⟩ = some (.bool true) ∧ w'.cell? ⟨lb, i * 4 + 1, none⟩ = some (.int .u64 lc) ∧ w'.cell? ⟨lb, i * 4 + 2, none⟩ = some (.int .u64 ls) ∧ w'.cell? ⟨lb, i * 4 + 3, none⟩ = some (.int .u64 lm))
          (go_keep)
          ((go_at_call 34; refine (hp _ (by first | exact (Fr.refl _ _).drew | exact ((Fr.refl _ _).drew).alloc _ | exact ((Fr.refl _ _).alloc _).drew | exact Fr.refl _ _)).mono ?_; rintro e w1 ⟨rfl, rfl⟩))
        all_goals (go_wp2_with fail)
        all_goals go_ret2
        all_goals exact ⟨rfl, by first | exact ((Fr.refl _ _).alloc _).drew | exact ((Fr.refl _ _).drew).alloc _⟩
      · have h1' : (lc == c) = false := by simpa using h1
        clear he h1
        go_enter Tryz.func22, Tryz.ntmps22
        go_wp2_with fail
        go_region_held3 (fun w' => w'.cell? ⟨cb, 0, none⟩ = some (.slice (some ⟨lb, 0, none⟩) n n) ∧ w'.cell? ⟨lb, i * 4, none⟩ = some (.bool true) ∧ w'.cell? ⟨lb, i * 4 + 1, none⟩ = some (.int .u64 lc) ∧ w'.cell? ⟨lb, i * 4 + 2, none⟩ = some (.int .u64 ls) ∧ w'.cell? ⟨lb, i * 4 + 3, none⟩ = some (.int .u64 lm))
          (go_keep)
          ((go_at_call 34; refine (hp _ (by first | exact (Fr.refl _ _).drew | exact ((Fr.refl _ _).drew).alloc _ | exact ((Fr.refl _ _).alloc _).drew | exact Fr.refl _ _)).mono ?_; rintro e w1 ⟨rfl, rfl⟩))
        all_goals (go_wp2_with fail)
        all_goals go_ret2
        all_goals exact ⟨rfl, by first | exact ((Fr.refl _ _).alloc _).drew | exact ((Fr.refl _ _).drew).alloc _⟩
end
/-- Returned v; the document's cache holds R' now. -/
def RTo (v : Value) (rc rl : Nat) (ga : Option Addr) (R' : Tab) (w : World) (e : Ending) (w' : World) : Prop := e = .returned v ∧ ∃ rl' ga' gc', RcAt w' rc rl' R' ga' gc' ∧ Fr [rc, rl] w w' ∧ (rl' = rl ∨ w.heap.size ≤ rl') ∧ ∀ a, ga' = some a → (∃ b, ga = some b ∧ a.block = b.block) ∨ w.heap.size ≤ a.block
end Go.Proofs.YtofhgfgipdokbaaGreatDoor
namespace Go.Proofs.YtofhgfgipdokbaaGreatDoor
open Go.RowKit

theorem infoRLine : (Tryz.prog.info? 84).map (fun i => (i.zero, i.size, i.bytes)) = some (some (.agg #[.bool false, .int .u64 0, .int .u64 0, .int .u64 0]), 4, 32) := by kernel_rfl
theorem rflat_fresh (n : Nat) : madeCells (Value.agg #[.bool false, .int .u64 0, .int .u64 0, .int .u64 0]).cells (n * 4) = (rlFlat (List.replicate n Ln.zero)).toArray := by
  rw [show (Value.agg #[.bool false, .int .u64 0, .int .u64 0, .int .u64 0]).cells = #[.bool false, .int .u64 0, .int .u64 0, .int .u64 0] from rfl]
  apply Array.toList_inj.1
  apply List.ext_getElem?
  intro k
  show _ = (rlFlat (List.replicate n Ln.zero))[k]?
  by_cases hk : k < n * 4
  · have h1 := rlFlat_at (L := List.replicate n Ln.zero) (i := k / 4) (l := Ln.zero) (by rw [List.getElem?_replicate, if_pos (by omega)]) (k % 4) (by omega)
    rw [show k / 4 * 4 + k % 4 = k by omega] at h1
    rw [h1, Array.getElem?_toList, Array.getElem?_eq_getElem (by rw [size_madeCells]; exact hk)]
    unfold madeCells
    simp only [Array.getElem_map, Array.getElem_range, List.size_toArray, List.length_cons, List.length_nil]
    have h4 : k % 4 < 4 := Nat.mod_lt _ (by omega)
    generalize k % 4 = j at *
    match j, h4 with
    | 0, _ => rfl
    | 1, _ => rfl
    | 2, _ => rfl
    | 3, _ => rfl
  · have h1 : (rlFlat (List.replicate n Ln.zero))[k]? = none := List.getElem?_eq_none (by rw [rlFlat_len]; simp; omega)
    have h2 : (madeCells #[Value.bool false, .int .u64 0, .int .u64 0, .int .u64 0] (n * 4))[k]? = none := Array.getElem?_eq_none (by rw [size_madeCells]; omega)
    rw [h1, Array.getElem?_toList, h2]
theorem makeRL (n : Nat) (h2 : n ≤ 256) (W : World) : (Instr.makeSlice 53 (.int .i64 (n : Int)) (.int .i64 (n : Int))).run Tryz.prog W = .ok (.slice (some ⟨W.heap.size, 0, none⟩) n n) (W.alloc (.cells (rlFlat (List.replicate n Ln.zero)).toArray 84)) := by
  obtain ⟨i0, hi, hz0, hz1, hz2⟩ := info_parts infoRLine
  have hr := run_make (P := Tryz.prog) W 53 84 i0 (.agg #[.bool false, .int .u64 0, .int .u64 0, .int .u64 0]) Tryz.underlying53 hi hz0 .i64 .i64 n n (by omega) (by omega) (by rw [hz2]; omega) (by omega)
  simp only [Int.toNat_natCast, hz1] at hr
  rw [← rflat_fresh]
  exact hr
theorem two_new8 (w : World) (a b : Obj) : ((w.alloc a).alloc b).heap[w.heap.size]? = some a ∧ ((w.alloc a).alloc b).heap[w.heap.size + 1]? = some b := by
  refine ⟨?_, ?_⟩
  · rw [Below.heap_alloc _ _ _ (by simp)]; exact heap_new w a
  · have := heap_new (w.alloc a) b
    simpa using this
set_option maxRecDepth 100000 in
set_option maxHeartbeats 1000000 in
theorem rnewNo (w : World) (n : Int) (h : n < 1 ∨ 256 < n) : Calls Tryz.prog 7 #[.int .i64 n] w (Still (.tuple #[.pointer none, .int .i64 1]) w) := by
  rcases h with h | h
  · go_enter Tryz.func7, Tryz.ntmps7
    go_wp2
    go_ret2
    exact ⟨rfl, Fr.refl _ _⟩
  · have h' : ¬ n < 1 := by omega
    go_enter Tryz.func7, Tryz.ntmps7
    go_wp2
    go_ret2
    exact ⟨rfl, Fr.refl _ _⟩
/-- Returned a new cache. -/
def MadeR (T : Tab) (w : World) (e : Ending) (w' : World) : Prop := ∃ rc rl, e = .returned (.tuple #[.pointer (some ⟨rc, 0, none⟩), .int .i64 0]) ∧ RcAt w' rc rl T none 0 ∧ Fr [] w w' ∧ w.heap.size ≤ rc ∧ w.heap.size ≤ rl
set_option maxRecDepth 100000 in
set_option maxHeartbeats 1000000 in
theorem rnewYes (w : World) (n : Nat) (h1 : 1 ≤ n) (h2 : n ≤ 256) : Calls Tryz.prog 7 #[.int .i64 n] w (MadeR (Tab.fresh n) w) := by
  have hm := fun W => makeRL n h2 W
  have a1 : ¬ (n : Int) < 1 := by omega
  have a2 : ¬ 256 < (n : Int) := by omega
  go_enter Tryz.func7, Tryz.ntmps7
  go_wp2
  go_ret2
  have e1 := two_new8 w (.cells (rlFlat (List.replicate n Ln.zero)).toArray 84) (.cells #[.slice (some ⟨w.heap.size, 0, none⟩) n n, .int .i64 0, .int .i64 0, .slice none 0 0] 55)
  refine ⟨w.heap.size + 1, w.heap.size, rfl, ⟨?_, e1.1, fun i x hx => by simp [Tab.fresh] at hx, fun a ha => (by cases ha), fun _ => ⟨rfl, rfl⟩, by simpa [Tab.fresh] using h1, by simpa [Tab.fresh] using h2, by simp [Tab.fresh]⟩, ((Fr.refl _ _).alloc _).alloc _, by omega, by omega⟩
  simpa [Tab.fresh] using e1.2
section
variable {w : World} {cb lb : Nat} {T : Tab} {ga : Option Addr} {gc : Nat}
set_option maxRecDepth 100000 in
set_option maxHeartbeats 1000000 in
theorem rput_at (h : RcAt w cb lb T ga gc) (c s m : Int) (c1 : 0 ≤ c) (c2 : c ≤ 18446744073709551615) (s1 : 0 ≤ s) (s2 : s ≤ 18446744073709551615) :
    Calls Tryz.prog 11 #[.pointer (some ⟨cb, 0, none⟩), .int .u64 c, .int .u64 s, .int .u64 m] w (RTo (.tuple #[]) cb lb ga { T with L := putL T.L c s m } w) := by
  obtain ⟨l, hl⟩ := ln_at T h.n1 c s
  have hil := ixN_lt h.n1 c s
  have hp := fun w' (hF : Fr [] w w') => rat_at (h.fr0 hF) c s c1 c2 s1 s2
  have H := Lib.hid h
  have hc0 := h.cell0
  have hn2 := h.n2
  unfold putL
  generalize ixN T.L.length c s = i at *
  have hv := fun w' (hF : Fr [] w w') => rvals_at (h.fr0 hF) hl
  have hz := fun w' (hF : Fr [] w w') (o : Nat) => frozen_of_heap (o := o) (h.fr0 hF).lines
  obtain ⟨n, hn⟩ : ∃ n, n = T.L.length := ⟨_, rfl⟩
  rw [← hn] at hc0 hil hn2
  have i0 : (0 : Int) ≤ (i : Int) := by omega
  have i1 : (i : Int) < (n : Int) := by omega
  have HIL : Hid (i < T.L.length) := Lib.hid (by rw [← hn]; exact hil)
  have hlb : lb < w.heap.size := lt_of_heap h.lines
  clear h hl hn
  go_enter Tryz.func11, Tryz.ntmps11
  have hne : cb ≠ lb := H.out.cl
  obtain ⟨v0, v1, v2, v3⟩ := hv w (Fr.refl _ _)
  have z0 := hz w (Fr.refl _ _) (i * 4)
  have z1 := hz w (Fr.refl _ _) (i * 4 + 1)
  have z2 := hz w (Fr.refl _ _) (i * 4 + 2)
  have z3 := hz w (Fr.refl _ _) (i * 4 + 3)
  go_wp2_with fail
  go_region_held3 (fun w' => w'.cell? ⟨cb, 0, none⟩ = some (.slice (some ⟨lb, 0, none⟩) n n))
    (first | (go_keep; done) | exact (((((Fr.refl [lb] w).setCell (p := ⟨lb, i * 4, none⟩) (fun _ => by simp) (.bool true)).setCell (p := ⟨lb, i * 4 + 1, none⟩) (fun _ => by simp) (.int .u64 c)).setCell (p := ⟨lb, i * 4 + 2, none⟩) (fun _ => by simp) (.int .u64 s)).setCell (p := ⟨lb, i * 4 + 3, none⟩) (fun _ => by simp) (.int .u64 m)).drew.cell (by simpa using hne) hc0)
    ((go_at_call 34; refine (hp _ (by first | exact (Fr.refl _ _).drew | exact Fr.refl _ _)).mono ?_; rintro e w1 ⟨rfl, rfl⟩))
  all_goals (go_wp2_with fail)
  all_goals go_end0
  all_goals
    have hh := rheap_set4 H.out.lines HIL.out ⟨c, s, true, m⟩
    have hF : Fr [lb] w _ := ((((Fr.refl [lb] w).setCell (p := ⟨lb, i * 4, none⟩) (fun _ => by simp) (.bool true)).setCell (p := ⟨lb, i * 4 + 1, none⟩) (fun _ => by simp) (.int .u64 c)).setCell (p := ⟨lb, i * 4 + 2, none⟩) (fun _ => by simp) (.int .u64 s)).setCell (p := ⟨lb, i * 4 + 3, none⟩) (fun _ => by simp) (.int .u64 m)
    exact ⟨rfl, lb, ga, gc, (H.out.setLines (by simp) hF hh).fr0 (Fr.refl _ _).drew, (hF.drew).mono (fun j _ hj => by simp at hj; simp [hj]), .inl rfl, fun a ha => .inl ⟨a, ha, rfl⟩⟩
set_option maxRecDepth 100000 in
set_option maxHeartbeats 1000000 in
theorem rdrops_at (h : RcAt w cb lb T ga gc) : Calls Tryz.prog 18 #[.pointer (some ⟨cb, 0, none⟩)] w (RTo (.slice ga T.D.length gc) cb lb ga { T with D := [] } w) := by
  have c3 := h.cell3
  have z3 := frozen_of_heap (o := 3) h.box
  have H := Lib.hid h
  have hlt := lt_of_heap h.box
  clear h
  go_enter Tryz.func18, Tryz.ntmps18
  go_wp2
  go_ret
  have hF : Fr [cb] w (w.setCell ⟨cb, 3, none⟩ (.slice none 0 0)) := (Fr.refl _ _).setCell (fun _ => by simp) _
  refine ⟨rfl, lb, none, 0, ⟨?_, hF.heap (by simpa using H.out.cl.symm) H.out.lines, fun i x hx => by simp at hx, fun a ha => (by cases ha), fun _ => ⟨rfl, rfl⟩, H.out.n1, H.out.n2, by simp⟩, hF.mono (fun j _ hj => by simp at hj; simp [hj]), .inl rfl, fun a ha => by cases ha⟩
  have := heap_setCell_same H.out.box (o := 3) (.slice none 0 0)
  simpa using this
set_option maxRecDepth 100000 in
set_option maxHeartbeats 1000000 in
theorem rclear_at (h : RcAt w cb lb T ga gc) : Calls Tryz.prog 15 #[.pointer (some ⟨cb, 0, none⟩)] w (RTo (.tuple #[]) cb lb ga { T with L := List.replicate T.L.length Ln.zero } w) := by
  have c0 := h.cell0
  have z0 := frozen_of_heap (o := 0) h.box
  have H := Lib.hid h
  have hlt := lt_of_heap h.box
  have hm := fun W => makeRL T.L.length h.n2 W
  clear h
  obtain ⟨n, hn⟩ : ∃ n, n = T.L.length := ⟨_, rfl⟩
  rw [← hn] at c0 hm
  have HN := Lib.hid hn
  clear hn
  go_enter Tryz.func15, Tryz.ntmps15
  go_wp2
  go_end0
  have hF : Fr [cb] w (w.setCell ⟨cb, 0, none⟩ (.slice (some ⟨w.heap.size, 0, none⟩) n n)) := (Fr.refl _ _).setCell (fun _ => by simp) _
  have hF2 := hF.alloc (.cells (rlFlat (List.replicate n Ln.zero)).toArray 84)
  have hh := heap_setCell_same H.out.box (o := 0) (.slice (some ⟨w.heap.size, 0, none⟩) n n)
  refine ⟨rfl, w.heap.size, ga, gc, ⟨?_, ?_, H.out.gone.fr hF2 (fun a ha => by simpa using (H.out.gb ha).1), fun a ha => by obtain ⟨cur, hc⟩ := H.out.gblk a ha; exact ⟨cur, hF2.heap (by simpa using (H.out.gb ha).1) hc⟩, H.out.gnil, by simpa using H.out.n1, by simpa using H.out.n2, H.out.d64⟩, hF2.mono (fun j _ hj => by simp at hj; simp [hj]), .inr (Nat.le_refl _), fun a ha => .inl ⟨a, ha, rfl⟩⟩
  · rw [Below.heap_alloc _ _ _ (by simpa using hlt)]
    simp only [List.length_replicate]
    rw [hh, ← HN.out]
    simp
  · have := heap_new (w.setCell ⟨cb, 0, none⟩ (.slice (some ⟨w.heap.size, 0, none⟩) n n)) (.cells (rlFlat (List.replicate n Ln.zero)).toArray 84)
    rw [← HN.out]
    simpa using this
end
end Go.Proofs.YtofhgfgipdokbaaGreatDoor
