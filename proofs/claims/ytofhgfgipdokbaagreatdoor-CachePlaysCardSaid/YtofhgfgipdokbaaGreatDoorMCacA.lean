/- A cache as plain lists: lines, the place of a key, what is found there. Plain, of no program. A cache's memory; where the line of a key is; what get and put do. What a cache's get, put and New do. What cache.New, and a cache's Get and Put do. What a cache's noteDrop, Drop and Drops do. What a cache's Drop and Drops do; a cache since a world w0. -/
import Derived.Test.YtofhgfgipdokbaaGreatDoorMBase
import Derived.Test.YtofhgfgipdokbaaGreatDoorMPlaces
import Derived.Deep.LoopGhost
import Derived.Lib.SliceRun
import Derived.Deep.RegionLaw
namespace Go.Proofs.YtofhgfgipdokbaaGreatDoor
open Go.RowKit

/-- a line: class, selector, is it full, method -/
structure Ln where
  c : Int
  s : Int
  f : Bool
  m : Int
def Ln.zero : Ln := ⟨0, 0, false, 0⟩
def Ln.vals (l : Ln) : List Value := [.int .u64 l.c, .int .u64 l.s, .bool l.f, .int .u64 l.m]
def lnFlat (L : List Ln) : List Value := L.flatMap Ln.vals
theorem lnFlat_len (L : List Ln) : (lnFlat L).length = L.length * 4 := by
  induction L with
  | nil => rfl
  | cons a l ih => simp only [lnFlat, List.flatMap_cons, List.length_append, List.length_cons] at ih ⊢; rw [ih]; simp [Ln.vals]; omega
theorem lnFlat_app (A B : List Ln) : lnFlat (A ++ B) = lnFlat A ++ lnFlat B := by simp [lnFlat]
theorem split_at {L : List Ln} {i : Nat} {l : Ln} (h : L[i]? = some l) : L = L.take i ++ (l :: L.drop (i + 1)) := by
  obtain ⟨hi, rfl⟩ := List.getElem?_eq_some_iff.1 h
  rw [List.getElem_cons_drop hi, List.take_append_drop]
theorem lnFlat_at {L : List Ln} {i : Nat} {l : Ln} (h : L[i]? = some l) (j : Nat) (hj : j < 4) : (lnFlat L)[i * 4 + j]? = l.vals[j]? := by
  have hi : i < L.length := (List.getElem?_eq_some_iff.1 h).1
  have e : lnFlat L = lnFlat (L.take i) ++ (l.vals ++ lnFlat (L.drop (i + 1))) := by
    conv => lhs; rw [split_at h]
    rw [lnFlat_app]
    rfl
  have hl : (lnFlat (L.take i)).length = i * 4 := by rw [lnFlat_len, List.length_take, Nat.min_eq_left (by omega)]
  rw [e, List.getElem?_append_right (by omega), hl, Nat.add_sub_cancel_left, List.getElem?_append_left (by simpa [Ln.vals] using hj)]
theorem lnFlat_set {L : List Ln} {i : Nat} (hi : i < L.length) (l : Ln) : ((((lnFlat L).set (i * 4) (.int .u64 l.c)).set (i * 4 + 1) (.int .u64 l.s)).set (i * 4 + 2) (.bool l.f)).set (i * 4 + 3) (.int .u64 l.m) = lnFlat (L.set i l) := by
  obtain ⟨o, ho⟩ : ∃ o, L[i]? = some o := ⟨_, List.getElem?_eq_getElem hi⟩
  have e : lnFlat L = lnFlat (L.take i) ++ (o.vals ++ lnFlat (L.drop (i + 1))) := by
    conv => lhs; rw [split_at ho]
    rw [lnFlat_app]
    rfl
  have e2 : lnFlat (L.set i l) = lnFlat (L.take i) ++ (l.vals ++ lnFlat (L.drop (i + 1))) := by
    have hs : (L.set i l)[i]? = some l := by rw [List.getElem?_set_self hi]
    conv => lhs; rw [split_at hs]
    rw [List.take_set_of_le (Nat.le_refl _), List.drop_set_of_lt (Nat.lt_succ_self _), lnFlat_app]
    rfl
  have hl : (lnFlat (L.take i)).length = i * 4 := by rw [lnFlat_len, List.length_take, Nat.min_eq_left (by omega)]
  rw [e, e2]
  rw [List.set_append_right _ _ (by omega), List.set_append_right _ _ (by omega), List.set_append_right _ _ (by omega), List.set_append_right _ _ (by omega), hl]
  simp only [Nat.sub_self, Nat.add_sub_cancel_left]
  rfl

/-- a key as a number, as the program reckons it -/
def keyI (c s : Int) : Int := IntKind.u64.wrap (IntKind.u64.wrap (IntKind.u64.wrap (c.tdiv 2) * 31) + IntKind.u64.wrap (s.tdiv 2))
theorem keyI_bd (c s : Int) : 0 ≤ keyI c s ∧ keyI c s ≤ 18446744073709551615 := by
  unfold keyI
  rw [IntKind.wrap_u64]
  omega
theorem keyI_alt {c s : Int} (c1 : 0 ≤ c) (c2 : c ≤ 18446744073709551615) (s1 : 0 ≤ s) (s2 : s ≤ 18446744073709551615) : IntKind.u64.wrap (IntKind.u64.wrap (c / 2 * 31) + s / 2) = keyI c s := by
  unfold keyI
  rw [Int.tdiv_eq_ediv_of_nonneg c1, Int.tdiv_eq_ediv_of_nonneg s1]
  have e1 : IntKind.u64.wrap (c / 2) = c / 2 := by rw [IntKind.wrap_u64]; omega
  have e2 : IntKind.u64.wrap (s / 2) = s / 2 := by rw [IntKind.wrap_u64]; omega
  rw [e1, e2]
/-- its place -/
def ixN (n : Nat) (c s : Int) : Nat := ((keyI c s).tmod n).toNat
theorem ixN_lt {n : Nat} (hn : 1 ≤ n) (c s : Int) : ixN n c s < n := by
  unfold ixN
  have h0 := (keyI_bd c s).1
  rw [Int.tmod_eq_emod_of_nonneg h0]
  have h1 := Int.emod_nonneg (keyI c s) (show (n : Int) ≠ 0 by omega)
  have h2 := Int.emod_lt_of_pos (keyI c s) (show (0 : Int) < (n : Int) by omega)
  omega
theorem ixN_tmod {n : Nat} (hn : 1 ≤ n) (c s : Int) : (keyI c s).tmod n = (ixN n c s : Int) := by
  unfold ixN
  have h0 := (keyI_bd c s).1
  rw [Int.tmod_eq_emod_of_nonneg h0]
  have h1 := Int.emod_nonneg (keyI c s) (show (n : Int) ≠ 0 by omega)
  omega
/-- is this line that of a key? -/
def Ln.is (l : Ln) (c s : Int) : Bool := l.c == c && l.s == s && l.f
/-- what get answers -/
def getM (L : List Ln) (c s : Int) : Int := match L[ixN L.length c s]? with | some l => if l.is c s then l.m else 0 | none => 0
def getB (L : List Ln) (c s : Int) : Bool := match L[ixN L.length c s]? with | some l => l.is c s | none => false
def putL (L : List Ln) (c s m : Int) : List Ln := L.set (ixN L.length c s) ⟨c, s, true, m⟩
def dropLn (s : Int) (l : Ln) : Ln := if l.s = s then Ln.zero else l
def dropL (L : List Ln) (s : Int) : List Ln := L.map (dropLn s)
/-- the first k lines were looked at -/
def dropTo (L : List Ln) (s : Int) (k : Nat) : List Ln := (L.take k).map (dropLn s) ++ L.drop k
theorem dropTo_len (L : List Ln) (s : Int) (k : Nat) : (dropTo L s k).length = L.length := by simp [dropTo]; omega
theorem dropTo_zero (L : List Ln) (s : Int) : dropTo L s 0 = L := by simp [dropTo]
theorem dropTo_all (L : List Ln) (s : Int) : dropTo L s L.length = dropL L s := by simp [dropTo, dropL]
theorem dropTo_at {L : List Ln} {s : Int} {k : Nat} {l : Ln} (h : L[k]? = some l) : (dropTo L s k)[k]? = some l := by
  have hk : k < L.length := (List.getElem?_eq_some_iff.1 h).1
  unfold dropTo
  rw [List.getElem?_append_right (by simp; omega)]
  simp only [List.length_map, List.length_take, List.getElem?_drop]
  rw [← h]; congr 1; omega
theorem dropTo_next {L : List Ln} {s : Int} {k : Nat} {l : Ln} (h : L[k]? = some l) : dropTo L s (k + 1) = (dropTo L s k).set k (dropLn s l) := by
  have hk : k < L.length := (List.getElem?_eq_some_iff.1 h).1
  unfold dropTo
  rw [List.set_append_right _ _ (by simp; omega)]
  have e0 : k - ((L.take k).map (dropLn s)).length = 0 := by simp; omega
  have e1 : L.drop k = l :: L.drop (k + 1) := by
    obtain ⟨_, rfl⟩ := List.getElem?_eq_some_iff.1 h
    exact (List.getElem_cons_drop hk).symm
  rw [e0, e1, List.set_cons_zero, List.take_add_one, h, List.map_append]
  simp
theorem dropTo_keep {L : List Ln} {s : Int} {k : Nat} {l : Ln} (h : L[k]? = some l) (hs : l.s ≠ s) : dropTo L s (k + 1) = dropTo L s k := by
  rw [dropTo_next h, dropLn, if_neg hs]
  have := dropTo_at (s := s) h
  obtain ⟨hh, e⟩ := List.getElem?_eq_some_iff.1 this
  rw [← e, List.set_getElem_self]
/-- selectors that were dropped, at most 64 -/
def noteL (D : List Int) (x : Int) : List Int := if D.length = 64 then D.drop 1 ++ [x] else D ++ [x]
theorem noteL_len {D : List Int} (h : D.length ≤ 64) (x : Int) : (noteL D x).length ≤ 64 := by
  unfold noteL
  split <;> simp <;> omega
theorem noteL_last (l : List Int) (k : Nat) (x : Int) (hx : l[k]? = some x) : noteL ((l.take k).drop (k - 64)) x = (l.take (k + 1)).drop (k + 1 - 64) := by
  have hk : k < l.length := (List.getElem?_eq_some_iff.1 hx).1
  have e : l.take (k + 1) = l.take k ++ [x] := by rw [List.take_add_one, hx]; rfl
  have hl : ((l.take k).drop (k - 64)).length = k - (k - 64) := by simp; omega
  unfold noteL
  rw [hl, e]
  split
  · rw [List.drop_append_of_le_length (by simp; omega), List.drop_drop, show k - 64 + 1 = k + 1 - 64 by omega]
  · rw [List.drop_append_of_le_length (by simp; omega), show k + 1 - 64 = k - 64 by omega]
end Go.Proofs.YtofhgfgipdokbaaGreatDoor
namespace Go.Proofs.YtofhgfgipdokbaaGreatDoor
open Go.RowKit

/-- what a cache holds: its lines, the selectors that were dropped, how many were remembered, how many looked up -/
structure Tab where
  L : List Ln
  D : List Int
  r : Int
  k : Int
/-- the table lies at block tb, its lines at block lb -/
structure TabAt (w : World) (tb lb : Nat) (T : Tab) (dv : Value) : Prop where
  tab : w.heap[tb]? = some (.cells #[.slice (some ⟨lb, 0, none⟩) T.L.length T.L.length, dv, .int .i64 T.r, .int .i64 T.k] 71 (0, 0))
  lines : w.heap[lb]? = some (.cells (lnFlat T.L).toArray 113 (0, 0))
  drops : w.ownsRow 0 24 1 dv T.D.length (T.D.map (Value.int .u64))
  n1 : 1 ≤ T.L.length
  n2 : T.L.length ≤ 256
  d64 : T.D.length ≤ 64
/-- the blocks of a table -/
def tfoot (tb lb : Nat) (dv : Value) : List Nat := tb :: lb :: dv.ownBlock.toList
theorem tag_ne' {w : World} {a b : Nat} {x y : Array Value} {s t : TypeId} {f g : Nat × Nat} (h : w.heap[a]? = some (.cells x s f)) (k : w.heap[b]? = some (.cells y t g)) (hst : s ≠ t) : a ≠ b := by
  rintro rfl
  rw [h] at k
  cases k
  exact hst rfl
theorem own_heap {w : World} {e : TypeId} {v : Value} {n : Nat} {xs : List Value} (h : w.ownsRow 0 e 1 v n xs) {b : Nat} (hb : v.ownBlock = some b) : ∃ cur, w.heap[b]? = some (.cells cur e (0, 0)) := by
  rcases h.2 with ⟨hn, -⟩ | ⟨g', cap, cur, rfl, _, hgg, -⟩
  · rw [hn] at hb; cases hb
  · cases hb
    exact ⟨cur, hgg⟩
theorem own_mem {v : Value} {b : Nat} : b ∈ v.ownBlock.toList ↔ v.ownBlock = some b := by
  cases v.ownBlock <;> simp [eq_comm]
section
variable {w w' : World} {tb lb : Nat} {T : Tab} {dv : Value}
theorem TabAt.fr {S : List Nat} (h : TabAt w tb lb T dv) (hF : Fr S w w') (hS : ∀ k ∈ tfoot tb lb dv, k ∉ S) : TabAt w' tb lb T dv :=
  ⟨hF.heap (hS tb (by simp [tfoot])) h.tab, hF.heap (hS lb (by simp [tfoot])) h.lines, hF.row h.drops (fun k hk => hS k (by simp [tfoot, hk])), h.n1, h.n2, h.d64⟩
theorem TabAt.fr0 (h : TabAt w tb lb T dv) (hF : Fr [] w w') : TabAt w' tb lb T dv := h.fr hF (fun _ _ => by simp)
theorem TabAt.lt (h : TabAt w tb lb T dv) : ∀ k ∈ tfoot tb lb dv, k < w.heap.size := by
  intro k hk
  simp only [tfoot, List.mem_cons] at hk
  rcases hk with rfl | rfl | hk
  · exact lt_of_heap h.tab
  · exact lt_of_heap h.lines
  · rw [own_mem] at hk
    obtain ⟨cur, hc⟩ := own_heap h.drops hk
    exact lt_of_heap hc
theorem TabAt.tl (h : TabAt w tb lb T dv) : tb ≠ lb := tag_ne' h.tab h.lines (by decide)
theorem TabAt.dt (h : TabAt w tb lb T dv) : dv.ownBlock ≠ some tb := by
  intro e
  obtain ⟨cur, hc⟩ := own_heap h.drops e
  exact tag_ne' h.tab hc (by decide) rfl
theorem TabAt.dl (h : TabAt w tb lb T dv) : dv.ownBlock ≠ some lb := by
  intro e
  obtain ⟨cur, hc⟩ := own_heap h.drops e
  exact tag_ne' h.lines hc (by decide) rfl
theorem TabAt.cell0 (h : TabAt w tb lb T dv) : w.cell? ⟨tb, 0, none⟩ = some (.slice (some ⟨lb, 0, none⟩) T.L.length T.L.length) := cell_of_heap (o := 0) h.tab rfl
theorem TabAt.cell1 (h : TabAt w tb lb T dv) : w.cell? ⟨tb, 1, none⟩ = some dv := cell_of_heap (o := 1) h.tab rfl
theorem TabAt.cell2 (h : TabAt w tb lb T dv) : w.cell? ⟨tb, 2, none⟩ = some (.int .i64 T.r) := cell_of_heap (o := 2) h.tab rfl
theorem TabAt.cell3 (h : TabAt w tb lb T dv) : w.cell? ⟨tb, 3, none⟩ = some (.int .i64 T.k) := cell_of_heap (o := 3) h.tab rfl
/-- other lines -/
theorem TabAt.setLines (h : TabAt w tb lb T dv) {L' : List Ln} (hl : L'.length = T.L.length) (hF : Fr [lb] w w') (hh : w'.heap[lb]? = some (.cells (lnFlat L').toArray 113 (0, 0))) : TabAt w' tb lb { T with L := L' } dv := by
  refine ⟨?_, hh, hF.row h.drops (fun k hk => by rw [List.mem_singleton]; rintro rfl; exact h.dl hk), ?_, ?_, h.d64⟩
  · have := hF.heap (k := tb) (by simpa using h.tl) h.tab
    simpa [hl] using this
  · simpa [hl] using h.n1
  · simpa [hl] using h.n2
end

/-! place -/
set_option maxRecDepth 100000 in
set_option maxHeartbeats 1000000 in
theorem cplace_at {w : World} {tb lb : Nat} {T : Tab} {dv : Value} (h : TabAt w tb lb T dv) (c s : Int) (f : Bool) (c1 : 0 ≤ c) (c2 : c ≤ 18446744073709551615) (s1 : 0 ≤ s) (s2 : s ≤ 18446744073709551615) :
    Calls Tryz.prog 49 #[.pointer (some ⟨tb, 0, none⟩), .agg #[.int .u64 c, .int .u64 s, .bool f]] w (Still (.pointer (some ⟨lb, ixN T.L.length c s * 4, none⟩)) w) := by
  have hb0 := And.intro (And.intro c1 c2) (And.intro s1 s2)   -- on some seats the walk asks for these bounds
  clear hb0
  have hn1 := h.n1
  have hn2 := h.n2
  have hc0 : w.cell? ⟨tb, 0, none⟩ = some (.slice (some ⟨lb, 0, none⟩) T.L.length T.L.length) := cell_of_heap (o := 0) h.tab rfl
  have hlt := lt_of_heap h.tab
  clear h
  generalize T.L.length = n at *
  have hnz : ((n : Int) == 0) = false := by simp; omega
  have hnz' : ¬ n = 0 := by omega
  obtain ⟨i, hi⟩ : ∃ i, i = ixN n c s := ⟨_, rfl⟩
  have hil := ixN_lt hn1 c s
  have hw := ixN_tmod hn1 c s
  have hb := keyI_bd c s
  have hk : IntKind.u64.wrap (IntKind.u64.wrap (IntKind.u64.wrap (c.tdiv 2) * 31) + IntKind.u64.wrap (s.tdiv 2)) = keyI c s := rfl
  rw [← hi] at hil hw ⊢
  generalize keyI c s = S at *
  have hil0 : (0 : Int) ≤ (i : Int) := by omega
  have hil1 : (i : Int) < (n : Int) := by omega
  clear hi hil
  go_enter Tryz.func49, Tryz.ntmps49
  go_wp2
  go_quiet (fail)
  go_wp2
  go_ret
  exact ⟨rfl, ((Fr.refl _ _).alloc _).drewN _⟩
theorem keyOf_at (w : World) (c s : Int) : Calls Tryz.prog 33 #[.int .u64 c, .int .u64 s] w (Still (.agg #[.int .u64 c, .int .u64 s, .bool true]) w) := by
  go_enter Tryz.func33, Tryz.ntmps33
  go_wp2
  refine bodyPost_ret (v := .agg #[.int .u64 c, .int .u64 s, .bool true]) (by simp [results, Tryz.results33, go_sem]) rfl ⟨rfl, (Fr.refl _ _).alloc _⟩
theorem table_at {w : World} {cb tb : Nat} (h : w.heap[cb]? = some (.cells #[.pointer (some ⟨tb, 0, none⟩)] 73 (0, 0))) : Calls Tryz.prog 31 #[.pointer (some ⟨cb, 0, none⟩)] w (Still (.pointer (some ⟨tb, 0, none⟩)) w) := by
  have hc0 : w.cell? ⟨cb, 0, none⟩ = some (.pointer (some ⟨tb, 0, none⟩)) := cell_of_heap (o := 0) h rfl
  clear h
  go_enter Tryz.func31, Tryz.ntmps31
  go_wp2
  go_ret
  exact ⟨rfl, Fr.refl _ _⟩
theorem newNo (w : World) (n : Int) (h : n < 1 ∨ 256 < n) : Calls Tryz.prog 6 #[.int .i64 n] w (Still (.tuple #[.pointer none, .int .i64 1]) w) := by
  rcases h with h | h
  · go_enter Tryz.func6, Tryz.ntmps6
    go_wp2
    go_ret2
    exact ⟨rfl, Fr.refl _ _⟩
  · have h' : ¬ n < 1 := by omega
    go_enter Tryz.func6, Tryz.ntmps6
    go_wp2
    go_ret2
    exact ⟨rfl, Fr.refl _ _⟩
theorem infoLine : (Tryz.prog.info? 113).map (fun i => (i.zero, i.size, i.bytes)) = some (some (.agg #[.int .u64 0, .int .u64 0, .bool false, .int .u64 0]), 4, 32) := by kernel_rfl
end Go.Proofs.YtofhgfgipdokbaaGreatDoor
namespace Go.Proofs.YtofhgfgipdokbaaGreatDoor
open Go.RowKit

theorem vals_at {w : World} {tb lb : Nat} {T : Tab} {dv : Value} (h : TabAt w tb lb T dv) {i : Nat} {l : Ln} (hl : T.L[i]? = some l) :
    w.cell? ⟨lb, i * 4, none⟩ = some (.int .u64 l.c) ∧ w.cell? ⟨lb, i * 4 + 1, none⟩ = some (.int .u64 l.s) ∧ w.cell? ⟨lb, i * 4 + 2, none⟩ = some (.bool l.f) ∧ w.cell? ⟨lb, i * 4 + 3, none⟩ = some (.int .u64 l.m) := by
  have hh := fun j (hj : j < 4) => lnFlat_at hl j hj
  refine ⟨cell_of_heap h.lines ?_, cell_of_heap h.lines ?_, cell_of_heap h.lines ?_, cell_of_heap h.lines ?_⟩
  · have := hh 0 (by omega); simpa [Ln.vals] using this
  · have := hh 1 (by omega); simpa [Ln.vals] using this
  · have := hh 2 (by omega); simpa [Ln.vals] using this
  · have := hh 3 (by omega); simpa [Ln.vals] using this
theorem ln_at (T : Tab) (hn : 1 ≤ T.L.length) (c s : Int) : ∃ l, T.L[ixN T.L.length c s]? = some l := ⟨_, List.getElem?_eq_getElem (ixN_lt hn c s)⟩
theorem get_of {L : List Ln} {c s : Int} {l : Ln} (h : L[ixN L.length c s]? = some l) : getM L c s = (if l.is c s then l.m else 0) ∧ getB L c s = l.is c s := by
  unfold getM getB; rw [h]; exact ⟨rfl, rfl⟩
theorem key_cells {w w1 : World} {c s : Int} {f : Bool} (hF : Fr [] (w.alloc (.cells #[.int .u64 c, .int .u64 s, .bool f] 81)) w1) :
    w1.cell? ⟨w.heap.size, 0, none⟩ = some (.int .u64 c) ∧ w1.cell? ⟨w.heap.size, 1, none⟩ = some (.int .u64 s) ∧ w1.cell? ⟨w.heap.size, 2, none⟩ = some (.bool f) := by
  have h := hF.heap (k := w.heap.size) (by simp) (heap_new w _)
  exact ⟨cell_of_heap h rfl, cell_of_heap h rfl, cell_of_heap h rfl⟩
set_option maxRecDepth 100000 in
set_option maxHeartbeats 1000000 in
theorem tget_at {w : World} {tb lb : Nat} {T : Tab} {dv : Value} (h : TabAt w tb lb T dv) (c s : Int) (c1 : 0 ≤ c) (c2 : c ≤ 18446744073709551615) (s1 : 0 ≤ s) (s2 : s ≤ 18446744073709551615) :
    Calls Tryz.prog 39 #[.pointer (some ⟨tb, 0, none⟩), .agg #[.int .u64 c, .int .u64 s, .bool true]] w (Still (.tuple #[.int .u64 (getM T.L c s), .bool (getB T.L c s)]) w) := by
  obtain ⟨l, hl⟩ := ln_at T h.n1 c s
  obtain ⟨g1, g2⟩ := get_of hl
  rw [g1, g2]
  have hF0 : Fr [] w (w.alloc (.cells #[.int .u64 c, .int .u64 s, .bool true] 81)) := (Fr.refl _ _).alloc _
  have hp := cplace_at (h.fr0 hF0) c s true c1 c2 s1 s2
  have H := Lib.hid h
  generalize ixN T.L.length c s = i at *
  obtain ⟨lc, ls, lf, lm⟩ := l
  have hv := fun w' (hF : Fr [] w w') => vals_at (h.fr0 hF) hl
  simp only at hv
  clear g1 g2 h hl hF0
  by_cases he : lc = c ∧ ls = s ∧ lf = true
  · obtain ⟨rfl, rfl, rfl⟩ := he
    have e1 : Ln.is ⟨lc, ls, true, lm⟩ lc ls = true := by simp [Ln.is]
    simp only [e1, if_true]
    clear e1
    go_enter Tryz.func39, Tryz.ntmps39
    go_wp2_with (go_at_call 49; refine hp.mono ?_; rintro e w1 ⟨rfl, hF1⟩; obtain ⟨k0, k1, k2⟩ := key_cells hF1; obtain ⟨v0, v1, v2, v3⟩ := hv w1 (((Fr.refl _ _).alloc _).trans hF1); have HF1 := Lib.hid hF1; clear hF1)
    go_quiet (fail)
    go_wp2
    go_ret2
    exact ⟨rfl, (((Fr.refl _ _).alloc _).trans HF1.out).drewN _⟩
  · have e1 : Ln.is ⟨lc, ls, lf, lm⟩ c s = false := by
      unfold Ln.is
      cases lf with
      | false => simp
      | true => simpa using fun h1 h2 => he ⟨h1, h2, rfl⟩
    simp only [e1, Bool.false_eq_true, if_false]
    clear e1
    by_cases h1 : lc = c
    · subst h1
      by_cases h2 : ls = s
      · subst h2
        have h3 : lf = false := by
          cases lf with
          | false => rfl
          | true => exact absurd ⟨rfl, rfl, rfl⟩ he
        subst h3
        clear he
        go_enter Tryz.func39, Tryz.ntmps39
        go_wp2_with (go_at_call 49; refine hp.mono ?_; rintro e w1 ⟨rfl, hF1⟩; obtain ⟨k0, k1, k2⟩ := key_cells hF1; obtain ⟨v0, v1, v2, v3⟩ := hv w1 (((Fr.refl _ _).alloc _).trans hF1); have HF1 := Lib.hid hF1; clear hF1)
        go_quiet (fail)
        go_wp2
        go_ret2
        exact ⟨rfl, (((Fr.refl _ _).alloc _).trans HF1.out).drewN _⟩
      · have h2' : (ls == s) = false := by simpa using h2
        clear he h2
        go_enter Tryz.func39, Tryz.ntmps39
        go_wp2_with (go_at_call 49; refine hp.mono ?_; rintro e w1 ⟨rfl, hF1⟩; obtain ⟨k0, k1, k2⟩ := key_cells hF1; obtain ⟨v0, v1, v2, v3⟩ := hv w1 (((Fr.refl _ _).alloc _).trans hF1); have HF1 := Lib.hid hF1; clear hF1)
        go_quiet (fail)
        go_wp2
        go_ret2
        exact ⟨rfl, (((Fr.refl _ _).alloc _).trans HF1.out).drewN _⟩
    · have h1' : (lc == c) = false := by simpa using h1
      clear he h1
      go_enter Tryz.func39, Tryz.ntmps39
      go_wp2_with (go_at_call 49; refine hp.mono ?_; rintro e w1 ⟨rfl, hF1⟩; obtain ⟨k0, k1, k2⟩ := key_cells hF1; obtain ⟨v0, v1, v2, v3⟩ := hv w1 (((Fr.refl _ _).alloc _).trans hF1); have HF1 := Lib.hid hF1; clear hF1)
      go_quiet (fail)
      go_wp2
      go_ret2
      exact ⟨rfl, (((Fr.refl _ _).alloc _).trans HF1.out).drewN _⟩
/-! put -/
/-- Returned nothing; the lines are L' now, and only their block has changed. -/
def Lines (tb lb : Nat) (T : Tab) (dv : Value) (L' : List Ln) (w : World) (e : Ending) (w' : World) : Prop := e = .returned (.tuple #[]) ∧ TabAt w' tb lb { T with L := L' } dv ∧ Fr [lb] w w'
theorem heap_set4 {w : World} {b i : Nat} {L : List Ln} {t : TypeId} (h : w.heap[b]? = some (.cells (lnFlat L).toArray t (0, 0))) (hi : i < L.length) (l : Ln) :
    ((((w.setCell ⟨b, i * 4, none⟩ (.int .u64 l.c)).setCell ⟨b, i * 4 + 1, none⟩ (.int .u64 l.s)).setCell ⟨b, i * 4 + 2, none⟩ (.bool l.f)).setCell ⟨b, i * 4 + 3, none⟩ (.int .u64 l.m)).heap[b]? = some (.cells (lnFlat (L.set i l)).toArray t (0, 0)) := by
  have h1 := heap_setCell_same h (o := i * 4) (.int .u64 l.c)
  have h2 := heap_setCell_same h1 (o := i * 4 + 1) (.int .u64 l.s)
  have h3 := heap_setCell_same h2 (o := i * 4 + 2) (.bool l.f)
  have h4 := heap_setCell_same h3 (o := i * 4 + 3) (.int .u64 l.m)
  rw [h4, ← lnFlat_set hi l]
  simp only [List.setIfInBounds_toArray]
set_option maxRecDepth 100000 in
set_option maxHeartbeats 1000000 in
theorem tput_at {w : World} {tb lb : Nat} {T : Tab} {dv : Value} (h : TabAt w tb lb T dv) (c s m : Int) (c1 : 0 ≤ c) (c2 : c ≤ 18446744073709551615) (s1 : 0 ≤ s) (s2 : s ≤ 18446744073709551615) :
    Calls Tryz.prog 32 #[.pointer (some ⟨tb, 0, none⟩), .agg #[.int .u64 c, .int .u64 s, .bool true], .int .u64 m] w (Lines tb lb T dv (putL T.L c s m) w) := by
  obtain ⟨l, hl⟩ := ln_at T h.n1 c s
  have hil := ixN_lt h.n1 c s
  have hF0 : Fr [] w (w.alloc (.cells #[.int .u64 c, .int .u64 s, .bool true] 81)) := (Fr.refl _ _).alloc _
  have hp := cplace_at (h.fr0 hF0) c s true c1 c2 s1 s2
  have H := Lib.hid h
  unfold putL
  generalize ixN T.L.length c s = i at *
  have hv := fun w' (hF : Fr [] w w') => vals_at (h.fr0 hF) hl
  have hz := fun w' (hF : Fr [] w w') (o : Nat) => frozen_of_heap (o := o) (h.fr0 hF).lines
  have HIL := Lib.hid hil
  clear h hl hF0 hil
  go_enter Tryz.func32, Tryz.ntmps32
  go_wp2_with (go_at_call 49; refine hp.mono ?_; rintro e w1 ⟨rfl, hF1⟩; obtain ⟨k0, k1, k2⟩ := key_cells hF1; obtain ⟨v0, v1, v2, v3⟩ := hv w1 (((Fr.refl _ _).alloc _).trans hF1); have z0 := hz w1 (((Fr.refl _ _).alloc _).trans hF1) (i * 4); have z1 := hz w1 (((Fr.refl _ _).alloc _).trans hF1) (i * 4 + 1); have z2 := hz w1 (((Fr.refl _ _).alloc _).trans hF1) (i * 4 + 2); have z3 := hz w1 (((Fr.refl _ _).alloc _).trans hF1) (i * 4 + 3); have HF1 := Lib.hid hF1; clear hF1)
  go_end0
  have hT := H.out.fr0 (((Fr.refl _ _).alloc _).trans HF1.out)
  have hh := heap_set4 hT.lines HIL.out ⟨c, s, true, m⟩
  have hF : Fr [lb] w1 _ := ((((Fr.refl [lb] w1).setCell (p := ⟨lb, i * 4, none⟩) (fun _ => by simp) (.int .u64 c)).setCell (p := ⟨lb, i * 4 + 1, none⟩) (fun _ => by simp) (.int .u64 s)).setCell (p := ⟨lb, i * 4 + 2, none⟩) (fun _ => by simp) (.bool true)).setCell (p := ⟨lb, i * 4 + 3, none⟩) (fun _ => by simp) (.int .u64 m)
  exact ⟨rfl, hT.setLines (by simp) hF hh, ((((Fr.refl [] w).alloc _).trans HF1.out).weak).trans hF⟩
end Go.Proofs.YtofhgfgipdokbaaGreatDoor
namespace Go.Proofs.YtofhgfgipdokbaaGreatDoor
open Go.RowKit

def Tab.fresh (n : Nat) : Tab := ⟨List.replicate n Ln.zero, [], 0, 0⟩
theorem flat_fresh (n : Nat) : madeCells (Value.agg #[.int .u64 0, .int .u64 0, .bool false, .int .u64 0]).cells (n * 4) = (lnFlat (List.replicate n Ln.zero)).toArray := by
  rw [show (Value.agg #[.int .u64 0, .int .u64 0, .bool false, .int .u64 0]).cells = #[.int .u64 0, .int .u64 0, .bool false, .int .u64 0] from rfl]
  apply Array.toList_inj.1
  apply List.ext_getElem?
  intro k
  show _ = (lnFlat (List.replicate n Ln.zero))[k]?
  by_cases hk : k < n * 4
  · have h1 := lnFlat_at (L := List.replicate n Ln.zero) (i := k / 4) (l := Ln.zero) (by rw [List.getElem?_replicate, if_pos (by omega)]) (k % 4) (by omega)
    rw [show k / 4 * 4 + k % 4 = k by omega] at h1
    rw [h1, Array.getElem?_toList, Array.getElem?_eq_getElem (by rw [size_madeCells]; exact hk)]
    unfold madeCells
    simp only [Array.getElem_map, Array.getElem_range, List.size_toArray, List.length_cons, List.length_nil]
    have h4 : k % 4 < 4 := Nat.mod_lt _ (by omega)
    generalize k % 4 = j at *
    match j, h4 with
    | 0, _ => rfl
    | 1, _ => rfl
    | 2, _ => rfl
    | 3, _ => rfl
  · have h1 : (lnFlat (List.replicate n Ln.zero))[k]? = none := List.getElem?_eq_none (by rw [lnFlat_len]; simp; omega)
    have h2 : (madeCells #[Value.int .u64 0, .int .u64 0, .bool false, .int .u64 0] (n * 4))[k]? = none := Array.getElem?_eq_none (by rw [size_madeCells]; omega)
    rw [h1, Array.getElem?_toList, h2]
theorem three_new8 (w : World) (a b c : Obj) : (((w.alloc a).alloc b).alloc c).heap[w.heap.size]? = some a ∧ (((w.alloc a).alloc b).alloc c).heap[w.heap.size + 1]? = some b ∧ (((w.alloc a).alloc b).alloc c).heap[w.heap.size + 1 + 1]? = some c := by
  refine ⟨?_, ?_, ?_⟩
  · rw [Below.heap_alloc _ _ _ (by simp; omega), Below.heap_alloc _ _ _ (by simp)]; exact heap_new w a
  · rw [Below.heap_alloc _ _ _ (by simp)]
    have := heap_new (w.alloc a) b
    simpa using this
  · have := heap_new ((w.alloc a).alloc b) c
    simpa using this
/-- a cache at block cb -/
structure CacAt (w : World) (cb tb lb : Nat) (T : Tab) (dv : Value) : Prop where
  box : w.heap[cb]? = some (.cells #[.pointer (some ⟨tb, 0, none⟩)] 73 (0, 0))
  tab : TabAt w tb lb T dv
/-- Returned a new cache. -/
def MadeC (T : Tab) (w : World) (e : Ending) (w' : World) : Prop :=
  ∃ cb tb lb dv, e = .returned (.tuple #[.pointer (some ⟨cb, 0, none⟩), .int .i64 0]) ∧ CacAt w' cb tb lb T dv ∧ Fr [] w w' ∧ w.heap.size ≤ cb ∧ ∀ k ∈ tfoot tb lb dv, w.heap.size ≤ k
theorem makeL (n : Nat) (h2 : n ≤ 256) (W : World) : (Instr.makeSlice 69 (.int .i64 (n : Int)) (.int .i64 (n : Int))).run Tryz.prog W = .ok (.slice (some ⟨W.heap.size, 0, none⟩) n n) (W.alloc (.cells (lnFlat (List.replicate n Ln.zero)).toArray 113)) := by
  obtain ⟨i0, hi, hz0, hz1, hz2⟩ := info_parts infoLine
  have hr := run_make (P := Tryz.prog) W 69 113 i0 (.agg #[.int .u64 0, .int .u64 0, .bool false, .int .u64 0]) Tryz.underlying69 hi hz0 .i64 .i64 n n (by omega) (by omega) (by rw [hz2]; omega) (by omega)
  simp only [Int.toNat_natCast, hz1] at hr
  rw [← flat_fresh]
  exact hr
set_option maxRecDepth 100000 in
set_option maxHeartbeats 1000000 in
theorem newYes (w : World) (n : Nat) (h1 : 1 ≤ n) (h2 : n ≤ 256) : Calls Tryz.prog 6 #[.int .i64 n] w (MadeC (Tab.fresh n) w) := by
  have hm := fun W => makeL n h2 W
  have a1 : ¬ (n : Int) < 1 := by omega
  have a2 : ¬ 256 < (n : Int) := by omega
  go_enter Tryz.func6, Tryz.ntmps6
  go_wp2
  go_ret2
  have e1 : ((((w.alloc (.cells (lnFlat (List.replicate n Ln.zero)).toArray 113)).alloc (.cells #[.slice (some ⟨w.heap.size, 0, none⟩) n n, .slice none 0 0, .int .i64 0, .int .i64 0] 71)).alloc (.cells #[.pointer (some ⟨w.heap.size + 1, 0, none⟩)] 73))).heap[w.heap.size]? = _ := (three_new8 w _ _ _).1
  have e2 := (three_new8 w (.cells (lnFlat (List.replicate n Ln.zero)).toArray 113) (.cells #[.slice (some ⟨w.heap.size, 0, none⟩) n n, .slice none 0 0, .int .i64 0, .int .i64 0] 71) (.cells #[.pointer (some ⟨w.heap.size + 1, 0, none⟩)] 73)).2
  refine ⟨w.heap.size + 1 + 1, w.heap.size + 1, w.heap.size, .slice none 0 0, rfl, ⟨e2.2, ?_, e1, ⟨rfl, .inl ⟨rfl, rfl⟩⟩, by simpa [Tab.fresh] using h1, by simpa [Tab.fresh] using h2, by simp [Tab.fresh]⟩, (((Fr.refl _ _).alloc _).alloc _).alloc _, by omega, by simp [tfoot, Value.ownBlock]⟩
  simpa [Tab.fresh] using e2.1
/-! Get, Put of a cache -/
section
variable {w : World} {cb tb lb : Nat} {T : Tab} {dv : Value}
theorem CacAt.fr {S : List Nat} {w' : World} (h : CacAt w cb tb lb T dv) (hF : Fr S w w') (hc : cb ∉ S) (hS : ∀ k ∈ tfoot tb lb dv, k ∉ S) : CacAt w' cb tb lb T dv := ⟨hF.heap hc h.box, h.tab.fr hF hS⟩
theorem CacAt.fr0 {w' : World} (h : CacAt w cb tb lb T dv) (hF : Fr [] w w') : CacAt w' cb tb lb T dv := h.fr hF (by simp) (fun _ _ => by simp)
theorem CacAt.cl (h : CacAt w cb tb lb T dv) : cb ≠ lb := tag_ne' h.box h.tab.lines (by decide)
theorem CacAt.ct (h : CacAt w cb tb lb T dv) : cb ≠ tb := tag_ne' h.box h.tab.tab (by decide)
set_option maxRecDepth 100000 in
set_option maxHeartbeats 1000000 in
theorem cget_at (h : CacAt w cb tb lb T dv) (c s : Int) (c1 : 0 ≤ c) (c2 : c ≤ 18446744073709551615) (s1 : 0 ≤ s) (s2 : s ≤ 18446744073709551615) :
    Calls Tryz.prog 21 #[.pointer (some ⟨cb, 0, none⟩), .int .u64 c, .int .u64 s] w (Still (.tuple #[.int .u64 (getM T.L c s), .bool (getB T.L c s)]) w) := by
  have ht := table_at h.box
  have hk := fun w' => keyOf_at w' c s
  have hg := fun w' (hF : Fr [] w w') => tget_at (h.fr0 hF).tab c s c1 c2 s1 s2
  generalize getM T.L c s = M at *
  generalize getB T.L c s = B at *
  clear h
  go_enter Tryz.func21, Tryz.ntmps21
  go_wp2_with (first
    | (go_at_call 31; refine ht.mono ?_; rintro e w1 ⟨rfl, hF1⟩; have HF1 := Lib.hid hF1; clear hF1)
    | (go_at_call 33; refine (hk _).mono ?_; rintro e w2 ⟨rfl, hF2⟩; have HF2 := Lib.hid (HF1.out.trans hF2); clear hF2)
    | (go_at_call 39; refine (hg _ HF2.out).mono ?_; rintro e w3 ⟨rfl, hF3⟩; have HF3 := Lib.hid (HF2.out.trans hF3); clear hF3))
  go_ret2
  exact ⟨rfl, HF3.out⟩
/-- Returned nothing; the cache holds T now, and only blocks of S have changed. -/
def CTurns (cb tb lb : Nat) (T' : Tab) (S : List Nat) (w : World) (e : Ending) (w' : World) : Prop := e = .returned (.tuple #[]) ∧ ∃ dv', CacAt w' cb tb lb T' dv' ∧ Fr S w w' ∧ ∀ k, dv'.ownBlock = some k → k ∈ S ∨ w.heap.size ≤ k
set_option maxRecDepth 100000 in
set_option maxHeartbeats 1000000 in
theorem cput_at (h : CacAt w cb tb lb T dv) (c s m : Int) (c1 : 0 ≤ c) (c2 : c ≤ 18446744073709551615) (s1 : 0 ≤ s) (s2 : s ≤ 18446744073709551615) :
    Calls Tryz.prog 10 #[.pointer (some ⟨cb, 0, none⟩), .int .u64 c, .int .u64 s, .int .u64 m] w (CTurns cb tb lb { T with L := putL T.L c s m } (tfoot tb lb dv) w) := by
  have ht := table_at h.box
  have hk := fun w' => keyOf_at w' c s
  have hg := fun w' (hF : Fr [] w w') => tput_at (h.fr0 hF).tab c s m c1 c2 s1 s2
  have H := Lib.hid h
  generalize putL T.L c s m = L' at *
  clear h
  go_enter Tryz.func10, Tryz.ntmps10
  go_wp2_with (first
    | (go_at_call 31; refine ht.mono ?_; rintro e w1 ⟨rfl, hF1⟩; have HF1 := Lib.hid hF1; clear hF1)
    | (go_at_call 33; refine (hk _).mono ?_; rintro e w2 ⟨rfl, hF2⟩; have HF2 := Lib.hid (HF1.out.trans hF2); clear hF2)
    | (go_at_call 32; refine (hg _ HF2.out).mono ?_; rintro e w3 ⟨rfl, hT3, hF3⟩; have HT3 := Lib.hid hT3; have HF3 := Lib.hid hF3; clear hT3 hF3))
  go_end0
  refine ⟨rfl, dv, ⟨HF3.out.heap (by simpa using H.out.cl) (HF2.out.heap (by simp) H.out.box), HT3.out⟩, HF2.out.weak.trans (HF3.out.mono (fun j _ hj => by rw [List.mem_singleton] at hj; simp [tfoot, hj])), fun k hk => .inl (by simp [tfoot, hk])⟩
/-! Drop -/
set_option maxRecDepth 100000 in
set_option maxHeartbeats 4000000 in
theorem empty_at (h : TabAt w tb lb T dv) (s : Int) : Calls Tryz.prog 35 #[.pointer (some ⟨tb, 0, none⟩), .int .u64 s] w (Lines tb lb T dv (dropL T.L s) w) := by
  obtain ⟨n, hn⟩ : ∃ n, n = T.L.length := ⟨_, rfl⟩
  have hn2 : n ≤ 256 := by rw [hn]; exact h.n2
  have hc0 : w.cell? ⟨tb, 0, none⟩ = some (.slice (some ⟨lb, 0, none⟩) n n) := by rw [hn]; exact cell_of_heap (o := 0) h.tab rfl
  have HN := Lib.hid hn
  have H := Lib.hid h
  have HS : Hid (TabAt w tb lb { T with L := dropTo T.L s 0 } dv) := by show TabAt _ _ _ _ _; rw [dropTo_zero]; exact h
  clear h hn
  go_enter Tryz.func35, Tryz.ntmps35
  go_wp2
  go_loopw [11] (fun i wr => ∃ k : Nat, k ≤ n ∧ i = .int .i64 k ∧ Hid (TabAt wr tb lb { T with L := dropTo T.L s k } dv) ∧ Hid (Fr [lb] w wr)) (fun i _ => n - (intOf i).toNat)
  case atStart => exact ⟨0, Nat.zero_le _, rfl, HS, Fr.refl _ _⟩
  case round =>
    obtain ⟨k, hk, rfl, hT, hF⟩ := hrel
    by_cases hlt : k < n
    · have hkl : k < T.L.length := by rw [← HN.out]; exact hlt
      obtain ⟨l, hl⟩ : ∃ l, T.L[k]? = some l := ⟨_, List.getElem?_eq_getElem hkl⟩
      obtain ⟨v0, v1, v2, v3⟩ := vals_at hT.out (i := k) (l := l) (by exact dropTo_at hl)
      have z := fun o => frozen_of_heap (o := o) hT.out.lines
      have htl := lt_of_heap hT.out.tab
      have hll := lt_of_heap hT.out.lines
      have z0 := z (k * 4)
      have z1 := z (k * 4 + 1)
      have z2 := z (k * 4 + 2)
      have z3 := z (k * 4 + 3)
      have hc1 : wr.cell? ⟨tb, 0, none⟩ = some (.slice (some ⟨lb, 0, none⟩) n n) := by
        rw [hT.out.cell0]
        show some (Value.slice _ (dropTo T.L s k).length (dropTo T.L s k).length) = _
        rw [dropTo_len, ← HN.out]
      have HL := Lib.hid hl
      have k1 : (k : Int) < (n : Int) := by omega
      have k0 : (0 : Int) ≤ (k : Int) := by omega
      clear hl hkl z hc0
      obtain ⟨lc, ls, lf, lm⟩ := l
      simp only at v0 v1 v2 v3
      by_cases hs : ls = s
      · subst hs
        have HKL : Hid (k < (dropTo T.L ls k).length) := by rw [dropTo_len, ← HN.out]; exact hlt
        have HX : Hid (dropTo T.L ls (k + 1) = (dropTo T.L ls k).set k Ln.zero) := by rw [dropTo_next HL.out, dropLn, if_pos rfl]; exact rfl
        go_wp2
        go_roundw
        case rel =>
          have hh := heap_set4 hT.out.lines HKL.out Ln.zero
          have hF2 : Fr [lb] _ _ := ((((Fr.refl [lb] wr).setCell (p := ⟨lb, k * 4, none⟩) (fun _ => by simp) (.int .u64 0)).setCell (p := ⟨lb, k * 4 + 1, none⟩) (fun _ => by simp) (.int .u64 0)).setCell (p := ⟨lb, k * 4 + 2, none⟩) (fun _ => by simp) (.bool false)).setCell (p := ⟨lb, k * 4 + 3, none⟩) (fun _ => by simp) (.int .u64 0)
          refine ⟨k + 1, by omega, by go_num, ?_, ?_⟩
          · show TabAt _ _ _ _ _
            rw [HX.out]
            have hT2 := hT.out.setLines (L' := (dropTo T.L ls k).set k Ln.zero) (by simp) hF2 hh
            exact hT2.fr0 ((Fr.refl _ _).alloc _)
          · exact (hF.out.trans hF2).alloc _
        case measure => simp [intOf]; omega
      · have hs' : (ls == s) = false := by simpa using hs
        have HX : Hid (dropTo T.L s (k + 1) = dropTo T.L s k) := dropTo_keep HL.out hs
        clear hs
        go_wp2
        go_roundw
        case rel =>
          refine ⟨k + 1, by omega, by go_num, ?_, hF.out.alloc _⟩
          show TabAt _ _ _ _ _
          rw [HX.out]
          exact hT.out.fr0 ((Fr.refl _ _).alloc _)
        case measure => simp [intOf]; omega
    · have hkn : k = n := by omega
      subst hkn
      go_wp2
      go_end0
      refine ⟨rfl, ?_, hF.out⟩
      have := hT.out
      rw [HN.out, dropTo_all] at this
      exact this
end
end Go.Proofs.YtofhgfgipdokbaaGreatDoor
namespace Go.Proofs.YtofhgfgipdokbaaGreatDoor
open Go.RowKit

theorem infoW : (Tryz.prog.info? 24).map (fun i => (i.zero, i.size, i.bytes)) = some (some (.int .u64 0), 1, 8) := by kernel_rfl
/-- cells that are written one behind the other -/
def setA (c : Array Value) : Nat → List Value → Array Value
  | _, [] => c
  | o, v :: r => setA (c.setIfInBounds o v) (o + 1) r
theorem setA_size : ∀ (vs : List Value) (c : Array Value) (o : Nat), (setA c o vs).size = c.size
  | [], _, _ => rfl
  | v :: r, c, o => by rw [setA, setA_size r]; simp
theorem setA_get : ∀ (vs : List Value) (c : Array Value) (o t : Nat), o + vs.length ≤ c.size → (setA c o vs)[t]? = if o ≤ t ∧ t < o + vs.length then vs[t - o]? else c[t]?
  | [], c, o, t, _ => by
    rw [if_neg (fun h => by simp at h; omega)]
    rfl
  | v :: r, c, o, t, h => by
    simp only [List.length_cons] at h
    rw [setA, setA_get r _ _ _ (by simp; omega)]
    by_cases h1 : o + 1 ≤ t ∧ t < o + 1 + r.length
    · rw [if_pos h1, if_pos (by simp; omega)]
      obtain ⟨k, hk⟩ : ∃ k, t - o = k + 1 := ⟨t - o - 1, by omega⟩
      rw [hk, List.getElem?_cons_succ]
      congr 1; omega
    · rw [if_neg h1, Array.getElem?_setIfInBounds]
      by_cases h2 : t = o
      · subst h2
        rw [if_pos rfl, if_pos (by omega), if_pos (by simp)]
        simp
      · rw [if_neg (fun e => h2 e.symm), if_neg (by simp; omega)]
theorem heap_setCells : ∀ (vs : List Value) {w : World} {b : Nat} {c : Array Value} {t : TypeId} {f : Nat × Nat} (o : Nat), w.heap[b]? = some (.cells c t f) → (w.setCells b o vs).heap[b]? = some (.cells (setA c o vs) t f)
  | [], _, _, _, _, _, _, h => h
  | v :: r, _, _, _, _, _, o, h => by rw [World.setCells, setA]; exact heap_setCells r (o + 1) (heap_setCell_same h v)
theorem Fr.setCells : ∀ (vs : List Value) {S : List Nat} {a w : World} (_ : Fr S a w) (b o : Nat) (_ : b ∈ S), Fr S a (w.setCells b o vs)
  | [], _, _, _, h, _, _, _ => h
  | v :: r, _, _, _, h, b, o, hb => by rw [World.setCells]; exact Fr.setCells r (h.setCell (fun _ => hb) v) b (o + 1) hb
theorem zeroW8 (w : World) : (zeroValue 24).run Tryz.prog w = .ok (.int .u64 0) w := by kernel_rfl
/-- Returned a row that lies in the same block. -/
def Cut1 (g : Nat) (xs : List Value) (w : World) (e : Ending) (w' : World) : Prop := ∃ cap, e = .returned (.slice (some ⟨g, 0, none⟩) 63 cap) ∧ w'.ownsRow 0 24 1 (.slice (some ⟨g, 0, none⟩) 63 cap) 63 xs ∧ Fr [g] w w'
set_option maxRecDepth 100000 in
set_option maxHeartbeats 1000000 in
theorem delete_at {w : World} {g cap : Nat} (xs : List Int) (hr : w.ownsRow 0 24 1 (.slice (some ⟨g, 0, none⟩) 64 cap) 64 (xs.map (Value.int .u64))) :
    Calls Tryz.prog 50 #[.slice (some ⟨g, 0, none⟩) 64 cap, .int .i64 0, .int .i64 1] w (Cut1 g ((xs.drop 1).map (Value.int .u64)) w) := by
  obtain ⟨i0, hi0, hz0, hz1, hz2⟩ := info_parts infoW
  have hlen : xs.length = 64 := by simpa using hr.1
  obtain ⟨cur, hg, hcap, hcm, hcs, ht⟩ : ∃ cur, w.heap[g]? = some (.cells cur 24 (0, 0)) ∧ 64 ≤ cap ∧ cap ≤ maxLen ∧ cur.size = cap * 1 ∧ cur.toList.take (64 * 1) = xs.map (Value.int .u64) := by
    rcases hr.2 with ⟨h, -⟩ | ⟨g', cap', cur, h, -, h1, h2, h3, h4, h5⟩
    · cases h
    · cases h; exact ⟨cur, h1, h2, h3, h4, h5⟩
  unfold maxLen at hcm
  obtain ⟨news, hnews⟩ : ∃ news, news = (xs.drop 1).map (Value.int .u64) := ⟨_, rfl⟩
  have hnl : news.length = 63 := by rw [hnews]; simp [hlen]
  have hcur : ∀ t, t < 64 → ∃ x, cur[t]? = some (.int .u64 x) ∧ xs[t]? = some x := by
    intro t h
    have h1 : (cur.toList.take (64 * 1))[t]? = (xs.map (Value.int .u64))[t]? := by rw [ht]
    rw [List.getElem?_take, if_pos (by omega), List.getElem?_map, Array.getElem?_toList] at h1
    have h2 : xs[t]? = some xs[t] := List.getElem?_eq_getElem (by omega)
    rw [h2] at h1
    exact ⟨_, h1, h2⟩
  have hcell : ∀ t, t < 64 → (w.cell? ⟨g, t, none⟩).isSome = true := by
    intro t h
    obtain ⟨x, hx, -⟩ := hcur t h
    rw [cell_of_heap hg hx]; rfl
  have hfz : ∀ o, w.frozen? ⟨g, o, none⟩ = false := fun o => frozen_of_heap hg
  have hsrc : Hid (∀ t u, news[t]? = some u → w.drew.cell? ((⟨g, 1, none⟩ : Addr).add t) = some u) := by
    intro t u hu
    have hlt : t < 63 := by rw [← hnl]; exact (List.getElem?_eq_some_iff.1 hu).1
    obtain ⟨x, hx, hx2⟩ := hcur (1 + t) (by omega)
    rw [Addr.add_lit]
    show w.cell? ⟨g, 1 + t, none⟩ = some u
    rw [cell_of_heap hg hx]
    rw [hnews, List.getElem?_map, List.getElem?_drop, hx2] at hu
    exact hu
  have s1 : Hid (news.length = 63 * 1) := hnl
  have s2 : Hid (∀ u ∈ news, u.oneCell' = true) := by
    intro u hu
    rw [hnews] at hu
    obtain ⟨x, _, rfl⟩ := List.mem_map.1 hu
    rfl
  have s3 : Hid (∀ t, t < news.length → (w.drew.cell? ⟨g, 0 + 0 * 1 + t, none⟩).isSome = true ∧ w.drew.frozen? ⟨g, 0 + 0 * 1 + t, none⟩ = false) := by
    intro t ht'
    rw [hnl] at ht'
    rw [show 0 + 0 * 1 + t = t by omega]
    exact ⟨hcell t (by omega), hfz t⟩
  obtain ⟨W1, hW1⟩ : ∃ W1, W1 = w.drew.setCells g (0 + 0 * 1) news := ⟨_, rfl⟩
  have hg1 : W1.heap[g]? = some (.cells (setA cur 0 news) 24 (0, 0)) := by rw [hW1]; exact heap_setCells news 0 hg
  have hcl : ∀ ty, (Builtin.clear_ #[38] ty #[.slice (some ⟨g, 63, none⟩) 1 (cap - 63)]).run Tryz.prog W1 = .ok (.tuple #[]) (W1.setCells g 63 (List.replicate 1 (.int .u64 0))) :=
    fun ty => Lib.run_clear_slice W1 _ _ ty _ Tryz.underlying38 zeroW8 rfl rfl g 63 1 _ (by omega)
      (fun t h => by
        obtain ⟨x, hx, -⟩ := hcur 63 (by omega)
        have h0 : t = 0 := by omega
        subst h0
        have hA : (setA cur 0 news)[63]? = some (.int .u64 x) := by rw [setA_get _ _ _ _ (by rw [hnl]; omega), if_neg (by rw [hnl]; omega)]; exact hx
        rw [cell_of_heap hg1 hA]; rfl)
      (fun t h => frozen_of_heap hg1)
  have HEND : Hid ((W1.setCells g 63 (List.replicate 1 (.int .u64 0))).ownsRow 0 24 1 (.slice (some ⟨g, 0, none⟩) 63 cap) 63 news ∧ Fr [g] w (W1.setCells g 63 (List.replicate 1 (.int .u64 0)))) := by
    have hg2 := heap_setCells (List.replicate 1 (.int .u64 0)) 63 hg1
    refine ⟨⟨by rw [hnl], .inr ⟨g, cap, _, rfl, Nat.zero_le _, hg2, by omega, by unfold maxLen; omega, by rw [setA_size, setA_size]; exact hcs, ?_⟩⟩, ?_⟩
    · apply List.ext_getElem?
      intro t
      rw [List.getElem?_take]
      by_cases h : t < 63
      · rw [if_pos (by omega), Array.getElem?_toList, setA_get _ _ _ _ (by rw [setA_size]; simp; omega), if_neg (by simp; omega), setA_get _ _ _ _ (by rw [hnl]; omega), if_pos (by rw [hnl]; omega)]
        rfl
      · rw [if_neg (by omega), List.getElem?_eq_none (by rw [hnl]; omega)]
    · rw [hW1]
      exact Fr.setCells _ (Fr.setCells _ (Fr.refl _ _).drew g _ (by simp)) g _ (by simp)
  have hW : Hid (W1 = w.drew.setCells g (0 + 0 * 1) news) := hW1
  have HN := Lib.hid hnews
  have hc1 : ¬ cap = 1 := by omega
  have hc2 : ¬ cap = 63 := by omega
  clear hr hlen hg hcm hcs ht hcur hcell hfz hW1 hg1 hnl hnews
  go_enter Tryz.func50, Tryz.ntmps50
  go_wp2_with fail
  go_region_law (refine step_append_room rfl (.tmp 22) (.tmp 25) 38 rfl 24 i0 1 Tryz.underlying38 hi0 hz1 g 0 0 cap (by simp [Act.eval, Act.put]) ⟨g, 1, none⟩ 63 (cap - 1) news (by first | (simp [Act.eval, Act.put]; done) | exact hc1) s1.out hsrc.out s2.out (by omega) s3.out ?_; rw [← hW.out])
  go_wp2
  go_ret
  exact ⟨cap, rfl, by rw [← HN.out]; exact HEND.out.1, HEND.out.2⟩
/-- the drops' row is another one now -/
theorem TabAt.setDrops {w w' : World} {tb lb : Nat} {T : Tab} {dv v : Value} {D' : List Int} {S : List Nat} (h : TabAt w tb lb T dv) (hF : Fr S w w') (hS : ∀ k ∈ S, k = tb ∨ dv.ownBlock = some k) (hh : w'.heap[tb]? = some (.cells #[.slice (some ⟨lb, 0, none⟩) T.L.length T.L.length, v, .int .i64 T.r, .int .i64 T.k] 71 (0, 0))) (hr : w'.ownsRow 0 24 1 v D'.length (D'.map (Value.int .u64))) (hd : D'.length ≤ 64) : TabAt w' tb lb { T with D := D' } v := by
  refine ⟨hh, hF.heap (fun hm => ?_) h.lines, hr, h.n1, h.n2, hd⟩
  rcases hS lb hm with e | e
  · exact h.tl e.symm
  · exact h.dl e
theorem row_shp {w : World} {b : Nat} {e : TypeId} {v : Value} {n : Nat} {xs : List Value} (h : w.ownsRow b e 1 v n xs) : ∃ ao cap, v = .slice ao n cap := by
  rcases h.2 with ⟨rfl, rfl⟩ | ⟨g, cap, cur, rfl, _⟩
  · exact ⟨_, _, rfl⟩
  · exact ⟨_, _, rfl⟩
theorem one_cell8 (w : World) (v : Value) (t : TypeId) : ∀ j u, [v][j]? = some u → (w.alloc (.cells #[v] t)).cell? ((⟨w.heap.size, 0, none⟩ : Addr).add j) = some u := by
  intro j u hu
  cases j with
  | zero =>
    simp at hu
    subst hu
    exact cell_of_heap (heap_new w _) rfl
  | succ j => simp at hu
theorem one_cell8' (w : World) (W : World) (v : Value) (t : TypeId) (h : W.heap.size = w.heap.size := by simp) : ∀ j u, [v][j]? = some u → (W.alloc (.cells #[v] t)).cell? ((⟨w.heap.size, 0, none⟩ : Addr).add j) = some u := by
  rw [← h]; exact one_cell8 W v t
/-- what stays of a cache when its row of drops grows -/
theorem note_kept {w : World} {cb tb lb : Nat} {T : Tab} {dv : Value} (h : CacAt w cb tb lb T dv) (x : Int) (v5 : Value) (w5 : World) (hg : (w.alloc (.cells #[.int .u64 x] 24)).grownBy w5 dv.ownBlock) (hf : v5.ownBlock = dv.ownBlock ∨ v5.ownBlock = some (w.alloc (.cells #[.int .u64 x] 24)).heap.size) :
    w5.cell? ⟨tb, 1, none⟩ = some dv ∧ w5.frozen? ⟨tb, 1, none⟩ = false ∧ ∀ D', D'.length ≤ 64 → w5.ownsRow 0 24 1 v5 D'.length (D'.map (Value.int .u64)) → ∃ dv', CacAt (w5.setCell ⟨tb, 1, none⟩ v5) cb tb lb { T with D := D' } dv' ∧ Fr (tfoot tb lb dv) w (w5.setCell ⟨tb, 1, none⟩ v5) ∧ ∀ k, dv'.ownBlock = some k → k ∈ tfoot tb lb dv ∨ w.heap.size ≤ k := by
  have hF : Fr dv.ownBlock.toList w w5 := ((Fr.refl _ _).alloc _).grown hg (fun k hk _ => own_mem.2 hk)
  have htb : tb ∉ dv.ownBlock.toList := fun e => h.tab.dt (own_mem.1 e)
  have hh := hF.heap htb h.tab.tab
  refine ⟨cell_of_heap (o := 1) hh rfl, frozen_of_heap hh, fun D' hd hr => ⟨v5, ?_, ?_, fun k hk => ?_⟩⟩
  · have hF2 : Fr (tb :: dv.ownBlock.toList) w (w5.setCell ⟨tb, 1, none⟩ v5) := (hF.mono (fun j _ hj => by simp [hj])).setCell (fun _ => by simp) _
    have hcb : cb ∉ tb :: dv.ownBlock.toList := by
      intro e
      rcases List.mem_cons.1 e with e | e
      · exact h.ct e
      · obtain ⟨cur, hc⟩ := own_heap h.tab.drops (own_mem.1 e)
        exact tag_ne' h.box hc (by decide) rfl
    have hrow : (w5.setCell ⟨tb, 1, none⟩ v5).ownsRow 0 24 1 v5 D'.length (D'.map (Value.int .u64)) := by
      have hF3 : Fr [tb] w5 (w5.setCell ⟨tb, 1, none⟩ v5) := (Fr.refl _ _).setCell (fun _ => by simp) _
      refine hF3.row hr (fun k hk => ?_)
      rw [List.mem_singleton]
      rintro rfl
      rcases hf with e | e
      · exact h.tab.dt (e ▸ hk)
      · rw [e] at hk
        cases hk
        have := lt_of_heap h.tab.tab
        simp at this
        omega
    exact ⟨hF2.heap hcb h.box, h.tab.setDrops hF2 (fun k hk => by rcases List.mem_cons.1 hk with e | e; exact .inl e; exact .inr (own_mem.1 e)) (by have := heap_setCell_same hh (o := 1) v5; simpa using this) hrow hd⟩
  · exact (hF.mono (fun j _ hj => by simp [tfoot, own_mem.1 hj])).setCell (fun _ => by simp [tfoot]) _
  · rcases hf with e | e
    · left; rw [e] at hk; simp [tfoot, hk]
    · right; rw [e] at hk; cases hk; simp
set_option maxRecDepth 100000 in
set_option maxHeartbeats 1000000 in
theorem note_at {w : World} {cb tb lb : Nat} {T : Tab} {dv : Value} (h : CacAt w cb tb lb T dv) (x : Int) : Calls Tryz.prog 36 #[.pointer (some ⟨tb, 0, none⟩), .int .u64 x] w (CTurns cb tb lb { T with D := noteL T.D x } (tfoot tb lb dv) w) := by
  obtain ⟨i0, hi0, hz0, hz1, hz2⟩ := info_parts infoW
  have d64 := h.tab.d64
  by_cases hl : T.D.length = 64
  · have hc1 := h.tab.cell1
    have htl := lt_of_heap h.tab.tab
    obtain ⟨g, cap, rfl⟩ : ∃ g cap, dv = .slice (some ⟨g, 0, none⟩) 64 cap := by
      rcases h.tab.drops.2 with ⟨h1, h2⟩ | ⟨g, cap, cur, h1, -⟩
      · rw [h2] at hl; cases hl
      · exact ⟨g, cap, by rw [h1, hl]⟩
    have H := Lib.hid h
    have HND : Hid (noteL T.D x = T.D.drop 1 ++ [x]) := by unfold noteL; rw [if_pos hl]; exact rfl
    have hR := h.tab.drops
    rw [hl] at hR
    have hd := delete_at T.D hR
    have hgt : g ≠ tb := fun e => h.tab.dt (by rw [← e]; rfl)
    have HK : Hid (∀ cap2 w1, w1.ownsRow 0 24 1 (.slice (some ⟨g, 0, none⟩) 63 cap2) 63 ((T.D.drop 1).map (Value.int .u64)) → Fr [g] w w1 → w1.cell? ⟨tb, 1, none⟩ = some (.slice (some ⟨g, 0, none⟩) 64 cap) ∧ w1.frozen? ⟨tb, 1, none⟩ = false ∧ tb < w1.heap.size ∧ CacAt (w1.setCell ⟨tb, 1, none⟩ (.slice (some ⟨g, 0, none⟩) 63 cap2)) cb tb lb { T with D := T.D.drop 1 } (.slice (some ⟨g, 0, none⟩) 63 cap2) ∧ Fr (tfoot tb lb (.slice (some ⟨g, 0, none⟩) 64 cap)) w (w1.setCell ⟨tb, 1, none⟩ (.slice (some ⟨g, 0, none⟩) 63 cap2))) := by
      refine Lib.hid fun cap2 w1 hr1 hF1 => ?_
      have htb : tb ∉ [g] := by simpa using fun e => hgt e.symm
      have hh := hF1.heap htb h.tab.tab
      have hcb : cb ∉ [tb, g] := by
        intro e
        rcases List.mem_cons.1 e with e | e
        · exact h.ct e
        · obtain ⟨cur, hc⟩ := own_heap h.tab.drops (b := g) rfl
          rw [List.mem_singleton] at e
          exact tag_ne' h.box hc (by decide) e
      have hF2 : Fr [tb, g] w (w1.setCell ⟨tb, 1, none⟩ (.slice (some ⟨g, 0, none⟩) 63 cap2)) := (hF1.mono (fun j _ hj => by simp at hj; simp [hj])).setCell (fun _ => by simp) _
      have hF3 : Fr [tb] w1 (w1.setCell ⟨tb, 1, none⟩ (.slice (some ⟨g, 0, none⟩) 63 cap2)) := (Fr.refl _ _).setCell (fun _ => by simp) _
      have hl1 : (T.D.drop 1).length = 63 := by simp [hl]
      refine ⟨cell_of_heap (o := 1) hh rfl, frozen_of_heap hh, Nat.lt_of_lt_of_le htl hF1.size, ⟨hF2.heap hcb h.box, h.tab.setDrops hF2 (fun k hk => ?_) ?_ ?_ (by omega)⟩, hF2.mono (fun j _ hj => ?_)⟩
      · rcases List.mem_cons.1 hk with e | e
        · exact .inl e
        · rw [List.mem_singleton] at e; right; rw [e]; rfl
      · have := heap_setCell_same hh (o := 1) (.slice (some ⟨g, 0, none⟩) 63 cap2)
        simpa using this
      · rw [hl1]
        exact hF3.row hr1 (fun k hk => by cases hk; simpa using hgt)
      · rcases List.mem_cons.1 hj with e | e
        · simp [tfoot, e]
        · rw [List.mem_singleton] at e; simp [tfoot, e, Value.ownBlock]
    have HL1 : Hid ((T.D.drop 1).length = 63) := by show _ = _; simp [hl]
    clear h hl hR d64 hgt
    go_enter Tryz.func36, Tryz.ntmps36
    go_wp2_with (first
      | (go_at_call 50; refine hd.mono ?_; rintro e w1 ⟨cap2, rfl, hr1, hF1⟩; have hap1 := HK.out cap2 w1 hr1 hF1; have q1 := hap1.1; have q2 := hap1.2.1; have q3 := hap1.2.2.1; have HC2 := Lib.hid hap1.2.2.2.1; have HF2 := Lib.hid hap1.2.2.2.2; have hr2 := ((Fr.refl [] _).alloc (.cells #[.int .u64 x] 24)).row HC2.out.tab.drops (fun _ _ => by simp); rw [HL1.out] at hr2; have HR2 := Lib.hid hr2; clear hr2; have HK2 := Lib.hid (note_kept HC2.out); clear hap1 hr1 hF1)
      | (at_builtin; refine wpList_append_at _ rfl (.tmp 22) (.tmp 24) 38 rfl 24 i0 (.int .u64 0) 1 8 Tryz.underlying38 hi0 hz0 hz1 hz2 rfl (by decide) (.slice (some ⟨g, 0, none⟩) 63 cap2) 63 _ rfl HR2.out ⟨w1.heap.size, 0, none⟩ 1 1 [.int .u64 x] rfl rfl (one_cell8' w1 _ (.int .u64 x) 24) (by simp [Value.oneCell']) (by unfold maxLen; omega) (by omega) ?_; intro v5 w5 ho5 hg5 hf5; obtain ⟨a5, p5, rfl⟩ := row_shp ho5; have hap := HK2.out x _ w5 hg5 hf5; have hc5 := hap.1; have hz5 := hap.2.1; have HP5 := Lib.hid hap.2.2; have HO5 := Lib.hid ho5; clear hap ho5 hg5 hf5))
    go_end0
    refine ⟨rfl, ?_⟩
    rw [HND.out]
    obtain ⟨dv', e1, e2, e3⟩ := HP5.out (T.D.drop 1 ++ [x]) (by rw [List.length_append, HL1.out]; simp) (by rw [List.length_append, HL1.out, List.map_append]; exact HO5.out)
    refine ⟨dv', e1, HF2.out.trans e2, fun k hk => ?_⟩
    rcases e3 k hk with h | h
    · exact .inl h
    · exact .inr (Nat.le_trans HF2.out.size h)
  · have hc1 := h.tab.cell1
    have htl := lt_of_heap h.tab.tab
    obtain ⟨ao, cap, rfl⟩ : ∃ ao cap, dv = .slice ao T.D.length cap := by
      rcases h.tab.drops.2 with ⟨h1, h2⟩ | ⟨g, cap, cur, h1, -⟩
      · exact ⟨none, 0, by rw [h1, h2]⟩
      · exact ⟨_, cap, h1⟩
    have H := Lib.hid h
    have HND : Hid (noteL T.D x = T.D ++ [x]) := by unfold noteL; rw [if_neg hl]; exact rfl
    have hR := h.tab.drops
    have hz := fun o => frozen_of_heap (o := o) h.tab.tab
    have hzz := hz 1
    have HR := Lib.hid hR
    have hne : ((T.D.length : Int) == 64) = false := by simp; omega
    have hlt : T.D.length < 64 := by omega
    have HR1 := Lib.hid (((Fr.refl [] w).alloc (.cells #[.int .u64 x] 24)).row hR (fun _ _ => by simp))
    have HK := Lib.hid (note_kept h)
    clear h hl hR hz d64
    go_enter Tryz.func36, Tryz.ntmps36
    go_wp2_with (first
      | (at_builtin; refine wpList_append_at _ rfl (.tmp 22) (.tmp 24) 38 rfl 24 i0 (.int .u64 0) 1 8 Tryz.underlying38 hi0 hz0 hz1 hz2 rfl (by decide) (.slice ao T.D.length cap) T.D.length _ rfl HR1.out ⟨w.heap.size, 0, none⟩ 1 1 [.int .u64 x] rfl rfl (one_cell8 w (.int .u64 x) 24) (by simp [Value.oneCell']) (by unfold maxLen; omega) (by omega) ?_; intro v5 w5 ho5 hg5 hf5; obtain ⟨a5, p5, rfl⟩ := row_shp ho5; have hap := HK.out x _ w5 hg5 hf5; have hc5 := hap.1; have hz5 := hap.2.1; have HP5 := Lib.hid hap.2.2; have HO5 := Lib.hid ho5; clear hap ho5 hg5 hf5))
    go_end0
    refine ⟨rfl, ?_⟩
    rw [HND.out]
    exact HP5.out (T.D ++ [x]) (by simp; omega) (by simpa using HO5.out)
end Go.Proofs.YtofhgfgipdokbaaGreatDoor
namespace Go.Proofs.YtofhgfgipdokbaaGreatDoor
open Go.RowKit

section
variable {w : World} {cb tb lb : Nat} {T : Tab} {dv : Value}
set_option maxRecDepth 100000 in
set_option maxHeartbeats 1000000 in
theorem cdrop_at (h : CacAt w cb tb lb T dv) (s : Int) :
    Calls Tryz.prog 12 #[.pointer (some ⟨cb, 0, none⟩), .int .u64 s] w (CTurns cb tb lb { T with L := dropL T.L s, D := noteL T.D s } (tfoot tb lb dv) w) := by
  have ht := table_at h.box
  have he := fun w' (hF : Fr [] w w') => empty_at (h.fr0 hF).tab s
  have hn : Hid (∀ w' w'', Fr [] w w' → TabAt w'' tb lb { T with L := dropL T.L s } dv → Fr [lb] w' w'' → CacAt w'' cb tb lb { T with L := dropL T.L s } dv) := Lib.hid fun w' w'' hF hT hF2 => ⟨hF2.heap (by simpa using h.cl) (hF.heap (by simp) h.box), hT⟩
  clear h
  go_enter Tryz.func12, Tryz.ntmps12
  go_wp2_with (first
    | (go_at_call 31; refine ht.mono ?_; rintro e w1 ⟨rfl, hF1⟩; have HF1 := Lib.hid hF1; clear hF1)
    | (go_at_call 35; refine (he _ HF1.out).mono ?_; rintro e w2 ⟨rfl, hT2, hF2⟩; have HC2 := Lib.hid (hn.out _ _ HF1.out hT2 hF2); have HF2 := Lib.hid hF2; clear hT2 hF2)
    | (go_at_call 36; refine (note_at HC2.out s).mono ?_; rintro e w3 ⟨rfl, dv3, hC3, hF3, hn3⟩; have HC3 := Lib.hid hC3; have HF3 := Lib.hid hF3; have HN3 := Lib.hid hn3; clear hC3 hF3 hn3))
  go_end0
  refine ⟨rfl, dv3, HC3.out, (HF1.out.weak.trans (HF2.out.mono (fun j _ hj => by rw [List.mem_singleton] at hj; simp [tfoot, hj]))).trans HF3.out, fun k hk => ?_⟩
  rcases HN3.out k hk with e | e
  · exact .inl e
  · exact .inr (Nat.le_trans HF1.out.size (Nat.le_trans HF2.out.size e))
/-- Returned the drops; none are kept now. -/
def Told (cb tb lb : Nat) (T : Tab) (dv : Value) (w : World) (e : Ending) (w' : World) : Prop := e = .returned dv ∧ CacAt w' cb tb lb { T with D := [] } (.slice none 0 0) ∧ Fr [tb] w w'
set_option maxRecDepth 100000 in
set_option maxHeartbeats 1000000 in
theorem cdrops_at (h : CacAt w cb tb lb T dv) : Calls Tryz.prog 17 #[.pointer (some ⟨cb, 0, none⟩)] w (Told cb tb lb T dv w) := by
  have ht := table_at h.box
  obtain ⟨ao, cap, hdv⟩ := row_shp h.tab.drops
  subst hdv
  have hk := fun w' (hF : Fr [] w w') => (h.fr0 hF)
  have H := Lib.hid h
  clear h
  go_enter Tryz.func17, Tryz.ntmps17
  go_wp2_with (first
    | (go_at_call 31; refine ht.mono ?_; rintro e w1 ⟨rfl, hF1⟩; have c1 := (hk _ hF1).tab.cell1; have z1 := frozen_of_heap (o := 1) (hk _ hF1).tab.tab; have HF1 := Lib.hid hF1; clear hF1))
  go_ret
  have hC1 := H.out.fr0 HF1.out
  have hF : Fr [tb] w1 (w1.setCell ⟨tb, 1, none⟩ (.slice none 0 0)) := (Fr.refl _ _).setCell (fun _ => by simp) _
  refine ⟨rfl, ⟨hF.heap (by simpa using hC1.ct) hC1.box, hC1.tab.setDrops hF (fun k hk => .inl (by simpa using hk)) ?_ ⟨rfl, .inl ⟨rfl, rfl⟩⟩ (by simp)⟩, (HF1.out.weak).trans hF⟩
  have := heap_setCell_same hC1.tab.tab (o := 1) (.slice none 0 0)
  simpa using this
end
/-- a cache, made since w0, holds T; nothing that was there at w0 has changed -/
def CLive (w0 : World) (cb : Nat) (T : Tab) (w : World) : Prop := ∃ tb lb dv, CacAt w cb tb lb T dv ∧ Fr [] w0 w ∧ w0.heap.size ≤ cb ∧ ∀ k ∈ tfoot tb lb dv, w0.heap.size ≤ k
section
variable {w0 w : World} {cb : Nat} {T : Tab}
theorem CLive.fr (h : CLive w0 cb T w) : Fr [] w0 w := by obtain ⟨_, _, _, _, h, _⟩ := h; exact h
theorem CLive.n (h : CLive w0 cb T w) : 1 ≤ T.L.length ∧ T.L.length ≤ 256 := by obtain ⟨_, _, _, h, _⟩ := h; exact ⟨h.tab.n1, h.tab.n2⟩
theorem CLive.still {w' : World} (h : CLive w0 cb T w) (hF : Fr [] w w') : CLive w0 cb T w' := by
  obtain ⟨tb, lb, dv, h1, h2, h3, h4⟩ := h
  exact ⟨tb, lb, dv, h1.fr0 hF, h2.trans hF, h3, h4⟩
theorem CLive.turn {T' : Tab} {w' : World} {tb lb : Nat} {dv dv' : Value} (h2 : Fr [] w0 w) (h3 : w0.heap.size ≤ cb) (h4 : ∀ k ∈ tfoot tb lb dv, w0.heap.size ≤ k) (hC : CacAt w' cb tb lb T' dv') (hF : Fr (tfoot tb lb dv) w w') (hn : ∀ k, dv'.ownBlock = some k → k ∈ tfoot tb lb dv ∨ w.heap.size ≤ k) : CLive w0 cb T' w' := by
  refine ⟨tb, lb, dv', hC, h2.trans' hF (fun _ _ e => e) (fun j hj hm => absurd (h4 j hm) (by omega)), h3, fun k hk => ?_⟩
  simp only [tfoot, List.mem_cons] at hk
  rcases hk with rfl | rfl | hk
  · exact h4 _ (by simp [tfoot])
  · exact h4 _ (by simp [tfoot])
  · rcases hn k (own_mem.1 hk) with e | e
    · exact h4 k e
    · exact Nat.le_trans h2.size e
/-- Returned v; the cache holds T'. -/
def LTurns (v : Value) (w0 : World) (cb : Nat) (T' : Tab) (e : Ending) (w' : World) : Prop := e = .returned v ∧ CLive w0 cb T' w'
theorem live_cget (h : CLive w0 cb T w) (c s : Int) (c1 : 0 ≤ c) (c2 : c ≤ 18446744073709551615) (s1 : 0 ≤ s) (s2 : s ≤ 18446744073709551615) :
    Calls Tryz.prog 21 #[.pointer (some ⟨cb, 0, none⟩), .int .u64 c, .int .u64 s] w (LTurns (.tuple #[.int .u64 (getM T.L c s), .bool (getB T.L c s)]) w0 cb T) := by
  have h' := h
  obtain ⟨tb, lb, dv, h1, h2, h3, h4⟩ := h'
  exact (cget_at h1 c s c1 c2 s1 s2).mono fun e w' ⟨he, hF⟩ => ⟨he, h.still hF⟩
theorem live_cput (h : CLive w0 cb T w) (c s m : Int) (c1 : 0 ≤ c) (c2 : c ≤ 18446744073709551615) (s1 : 0 ≤ s) (s2 : s ≤ 18446744073709551615) :
    Calls Tryz.prog 10 #[.pointer (some ⟨cb, 0, none⟩), .int .u64 c, .int .u64 s, .int .u64 m] w (LTurns (.tuple #[]) w0 cb { T with L := putL T.L c s m }) := by
  obtain ⟨tb, lb, dv, h1, h2, h3, h4⟩ := h
  exact (cput_at h1 c s m c1 c2 s1 s2).mono fun e w' ⟨he, dv', hC, hF, hn⟩ => ⟨he, CLive.turn h2 h3 h4 hC hF hn⟩
theorem live_cdrop (h : CLive w0 cb T w) (s : Int) :
    Calls Tryz.prog 12 #[.pointer (some ⟨cb, 0, none⟩), .int .u64 s] w (LTurns (.tuple #[]) w0 cb { T with L := dropL T.L s, D := noteL T.D s }) := by
  obtain ⟨tb, lb, dv, h1, h2, h3, h4⟩ := h
  exact (cdrop_at h1 s).mono fun e w' ⟨he, dv', hC, hF, hn⟩ => ⟨he, CLive.turn h2 h3 h4 hC hF hn⟩
theorem live_cnew (w : World) (n : Nat) (h1 : 1 ≤ n) (h2 : n ≤ 256) : Calls Tryz.prog 6 #[.int .i64 n] w fun e w' => ∃ cb, e = .returned (.tuple #[.pointer (some ⟨cb, 0, none⟩), .int .i64 0]) ∧ CLive w cb (Tab.fresh n) w' :=
  (newYes w n h1 h2).mono fun _ _ ⟨cb, tb, lb, dv, he, hC, hF, hcb, hk⟩ => ⟨cb, he, tb, lb, dv, hC, hF, hcb, hk⟩
theorem CLive.back {w1 : World} (h : CLive w1 cb T w) (hF : Fr [] w0 w1) : CLive w0 cb T w := by
  obtain ⟨tb, lb, dv, h1, h2, h3, h4⟩ := h
  exact ⟨tb, lb, dv, h1, hF.trans h2, Nat.le_trans hF.size h3, fun k hk => Nat.le_trans hF.size (h4 k hk)⟩
end
/-! awake -/
theorem getB_one (l : Ln) (c s : Int) : getB [l] c s = l.is c s ∧ getM [l] c s = if l.is c s then l.m else 0 := by
  have h := ixN_lt (n := 1) (Nat.le_refl _) c s
  have h0 : ixN [l].length c s = 0 := by show ixN 1 c s = 0; omega
  unfold getB getM
  rw [h0]
  exact ⟨rfl, rfl⟩
theorem putL_one (l : Ln) (c s m : Int) : putL [l] c s m = [⟨c, s, true, m⟩] := by
  have h := ixN_lt (n := 1) (Nat.le_refl _) c s
  have h0 : ixN [l].length c s = 0 := by show ixN 1 c s = 0; omega
  unfold putL
  rw [h0]
  rfl
set_option maxRecDepth 100000 in
set_option maxHeartbeats 1000000 in
theorem awake8 (w : World) : Calls Tryz.prog 4 #[] w (Still (.bool true) w) := by
  have h1 := live_cnew w 1 (by omega) (by omega)
  have h0 := fun w' => newNo w' 0 (by omega)
  go_enter Tryz.func4, Tryz.ntmps4
  go_wp2_with fail
  refine h1.mono ?_
  rintro e w1 ⟨cb, rfl, hL1⟩
  have HL1 := Lib.hid hL1
  clear hL1 h1
  go_wp2_with fail
  refine (h0 w1).mono ?_
  rintro e w2 ⟨rfl, hF2⟩
  have HL2 := Lib.hid (HL1.out.still hF2)
  clear hF2 h0
  go_wp2_with fail
  refine (live_cput HL2.out 2 4 6 (by omega) (by omega) (by omega) (by omega)).mono ?_
  rintro e w3 ⟨rfl, hL3⟩
  have e3 : putL (Tab.fresh 1).L 2 4 6 = [⟨2, 4, true, 6⟩] := putL_one _ _ _ _
  rw [e3] at hL3
  have HL3 := Lib.hid hL3
  clear hL3 e3
  go_wp2_with fail
  have g4 := live_cget HL3.out 2 4 (by omega) (by omega) (by omega) (by omega)
  rw [(getB_one _ _ _).1, (getB_one _ _ _).2, show Ln.is ⟨2, 4, true, 6⟩ 2 4 = true from rfl, if_pos rfl] at g4
  refine g4.mono ?_
  rintro e w4 ⟨rfl, hL4⟩
  have HL4 := Lib.hid hL4
  clear hL4 g4
  go_wp2_with fail
  refine (live_cput HL4.out 8 4 6 (by omega) (by omega) (by omega) (by omega)).mono ?_
  rintro e w5 ⟨rfl, hL5⟩
  rw [putL_one] at hL5
  have HL5 := Lib.hid hL5
  clear hL5
  go_wp2_with fail
  have g6 := live_cget HL5.out 2 4 (by omega) (by omega) (by omega) (by omega)
  rw [(getB_one _ _ _).1, (getB_one _ _ _).2, show Ln.is ⟨8, 4, true, 6⟩ 2 4 = false from rfl, if_neg (by decide)] at g6
  refine g6.mono ?_
  rintro e w6 ⟨rfl, hL6⟩
  have HL6 := Lib.hid hL6
  clear hL6 g6
  go_wp2_with fail
  refine (live_cdrop HL6.out 4).mono ?_
  rintro e w7 ⟨rfl, hL7⟩
  have e7 : dropL [(⟨8, 4, true, 6⟩ : Ln)] 4 = [Ln.zero] := rfl
  simp only [e7] at hL7
  have HL7 := Lib.hid hL7
  clear hL7 e7
  go_wp2_with fail
  have g8 := live_cget HL7.out 8 4 (by omega) (by omega) (by omega) (by omega)
  rw [(getB_one _ _ _).1, (getB_one _ _ _).2, show Ln.is Ln.zero 8 4 = false from rfl, if_neg (by decide)] at g8
  refine g8.mono ?_
  rintro e w8 ⟨rfl, hL8⟩
  have HL8 := Lib.hid hL8
  clear hL8 g8
  go_wp2
  go_ret
  exact ⟨rfl, HL8.out.fr⟩
end Go.Proofs.YtofhgfgipdokbaaGreatDoor
