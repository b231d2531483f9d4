/- A cache's memory; where the line of a key is; what get and put do. -/
import Derived.Test.YtpapjoonnmnnaaaCacPure
import Derived.Deep.LoopGhost
import Derived.Lib.SliceRun
namespace Go.Proofs.Ytpapjoonnmnnaaa
open Go.RowKit Go.Lib

/-- what a cache holds: its lines, the selectors that were dropped, how many were remembered, how many looked up -/
structure Tab where
  L : List Ln
  D : List Int
  r : Int
  k : Int
/-- the table lies at block tb, its lines at block lb -/
structure TabAt (w : World) (tb lb : Nat) (T : Tab) (dv : Value) : Prop where
  tab : w.heap[tb]? = some (.cells #[.slice (some ⟨lb, 0, none⟩) T.L.length T.L.length, dv, .int .i64 T.r, .int .i64 T.k] 41 (0, 0))
  lines : w.heap[lb]? = some (.cells (lnFlat T.L).toArray 53 (0, 0))
  drops : w.ownsRow 0 23 1 dv T.D.length (T.D.map (Value.int .u64))
  n1 : 1 ≤ T.L.length
  n2 : T.L.length ≤ 256
  d64 : T.D.length ≤ 64
/-- the blocks of a table -/
def tfoot (tb lb : Nat) (dv : Value) : List Nat := tb :: lb :: dv.ownBlock.toList
theorem tag_ne' {w : World} {a b : Nat} {x y : Array Value} {s t : TypeId} {f g : Nat × Nat} (h : w.heap[a]? = some (.cells x s f)) (k : w.heap[b]? = some (.cells y t g)) (hst : s ≠ t) : a ≠ b := by
  rintro rfl
  rw [h] at k
  cases k
  exact hst rfl
theorem own_heap {w : World} {e : TypeId} {v : Value} {n : Nat} {xs : List Value} (h : w.ownsRow 0 e 1 v n xs) {b : Nat} (hb : v.ownBlock = some b) : ∃ cur, w.heap[b]? = some (.cells cur e (0, 0)) := by
  rcases h.2 with ⟨hn, -⟩ | ⟨g', cap, cur, rfl, _, hgg, -⟩
  · rw [hn] at hb; cases hb
  · cases hb
    exact ⟨cur, hgg⟩
theorem own_mem {v : Value} {b : Nat} : b ∈ v.ownBlock.toList ↔ v.ownBlock = some b := by
  cases v.ownBlock <;> simp [eq_comm]
section
variable {w w' : World} {tb lb : Nat} {T : Tab} {dv : Value}
theorem TabAt.fr {S : List Nat} (h : TabAt w tb lb T dv) (hF : Fr S w w') (hS : ∀ k ∈ tfoot tb lb dv, k ∉ S) : TabAt w' tb lb T dv :=
  ⟨hF.heap (hS tb (by simp [tfoot])) h.tab, hF.heap (hS lb (by simp [tfoot])) h.lines, hF.row h.drops (fun k hk => hS k (by simp [tfoot, hk])), h.n1, h.n2, h.d64⟩
theorem TabAt.fr0 (h : TabAt w tb lb T dv) (hF : Fr [] w w') : TabAt w' tb lb T dv := h.fr hF (fun _ _ => by simp)
theorem TabAt.lt (h : TabAt w tb lb T dv) : ∀ k ∈ tfoot tb lb dv, k < w.heap.size := by
  intro k hk
  simp only [tfoot, List.mem_cons] at hk
  rcases hk with rfl | rfl | hk
  · exact lt_of_heap h.tab
  · exact lt_of_heap h.lines
  · rw [own_mem] at hk
    obtain ⟨cur, hc⟩ := own_heap h.drops hk
    exact lt_of_heap hc
theorem TabAt.tl (h : TabAt w tb lb T dv) : tb ≠ lb := tag_ne' h.tab h.lines (by decide)
theorem TabAt.dt (h : TabAt w tb lb T dv) : dv.ownBlock ≠ some tb := by
  intro e
  obtain ⟨cur, hc⟩ := own_heap h.drops e
  exact tag_ne' h.tab hc (by decide) rfl
theorem TabAt.dl (h : TabAt w tb lb T dv) : dv.ownBlock ≠ some lb := by
  intro e
  obtain ⟨cur, hc⟩ := own_heap h.drops e
  exact tag_ne' h.lines hc (by decide) rfl
theorem TabAt.cell0 (h : TabAt w tb lb T dv) : w.cell? ⟨tb, 0, none⟩ = some (.slice (some ⟨lb, 0, none⟩) T.L.length T.L.length) := cell_of_heap (o := 0) h.tab rfl
theorem TabAt.cell1 (h : TabAt w tb lb T dv) : w.cell? ⟨tb, 1, none⟩ = some dv := cell_of_heap (o := 1) h.tab rfl
theorem TabAt.cell2 (h : TabAt w tb lb T dv) : w.cell? ⟨tb, 2, none⟩ = some (.int .i64 T.r) := cell_of_heap (o := 2) h.tab rfl
theorem TabAt.cell3 (h : TabAt w tb lb T dv) : w.cell? ⟨tb, 3, none⟩ = some (.int .i64 T.k) := cell_of_heap (o := 3) h.tab rfl
/-- other lines -/
theorem TabAt.setLines (h : TabAt w tb lb T dv) {L' : List Ln} (hl : L'.length = T.L.length) (hF : Fr [lb] w w') (hh : w'.heap[lb]? = some (.cells (lnFlat L').toArray 53 (0, 0))) : TabAt w' tb lb { T with L := L' } dv := by
  refine ⟨?_, hh, hF.row h.drops (fun k hk => by rw [List.mem_singleton]; rintro rfl; exact h.dl hk), ?_, ?_, h.d64⟩
  · have := hF.heap (k := tb) (by simpa using h.tl) h.tab
    simpa [hl] using this
  · simpa [hl] using h.n1
  · simpa [hl] using h.n2
end

/-! place -/
set_option maxRecDepth 100000 in
set_option maxHeartbeats 1000000 in
theorem place_at {w : World} {tb lb : Nat} {T : Tab} {dv : Value} (h : TabAt w tb lb T dv) (c s : Int) (f : Bool) (c1 : 0 ≤ c) (c2 : c ≤ 18446744073709551615) (s1 : 0 ≤ s) (s2 : s ≤ 18446744073709551615) :
    Calls Try.prog 18 #[.pointer (some ⟨tb, 0, none⟩), .agg #[.int .u64 c, .int .u64 s, .bool f]] w (Still (.pointer (some ⟨lb, ixN T.L.length c s * 4, none⟩)) w) := by
  have hn1 := h.n1
  have hn2 := h.n2
  have hc0 : w.cell? ⟨tb, 0, none⟩ = some (.slice (some ⟨lb, 0, none⟩) T.L.length T.L.length) := cell_of_heap (o := 0) h.tab rfl
  have hlt := lt_of_heap h.tab
  clear h
  generalize T.L.length = n at *
  have hnz : ((n : Int) == 0) = false := by simp; omega
  have hnz' : ¬ n = 0 := by omega
  obtain ⟨i, hi⟩ : ∃ i, i = ixN n c s := ⟨_, rfl⟩
  have hil := ixN_lt hn1 c s
  have hw := ixN_tmod hn1 c s
  have hb := keyI_bd c s
  have hk : IntKind.u64.wrap (IntKind.u64.wrap (IntKind.u64.wrap (c.tdiv 2) * 31) + IntKind.u64.wrap (s.tdiv 2)) = keyI c s := rfl
  rw [← hi] at hil hw ⊢
  generalize keyI c s = S at *
  have hil0 : (0 : Int) ≤ (i : Int) := by omega
  have hil1 : (i : Int) < (n : Int) := by omega
  clear hi hil
  go_enter Try.func18, Try.ntmps18
  go_wp2
  go_quiet (fail)
  go_wp2
  go_ret
  exact ⟨rfl, ((Fr.refl _ _).alloc _).drewN _⟩
theorem keyOf_at (w : World) (c s : Int) : Calls Try.prog 14 #[.int .u64 c, .int .u64 s] w (Still (.agg #[.int .u64 c, .int .u64 s, .bool true]) w) := by
  go_enter Try.func14, Try.ntmps14
  go_wp2
  refine bodyPost_ret (v := .agg #[.int .u64 c, .int .u64 s, .bool true]) (by simp [results, Try.results14, go_sem]) rfl ⟨rfl, (Fr.refl _ _).alloc _⟩
theorem table_at {w : World} {cb tb : Nat} (h : w.heap[cb]? = some (.cells #[.pointer (some ⟨tb, 0, none⟩)] 43 (0, 0))) : Calls Try.prog 12 #[.pointer (some ⟨cb, 0, none⟩)] w (Still (.pointer (some ⟨tb, 0, none⟩)) w) := by
  have hc0 : w.cell? ⟨cb, 0, none⟩ = some (.pointer (some ⟨tb, 0, none⟩)) := cell_of_heap (o := 0) h rfl
  clear h
  go_enter Try.func12, Try.ntmps12
  go_wp2
  go_ret
  exact ⟨rfl, Fr.refl _ _⟩
theorem newNo (w : World) (n : Int) (h : n < 1 ∨ 256 < n) : Calls Try.prog 6 #[.int .i64 n] w (Still (.tuple #[.pointer none, .int .i64 1]) w) := by
  rcases h with h | h
  · go_enter Try.func6, Try.ntmps6
    go_wp2
    go_ret2
    exact ⟨rfl, Fr.refl _ _⟩
  · have h' : ¬ n < 1 := by omega
    go_enter Try.func6, Try.ntmps6
    go_wp2
    go_ret2
    exact ⟨rfl, Fr.refl _ _⟩
theorem infoLine : (Try.prog.info? 53).map (fun i => (i.zero, i.size, i.bytes)) = some (some (.agg #[.int .u64 0, .int .u64 0, .bool false, .int .u64 0]), 4, 32) := by kernel_rfl
end Go.Proofs.Ytpapjoonnmnnaaa
