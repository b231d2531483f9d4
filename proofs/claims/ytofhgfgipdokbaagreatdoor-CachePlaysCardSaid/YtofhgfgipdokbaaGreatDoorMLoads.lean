/- The memory's checkLoaded: whether every word of the objects may be, and the root. The heap's Load, whatever is loaded. -/
import Derived.Test.YtofhgfgipdokbaaGreatDoorMRanges
import Derived.Test.YtofhgfgipdokbaaGreatDoorMLoading
namespace Go.Proofs.YtofhgfgipdokbaaGreatDoor
open Go.RowKit Go.Shelf
attribute [local go_sem] Oper.semAt_some

theorem starts_at {os : List Ob} {q : List Ob} {pre : List Nat} {x : Nat} (h : pre ++ [x] <+: startsOf (endOf q) os) : ∃ a o b, os = a ++ o :: b ∧ a.length = pre.length ∧ x = endOf (q ++ a) := by
  induction os generalizing q pre with
  | nil => obtain ⟨t, ht⟩ := h; simp [startsOf] at ht
  | cons o os ih =>
    simp only [startsOf] at h
    cases pre with
    | nil =>
      obtain ⟨t, ht⟩ := h
      simp at ht
      exact ⟨[], o, os, rfl, rfl, by simpa using ht.1⟩
    | cons y pre =>
      obtain ⟨t, ht⟩ := h
      simp only [List.cons_append, List.cons.injEq] at ht
      have e := endOf_snoc q o
      rw [← e] at ht
      obtain ⟨a, o', b, rfl, hl, hx⟩ := ih (q := q ++ [o]) ⟨t, by simpa using ht.2⟩
      exact ⟨o :: a, o', b, rfl, by simp [hl], by simpa using hx⟩
theorem starts_len (p : Nat) (os : List Ob) : (startsOf p os).length = os.length := by
  induction os generalizing p with
  | nil => rfl
  | cons o os ih => simp [startsOf, ih]
/-- a heap's memory under way through a loop over its objects: the memory's variable, a result, the memory -/
structure Looks (w : World) (bb rb mb : Nat) (m : Mem) (wv sv rv : Value) (W : World) : Prop where
  box : W.heap[bb]? = some (.cells #[.pointer (some ⟨mb, 0, none⟩)] 75 (0, 0))
  res : W.heap[rb]? = some (.cells #[rv] 95 (0, 0))
  mem : MemAt W mb m wv sv
  fr : Fr [] w W
  new : w.heap.size ≤ rb
theorem Looks.go {w W W' : World} {bb rb mb : Nat} {m : Mem} {wv sv rv : Value} (h : Looks w bb rb mb m wv sv rv W) (hF : Fr [] W W') : Looks w bb rb mb m wv sv rv W' :=
  ⟨hF.heap (by simp) h.box, hF.heap (by simp) h.res, h.mem.fr0 hF, h.fr.trans hF, h.new⟩
theorem Looks.put {w W : World} {bb rb mb : Nat} {m : Mem} {wv sv rv : Value} (h : Looks w bb rb mb m wv sv rv W) {l : Nat} {o : Obj} (o' : Obj) (hl : w.heap.size ≤ l) (hh : W.heap[l]? = some o) (hc : o.isCells = false) : Looks w bb rb mb m wv sv rv (W.putObj l o') := by
  have hF := putObj_fr W l o'
  refine ⟨hF.heap (by simpa using not_cells h.box hh hc) h.box, hF.heap (by simpa using not_cells h.res hh hc) h.res, h.mem.fr hF (fun g hg => ?_), h.fr.trans' hF (fun _ _ e => by cases e) (fun j hj e => by simp at e; omega), h.new⟩
  obtain ⟨c, t', f, hcc⟩ := foot_cells h.mem hg
  simpa using not_cells hcc hh hc
theorem Looks.set {w W : World} {bb rb mb : Nat} {m : Mem} {wv sv rv : Value} (h : Looks w bb rb mb m wv sv rv W) (u : Value) : Looks w bb rb mb m wv sv u (W.setCell ⟨rb, 0, none⟩ u) := by
  have hF : Fr [rb] W (W.setCell ⟨rb, 0, none⟩ u) := (Fr.refl _ _).setCell (fun _ => by simp) _
  refine ⟨hF.heap (by simpa using tag_ne h.box h.res (by decide)) h.box, heap_setCell_same h.res _, h.mem.fr hF (fun g hg => ?_), h.fr.setCell (fun hl => by have := h.new; simp only at hl; omega) _, h.new⟩
  simp only [List.mem_singleton]
  rintro rfl
  exact box_apart (v := rv) h.res h.mem (by decide) (by decide) (by decide) hg
theorem Looks.keeps {w W : World} {bb rb mb : Nat} {m : Mem} {wv sv rv : Value} (h : Looks w bb rb mb m wv sv rv W) (B : Nat) (u : Value) : KeepsFrom B W (W.setCell ⟨rb, 0, none⟩ u) :=
  ⟨by simp [World.setCell], fun q ob _ hq hoc => by
    rw [Below.heap_setCell _ _ _ _ (fun e' => by subst e'; rw [h.res] at hq; cases hq; cases hoc)]; exact hq⟩
theorem keeps_fr {W W' : World} (hF : Fr [] W W') (B : Nat) : KeepsFrom B W W' := ⟨hF.size, fun _ _ _ hq _ => hF.heap (by simp) hq⟩
def okOb (M : List Bool) (o : Ob) : Bool := okB M o.1 && o.2.2.all (okB M)
set_option maxRecDepth 100000 in
set_option maxHeartbeats 4000000 in
theorem checkLoaded_checks {w : World} {mb : Nat} {lim root hashes : Int} {os : List Ob} {wv sv : Value} (hM : MemAt w mb (absMem lim os root hashes) wv sv) (hg : Glob w) (hbd : ∀ o ∈ os, ObB o) (hroot : WB root) :
    Calls Tryz.prog 62 #[.pointer (some ⟨mb, 0, none⟩)] w (fun e w' => (wordsOk os root = true ∧ Still .nilIface w e w') ∨ (wordsOk os root = false ∧ Fails 1 w e w')) := by
  have hmost := hM.most
  rw [(absMem_len _ _ _ _).1] at hmost
  have hsz : ∀ o ∈ os, o.2.2.length ≤ 65536 := fun o ho => by
    obtain ⟨a, b, rfl⟩ := List.append_of_mem ho
    have : endOf a + 3 + o.2.2.length ≤ endOf (a ++ o :: b) := by unfold endOf; rw [flatW_append, flatW_cons, List.length_append, List.length_append, wordsOb_len]; omega
    omega
  have hC : Chain (absMem lim os root hashes).W 1 (startsOf 1 os) := by have := abs_chain (lim := lim) (root := root) (hashes := hashes) [] os hsz; simpa [endOf, flatW] using this
  refine (callsIn_wide (n := 6)).1 ?_
  refine callsIn_of_wp_marks Tryz.func62 rfl trivial ?_ rfl
  simp only [Tryz.ntmps62, List.size_toArray, List.length_cons, List.length_nil, Nat.reduceAdd, Nat.reduceSub, Array.replicate_succ, Array.replicate_zero, List.push_toArray, List.append_toArray, List.nil_append, List.cons_append]
  have HM := Lib.hid hM
  have HC := Lib.hid hC
  have HBD := Lib.hid hbd
  have HG := Lib.hid hg
  have HSZ := Lib.hid hsz
  clear hM hC hbd hg hsz
  gi_wp2
  have hF0 : Fr [] w ((w.alloc (.cells #[.pointer (some ⟨mb, 0, none⟩)] 75)).alloc (.cells #[.nilIface] 95)) := ((Fr.refl [] w).alloc _).alloc _
  have hb0 : ((w.alloc (.cells #[.pointer (some ⟨mb, 0, none⟩)] 75)).alloc (.cells #[.nilIface] 95)).heap[w.heap.size]? = some (.cells #[.pointer (some ⟨mb, 0, none⟩)] 75 (0, 0)) := ((Fr.refl [] _).alloc _).heap (by simp) (heap_new w _)
  have hr0 : ((w.alloc (.cells #[.pointer (some ⟨mb, 0, none⟩)] 75)).alloc (.cells #[.nilIface] 95)).heap[w.heap.size + 1]? = some (.cells #[.nilIface] 95 (0, 0)) := by
    have := heap_new (w.alloc (.cells #[.pointer (some ⟨mb, 0, none⟩)] 75)) (.cells #[.nilIface] 95)
    simpa using this
  refine wpIn_range_bound (xs := startsOf 1 os) rfl (by omega) (gf := 29) (rv := .pointer (some ⟨mb, 0, none⟩)) rfl trivial (enters_of Tryz.func29 (by kernel_rfl) rfl) (objects_yields 5 (by omega) (wv := wv) (sv := sv) _ HC.out) (fun _ => rfl)
    (fun pre W => Looks w w.heap.size (w.heap.size + 1) mb (absMem lim os root hashes) wv sv .nilIface W ∧ ∀ i o, i < pre.length → os[i]? = some o → okOb (marksOf os) o = true)
    (fun _ W => ∃ st, Looks w w.heap.size (w.heap.size + 1) mb (absMem lim os root hashes) wv sv (.iface 144 (.agg #[.string st, .int .i64 1])) W ∧ wordsOk os root = false) (fun pre W h => h.1.mem) ?_ ?_ ?_ ?_
    (fun x => { tmps := #[.pointer (some ⟨mb, 0, none⟩), .pointer (some ⟨w.heap.size, 0, none⟩), .pointer (some ⟨w.heap.size + 1, 0, none⟩), .int .i64 x, undef, undef, undef, undef, .pointer (some ⟨mb, 0, none⟩), .func (.func 29) #[.pointer (some ⟨mb, 0, none⟩)] #[], .int .i64 x, undef, undef, undef, undef, undef, undef, undef, undef, undef, undef, undef, undef, undef, undef, undef, undef, undef, undef, undef, undef, undef, undef, undef, undef, undef, undef, undef, undef, undef, undef, undef, undef, undef, undef, undef, undef, undef, undef, undef, undef, undef, undef, undef, undef, undef], defers := [] }) ?assign ?body ?done ?stop
  · exact fun pre W l o o' hl hh hc h => ⟨h.1.put o' (Nat.le_trans hF0.size hl) hh hc, h.2⟩
  · exact fun pre W l o o' hl hh hc ⟨st, h⟩ => ⟨st, h.1.put o' (Nat.le_trans hF0.size hl) hh hc, h.2⟩
  · exact fun W o h => ⟨h.1.go ((Fr.refl _ _).alloc _), h.2⟩
  · exact ⟨⟨hb0, hr0, HM.out.fr0 hF0, hF0, by omega⟩, fun i o hi => by simp at hi⟩
  case assign =>
    intro l x W K hK
    gi_wp2
    exact hK
  case body =>
    rintro l pre x W ⟨hL, hall⟩ hpre -
    obtain ⟨a, o, b, hos, hal, hx⟩ := starts_at (q := []) (os := os) (pre := pre) (x := x) (by simpa [endOf, flatW] using hpre)
    simp only [List.nil_append] at hx
    have hom : o ∈ os := by rw [hos]; simp
    have hpos : endOf a + 3 + o.2.2.length ≤ endOf os := by rw [hos]; unfold endOf; rw [flatW_append, flatW_cons, List.length_append, List.length_append, wordsOb_len]; omega
    have w1 : (absMem lim os root hashes).W[x]? = some o.1 := by rw [hx, hos]; exact abs_cls
    have w3 : (absMem lim os root hashes).W[x + 2]? = some (o.2.2.length : Int) := by rw [hx, hos]; exact abs_size
    have wf : ∀ j, j < o.2.2.length → (absMem lim os root hashes).W[x + 3 + j]? = o.2.2[j]? := fun j hj => by rw [hx, hos]; exact abs_field j hj
    obtain ⟨g, cap, hwv, hcm, hcg, -, hcap, hlt⟩ := words_at hL.mem w1
    have hbO := HBD.out o hom
    have hi0 : os[pre.length]? = some o := by rw [hos, ← hal]; simp
    have hbox := cell_of_heap (o := 0) hL.box rfl
    have hres := cell_of_heap (o := 0) hL.res rfl
    have hfz : W.frozen? ⟨w.heap.size + 1, 0, none⟩ = false := frozen_of_heap hL.res
    have HL := Lib.hid hL
    rw [(absMem_len _ _ _ _).1] at hcm hcap hlt
    have hmx : Tryz.prog.follows .mixedOrders = true := by kernel_rfl
    have hck : Hid (∀ W' b xs c, Fr [] W W' → (∀ y ∈ xs, WB y) → xs.length ≤ 65536 → WordsAt W' b xs → Calls Tryz.prog 73 #[.pointer (some ⟨mb, 0, none⟩), .slice b xs.length c] W' (fun e w' => ∃ v, e = .returned v ∧ Fr [] W' w' ∧ ((v = .nilIface ∧ xs.all (okB (marksOf os)) = true) ∨ ∃ st, v = .iface 144 (.agg #[.string st, .int .i64 1]) ∧ xs.all (okB (marksOf os)) = false))) := by
      refine Lib.hid fun W' b xs c hF hb hl hx => ?_
      cases hall : xs.all (okB (marksOf os))
      · obtain ⟨y, hy, hyb⟩ := List.all_eq_false.1 hall
        obtain ⟨j, hj⟩ := List.getElem?_of_mem hy
        refine (check_bad (HL.out.mem.fr0 hF) (HG.out.fr (HL.out.fr.trans hF)) b c xs hx hl hb j y hj (by rw [absMem_M]; simpa using hyb)).mono ?_
        rintro e w' ⟨st, rfl, hF'⟩
        exact ⟨_, rfl, hF', .inr ⟨st, rfl, rfl⟩⟩
      · refine (check_ok (HL.out.mem.fr0 hF) b c xs hx hl hb (List.all_eq_true.1 hall)).mono ?_
        rintro e w' ⟨rfl, rfl⟩
        exact ⟨_, rfl, Fr.refl _ _, .inl ⟨rfl, rfl⟩⟩
    have hone : Hid (∀ W', W'.cell? ⟨W.heap.size, 0, none⟩ = some (.int .u64 o.1) → WordsAt W' (some ⟨W.heap.size, 0, none⟩) [o.1]) := by
      refine Lib.hid fun W' hc i y hy => ?_
      cases i with
      | zero => cases hy; exact ⟨_, 0, rfl, hc⟩
      | succ i => simp at hy
    have hok1 : Hid ([o.1].all (okB (marksOf os)) = true → o.2.2.all (okB (marksOf os)) = true → ∀ i p, i < (pre ++ [x]).length → os[i]? = some p → okOb (marksOf os) p = true) := by
      refine Lib.hid fun h1 h2 i p hi hp => ?_
      by_cases hlt : i < pre.length
      · exact hall i p hlt hp
      · simp at hi
        have : i = pre.length := by omega
        subst this
        rw [hi0] at hp
        cases hp
        simp only [List.all_cons, List.all_nil, Bool.and_true] at h1
        simp [okOb, h1, h2]
    have hno : Hid ([o.1].all (okB (marksOf os)) = false ∨ o.2.2.all (okB (marksOf os)) = false → wordsOk os root = false) := by
      refine Lib.hid fun hn => Bool.eq_false_iff.2 fun h => ?_
      obtain ⟨h1, h2⟩ := (wordsOk_of h).1 o hom
      rcases hn with hn | hn
      · simp [h1] at hn
      · rw [List.all_eq_true.2 h2] at hn; cases hn
    have hfw : Hid (∀ W', Fr [] W W' → ∀ oo, (o.2.2.length ≠ 0 → oo = x + 3) → WordsAt W' (some ⟨g, oo, none⟩) o.2.2) := by
      refine Lib.hid fun W' hF oo hoo j y hy => ?_
      have hj : j < o.2.2.length := (List.getElem?_eq_some_iff.1 hy).1
      obtain ⟨g', cap', hwv', -, hc', -⟩ := words_at (HL.out.mem.fr0 hF) ((wf j hj).trans hy)
      rw [hwv] at hwv'
      cases hwv'
      exact ⟨g, oo, rfl, by rw [hoo (by omega)]; exact hc'⟩
    have hfld : Hid (∀ W', Fr [] W W' → Calls Tryz.prog 74 #[.pointer (some ⟨mb, 0, none⟩), .int .i64 x] W' (Cuts g (x + 3) o.2.2.length W')) := by
      refine Lib.hid fun W' hF => ?_
      have hM' := HL.out.mem.fr0 hF
      rw [hwv] at hM'
      have hm : cap ≤ 9223372036854775807 := by
        have := HL.out.mem.words
        rw [hwv] at this
        rcases this.2 with ⟨h0, -⟩ | ⟨g2, cap2, cur, e, -, -, -, hmax, -⟩
        · cases h0
        · cases e; unfold maxLen at hmax; omega
      rw [← (absMem_len lim os root hashes).1] at hcap
      exact fields_draws hM' hcap hm x o.2.2.length w3 (by rw [(absMem_len _ _ _ _).1]; omega)
    have hz5 : o.2.2.length ≤ 65536 := HSZ.out o hom
    have HBO := Lib.hid hbO
    clear hbO hom wf w1 w3 hi0 hall hpre hos hx hL HM hwv hal hpos
    generalize endOf os = n at *
    have x0 : (0 : Int) ≤ (x : Int) := by omega
    have x1 : (x : Int) < (n : Int) := by omega
    have x2 : IntKind.i64.wrap ((x : Int) + 0) = (x : Int) := by rw [IntKind.wrap_i64]; omega
    have x3 : IntKind.i64.wrap (x : Int) = (x : Int) := by rw [IntKind.wrap_i64]; omega
    gi_wp2
    refine region_round (S := fun w' => w'.cell? ⟨w.heap.size, 0, none⟩ = some (.pointer (some ⟨mb, 0, none⟩)) ∧ w'.cell? ⟨mb, 1, none⟩ = some (.slice (some ⟨g, 0, none⟩) n cap) ∧ w'.cell? ⟨g, x, none⟩ = some (.int .u64 o.1)) hmx (by kernel_rfl) ⟨hbox, hcm, hcg⟩ (fun hHeld => ?_)
    (refine wpAnyH_take (i := 0) (oi := ⟨some 11, _, _, _, _, _⟩) (v := ?_) rfl (by kernel_rfl) (by kernel_rfl) (by kernel_rfl) (fun _ _ _ h => h) (Or.inl ⟨by rfl, ?_⟩) (by assumption) ?_); rotate_left; focus (intro w hSw; (try dsimp only at hSw); go_split_ands; go_simp; try with_reducible rfl); (try simp only [Act.put, List.setIfInBounds_toArray, List.set_cons_zero, List.set_cons_succ])
    (refine wpAnyH_take (i := 1) (oi := ⟨some 12, _, _, _, _, _⟩) (v := ?_) rfl (by kernel_rfl) (by kernel_rfl) (by kernel_rfl) (fun _ _ _ h => h) (Or.inl ⟨by rfl, ?_⟩) (by assumption) ?_); rotate_left; focus (intro w hSw; (try dsimp only at hSw); go_split_ands; go_simp; try with_reducible rfl); (try simp only [Act.put, List.setIfInBounds_toArray, List.set_cons_zero, List.set_cons_succ])
    (refine wpAnyH_take (i := 2) (oi := ⟨some 13, _, _, _, _, _⟩) (v := ?_) rfl (by kernel_rfl) (by kernel_rfl) (by kernel_rfl) (fun _ _ _ h => h) (Or.inl ⟨by rfl, ?_⟩) (by assumption) ?_); rotate_left; focus (intro w hSw; (try dsimp only at hSw); go_split_ands; go_simp; try with_reducible rfl); (try simp only [Act.put, List.setIfInBounds_toArray, List.set_cons_zero, List.set_cons_succ])
    (refine wpAnyH_take (i := 3) (oi := ⟨some 14, _, _, _, _, _⟩) (v := ?_) rfl (by kernel_rfl) (by kernel_rfl) (by kernel_rfl) (fun _ _ _ h => h) (Or.inl ⟨by rfl, ?_⟩) (by assumption) ?_); rotate_left; focus (intro w hSw; (try dsimp only at hSw); go_split_ands; go_simp; try with_reducible rfl); (try simp only [Act.put, List.setIfInBounds_toArray, List.set_cons_zero, List.set_cons_succ])
    (refine wpAnyH_take (i := 4) (oi := ⟨some 15, _, _, _, _, _⟩) (v := ?_) rfl (by kernel_rfl) (by kernel_rfl) (by kernel_rfl) (fun _ _ _ h => h) (Or.inl ⟨by rfl, ?_⟩) (by assumption) ?_); rotate_left; focus (intro w hSw; (try dsimp only at hSw); go_split_ands; go_simp; try with_reducible rfl); (try simp only [Act.put, List.setIfInBounds_toArray, List.set_cons_zero, List.set_cons_succ])
    (refine wpAnyH_take (i := 5) (oi := ⟨some 16, _, _, _, _, _⟩) (v := ?_) rfl (by kernel_rfl) (by kernel_rfl) (by kernel_rfl) (fun _ _ _ h => h) (Or.inl ⟨by rfl, ?_⟩) (by assumption) ?_); rotate_left; focus (intro w hSw; (try dsimp only at hSw); go_split_ands; go_simp; try with_reducible rfl); (try simp only [Act.put, List.setIfInBounds_toArray, List.set_cons_zero, List.set_cons_succ])
    (refine wpAnyH_take (i := 6) (oi := ⟨some 17, _, _, _, _, _⟩) (v := ?_) rfl (by kernel_rfl) (by kernel_rfl) (by kernel_rfl) (fun _ _ _ h => h) (Or.inl ⟨by rfl, ?_⟩) (by assumption) ?_); rotate_left; focus (intro w hSw; (try dsimp only at hSw); go_split_ands; go_simp; try with_reducible rfl); (try simp only [Act.put, List.setIfInBounds_toArray, List.set_cons_zero, List.set_cons_succ])
    (refine wpAnyH_take (i := 7) (oi := ⟨some 18, _, _, _, _, _⟩) (v := ?_) rfl (by kernel_rfl) (by kernel_rfl) (by kernel_rfl) (fun _ _ _ h => h) (Or.inl ⟨by rfl, ?_⟩) (by assumption) ?_); rotate_left; focus (intro w hSw; (try dsimp only at hSw); go_split_ands; go_simp; try with_reducible rfl); (try simp only [Act.put, List.setIfInBounds_toArray, List.set_cons_zero, List.set_cons_succ])
    (refine wpAnyH_take (i := 8) (oi := ⟨some 19, _, _, _, _, _⟩) (v := ?_) rfl (by kernel_rfl) (by kernel_rfl) (by kernel_rfl) (fun _ _ _ h => h) (Or.inl ⟨by rfl, ?_⟩) (by assumption) ?_); rotate_left; focus (intro w hSw; (try dsimp only at hSw); go_split_ands; go_simp; try with_reducible rfl); (try simp only [Act.put, List.setIfInBounds_toArray, List.set_cons_zero, List.set_cons_succ])
    (refine wpAnyH_ready (rs := [9]) (by kernel_rfl) (by simp) ?_; refine AllReadyH.cons rfl (fun K hK => ?_) AllReadyH.nil); go_simp
    refine hK.out _ _ ?_ (fun hHeld => ?_)
    · have hX : Fr [] W (W.alloc (.cells #[.int .u64 o.1] 24)).drew := ((Fr.refl _ _).alloc _).drew
      exact ⟨hX.cell (by simp) hbox, hX.cell (by simp) hcm, hX.cell (by simp) hcg⟩
    clear hK
    (refine wpAnyH_ready (rs := [10]) (by kernel_rfl) (by simp) ?_; refine AllReadyH.cons rfl (fun K hK => ?_) AllReadyH.nil); go_simp
    refine (hck.out _ _ [o.1] 1 (((Fr.refl _ _).alloc _).drew) (fun y hy => by simp at hy; subst hy; exact HBO.out.1) (by simp) (hone.out _ (by simp))).mono ?_
    rintro e w2 ⟨v, rfl, hF2, hv⟩
    have HF2 : Hid (Fr [] W w2) := (((Fr.refl _ _).alloc _).drew).trans hF2
    refine hK.out _ _ ⟨HF2.out.cell (by simp) hbox, HF2.out.cell (by simp) hcm, HF2.out.cell (by simp) hcg⟩ (fun hHeld2 => ?_)
    clear hK hF2
    (refine wpAnyH_take (i := 11) (oi := ⟨some 4, _, _, _, _, _⟩) (v := ?_) rfl (by kernel_rfl) (by kernel_rfl) (by kernel_rfl) (fun _ _ _ h => h) (Or.inl ⟨by rfl, ?_⟩) (by assumption) ?_); rotate_left; focus (intro w hSw; (try dsimp only at hSw); go_split_ands; go_simp; try with_reducible rfl); (try simp only [Act.put, List.setIfInBounds_toArray, List.set_cons_zero, List.set_cons_succ])
    refine wpAnyH_done (by kernel_rfl) (Norm.mk ?_) _
    rcases hv with ⟨rfl, hcls⟩ | ⟨st, rfl, hcls⟩
    · have HC1 := Lib.hid hcls
      have hbox2 := hHeld2.1
      clear hHeld hHeld2 hcls hbox hres hfz hcm hcg
      gi_wp2
      refine region_round (S := fun w' => w'.cell? ⟨w.heap.size, 0, none⟩ = some (.pointer (some ⟨mb, 0, none⟩))) hmx (by kernel_rfl) hbox2 (fun hHeld => ?_)
      (refine wpAnyH_take (i := 0) (oi := ⟨some 25, _, _, _, _, _⟩) (v := ?_) rfl (by kernel_rfl) (by kernel_rfl) (by kernel_rfl) (fun _ _ _ h => h) (Or.inl ⟨by rfl, ?_⟩) (by assumption) ?_); rotate_left; focus (intro w hSw; (try dsimp only at hSw); go_split_ands; go_simp; try with_reducible rfl); (try simp only [Act.put, List.setIfInBounds_toArray, List.set_cons_zero, List.set_cons_succ])
      (refine wpAnyH_take (i := 1) (oi := ⟨some 26, _, _, _, _, _⟩) (v := ?_) rfl (by kernel_rfl) (by kernel_rfl) (by kernel_rfl) (fun _ _ _ h => h) (Or.inl ⟨by rfl, ?_⟩) (by assumption) ?_); rotate_left; focus (intro w hSw; (try dsimp only at hSw); go_split_ands; go_simp; try with_reducible rfl); (try simp only [Act.put, List.setIfInBounds_toArray, List.set_cons_zero, List.set_cons_succ])
      (refine wpAnyH_take (i := 2) (oi := ⟨some 27, _, _, _, _, _⟩) (v := ?_) rfl (by kernel_rfl) (by kernel_rfl) (by kernel_rfl) (fun _ _ _ h => h) (Or.inl ⟨by rfl, ?_⟩) (by assumption) ?_); rotate_left; focus (intro w hSw; (try dsimp only at hSw); go_split_ands; go_simp; try with_reducible rfl); (try simp only [Act.put, List.setIfInBounds_toArray, List.set_cons_zero, List.set_cons_succ])
      (refine wpAnyH_ready (rs := [3]) (by kernel_rfl) (by simp) ?_; refine AllReadyH.cons rfl (fun K hK => ?_) AllReadyH.nil); go_simp
      refine (hfld.out _ HF2.out.drew).mono ?_
      rintro e w2a ⟨oo, cc, rfl, hoo, nd, hw⟩
      have HFa : Hid (Fr [] W w2a) := by rw [hw]; exact HF2.out.drew.drewN nd
      have hbox3 : w2a.cell? ⟨w.heap.size, 0, none⟩ = some (.pointer (some ⟨mb, 0, none⟩)) := by rw [hw]; exact hbox2
      clear hw
      refine hK.out _ _ hbox3 (fun hHeld3 => ?_)
      clear hK
      (refine wpAnyH_ready (rs := [4]) (by kernel_rfl) (by simp) ?_; refine AllReadyH.cons rfl (fun K hK => ?_) AllReadyH.nil); go_simp
      refine (hck.out _ _ o.2.2 cc HFa.out HBO.out.2 hz5 (hfw.out _ HFa.out oo hoo)).mono ?_
      rintro e w3 ⟨v, rfl, hF3, hv⟩
      have HF3 : Hid (Fr [] W w3) := HFa.out.trans hF3
      refine hK.out _ _ (hF3.cell (by simp) hbox3) (fun hHeld4 => ?_)
      clear hK hF3
      (refine wpAnyH_take (i := 5) (oi := ⟨some 5, _, _, _, _, _⟩) (v := ?_) rfl (by kernel_rfl) (by kernel_rfl) (by kernel_rfl) (fun _ _ _ h => h) (Or.inl ⟨by rfl, ?_⟩) (by assumption) ?_); rotate_left; focus (intro w hSw; (try dsimp only at hSw); go_split_ands; go_simp; try with_reducible rfl); (try simp only [Act.put, List.setIfInBounds_toArray, List.set_cons_zero, List.set_cons_succ])
      refine wpAnyH_done (by kernel_rfl) (Norm.mk ?_) _
      rcases hv with ⟨rfl, hfs⟩ | ⟨st, rfl, hfs⟩
      · have HC2 := Lib.hid hfs
        clear hHeld hHeld3 hHeld4 hfs hbox2 hbox3
        gi_wp2
        exact ⟨keeps_fr HF3.out _, HL.out.go HF3.out, hok1.out HC1.out HC2.out⟩
      · have HC2 := Lib.hid (hno.out (.inr hfs))
        have HL2 := Lib.hid (HL.out.go HF3.out)
        have hres2 := cell_of_heap (o := 0) HL2.out.res rfl
        have hfz2 : w3.frozen? ⟨w.heap.size + 1, 0, none⟩ = false := frozen_of_heap HL2.out.res
        clear hHeld hHeld3 hHeld4 hfs hbox2 hbox3
        gi_wp2
        exact ⟨(keeps_fr HF3.out _).trans (HL2.out.keeps _ _), st, HL2.out.set _, HC2.out⟩
    · have HC1 := Lib.hid (hno.out (.inl hcls))
      have HL2 := Lib.hid (HL.out.go HF2.out)
      have hres2 := cell_of_heap (o := 0) HL2.out.res rfl
      have hfz2 : w2.frozen? ⟨w.heap.size + 1, 0, none⟩ = false := frozen_of_heap HL2.out.res
      clear hHeld hHeld2 hcls hbox hres hfz hcm hcg
      gi_wp2
      exact ⟨(keeps_fr HF2.out _).trans (HL2.out.keeps _ _), st, HL2.out.set _, HC1.out⟩
  case done =>
    rintro D W hD ⟨hL, hall⟩ hDK
    have HDK := Lib.hid hDK
    clear hDK
    have hbox := cell_of_heap (o := 0) hL.box rfl
    have hres := cell_of_heap (o := 0) hL.res rfl
    have hfz : W.frozen? ⟨w.heap.size + 1, 0, none⟩ = false := frozen_of_heap hL.res
    have hrt : W.cell? ⟨mb, 3, none⟩ = some (.int .u64 root) := hL.mem.cell.2.2.2.1
    have hst := start_any (hL.mem.fr0 ((Fr.refl _ _).drew)) root hroot.1 hroot.2
    rw [absMem_M] at hst
    have HL := Lib.hid hL
    have HALL : Hid (∀ o ∈ os, okB (marksOf os) o.1 = true ∧ ∀ x ∈ o.2.2, okB (marksOf os) x = true) := by
      refine Lib.hid fun o ho => ?_
      obtain ⟨i, hi⟩ := List.getElem?_of_mem ho
      have := hall i o (by rw [starts_len]; exact (List.getElem?_eq_some_iff.1 hi).1) hi
      simp only [okOb, Bool.and_eq_true, List.all_eq_true] at this
      exact this
    have hmx : Tryz.prog.follows .mixedOrders = true := by kernel_rfl
    have hiw := fun W' (hF : Fr [] W W') s hs => invalidWord_fails s hs root W' (HG.out.fr (HL.out.fr.trans hF)) hroot.1 (by have := hroot.2; omega)
    have HIW := Lib.hid hiw
    clear hL hall hiw HM HBD HSZ HC
    gi_wp2
    refine region_plain (S := fun w' => w'.cell? ⟨w.heap.size, 0, none⟩ = some (.pointer (some ⟨mb, 0, none⟩)) ∧ w'.cell? ⟨mb, 3, none⟩ = some (.int .u64 root)) hmx ⟨hbox, hrt⟩ (fun hHeld => ?_)
    (refine wpAnyH_take (i := 0) (oi := ⟨some 34, _, _, _, _, _⟩) (v := ?_) rfl (by kernel_rfl) (by kernel_rfl) (by kernel_rfl) (fun _ _ _ h => h) (Or.inl ⟨by rfl, ?_⟩) (by assumption) ?_); rotate_left; focus (intro w hSw; (try dsimp only at hSw); go_split_ands; go_simp; try with_reducible rfl); (try simp only [Act.put, List.setIfInBounds_toArray, List.set_cons_zero, List.set_cons_succ])
    (refine wpAnyH_take (i := 1) (oi := ⟨some 35, _, _, _, _, _⟩) (v := ?_) rfl (by kernel_rfl) (by kernel_rfl) (by kernel_rfl) (fun _ _ _ h => h) (Or.inl ⟨by rfl, ?_⟩) (by assumption) ?_); rotate_left; focus (intro w hSw; (try dsimp only at hSw); go_split_ands; go_simp; try with_reducible rfl); (try simp only [Act.put, List.setIfInBounds_toArray, List.set_cons_zero, List.set_cons_succ])
    (refine wpAnyH_take (i := 2) (oi := ⟨some 36, _, _, _, _, _⟩) (v := ?_) rfl (by kernel_rfl) (by kernel_rfl) (by kernel_rfl) (fun _ _ _ h => h) (Or.inl ⟨by rfl, ?_⟩) (by assumption) ?_); rotate_left; focus (intro w hSw; (try dsimp only at hSw); go_split_ands; go_simp; try with_reducible rfl); (try simp only [Act.put, List.setIfInBounds_toArray, List.set_cons_zero, List.set_cons_succ])
    (refine wpAnyH_take (i := 3) (oi := ⟨some 37, _, _, _, _, _⟩) (v := ?_) rfl (by kernel_rfl) (by kernel_rfl) (by kernel_rfl) (fun _ _ _ h => h) (Or.inl ⟨by rfl, ?_⟩) (by assumption) ?_); rotate_left; focus (intro w hSw; (try dsimp only at hSw); go_split_ands; go_simp; try with_reducible rfl); (try simp only [Act.put, List.setIfInBounds_toArray, List.set_cons_zero, List.set_cons_succ])
    (refine wpAnyH_take (i := 4) (oi := ⟨some 38, _, _, _, _, _⟩) (v := ?_) rfl (by kernel_rfl) (by kernel_rfl) (by kernel_rfl) (fun _ _ _ h => h) (Or.inl ⟨by rfl, ?_⟩) (by assumption) ?_); rotate_left; focus (intro w hSw; (try dsimp only at hSw); go_split_ands; go_simp; try with_reducible rfl); (try simp only [Act.put, List.setIfInBounds_toArray, List.set_cons_zero, List.set_cons_succ])
    (refine wpAnyH_ready (rs := [5]) (by kernel_rfl) (by simp) ?_; refine AllReadyH.cons rfl (fun K hK => ?_) AllReadyH.nil); go_simp
    refine hst.mono ?_
    rintro e w2 ⟨z, rfl, rfl⟩
    refine hK.out _ _ ⟨hbox, hrt⟩ (fun hHeld2 => ?_)
    clear hK
    (refine wpAnyH_take (i := 6) (oi := ⟨some 33, _, _, _, _, _⟩) (v := ?_) rfl (by kernel_rfl) (by kernel_rfl) (by kernel_rfl) (fun _ _ _ h => h) (Or.inl ⟨by rfl, ?_⟩) (by assumption) ?_); rotate_left; focus (intro w hSw; (try dsimp only at hSw); go_split_ands; go_simp; try with_reducible rfl); (try simp only [Act.put, List.setIfInBounds_toArray, List.set_cons_zero, List.set_cons_succ])
    (refine wpAnyH_take (i := 7) (oi := ⟨some 40, _, _, _, _, _⟩) (v := ?_) rfl (by kernel_rfl) (by kernel_rfl) (by kernel_rfl) (fun _ _ _ h => h) (Or.inl ⟨by rfl, ?_⟩) (by assumption) ?_); rotate_left; focus (intro w hSw; (try dsimp only at hSw); go_split_ands; go_simp; try with_reducible rfl); (try simp only [Act.put, List.setIfInBounds_toArray, List.set_cons_zero, List.set_cons_succ])
    (refine wpAnyH_take (i := 9) (oi := ⟨some 6, _, _, _, _, _⟩) (v := ?_) rfl (by kernel_rfl) (by kernel_rfl) (by kernel_rfl) (fun _ _ _ h => h) (Or.inl ⟨by rfl, ?_⟩) (by assumption) ?_); rotate_left; focus (intro w hSw; (try dsimp only at hSw); go_split_ands; go_simp; try with_reducible rfl); (try simp only [Act.put, List.setIfInBounds_toArray, List.set_cons_zero, List.set_cons_succ])
    (refine wpAnyH_take (i := 8) (oi := ⟨some 41, _, _, _, _, _⟩) (v := ?_) rfl (by kernel_rfl) (by kernel_rfl) (by kernel_rfl) (fun _ _ _ h => h) (Or.inl ⟨by rfl, ?_⟩) (by assumption) ?_); rotate_left; focus (intro w hSw; (try dsimp only at hSw); go_split_ands; go_simp; try with_reducible rfl); (try simp only [Act.put, List.setIfInBounds_toArray, List.set_cons_zero, List.set_cons_succ])
    (refine wpAnyH_take (i := 10) (oi := ⟨some 7, _, _, _, _, _⟩) (v := ?_) rfl (by kernel_rfl) (by kernel_rfl) (by kernel_rfl) (fun _ _ _ h => h) (Or.inl ⟨by rfl, ?_⟩) (by assumption) ?_); rotate_left; focus (intro w hSw; (try dsimp only at hSw); go_split_ands; go_simp; try with_reducible rfl); (try simp only [Act.put, List.setIfInBounds_toArray, List.set_cons_zero, List.set_cons_succ])
    refine wpAnyH_done (by kernel_rfl) (Norm.mk ?_) _
    simp only [Act.put, List.setIfInBounds_toArray, List.set_cons_zero, List.set_cons_succ]
    have hdk : ∀ W' u, Fr [] W W' → (W'.setCell ⟨w.heap.size + 1, 0, none⟩ u).heap[D]? = some (.deferred (some [])) := fun W' u hF => by
      have h1 : W'.heap[D]? = some (.deferred (some [])) := hF.heap (by simp) HDK.out
      rw [Below.heap_setCell _ _ _ _ (fun e => by subst e; have := (HL.out.go hF).res; rw [h1] at this; cases this)]
      exact h1
    have HD2 := Lib.hid hdk
    have hD' : w.heap.size ≤ D := Nat.le_trans hF0.size hD
    have HF0 := Lib.hid hF0
    clear hst hHeld hHeld2 hdk HDK hF0 hb0 hr0
    cases hs : stB (marksOf os) root
    · by_cases hr : root = 0
      · subst hr
        have hwk : Hid (wordsOk os 0 = true) := wordsOk_mk HALL.out (.inl rfl)
        clear hs HIW
        gi_wp2
        refine ⟨by simp, .inl ⟨_, _, rfl, run_takeDeferred (HD2.out W _ (Fr.refl _ _)), ?_⟩⟩
        have hL2 := (((HL.out.set .nilIface).go ((Fr.refl _ _).drew)).put (.deferred none) hD' (HD2.out W _ (Fr.refl _ _)) rfl)
        have hc := cell_of_heap (o := 0) hL2.res rfl
        refine ⟨.nilIface, ?_, .inl ⟨hwk.out, rfl, hL2.fr⟩⟩
        simp [results, Tryz.results62, go_sem, hc]
      · have hwk : Hid (wordsOk os root = false) := by
          refine Lib.hid (Bool.eq_false_iff.2 fun h => ?_)
          rcases (wordsOk_of h).2 with h | h
          · exact hr h
          · rw [hs] at h; cases h
        have hiw := HIW.out _ ((Fr.refl _ _).drew)
        clear hs HIW
        gi_wp2_with (first | (refine ⟨trivial, ?_⟩; gi_at_call 76; refine (callsIn_wide.2 (hiw _ (by decide))).mono ?_; rintro e w3 ⟨st, rfl, hF3⟩; have HF3 : Hid (Fr [] W w3) := ((Fr.refl _ _).drew).trans hF3; have hres3 := cell_of_heap (o := 0) (HL.out.go HF3.out).res rfl; have hfz3 : w3.frozen? ⟨w.heap.size + 1, 0, none⟩ = false := frozen_of_heap (HL.out.go HF3.out).res; clear hF3))
        refine ⟨by simp, .inl ⟨_, _, rfl, run_takeDeferred (HD2.out _ _ HF3.out), ?_⟩⟩
        have hL2 := (((HL.out.go HF3.out).set (.iface 144 (.agg #[.string st, .int .i64 1]))).put (.deferred none) hD' (HD2.out _ _ HF3.out) rfl)
        have hc := cell_of_heap (o := 0) hL2.res rfl
        refine ⟨.iface 144 (.agg #[.string st, .int .i64 1]), ?_, .inr ⟨hwk.out, st, rfl, hL2.fr⟩⟩
        simp [results, Tryz.results62, go_sem, hc]
    · have hwk : Hid (wordsOk os root = true) := wordsOk_mk HALL.out (.inr hs)
      clear hs HIW
      gi_wp2
      refine ⟨by simp, .inl ⟨_, _, rfl, run_takeDeferred (HD2.out W _ (Fr.refl _ _)), ?_⟩⟩
      have hL2 := (((HL.out.set .nilIface).go ((Fr.refl _ _).drew)).put (.deferred none) hD' (HD2.out W _ (Fr.refl _ _)) rfl)
      have hc := cell_of_heap (o := 0) hL2.res rfl
      refine ⟨.nilIface, ?_, .inl ⟨hwk.out, rfl, hL2.fr⟩⟩
      simp [results, Tryz.results62, go_sem, hc]
  case stop =>
    rintro D pre W hD hpre ⟨st, hL, hno⟩ hK
    have HL := Lib.hid hL
    gi_wp2
    refine ⟨by simp, .inl ⟨_, _, rfl, run_takeDeferred hK, ?_⟩⟩
    have hL2 := HL.out.put (.deferred none) (Nat.le_trans hF0.size hD) hK rfl
    have hc := cell_of_heap (o := 0) hL2.res rfl
    refine ⟨.iface 144 (.agg #[.string st, .int .i64 1]), ?_, .inr ⟨hno, st, rfl, hL2.fr⟩⟩
    simp [results, Tryz.results62, go_sem, hc]
end Go.Proofs.YtofhgfgipdokbaaGreatDoor
namespace Go.Proofs.YtofhgfgipdokbaaGreatDoor
open Go.RowKit

open Classical in
/-- the memory behind a Load -/
noncomputable def memLoad (lim : Int) (os0 : List Ob) (r0 h0 : Int) (os : List Ob) (root n : Int) : Mem := if loadE lim os root n = 0 then absMem lim os root n else absMem lim os0 r0 h0
theorem memLoad_ok {lim : Int} {os0 : List Ob} {r0 h0 : Int} {os : List Ob} {root n : Int} (h : loadE lim os root n = 0) : memLoad lim os0 r0 h0 os root n = absMem lim os root n := by unfold memLoad; rw [if_pos h]
theorem memLoad_no {lim : Int} {os0 : List Ob} {r0 h0 : Int} {os : List Ob} {root n : Int} (h : loadE lim os root n ≠ 0) : memLoad lim os0 r0 h0 os root n = absMem lim os0 r0 h0 := by unfold memLoad; rw [if_neg h]
/-- a list that can be handed to Load -/
structure Handed (w : World) (ao : Option Addr) (its : List It) : Prop where
  row : RowAt w ao (flat3 its)
  each : ∀ o ∈ its, ItIn w o
  len : its.length ≤ 2932031007402
  sizes : ∀ o ∈ its, o.fs.length ≤ 17592186044416
  hash : ∀ o ∈ its, -9223372036854775808 ≤ o.hash ∧ o.hash ≤ 9223372036854775807
  words : ∀ o ∈ its, ObB o.key
theorem ItIn.fr {w w' : World} {o : It} (h : ItIn w o) (hF : Fr [] w w') : ItIn w' o := by
  rcases h with ⟨fb, fo, fc, h1, h2, h3⟩ | h
  · exact .inl ⟨fb, fo, fc, h1, Nat.lt_of_lt_of_le h2 hF.size, h3.fr hF (by simp)⟩
  · exact .inr h
theorem Handed.fr {w w' : World} {ao : Option Addr} {its : List It} (h : Handed w ao its) (hF : Fr [] w w') : Handed w' ao its :=
  ⟨h.row.fr hF (fun _ _ => by simp), fun o ho => (h.each o ho).fr hF, h.len, h.sizes, h.hash, h.words⟩
theorem Still.turns {w w' : World} {e : Ending} {v : Value} {mb : Nat} {m : Mem} {wv sv : Value} (hM : MemAt w mb m wv sv) (h : Still v w e w') : Turns v mb m (foot mb wv sv) w e w' :=
  ⟨h.1, wv, sv, hM.fr0 h.2, h.2.weak, fun _ hk => .inl hk⟩
theorem load_turns {w : World} {hb mb : Nat} {lim r0 h0 : Int} {os0 : List Ob} {wv sv : Value} (hH : HeapAt w hb mb (absMem lim os0 r0 h0) wv sv) (hg : Glob w) (l1 : 64 ≤ lim) (l2 : lim ≤ 65536) {ao : Option Addr} {cap : Nat} (its : List It) (hI : Handed w ao its) (root n : Int) (hr : WB root) (n1 : -9223372036854775808 ≤ n) (n2 : n ≤ 9223372036854775807) :
    Calls Tryz.prog 26 #[.pointer (some ⟨hb, 0, none⟩), .slice ao its.length cap, .int .u64 root, .int .i64 n] w (Turns (.int .i64 (loadE lim (obsOf its) root n)) mb (memLoad lim os0 r0 h0 (obsOf its) root n) (foot mb wv sv) w) := by
  have hsz : (∃ o ∈ its, 512 < o.fs.length) → ∃ o ∈ obsOf its, 512 < o.2.2.length := fun ⟨o, ho, hl⟩ => ⟨o.key, List.mem_map_of_mem ho, hl⟩
  by_cases c1 : ∃ o ∈ its, 512 < o.fs.length
  · have e := loadE_size (lim := lim) (root := root) (n := n) (hsz c1)
    rw [memLoad_no (by rw [e]; decide), e]
    exact (load_fail (memory_at hH) hg _ root n 1 (fun w' hM hF hG => loaded_size hM hG (by show 1 ≤ lim; omega) its (hI.fr hF).row (hI.fr hF).each hI.sizes c1 hI.len root n)).mono fun _ _ h => h.turns hH.mem
  · have s512 : ∀ o ∈ its, o.fs.length ≤ 512 := fun o ho => by
      by_cases hl : o.fs.length ≤ 512
      · exact hl
      · exact absurd ⟨o, ho, by omega⟩ c1
    have s512' : ∀ o ∈ obsOf its, o.2.2.length ≤ 512 := fun o ho => by obtain ⟨a, ha, rfl⟩ := List.mem_map.1 ho; exact s512 a ha
    have he := endOf_obs its
    by_cases c2 : lim < (endOf (obsOf its) : Int)
    · have e := loadE_full (root := root) (n := n) s512' c2
      rw [memLoad_no (by rw [e]; decide), e]
      exact (load_fail (memory_at hH) hg _ root n 2 (fun w' hM hF hG => loaded_full hM hG (by show 1 ≤ lim; omega) l2 its (hI.fr hF).row (hI.fr hF).each s512 hI.len (by show lim < _; rw [he] at c2; exact c2) root n)).mono fun _ _ h => h.turns hH.mem
    · have hfit : ((1 + wordsOf its : Nat) : Int) ≤ lim := by rw [he] at c2; omega
      have hh := hashes_obs its
      by_cases c3 : HashOk (its.map fun o => o.hash) n
      · have key : ∀ b, wordsOk (obsOf its) root = b → ∀ w', MemAt w' mb (absMem lim os0 r0 h0) wv sv → Fr [] w w' → Calls Tryz.prog 41 #[.pointer (some ⟨mb, 0, none⟩), .slice ao its.length cap, .int .u64 root, .int .i64 n] w' (fun e w'' => (b = true ∧ Builds (absMem lim (obsOf its) root n) w' e w'') ∨ (b = false ∧ Refuses 1 w' e w'')) := by
          intro b hb w' hM hF
          have := loaded_build (m := absMem lim os0 r0 h0) (cap := cap) hM (hg.fr hF) (by show 1 ≤ lim; omega) l2 its (hI.fr hF).row (hI.fr hF).each s512 hI.len hfit root n n1 n2 c3 b (fun W nb wv' sv' hN hFW => by
            rw [show (absMem lim os0 r0 h0).lim = lim from rfl, memOf_with] at hN
            refine (checkLoaded_checks hN (hg.fr (hF.trans hFW)) (fun o ho => by obtain ⟨a, ha, rfl⟩ := List.mem_map.1 ho; exact hI.words a ha) hr).mono fun e w'' h => ?_
            rw [hb] at h
            exact h)
          rw [show (absMem lim os0 r0 h0).lim = lim from rfl, memOf_with] at this
          exact this
        cases c4 : wordsOk (obsOf its) root
        · have e := loadE_bad (lim := lim) (n := n) s512' (by omega) c4
          rw [memLoad_no (by rw [e]; decide), e]
          exact (load_fail (memory_at hH) hg _ root n 1 (fun w' hM hF hG => (key false c4 w' hM hF).mono fun _ _ h => h.elim (fun h => absurd h.1 (by decide)) (fun h => h.2))).mono fun _ _ h => h.turns hH.mem
        · have e := loadE_ok (lim := lim) (n := n) s512' (by omega) (by rw [hh]; exact c3) c4
          rw [memLoad_ok e, e]
          exact load_ok (memory_at hH) _ root n _ (fun w' hM hF => (key true c4 w' hM hF).mono fun _ _ h => h.elim (fun h => h.2) (fun h => absurd h.1 (by decide)))
      · have e := loadE_hash (lim := lim) (root := root) s512' (by omega) (by rw [hh]; exact c3)
        rw [memLoad_no (by rw [e]; decide), e]
        exact (load_fail (memory_at hH) hg _ root n 1 (fun w' hM hF hG => loaded_hash hM hG (by show 1 ≤ lim; omega) l2 its (hI.fr hF).row (hI.fr hF).each s512 hI.len hfit root n n1 n2 hI.hash c3)).mono fun _ _ h => h.turns hH.mem
end Go.Proofs.YtofhgfgipdokbaaGreatDoor
