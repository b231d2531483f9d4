/- What a cache's noteDrop, Drop and Drops do. -/
import Derived.Test.YtpapjoonnmnnaaaCacNew
import Derived.Test.YtpapjoonnmnnaaaAppend
import Derived.Deep.RegionLaw
namespace Go.Proofs.Ytpapjoonnmnnaaa
open Go.RowKit Go.Lib

theorem infoW : (Try.prog.info? 23).map (fun i => (i.zero, i.size, i.bytes)) = some (some (.int .u64 0), 1, 8) := by kernel_rfl
/-- cells that are written one behind the other -/
def setA (c : Array Value) : Nat → List Value → Array Value
  | _, [] => c
  | o, v :: r => setA (c.setIfInBounds o v) (o + 1) r
theorem setA_size : ∀ (vs : List Value) (c : Array Value) (o : Nat), (setA c o vs).size = c.size
  | [], _, _ => rfl
  | v :: r, c, o => by rw [setA, setA_size r]; simp
theorem setA_get : ∀ (vs : List Value) (c : Array Value) (o t : Nat), o + vs.length ≤ c.size → (setA c o vs)[t]? = if o ≤ t ∧ t < o + vs.length then vs[t - o]? else c[t]?
  | [], c, o, t, _ => by
    rw [if_neg (fun h => by simp at h; omega)]
    rfl
  | v :: r, c, o, t, h => by
    simp only [List.length_cons] at h
    rw [setA, setA_get r _ _ _ (by simp; omega)]
    by_cases h1 : o + 1 ≤ t ∧ t < o + 1 + r.length
    · rw [if_pos h1, if_pos (by simp; omega)]
      obtain ⟨k, hk⟩ : ∃ k, t - o = k + 1 := ⟨t - o - 1, by omega⟩
      rw [hk, List.getElem?_cons_succ]
      congr 1; omega
    · rw [if_neg h1, Array.getElem?_setIfInBounds]
      by_cases h2 : t = o
      · subst h2
        rw [if_pos rfl, if_pos (by omega), if_pos (by simp)]
        simp
      · rw [if_neg (fun e => h2 e.symm), if_neg (by simp; omega)]
theorem heap_setCells : ∀ (vs : List Value) {w : World} {b : Nat} {c : Array Value} {t : TypeId} {f : Nat × Nat} (o : Nat), w.heap[b]? = some (.cells c t f) → (w.setCells b o vs).heap[b]? = some (.cells (setA c o vs) t f)
  | [], _, _, _, _, _, _, h => h
  | v :: r, _, _, _, _, _, o, h => by rw [World.setCells, setA]; exact heap_setCells r (o + 1) (heap_setCell_same h v)
theorem Fr.setCells : ∀ (vs : List Value) {S : List Nat} {a w : World} (_ : Fr S a w) (b o : Nat) (_ : b ∈ S), Fr S a (w.setCells b o vs)
  | [], _, _, _, h, _, _, _ => h
  | v :: r, _, _, _, h, b, o, hb => by rw [World.setCells]; exact Fr.setCells r (h.setCell (fun _ => hb) v) b (o + 1) hb
theorem zeroW8 (w : World) : (zeroValue 23).run Try.prog w = .ok (.int .u64 0) w := by kernel_rfl
/-- Returned a row that lies in the same block. -/
def Cut1 (g : Nat) (xs : List Value) (w : World) (e : Ending) (w' : World) : Prop := ∃ cap, e = .returned (.slice (some ⟨g, 0, none⟩) 63 cap) ∧ w'.ownsRow 0 23 1 (.slice (some ⟨g, 0, none⟩) 63 cap) 63 xs ∧ Fr [g] w w'
set_option maxRecDepth 100000 in
set_option maxHeartbeats 1000000 in
theorem delete_at {w : World} {g cap : Nat} (xs : List Int) (hr : w.ownsRow 0 23 1 (.slice (some ⟨g, 0, none⟩) 64 cap) 64 (xs.map (Value.int .u64))) :
    Calls Try.prog 19 #[.slice (some ⟨g, 0, none⟩) 64 cap, .int .i64 0, .int .i64 1] w (Cut1 g ((xs.drop 1).map (Value.int .u64)) w) := by
  obtain ⟨i0, hi0, hz0, hz1, hz2⟩ := info_parts infoW
  have hlen : xs.length = 64 := by simpa using hr.1
  obtain ⟨cur, hg, hcap, hcm, hcs, ht⟩ : ∃ cur, w.heap[g]? = some (.cells cur 23 (0, 0)) ∧ 64 ≤ cap ∧ cap ≤ maxLen ∧ cur.size = cap * 1 ∧ cur.toList.take (64 * 1) = xs.map (Value.int .u64) := by
    rcases hr.2 with ⟨h, -⟩ | ⟨g', cap', cur, h, -, h1, h2, h3, h4, h5⟩
    · cases h
    · cases h; exact ⟨cur, h1, h2, h3, h4, h5⟩
  unfold maxLen at hcm
  obtain ⟨news, hnews⟩ : ∃ news, news = (xs.drop 1).map (Value.int .u64) := ⟨_, rfl⟩
  have hnl : news.length = 63 := by rw [hnews]; simp [hlen]
  have hcur : ∀ t, t < 64 → ∃ x, cur[t]? = some (.int .u64 x) ∧ xs[t]? = some x := by
    intro t h
    have h1 : (cur.toList.take (64 * 1))[t]? = (xs.map (Value.int .u64))[t]? := by rw [ht]
    rw [List.getElem?_take, if_pos (by omega), List.getElem?_map, Array.getElem?_toList] at h1
    have h2 : xs[t]? = some xs[t] := List.getElem?_eq_getElem (by omega)
    rw [h2] at h1
    exact ⟨_, h1, h2⟩
  have hcell : ∀ t, t < 64 → (w.cell? ⟨g, t, none⟩).isSome = true := by
    intro t h
    obtain ⟨x, hx, -⟩ := hcur t h
    rw [cell_of_heap hg hx]; rfl
  have hfz : ∀ o, w.frozen? ⟨g, o, none⟩ = false := fun o => frozen_of_heap hg
  have hsrc : Hid (∀ t u, news[t]? = some u → w.drew.cell? ((⟨g, 1, none⟩ : Addr).add t) = some u) := by
    intro t u hu
    have hlt : t < 63 := by rw [← hnl]; exact (List.getElem?_eq_some_iff.1 hu).1
    obtain ⟨x, hx, hx2⟩ := hcur (1 + t) (by omega)
    rw [Addr.add_lit]
    show w.cell? ⟨g, 1 + t, none⟩ = some u
    rw [cell_of_heap hg hx]
    rw [hnews, List.getElem?_map, List.getElem?_drop, hx2] at hu
    exact hu
  have s1 : Hid (news.length = 63 * 1) := hnl
  have s2 : Hid (∀ u ∈ news, u.oneCell' = true) := by
    intro u hu
    rw [hnews] at hu
    obtain ⟨x, _, rfl⟩ := List.mem_map.1 hu
    rfl
  have s3 : Hid (∀ t, t < news.length → (w.drew.cell? ⟨g, 0 + 0 * 1 + t, none⟩).isSome = true ∧ w.drew.frozen? ⟨g, 0 + 0 * 1 + t, none⟩ = false) := by
    intro t ht'
    rw [hnl] at ht'
    rw [show 0 + 0 * 1 + t = t by omega]
    exact ⟨hcell t (by omega), hfz t⟩
  obtain ⟨W1, hW1⟩ : ∃ W1, W1 = w.drew.setCells g (0 + 0 * 1) news := ⟨_, rfl⟩
  have hg1 : W1.heap[g]? = some (.cells (setA cur 0 news) 23 (0, 0)) := by rw [hW1]; exact heap_setCells news 0 hg
  have hcl : ∀ ty, (Builtin.clear_ #[34] ty #[.slice (some ⟨g, 63, none⟩) 1 (cap - 63)]).run Try.prog W1 = .ok (.tuple #[]) (W1.setCells g 63 (List.replicate 1 (.int .u64 0))) :=
    fun ty => Lib.run_clear_slice W1 _ _ ty _ Try.underlying34 zeroW8 rfl rfl g 63 1 _ (by omega)
      (fun t h => by
        obtain ⟨x, hx, -⟩ := hcur 63 (by omega)
        have h0 : t = 0 := by omega
        subst h0
        have hA : (setA cur 0 news)[63]? = some (.int .u64 x) := by rw [setA_get _ _ _ _ (by rw [hnl]; omega), if_neg (by rw [hnl]; omega)]; exact hx
        rw [cell_of_heap hg1 hA]; rfl)
      (fun t h => frozen_of_heap hg1)
  have HEND : Hid ((W1.setCells g 63 (List.replicate 1 (.int .u64 0))).ownsRow 0 23 1 (.slice (some ⟨g, 0, none⟩) 63 cap) 63 news ∧ Fr [g] w (W1.setCells g 63 (List.replicate 1 (.int .u64 0)))) := by
    have hg2 := heap_setCells (List.replicate 1 (.int .u64 0)) 63 hg1
    refine ⟨⟨by rw [hnl], .inr ⟨g, cap, _, rfl, Nat.zero_le _, hg2, by omega, by unfold maxLen; omega, by rw [setA_size, setA_size]; exact hcs, ?_⟩⟩, ?_⟩
    · apply List.ext_getElem?
      intro t
      rw [List.getElem?_take]
      by_cases h : t < 63
      · rw [if_pos (by omega), Array.getElem?_toList, setA_get _ _ _ _ (by rw [setA_size]; simp; omega), if_neg (by simp; omega), setA_get _ _ _ _ (by rw [hnl]; omega), if_pos (by rw [hnl]; omega)]
        rfl
      · rw [if_neg (by omega), List.getElem?_eq_none (by rw [hnl]; omega)]
    · rw [hW1]
      exact Fr.setCells _ (Fr.setCells _ (Fr.refl _ _).drew g _ (by simp)) g _ (by simp)
  have hW : Hid (W1 = w.drew.setCells g (0 + 0 * 1) news) := hW1
  have HN := Lib.hid hnews
  have hc1 : ¬ cap = 1 := by omega
  have hc2 : ¬ cap = 63 := by omega
  clear hr hlen hg hcm hcs ht hcur hcell hfz hW1 hg1 hnl hnews
  go_enter Try.func19, Try.ntmps19
  go_wp2_with fail
  go_region_law (refine step_append_room rfl (.tmp 22) (.tmp 25) 34 rfl 23 i0 1 Try.underlying34 hi0 hz1 g 0 0 cap (by simp [Act.eval, Act.put]) ⟨g, 1, none⟩ 63 (cap - 1) news (by simp [Act.eval, Act.put, hc1]) s1.out hsrc.out s2.out (by omega) s3.out ?_; rw [← hW.out])
  go_wp2
  go_ret
  exact ⟨cap, rfl, by rw [← HN.out]; exact HEND.out.1, HEND.out.2⟩
/-- the drops' row is another one now -/
theorem TabAt.setDrops {w w' : World} {tb lb : Nat} {T : Tab} {dv v : Value} {D' : List Int} {S : List Nat} (h : TabAt w tb lb T dv) (hF : Fr S w w') (hS : ∀ k ∈ S, k = tb ∨ dv.ownBlock = some k) (hh : w'.heap[tb]? = some (.cells #[.slice (some ⟨lb, 0, none⟩) T.L.length T.L.length, v, .int .i64 T.r, .int .i64 T.k] 41 (0, 0))) (hr : w'.ownsRow 0 23 1 v D'.length (D'.map (Value.int .u64))) (hd : D'.length ≤ 64) : TabAt w' tb lb { T with D := D' } v := by
  refine ⟨hh, hF.heap (fun hm => ?_) h.lines, hr, h.n1, h.n2, hd⟩
  rcases hS lb hm with e | e
  · exact h.tl e.symm
  · exact h.dl e
theorem row_shp {w : World} {b : Nat} {e : TypeId} {v : Value} {n : Nat} {xs : List Value} (h : w.ownsRow b e 1 v n xs) : ∃ ao cap, v = .slice ao n cap := by
  rcases h.2 with ⟨rfl, rfl⟩ | ⟨g, cap, cur, rfl, _⟩
  · exact ⟨_, _, rfl⟩
  · exact ⟨_, _, rfl⟩
theorem one_cell8 (w : World) (v : Value) (t : TypeId) : ∀ j u, [v][j]? = some u → (w.alloc (.cells #[v] t)).cell? ((⟨w.heap.size, 0, none⟩ : Addr).add j) = some u := by
  intro j u hu
  cases j with
  | zero =>
    simp at hu
    subst hu
    exact cell_of_heap (heap_new w _) rfl
  | succ j => simp at hu
theorem one_cell8' (w : World) (W : World) (v : Value) (t : TypeId) (h : W.heap.size = w.heap.size := by simp) : ∀ j u, [v][j]? = some u → (W.alloc (.cells #[v] t)).cell? ((⟨w.heap.size, 0, none⟩ : Addr).add j) = some u := by
  rw [← h]; exact one_cell8 W v t
/-- what stays of a cache when its row of drops grows -/
theorem note_kept {w : World} {cb tb lb : Nat} {T : Tab} {dv : Value} (h : CacAt w cb tb lb T dv) (x : Int) (v5 : Value) (w5 : World) (hg : (w.alloc (.cells #[.int .u64 x] 23)).grownBy w5 dv.ownBlock) (hf : v5.ownBlock = dv.ownBlock ∨ v5.ownBlock = some (w.alloc (.cells #[.int .u64 x] 23)).heap.size) :
    w5.cell? ⟨tb, 1, none⟩ = some dv ∧ w5.frozen? ⟨tb, 1, none⟩ = false ∧ ∀ D', D'.length ≤ 64 → w5.ownsRow 0 23 1 v5 D'.length (D'.map (Value.int .u64)) → ∃ dv', CacAt (w5.setCell ⟨tb, 1, none⟩ v5) cb tb lb { T with D := D' } dv' ∧ Fr (tfoot tb lb dv) w (w5.setCell ⟨tb, 1, none⟩ v5) ∧ ∀ k, dv'.ownBlock = some k → k ∈ tfoot tb lb dv ∨ w.heap.size ≤ k := by
  have hF : Fr dv.ownBlock.toList w w5 := ((Fr.refl _ _).alloc _).grown hg (fun k hk _ => own_mem.2 hk)
  have htb : tb ∉ dv.ownBlock.toList := fun e => h.tab.dt (own_mem.1 e)
  have hh := hF.heap htb h.tab.tab
  refine ⟨cell_of_heap (o := 1) hh rfl, frozen_of_heap hh, fun D' hd hr => ⟨v5, ?_, ?_, fun k hk => ?_⟩⟩
  · have hF2 : Fr (tb :: dv.ownBlock.toList) w (w5.setCell ⟨tb, 1, none⟩ v5) := (hF.mono (fun j _ hj => by simp [hj])).setCell (fun _ => by simp) _
    have hcb : cb ∉ tb :: dv.ownBlock.toList := by
      intro e
      rcases List.mem_cons.1 e with e | e
      · exact h.ct e
      · obtain ⟨cur, hc⟩ := own_heap h.tab.drops (own_mem.1 e)
        exact tag_ne' h.box hc (by decide) rfl
    have hrow : (w5.setCell ⟨tb, 1, none⟩ v5).ownsRow 0 23 1 v5 D'.length (D'.map (Value.int .u64)) := by
      have hF3 : Fr [tb] w5 (w5.setCell ⟨tb, 1, none⟩ v5) := (Fr.refl _ _).setCell (fun _ => by simp) _
      refine hF3.row hr (fun k hk => ?_)
      rw [List.mem_singleton]
      rintro rfl
      rcases hf with e | e
      · exact h.tab.dt (e ▸ hk)
      · rw [e] at hk
        cases hk
        have := lt_of_heap h.tab.tab
        simp at this
        omega
    exact ⟨hF2.heap hcb h.box, h.tab.setDrops hF2 (fun k hk => by rcases List.mem_cons.1 hk with e | e; exact .inl e; exact .inr (own_mem.1 e)) (by have := heap_setCell_same hh (o := 1) v5; simpa using this) hrow hd⟩
  · exact (hF.mono (fun j _ hj => by simp [tfoot, own_mem.1 hj])).setCell (fun _ => by simp [tfoot]) _
  · rcases hf with e | e
    · left; rw [e] at hk; simp [tfoot, hk]
    · right; rw [e] at hk; cases hk; simp
set_option maxRecDepth 100000 in
set_option maxHeartbeats 1000000 in
theorem note_at {w : World} {cb tb lb : Nat} {T : Tab} {dv : Value} (h : CacAt w cb tb lb T dv) (x : Int) : Calls Try.prog 17 #[.pointer (some ⟨tb, 0, none⟩), .int .u64 x] w (CTurns cb tb lb { T with D := noteL T.D x } (tfoot tb lb dv) w) := by
  obtain ⟨i0, hi0, hz0, hz1, hz2⟩ := info_parts infoW
  have d64 := h.tab.d64
  by_cases hl : T.D.length = 64
  · have hc1 := h.tab.cell1
    have htl := lt_of_heap h.tab.tab
    obtain ⟨g, cap, rfl⟩ : ∃ g cap, dv = .slice (some ⟨g, 0, none⟩) 64 cap := by
      rcases h.tab.drops.2 with ⟨h1, h2⟩ | ⟨g, cap, cur, h1, -⟩
      · rw [h2] at hl; cases hl
      · exact ⟨g, cap, by rw [h1, hl]⟩
    have H := Lib.hid h
    have HND : Hid (noteL T.D x = T.D.drop 1 ++ [x]) := by unfold noteL; rw [if_pos hl]; exact rfl
    have hR := h.tab.drops
    rw [hl] at hR
    have hd := delete_at T.D hR
    have hgt : g ≠ tb := fun e => h.tab.dt (by rw [← e]; rfl)
    have HK : Hid (∀ cap2 w1, w1.ownsRow 0 23 1 (.slice (some ⟨g, 0, none⟩) 63 cap2) 63 ((T.D.drop 1).map (Value.int .u64)) → Fr [g] w w1 → w1.cell? ⟨tb, 1, none⟩ = some (.slice (some ⟨g, 0, none⟩) 64 cap) ∧ w1.frozen? ⟨tb, 1, none⟩ = false ∧ tb < w1.heap.size ∧ CacAt (w1.setCell ⟨tb, 1, none⟩ (.slice (some ⟨g, 0, none⟩) 63 cap2)) cb tb lb { T with D := T.D.drop 1 } (.slice (some ⟨g, 0, none⟩) 63 cap2) ∧ Fr (tfoot tb lb (.slice (some ⟨g, 0, none⟩) 64 cap)) w (w1.setCell ⟨tb, 1, none⟩ (.slice (some ⟨g, 0, none⟩) 63 cap2))) := by
      refine Lib.hid fun cap2 w1 hr1 hF1 => ?_
      have htb : tb ∉ [g] := by simpa using fun e => hgt e.symm
      have hh := hF1.heap htb h.tab.tab
      have hcb : cb ∉ [tb, g] := by
        intro e
        rcases List.mem_cons.1 e with e | e
        · exact h.ct e
        · obtain ⟨cur, hc⟩ := own_heap h.tab.drops (b := g) rfl
          rw [List.mem_singleton] at e
          exact tag_ne' h.box hc (by decide) e
      have hF2 : Fr [tb, g] w (w1.setCell ⟨tb, 1, none⟩ (.slice (some ⟨g, 0, none⟩) 63 cap2)) := (hF1.mono (fun j _ hj => by simp at hj; simp [hj])).setCell (fun _ => by simp) _
      have hF3 : Fr [tb] w1 (w1.setCell ⟨tb, 1, none⟩ (.slice (some ⟨g, 0, none⟩) 63 cap2)) := (Fr.refl _ _).setCell (fun _ => by simp) _
      have hl1 : (T.D.drop 1).length = 63 := by simp [hl]
      refine ⟨cell_of_heap (o := 1) hh rfl, frozen_of_heap hh, Nat.lt_of_lt_of_le htl hF1.size, ⟨hF2.heap hcb h.box, h.tab.setDrops hF2 (fun k hk => ?_) ?_ ?_ (by omega)⟩, hF2.mono (fun j _ hj => ?_)⟩
      · rcases List.mem_cons.1 hk with e | e
        · exact .inl e
        · rw [List.mem_singleton] at e; right; rw [e]; rfl
      · have := heap_setCell_same hh (o := 1) (.slice (some ⟨g, 0, none⟩) 63 cap2)
        simpa using this
      · rw [hl1]
        exact hF3.row hr1 (fun k hk => by cases hk; simpa using hgt)
      · rcases List.mem_cons.1 hj with e | e
        · simp [tfoot, e]
        · rw [List.mem_singleton] at e; simp [tfoot, e, Value.ownBlock]
    have HL1 : Hid ((T.D.drop 1).length = 63) := by show _ = _; simp [hl]
    clear h hl hR d64 hgt
    go_enter Try.func17, Try.ntmps17
    go_wp2_with (first
      | (go_at_call 19; refine hd.mono ?_; rintro e w1 ⟨cap2, rfl, hr1, hF1⟩; have hap1 := HK.out cap2 w1 hr1 hF1; have q1 := hap1.1; have q2 := hap1.2.1; have q3 := hap1.2.2.1; have HC2 := Lib.hid hap1.2.2.2.1; have HF2 := Lib.hid hap1.2.2.2.2; have hr2 := ((Fr.refl [] _).alloc (.cells #[.int .u64 x] 23)).row HC2.out.tab.drops (fun _ _ => by simp); rw [HL1.out] at hr2; have HR2 := Lib.hid hr2; clear hr2; have HK2 := Lib.hid (note_kept HC2.out); clear hap1 hr1 hF1)
      | (at_builtin; refine wpList_append_at _ rfl (.tmp 22) (.tmp 24) 34 rfl 23 i0 (.int .u64 0) 1 8 Try.underlying34 hi0 hz0 hz1 hz2 rfl (by decide) (.slice (some ⟨g, 0, none⟩) 63 cap2) 63 _ rfl HR2.out ⟨w1.heap.size, 0, none⟩ 1 1 [.int .u64 x] rfl rfl (one_cell8' w1 _ (.int .u64 x) 23) (by simp [Value.oneCell']) (by unfold maxLen; omega) (by omega) ?_; intro v5 w5 ho5 hg5 hf5; obtain ⟨a5, p5, rfl⟩ := row_shp ho5; have hap := HK2.out x _ w5 hg5 hf5; have hc5 := hap.1; have hz5 := hap.2.1; have HP5 := Lib.hid hap.2.2; have HO5 := Lib.hid ho5; clear hap ho5 hg5 hf5))
    go_end0
    refine ⟨rfl, ?_⟩
    rw [HND.out]
    obtain ⟨dv', e1, e2, e3⟩ := HP5.out (T.D.drop 1 ++ [x]) (by rw [List.length_append, HL1.out]; simp) (by rw [List.length_append, HL1.out, List.map_append]; exact HO5.out)
    refine ⟨dv', e1, HF2.out.trans e2, fun k hk => ?_⟩
    rcases e3 k hk with h | h
    · exact .inl h
    · exact .inr (Nat.le_trans HF2.out.size h)
  · have hc1 := h.tab.cell1
    have htl := lt_of_heap h.tab.tab
    obtain ⟨ao, cap, rfl⟩ : ∃ ao cap, dv = .slice ao T.D.length cap := by
      rcases h.tab.drops.2 with ⟨h1, h2⟩ | ⟨g, cap, cur, h1, -⟩
      · exact ⟨none, 0, by rw [h1, h2]⟩
      · exact ⟨_, cap, h1⟩
    have H := Lib.hid h
    have HND : Hid (noteL T.D x = T.D ++ [x]) := by unfold noteL; rw [if_neg hl]; exact rfl
    have hR := h.tab.drops
    have hz := fun o => frozen_of_heap (o := o) h.tab.tab
    have hzz := hz 1
    have HR := Lib.hid hR
    have hne : ((T.D.length : Int) == 64) = false := by simp; omega
    have hlt : T.D.length < 64 := by omega
    have HR1 := Lib.hid (((Fr.refl [] w).alloc (.cells #[.int .u64 x] 23)).row hR (fun _ _ => by simp))
    have HK := Lib.hid (note_kept h)
    clear h hl hR hz d64
    go_enter Try.func17, Try.ntmps17
    go_wp2_with (first
      | (at_builtin; refine wpList_append_at _ rfl (.tmp 22) (.tmp 24) 34 rfl 23 i0 (.int .u64 0) 1 8 Try.underlying34 hi0 hz0 hz1 hz2 rfl (by decide) (.slice ao T.D.length cap) T.D.length _ rfl HR1.out ⟨w.heap.size, 0, none⟩ 1 1 [.int .u64 x] rfl rfl (one_cell8 w (.int .u64 x) 23) (by simp [Value.oneCell']) (by unfold maxLen; omega) (by omega) ?_; intro v5 w5 ho5 hg5 hf5; obtain ⟨a5, p5, rfl⟩ := row_shp ho5; have hap := HK.out x _ w5 hg5 hf5; have hc5 := hap.1; have hz5 := hap.2.1; have HP5 := Lib.hid hap.2.2; have HO5 := Lib.hid ho5; clear hap ho5 hg5 hf5))
    go_end0
    refine ⟨rfl, ?_⟩
    rw [HND.out]
    exact HP5.out (T.D ++ [x]) (by simp; omega) (by simpa using HO5.out)
end Go.Proofs.Ytpapjoonnmnnaaa
