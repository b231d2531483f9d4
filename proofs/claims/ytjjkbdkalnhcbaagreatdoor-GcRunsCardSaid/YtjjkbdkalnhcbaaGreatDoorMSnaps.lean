/- The heap's Dump: all objects, in order, each with fields of its own, in new memory. Hashes, one behind the other: plain; and the heap's Hash at an object of the list. A heap's objects, dumped and turned into the document's; Alloc, whatever comes of it. -/
import Derived.Test.YtjjkbdkalnhcbaaGreatDoorMLoads
import Derived.Test.YtjjkbdkalnhcbaaGreatDoorMRanges
import Derived.Test.YtjjkbdkalnhcbaaGreatDoorMLists
import Derived.Test.YtjjkbdkalnhcbaaGreatDoorMRLoads
namespace Go.Proofs.YtjjkbdkalnhcbaaGreatDoor
open Go.RowKit Go.Shelf
attribute [local go_sem] Oper.semAt_some

/-- a list of the heap's objects under way -/
structure DumpH (w : World) (bb vb mb : Nat) (m : Mem) (wv sv : Value) (os : List Ob) (k : Nat) (v : Value) (its : List It) (W : World) : Prop where
  box : W.heap[bb]? = some (.cells #[v] 37 (0, 0))
  var : W.heap[vb]? = some (.cells #[.pointer (some ⟨mb, 0, none⟩)] 56 (0, 0))
  row : W.ownsRow 0 80 3 v k (flat3 its)
  mem : MemAt W mb m wv sv
  fr : Fr [] w W
  new : ∀ b, v.ownBlock = some b → w.heap.size ≤ b
  own : ∀ o ∈ its, ItOwn W o
  fresh : ∀ o ∈ its, ∀ b, o.fv.ownBlock = some b → w.heap.size ≤ b
  keys : obsOf its = os.take k
  bbn : w.heap.size ≤ bb
section
variable {w W W' : World} {bb vb mb k : Nat} {m : Mem} {wv sv v : Value} {os : List Ob} {its : List It}
theorem DumpH.go (h : DumpH w bb vb mb m wv sv os k v its W) (hF : Fr [] W W') : DumpH w bb vb mb m wv sv os k v its W' :=
  ⟨hF.heap (by simp) h.box, hF.heap (by simp) h.var, hF.row h.row (fun _ _ => by simp), h.mem.fr0 hF, h.fr.trans hF, h.new, fun o ho => (h.own o ho).fr hF (fun _ _ => by simp), h.fresh, h.keys, h.bbn⟩
theorem DumpH.put (h : DumpH w bb vb mb m wv sv os k v its W) {l : Nat} {o : Obj} (o' : Obj) (hl : w.heap.size ≤ l) (hh : W.heap[l]? = some o) (hc : o.isCells = false) : DumpH w bb vb mb m wv sv os k v its (W.putObj l o') := by
  have hF := putObj_fr W l o'
  refine ⟨hF.heap (by simpa using not_cells h.box hh hc) h.box, hF.heap (by simpa using not_cells h.var hh hc) h.var, hF.row h.row (fun g hg => ?_), h.mem.fr hF (fun g hg => ?_), h.fr.trans' hF (fun _ _ e => by cases e) (fun j hj e => by simp at e; omega), h.new, fun p hp => (h.own p hp).fr hF (fun g hg => ?_), h.fresh, h.keys, h.bbn⟩
  · obtain ⟨c, hcc⟩ := row_cells h.row hg
    simpa using not_cells hcc hh hc
  · obtain ⟨c, t', f, hcc⟩ := foot_cells h.mem hg
    simpa using not_cells hcc hh hc
  · obtain ⟨c, hcc⟩ := row_heap (h.own p hp).1 hg
    simpa using not_cells hcc hh hc
theorem tag_apart {c : Array Value} {t : TypeId} {f : Nat × Nat} {q : Nat} (hb : W.heap[q]? = some (.cells c t f)) (hM : MemAt W mb m wv sv) (h1 : t ≠ 76) (h2 : t ≠ 24) (h3 : t ≠ 4) : q ∉ foot mb wv sv := by
  intro hk
  simp only [foot, List.mem_cons, List.mem_append, Option.mem_toList] at hk
  rcases hk with rfl | hk | hk
  · exact tag_ne hb hM.mem h1 rfl
  · obtain ⟨c, hc⟩ := row_heap hM.words hk; exact tag_ne hb hc h2 rfl
  · obtain ⟨c, hc⟩ := row_heap hM.starts hk; exact tag_ne hb hc h3 rfl
/-- one object more -/
theorem DumpH.push {w1 : World} {v' : Value} {it : It} (h : DumpH w bb vb mb m wv sv os k v its W) (ho : w1.ownsRow 0 80 3 v' (k + 1) (flat3 its ++ [.int .u64 it.cls, .int .i64 it.hash, it.fv])) (hg : W.grownBy w1 v.ownBlock) (hf : v'.ownBlock = v.ownBlock ∨ ∃ q, v'.ownBlock = some q ∧ w.heap.size ≤ q)
    (hi : ItOwn W it) (hn : ∀ b, it.fv.ownBlock = some b → w.heap.size ≤ b) (hk : os.take (k + 1) = os.take k ++ [it.key]) (B : Nat) :
    (∀ (q : Nat) (c : Array Value) (t : TypeId) (f : Nat × Nat), W.heap[q]? = some (.cells c t f) → t ≠ 80 → ∀ j u, W.cell? ⟨q, j, none⟩ = some u → w1.cell? ⟨q, j, none⟩ = some u) ∧ w1.cell? ⟨bb, 0, none⟩ = some v ∧ w1.frozen? ⟨bb, 0, none⟩ = false ∧ DumpH w bb vb mb m wv sv os (k + 1) v' (its ++ [it]) (w1.setCell ⟨bb, 0, none⟩ v') ∧ KeepsFrom B W (w1.setCell ⟨bb, 0, none⟩ v') := by
  have hF1 : Fr v.ownBlock.toList W w1 := (Fr.refl _ _).grown hg (fun g hgv _ => by simp [hgv])
  have hne : ∀ {q : Nat} {c : Array Value} {t : TypeId} {f : Nat × Nat}, W.heap[q]? = some (.cells c t f) → t ≠ 80 → q ∉ v.ownBlock.toList := by
    intro q c t f hq ht hk
    obtain ⟨c', hc'⟩ := row_cells h.row (g := q) (by simpa using hk)
    exact tag_ne hq hc' ht rfl
  have hb1 := hF1.heap (hne h.box (by decide)) h.box
  have hv1 := hF1.heap (hne h.var (by decide)) h.var
  have hm1 : MemAt w1 mb m wv sv := h.mem.fr hF1 (fun g hg hg' => by
    obtain ⟨c', hc'⟩ := row_cells h.row (g := g) (by simpa using hg')
    exact tag_apart hc' h.mem (by decide) (by decide) (by decide) hg)
  have own1 : ∀ o, ItOwn W o → ItOwn w1 o := fun o ho => ho.grown h.row hg (by decide)
  have hF2 : Fr [bb] w1 (w1.setCell ⟨bb, 0, none⟩ v') := (Fr.refl _ _).setCell (fun _ => by simp) _
  have own2 : ∀ o, ItOwn w1 o → ItOwn (w1.setCell ⟨bb, 0, none⟩ v') o := fun o ho => ho.fr hF2 (fun q hq => by obtain ⟨c, hc⟩ := row_heap ho.1 hq; simpa using tag_ne hc hb1 (by decide))
  have hFw : Fr [] w w1 := h.fr.grown hg (fun g hgv hl => by have := h.new g hgv; omega)
  refine ⟨fun q c t f hq ht j u hu => hF1.cell (hne hq ht) hu, cell_of_heap hb1 rfl, frozen_of_heap hb1, ⟨heap_setCell_same hb1 _, hF2.heap (by simpa using tag_ne hv1 hb1 (by decide)) hv1, ?_, hm1.fr hF2 (fun g hg hg' => by simp at hg'; subst hg'; exact box_apart hb1 hm1 (by decide) (by decide) (by decide) hg), hFw.setCell (fun hl => by have := h.bbn; simp only at hl; omega) _, ?_, ?_, ?_, ?_, h.bbn⟩, ?_⟩
  · rw [flat3_snoc]
    exact hF2.row ho (fun q hq => by obtain ⟨c, hc⟩ := row_cells ho hq; simpa using tag_ne hc hb1 (by decide))
  · intro b hb
    rcases hf with hf | ⟨q, hf, hq⟩
    · exact h.new b (hf ▸ hb)
    · rw [hf] at hb; cases hb; exact hq
  · intro o hom
    rcases List.mem_append.1 hom with hom | hom
    · exact own2 o (own1 o (h.own o hom))
    · simp at hom; subst hom; exact own2 _ (own1 _ hi)
  · intro o hom
    rcases List.mem_append.1 hom with hom | hom
    · exact h.fresh o hom
    · simp at hom; subst hom; exact hn
  · rw [hk, ← h.keys]
    simp [obsOf]
  · refine ⟨by have := hg.size; simp [World.setCell] at this ⊢; omega, fun q ob _ hq hoc => ?_⟩
    rw [Below.heap_setCell _ _ _ _ (fun e' => by subst e'; rw [h.box] at hq; cases hq; cases hoc), hg.block q (lt_of_heap hq) (fun e' => by obtain ⟨c, hc⟩ := row_cells h.row e'.symm; rw [hc] at hq; cases hq; cases hoc)]
    exact hq
end
/-- Returned the objects os, in new memory. -/
def DumpsTo (os : List Ob) (w : World) (e : Ending) (w' : World) : Prop := ∃ v its, e = .returned v ∧ w'.ownsRow 0 80 3 v its.length (flat3 its) ∧ obsOf its = os ∧ (∀ o ∈ its, ItOwn w' o) ∧ Fr [] w w' ∧ (∀ b, v.ownBlock = some b → w.heap.size ≤ b) ∧ ∀ o ∈ its, ∀ b, o.fv.ownBlock = some b → w.heap.size ≤ b
set_option maxRecDepth 100000 in
set_option maxHeartbeats 4000000 in
theorem dump_lists {w : World} {hv : Value} {mb : Nat} {lim root hashes : Int} {os : List Ob} {wv sv : Value} (hO : Opens hv mb (absMem lim os root hashes) wv sv w) (hmost : endOf os ≤ 65536) (hhs : ∀ o ∈ os, 0 ≤ o.2.1 ∧ o.2.1 ≤ 1099511627775) :
    Calls Tryz.prog 15 #[hv] w (DumpsTo os w) := by
  unfold Opens at hO
  have hsz : ∀ o ∈ os, o.2.2.length ≤ 65536 := fun o ho => by
    obtain ⟨a, b, rfl⟩ := List.append_of_mem ho
    have : endOf a + 3 + o.2.2.length ≤ endOf (a ++ o :: b) := by unfold endOf; rw [flatW_append, flatW_cons, List.length_append, List.length_append, wordsOb_len]; omega
    omega
  have hC : Chain (absMem lim os root hashes).W 1 (startsOf 1 os) := by have := abs_chain (lim := lim) (root := root) (hashes := hashes) [] os hsz; simpa [endOf, flatW] using this
  obtain ⟨i0, hi, hz0, hz1, hz2⟩ := info_parts infoHO
  have HI := Lib.hid hi
  have HZ0 := Lib.hid hz0
  have HZ1 := Lib.hid hz1
  have HZ2 := Lib.hid hz2
  have HC := Lib.hid hC
  have HSZ := Lib.hid hsz
  have HHS := Lib.hid hhs
  clear hC hsz hhs hi hz0 hz1 hz2
  refine (callsIn_wide (n := 6)).1 ?_
  refine callsIn_of_wp_marks Tryz.func15 rfl trivial ?_ rfl
  simp only [Tryz.ntmps15, List.size_toArray, List.length_cons, List.length_nil, Nat.reduceAdd, Nat.reduceSub, Array.replicate_succ, Array.replicate_zero, List.push_toArray, List.append_toArray, List.nil_append, List.cons_append]
  gi_wp2_with (refine ⟨trivial, ?_⟩; gi_at_call 33; refine (callsIn_wide.2 hO).mono ?_; rintro e w1 ⟨rfl, hM, hF⟩; have HM := Lib.hid hM; have HF := Lib.hid hF; clear hM hF)
  have hF0 : Fr [] w ((w1.alloc (.cells #[.pointer (some ⟨mb, 0, none⟩)] 56)).alloc (.cells #[.slice none 0 0] 37)) := (HF.out.alloc _).alloc _
  have hb0 : ((w1.alloc (.cells #[.pointer (some ⟨mb, 0, none⟩)] 56)).alloc (.cells #[.slice none 0 0] 37)).heap[w1.heap.size]? = some (.cells #[.pointer (some ⟨mb, 0, none⟩)] 56 (0, 0)) := ((Fr.refl [] _).alloc _).heap (by simp) (heap_new w1 _)
  have hr0 : ((w1.alloc (.cells #[.pointer (some ⟨mb, 0, none⟩)] 56)).alloc (.cells #[.slice none 0 0] 37)).heap[w1.heap.size + 1]? = some (.cells #[.slice none 0 0] 37 (0, 0)) := by
    have := heap_new (w1.alloc (.cells #[.pointer (some ⟨mb, 0, none⟩)] 56)) (.cells #[.slice none 0 0] 37)
    simpa using this
  refine wpIn_range_bound (xs := startsOf 1 os) rfl (by omega) (gf := 42) (rv := .pointer (some ⟨mb, 0, none⟩)) rfl trivial (enters_of Tryz.func42 (by kernel_rfl) rfl) (objects_yields 5 (by omega) (wv := wv) (sv := sv) _ HC.out) (fun _ => rfl)
    (fun pre W => ∃ v its, DumpH w (w1.heap.size + 1) w1.heap.size mb (absMem lim os root hashes) wv sv os pre.length v its W) (fun _ _ => False) (fun pre W ⟨_, _, h⟩ => h.mem) ?_ ?_ ?_ ?_
    (fun x => { tmps := #[hv, undef, .slice none 0 0, .pointer (some ⟨w1.heap.size, 0, none⟩), .pointer (some ⟨w1.heap.size + 1, 0, none⟩), .int .i64 x, hv, .pointer (some ⟨mb, 0, none⟩), .pointer (some ⟨mb, 0, none⟩), .func (.func 42) #[.pointer (some ⟨mb, 0, none⟩)] #[], .int .i64 x, undef, undef, undef, undef, undef, undef, undef, undef, undef, undef, undef, undef, undef, undef, undef, undef, undef, undef, undef, undef], defers := [] }) ?assign ?body ?done ?stop
  · exact fun pre W l o o' hl hh hc ⟨v, its, h⟩ => ⟨v, its, h.put o' (Nat.le_trans hF0.size hl) hh hc⟩
  · exact fun _ _ _ _ _ _ _ _ h => h
  · exact fun W o ⟨v, its, h⟩ => ⟨v, its, h.go ((Fr.refl _ _).alloc _)⟩
  · exact ⟨_, [], hr0, hb0, World.ownsRow_nil _ _ _ _, HM.out.fr0 (((Fr.refl _ _).alloc _).alloc _), hF0, (fun _ h => by cases h), (fun _ h => by cases h), (fun _ h => by cases h), rfl, Nat.le_trans HF.out.size (Nat.le_succ _)⟩
  case assign =>
    intro l x W K hK
    gi_wp2
    exact hK
  case body =>
    rintro l pre x W ⟨v, its, hD⟩ hpre -
    obtain ⟨a, o, b, hos, hal, hx⟩ := starts_at (q := []) (os := os) (pre := pre) (x := x) (by simpa [endOf, flatW] using hpre)
    simp only [List.nil_append] at hx
    have hom : o ∈ os := by rw [hos]; simp
    have hpos : endOf a + 3 + o.2.2.length ≤ endOf os := by rw [hos]; unfold endOf; rw [flatW_append, flatW_cons, List.length_append, List.length_append, wordsOb_len]; omega
    have q1 : (absMem lim os root hashes).W[x]? = some o.1 := by rw [hx, hos]; exact abs_cls
    have q2 : (absMem lim os root hashes).W[x + 1]? = some o.2.1 := by rw [hx, hos]; exact abs_hash
    have q3 : (absMem lim os root hashes).W[x + 2]? = some (o.2.2.length : Int) := by rw [hx, hos]; exact abs_size
    have qf : ∀ j, j < o.2.2.length → (absMem lim os root hashes).W[x + 3 + j]? = o.2.2[j]? := fun j hj => by rw [hx, hos]; exact abs_field j hj
    obtain ⟨g, cap, hwv, hcm, hcg, -, hcap, hlt⟩ := words_at hD.mem q1
    rw [(absMem_len _ _ _ _).1] at hcm hcap hlt
    have hhs := HHS.out o hom
    have hbox := cell_of_heap (o := 0) hD.box rfl
    have hvar := cell_of_heap (o := 0) hD.var rfl
    have hmx : Tryz.prog.follows .mixedOrders = true := by kernel_rfl
    have hT : Hid (os.take (pre.length + 1) = os.take pre.length ++ [o]) := by
      have hi0 : os[pre.length]? = some o := by rw [hos, ← hal]; simp
      rw [List.take_add_one, hi0]
      exact rfl
    have hfw : Hid (∀ W', Fr [] W W' → ∀ oo, (o.2.2.length ≠ 0 → oo = x + 3) → WordsAt W' (some ⟨g, oo, none⟩) o.2.2) := by
      refine Lib.hid fun W' hF oo hoo j y hy => ?_
      have hj : j < o.2.2.length := (List.getElem?_eq_some_iff.1 hy).1
      obtain ⟨g', cap', hwv', -, hc', -⟩ := words_at (hD.mem.fr0 hF) ((qf j hj).trans hy)
      rw [hwv] at hwv'
      cases hwv'
      exact ⟨g, oo, rfl, by rw [hoo (by omega)]; exact hc'⟩
    have hfld : Hid (∀ W', Fr [] W W' → Calls Tryz.prog 45 #[.pointer (some ⟨mb, 0, none⟩), .int .i64 x] W' (Cuts g (x + 3) o.2.2.length W')) := by
      refine Lib.hid fun W' hF => ?_
      have hM' := hD.mem.fr0 hF
      rw [hwv] at hM'
      have hm : cap ≤ 9223372036854775807 := by
        have := hD.mem.words
        rw [hwv] at this
        rcases this.2 with ⟨h0, -⟩ | ⟨g2, cap2, cur, e, -, -, -, hmax, -⟩
        · cases h0
        · cases e; unfold maxLen at hmax; omega
      rw [← (absMem_len lim os root hashes).1] at hcap
      exact fields_draws hM' hcap hm x o.2.2.length q3 (by rw [(absMem_len _ _ _ _).1]; omega)
    have hhash : Hid (∀ W', Fr [] W W' → Calls Tryz.prog 43 #[.pointer (some ⟨mb, 0, none⟩), .int .i64 x] W' (Gives (.int .i64 o.2.1) W')) := Lib.hid fun W' hF => hash_gives (hD.mem.fr0 hF) x o.2.1 q2 hhs.1 hhs.2
    have hz5 : o.2.2.length ≤ 65536 := HSZ.out o hom
    have hpl : pre.length ≤ 65536 := by
      have h1 := hpre.length_le
      have h2 := chain_len HC.out
      rw [(absMem_len _ _ _ _).1] at h2
      simp at h1
      omega
    obtain ⟨gc, hgt⟩ := row_heap hD.mem.words (g := g) (by rw [hwv]; rfl)
    have HGT := Lib.hid hgt
    have HMT := Lib.hid hD.mem.mem
    have HVT := Lib.hid hD.var
    obtain ⟨vo, vc, rfl⟩ := row_shape' hD.row
    have HD := Lib.hid hD
    clear hhs hom qf q1 q2 q3 hpre hos hx hD HM hwv hal hpos hgt
    generalize endOf os = n at *
    have x0 : (0 : Int) ≤ (x : Int) := by omega
    have x1 : (x : Int) < (n : Int) := by omega
    have x2 : IntKind.i64.wrap ((x : Int) + 0) = (x : Int) := by rw [IntKind.wrap_i64]; omega
    have x3 : IntKind.i64.wrap (x : Int) = (x : Int) := by rw [IntKind.wrap_i64]; omega
    have HPL : Hid ((pre ++ [x]).length = pre.length + 1) := Lib.hid (by simp)
    generalize pre.length = k at *
    gi_wp2
    refine walk_round (fun w' => w'.cell? ⟨w1.heap.size + 1, 0, none⟩ = some (.slice vo k vc) ∧ w'.cell? ⟨w1.heap.size, 0, none⟩ = some (.pointer (some ⟨mb, 0, none⟩)) ∧ w'.cell? ⟨mb, 1, none⟩ = some (.slice (some ⟨g, 0, none⟩) n cap) ∧ w'.cell? ⟨g, x, none⟩ = some (.int .u64 o.1)) 19 hmx (by kernel_rfl) ⟨hbox, hvar, hcm, hcg⟩ (fun hHeld => ?_)
    (refine Walk.take (i := 0) (oi := ⟨some 11, _, _, _, _, _⟩) (v := ?_) rfl (by kernel_rfl) (by kernel_rfl) (by kernel_rfl) (by kernel_rfl) (fun _ _ _ h => h) (Or.inl ⟨by rfl, ?_⟩) (by assumption) ?_); rotate_left; focus (intro w hSw; (try dsimp only at hSw); go_split_ands; go_simp; try with_reducible rfl); (try simp only [Act.put, List.setIfInBounds_toArray, List.set_cons_zero, List.set_cons_succ])
    (refine Walk.take (i := 1) (oi := ⟨some 12, _, _, _, _, _⟩) (v := ?_) rfl (by kernel_rfl) (by kernel_rfl) (by kernel_rfl) (by kernel_rfl) (fun _ _ _ h => h) (Or.inl ⟨by rfl, ?_⟩) (by assumption) ?_); rotate_left; focus (intro w hSw; (try dsimp only at hSw); go_split_ands; go_simp; try with_reducible rfl); (try simp only [Act.put, List.setIfInBounds_toArray, List.set_cons_zero, List.set_cons_succ])
    (refine Walk.take (i := 2) (oi := ⟨some 13, _, _, _, _, _⟩) (v := ?_) rfl (by kernel_rfl) (by kernel_rfl) (by kernel_rfl) (by kernel_rfl) (fun _ _ _ h => h) (Or.inl ⟨by rfl, ?_⟩) (by assumption) ?_); rotate_left; focus (intro w hSw; (try dsimp only at hSw); go_split_ands; go_simp; try with_reducible rfl); (try simp only [Act.put, List.setIfInBounds_toArray, List.set_cons_zero, List.set_cons_succ])
    (refine Walk.take (i := 3) (oi := ⟨some 14, _, _, _, _, _⟩) (v := ?_) rfl (by kernel_rfl) (by kernel_rfl) (by kernel_rfl) (by kernel_rfl) (fun _ _ _ h => h) (Or.inl ⟨by rfl, ?_⟩) (by assumption) ?_); rotate_left; focus (intro w hSw; (try dsimp only at hSw); go_split_ands; go_simp; try with_reducible rfl); (try simp only [Act.put, List.setIfInBounds_toArray, List.set_cons_zero, List.set_cons_succ])
    (refine Walk.take (i := 4) (oi := ⟨some 15, _, _, _, _, _⟩) (v := ?_) rfl (by kernel_rfl) (by kernel_rfl) (by kernel_rfl) (by kernel_rfl) (fun _ _ _ h => h) (Or.inl ⟨by rfl, ?_⟩) (by assumption) ?_); rotate_left; focus (intro w hSw; (try dsimp only at hSw); go_split_ands; go_simp; try with_reducible rfl); (try simp only [Act.put, List.setIfInBounds_toArray, List.set_cons_zero, List.set_cons_succ])
    (refine Walk.take (i := 5) (oi := ⟨some 16, _, _, _, _, _⟩) (v := ?_) rfl (by kernel_rfl) (by kernel_rfl) (by kernel_rfl) (by kernel_rfl) (fun _ _ _ h => h) (Or.inl ⟨by rfl, ?_⟩) (by assumption) ?_); rotate_left; focus (intro w hSw; (try dsimp only at hSw); go_split_ands; go_simp; try with_reducible rfl); (try simp only [Act.put, List.setIfInBounds_toArray, List.set_cons_zero, List.set_cons_succ])
    (refine Walk.take (i := 6) (oi := ⟨some 17, _, _, _, _, _⟩) (v := ?_) rfl (by kernel_rfl) (by kernel_rfl) (by kernel_rfl) (by kernel_rfl) (fun _ _ _ h => h) (Or.inl ⟨by rfl, ?_⟩) (by assumption) ?_); rotate_left; focus (intro w hSw; (try dsimp only at hSw); go_split_ands; go_simp; try with_reducible rfl); (try simp only [Act.put, List.setIfInBounds_toArray, List.set_cons_zero, List.set_cons_succ])
    (refine Walk.take (i := 7) (oi := ⟨some 18, _, _, _, _, _⟩) (v := ?_) rfl (by kernel_rfl) (by kernel_rfl) (by kernel_rfl) (by kernel_rfl) (fun _ _ _ h => h) (Or.inl ⟨by rfl, ?_⟩) (by assumption) ?_); rotate_left; focus (intro w hSw; (try dsimp only at hSw); go_split_ands; go_simp; try with_reducible rfl); (try simp only [Act.put, List.setIfInBounds_toArray, List.set_cons_zero, List.set_cons_succ])
    (refine Walk.take (i := 8) (oi := ⟨some 19, _, _, _, _, _⟩) (v := ?_) rfl (by kernel_rfl) (by kernel_rfl) (by kernel_rfl) (by kernel_rfl) (fun _ _ _ h => h) (Or.inl ⟨by rfl, ?_⟩) (by assumption) ?_); rotate_left; focus (intro w hSw; (try dsimp only at hSw); go_split_ands; go_simp; try with_reducible rfl); (try simp only [Act.put, List.setIfInBounds_toArray, List.set_cons_zero, List.set_cons_succ])
    (refine Walk.take (i := 9) (oi := ⟨some 20, _, _, _, _, _⟩) (v := ?_) rfl (by kernel_rfl) (by kernel_rfl) (by kernel_rfl) (by kernel_rfl) (fun _ _ _ h => h) (Or.inl ⟨by rfl, ?_⟩) (by assumption) ?_); rotate_left; focus (intro w hSw; (try dsimp only at hSw); go_split_ands; go_simp; try with_reducible rfl); (try simp only [Act.put, List.setIfInBounds_toArray, List.set_cons_zero, List.set_cons_succ])
    (refine Walk.take (i := 10) (oi := ⟨some 21, _, _, _, _, _⟩) (v := ?_) rfl (by kernel_rfl) (by kernel_rfl) (by kernel_rfl) (by kernel_rfl) (fun _ _ _ h => h) (Or.inl ⟨by rfl, ?_⟩) (by assumption) ?_); rotate_left; focus (intro w hSw; (try dsimp only at hSw); go_split_ands; go_simp; try with_reducible rfl); (try simp only [Act.put, List.setIfInBounds_toArray, List.set_cons_zero, List.set_cons_succ])
    (refine Walk.take (i := 12) (oi := ⟨some 23, _, _, _, _, _⟩) (v := ?_) rfl (by kernel_rfl) (by kernel_rfl) (by kernel_rfl) (by kernel_rfl) (fun _ _ _ h => h) (Or.inl ⟨by rfl, ?_⟩) (by assumption) ?_); rotate_left; focus (intro w hSw; (try dsimp only at hSw); go_split_ands; go_simp; try with_reducible rfl); (try simp only [Act.put, List.setIfInBounds_toArray, List.set_cons_zero, List.set_cons_succ])
    (refine Walk.take (i := 13) (oi := ⟨some 24, _, _, _, _, _⟩) (v := ?_) rfl (by kernel_rfl) (by kernel_rfl) (by kernel_rfl) (by kernel_rfl) (fun _ _ _ h => h) (Or.inl ⟨by rfl, ?_⟩) (by assumption) ?_); rotate_left; focus (intro w hSw; (try dsimp only at hSw); go_split_ands; go_simp; try with_reducible rfl); (try simp only [Act.put, List.setIfInBounds_toArray, List.set_cons_zero, List.set_cons_succ])
    (refine Walk.one (i := 11) rfl (by kernel_rfl) rfl (fun K hK => ?_)); go_simp
    refine (hhash.out _ ((Fr.refl _ _).drew)).mono ?_
    rintro e w2 ⟨rfl, rfl⟩
    refine hK.out _ _ (fun _ => ⟨hbox, hvar, hcm, hcg⟩) (fun _ => ?_)
    clear hK
    (refine Walk.one (i := 14) rfl (by kernel_rfl) rfl (fun K hK => ?_)); go_simp
    refine (hfld.out _ ((Fr.refl _ _).drew)).mono ?_
    rintro e w2 ⟨oo, cc, rfl, hoo, nd, hw⟩
    have HFa : Hid (Fr [] W w2) := by rw [hw]; exact ((Fr.refl _ _).drew).drewN nd
    clear hw
    refine hK.out _ _ (fun _ => ⟨HFa.out.cell (by simp) hbox, HFa.out.cell (by simp) hvar, HFa.out.cell (by simp) hcm, HFa.out.cell (by simp) hcg⟩) (fun _ => ?_)
    clear hK
    (refine Walk.one (i := 15) rfl (by kernel_rfl) rfl (fun K hK => ?_)); go_simp
    refine (clone_some o.2.2 (hfw.out _ HFa.out oo hoo) hz5).mono ?_
    rintro e w3 ⟨fv, rfl, hfr, hF3, hfn⟩
    have HF3 : Hid (Fr [] W w3) := HFa.out.trans hF3
    have HFN : Hid (∀ q, fv.ownBlock = some q → W.heap.size ≤ q) := Lib.hid fun q hq => Nat.le_trans HFa.out.size (hfn q hq)
    have HFR := Lib.hid hfr
    refine hK.out _ _ (fun _ => ⟨HF3.out.cell (by simp) hbox, HF3.out.cell (by simp) hvar, HF3.out.cell (by simp) hcm, HF3.out.cell (by simp) hcg⟩) (fun hHeld3 => ?_)
    have hHeld4 := hHeld3 (by decide)
    clear hK hHeld hHeld3 hfr hF3 hfn
    obtain ⟨fa, fc, rfl⟩ := row_shape HFR.out
    (refine Walk.take (i := 16) (oi := ⟨some 27, _, _, _, _, _⟩) (v := ?_) rfl (by kernel_rfl) (by kernel_rfl) (by kernel_rfl) (by kernel_rfl) (fun _ _ _ h => h) (Or.inl ⟨by rfl, ?_⟩) (by assumption) ?_); rotate_left; focus (intro w hSw; (try dsimp only at hSw); go_split_ands; go_simp; try with_reducible rfl); (try simp only [Act.put, List.setIfInBounds_toArray, List.set_cons_zero, List.set_cons_succ])
    (refine Walk.one (i := 17) rfl (by kernel_rfl) rfl (fun K hK => ?_)); go_simp
    have HX : Hid (Fr [] W (w3.alloc (.cells #[.int .u64 o.1, .int .i64 o.2.1, .slice fa o.2.2.length fc] 80))) := HF3.out.alloc _
    have HDX := Lib.hid (HD.out.go HX.out)
    have HOW : Hid (ItOwn (w3.alloc (.cells #[.int .u64 o.1, .int .i64 o.2.1, .slice fa o.2.2.length fc] 80)) ⟨o.1, o.2.1, .slice fa o.2.2.length fc, o.2.2⟩) := ⟨((Fr.refl [] w3).alloc _).row HFR.out (fun _ _ => by simp), hz5⟩
    refine hK.out _ _ (fun _ => ⟨HX.out.cell (by simp) hbox, HX.out.cell (by simp) hvar, HX.out.cell (by simp) hcm, HX.out.cell (by simp) hcg⟩) (fun _ => ?_)
    clear hK
    refine Walk.one (i := 18) (o := ⟨some 29, _, _, _, _, _⟩) rfl (by kernel_rfl) rfl (fun K hK => ?_)
    refine wp_append_lies _ (.tmp 11) (.tmp 28) 37 (by rfl) 0 80 i0 _ 3 40 Tryz.underlying37 HI.out HZ0.out HZ1.out HZ2.out rfl (by omega) (.slice vo k vc) k (flat3 its) (by rfl) HDX.out.row ⟨w3.heap.size, 0, none⟩ 1 1 [.int .u64 o.1, .int .i64 o.2.1, .slice fa o.2.2.length fc] (by rfl) (by rfl) (World.news_of_block (cs := #[.int .u64 o.1, .int .i64 o.2.1, .slice fa o.2.2.length fc]) (t := 80) (fr := (0, 0)) (heap_alloc_new w3 _)) (by simp [Value.oneCell']) (by omega) (by unfold maxLen; omega) (by omega) (Nat.zero_le _) (w3.heap.size + 1) (by simp) ?_
    intro gg cq w4 hown1 hgrow hat hlt1
    have hst := HDX.out.push (it := ⟨o.1, o.2.1, .slice fa o.2.2.length fc, o.2.2⟩) hown1 hgrow (hat.elim (fun h => .inl h.symm) (fun h => .inr ⟨gg, rfl, by have := HF3.out.size; have := HD.out.fr.size; omega⟩)) HOW.out (fun q hq => Nat.le_trans HD.out.fr.size (HFN.out q hq)) hT.out ((w1.alloc (.cells #[.pointer (some ⟨mb, 0, none⟩)] 56)).alloc (.cells #[.slice none 0 0] 37)).heap.size
    have hc4 := hst.2.1
    have hf4 := hst.2.2.1
    have e1 : w4.cell? ⟨w1.heap.size, 0, none⟩ = some (.pointer (some ⟨mb, 0, none⟩)) := hst.1 _ _ _ _ (HX.out.heap (by simp) HVT.out) (by decide) _ _ (HX.out.cell (by simp) hvar)
    have e2 : w4.cell? ⟨mb, 1, none⟩ = some (.slice (some ⟨g, 0, none⟩) n cap) := hst.1 _ _ _ _ (HX.out.heap (by simp) HMT.out) (by decide) _ _ (HX.out.cell (by simp) hcm)
    have e3 : w4.cell? ⟨g, x, none⟩ = some (.int .u64 o.1) := hst.1 _ _ _ _ (HX.out.heap (by simp) HGT.out) (by decide) _ _ (HX.out.cell (by simp) hcg)
    have HST := Lib.hid hst.2.2.2
    clear hst hown1 hat hlt1 hgrow
    simp only [Act.put, List.setIfInBounds_toArray, List.set_cons_zero, List.set_cons_succ]
    refine hK.out _ _ (fun _ => ⟨hc4, e1, e2, e3⟩) (fun _ => ?_)
    clear hK
    (refine Walk.one (i := 19) rfl (by kernel_rfl) rfl (fun K hK => ?_)); go_simp
    refine hK.out _ _ (fun h => absurd rfl h) (fun _ => ?_)
    clear hK
    refine Walk.done (by kernel_rfl) (Norm.mk ?_) _
    gi_wp2
    exact ⟨(keeps_fr HX.out _).trans HST.out.2, _, _, by rw [HPL.out]; exact HST.out.1⟩
  case done =>
    rintro D W hD ⟨v, its, hG⟩ hK
    have hbox := cell_of_heap (o := 0) hG.box rfl
    have HG := Lib.hid hG
    obtain ⟨ao, cap, rfl⟩ := row_shape' hG.row
    clear hG
    gi_wp2
    refine ⟨by simp, .inl ⟨_, _, rfl, run_takeDeferred hK, ?_⟩⟩
    have h2 := HG.out.put (.deferred none) (Nat.le_trans hF0.size hD) hK rfl
    have hke : obsOf its = os := by rw [h2.keys, starts_len, List.take_length]
    have hle : (startsOf 1 os).length = its.length := by rw [starts_len, ← hke]; simp [obsOf]
    refine ⟨_, results_tmp rfl _ _ _, .slice ao (startsOf 1 os).length cap, its, rfl, ?_, hke, h2.own, h2.fr, h2.new, h2.fresh⟩
    have := h2.row
    rw [hle] at this ⊢
    exact this
  case stop =>
    rintro D pre W _ _ h _
    exact h.elim
end Go.Proofs.YtjjkbdkalnhcbaaGreatDoor
namespace Go.Proofs.YtjjkbdkalnhcbaaGreatDoor
open Go.RowKit

/-- what Hash does at the object number i -/
def HS (os : List Ob) (hs : Int) (i : Nat) (a er : Int) (os' : List Ob) (hs' : Int) : Prop :=
  ∃ o, os[i]? = some o ∧ ((o.2.1 ≠ 0 ∧ a = o.2.1 ∧ er = 0 ∧ os' = os ∧ hs' = hs) ∨ (o.2.1 = 0 ∧ hs = 1099511627775 ∧ a = 0 ∧ er = 2 ∧ os' = os ∧ hs' = hs) ∨ (o.2.1 = 0 ∧ hs ≠ 1099511627775 ∧ a = hs + 1 ∧ er = 0 ∧ os' = os.set i (o.1, hs + 1, o.2.2) ∧ hs' = hs + 1))
theorem endOf_sum (l : List Ob) : endOf l = 1 + (l.map fun o => 3 + o.2.2.length).sum := by
  unfold endOf
  induction l with
  | nil => rfl
  | cons a l ih => rw [flatW_cons, List.length_append, wordsOb_len, List.map_cons, List.sum_cons]; omega
theorem end_set {os : List Ob} {i : Nat} {o o' : Ob} (hi : os[i]? = some o) (hl : o'.2.2.length = o.2.2.length) (j : Nat) : endOf ((os.set i o').take j) = endOf (os.take j) := by
  rw [endOf_sum, endOf_sum, List.map_take, List.map_take, map_set_same _ hi (by simp [hl])]
theorem end_take_lt {os : List Ob} {i j : Nat} (hij : i < j) (hj : j ≤ os.length) : endOf (os.take i) < endOf (os.take j) := by
  obtain ⟨o, ho⟩ : ∃ o, os[i]? = some o := ⟨_, List.getElem?_eq_getElem (by omega)⟩
  have h1 : endOf (os.take (i + 1)) = endOf (os.take i) + 3 + o.2.2.length := by rw [List.take_add_one, ho]; exact endOf_snoc _ _
  have h2 := end_take (os.take j) (i + 1)
  rw [List.take_take, Nat.min_eq_left (by omega)] at h2
  omega
theorem end_take_inj {os : List Ob} {i j : Nat} (hi : i < os.length) (hj : j < os.length) (h : endOf (os.take i) = endOf (os.take j)) : i = j := by
  rcases Nat.lt_trichotomy i j with hl | hl | hl
  · have := end_take_lt hl (Nat.le_of_lt hj); omega
  · exact hl
  · have := end_take_lt hl (Nat.le_of_lt hi); omega
theorem HS.pos {os : List Ob} {hs : Int} {i : Nat} {a er : Int} {os' : List Ob} {hs' : Int} (h : HS os hs i a er os' hs') (j : Nat) : endOf (os'.take j) = endOf (os.take j) := by
  obtain ⟨o, ho, ⟨-, -, -, rfl, -⟩ | ⟨-, -, -, -, rfl, -⟩ | ⟨-, -, -, -, rfl, -⟩⟩ := h
  · rfl
  · rfl
  · exact end_set (o' := (o.1, hs + 1, o.2.2)) ho rfl j
theorem HS.len {os : List Ob} {hs : Int} {i : Nat} {a er : Int} {os' : List Ob} {hs' : Int} (h : HS os hs i a er os' hs') : os'.length = os.length := by
  obtain ⟨o, ho, ⟨-, -, -, rfl, -⟩ | ⟨-, -, -, -, rfl, -⟩ | ⟨-, -, -, -, rfl, -⟩⟩ := h <;> simp
theorem OInv.lone {lim : Int} {os : List Ob} {hs : Int} (hI : OInv lim os hs) {i j : Nat} {o p : Ob} (hi : os[i]? = some o) (hj : os[j]? = some p) (hx : o.2.1 ≠ 0) (e : o.2.1 = p.2.1) : i = j :=
  hI.uq.one (x := o.2.1) (by rw [List.getElem?_map, hi]; rfl) (by rw [List.getElem?_map, hj, e]; rfl) hx
theorem getElem_set_eq' {α : Type} {l : List α} {i : Nat} {a b : α} (h : l[i]? = some a) : (l.set i b)[i]? = some b := by
  rw [List.getElem?_set_self (List.getElem?_eq_some_iff.1 h).1]
theorem hashes_law {lim : Int} {os os1 os2 os3 : List Ob} {hs h1 h2 h3 : Int} {i j : Nat} {a b c e f g : Int} (hI : OInv lim os hs) (H1 : HS os hs i a e os1 h1) (H2 : HS os1 h1 j b f os2 h2) (H3 : HS os2 h2 i c g os3 h3) :
    (e = 2 ∧ 1099511627774 ≤ hs) ∨ (e = 0 ∧ f = 2 ∧ 1099511627774 ≤ hs) ∨ (e = 0 ∧ f = 0 ∧ g = 0 ∧ c = a ∧ (a = b ↔ i = j) ∧ 1 ≤ a ∧ a ≤ h3 ∧ b ≤ h3 ∧ hs ≤ h3 ∧ h3 ≤ hs + 2) := by
  obtain ⟨o, ho, ⟨x1, rfl, rfl, rfl, rfl⟩ | ⟨x1, x2, rfl, rfl, rfl, rfl⟩ | ⟨x1, x2, rfl, rfl, rfl, rfl⟩⟩ := H1
  · have bo := hI.each o (List.mem_of_getElem? ho)
    obtain ⟨p, hp, ⟨y1, rfl, rfl, rfl, rfl⟩ | ⟨y1, y2, rfl, rfl, rfl, rfl⟩ | ⟨y1, y2, rfl, rfl, rfl, rfl⟩⟩ := H2
    · have bp := hI.each p (List.mem_of_getElem? hp)
      obtain ⟨q, hq, ⟨z1, rfl, rfl, rfl, rfl⟩ | ⟨z1, -⟩ | ⟨z1, -⟩⟩ := H3
      · rw [ho] at hq; cases hq
        refine .inr (.inr ⟨rfl, rfl, rfl, rfl, ⟨fun he => hI.lone ho hp x1 he, fun he => ?_⟩, by omega, by omega, by omega, by omega, by omega⟩)
        subst he
        rw [ho] at hp; cases hp; rfl
      · rw [ho] at hq; cases hq; exact absurd z1 x1
      · rw [ho] at hq; cases hq; exact absurd z1 x1
    · exact .inr (.inl ⟨rfl, rfl, by omega⟩)
    · have hij : j ≠ i := fun he => by subst he; rw [ho] at hp; cases hp; exact x1 y1
      obtain ⟨q, hq, hz⟩ := H3
      rw [List.getElem?_set_ne hij, ho] at hq
      cases hq
      rcases hz with ⟨z1, rfl, rfl, rfl, rfl⟩ | ⟨z1, -⟩ | ⟨z1, -⟩
      · exact .inr (.inr ⟨rfl, rfl, rfl, rfl, ⟨fun he => by omega, fun he => absurd he.symm hij⟩, by omega, by omega, by omega, by omega, by omega⟩)
      · exact absurd z1 x1
      · exact absurd z1 x1
  · exact .inl ⟨rfl, by omega⟩
  · have hh0 := hI.h0
    obtain ⟨p, hp, hy⟩ := H2
    by_cases hij : i = j
    · subst hij
      rw [getElem_set_eq' ho] at hp
      cases hp
      rcases hy with ⟨y1, rfl, rfl, rfl, rfl⟩ | ⟨y1, -⟩ | ⟨y1, -⟩
      · obtain ⟨q, hq, hz⟩ := H3
        rw [getElem_set_eq' ho] at hq
        cases hq
        rcases hz with ⟨z1, rfl, rfl, rfl, rfl⟩ | ⟨z1, -⟩ | ⟨z1, -⟩
        · exact .inr (.inr ⟨rfl, rfl, rfl, rfl, ⟨fun _ => rfl, fun _ => rfl⟩, by omega, by omega, by show hs + 1 ≤ hs + 1; omega, by omega, by omega⟩)
        · simp only at z1; omega
        · simp only at z1; omega
      · simp only at y1; omega
      · simp only at y1; omega
    · rw [List.getElem?_set_ne hij] at hp
      have bp := hI.each p (List.mem_of_getElem? hp)
      rcases hy with ⟨y1, rfl, rfl, rfl, rfl⟩ | ⟨y1, y2, rfl, rfl, rfl, rfl⟩ | ⟨y1, y2, rfl, rfl, rfl, rfl⟩
      · obtain ⟨q, hq, hz⟩ := H3
        rw [getElem_set_eq' ho] at hq
        cases hq
        rcases hz with ⟨z1, rfl, rfl, rfl, rfl⟩ | ⟨z1, -⟩ | ⟨z1, -⟩
        · exact .inr (.inr ⟨rfl, rfl, rfl, rfl, ⟨fun he => by omega, fun he => absurd he hij⟩, by omega, by omega, by omega, by omega, by omega⟩)
        · simp only at z1; omega
        · simp only at z1; omega
      · exact .inr (.inl ⟨rfl, rfl, by omega⟩)
      · obtain ⟨q, hq, hz⟩ := H3
        rw [List.getElem?_set_ne (Ne.symm hij), getElem_set_eq' ho] at hq
        cases hq
        rcases hz with ⟨z1, rfl, rfl, rfl, rfl⟩ | ⟨z1, -⟩ | ⟨z1, -⟩
        · exact .inr (.inr ⟨rfl, rfl, rfl, rfl, ⟨fun he => by omega, fun he => absurd he hij⟩, by omega, by omega, by omega, by omega, by omega⟩)
        · simp only at z1; omega
        · simp only at z1; omega
theorem take_split {α : Type} {l : List α} {i : Nat} {a : α} (h : l[i]? = some a) : l = l.take i ++ a :: l.drop (i + 1) := by
  have hi := (List.getElem?_eq_some_iff.1 h).1
  rw [List.getElem?_eq_getElem hi] at h
  cases h
  rw [← List.drop_eq_getElem_cons hi, List.take_append_drop]
/-- Objects, of a heap that holds os -/
def refsO (os : List Ob) : List Int := (startsOf 1 os).map fun p : Nat => 2 * (p : Int)
theorem starts_get {os : List Ob} {q : List Ob} {i : Nat} (hi : i < os.length) : (startsOf (endOf q) os)[i]? = some (endOf (q ++ os.take i)) := by
  induction os generalizing q i with
  | nil => simp at hi
  | cons o os ih =>
    cases i with
    | zero => simp [startsOf]
    | succ i =>
      simp only [startsOf, List.getElem?_cons_succ, List.take_succ_cons]
      rw [← endOf_snoc, ih (q := q ++ [o]) (by simpa using hi)]
      simp
theorem refsO_at {os : List Ob} {i : Nat} (hi : i < os.length) : (refsO os)[i]? = some (2 * (endOf (os.take i) : Int)) := by
  have := starts_get (q := []) hi
  simp only [List.nil_append] at this
  unfold refsO
  rw [List.getElem?_map]
  have e : startsOf 1 os = startsOf (endOf []) os := rfl
  rw [e, this]
  rfl
theorem refsO_len (os : List Ob) : (refsO os).length = os.length := by unfold refsO; rw [List.length_map, starts_len]
theorem objects_at {w W : World} {hb mb : Nat} {lim root hashes : Int} {os : List Ob} (hI : OInv lim os hashes) (hL : Live w hb mb (absMem lim os root hashes) W) :
    Calls Tryz.prog 23 #[.pointer (some ⟨hb, 0, none⟩)] W fun e W' => ∃ ao cap, e = .returned (.slice ao (refsO os).length cap) ∧ WordsAt W' ao (refsO os) ∧ Fr [] W W' ∧ (∀ a, ao = some a → W.heap.size ≤ a.block) ∧ Live w hb mb (absMem lim os root hashes) W' := by
  have hL0 := hL
  obtain ⟨wv, sv, hH, hF0, h1, h2⟩ := hL
  have hsz : ∀ o ∈ os, o.2.2.length ≤ 65536 := fun o ho => by
    obtain ⟨a, b, rfl⟩ := List.append_of_mem ho
    have := endOf_lt a b o
    have := hI.fit
    have := hI.l2
    omega
  have hC : Chain (absMem lim os root hashes).W 1 (startsOf 1 os) := by have := abs_chain (lim := lim) (root := root) (hashes := hashes) [] os hsz; simpa [endOf, flatW] using this
  have hF : Fr [] W (W.alloc (.cells #[.slice none 0 0] 25)) := (Fr.refl _ _).alloc _
  refine (objects_lists (memory_at (hH.fr hF (by simp) (fun _ _ => by simp))) _ hC).mono ?_
  rintro e W' ⟨v, rfl, hr, hF', hn⟩
  obtain ⟨ao, cap, rfl⟩ := row_shape hr
  refine ⟨ao, cap, by simp [refsO], fun i x hx => ?_, hF', fun a ha => ?_, hL0.still hF'⟩
  · have hi : i < (startsOf 1 os).length := by have := (List.getElem?_eq_some_iff.1 hx).1; simpa [refsO] using this
    obtain ⟨g, c, e, hc, -, -⟩ := row_at hr hi
    cases e
    refine ⟨g, 0, rfl, ?_⟩
    rw [Nat.zero_add, hc]
    simp only [refsO, List.getElem?_map] at hx
    simp only [refsOf, List.getElem?_map]
    cases hs : (startsOf 1 os)[i]? with
    | none => rw [hs] at hx; cases hx
    | some p => rw [hs] at hx; cases hx; rfl
  · subst ha
    refine hn a.block ?_
    rcases hr.2 with ⟨h0, -⟩ | ⟨g, c, cur, h0, -⟩
    · cases h0
    · cases h0; rfl
end Go.Proofs.YtjjkbdkalnhcbaaGreatDoor
namespace Go.Proofs.YtjjkbdkalnhcbaaGreatDoor
open Go.RowKit

theorem snap_at {W : World} {hb mb : Nat} {lim root hashes : Int} {os : List Ob} {wv sv : Value} (hI : OInv lim os hashes) (hH : HeapAt W hb mb (absMem lim os root hashes) wv sv) :
    Calls Tryz.prog 15 #[.pointer (some ⟨hb, 0, none⟩)] W fun e W1 => ∃ va vc its, e = .returned (.slice va its.length vc) ∧ RowAt W1 va (flat3 its) ∧ obsOf its = os ∧ (∀ o ∈ its, ItOwn W1 o) ∧ Fr [] W W1 ∧ ∀ o ∈ its, ∀ b, o.fv.ownBlock = some b → W.heap.size ≤ b := by
  refine (dump_lists (memory_at hH) (by have := hI.fit; have := hI.l2; omega) (fun o ho => by have := hI.each o ho; have := hI.h1; omega)).mono ?_
  rintro e W1 ⟨v, its, rfl, hr, ho, hown, hF, -, hfr⟩
  obtain ⟨va, vc, rfl⟩ := row_shape' hr
  exact ⟨va, vc, its, rfl, row_rowAt hr, ho, hown, hF, hfr⟩
theorem noPlace_len (its : List It) : (noPlace its).length = its.length := by simp [noPlace]
theorem noPlace_keys (its : List It) : (noPlace its).map (fun o => o.1.key) = obsOf its := by simp [noPlace, obsOf]
theorem own_block {W : World} {o : It} (h : ItOwn W o) {fa : Addr} {n fc : Nat} (hv : o.fv = .slice (some fa) n fc) : o.fv.ownBlock = some fa.block := by
  rcases h.1.2 with ⟨h0, -⟩ | ⟨g, cap, cur, h0, -⟩
  · rw [hv] at h0; cases h0
  · rw [hv] at h0
    cases h0
    rw [hv]
    rfl
theorem theirs_at {W : World} {va : Option Addr} {vc : Nat} {its : List It} (hr : RowAt W va (flat3 its)) (hown : ∀ o ∈ its, ItOwn W o) (hlen : its.length ≤ 65536) :
    Calls Tryz.prog 14 #[.slice va its.length vc] W fun e W2 => ∃ ba bc, e = .returned (.slice ba its.length bc) ∧ its.length ≤ bc ∧ G4 W2 ba (noPlace its) ∧ Fr [] W W2 ∧ ∀ a, ba = some a → W.heap.size ≤ a.block := by
  refine (theirs its hr (fun o ho => by obtain ⟨fa, fc, h⟩ := row_shape (hown o ho).1; exact ⟨fa, _, fc, h⟩) (by omega)).mono ?_
  rintro e W2 ⟨v, rfl, hr2, hF, hn⟩
  obtain ⟨ba, bc, rfl⟩ := row_shape' hr2
  have own2 : ∀ o ∈ its, ItOwn W2 o := fun o ho => (hown o ho).fr hF (fun _ _ => by simp)
  refine ⟨ba, bc, rfl, ?_, ⟨row_rowAt hr2, fun o ho => ?_, fun o ho => ?_⟩, hF, fun a ha => ?_⟩
  · rcases hr2.2 with ⟨h0, h1⟩ | ⟨g, cap, cur, h0, -, -, h3, -⟩
    · omega
    · cases h0; exact h3
  · obtain ⟨p, hp, rfl⟩ := List.mem_map.1 ho; exact (own2 p hp).ok
  · obtain ⟨p, hp, rfl⟩ := List.mem_map.1 ho; exact (own2 p hp).inn
  · subst ha
    refine hn a.block ?_
    rcases hr2.2 with ⟨h0, -⟩ | ⟨g, cap, cur, h0, -⟩
    · cases h0
    · cases h0; rfl
/-- what Alloc does -/
def AL (lim : Int) (os : List Ob) (x n y : Int) (rw' re : Int) (os' : List Ob) : Prop :=
  (re = 0 ∧ rw' = 2 * (endOf os : Int) ∧ 0 ≤ n ∧ n ≤ 512 ∧ (endOf os : Int) + 3 + n ≤ lim ∧ os' = os ++ [(x, 0, List.replicate n.toNat y)]) ∨ ((re = 1 ∨ re = 2) ∧ rw' = 0 ∧ os' = os)
theorem alloc_any {W : World} {hb mb : Nat} {lim root hashes : Int} {os : List Ob} {wv sv : Value} (hg : Glob W) (hI : OInv lim os hashes) (hH : HeapAt W hb mb (absMem lim os root hashes) wv sv) (x n y : Int) (hx : WB x) (hy : WB y) (n1 : -9223372036854775808 ≤ n) (n2 : n ≤ 9223372036854775807) (ox : okB (marksOf os) x = true) (oy : okB (marksOf os) y = true) :
    ∃ rw' re os', AL lim os x n y rw' re os' ∧ OInv lim os' hashes ∧ Calls Tryz.prog 21 #[.pointer (some ⟨hb, 0, none⟩), .int .u64 x, .int .i64 n, .int .u64 y] W (Turns (.tuple #[.int .u64 rw', .int .i64 re]) mb (absMem lim os' root hashes) (foot mb wv sv) W) := by
  have hl1 := hI.l1
  have hl2 := hI.l2
  have hfit := hI.fit
  have hW := (absMem_len lim os root hashes).1
  have hO := memory_at hH
  by_cases hn : n < 0 ∨ 512 < n
  · exact ⟨0, 1, os, .inr ⟨.inl rfl, rfl, rfl⟩, hI, (alloc_fail hO hg x n y 1 (fun _ hM hG => admit_size hM hG x n y (by show 1 ≤ lim; omega) hn n1 n2)).mono fun _ _ h => h.turns hH.mem⟩
  · obtain ⟨N, rfl⟩ : ∃ N : Nat, n = N := ⟨n.toNat, by omega⟩
    by_cases hf : (endOf os : Int) + 3 + N ≤ lim
    · refine ⟨2 * (endOf os : Int), 0, os ++ [(x, 0, List.replicate N y)], .inl ⟨rfl, rfl, by omega, by omega, hf, by simp⟩, ?_, ?_⟩
      · refine ⟨hI.l1, hI.l2, by rw [endOf_snoc]; simp; omega, hI.h0, hI.h1, fun p hp => ?_, fun p hp => ?_, by have := hI.uq.snoc0; simpa using this⟩
        · rcases List.mem_append.1 hp with hp | hp
          · exact hI.each p hp
          · simp at hp; subst hp; exact ⟨Int.le_refl _, hI.h0⟩
        · rcases List.mem_append.1 hp with hp | hp
          · exact hI.bd p hp
          · simp at hp; subst hp; exact ⟨hx, fun z hz => by obtain ⟨-, rfl⟩ := List.mem_replicate.1 hz; exact hy⟩
      · have := alloc_ok hO x N y (by rw [hW]; unfold endOf; omega) (by show 1 ≤ lim; omega) (by show lim ≤ _; omega) (by omega) (by omega) hx.1 hx.2 hy.1 hy.2 ox oy (by rw [hW]; show _ ≤ lim; omega)
        rw [hW, Int.toNat_natCast] at this
        have hp := absMem_push lim os root hashes (x, 0, List.replicate N y)
        simp only at hp
        rw [hp] at this
        exact this
    · exact ⟨0, 2, os, .inr ⟨.inr rfl, rfl, rfl⟩, hI, (alloc_fail hO hg x N y 2 (fun _ hM hG => admit_mem hM hG x N y (by show 1 ≤ lim; omega) (by show lim ≤ _; omega) (by omega) (by omega) hx.1 hx.2 hy.1 hy.2 ox oy (by rw [hW]; show lim < _; omega))).mono fun _ _ h => h.turns hH.mem⟩
/-- a reference to an object may be -/
theorem ok_ref {lim : Int} {os : List Ob} {hashes : Int} (hI : OInv lim os hashes) {i : Nat} (hi : i < os.length) : okB (marksOf os) (2 * (endOf (os.take i) : Int)) = true ∧ WB (2 * (endOf (os.take i) : Int)) := by
  obtain ⟨o, ho⟩ : ∃ o, os[i]? = some o := ⟨_, List.getElem?_eq_getElem hi⟩
  have hs := take_split ho
  have h1 := endOf_lt (os.take i) (os.drop (i + 1)) o
  rw [← hs] at h1
  have h2 := hI.fit
  have h3 := hI.l2
  have h4 := endOf_pos (os.take i)
  have hm := abs_mark (lim := lim) (root := 0) (hashes := hashes) (pre := os.take i) (post := os.drop (i + 1)) (o := o)
  rw [← hs] at hm
  have := stB_mk (M := marksOf os) h4 (by omega) hm
  refine ⟨by unfold okB; rw [this]; rfl, ?_⟩
  unfold WB
  omega
end Go.Proofs.YtjjkbdkalnhcbaaGreatDoor
