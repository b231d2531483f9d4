/- ir: sources, instructions and units that came in. -/
import Derived.Test.YtomcfjckhajhmabGreatDoorMIrA
import Derived.Deep.Slices
import Derived.Deep.Fields
import Derived.ChangeSame
import Derived.SizedLaws
namespace Go.Proofs.YtomcfjckhajhmabGreatDoor
open Go.ChangeShapes Go.WideShapes Go.RowKit Go.Deep
section
variable {H : Type} {enc : TypeId × Value → H} {w : World} {base : Nat} {spare : Nat → Bool} {held : Bool}

/-- no slice in it takes more bytes than there may be -/
def ILight (t : TypeId) (d : DataW H) : Prop := ∀ n ∈ d.weights Tryz.prog t, n ≤ reachBytes
theorem imem_weightsAll {e : TypeId} : ∀ {ds : List (DataW H)} {d : DataW H} {n : Nat}, d ∈ ds → n ∈ d.weights Tryz.prog e → n ∈ DataW.weightsAll Tryz.prog e ds
  | c :: r, d, n, hd, hn => by
    simp only [DataW.weightsAll, List.mem_append]
    rcases List.mem_cons.1 hd with rfl | hd
    · exact .inl hn
    · exact .inr (imem_weightsAll hd hn)
theorem ILight.slice {t e : TypeId} {es rs : List (DataW H)} (h : ILight t (.slice es rs)) (hu : Tryz.prog.underlying t = some (.slice e)) : (es.length + rs.length) * Tryz.prog.bytesOf e ≤ reachBytes ∧ ∀ d ∈ es, ILight e d := by
  unfold ILight at h
  simp only [DataW.weights, hu, List.mem_cons, List.mem_append] at h
  exact ⟨h _ (.inl rfl), fun d hd n hn => h n (.inr (.inl (imem_weightsAll hd hn)))⟩
theorem ILight.agg {t : TypeId} {fs : Array Field} {ds : List (DataW H)} (h : ILight t (.agg ds)) (hu : Tryz.prog.underlying t = some (.struct fs)) {j : Nat} {f : Field} {d : DataW H} (hf : fs[j]? = some f) (hd : ds[j]? = some d) : ILight f.type d := by
  intro n hn
  refine h n ?_
  simp only [DataW.weights, hu]
  refine DataW.weights_mem_each (j := j) (t := f.type) ?_ hd n hn
  simp [hf]
theorem ilist_of {α : Type} {p : Nat → α → Prop} : ∀ (n : Nat), (∀ i, i < n → ∃ z, p i z) → ∃ xs : List α, xs.length = n ∧ ∀ i z, xs[i]? = some z → p i z
  | 0, _ => ⟨[], rfl, fun i z h => by simp at h⟩
  | n + 1, h => by
    obtain ⟨xs, hl, hx⟩ := ilist_of n (fun i hi => h i (by omega))
    obtain ⟨z, hz⟩ := h n (by omega)
    refine ⟨xs ++ [z], by simp [hl], fun i y hy => ?_⟩
    by_cases hi : i < xs.length
    · rw [List.getElem?_append_left hi] at hy; exact hx i y hy
    · rw [List.getElem?_append_right (by omega)] at hy
      cases hj : i - xs.length with
      | zero =>
        rw [hj] at hy
        simp at hy
        subst hy
        have : i = n := by omega
        rw [this]
        exact hz
      | succ j => rw [hj] at hy; simp at hy
theorem iwf_u64 {n : Int} (h : (Lit.int .u64 n).wf = true) : WU n := by
  simp only [Lit.wf, Bool.and_eq_true, decide_eq_true_eq] at h
  exact h
theorem iwf_i64 {n : Int} (h : (Lit.int .i64 n).wf = true) : -9223372036854775808 ≤ n ∧ n ≤ 9223372036854775807 := by
  simp only [Lit.wf, Bool.and_eq_true, decide_eq_true_eq] at h
  exact h
theorem ispot_of {a : Addr} {v : Value} (h : w.cell? a = some v) : ∃ b o, a = ⟨b, o, none⟩ := by
  obtain ⟨b, o, spot⟩ := a
  exact ⟨b, o, by have := World.cell?_spot h; simpa using this⟩
/-- the fields of a struct that was read -/
theorem ifields {t : TypeId} {fs : Array Field} {n : Nat} {cs : List Value} {x : DataW H × List MemPlace} (hu : Tryz.prog.underlying t = some (.struct fs)) (h : DataW.trod enc Tryz.prog w base spare held n t cs = some x) :
    ∃ (ys : List (DataW H × List MemPlace)) (k : Nat), x.1 = .agg (ys.map (·.1)) ∧ cs.length = Tryz.prog.cellsOf t ∧ ∀ (j : Nat) (f : Field), fs[j]? = some f → ∃ y, ys[j]? = some y ∧ DataW.trod enc Tryz.prog w base spare held k f.type ((cs.drop f.offset).take (Tryz.prog.cellsOf f.type)) = some y := by
  obtain ⟨ys, k, -, rfl, hlen, hyl, hf⟩ := DataW.trod_struct hu h
  refine ⟨ys, k, rfl, hlen, fun j f hj => ?_⟩
  have hjl : j < fs.size := (Array.getElem?_eq_some_iff.1 hj).1
  obtain ⟨y, hy⟩ : ∃ y, ys[j]? = some y := ⟨_, List.getElem?_eq_getElem (by omega)⟩
  exact ⟨y, hy, by rw [hf j f hj, hy]⟩
theorem ILight.field {t : TypeId} {fs : Array Field} {ys : List (DataW H × List MemPlace)} (h : ILight t (.agg (ys.map (·.1)))) (hu : Tryz.prog.underlying t = some (.struct fs)) {j : Nat} {f : Field} {y : DataW H × List MemPlace} (hf : fs[j]? = some f) (hy : ys[j]? = some y) : ILight f.type y.1 := h.agg hu hf (by rw [List.getElem?_map, hy]; rfl)
theorem cells_ISrc : Tryz.prog.cellsOf 57 = 3 := by kernel_rfl
theorem bytes_ISrc : Tryz.prog.bytesOf 57 = 24 := by kernel_rfl
theorem cells_IIns : Tryz.prog.cellsOf 59 = 7 := by kernel_rfl
theorem bytes_IIns : Tryz.prog.bytesOf 59 = 72 := by kernel_rfl
theorem cells_ISrcs : Tryz.prog.cellsOf 54 = 1 := by kernel_rfl
theorem bytes_ISrcs : Tryz.prog.bytesOf 54 = 24 := by kernel_rfl
theorem cells_Iint : Tryz.prog.cellsOf 3 = 1 := by kernel_rfl
theorem bytes_Iint : Tryz.prog.bytesOf 3 = 8 := by kernel_rfl
set_option maxRecDepth 100000 in
/-- a source's cells -/
theorem read_src {n : Nat} {cs : List Value} {x : DataW H × List MemPlace} (h : DataW.trod enc Tryz.prog w base spare held n 57 cs = some x) : ∃ s : Sr, cs = [.int .i64 s.kind, .int .i64 s.n, .int .u64 s.w] ∧ SB s ∧ x.2 = [] := by
  obtain ⟨ys, k, hyy, rfl, hlen, hyl, hf⟩ := DataW.trod_struct Tryz.underlying57 h
  rw [cells_ISrc] at hlen
  match cs, hlen with
  | [c0, c1, c2], _ =>
    have h0 := hf 0 _ rfl
    have h1 := hf 1 _ rfl
    have h2 := hf 2 _ rfl
    match ys, hyl with
    | [y0, y1, y2], _ =>
      obtain ⟨z0, e0, p0, -⟩ := DataW.trod_int (k := .i64) Tryz.underlying3 (show DataW.trod enc Tryz.prog w base spare held k 3 [c0] = some y0 from h0)
      obtain ⟨z1, e1, p1, -⟩ := DataW.trod_int (k := .i64) Tryz.underlying3 (show DataW.trod enc Tryz.prog w base spare held k 3 [c1] = some y1 from h1)
      obtain ⟨z2, e2, p2, hw⟩ := DataW.trod_int (k := .u64) Tryz.underlying29 (show DataW.trod enc Tryz.prog w base spare held k 29 [c2] = some y2 from h2)
      simp only [List.cons.injEq, and_true] at e0 e1 e2
      subst e0 e1 e2
      exact ⟨⟨z0, z1, z2⟩, rfl, iwf_u64 hw, by simp [p0, p1, p2]⟩
set_option maxRecDepth 100000 in
/-- a row of sources -/
theorem read_srcs {n : Nat} {v : Value} {y : DataW H × List MemPlace} (h : DataW.trod enc Tryz.prog w base spare held n 54 [v] = some y) (hl : ILight 54 y.1) :
    ∃ a c l, v = .slice a l.length c ∧ SrcsAt w a l ∧ (∀ s ∈ l, SB s) ∧ l.length ≤ 5864062014805 ∧ SlOk a l.length c := by
  rcases open_slice Tryz.underlying54 h with ⟨hcs, hx⟩ | ⟨a, len, cap, m, k, D, Pl, hcs, -, hlc, hmx, hm, hx, hi⟩
  · simp only [List.cons.injEq, and_true] at hcs
    subst hcs
    exact ⟨none, 0, [], rfl, fun i x hx => by simp at hx, fun x hx => by simp at hx, by simp, SlOk.nil⟩
  · simp only [List.cons.injEq, and_true] at hcs
    subst hcs
    have hml : len ≤ m := by rw [hm]; split <;> omega
    rw [hx] at hl
    have hb := (hl.slice Tryz.underlying54).1
    rw [bytes_ISrc] at hb
    simp only [List.length_map, List.length_range] at hb
    have hlen : len ≤ 5864062014805 := by unfold reachBytes at hb; omega
    obtain ⟨l, hll, hls⟩ := ilist_of (p := fun i (s : Sr) => w.cell? (a.add (i * 3)) = some (.int .i64 s.kind) ∧ w.cell? (a.add (i * 3 + 1)) = some (.int .i64 s.n) ∧ w.cell? (a.add (i * 3 + 2)) = some (.int .u64 s.w) ∧ SB s) len (fun i hil => by
      obtain ⟨cs', hc, ht⟩ := hi i (by omega)
      rw [cells_ISrc] at hc
      obtain ⟨-, hcl, hat⟩ := World.cells?_some hc
      obtain ⟨s, rfl, hsb, -⟩ := read_src ht
      have a0 := hat 0 (by omega)
      have a1 := hat 1 (by omega)
      have a2 := hat 2 (by omega)
      rw [add_add] at a0 a1 a2
      exact ⟨s, by simpa using a0, a1, a2, hsb⟩)
    refine ⟨some a, cap, l, by rw [hll], fun i s hs => ?_, fun s hs => ?_, by omega, ⟨fun h => (by cases h), by omega, hmx⟩⟩
    · obtain ⟨h0, h1, h2, -⟩ := hls i s hs
      obtain ⟨h00, -⟩ := hls 0 _ (List.getElem?_eq_getElem (Nat.lt_of_le_of_lt (Nat.zero_le _) (List.getElem?_eq_some_iff.1 hs).1))
      obtain ⟨b, o, hab⟩ := ispot_of (by simpa [Addr.add] using h00)
      subst hab
      refine ⟨b, o, rfl, ?_, ?_, ?_⟩
      · rw [Addr.add_lit] at h0; exact h0
      · rw [Addr.add_lit, ← Nat.add_assoc] at h1; exact h1
      · rw [Addr.add_lit, ← Nat.add_assoc] at h2; exact h2
    · obtain ⟨i, hi'⟩ := List.getElem?_of_mem hs
      exact (hls i s hi').2.2.2
set_option maxRecDepth 100000 in
/-- an instruction's cells -/
theorem read_ins {n : Nat} {cs : List Value} {x : DataW H × List MemPlace} (h : DataW.trod enc Tryz.prog w base spare held n 59 cs = some x) (hl : ILight 59 x.1) : ∃ i : Ii, cs = [.int .i64 i.op, .int .i64 i.n, .int .i64 i.d.kind, .int .i64 i.d.n, .int .u64 i.d.w, .slice i.la i.l.length i.lc, .int .u64 i.w] ∧ IB i ∧ SrcsAt w i.la i.l := by
  obtain ⟨ys, k, hyy, rfl, hlen, hyl, hf⟩ := DataW.trod_struct Tryz.underlying59 h
  rw [cells_IIns] at hlen
  match cs, hlen with
  | [c0, c1, c2, c3, c4, c5, c6], _ =>
    have h0 := hf 0 _ rfl
    have h1 := hf 1 _ rfl
    have h2 := hf 2 _ rfl
    have h3 := hf 3 _ rfl
    have h4 := hf 4 _ rfl
    match ys, hyl with
    | [y0, y1, y2, y3, y4], _ =>
      obtain ⟨z0, e0, -, -⟩ := DataW.trod_int (k := .i64) Tryz.underlying3 (show DataW.trod enc Tryz.prog w base spare held k 3 [c0] = some y0 from h0)
      obtain ⟨z1, e1, -, -⟩ := DataW.trod_int (k := .i64) Tryz.underlying3 (show DataW.trod enc Tryz.prog w base spare held k 3 [c1] = some y1 from h1)
      obtain ⟨d, e2, hd, -⟩ := read_src (show DataW.trod enc Tryz.prog w base spare held k 57 [c2, c3, c4] = some y2 from h2)
      obtain ⟨a, c, l, e3, hat, hsb, hln, hsl⟩ := read_srcs (show DataW.trod enc Tryz.prog w base spare held k 54 [c5] = some y3 from h3) (hl.agg Tryz.underlying59 (j := 3) rfl rfl)
      obtain ⟨z4, e4, -, hw⟩ := DataW.trod_int (k := .u64) Tryz.underlying29 (show DataW.trod enc Tryz.prog w base spare held k 29 [c6] = some y4 from h4)
      simp only [List.cons.injEq, and_true] at e0 e1 e2 e4
      obtain ⟨e20, e21, e22⟩ := e2
      subst e0 e1 e20 e21 e22 e3 e4
      exact ⟨⟨z0, z1, d, a, l, c, z4⟩, rfl, ⟨hsl, iwf_u64 hw, hd, hsb, hln⟩, hat⟩
set_option maxRecDepth 100000 in
/-- a row of instructions -/
theorem read_inss {n : Nat} {v : Value} {y : DataW H × List MemPlace} (h : DataW.trod enc Tryz.prog w base spare held n 30 [v] = some y) (hl : ILight 30 y.1) :
    ∃ a c l, v = .slice a l.length c ∧ InsAt w a l ∧ (∀ i ∈ l, IB i) ∧ l.length ≤ 1954687338211 ∧ SlOk a l.length c := by
  rcases open_slice Tryz.underlying30 h with ⟨hcs, hx⟩ | ⟨a, len, cap, m, k, D, Pl, hcs, -, hlc, hmx, hm, hx, hi⟩
  · simp only [List.cons.injEq, and_true] at hcs
    subst hcs
    exact ⟨none, 0, [], rfl, fun i x hx => by simp at hx, fun x hx => by simp at hx, by simp, SlOk.nil⟩
  · simp only [List.cons.injEq, and_true] at hcs
    subst hcs
    have hml : len ≤ m := by rw [hm]; split <;> omega
    rw [hx] at hl
    obtain ⟨hb, hle⟩ := hl.slice Tryz.underlying30
    rw [bytes_IIns] at hb
    simp only [List.length_map, List.length_range] at hb
    have hlen : len ≤ 1954687338211 := by unfold reachBytes at hb; omega
    obtain ⟨l, hll, hls⟩ := ilist_of (p := fun i (s : Ii) => w.cell? (a.add (i * 7)) = some (.int .i64 s.op) ∧ w.cell? (a.add (i * 7 + 1)) = some (.int .i64 s.n) ∧ w.cell? (a.add (i * 7 + 2)) = some (.int .i64 s.d.kind) ∧ w.cell? (a.add (i * 7 + 3)) = some (.int .i64 s.d.n) ∧ w.cell? (a.add (i * 7 + 4)) = some (.int .u64 s.d.w) ∧ w.cell? (a.add (i * 7 + 5)) = some (.slice s.la s.l.length s.lc) ∧ w.cell? (a.add (i * 7 + 6)) = some (.int .u64 s.w) ∧ IB s ∧ SrcsAt w s.la s.l) len (fun i hil => by
      obtain ⟨cs', hc, ht⟩ := hi i (by omega)
      rw [cells_IIns] at hc
      obtain ⟨-, hcl, hat⟩ := World.cells?_some hc
      obtain ⟨s, rfl, hib, hsr⟩ := read_ins ht (hle _ (List.mem_map.2 ⟨i, List.mem_range.2 hil, rfl⟩))
      have a0 := hat 0 (by omega)
      have a1 := hat 1 (by omega)
      have a2 := hat 2 (by omega)
      have a3 := hat 3 (by omega)
      have a4 := hat 4 (by omega)
      have a5 := hat 5 (by omega)
      have a6 := hat 6 (by omega)
      rw [add_add] at a0 a1 a2 a3 a4 a5 a6
      exact ⟨s, by simpa using a0, a1, a2, a3, a4, a5, a6, hib, hsr⟩)
    refine ⟨some a, cap, l, by rw [hll], fun i s hs => ?_, fun s hs => ?_, by omega, ⟨fun h => (by cases h), by omega, hmx⟩⟩
    · obtain ⟨h0, h1, h2, h3, h4, h5, h6, -, hsr⟩ := hls i s hs
      obtain ⟨h00, -⟩ := hls 0 _ (List.getElem?_eq_getElem (Nat.lt_of_le_of_lt (Nat.zero_le _) (List.getElem?_eq_some_iff.1 hs).1))
      obtain ⟨b, o, hab⟩ := ispot_of (by simpa [Addr.add] using h00)
      subst hab
      rw [Addr.add_lit] at h0
      rw [Addr.add_lit, ← Nat.add_assoc] at h1 h2 h3 h4 h5 h6
      exact ⟨⟨b, o, rfl, h0, h1, h2, h3, h4, h5, h6⟩, hsr⟩
    · obtain ⟨i, hi'⟩ := List.getElem?_of_mem hs
      exact (hls i s hi').2.2.2.2.2.2.2.1
set_option maxRecDepth 100000 in
/-- a row of numbers -/
theorem read_nums {n : Nat} {v : Value} {y : DataW H × List MemPlace} (h : DataW.trod enc Tryz.prog w base spare held n 31 [v] = some y) (hl : ILight 31 y.1) :
    ∃ a c l, v = .slice a l.length c ∧ IntsAt w a l ∧ (∀ z ∈ l, -9223372036854775808 ≤ z ∧ z ≤ 9223372036854775807) ∧ l.length ≤ 17592186043904 ∧ SlOk a l.length c := by
  rcases open_slice Tryz.underlying31 h with ⟨hcs, hx⟩ | ⟨a, len, cap, m, k, D, Pl, hcs, -, hlc, hmx, hm, hx, hi⟩
  · simp only [List.cons.injEq, and_true] at hcs
    subst hcs
    exact ⟨none, 0, [], rfl, fun i x hx => by simp at hx, fun x hx => by simp at hx, by simp, SlOk.nil⟩
  · simp only [List.cons.injEq, and_true] at hcs
    subst hcs
    have hml : len ≤ m := by rw [hm]; split <;> omega
    rw [hx] at hl
    have hb := (hl.slice Tryz.underlying31).1
    rw [bytes_Iint] at hb
    simp only [List.length_map, List.length_range] at hb
    have hlen : len ≤ 17592186043904 := by unfold reachBytes at hb; omega
    obtain ⟨l, hll, hls⟩ := ilist_of (p := fun i (z : Int) => w.cell? (a.add i) = some (.int .i64 z) ∧ -9223372036854775808 ≤ z ∧ z ≤ 9223372036854775807) len (fun i hil => by
      obtain ⟨cs', hc, ht⟩ := hi i (by omega)
      rw [cells_Iint, Nat.mul_one] at hc
      obtain ⟨-, hcl, hat⟩ := World.cells?_some hc
      obtain ⟨z, rfl, -, hwf⟩ := DataW.trod_int Tryz.underlying3 ht
      have a0 := hat 0 (by omega)
      rw [add_add, Nat.add_zero] at a0
      exact ⟨z, a0, iwf_i64 hwf⟩)
    refine ⟨some a, cap, l, by rw [hll], fun i s hs => ?_, fun s hs => ?_, by omega, ⟨fun h => (by cases h), by omega, hmx⟩⟩
    · obtain ⟨h0, -⟩ := hls i s hs
      obtain ⟨h00, -⟩ := hls 0 _ (List.getElem?_eq_getElem (Nat.lt_of_le_of_lt (Nat.zero_le _) (List.getElem?_eq_some_iff.1 hs).1))
      obtain ⟨b, o, hab⟩ := ispot_of (by simpa [Addr.add] using h00)
      subst hab
      rw [Addr.add_lit] at h0
      exact ⟨b, o, rfl, h0⟩
    · obtain ⟨i, hi'⟩ := List.getElem?_of_mem hs
      exact (hls i s hi').2
set_option maxRecDepth 100000 in
/-- a row of maps -/
theorem read_maps {n : Nat} {v : Value} {y : DataW H × List MemPlace} (h : DataW.trod enc Tryz.prog w base spare held n 32 [v] = some y) (hl : ILight 32 y.1) :
    ∃ a c l, v = .slice a l.length c ∧ MapsAt w a l ∧ (∀ m ∈ l, m.l.length ≤ 5864062014805 ∧ (∀ s ∈ m.l, SB s) ∧ SlOk m.a m.l.length m.c) ∧ l.length ≤ 5864062014805 ∧ SlOk a l.length c := by
  rcases open_slice Tryz.underlying32 h with ⟨hcs, hx⟩ | ⟨a, len, cap, m, k, D, Pl, hcs, -, hlc, hmx, hm, hx, hi⟩
  · simp only [List.cons.injEq, and_true] at hcs
    subst hcs
    exact ⟨none, 0, [], rfl, fun i x hx => by simp at hx, fun x hx => by simp at hx, by simp, SlOk.nil⟩
  · simp only [List.cons.injEq, and_true] at hcs
    subst hcs
    have hml : len ≤ m := by rw [hm]; split <;> omega
    rw [hx] at hl
    obtain ⟨hb, hle⟩ := hl.slice Tryz.underlying32
    rw [bytes_ISrcs] at hb
    simp only [List.length_map, List.length_range] at hb
    have hlen : len ≤ 5864062014805 := by unfold reachBytes at hb; omega
    obtain ⟨l, hll, hls⟩ := ilist_of (p := fun i (z : Mp) => w.cell? (a.add i) = some (.slice z.a z.l.length z.c) ∧ SrcsAt w z.a z.l ∧ z.l.length ≤ 5864062014805 ∧ (∀ s ∈ z.l, SB s) ∧ SlOk z.a z.l.length z.c) len (fun i hil => by
      obtain ⟨cs', hc, ht⟩ := hi i (by omega)
      rw [cells_ISrcs, Nat.mul_one] at hc
      obtain ⟨-, hcl, hat⟩ := World.cells?_some hc
      match cs', hcl with
      | [v0], _ =>
        obtain ⟨a', c', l', rfl, hsr, hsb, hln, hsl⟩ := read_srcs ht (hle _ (List.mem_map.2 ⟨i, List.mem_range.2 hil, rfl⟩))
        have a0 := hat 0 (by omega)
        rw [add_add, Nat.add_zero] at a0
        exact ⟨⟨a', l', c'⟩, a0, hsr, hln, hsb, hsl⟩)
    refine ⟨some a, cap, l, by rw [hll], fun i s hs => ?_, fun s hs => ?_, by omega, ⟨fun h => (by cases h), by omega, hmx⟩⟩
    · obtain ⟨h0, hsr, -⟩ := hls i s hs
      obtain ⟨h00, -⟩ := hls 0 _ (List.getElem?_eq_getElem (Nat.lt_of_le_of_lt (Nat.zero_le _) (List.getElem?_eq_some_iff.1 hs).1))
      obtain ⟨b, o, hab⟩ := ispot_of (by simpa [Addr.add] using h00)
      subst hab
      rw [Addr.add_lit] at h0
      exact ⟨⟨b, o, rfl, h0⟩, hsr⟩
    · obtain ⟨i, hi'⟩ := List.getElem?_of_mem hs
      exact (hls i s hi').2.2
theorem cells_IUnit : Tryz.prog.cellsOf 34 = 10 := by kernel_rfl
set_option maxRecDepth 100000 in
/-- a unit that came in -/
theorem read_unit {r : Reach} {b0 : Nat} {v : Value} {d : DataW H} {p : List MemPlace} (hv : Value.okWide Tryz.prog w r b0 34 v) (h : DataW.Trod enc Tryz.prog w base spare held 34 v d p) (hl : ILight 34 d) : ∃ u : Un, v = u.v ∧ UAt w u ∧ UB u ∧ u.enter.length ≤ 1954687338211 ∧ u.code.length ≤ 1954687338211 := by
  obtain ⟨cs, rfl, hsz⟩ := okWide_struct Tryz.underlying34 hv
  obtain ⟨fuel, hf0⟩ := h
  obtain ⟨l⟩ := cs
  obtain ⟨ys, k, hyy, hxx, hlen, hyl, hf⟩ := DataW.trod_struct Tryz.underlying34 (show DataW.trod enc Tryz.prog w base spare held fuel 34 l = some (d, p) from hf0)
  rw [cells_IUnit] at hlen
  match l, hlen with
  | [c0, c1, c2, c3, c4, c5, c6, c7, c8, c9], _ =>
    have h0 := hf 0 _ rfl
    have h1 := hf 1 _ rfl
    have h2 := hf 2 _ rfl
    have h3 := hf 3 _ rfl
    have h4 := hf 4 _ rfl
    have h5 := hf 5 _ rfl
    have h6 := hf 6 _ rfl
    have h7 := hf 7 _ rfl
    have h8 := hf 8 _ rfl
    have h9 := hf 9 _ rfl
    match ys, hyl with
    | [y0, y1, y2, y3, y4, y5, y6, y7, y8, y9], _ =>
      obtain ⟨rfl, rfl⟩ := Prod.mk.inj hxx
      obtain ⟨z0, e0, -, w0⟩ := DataW.trod_int (k := .u64) Tryz.underlying29 (show DataW.trod enc Tryz.prog w base spare held k 29 [c0] = some y0 from h0)
      obtain ⟨z1, e1, -, w1⟩ := DataW.trod_int (k := .i64) Tryz.underlying3 (show DataW.trod enc Tryz.prog w base spare held k 3 [c1] = some y1 from h1)
      obtain ⟨z2, e2, -, w2⟩ := DataW.trod_int (k := .i64) Tryz.underlying3 (show DataW.trod enc Tryz.prog w base spare held k 3 [c2] = some y2 from h2)
      obtain ⟨z3, e3, -, w3⟩ := DataW.trod_int (k := .i64) Tryz.underlying3 (show DataW.trod enc Tryz.prog w base spare held k 3 [c3] = some y3 from h3)
      obtain ⟨z4, e4, -, w4⟩ := DataW.trod_int (k := .i64) Tryz.underlying3 (show DataW.trod enc Tryz.prog w base spare held k 3 [c4] = some y4 from h4)
      obtain ⟨z5, e5, -, w5⟩ := DataW.trod_int (k := .i64) Tryz.underlying3 (show DataW.trod enc Tryz.prog w base spare held k 3 [c5] = some y5 from h5)
      obtain ⟨ea, ec, en, e6, a6, b6, n6, s6⟩ := read_inss (show DataW.trod enc Tryz.prog w base spare held k 30 [c6] = some y6 from h6) (hl.agg Tryz.underlying34 (j := 6) rfl rfl)
      obtain ⟨ca, cc, co, e7, a7, b7, n7, s7⟩ := read_inss (show DataW.trod enc Tryz.prog w base spare held k 30 [c7] = some y7 from h7) (hl.agg Tryz.underlying34 (j := 7) rfl rfl)
      obtain ⟨sa, sc, st, e8, a8, b8, n8, s8⟩ := read_nums (show DataW.trod enc Tryz.prog w base spare held k 31 [c8] = some y8 from h8) (hl.agg Tryz.underlying34 (j := 8) rfl rfl)
      obtain ⟨ma, mc, mp, e9, a9, b9, n9, s9⟩ := read_maps (show DataW.trod enc Tryz.prog w base spare held k 32 [c9] = some y9 from h9) (hl.agg Tryz.underlying34 (j := 9) rfl rfl)
      simp only [List.cons.injEq, and_true] at e0 e1 e2 e3 e4 e5
      subst e0 e1 e2 e3 e4 e5 e6 e7 e8 e9
      exact ⟨⟨z0, z1, z2, z3, z4, z5, ea, en, ec, ca, co, cc, sa, st, sc, ma, mp, mc⟩, rfl, ⟨a6, a7, a8, a9⟩, ⟨b6, b7, b9, s6, s7, s8, s9, by simp only; omega, by simp only; omega, n8, n9, iwf_u64 w0, b8, iwf_i64 w1, iwf_i64 w2, iwf_i64 w3, iwf_i64 w4, iwf_i64 w5⟩, n6, n7⟩
set_option maxRecDepth 100000 in
/-- an instruction that came in by value -/
theorem read_insV {r : Reach} {b0 : Nat} {v : Value} {d : DataW H} {p : List MemPlace} (hv : Value.okWide Tryz.prog w r b0 59 v) (h : DataW.Trod enc Tryz.prog w base spare held 59 v d p) (hl : ILight 59 d) : ∃ i : Ii, v = i.v ∧ IB i ∧ SrcsAt w i.la i.l := by
  obtain ⟨cs, rfl, hsz⟩ := okWide_struct Tryz.underlying59 hv
  obtain ⟨fuel, hf0⟩ := h
  obtain ⟨l⟩ := cs
  obtain ⟨i, e, hI, hA⟩ := read_ins (show DataW.trod enc Tryz.prog w base spare held fuel 59 l = some (d, p) from hf0) hl
  exact ⟨i, by rw [e]; rfl, hI, hA⟩
set_option maxRecDepth 100000 in
/-- a source that came in by value -/
theorem read_srcV {r : Reach} {b0 : Nat} {v : Value} {d : DataW H} {p : List MemPlace} (hv : Value.okWide Tryz.prog w r b0 57 v) (h : DataW.Trod enc Tryz.prog w base spare held 57 v d p) : ∃ s : Sr, v = s.v ∧ SB s := by
  obtain ⟨cs, rfl, hsz⟩ := okWide_struct Tryz.underlying57 hv
  obtain ⟨fuel, hf0⟩ := h
  obtain ⟨l⟩ := cs
  obtain ⟨s, e, hS, -⟩ := read_src (show DataW.trod enc Tryz.prog w base spare held fuel 57 l = some (d, p) from hf0)
  exact ⟨s, by rw [e]; rfl, hS⟩
end
end Go.Proofs.YtomcfjckhajhmabGreatDoor
