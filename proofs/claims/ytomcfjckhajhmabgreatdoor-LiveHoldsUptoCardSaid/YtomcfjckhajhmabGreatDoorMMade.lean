/- What a list of objects, or of operations, that came in holds: its numbers, where they lie, how long it may be. -/
import Derived.Test.YtomcfjckhajhmabGreatDoorMRLoads
import Derived.Deep.Slices
import Derived.Deep.Fields
import Derived.ChangeSame
import Derived.SizedLaws
namespace Go.Proofs.YtomcfjckhajhmabGreatDoor
open Go.ChangeShapes Go.WideShapes Go.RowKit Go.Deep
section
variable {H : Type} {enc : TypeId × Value → H} {w : World} {base : Nat} {spare : Nat → Bool} {held : Bool}

/-- no slice in it takes more bytes than there may be -/
def Light (t : TypeId) (d : DataW H) : Prop := ∀ n ∈ d.weights Tryz.prog t, n ≤ reachBytes
theorem mem_weightsAll {e : TypeId} : ∀ {ds : List (DataW H)} {d : DataW H} {n : Nat}, d ∈ ds → n ∈ d.weights Tryz.prog e → n ∈ DataW.weightsAll Tryz.prog e ds
  | c :: r, d, n, hd, hn => by
    simp only [DataW.weightsAll, List.mem_append]
    rcases List.mem_cons.1 hd with rfl | hd
    · exact .inl hn
    · exact .inr (mem_weightsAll hd hn)
theorem Light.slice {t e : TypeId} {es rs : List (DataW H)} (h : Light t (.slice es rs)) (hu : Tryz.prog.underlying t = some (.slice e)) : (es.length + rs.length) * Tryz.prog.bytesOf e ≤ reachBytes ∧ ∀ d ∈ es, Light e d := by
  unfold Light at h
  simp only [DataW.weights, hu, List.mem_cons, List.mem_append] at h
  exact ⟨h _ (.inl rfl), fun d hd n hn => h n (.inr (.inl (mem_weightsAll hd hn)))⟩
theorem Light.agg {t : TypeId} {fs : Array Field} {ds : List (DataW H)} (h : Light t (.agg ds)) (hu : Tryz.prog.underlying t = some (.struct fs)) {j : Nat} {f : Field} {d : DataW H} (hf : fs[j]? = some f) (hd : ds[j]? = some d) : Light f.type d := by
  intro n hn
  refine h n ?_
  simp only [DataW.weights, hu]
  refine DataW.weights_mem_each (j := j) (t := f.type) ?_ hd n hn
  simp [hf]
theorem list_of {α : Type} {p : Nat → α → Prop} : ∀ (n : Nat), (∀ i, i < n → ∃ z, p i z) → ∃ xs : List α, xs.length = n ∧ ∀ i z, xs[i]? = some z → p i z
  | 0, _ => ⟨[], rfl, fun i z h => by simp at h⟩
  | n + 1, h => by
    obtain ⟨xs, hl, hx⟩ := list_of n (fun i hi => h i (by omega))
    obtain ⟨z, hz⟩ := h n (by omega)
    refine ⟨xs ++ [z], by simp [hl], fun i y hy => ?_⟩
    by_cases hi : i < xs.length
    · rw [List.getElem?_append_left hi] at hy; exact hx i y hy
    · rw [List.getElem?_append_right (by omega)] at hy
      cases hj : i - xs.length with
      | zero =>
        rw [hj] at hy
        simp at hy
        subst hy
        have : i = n := by omega
        rw [this]
        exact hz
      | succ j => rw [hj] at hy; simp at hy
theorem wf_u64' {n : Int} (h : (Lit.int .u64 n).wf = true) : WB n := by
  simp only [Lit.wf, Bool.and_eq_true, decide_eq_true_eq] at h
  exact h
theorem wf_i64' {n : Int} (h : (Lit.int .i64 n).wf = true) : -9223372036854775808 ≤ n ∧ n ≤ 9223372036854775807 := by
  simp only [Lit.wf, Bool.and_eq_true, decide_eq_true_eq] at h
  exact h
theorem cells_Word : Tryz.prog.cellsOf 29 = 1 := by kernel_rfl
theorem bytes_Word : Tryz.prog.bytesOf 29 = 8 := by kernel_rfl
theorem spot_of {a : Addr} {v : Value} (h : w.cell? a = some v) : ∃ b o, a = ⟨b, o, none⟩ := by
  obtain ⟨b, o, spot⟩ := a
  exact ⟨b, o, by have := World.cell?_spot h; simpa using this⟩
/-- the fields of a struct that was read -/
theorem fields_of {t : TypeId} {fs : Array Field} {n : Nat} {cs : List Value} {x : DataW H × List MemPlace} (hu : Tryz.prog.underlying t = some (.struct fs)) (hone : oneCellFields Tryz.prog fs = true) (hC : Tryz.prog.cellsOf t = fs.size) (h : DataW.trod enc Tryz.prog w base spare held n t cs = some x) :
    ∃ (ys : List (DataW H × List MemPlace)) (k : Nat), x.1 = .agg (ys.map (·.1)) ∧ cs.length = fs.size ∧ ∀ (j : Nat) (f : Field), fs[j]? = some f → ∃ v y, cs[j]? = some v ∧ ys[j]? = some y ∧ DataW.trod enc Tryz.prog w base spare held k f.type [v] = some y := by
  obtain ⟨ys, k, -, rfl, hlen, hyl, hf⟩ := DataW.trod_struct hu h
  rw [hC] at hlen
  refine ⟨ys, k, rfl, hlen, fun j f hj => ?_⟩
  have hjl : j < fs.size := (Array.getElem?_eq_some_iff.1 hj).1
  obtain ⟨ho, hk⟩ := hone_of hone j f hj
  obtain ⟨v, hv⟩ : ∃ v, cs[j]? = some v := ⟨_, List.getElem?_eq_getElem (by omega)⟩
  obtain ⟨y, hy⟩ : ∃ y, ys[j]? = some y := ⟨_, List.getElem?_eq_getElem (by omega)⟩
  have h1 := hf j f hj
  have hd : (cs.drop j).take 1 = [v] := by
    rw [List.getElem?_eq_getElem (by omega)] at hv
    rw [List.drop_eq_getElem_cons (show j < cs.length by omega), Option.some.inj hv]
    rfl
  rw [ho, hk, hd, hy] at h1
  exact ⟨v, y, hv, hy, h1⟩
theorem Light.field {t : TypeId} {fs : Array Field} {ys : List (DataW H × List MemPlace)} (h : Light t (.agg (ys.map (·.1)))) (hu : Tryz.prog.underlying t = some (.struct fs)) {j : Nat} {f : Field} {y : DataW H × List MemPlace} (hf : fs[j]? = some f) (hy : ys[j]? = some y) : Light f.type y.1 := h.agg hu hf (by rw [List.getElem?_map, hy]; rfl)
theorem read_words2 {n : Nat} {v : Value} {y : DataW H × List MemPlace} (h : DataW.trod enc Tryz.prog w base spare held n 22 [v] = some y) (hl : Light 22 y.1) :
    ∃ fa fc xs, v = .slice fa xs.length fc ∧ WordsAt w fa xs ∧ (∀ x ∈ xs, WB x) ∧ xs.length ≤ 17592186043904 ∧ (fa = none → fc = 0 ∧ xs = []) ∧ (0 < xs.length → ∃ b o, fa = some ⟨b, o, none⟩ ∧ b < w.heap.size) := by
  rcases open_slice Tryz.underlying22 h with ⟨hcs, hx⟩ | ⟨a, len, cap, m, k, D, Pl, hcs, -, hlc, -, hm, hx, hi⟩
  · simp only [List.cons.injEq, and_true] at hcs
    subst hcs
    exact ⟨none, 0, [], rfl, fun i x hx => by simp at hx, fun x hx => by simp at hx, by simp, fun _ => ⟨rfl, rfl⟩, fun h => by simp at h⟩
  · simp only [List.cons.injEq, and_true] at hcs
    subst hcs
    have hml : len ≤ m := by rw [hm]; split <;> omega
    rw [hx] at hl
    have hb := (hl.slice Tryz.underlying22).1
    rw [bytes_Word] at hb
    simp only [List.length_map, List.length_range] at hb
    have hlen : len ≤ 17592186043904 := by unfold reachBytes at hb; omega
    obtain ⟨xs, hxl, hxs⟩ := list_of (p := fun i z => w.cell? (a.add i) = some (.int .u64 z) ∧ WB z) len (fun i hil => by
      obtain ⟨cs', hc, ht⟩ := hi i (by omega)
      rw [cells_Word, Nat.mul_one] at hc
      obtain ⟨-, hcl, hat⟩ := World.cells?_some hc
      obtain ⟨z, rfl, -, hwf⟩ := DataW.trod_int Tryz.underlying29 ht
      have := hat 0 (by omega)
      rw [add_add, Nat.add_zero] at this
      exact ⟨z, this, wf_u64' hwf⟩)
    refine ⟨some a, cap, xs, by rw [hxl], fun i x hxi => ?_, fun x hxm => ?_, by omega, fun h => by simp at h, fun hp => ?_⟩
    · obtain ⟨h0, -⟩ := hxs 0 _ (List.getElem?_eq_getElem (Nat.lt_of_le_of_lt (Nat.zero_le _) (List.getElem?_eq_some_iff.1 hxi).1))
      obtain ⟨b, o, hab⟩ := spot_of (by simpa [Addr.add] using h0)
      subst hab
      refine ⟨b, o, rfl, ?_⟩
      have := (hxs i x hxi).1
      rwa [Lib.add_plain] at this
    · obtain ⟨i, hi'⟩ := List.getElem?_of_mem hxm
      exact (hxs i x hi').2
    · obtain ⟨h0, -⟩ := hxs 0 _ (List.getElem?_eq_getElem hp)
      have h0' : w.cell? a = some (.int .u64 xs[0]) := by simpa [Addr.add] using h0
      obtain ⟨b, o, hab⟩ := spot_of h0'
      subst hab
      exact ⟨b, o, rfl, World.block_lt_of_cell? w _ h0'⟩
theorem read_words {n : Nat} {v : Value} {y : DataW H × List MemPlace} (h : DataW.trod enc Tryz.prog w base spare held n 22 [v] = some y) (hl : Light 22 y.1) :
    ∃ fa fc xs, v = .slice fa xs.length fc ∧ WordsAt w fa xs ∧ (∀ x ∈ xs, WB x) ∧ xs.length ≤ 17592186044416 ∧ (fa = none → fc = 0 ∧ xs = []) ∧ (0 < xs.length → ∃ b o, fa = some ⟨b, o, none⟩ ∧ b < w.heap.size) := by
  obtain ⟨fa, fc, xs, h1, h2, h3, h4, h5, h6⟩ := read_words2 h hl
  exact ⟨fa, fc, xs, h1, h2, h3, Nat.le_trans h4 (by decide), h5, h6⟩
theorem flat4_get {l : List (It × Int)} {j : Nat} {u : Value} (h : (flat4 l)[j]? = some u) : ∃ i o, l[i]? = some o ∧ ((j = i * 4 ∧ u = .int .u64 o.1.cls) ∨ (j = i * 4 + 1 ∧ u = .int .i64 o.1.hash) ∨ (j = i * 4 + 2 ∧ u = o.1.fv) ∨ (j = i * 4 + 3 ∧ u = .int .i64 o.2)) := by
  have hj := (List.getElem?_eq_some_iff.1 h).1
  rw [flat4_len] at hj
  have hi : j / 4 < l.length := by omega
  have hio := List.getElem?_eq_getElem hi
  obtain ⟨f0, f1, f2, f3⟩ := flat4_at hio
  refine ⟨j / 4, l[j / 4], hio, ?_⟩
  have hr : j = j / 4 * 4 + j % 4 := by omega
  have h4 : j % 4 = 0 ∨ j % 4 = 1 ∨ j % 4 = 2 ∨ j % 4 = 3 := by omega
  rcases h4 with h4 | h4 | h4 | h4
  · rw [h4] at hr; rw [hr, Nat.add_zero] at h; left; exact ⟨by omega, Option.some.inj (h.symm.trans f0)⟩
  · rw [h4] at hr; rw [hr] at h; right; left; exact ⟨by omega, Option.some.inj (h.symm.trans f1)⟩
  · rw [h4] at hr; rw [hr] at h; right; right; left; exact ⟨by omega, Option.some.inj (h.symm.trans f2)⟩
  · rw [h4] at hr; rw [hr] at h; right; right; right; exact ⟨by omega, Option.some.inj (h.symm.trans f3)⟩
/-- one object of a list -/
def Obj4 (w : World) (a : Addr) (i : Nat) (o : It × Int) : Prop :=
  w.cell? (a.add (i * 4)) = some (.int .u64 o.1.cls) ∧ w.cell? (a.add (i * 4 + 1)) = some (.int .i64 o.1.hash) ∧ w.cell? (a.add (i * 4 + 2)) = some o.1.fv ∧ w.cell? (a.add (i * 4 + 3)) = some (.int .i64 o.2) ∧ ItOk w o.1 ∧ ItIn w o.1 ∧ o.1.fs.length ≤ 17592186044416 ∧ (-9223372036854775808 ≤ o.1.hash ∧ o.1.hash ≤ 9223372036854775807) ∧ ObB o.1.key ∧ ∀ fa n fc, o.1.fv = .slice (some fa) n fc → 0 < n → fa.block < w.heap.size
end
end Go.Proofs.YtomcfjckhajhmabGreatDoor
