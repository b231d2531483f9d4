/- scan: intervals that came in. -/
import Derived.Test.YtomcfjckhajhmaaScnClo
import Derived.Deep.Slices
import Derived.Deep.Fields
import Derived.ChangeSame
import Derived.SizedLaws
import Derived.Lib.ItoaMem
namespace Go.Proofs.Ytomcfjckhajhmaa
open Go.ChangeShapes Go.WideShapes Go.RowKit Go.Deep
section
variable {H : Type} {enc : TypeId × Value → H} {w : World} {base : Nat} {spare : Nat → Bool} {held : Bool}

/-- no slice in it takes more bytes than there may be -/
def SLight (t : TypeId) (d : DataW H) : Prop := ∀ n ∈ d.weights Try.prog t, n ≤ reachBytes
theorem SLight.slice {t e : TypeId} {es rs : List (DataW H)} (h : SLight t (.slice es rs)) (hu : Try.prog.underlying t = some (.slice e)) : (es.length + rs.length) * Try.prog.bytesOf e ≤ reachBytes := by
  unfold SLight at h
  simp only [DataW.weights, hu, List.mem_cons, List.mem_append] at h
  exact h _ (.inl rfl)
theorem slist_of {α : Type} {p : Nat → α → Prop} : ∀ (n : Nat), (∀ i, i < n → ∃ z, p i z) → ∃ xs : List α, xs.length = n ∧ ∀ i z, xs[i]? = some z → p i z
  | 0, _ => ⟨[], rfl, fun i z h => by simp at h⟩
  | n + 1, h => by
    obtain ⟨xs, hl, hx⟩ := slist_of n (fun i hi => h i (by omega))
    obtain ⟨z, hz⟩ := h n (by omega)
    refine ⟨xs ++ [z], by simp [hl], fun i y hy => ?_⟩
    by_cases hi : i < xs.length
    · rw [List.getElem?_append_left hi] at hy; exact hx i y hy
    · rw [List.getElem?_append_right (by omega)] at hy
      cases hj : i - xs.length with
      | zero =>
        rw [hj] at hy
        simp at hy
        subst hy
        have : i = n := by omega
        subst this
        exact hz
      | succ j => rw [hj] at hy; simp at hy
theorem sspot_of {a : Addr} {v : Value} (h : w.cell? a = some v) : ∃ b o, a = ⟨b, o, none⟩ := by
  obtain ⟨b, o, spot⟩ := a
  exact ⟨b, o, by have := World.cell?_spot h; simpa using this⟩
theorem scells_Iv : Try.prog.cellsOf 35 = 3 := by kernel_rfl
theorem sbytes_Iv : Try.prog.bytesOf 35 = 24 := by kernel_rfl
set_option maxRecDepth 100000 in
theorem read_sivc {n : Nat} {cs : List Value} {x : DataW H × List MemPlace} (h : DataW.trod enc Try.prog w base spare held n 35 cs = some x) : ∃ i : Iv, cs = [.int .i64 i.v, .int .i64 i.f, .int .i64 i.t] := by
  obtain ⟨ys, k, hyy, rfl, hlen, hyl, hf⟩ := DataW.trod_struct Try.underlying35 h
  rw [scells_Iv] at hlen
  match cs, hlen with
  | [c0, c1, c2], _ =>
    have h0 := hf 0 _ rfl
    have h1 := hf 1 _ rfl
    have h2 := hf 2 _ rfl
    match ys, hyl with
    | [y0, y1, y2], _ =>
      obtain ⟨z0, e0, p0, -⟩ := DataW.trod_int (k := .i64) Try.underlying3 (show DataW.trod enc Try.prog w base spare held k 3 [c0] = some y0 from h0)
      obtain ⟨z1, e1, p1, -⟩ := DataW.trod_int (k := .i64) Try.underlying3 (show DataW.trod enc Try.prog w base spare held k 3 [c1] = some y1 from h1)
      obtain ⟨z2, e2, p2, -⟩ := DataW.trod_int (k := .i64) Try.underlying3 (show DataW.trod enc Try.prog w base spare held k 3 [c2] = some y2 from h2)
      simp only [List.cons.injEq, and_true] at e0 e1 e2
      subst e0 e1 e2
      exact ⟨⟨z0, z1, z2⟩, rfl⟩
set_option maxRecDepth 100000 in
/-- intervals that came in -/
theorem read_ivs {n : Nat} {v : Value} {y : DataW H × List MemPlace} (h : DataW.trod enc Try.prog w base spare held n 22 [v] = some y) (hl : SLight 22 y.1) : ∃ a c L, v = .slice a (List.length L) c ∧ IvM w a L ∧ L.length ≤ 5864062014805 ∧ L.length ≤ c ∧ (a = none → c = 0) := by
  rcases open_slice Try.underlying22 h with ⟨hcs, hx⟩ | ⟨a, len, cap, m, k, D, Pl, hcs, -, hlc, -, hm, hx, hi⟩
  · simp only [List.cons.injEq, and_true] at hcs
    subst hcs
    exact ⟨none, 0, [], rfl, fun i x hx => by simp at hx, by simp, Nat.le_refl _, fun _ => rfl⟩
  · simp only [List.cons.injEq, and_true] at hcs
    subst hcs
    have hml : len ≤ m := by rw [hm]; split <;> omega
    rw [hx] at hl
    have hb := hl.slice Try.underlying22
    rw [sbytes_Iv] at hb
    simp only [List.length_map, List.length_range] at hb
    have hlen : len ≤ 5864062014805 := by unfold reachBytes at hb; omega
    obtain ⟨L, hll, hls⟩ := slist_of (p := fun i (x : Iv) => w.cell? (a.add (i * 3)) = some (.int .i64 x.v) ∧ w.cell? (a.add (i * 3 + 1)) = some (.int .i64 x.f) ∧ w.cell? (a.add (i * 3 + 2)) = some (.int .i64 x.t)) len (fun i hil => by
      obtain ⟨cs', hc, ht⟩ := hi i (by omega)
      rw [scells_Iv] at hc
      obtain ⟨-, hcl, hat⟩ := World.cells?_some hc
      obtain ⟨x, rfl⟩ := read_sivc ht
      have a0 := hat 0 (by omega)
      have a1 := hat 1 (by omega)
      have a2 := hat 2 (by omega)
      rw [add_add] at a0 a1 a2
      rw [Nat.add_zero] at a0
      exact ⟨x, a0, a1, a2⟩)
    refine ⟨some a, cap, L, by rw [hll], fun i x hxi => ?_, by omega, by omega, fun h => by simp at h⟩
    obtain ⟨h0, h1, h2⟩ := hls i x hxi
    obtain ⟨b0, -, -⟩ := hls 0 _ (List.getElem?_eq_getElem (Nat.lt_of_le_of_lt (Nat.zero_le i) (List.getElem?_eq_some_iff.1 hxi).1))
    obtain ⟨b, o, hab⟩ := sspot_of (by simpa [Addr.add] using b0)
    subst hab
    rw [Lib.add_plain] at h0 h1 h2
    exact ⟨b, o, rfl, h0, by rw [Nat.add_assoc]; exact h1, by rw [Nat.add_assoc]; exact h2⟩
end
end Go.Proofs.Ytomcfjckhajhmaa
