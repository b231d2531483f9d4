/- Instructions and methods that came in. -/
import Derived.Test.YtbmfmklalonhiaaGreatDoorMMade
import Derived.Test.YtbmfmklalonhiaaGreatDoorMCodeB
import Derived.Lib.SmallJoins
namespace Go.Proofs.YtbmfmklalonhiaaGreatDoor
open Go.ChangeShapes Go.WideShapes Go.RowKit Go.Deep
section
variable {H : Type} {enc : TypeId × Value → H} {w : World} {base : Nat} {spare : Nat → Bool} {held : Bool}

theorem arr3 {cs : Array Value} {a b c : Value} (h : cs.toList.length = 3) (h0 : cs.toList[0]? = some a) (h1 : cs.toList[1]? = some b) (h2 : cs.toList[2]? = some c) : cs = #[a, b, c] := by
  obtain ⟨l⟩ := cs
  match l, h with
  | [x, y, z], _ => simp at h0 h1 h2; rw [h0, h1, h2]
theorem arr6 {cs : Array Value} {a b c d e f : Value} (h : cs.toList.length = 6) (h0 : cs.toList[0]? = some a) (h1 : cs.toList[1]? = some b) (h2 : cs.toList[2]? = some c) (h3 : cs.toList[3]? = some d) (h4 : cs.toList[4]? = some e) (h5 : cs.toList[5]? = some f) : cs = #[a, b, c, d, e, f] := by
  obtain ⟨l⟩ := cs
  match l, h with
  | [x, y, z, u, v, t], _ => simp at h0 h1 h2 h3 h4 h5; rw [h0, h1, h2, h3, h4, h5]
set_option maxRecDepth 100000 in
theorem read_instr {r : Reach} {b0 : Nat} {v : Value} {d : DataW H} {p : List MemPlace} (hv : Value.okWide Tryz.prog w r b0 72 v) (h : DataW.Trod enc Tryz.prog w base spare held 72 v d p) : ∃ i : Ins, v = i.v := by
  obtain ⟨cs, rfl, hsz⟩ := okWide_struct Tryz.underlying72 hv
  obtain ⟨fuel, hf⟩ := h
  obtain ⟨ys, k, -, hlen, hF⟩ := fields_of Tryz.underlying72 (by kernel_rfl) (by kernel_rfl) (show DataW.trod enc Tryz.prog w base spare held fuel 72 cs.toList = some (d, p) from hf)
  obtain ⟨v0, y0, c0, -, t0⟩ := hF 0 _ rfl
  obtain ⟨v1, y1, c1, -, t1⟩ := hF 1 _ rfl
  obtain ⟨v2, y2, c2, -, t2⟩ := hF 2 _ rfl
  obtain ⟨z0, e0, -, -⟩ := DataW.trod_int Tryz.underlying3 t0
  obtain ⟨z1, e1, -, -⟩ := DataW.trod_int Tryz.underlying3 t1
  obtain ⟨z2, e2, -, -⟩ := DataW.trod_int Tryz.underlying3 t2
  simp only [List.cons.injEq, and_true] at e0 e1 e2
  subst e0
  subst e1
  subst e2
  exact ⟨⟨z0, z1, z2⟩, by rw [arr3 hlen c0 c1 c2]; rfl⟩
theorem cells_Instr : Tryz.prog.cellsOf 72 = 3 := by kernel_rfl
theorem bytes_Instr : Tryz.prog.bytesOf 72 = 24 := by kernel_rfl
theorem flatI_get {l : List Ins} {j : Nat} {u : Value} (h : (flatI l)[j]? = some u) : ∃ i o, l[i]? = some o ∧ ((j = i * 3 ∧ u = .int .i64 o.op) ∨ (j = i * 3 + 1 ∧ u = .int .i64 o.a) ∨ (j = i * 3 + 2 ∧ u = .int .i64 o.b)) := by
  have hj := (List.getElem?_eq_some_iff.1 h).1
  have hfl : (flatI l).length = l.length * 3 := by
    clear h hj
    induction l with
    | nil => rfl
    | cons a l ih => rw [show flatI (a :: l) = .int .i64 a.op :: .int .i64 a.a :: .int .i64 a.b :: flatI l from rfl]; simp [ih]; omega
  rw [hfl] at hj
  have hi : j / 3 < l.length := by omega
  have hio := List.getElem?_eq_getElem hi
  obtain ⟨f0, f1, f2⟩ := flatI_at hio
  refine ⟨j / 3, l[j / 3], hio, ?_⟩
  have hr : j = j / 3 * 3 + j % 3 := by omega
  have h4 : j % 3 = 0 ∨ j % 3 = 1 ∨ j % 3 = 2 := by omega
  rcases h4 with h4 | h4 | h4
  · rw [h4] at hr; rw [hr, Nat.add_zero] at h; left; exact ⟨by omega, Option.some.inj (h.symm.trans f0)⟩
  · rw [h4] at hr; rw [hr] at h; right; left; exact ⟨by omega, Option.some.inj (h.symm.trans f1)⟩
  · rw [h4] at hr; rw [hr] at h; right; right; exact ⟨by omega, Option.some.inj (h.symm.trans f2)⟩
def Ins3 (w : World) (a : Addr) (i : Nat) (o : Ins) : Prop := w.cell? (a.add (i * 3)) = some (.int .i64 o.op) ∧ w.cell? (a.add (i * 3 + 1)) = some (.int .i64 o.a) ∧ w.cell? (a.add (i * 3 + 2)) = some (.int .i64 o.b)
set_option maxRecDepth 100000 in
theorem read_instrs {n : Nat} {v : Value} {y : DataW H × List MemPlace} (h : DataW.trod enc Tryz.prog w base spare held n 23 [v] = some y) (hl : Light 23 y.1) :
    ∃ lo lc is, v = .slice lo is.length lc ∧ RowAt w lo (flatI is) ∧ is.length ≤ 5864062014805 ∧ (is ≠ [] → ∀ a, lo = some a → a.block < w.heap.size) := by
  rcases open_slice Tryz.underlying23 h with ⟨hcs, hx⟩ | ⟨a, len, cap, m, k, D, Pl, hcs, -, hlc, -, hm, hx, hi⟩
  · simp only [List.cons.injEq, and_true] at hcs
    subst hcs
    exact ⟨none, 0, [], rfl, fun i x hx => by simp [flatI] at hx, by simp, fun h => absurd rfl h⟩
  · simp only [List.cons.injEq, and_true] at hcs
    subst hcs
    have hml : len ≤ m := by rw [hm]; split <;> omega
    rw [hx] at hl
    obtain ⟨hb, -⟩ := hl.slice Tryz.underlying23
    rw [bytes_Instr] at hb
    simp only [List.length_map, List.length_range] at hb
    have hlen : len ≤ 5864062014805 := by unfold reachBytes at hb; omega
    obtain ⟨its, hil, hits⟩ := list_of (p := Ins3 w a) len (fun i hil => by
      obtain ⟨cs', hc, ht⟩ := hi i (by omega)
      rw [cells_Instr] at hc
      obtain ⟨-, hcl, hat⟩ := World.cells?_some hc
      obtain ⟨ys, k', -, hsz, hf⟩ := fields_of Tryz.underlying72 (by kernel_rfl) (by kernel_rfl) ht
      obtain ⟨v0, y0, c0, -, t0⟩ := hf 0 _ rfl
      obtain ⟨v1, y1, c1, -, t1⟩ := hf 1 _ rfl
      obtain ⟨v2, y2, c2, -, t2⟩ := hf 2 _ rfl
      obtain ⟨z0, e0, -, -⟩ := DataW.trod_int Tryz.underlying3 t0
      obtain ⟨z1, e1, -, -⟩ := DataW.trod_int Tryz.underlying3 t1
      obtain ⟨z2, e2, -, -⟩ := DataW.trod_int Tryz.underlying3 t2
      simp only [List.cons.injEq, and_true] at e0 e1 e2
      subst e0
      subst e1
      subst e2
      have a0 := (hat 0 (by omega)).trans c0
      have a1 := (hat 1 (by omega)).trans c1
      have a2 := (hat 2 (by omega)).trans c2
      rw [add_add] at a0 a1 a2
      exact ⟨⟨z0, z1, z2⟩, by simpa using a0, a1, a2⟩)
    refine ⟨some a, cap, its, by rw [hil], fun j u hu => ?_, by omega, fun hne a' ha' => ?_⟩
    · obtain ⟨i, o, hio, hc⟩ := flatI_get hu
      have ho := hits i o hio
      have h0 : 0 < its.length := Nat.lt_of_le_of_lt (Nat.zero_le _) (List.getElem?_eq_some_iff.1 hio).1
      have hz := (hits 0 _ (List.getElem?_eq_getElem h0)).1
      obtain ⟨b, oo, hab⟩ := spot_of (by simpa [Addr.add] using hz)
      subst hab
      refine ⟨b, oo, rfl, ?_⟩
      rw [← Lib.add_plain]
      rcases hc with ⟨rfl, rfl⟩ | ⟨rfl, rfl⟩ | ⟨rfl, rfl⟩
      · exact ho.1
      · exact ho.2.1
      · exact ho.2.2
    · cases ha'
      have hz := (hits 0 _ (List.getElem?_eq_getElem (List.length_pos_iff.2 hne))).1
      exact World.block_lt_of_cell? w _ (by simpa [Addr.add] using hz)
/-- what is known of a method that came in -/
structure MIn (w : World) (m : Mth) (la : Option Addr) (lc : Nat) (ca : Option Addr) : Prop where
  at_ : MAt w m la lc ca
  wb : ∀ x ∈ m.lits, WB x
  ll : m.lits.length ≤ 17592186043904
  cl : m.code.length ≤ 5864062014805
  args : -9223372036854775808 ≤ m.args ∧ m.args ≤ 9223372036854775807
  temps : -9223372036854775808 ≤ m.temps ∧ m.temps ≤ 9223372036854775807
  stack : -9223372036854775808 ≤ m.stack ∧ m.stack ≤ 9223372036854775807
  prim : -9223372036854775808 ≤ m.prim ∧ m.prim ≤ 9223372036854775807
  lb : m.lits ≠ [] → ∀ a, la = some a → a.block < w.heap.size
  cb : m.code ≠ [] → ∀ a, ca = some a → a.block < w.heap.size
set_option maxRecDepth 100000 in
theorem read_method {r : Reach} {b0 : Nat} {v : Value} {d : DataW H} {p : List MemPlace} (hv : Value.okWide Tryz.prog w r b0 25 v) (h : DataW.Trod enc Tryz.prog w base spare held 25 v d p) (hl : Light 25 d) : ∃ m la lc ca cc, v = Mth.v m la lc ca cc ∧ MIn w m la lc ca := by
  obtain ⟨cs, rfl, hsz⟩ := okWide_struct Tryz.underlying25 hv
  obtain ⟨fuel, hf⟩ := h
  obtain ⟨ys, k, hx, hlen, hF⟩ := fields_of Tryz.underlying25 (by kernel_rfl) (by kernel_rfl) (show DataW.trod enc Tryz.prog w base spare held fuel 25 cs.toList = some (d, p) from hf)
  simp only at hx
  rw [hx] at hl
  obtain ⟨v0, y0, c0, -, t0⟩ := hF 0 _ rfl
  obtain ⟨v1, y1, c1, -, t1⟩ := hF 1 _ rfl
  obtain ⟨v2, y2, c2, -, t2⟩ := hF 2 _ rfl
  obtain ⟨v3, y3, c3, -, t3⟩ := hF 3 _ rfl
  obtain ⟨v4, y4, c4, hy4, t4⟩ := hF 4 _ rfl
  obtain ⟨v5, y5, c5, hy5, t5⟩ := hF 5 _ rfl
  have l4 := hl.field Tryz.underlying25 (j := 4) rfl hy4
  have l5 := hl.field Tryz.underlying25 (j := 5) rfl hy5
  obtain ⟨z0, e0, -, g0⟩ := DataW.trod_int Tryz.underlying3 t0
  obtain ⟨z1, e1, -, g1⟩ := DataW.trod_int Tryz.underlying3 t1
  obtain ⟨z2, e2, -, g2⟩ := DataW.trod_int Tryz.underlying3 t2
  obtain ⟨z3, e3, -, g3⟩ := DataW.trod_int Tryz.underlying3 t3
  obtain ⟨la, lc, xs, rfl, hwd, hwb, hxl, hnil, hpos⟩ := read_words2 t4 l4
  obtain ⟨ca, cc, is, rfl, hro, hil, hcb⟩ := read_instrs t5 l5
  simp only [List.cons.injEq, and_true] at e0 e1 e2 e3
  subst e0
  subst e1
  subst e2
  subst e3
  refine ⟨⟨z0, z1, z2, z3, xs, is⟩, la, lc, ca, cc, by rw [arr6 hlen c0 c1 c2 c3 c4 c5]; rfl, ⟨hwd, fun h => hnil h, hro⟩, hwb, hxl, hil, wf_i64' g0, wf_i64' g1, wf_i64' g2, wf_i64' g3, fun hne a ha => ?_, hcb⟩
  obtain ⟨b, o, e, hbl⟩ := hpos (List.length_pos_iff.2 hne)
  rw [e] at ha
  cases ha
  exact hbl
end
end Go.Proofs.YtbmfmklalonhiaaGreatDoor
