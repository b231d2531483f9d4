/- Lists of objects in rows (of package heap's and of the document's); Theirs and Mine turn one into the other; the document's Objects; chosen; SameWords. Mine; the document's Objects; chosen; SameWords. SameObjects; copied. copied; the document's Dump. The document's Dump. needed; chosen. The document's hashed. checkHashes: its set of hashes. -/
import Derived.Test.YtbiccjkgobehoaaDoorMRefs
import Derived.Test.YtbiccjkgobehoaaDoorMRanges
import Derived.Deep.RegionHeld3
import Derived.Deep.AppendLies
import Derived.StillTailTactics
import Derived.Maps.OwnSet
import Derived.WalkArith
namespace Go.Proofs.YtbiccjkgobehoaaDoor
open Go.RowKit

/-- an object in a list: class, hash, the slice of its fields, the fields -/
structure It where
  cls : Int
  hash : Int
  fv : Value
  fs : List Int
/-- the cells of package heap's objects -/
def flat3 (l : List It) : List Value := l.flatMap fun o => [.int .u64 o.cls, .int .i64 o.hash, o.fv]
/-- the cells of the document's objects, at places -/
def flat4 (l : List (It × Int)) : List Value := l.flatMap fun o => [.int .u64 o.1.cls, .int .i64 o.1.hash, o.1.fv, .int .i64 o.2]
def noPlace (l : List It) : List (It × Int) := l.map fun o => (o, 0)
theorem flat3_len (l : List It) : (flat3 l).length = l.length * 3 := by
  induction l with
  | nil => rfl
  | cons a l ih => simp only [flat3, List.flatMap_cons, List.length_append, List.length_cons, List.length_nil] at ih ⊢; omega
theorem flat4_len (l : List (It × Int)) : (flat4 l).length = l.length * 4 := by
  induction l with
  | nil => rfl
  | cons a l ih => simp only [flat4, List.flatMap_cons, List.length_append, List.length_cons, List.length_nil] at ih ⊢; omega
theorem flat3_snoc (l : List It) (o : It) : flat3 (l ++ [o]) = flat3 l ++ [.int .u64 o.cls, .int .i64 o.hash, o.fv] := by simp [flat3]
theorem flat4_snoc (l : List (It × Int)) (o : It × Int) : flat4 (l ++ [o]) = flat4 l ++ [.int .u64 o.1.cls, .int .i64 o.1.hash, o.1.fv, .int .i64 o.2] := by simp [flat4]
theorem noPlace_snoc (l : List It) (o : It) : noPlace (l ++ [o]) = noPlace l ++ [(o, 0)] := by simp [noPlace]
theorem flat3_at {l : List It} {i : Nat} {o : It} (h : l[i]? = some o) : (flat3 l)[i * 3]? = some (.int .u64 o.cls) ∧ (flat3 l)[i * 3 + 1]? = some (.int .i64 o.hash) ∧ (flat3 l)[i * 3 + 2]? = some o.fv := by
  induction l generalizing i with
  | nil => cases h
  | cons a l ih =>
    have e : flat3 (a :: l) = [Value.int .u64 a.cls, .int .i64 a.hash, a.fv] ++ flat3 l := by simp [flat3]
    cases i with
    | zero => cases h; rw [e]; exact ⟨rfl, rfl, rfl⟩
    | succ i =>
      have := ih (i := i) (by simpa using h)
      rw [e]
      rw [List.getElem?_append_right (by simp; omega), List.getElem?_append_right (by simp; omega), List.getElem?_append_right (by simp; omega)]
      simp only [List.length_cons, List.length_nil]
      rw [show (i + 1) * 3 - (0 + 1 + 1 + 1) = i * 3 by omega, show (i + 1) * 3 + 1 - (0 + 1 + 1 + 1) = i * 3 + 1 by omega, show (i + 1) * 3 + 2 - (0 + 1 + 1 + 1) = i * 3 + 2 by omega]
      exact this
theorem flat4_at {l : List (It × Int)} {i : Nat} {o : It × Int} (h : l[i]? = some o) : (flat4 l)[i * 4]? = some (.int .u64 o.1.cls) ∧ (flat4 l)[i * 4 + 1]? = some (.int .i64 o.1.hash) ∧ (flat4 l)[i * 4 + 2]? = some o.1.fv ∧ (flat4 l)[i * 4 + 3]? = some (.int .i64 o.2) := by
  induction l generalizing i with
  | nil => cases h
  | cons a l ih =>
    have e : flat4 (a :: l) = [Value.int .u64 a.1.cls, .int .i64 a.1.hash, a.1.fv, .int .i64 a.2] ++ flat4 l := by simp [flat4]
    cases i with
    | zero => cases h; rw [e]; exact ⟨rfl, rfl, rfl, rfl⟩
    | succ i =>
      have := ih (i := i) (by simpa using h)
      rw [e]
      rw [List.getElem?_append_right (by simp; omega), List.getElem?_append_right (by simp; omega), List.getElem?_append_right (by simp; omega), List.getElem?_append_right (by simp; omega)]
      simp only [List.length_cons, List.length_nil]
      rw [show (i + 1) * 4 - (0 + 1 + 1 + 1 + 1) = i * 4 by omega, show (i + 1) * 4 + 1 - (0 + 1 + 1 + 1 + 1) = i * 4 + 1 by omega, show (i + 1) * 4 + 2 - (0 + 1 + 1 + 1 + 1) = i * 4 + 2 by omega, show (i + 1) * 4 + 3 - (0 + 1 + 1 + 1 + 1) = i * 4 + 3 by omega]
      exact this
/-- these values lie from an address on -/
def RowAt (w : World) (ao : Option Addr) (xs : List Value) : Prop := ∀ j u, xs[j]? = some u → ∃ g off, ao = some ⟨g, off, none⟩ ∧ w.cell? ⟨g, off + j, none⟩ = some u
theorem RowAt.fr {S : List Nat} {w w' : World} {ao : Option Addr} {xs : List Value} (h : RowAt w ao xs) (hF : Fr S w w') (hS : ∀ a, ao = some a → a.block ∉ S) : RowAt w' ao xs := by
  intro j u hu
  obtain ⟨g, off, rfl, hc⟩ := h j u hu
  exact ⟨g, off, rfl, hF.cell (hS ⟨g, off, none⟩ rfl) hc⟩
/-- a row in growth, made since w -/
structure Grows (w : World) (e : TypeId) (size k : Nat) (xs : List Value) (v : Value) (W : World) : Prop where
  row : W.ownsRow 0 e size v k xs
  fr : Fr [] w W
  new : ∀ b, v.ownBlock = some b → w.heap.size ≤ b
theorem Grows.step {w W W1 w1 : World} {e : TypeId} {size k j : Nat} {xs news : List Value} {v v' : Value} (h : Grows w e size k xs v W) (hW : Fr [] W W1) (ho : w1.ownsRow 0 e size v' (k + j) (xs ++ news)) (hg : W1.grownBy w1 v.ownBlock) (hf : v'.ownBlock = v.ownBlock ∨ v'.ownBlock = some W1.heap.size) : Grows w e size (k + j) (xs ++ news) v' w1 := by
  refine ⟨ho, (h.fr.trans hW).grown hg (fun b hb hl => by have := h.new b hb; omega), fun b hb => ?_⟩
  rcases hf with hf | hf
  · exact h.new b (hf ▸ hb)
  · have e := hf.symm.trans hb
    cases e
    exact Nat.le_trans h.fr.size hW.size
theorem row_shape' {w : World} {b size : Nat} {e : TypeId} {v : Value} {n : Nat} {xs : List Value} (h : w.ownsRow b e size v n xs) : ∃ ao cap, v = .slice ao n cap := by
  rcases h.2 with ⟨rfl, rfl⟩ | ⟨g, cap, cur, rfl, _⟩
  · exact ⟨_, _, rfl⟩
  · exact ⟨_, _, rfl⟩
theorem infoHO : (Tryd.prog.info? 34).map (fun i => (i.zero, i.size, i.bytes)) = some (some (.agg #[.int .u64 0, .int .i64 0, .slice none 0 0]), 3, 40) := by kernel_rfl

end Go.Proofs.YtbiccjkgobehoaaDoor
namespace Go.Proofs.YtbiccjkgobehoaaDoor
open Go.RowKit

/-- the references of the document's objects -/
def refsR (l : List RO) : List Value := l.map fun o => Value.int .u64 (2 * (o.pos : Int))
end Go.Proofs.YtbiccjkgobehoaaDoor
namespace Go.Proofs.YtbiccjkgobehoaaDoor
open Go.RowKit

/-- what two objects share when they are the same -/
def It.key (o : It) : Int × Int × List Int := (o.cls, o.hash, o.fs)
/-- the fields of an object in a list lie where its slice says -/
def ItOk (w : World) (o : It) : Prop := ∃ fa fc, o.fv = .slice fa o.fs.length fc ∧ WordsAt w fa o.fs ∧ o.fs.length ≤ 17592186044416
theorem WordsAt.drewN {w : World} {ao : Option Addr} {xs : List Int} (h : WordsAt w ao xs) (n : Nat) : WordsAt (w.drewN n) ao xs := h.fr ((Fr.refl [] w).drewN n) (fun _ _ => by simp)
end Go.Proofs.YtbiccjkgobehoaaDoor
namespace Go.Proofs.YtbiccjkgobehoaaDoor
open Go.RowKit

end Go.Proofs.YtbiccjkgobehoaaDoor
namespace Go.Proofs.YtbiccjkgobehoaaDoor
open Go.RowKit

/-- an object in a list whose fields are a row of their own -/
def ItOwn (w : World) (o : It) : Prop := w.ownsRow 0 31 1 o.fv o.fs.length (o.fs.map (Value.int .u64)) ∧ o.fs.length ≤ 65536
theorem ItOwn.ok {w : World} {o : It} (h : ItOwn w o) : ItOk w o := by
  obtain ⟨fa, fc, hv⟩ := row_shape h.1
  refine ⟨fa, fc, hv, fun i x hx => ?_, by have := h.2; omega⟩
  have hi : i < o.fs.length := (List.getElem?_eq_some_iff.1 hx).1
  obtain ⟨g, cap, e, hc, -, -⟩ := row_at h.1 hi
  rw [hv] at e
  cases e
  rw [List.getElem?_map, hx] at hc
  exact ⟨g, 0, rfl, by simpa using hc⟩
theorem ItOwn.fr {S : List Nat} {w w' : World} {o : It} (h : ItOwn w o) (hF : Fr S w w') (hS : ∀ k, o.fv.ownBlock = some k → k ∉ S) : ItOwn w' o := ⟨hF.row h.1 hS, h.2⟩
/-- behind an append to a row of another type -/
theorem ItOwn.grown {w w' : World} {o : It} {e : TypeId} {size n : Nat} {v : Value} {xs : List Value} (h : ItOwn w o) (hr : w.ownsRow 0 e size v n xs) (hg : w.grownBy w' v.ownBlock) (he : 31 ≠ e) : ItOwn w' o := by
  refine h.fr (S := v.ownBlock.toList) ((Fr.refl _ _).grown hg (fun g hgv _ => by simp [hgv])) (fun k hk hm => ?_)
  obtain ⟨c, hc⟩ := row_heap h.1 hk
  obtain ⟨c', hc'⟩ := row_cells hr (g := k) (by simpa using hm)
  exact tag_ne hc hc' he rfl
/-- the abstract objects of a list, with their places -/
def keysR (l : List RO) : List ((Int × Int × List Int) × Int) := l.map fun o => ((o.cls, o.hash, o.fs), (o.pos : Int))
def keys4 (l : List (It × Int)) : List ((Int × Int × List Int) × Int) := l.map fun o => (o.1.key, o.2)
end Go.Proofs.YtbiccjkgobehoaaDoor
namespace Go.Proofs.YtbiccjkgobehoaaDoor
open Go.RowKit

/-- how many words the objects of a list take -/
def wordsOf : List It → Nat
  | [] => 0
  | o :: l => 3 + o.fs.length + wordsOf l
theorem wordsOf_snoc (l : List It) (o : It) : wordsOf (l ++ [o]) = wordsOf l + (3 + o.fs.length) := by
  induction l with
  | nil => simp [wordsOf]
  | cons a l ih => simp only [List.cons_append, wordsOf, ih]; omega
theorem wordsOf_le {l : List It} (h : ∀ o ∈ l, o.fs.length ≤ 512) : wordsOf l ≤ l.length * 515 := by
  induction l with
  | nil => simp [wordsOf]
  | cons a l ih =>
    have h1 := h a (by simp)
    have h2 := ih (fun o ho => h o (by simp [ho]))
    simp only [wordsOf, List.length_cons]
    omega
set_option maxRecDepth 100000 in
set_option maxHeartbeats 2000000 in
theorem needed_ok {w : World} {ao : Option Addr} {cap : Nat} (its : List It) (hr : RowAt w ao (flat3 its)) (hfv : ∀ o ∈ its, ∃ fa fc, o.fv = .slice fa o.fs.length fc) (hs : ∀ o ∈ its, o.fs.length ≤ 512) (hn : its.length ≤ 2932031007402) :
    Calls Tryd.prog 44 #[.slice ao its.length cap] w (Still (.tuple #[.int .i64 (1 + wordsOf its : Nat), .nilIface]) w) := by
  have HR := Lib.hid hr
  have HV := Lib.hid hfv
  have HS := Lib.hid hs
  obtain ⟨n, hn'⟩ : ∃ n, n = its.length := ⟨_, rfl⟩
  rw [← hn'] at hn ⊢
  have HN := Lib.hid hn'
  clear hr hfv hn' hs
  go_enter Tryd.func44, Tryd.ntmps44
  go_wp2
  go_loopw [4, 6, 9] (fun u _ i wr => ∃ (k s : Nat), k ≤ n ∧ i = .int .i64 k ∧ u = .int .i64 (1 + s : Nat) ∧ Hid (s = wordsOf (its.take k)) ∧ Hid (Fr [] w wr)) (fun _ _ i _ => n - (intOf i).toNat)
  case atStart => exact ⟨0, 0, Nat.zero_le _, rfl, rfl, rfl, Fr.refl _ _⟩
  case round =>
    obtain ⟨k, s, hk, rfl, rfl, hsm, hF⟩ := hrel
    by_cases hlt : k < n
    · have hkl : k < its.length := by rw [← HN.out]; exact hlt
      obtain ⟨o, ho⟩ : ∃ o, o = its[k] := ⟨_, rfl⟩
      have hik : its[k]? = some o := by rw [List.getElem?_eq_getElem hkl, ho]
      obtain ⟨f1, f2, f3⟩ := flat3_at hik
      obtain ⟨g, off, rfl, c1⟩ := HR.out _ _ f1
      obtain ⟨_, _, e2, c2⟩ := HR.out _ _ f2
      cases e2
      obtain ⟨_, _, e3, c3⟩ := HR.out _ _ f3
      cases e3
      obtain ⟨fa, fc, hov⟩ := HV.out o (List.mem_of_getElem? hik)
      rw [hov] at c3
      have d1 := hF.out.cell (by simp) c1
      have d2 := hF.out.cell (by simp) c2
      have d3 := hF.out.cell (by simp) c3
      rw [← Nat.add_assoc] at d2 d3
      have hz := HS.out o (List.mem_of_getElem? hik)
      have hT : Hid (wordsOf (its.take (k + 1)) = s + (3 + o.fs.length)) := by rw [List.take_add_one, hik, hsm.out]; exact wordsOf_snoc _ _
      have hsb : s ≤ 1509995968812030 := by
        have := wordsOf_le (l := its.take k) (fun p hp => HS.out p (List.mem_of_mem_take hp))
        rw [← hsm.out, List.length_take] at this
        omega
      clear ho hik f1 f2 f3 c1 c2 c3 hov hkl
      generalize o.fs.length = z at *
      go_wp2
      go_roundw
      case rel => exact ⟨k + 1, s + (3 + z), by omega, by go_num, by go_num, hT.out.symm, hF.out.alloc _⟩
      case measure => simp [intOf]; omega
    · have hke : k = n := by omega
      have HW : Hid (s = wordsOf its) := by have := hsm.out; rw [hke, HN.out, List.take_length] at this; exact this
      go_wp2
      go_ret2
      exact ⟨tup2 (vi (by rw [HW.out])) rfl, hF.out⟩
set_option maxRecDepth 100000 in
set_option maxHeartbeats 2000000 in
theorem needed_bad {w : World} {ao : Option Addr} {cap : Nat} (its : List It) (hr : RowAt w ao (flat3 its)) (hfv : ∀ o ∈ its, ∃ fa fc, o.fv = .slice fa o.fs.length fc) (hg : Glob w) (hz : ∀ o ∈ its, o.fs.length ≤ 17592186044416) (hs : ∃ o ∈ its, 512 < o.fs.length) (hn : its.length ≤ 2932031007402) :
    Calls Tryd.prog 44 #[.slice ao its.length cap] w (Fails2 1 w) := by
  have HR := Lib.hid hr
  have HV := Lib.hid hfv
  have HS := Lib.hid hs
  obtain ⟨n, hn'⟩ : ∃ n, n = its.length := ⟨_, rfl⟩
  rw [← hn'] at hn ⊢
  have HN := Lib.hid hn'
  have HG := Lib.hid hg
  have HZ := Lib.hid hz
  clear hr hfv hn' hs hg hz
  go_enter Tryd.func44, Tryd.ntmps44
  go_wp2
  go_loopw [4, 6, 9] (fun u _ i wr => ∃ (k s : Nat), k ≤ n ∧ i = .int .i64 k ∧ u = .int .i64 (1 + s : Nat) ∧ Hid (s = wordsOf (its.take k) ∧ ∀ o ∈ its.take k, o.fs.length ≤ 512) ∧ Hid (Fr [] w wr)) (fun _ _ i _ => n - (intOf i).toNat)
  case atStart => exact ⟨0, 0, Nat.zero_le _, rfl, rfl, ⟨rfl, fun _ h => by simp at h⟩, Fr.refl _ _⟩
  case round =>
    obtain ⟨k, s, hk, rfl, rfl, hsm, hF⟩ := hrel
    by_cases hlt : k < n
    · have hkl : k < its.length := by rw [← HN.out]; exact hlt
      obtain ⟨o, ho⟩ : ∃ o, o = its[k] := ⟨_, rfl⟩
      have hik : its[k]? = some o := by rw [List.getElem?_eq_getElem hkl, ho]
      obtain ⟨f1, f2, f3⟩ := flat3_at hik
      obtain ⟨g, off, rfl, c1⟩ := HR.out _ _ f1
      obtain ⟨_, _, e2, c2⟩ := HR.out _ _ f2
      cases e2
      obtain ⟨_, _, e3, c3⟩ := HR.out _ _ f3
      cases e3
      obtain ⟨fa, fc, hov⟩ := HV.out o (List.mem_of_getElem? hik)
      rw [hov] at c3
      have d1 := hF.out.cell (by simp) c1
      have d2 := hF.out.cell (by simp) c2
      have d3 := hF.out.cell (by simp) c3
      rw [← Nat.add_assoc] at d2 d3
      have hzz := HZ.out o (List.mem_of_getElem? hik)
      have hA : Hid (o.fs.length ≤ 512 → ∀ p ∈ its.take (k + 1), p.fs.length ≤ 512) := by
        refine Lib.hid fun hz p hp => ?_
        rw [List.take_add_one, hik] at hp
        rcases List.mem_append.1 hp with hp | hp
        · exact hsm.out.2 p hp
        · simp at hp; subst hp; exact hz
      have hT : Hid (wordsOf (its.take (k + 1)) = s + (3 + o.fs.length)) := by rw [List.take_add_one, hik, hsm.out.1]; exact wordsOf_snoc _ _
      have hsb : s ≤ 1509995968812030 := by
        have := wordsOf_le (l := its.take k) hsm.out.2
        rw [← hsm.out.1, List.length_take] at this
        omega
      clear ho hik f1 f2 f3 c1 c2 c3 hov hkl
      have hi := fun st hst => invalid_fails st hst o.fs.length (wr.alloc (.cells #[.int .u64 o.cls, .int .i64 o.hash, .slice fa o.fs.length fc] 34)) (HG.out.fr (hF.out.alloc _)) (by omega) (by omega)
      generalize o.fs.length = z at *
      by_cases hz5 : z ≤ 512
      · have hA' := Lib.hid (hA.out hz5)
        clear hi
        go_wp2
        go_roundw
        case rel => exact ⟨k + 1, s + (3 + z), by omega, by go_num, by go_num, ⟨hT.out.symm, hA'.out⟩, hF.out.alloc _⟩
        case measure => simp [intOf]; omega
      · have hz6 : (512 : Int) < (z : Int) := by omega
        clear hA hT
        go_wp2_with (first | (go_at_call 43; refine (hi _ (by decide)).mono ?_; rintro e w' ⟨st, rfl, hF'⟩))
        go_ret2
        exact ⟨_, rfl, (hF.out.alloc _).trans hF'⟩
    · have hke : k = n := by omega
      obtain ⟨o, hom, hol⟩ := HS.out
      have := hsm.out.2 o (by rw [hke, HN.out, List.take_length]; exact hom)
      omega
/-- a word of a list, or the word itself -/
def chosenI (l : List Int) (x i : Int) : Int := if 0 < i ∧ l ≠ [] then l.getD (i.toNat % l.length) 0 else x
end Go.Proofs.YtbiccjkgobehoaaDoor
namespace Go.Proofs.YtbiccjkgobehoaaDoor
open Go.RowKit

/-- the hash at a place of a list may be -/
def okAt (l : List Int) (n : Int) (i : Nat) : Prop := ∀ x, l[i]? = some x → 0 ≤ x ∧ x ≤ n ∧ ∀ k, k < i → 0 < x → l[k]? ≠ some x
/-- the hashes of a list may be, if so many were given -/
def HashOk (l : List Int) (n : Int) : Prop := 0 ≤ n ∧ n < 1099511627776 ∧ ∀ i, okAt l n i
/-- Returned whether p holds, and only draws. -/
def Says (p : Prop) (w : World) (e : Ending) (w' : World) : Prop := ∃ b : Bool, e = .returned (.bool b) ∧ (b = true ↔ p) ∧ ∃ m, w' = w.drewN m
end Go.Proofs.YtbiccjkgobehoaaDoor
namespace Go.Proofs.YtbiccjkgobehoaaDoor
open Go.RowKit

theorem keyedInt : Maps.Keyed Tryd.prog 3 := Maps.int_keyed Tryd.underlying3
theorem zeroUnit (w : World) : (zeroValue 119).run Tryd.prog w = .ok (.agg #[]) w := by kernel_rfl
/-- the set holds the hashes of the first k objects -/
def Takes (L : List Int) (k : Nat) (b : Nat) (W : World) : Prop := ∃ D : DataW Unit, W.ownsMap Tryd.prog 3 unitElem b k D ∧ ∀ x : Int, x ≠ 0 → (Maps.has D (.int .i64 x) = true ↔ ∃ q, q < k ∧ L[q]? = some x)
def Checks (p : Prop) (w : World) (e : Ending) (w' : World) : Prop := (p ∧ Still .nilIface w e w') ∨ (¬ p ∧ Fails 1 w e w')
set_option maxRecDepth 100000 in
set_option maxHeartbeats 4000000 in
theorem checkHashes_checks {w : World} {ao : Option Addr} {cap : Nat} (its : List It) (hr : RowAt w ao (flat3 its)) (hfv : ∀ o ∈ its, ∃ fa m fc, o.fv = .slice fa m fc) (hl : its.length ≤ 2932031007402) (hh : ∀ o ∈ its, -9223372036854775808 ≤ o.hash ∧ o.hash ≤ 9223372036854775807) (n : Int) (n1 : -9223372036854775808 ≤ n) (n2 : n ≤ 9223372036854775807) (hg : Glob w) :
    Calls Tryd.prog 46 #[.slice ao its.length cap, .int .i64 n] w (Checks (HashOk (its.map fun o => o.hash) n) w) := by
  by_cases h1 : n < 0
  · have HNO : Hid (¬ HashOk (its.map fun o => o.hash) n) := fun h => by have := h.1; omega
    have hi := fun s hs => invalid_fails s hs n w hg n1 n2
    generalize its.length = N at *
    clear hr hg hfv hh
    go_enter Tryd.func46, Tryd.ntmps46
    go_wp2_with (first | (go_at_call 43; refine (hi _ (by decide)).mono ?_; rintro e w' ⟨st, rfl, hF'⟩))
    go_ret
    exact .inr ⟨HNO.out, _, rfl, hF'⟩
  by_cases h2 : 1099511627775 < n
  · have HNO : Hid (¬ HashOk (its.map fun o => o.hash) n) := fun h => by have := h.2.1; omega
    have hi := fun s hs => invalid_fails s hs n w hg n1 n2
    generalize its.length = N at *
    clear hr hg hfv hh
    go_enter Tryd.func46, Tryd.ntmps46
    go_wp2_with (first | (go_at_call 43; refine (hi _ (by decide)).mono ?_; rintro e w' ⟨st, rfl, hF'⟩))
    go_ret
    exact .inr ⟨HNO.out, _, rfl, hF'⟩
  obtain ⟨L, hL⟩ : ∃ L, L = its.map fun o => o.hash := ⟨_, rfl⟩
  rw [← hL]
  have HL := Lib.hid hL
  have HR := Lib.hid hr
  have HV := Lib.hid hfv
  have HB := Lib.hid hh
  have HG := Lib.hid hg
  obtain ⟨N, hN⟩ : ∃ N, N = its.length := ⟨_, rfl⟩
  rw [← hN] at hl ⊢
  have HN := Lib.hid hN
  have h1' : 0 ≤ n := by omega
  have h2' : n ≤ 1099511627775 := by omega
  have hmm := @run_makeMap Tryd.prog
  have HT0 : Hid (Takes L 0 w.heap.size (w.alloc (.map #[] 0))) := ⟨.map [], World.ownsMap_made _ _ _ _, fun x _ => by simp [Maps.has]⟩
  clear hL hr hN h1 h2 hfv hh hg
  go_enter Tryd.func46, Tryd.ntmps46
  go_wp2
  go_loopw [21] (fun i wr => ∃ k : Nat, k ≤ N ∧ i = .int .i64 k ∧ Hid (∀ q, q < k → okAt L n q) ∧ Hid (Takes L k w.heap.size wr) ∧ Hid (Fr [] w wr)) (fun i _ => N - (intOf i).toNat)
  case atStart => exact ⟨0, Nat.zero_le _, rfl, fun q h => by omega, HT0, (Fr.refl _ _).alloc _⟩
  case round =>
    obtain ⟨k, hk, rfl, hq, hT, hF⟩ := hrel
    by_cases hlt : k < N
    · have hkl : k < its.length := by rw [← HN.out]; exact hlt
      obtain ⟨o, ho⟩ : ∃ o, o = its[k] := ⟨_, rfl⟩
      have hik : its[k]? = some o := by rw [List.getElem?_eq_getElem hkl, ho]
      obtain ⟨f1, f2, f3⟩ := flat3_at hik
      obtain ⟨g, off, rfl, c1⟩ := HR.out _ _ f1
      obtain ⟨_, _, eg, c2⟩ := HR.out _ _ f2
      cases eg
      obtain ⟨_, _, eg, c3⟩ := HR.out _ _ f3
      cases eg
      obtain ⟨fa, fm, fc, hov⟩ := HV.out o (List.mem_of_getElem? hik)
      rw [hov] at c3
      have d1 := hF.out.cell (by simp) c1
      have d2 := hF.out.cell (by simp) c2
      have d3 := hF.out.cell (by simp) c3
      rw [← Nat.add_assoc] at d2 d3
      obtain ⟨b1, b2⟩ := HB.out o (List.mem_of_getElem? hik)
      have HLk : Hid (L[k]? = some o.hash) := by rw [HL.out, List.getElem?_map, hik]; exact rfl
      obtain ⟨D, hD, hDx⟩ := hT.out
      have HD := Lib.hid hD
      have HX := Lib.hid hDx
      clear ho hik f1 f2 f3 c1 c2 c3 hkl hov hD hDx hT
      generalize o.hash = x at *
      generalize o.cls = oc at *
      have hi := fun s hs => invalid_fails s hs x (wr.alloc (.cells #[.int .u64 oc, .int .i64 x, .slice fa fm fc] 34)) (HG.out.fr (hF.out.alloc _)) b1 b2
      by_cases hx0 : x = 0
      · have HK : Hid (∀ q, q < k + 1 → okAt L n q) := by
          intro q hq1
          rcases Nat.lt_or_ge q k with h | h
          · exact hq.out q h
          · obtain rfl : q = k := by omega
            intro z hz
            rw [HLk.out] at hz
            cases hz
            exact ⟨by omega, by omega, fun j _ hx3 => by omega⟩
        have HT2 : Hid (Takes L (k + 1) w.heap.size (wr.alloc (.cells #[.int .u64 oc, .int .i64 0, .slice fa fm fc] 34))) := by
          refine ⟨D, (HD.out.alloc _).mono (Nat.le_succ _), fun y hy => (HX.out y hy).trans ⟨fun ⟨q, h, e⟩ => ⟨q, by omega, e⟩, fun ⟨q, h, e⟩ => ?_⟩⟩
          rcases Nat.lt_or_ge q k with h' | h'
          · exact ⟨q, h', e⟩
          · obtain rfl : q = k := by omega
            rw [HLk.out] at e
            cases e
            exact absurd hx0 hy
        subst hx0
        clear hi
        go_wp2
        go_roundw
        case rel => exact ⟨k + 1, by omega, by go_num, HK, HT2, hF.out.alloc _⟩
        case measure => simp [intOf]; omega
      have hx0' : (x == 0) = false := by simpa using hx0
      by_cases hx1 : x < 0
      · have HNO : Hid (¬ HashOk L n) := fun h => by have := (h.2.2 k x HLk.out).1; omega
        go_wp2_with (first | (go_at_call 43; refine (hi _ (by decide)).mono ?_; rintro e w' ⟨st, rfl, hF'⟩))
        go_ret
        exact .inr ⟨HNO.out, _, rfl, (hF.out.alloc _).trans hF'⟩
      by_cases hx2 : n < x
      · have HNO : Hid (¬ HashOk L n) := fun h => by have := (h.2.2 k x HLk.out).2.1; omega
        go_wp2_with (first | (go_at_call 43; refine (hi _ (by decide)).mono ?_; rintro e w' ⟨st, rfl, hF'⟩))
        go_ret
        exact .inr ⟨HNO.out, _, rfl, (hF.out.alloc _).trans hF'⟩
      have hx1' : 1 ≤ x := by omega
      have hx2' : x ≤ n := by omega
      have hkey := Maps.keyOf_int_mk Tryd.underlying3 (WalkArith.wf_i64 (n := x) ⟨b1, b2⟩)
      have HF2 : Hid (Fr [] w ((wr.alloc (.cells #[.int .u64 oc, .int .i64 x, .slice fa fm fc] 34)).alloc (.cells #[] 119))) := (hF.out.alloc _).alloc _
      have hi2 := fun s hs => invalid_fails s hs x ((wr.alloc (.cells #[.int .u64 oc, .int .i64 x, .slice fa fm fc] 34)).alloc (.cells #[] 119)) (HG.out.fr HF2.out) b1 b2
      have HKL := Lib.hid (keyedInt.key hkey)
      clear hi
      cases hhas : Maps.has D (.int .i64 x)
      · have HK : Hid (∀ q, q < k + 1 → okAt L n q) := by
          intro q hq1
          rcases Nat.lt_or_ge q k with h | h
          · exact hq.out q h
          · obtain rfl : q = k := by omega
            intro z hz
            rw [HLk.out] at hz
            cases hz
            refine ⟨by omega, hx2', fun j hj _ he => ?_⟩
            have := (HX.out x hx0).2 ⟨j, hj, he⟩
            rw [hhas] at this
            cases this
        clear hi2
        go_wp2_with (first
          | (at_lookup; refine wpList_lookup_own_unit _ rfl _ _ 118 rfl 3 119 keyedInt Tryd.underlying118 (zeroUnit _) w.heap.size k D rfl (HD.out.alloc _) _ _ rfl hkey ?_; rw [hhas])
          | (at_mapUpdate; refine wpList_mapUpdate_own _ rfl _ _ _ 118 rfl 3 119 keyedInt Tryd.underlying118 unitElem w.heap.size k D rfl ((HD.out.alloc _).alloc _) (by unfold maxLen; omega) _ _ (.int .i64 x) rfl rfl hkey (.agg []) [] unitElem_mk ?_; intro w2 hown2 hgrow2; have HO2 := Lib.hid hown2; have HG2 := Lib.hid hgrow2; clear hown2 hgrow2))
        have HT2 : Hid (Takes L (k + 1) w.heap.size w2) := by
          refine ⟨_, HO2.out, fun y hy => ?_⟩
          by_cases hyx : y = x
          · subst hyx
            exact ⟨fun _ => ⟨k, by omega, HLk.out⟩, fun _ => Maps.has_put_same HD.out.isMap HKL.out _⟩
          · rw [Maps.has_put_other (fun e => hyx (by cases e; rfl))]
            refine (HX.out y hy).trans ⟨fun ⟨q, h, e⟩ => ⟨q, by omega, e⟩, fun ⟨q, h, e⟩ => ?_⟩
            rcases Nat.lt_or_ge q k with h' | h'
            · exact ⟨q, h', e⟩
            · obtain rfl : q = k := by omega
              rw [HLk.out] at e
              cases e
              exact absurd rfl hyx
        have HF3 : Hid (Fr [] w w2) := HF2.out.grown HG2.out (fun q hq1 hl1 => by cases hq1; omega)
        clear HO2 HG2
        go_wp2
        go_roundw
        case rel => exact ⟨k + 1, by omega, by go_num, HK, HT2, HF3⟩
        case measure => simp [intOf]; omega
      · have HNO : Hid (¬ HashOk L n) := fun h => by
          obtain ⟨q, hq1, hq2⟩ := (HX.out x hx0).1 hhas
          exact (h.2.2 k x HLk.out).2.2 q hq1 (by omega) hq2
        go_wp2_with (first
          | (at_lookup; refine wpList_lookup_own_unit _ rfl _ _ 118 rfl 3 119 keyedInt Tryd.underlying118 (zeroUnit _) w.heap.size k D rfl (HD.out.alloc _) _ _ rfl hkey ?_; rw [hhas])
          | (go_at_call 43; refine (hi2 _ (by decide)).mono ?_; rintro e w' ⟨st, rfl, hF'⟩))
        go_ret
        exact .inr ⟨HNO.out, _, rfl, HF2.out.trans hF'⟩
    · have HOK : Hid (HashOk L n) := by
        refine ⟨h1', by omega, fun i => ?_⟩
        rcases Nat.lt_or_ge i k with h | h
        · exact hq.out i h
        · intro z hz
          have := (List.getElem?_eq_some_iff.1 hz).1
          rw [HL.out, List.length_map, ← HN.out] at this
          omega
      go_wp2
      go_ret
      exact .inl ⟨HOK.out, rfl, hF.out⟩
end Go.Proofs.YtbiccjkgobehoaaDoor
