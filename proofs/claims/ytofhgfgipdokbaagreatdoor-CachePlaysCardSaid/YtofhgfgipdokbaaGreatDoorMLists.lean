/- Lists of objects in rows (of package heap's and of the document's); Theirs and Mine turn one into the other; the document's Objects; chosen; SameWords. Mine; the document's Objects; chosen; SameWords. SameObjects; copied. copied; the document's Dump. The document's Dump. needed; chosen. The document's hashed. checkHashes: its set of hashes. -/
import Derived.Test.YtofhgfgipdokbaaGreatDoorMRefs
import Derived.Test.YtofhgfgipdokbaaGreatDoorMRanges
import Derived.Deep.RegionHeld3
import Derived.Deep.AppendLies
import Derived.StillTailTactics
import Derived.Maps.OwnSet
import Derived.WalkArith
namespace Go.Proofs.YtofhgfgipdokbaaGreatDoor
open Go.RowKit

/-- an object in a list: class, hash, the slice of its fields, the fields -/
structure It where
  cls : Int
  hash : Int
  fv : Value
  fs : List Int
/-- the cells of package heap's objects -/
def flat3 (l : List It) : List Value := l.flatMap fun o => [.int .u64 o.cls, .int .i64 o.hash, o.fv]
/-- the cells of the document's objects, at places -/
def flat4 (l : List (It × Int)) : List Value := l.flatMap fun o => [.int .u64 o.1.cls, .int .i64 o.1.hash, o.1.fv, .int .i64 o.2]
def noPlace (l : List It) : List (It × Int) := l.map fun o => (o, 0)
theorem flat3_len (l : List It) : (flat3 l).length = l.length * 3 := by
  induction l with
  | nil => rfl
  | cons a l ih => simp only [flat3, List.flatMap_cons, List.length_append, List.length_cons, List.length_nil] at ih ⊢; omega
theorem flat4_len (l : List (It × Int)) : (flat4 l).length = l.length * 4 := by
  induction l with
  | nil => rfl
  | cons a l ih => simp only [flat4, List.flatMap_cons, List.length_append, List.length_cons, List.length_nil] at ih ⊢; omega
theorem flat3_snoc (l : List It) (o : It) : flat3 (l ++ [o]) = flat3 l ++ [.int .u64 o.cls, .int .i64 o.hash, o.fv] := by simp [flat3]
theorem flat4_snoc (l : List (It × Int)) (o : It × Int) : flat4 (l ++ [o]) = flat4 l ++ [.int .u64 o.1.cls, .int .i64 o.1.hash, o.1.fv, .int .i64 o.2] := by simp [flat4]
theorem noPlace_snoc (l : List It) (o : It) : noPlace (l ++ [o]) = noPlace l ++ [(o, 0)] := by simp [noPlace]
theorem flat3_at {l : List It} {i : Nat} {o : It} (h : l[i]? = some o) : (flat3 l)[i * 3]? = some (.int .u64 o.cls) ∧ (flat3 l)[i * 3 + 1]? = some (.int .i64 o.hash) ∧ (flat3 l)[i * 3 + 2]? = some o.fv := by
  induction l generalizing i with
  | nil => cases h
  | cons a l ih =>
    have e : flat3 (a :: l) = [Value.int .u64 a.cls, .int .i64 a.hash, a.fv] ++ flat3 l := by simp [flat3]
    cases i with
    | zero => cases h; rw [e]; exact ⟨rfl, rfl, rfl⟩
    | succ i =>
      have := ih (i := i) (by simpa using h)
      rw [e]
      rw [List.getElem?_append_right (by simp; omega), List.getElem?_append_right (by simp; omega), List.getElem?_append_right (by simp; omega)]
      simp only [List.length_cons, List.length_nil]
      rw [show (i + 1) * 3 - (0 + 1 + 1 + 1) = i * 3 by omega, show (i + 1) * 3 + 1 - (0 + 1 + 1 + 1) = i * 3 + 1 by omega, show (i + 1) * 3 + 2 - (0 + 1 + 1 + 1) = i * 3 + 2 by omega]
      exact this
theorem flat4_at {l : List (It × Int)} {i : Nat} {o : It × Int} (h : l[i]? = some o) : (flat4 l)[i * 4]? = some (.int .u64 o.1.cls) ∧ (flat4 l)[i * 4 + 1]? = some (.int .i64 o.1.hash) ∧ (flat4 l)[i * 4 + 2]? = some o.1.fv ∧ (flat4 l)[i * 4 + 3]? = some (.int .i64 o.2) := by
  induction l generalizing i with
  | nil => cases h
  | cons a l ih =>
    have e : flat4 (a :: l) = [Value.int .u64 a.1.cls, .int .i64 a.1.hash, a.1.fv, .int .i64 a.2] ++ flat4 l := by simp [flat4]
    cases i with
    | zero => cases h; rw [e]; exact ⟨rfl, rfl, rfl, rfl⟩
    | succ i =>
      have := ih (i := i) (by simpa using h)
      rw [e]
      rw [List.getElem?_append_right (by simp; omega), List.getElem?_append_right (by simp; omega), List.getElem?_append_right (by simp; omega), List.getElem?_append_right (by simp; omega)]
      simp only [List.length_cons, List.length_nil]
      rw [show (i + 1) * 4 - (0 + 1 + 1 + 1 + 1) = i * 4 by omega, show (i + 1) * 4 + 1 - (0 + 1 + 1 + 1 + 1) = i * 4 + 1 by omega, show (i + 1) * 4 + 2 - (0 + 1 + 1 + 1 + 1) = i * 4 + 2 by omega, show (i + 1) * 4 + 3 - (0 + 1 + 1 + 1 + 1) = i * 4 + 3 by omega]
      exact this
/-- these values lie from an address on -/
def RowAt (w : World) (ao : Option Addr) (xs : List Value) : Prop := ∀ j u, xs[j]? = some u → ∃ g off, ao = some ⟨g, off, none⟩ ∧ w.cell? ⟨g, off + j, none⟩ = some u
theorem RowAt.fr {S : List Nat} {w w' : World} {ao : Option Addr} {xs : List Value} (h : RowAt w ao xs) (hF : Fr S w w') (hS : ∀ a, ao = some a → a.block ∉ S) : RowAt w' ao xs := by
  intro j u hu
  obtain ⟨g, off, rfl, hc⟩ := h j u hu
  exact ⟨g, off, rfl, hF.cell (hS ⟨g, off, none⟩ rfl) hc⟩
/-- a row in growth, made since w -/
structure Grows (w : World) (e : TypeId) (size k : Nat) (xs : List Value) (v : Value) (W : World) : Prop where
  row : W.ownsRow 0 e size v k xs
  fr : Fr [] w W
  new : ∀ b, v.ownBlock = some b → w.heap.size ≤ b
theorem Grows.step {w W W1 w1 : World} {e : TypeId} {size k j : Nat} {xs news : List Value} {v v' : Value} (h : Grows w e size k xs v W) (hW : Fr [] W W1) (ho : w1.ownsRow 0 e size v' (k + j) (xs ++ news)) (hg : W1.grownBy w1 v.ownBlock) (hf : v'.ownBlock = v.ownBlock ∨ v'.ownBlock = some W1.heap.size) : Grows w e size (k + j) (xs ++ news) v' w1 := by
  refine ⟨ho, (h.fr.trans hW).grown hg (fun b hb hl => by have := h.new b hb; omega), fun b hb => ?_⟩
  rcases hf with hf | hf
  · exact h.new b (hf ▸ hb)
  · have e := hf.symm.trans hb
    cases e
    exact Nat.le_trans h.fr.size hW.size
theorem row_shape' {w : World} {b size : Nat} {e : TypeId} {v : Value} {n : Nat} {xs : List Value} (h : w.ownsRow b e size v n xs) : ∃ ao cap, v = .slice ao n cap := by
  rcases h.2 with ⟨rfl, rfl⟩ | ⟨g, cap, cur, rfl, _⟩
  · exact ⟨_, _, rfl⟩
  · exact ⟨_, _, rfl⟩
theorem infoRO : (Tryz.prog.info? 63).map (fun i => (i.zero, i.size, i.bytes)) = some (some (.agg #[.int .u64 0, .int .i64 0, .slice none 0 0, .int .i64 0]), 4, 48) := by kernel_rfl
theorem infoHO : (Tryz.prog.info? 65).map (fun i => (i.zero, i.size, i.bytes)) = some (some (.agg #[.int .u64 0, .int .i64 0, .slice none 0 0]), 3, 40) := by kernel_rfl

end Go.Proofs.YtofhgfgipdokbaaGreatDoor
namespace Go.Proofs.YtofhgfgipdokbaaGreatDoor
open Go.RowKit

/-- the references of the document's objects -/
def refsR (l : List RO) : List Value := l.map fun o => Value.int .u64 (2 * (o.pos : Int))
set_option maxHeartbeats 1000000 in
/-- are two lists of words the same? -/
theorem sameWords {w : World} {aa ba : Option Addr} {ac bc : Nat} (xs ys : List Int) (ha : WordsAt w aa xs) (hb : WordsAt w ba ys) (hx : xs.length ≤ 17592186044416) :
    Calls Tryz.prog 16 #[.slice aa xs.length ac, .slice ba ys.length bc] w (Drawn (.bool (decide (xs = ys))) w) := by
  by_cases hl : xs.length = ys.length
  · obtain ⟨n, hn⟩ : ∃ n, n = xs.length := ⟨_, rfl⟩
    rw [← hl, ← hn]
    rw [← hn] at hl hx
    have HA := Lib.hid ha
    have HB := Lib.hid hb
    have HN := Lib.hid hn
    have HL := Lib.hid hl
    clear ha hb hn hl
    go_enter Tryz.func16, Tryz.ntmps16
    go_wp2
    go_loopw [5] (fun i wr => ∃ k m : Nat, k ≤ n ∧ i = .int .i64 k ∧ wr = w.drewN m ∧ Hid (xs.take k = ys.take k)) (fun i _ => n - (intOf i).toNat)
    case atStart => exact ⟨0, 0, Nat.zero_le _, rfl, rfl, rfl⟩
    case round =>
      obtain ⟨k, m, hk, rfl, hw, ht⟩ := hrel
      by_cases hlt : k < n
      · have hkx : k < xs.length := by rw [← HN.out]; exact hlt
        have hky : k < ys.length := by rw [← HL.out]; exact hlt
        obtain ⟨g, o, rfl, c1⟩ := HA.out k _ (List.getElem?_eq_getElem hkx)
        obtain ⟨g2, o2, rfl, c2⟩ := HB.out k _ (List.getElem?_eq_getElem hky)
        have d1 : wr.cell? ⟨g, o + k, none⟩ = some (.int .u64 xs[k]) := by rw [hw]; exact c1
        have d2 : wr.cell? ⟨g2, o2 + k, none⟩ = some (.int .u64 ys[k]) := by rw [hw]; exact c2
        have HW := Lib.hid hw
        have T1 : Hid (xs.take (k + 1) = xs.take k ++ [xs[k]]) := by rw [List.take_add_one, List.getElem?_eq_getElem hkx]; rfl
        have T2 : Hid (ys.take (k + 1) = ys.take k ++ [ys[k]]) := by rw [List.take_add_one, List.getElem?_eq_getElem hky]; rfl
        have hk1 : (k : Int) < (n : Int) := by omega
        have hk0 : (0 : Int) ≤ (k : Int) := Int.natCast_nonneg _
        obtain ⟨p, hp⟩ : ∃ p, p = xs[k] := ⟨_, rfl⟩
        obtain ⟨q, hq⟩ : ∃ q, q = ys[k] := ⟨_, rfl⟩
        rw [← hp] at d1 T1
        rw [← hq] at d2 T2
        clear hw c1 c2
        by_cases hpq : p = q
        · have HPQ : Hid (xs.take (k + 1) = ys.take (k + 1)) := by rw [T1.out, T2.out, ht.out, hpq]; exact rfl
          subst hpq
          clear hp hq
          go_wp2_with fail
          go_quiet (fail)
          go_wp2
          go_roundw
          case rel => exact ⟨k + 1, m + nq, by omega, by go_num, by rw [HW.out, World.drewN_drewN], HPQ⟩
          case measure => simp [intOf]; omega
        · have hne : xs ≠ ys := by
            rintro rfl
            exact hpq (hp.trans hq.symm)
          have hd : decide (xs = ys) = false := by simpa using hne
          rw [hd]
          have HQ := Lib.hid hpq
          have hb1 : (p == q) = false := by simpa using hpq
          clear hp hq hne hd hpq
          go_wp2_with fail
          go_quiet (fail)
          go_wp2
          go_ret
          exact ⟨rfl, _, by rw [HW.out, World.drewN_drewN]⟩
      · have hke : k = n := by omega
        have he : xs = ys := by
          have := ht.out
          rw [hke, HN.out, List.take_length, ← HN.out, HL.out, List.take_length] at this
          exact this
        have HE := Lib.hid he
        clear he
        subst hw
        go_wp2
        go_ret
        exact ⟨ret1 (vb (by simp [HE.out])), m, rfl⟩
  · have hne : xs ≠ ys := fun e => hl (by rw [e])
    have hd : decide (xs = ys) = false := by simpa using hne
    rw [hd]
    have hl' : ((xs.length : Int) == (ys.length : Int)) = false := by simp; omega
    generalize xs.length = a at *
    generalize ys.length = b at *
    clear ha hb hne hd
    go_enter Tryz.func16, Tryz.ntmps16
    go_wp2
    go_ret
    exact ⟨rfl, 0, rfl⟩
end Go.Proofs.YtofhgfgipdokbaaGreatDoor
namespace Go.Proofs.YtofhgfgipdokbaaGreatDoor
open Go.RowKit

/-- what two objects share when they are the same -/
def It.key (o : It) : Int × Int × List Int := (o.cls, o.hash, o.fs)
/-- the fields of an object in a list lie where its slice says -/
def ItOk (w : World) (o : It) : Prop := ∃ fa fc, o.fv = .slice fa o.fs.length fc ∧ WordsAt w fa o.fs ∧ o.fs.length ≤ 17592186044416
theorem WordsAt.drewN {w : World} {ao : Option Addr} {xs : List Int} (h : WordsAt w ao xs) (n : Nat) : WordsAt (w.drewN n) ao xs := h.fr ((Fr.refl [] w).drewN n) (fun _ _ => by simp)
end Go.Proofs.YtofhgfgipdokbaaGreatDoor
namespace Go.Proofs.YtofhgfgipdokbaaGreatDoor
open Go.RowKit

theorem NewRO.drew {w W : World} {o : RO} (h : NewRO w o W) : NewRO w o W.drew := ⟨h.at_.fr0 ((Fr.refl _ _).drew), h.fr.drew, h.nb, h.nf⟩
/-- Returned a copy of an object, in new memory. -/
def Copies (cls hash : Int) (fs : List Int) (pos : Nat) (w : World) (e : Ending) (w' : World) : Prop := ∃ nb fv, e = .returned (.pointer (some ⟨nb, 0, none⟩)) ∧ NewRO w ⟨nb, fv, cls, hash, fs, pos⟩ w'
set_option maxRecDepth 100000 in
set_option maxHeartbeats 2000000 in
theorem rcopied {w : World} {xb xo fc pos : Nat} {fa : Option Addr} {cls hash : Int} {fs : List Int} (c0 : w.cell? ⟨xb, xo, none⟩ = some (.int .u64 cls)) (c1 : w.cell? ⟨xb, xo + 1, none⟩ = some (.int .i64 hash)) (c2 : w.cell? ⟨xb, xo + 2, none⟩ = some (.slice fa fs.length fc)) (hfs : WordsAt w fa fs) (hl : fs.length ≤ 65536) :
    Calls Tryz.prog 44 #[.pointer (some ⟨xb, xo, none⟩), .int .i64 pos] w (Copies cls hash fs pos w) := by
  obtain ⟨i0, hi, hz0, hz1, hz2⟩ := info_parts infoWord
  have hxb : xb < w.heap.size := World.block_lt_of_cell? w _ c0
  have HN : Hid (NewRO w ⟨w.heap.size, .slice none 0 0, cls, hash, [], pos⟩ (w.alloc (.cells #[.int .u64 cls, .int .i64 hash, .slice none 0 0, .int .i64 pos] 63))) :=
    ⟨⟨heap_new _ _, World.ownsRow_nil _ _ _ _⟩, (Fr.refl _ _).alloc _, Nat.le_refl _, fun _ h => by cases h⟩
  have HFS := Lib.hid hfs
  clear hfs
  by_cases hz : fs.length = 0
  · have hfe : fs = [] := List.length_eq_zero_iff.1 hz
    subst hfe
    simp only [List.length_nil] at c2
    clear hz hl HFS
    rcases fa with _ | a
    · go_enter Tryz.func44, Tryz.ntmps44
      go_wp2_with fail
      go_region_held3 (fun w' => w'.cell? ⟨xb, xo, none⟩ = some (.int .u64 cls) ∧ w'.cell? ⟨xb, xo + 1, none⟩ = some (.int .i64 hash)) (go_keep) (fail)
      go_wp2_with fail
      go_region
      all_goals go_wp2
      all_goals go_ret
      all_goals exact ⟨_, _, rfl, HN.out.drew.drew⟩
    · go_enter Tryz.func44, Tryz.ntmps44
      go_wp2_with fail
      go_region_held3 (fun w' => w'.cell? ⟨xb, xo, none⟩ = some (.int .u64 cls) ∧ w'.cell? ⟨xb, xo + 1, none⟩ = some (.int .i64 hash)) (go_keep) (fail)
      go_wp2_with fail
      go_region
      all_goals go_wp2
      all_goals go_ret
      all_goals exact ⟨_, _, rfl, HN.out.drew.drew⟩
  · obtain ⟨y0, hy0⟩ : ∃ y, fs[0]? = some y := ⟨_, List.getElem?_eq_getElem (by omega)⟩
    obtain ⟨fb, fo, hfa, hc0⟩ := HFS.out 0 y0 hy0
    subst hfa
    have hfb : fb < w.heap.size := World.block_lt_of_cell? w _ hc0
    have HNEWS : Hid (∀ W, Fr [] w W → ∀ j u, (fs.map (Value.int .u64))[j]? = some u → W.cell? ((⟨fb, fo, none⟩ : Addr).add j) = some u) := by
      refine Lib.hid fun W hW j u hu => ?_
      rw [Lib.add_plain]
      rw [List.getElem?_map] at hu
      cases hj : fs[j]? with
      | none => rw [hj] at hu; cases hu
      | some y =>
        rw [hj] at hu
        cases hu
        obtain ⟨g', o', e, hc⟩ := HFS.out j y hj
        cases e
        exact hW.cell (by simp) hc
    have hmx : 0 + fs.length ≤ maxLen := by unfold maxLen; omega
    have hpos : 0 < fs.length := by omega
    have hlen : (fs.map (Value.int .u64)).length = fs.length * 1 := by simp
    clear hy0 hc0 hz
    go_enter Tryz.func44, Tryz.ntmps44
    go_wp2_with fail
    go_region_held3 (fun w' => w'.cell? ⟨xb, xo, none⟩ = some (.int .u64 cls) ∧ w'.cell? ⟨xb, xo + 1, none⟩ = some (.int .i64 hash)) (go_keep) (fail)
    go_wp2_with fail
    go_region_law (refine step_append_lies _ (by rfl) _ _ _ (by rfl) 0 24 i0 _ 1 8 Tryz.underlying38 hi hz0 hz1 hz2 rfl (by omega) (.slice none 0 0) 0 [] (by rfl) (World.ownsRow_nil _ _ _ _) ⟨fb, fo, none⟩ fs.length fc (fs.map (Value.int .u64)) (by rfl) hlen (HNEWS.out _ ((((Fr.refl _ _).alloc _).drew).drew)) (ints_one fs) hpos hmx (by omega) (Nat.zero_le _) (w.heap.size + 1) (by simp) ?_; intro gg cp w1 hown1 hgrow hat hlt1; have hst := HN.out.step (ys := fs) (j := fs.length) (W1 := (w.alloc _).drew.drew) (((Fr.refl _ _).drew).drew) hown1 rfl hgrow (hat.imp (fun h => h.symm) (fun h => by rw [h]; simp [Value.ownBlock])); have hc1 : w1.cell? ⟨w.heap.size, 2, none⟩ = some (.slice none 0 0) := hst.1; have hf1 : w1.frozen? ⟨w.heap.size, 2, none⟩ = false := hst.2.1; have HST := Lib.hid hst.2.2; clear hst hown1 hgrow hat)
    all_goals go_wp2
    all_goals go_ret
    all_goals (have hh := HST.out; simp only [Nat.zero_add, List.nil_append] at hh; exact ⟨_, _, rfl, hh⟩)
end Go.Proofs.YtofhgfgipdokbaaGreatDoor
namespace Go.Proofs.YtofhgfgipdokbaaGreatDoor
open Go.RowKit

/-- an object in a list whose fields are a row of their own -/
def ItOwn (w : World) (o : It) : Prop := w.ownsRow 0 24 1 o.fv o.fs.length (o.fs.map (Value.int .u64)) ∧ o.fs.length ≤ 65536
theorem ItOwn.ok {w : World} {o : It} (h : ItOwn w o) : ItOk w o := by
  obtain ⟨fa, fc, hv⟩ := row_shape h.1
  refine ⟨fa, fc, hv, fun i x hx => ?_, by have := h.2; omega⟩
  have hi : i < o.fs.length := (List.getElem?_eq_some_iff.1 hx).1
  obtain ⟨g, cap, e, hc, -, -⟩ := row_at h.1 hi
  rw [hv] at e
  cases e
  rw [List.getElem?_map, hx] at hc
  exact ⟨g, 0, rfl, by simpa using hc⟩
theorem ItOwn.fr {S : List Nat} {w w' : World} {o : It} (h : ItOwn w o) (hF : Fr S w w') (hS : ∀ k, o.fv.ownBlock = some k → k ∉ S) : ItOwn w' o := ⟨hF.row h.1 hS, h.2⟩
/-- behind an append to a row of another type -/
theorem ItOwn.grown {w w' : World} {o : It} {e : TypeId} {size n : Nat} {v : Value} {xs : List Value} (h : ItOwn w o) (hr : w.ownsRow 0 e size v n xs) (hg : w.grownBy w' v.ownBlock) (he : 24 ≠ e) : ItOwn w' o := by
  refine h.fr (S := v.ownBlock.toList) ((Fr.refl _ _).grown hg (fun g hgv _ => by simp [hgv])) (fun k hk hm => ?_)
  obtain ⟨c, hc⟩ := row_heap h.1 hk
  obtain ⟨c', hc'⟩ := row_cells hr (g := k) (by simpa using hm)
  exact tag_ne hc hc' he rfl
/-- the abstract objects of a list, with their places -/
def keysR (l : List RO) : List ((Int × Int × List Int) × Int) := l.map fun o => ((o.cls, o.hash, o.fs), (o.pos : Int))
def keys4 (l : List (It × Int)) : List ((Int × Int × List Int) × Int) := l.map fun o => (o.1.key, o.2)
/-- a list of the document's objects under way -/
structure Dumps (w : World) (k : Nat) (K : List ((Int × Int × List Int) × Int)) (v : Value) (its : List (It × Int)) (W : World) : Prop where
  gr : Grows w 63 4 k (flat4 its) v W
  keys : keys4 its = K
  own : ∀ o ∈ its, ItOwn W o.1
  fresh : ∀ o ∈ its, ∀ b, o.1.fv.ownBlock = some b → w.heap.size ≤ b
end Go.Proofs.YtofhgfgipdokbaaGreatDoor
namespace Go.Proofs.YtofhgfgipdokbaaGreatDoor
open Go.RowKit

/-- how many words the objects of a list take -/
def wordsOf : List It → Nat
  | [] => 0
  | o :: l => 3 + o.fs.length + wordsOf l
theorem wordsOf_snoc (l : List It) (o : It) : wordsOf (l ++ [o]) = wordsOf l + (3 + o.fs.length) := by
  induction l with
  | nil => simp [wordsOf]
  | cons a l ih => simp only [List.cons_append, wordsOf, ih]; omega
theorem wordsOf_le {l : List It} (h : ∀ o ∈ l, o.fs.length ≤ 512) : wordsOf l ≤ l.length * 515 := by
  induction l with
  | nil => simp [wordsOf]
  | cons a l ih =>
    have h1 := h a (by simp)
    have h2 := ih (fun o ho => h o (by simp [ho]))
    simp only [wordsOf, List.length_cons]
    omega
set_option maxRecDepth 100000 in
set_option maxHeartbeats 2000000 in
theorem needed_ok {w : World} {ao : Option Addr} {cap : Nat} (its : List It) (hr : RowAt w ao (flat3 its)) (hfv : ∀ o ∈ its, ∃ fa fc, o.fv = .slice fa o.fs.length fc) (hs : ∀ o ∈ its, o.fs.length ≤ 512) (hn : its.length ≤ 2932031007402) :
    Calls Tryz.prog 58 #[.slice ao its.length cap] w (Still (.tuple #[.int .i64 (1 + wordsOf its : Nat), .nilIface]) w) := by
  have HR := Lib.hid hr
  have HV := Lib.hid hfv
  have HS := Lib.hid hs
  obtain ⟨n, hn'⟩ : ∃ n, n = its.length := ⟨_, rfl⟩
  rw [← hn'] at hn ⊢
  have HN := Lib.hid hn'
  clear hr hfv hn' hs
  go_enter Tryz.func58, Tryz.ntmps58
  go_wp2
  go_loopw [4, 6, 9] (fun u _ i wr => ∃ (k s : Nat), k ≤ n ∧ i = .int .i64 k ∧ u = .int .i64 (1 + s : Nat) ∧ Hid (s = wordsOf (its.take k)) ∧ Hid (Fr [] w wr)) (fun _ _ i _ => n - (intOf i).toNat)
  case atStart => exact ⟨0, 0, Nat.zero_le _, rfl, rfl, rfl, Fr.refl _ _⟩
  case round =>
    obtain ⟨k, s, hk, rfl, rfl, hsm, hF⟩ := hrel
    by_cases hlt : k < n
    · have hkl : k < its.length := by rw [← HN.out]; exact hlt
      obtain ⟨o, ho⟩ : ∃ o, o = its[k] := ⟨_, rfl⟩
      have hik : its[k]? = some o := by rw [List.getElem?_eq_getElem hkl, ho]
      obtain ⟨f1, f2, f3⟩ := flat3_at hik
      obtain ⟨g, off, rfl, c1⟩ := HR.out _ _ f1
      obtain ⟨_, _, e2, c2⟩ := HR.out _ _ f2
      cases e2
      obtain ⟨_, _, e3, c3⟩ := HR.out _ _ f3
      cases e3
      obtain ⟨fa, fc, hov⟩ := HV.out o (List.mem_of_getElem? hik)
      rw [hov] at c3
      have d1 := hF.out.cell (by simp) c1
      have d2 := hF.out.cell (by simp) c2
      have d3 := hF.out.cell (by simp) c3
      rw [← Nat.add_assoc] at d2 d3
      have hz := HS.out o (List.mem_of_getElem? hik)
      have hT : Hid (wordsOf (its.take (k + 1)) = s + (3 + o.fs.length)) := by rw [List.take_add_one, hik, hsm.out]; exact wordsOf_snoc _ _
      have hsb : s ≤ 1509995968812030 := by
        have := wordsOf_le (l := its.take k) (fun p hp => HS.out p (List.mem_of_mem_take hp))
        rw [← hsm.out, List.length_take] at this
        omega
      clear ho hik f1 f2 f3 c1 c2 c3 hov hkl
      generalize o.fs.length = z at *
      go_wp2
      go_roundw
      case rel => exact ⟨k + 1, s + (3 + z), by omega, by go_num, by go_num, hT.out.symm, hF.out.alloc _⟩
      case measure => simp [intOf]; omega
    · have hke : k = n := by omega
      have HW : Hid (s = wordsOf its) := by have := hsm.out; rw [hke, HN.out, List.take_length] at this; exact this
      go_wp2
      go_ret2
      exact ⟨tup2 (vi (by rw [HW.out])) rfl, hF.out⟩
set_option maxRecDepth 100000 in
set_option maxHeartbeats 2000000 in
theorem needed_bad {w : World} {ao : Option Addr} {cap : Nat} (its : List It) (hr : RowAt w ao (flat3 its)) (hfv : ∀ o ∈ its, ∃ fa fc, o.fv = .slice fa o.fs.length fc) (hg : Glob w) (hz : ∀ o ∈ its, o.fs.length ≤ 17592186044416) (hs : ∃ o ∈ its, 512 < o.fs.length) (hn : its.length ≤ 2932031007402) :
    Calls Tryz.prog 58 #[.slice ao its.length cap] w (Fails2 1 w) := by
  have HR := Lib.hid hr
  have HV := Lib.hid hfv
  have HS := Lib.hid hs
  obtain ⟨n, hn'⟩ : ∃ n, n = its.length := ⟨_, rfl⟩
  rw [← hn'] at hn ⊢
  have HN := Lib.hid hn'
  have HG := Lib.hid hg
  have HZ := Lib.hid hz
  clear hr hfv hn' hs hg hz
  go_enter Tryz.func58, Tryz.ntmps58
  go_wp2
  go_loopw [4, 6, 9] (fun u _ i wr => ∃ (k s : Nat), k ≤ n ∧ i = .int .i64 k ∧ u = .int .i64 (1 + s : Nat) ∧ Hid (s = wordsOf (its.take k) ∧ ∀ o ∈ its.take k, o.fs.length ≤ 512) ∧ Hid (Fr [] w wr)) (fun _ _ i _ => n - (intOf i).toNat)
  case atStart => exact ⟨0, 0, Nat.zero_le _, rfl, rfl, ⟨rfl, fun _ h => by simp at h⟩, Fr.refl _ _⟩
  case round =>
    obtain ⟨k, s, hk, rfl, rfl, hsm, hF⟩ := hrel
    by_cases hlt : k < n
    · have hkl : k < its.length := by rw [← HN.out]; exact hlt
      obtain ⟨o, ho⟩ : ∃ o, o = its[k] := ⟨_, rfl⟩
      have hik : its[k]? = some o := by rw [List.getElem?_eq_getElem hkl, ho]
      obtain ⟨f1, f2, f3⟩ := flat3_at hik
      obtain ⟨g, off, rfl, c1⟩ := HR.out _ _ f1
      obtain ⟨_, _, e2, c2⟩ := HR.out _ _ f2
      cases e2
      obtain ⟨_, _, e3, c3⟩ := HR.out _ _ f3
      cases e3
      obtain ⟨fa, fc, hov⟩ := HV.out o (List.mem_of_getElem? hik)
      rw [hov] at c3
      have d1 := hF.out.cell (by simp) c1
      have d2 := hF.out.cell (by simp) c2
      have d3 := hF.out.cell (by simp) c3
      rw [← Nat.add_assoc] at d2 d3
      have hzz := HZ.out o (List.mem_of_getElem? hik)
      have hA : Hid (o.fs.length ≤ 512 → ∀ p ∈ its.take (k + 1), p.fs.length ≤ 512) := by
        refine Lib.hid fun hz p hp => ?_
        rw [List.take_add_one, hik] at hp
        rcases List.mem_append.1 hp with hp | hp
        · exact hsm.out.2 p hp
        · simp at hp; subst hp; exact hz
      have hT : Hid (wordsOf (its.take (k + 1)) = s + (3 + o.fs.length)) := by rw [List.take_add_one, hik, hsm.out.1]; exact wordsOf_snoc _ _
      have hsb : s ≤ 1509995968812030 := by
        have := wordsOf_le (l := its.take k) hsm.out.2
        rw [← hsm.out.1, List.length_take] at this
        omega
      clear ho hik f1 f2 f3 c1 c2 c3 hov hkl
      have hi := fun st hst => invalid_fails st hst o.fs.length (wr.alloc (.cells #[.int .u64 o.cls, .int .i64 o.hash, .slice fa o.fs.length fc] 65)) (HG.out.fr (hF.out.alloc _)) (by omega) (by omega)
      generalize o.fs.length = z at *
      by_cases hz5 : z ≤ 512
      · have hA' := Lib.hid (hA.out hz5)
        clear hi
        go_wp2
        go_roundw
        case rel => exact ⟨k + 1, s + (3 + z), by omega, by go_num, by go_num, ⟨hT.out.symm, hA'.out⟩, hF.out.alloc _⟩
        case measure => simp [intOf]; omega
      · have hz6 : (512 : Int) < (z : Int) := by omega
        clear hA hT
        go_wp2_with (first | (go_at_call 57; refine (hi _ (by decide)).mono ?_; rintro e w' ⟨st, rfl, hF'⟩))
        go_ret2
        exact ⟨_, rfl, (hF.out.alloc _).trans hF'⟩
    · have hke : k = n := by omega
      obtain ⟨o, hom, hol⟩ := HS.out
      have := hsm.out.2 o (by rw [hke, HN.out, List.take_length]; exact hom)
      omega
/-- a word of a list, or the word itself -/
def chosenI (l : List Int) (x i : Int) : Int := if 0 < i ∧ l ≠ [] then l.getD (i.toNat % l.length) 0 else x
end Go.Proofs.YtofhgfgipdokbaaGreatDoor
namespace Go.Proofs.YtofhgfgipdokbaaGreatDoor
open Go.RowKit

/-- the hash at a place of a list may be -/
def okAt (l : List Int) (n : Int) (i : Nat) : Prop := ∀ x, l[i]? = some x → 0 ≤ x ∧ x ≤ n ∧ ∀ k, k < i → 0 < x → l[k]? ≠ some x
/-- the hashes of a list may be, if so many were given -/
def HashOk (l : List Int) (n : Int) : Prop := 0 ≤ n ∧ n < 1099511627776 ∧ ∀ i, okAt l n i
/-- Returned whether p holds, and only draws. -/
def Says (p : Prop) (w : World) (e : Ending) (w' : World) : Prop := ∃ b : Bool, e = .returned (.bool b) ∧ (b = true ↔ p) ∧ ∃ m, w' = w.drewN m
set_option maxRecDepth 100000 in
set_option maxHeartbeats 4000000 in
theorem rhashed {w : World} {ao : Option Addr} {cap : Nat} (its : List (It × Int)) (hr : RowAt w ao (flat4 its)) (hl : its.length ≤ 2932031007402) (n : Int) (n1 : -9223372036854775808 ≤ n) (n2 : n ≤ 9223372036854775807) :
    Calls Tryz.prog 45 #[.slice ao its.length cap, .int .i64 n] w (Says (HashOk (its.map fun o => o.1.hash) n) w) := by
  by_cases h1 : n < 0
  · have hno : ¬ HashOk (its.map fun o => o.1.hash) n := fun h => by have := h.1; omega
    have HNO := Lib.hid hno
    generalize its.length = N at *
    clear hr hno
    go_enter Tryz.func45, Tryz.ntmps45
    go_wp2
    go_ret
    exact ⟨false, rfl, by simp [HNO.out], 0, rfl⟩
  by_cases h2 : 1099511627776 ≤ n
  · have hno : ¬ HashOk (its.map fun o => o.1.hash) n := fun h => by have := h.2.1; omega
    have HNO := Lib.hid hno
    generalize its.length = N at *
    clear hr hno
    go_enter Tryz.func45, Tryz.ntmps45
    go_wp2
    go_ret
    exact ⟨false, rfl, by simp [HNO.out], 0, rfl⟩
  obtain ⟨L, hL⟩ : ∃ L, L = its.map fun o => o.1.hash := ⟨_, rfl⟩
  rw [← hL]
  have HL := Lib.hid hL
  have HR := Lib.hid hr
  obtain ⟨N, hN⟩ : ∃ N, N = its.length := ⟨_, rfl⟩
  rw [← hN] at hl ⊢
  have HN := Lib.hid hN
  have h1' : 0 ≤ n := by omega
  have h2' : n < 1099511627776 := by omega
  clear hL hr hN n1 n2 h1 h2
  go_enter Tryz.func45, Tryz.ntmps45
  go_wp2
  go_loopw [5, 6] (fun i _ wr => ∃ k m : Nat, k ≤ N ∧ i = .int .i64 k ∧ wr = w.drewN m ∧ Hid (∀ q, q < k → okAt L n q)) (fun i _ _ => N - (intOf i).toNat)
  case atStart => exact ⟨0, 0, Nat.zero_le _, rfl, rfl, fun q h => by omega⟩
  case round =>
    obtain ⟨k, m, hk, rfl, hw, hq⟩ := hrel
    by_cases hlt : k < N
    · have hkl : k < its.length := by rw [← HN.out]; exact hlt
      obtain ⟨o, ho⟩ : ∃ o, o = its[k] := ⟨_, rfl⟩
      have hik : its[k]? = some o := by rw [List.getElem?_eq_getElem hkl, ho]
      obtain ⟨-, f2, -, -⟩ := flat4_at hik
      obtain ⟨g, off, rfl, c2⟩ := HR.out _ _ f2
      rw [← Nat.add_assoc] at c2
      have HLk : Hid (L[k]? = some o.1.hash) := by rw [HL.out, List.getElem?_map, hik]; exact rfl
      obtain ⟨x, hx⟩ : ∃ x, x = o.1.hash := ⟨_, rfl⟩
      rw [← hx] at c2 HLk
      have d2 : wr.cell? ⟨g, off + k * 4 + 1, none⟩ = some (.int .i64 x) := by rw [hw]; exact c2
      have hk1 : (k : Int) < (N : Int) := by omega
      have hk0 : (0 : Int) ≤ (k : Int) := Int.natCast_nonneg _
      clear ho hik f2 hx hkl
      by_cases hx1 : x < 0
      · have HNO : Hid (¬ HashOk L n) := fun h => by have := (h.2.2 k x HLk.out).1; omega
        have HW := Lib.hid hw
        clear hw c2
        go_wp2
        go_ret
        exact ⟨false, rfl, by simp [HNO.out], m, HW.out⟩
      by_cases hx2 : n < x
      · have HNO : Hid (¬ HashOk L n) := fun h => by have := (h.2.2 k x HLk.out).2.1; omega
        have HW := Lib.hid hw
        clear hw c2
        go_wp2
        go_ret
        exact ⟨false, rfl, by simp [HNO.out], m, HW.out⟩
      have hx1' : 0 ≤ x := by omega
      have hx2' : x ≤ n := by omega
      have HW := Lib.hid hw
      have C2 := Lib.hid c2
      clear hw hx1 hx2 c2
      go_wp2
      go_loopw [6] (fun j wq => ∃ p m' : Nat, p ≤ k ∧ j = .int .i64 p ∧ wq = w.drewN m' ∧ Hid (∀ q, q < p → 0 < x → L[q]? ≠ some x)) (fun j _ => k - (intOf j).toNat)
      case atStart => exact ⟨0, m, Nat.zero_le _, rfl, HW.out, fun q h => by omega⟩
      case round =>
        obtain ⟨p, m', hp, rfl, hwq, hqp⟩ := hrel
        have e2 : wr.cell? ⟨g, off + k * 4 + 1, none⟩ = some (.int .i64 x) := by rw [hwq]; exact C2.out
        by_cases hpk : p < k
        · have hpl : p < its.length := by rw [← HN.out]; omega
          obtain ⟨y, hy⟩ : ∃ y, y = (its[p]).1.hash := ⟨_, rfl⟩
          have hip : its[p]? = some its[p] := List.getElem?_eq_getElem hpl
          obtain ⟨-, f2, -, -⟩ := flat4_at hip
          obtain ⟨_, _, eg, c3⟩ := HR.out _ _ f2
          cases eg
          rw [← Nat.add_assoc, ← hy] at c3
          have HLp : Hid (L[p]? = some y) := by rw [HL.out, List.getElem?_map, hip, hy]; exact rfl
          have e3 : wr.cell? ⟨g, off + p * 4 + 1, none⟩ = some (.int .i64 y) := by rw [hwq]; exact c3
          have HWQ := Lib.hid hwq
          have hp1 : (p : Int) < (k : Int) := by omega
          have hp2 : (p : Int) < (N : Int) := by omega
          have hp0 : (0 : Int) ≤ (p : Int) := Int.natCast_nonneg _
          clear hwq hip f2 c3 hy d2 HW hpl
          by_cases hx0 : 0 < x
          · by_cases hxy : y = x
            · have HNO : Hid (¬ HashOk L n) := fun h => (h.2.2 k x HLk.out).2.2 p hpk hx0 (by rw [HLp.out, hxy])
              subst hxy
              go_wp2_with fail
              go_quiet (fail)
              go_wp2
              go_ret
              exact ⟨false, rfl, by simp [HNO.out], _, by rw [HWQ.out, World.drewN_drewN]⟩
            · have HP : Hid (∀ q, q < p + 1 → 0 < x → L[q]? ≠ some x) := by
                intro q hq1 hx3 he
                rcases Nat.lt_or_ge q p with h | h
                · exact hqp.out q h hx3 he
                · obtain rfl : q = p := by omega
                  rw [HLp.out] at he
                  exact hxy (Option.some.inj he)
              have hb1 : (y == x) = false := by simpa using hxy
              have hb2 : (y != x) = true := by simpa using hxy
              have hb3 : decide (y = x) = false := by simpa using hxy
              go_wp2_with fail
              go_quiet (fail)
              go_wp2
              go_roundw
              case rel => exact ⟨p + 1, m' + nq, by omega, by go_num, by rw [HWQ.out, World.drewN_drewN], HP⟩
              case measure => simp [intOf]; omega
          · have hd0 : decide (0 < x) = false := by simpa using hx0
            have HP : Hid (∀ q, q < p + 1 → 0 < x → L[q]? ≠ some x) := fun q _ hx3 => absurd hx3 hx0
            go_wp2_with fail
            go_quiet (fail)
            go_wp2
            go_roundw
            case rel => exact ⟨p + 1, m' + nq, by omega, by go_num, by rw [HWQ.out, World.drewN_drewN], HP⟩
            case measure => simp [intOf]; omega
        · have hpe : p = k := by omega
          have HK : Hid (∀ q, q < k + 1 → okAt L n q) := by
            intro q hq1
            rcases Nat.lt_or_ge q k with h | h
            · exact hq.out q h
            · obtain rfl : q = k := by omega
              intro z hz
              rw [HLk.out] at hz
              cases hz
              exact ⟨hx1', hx2', fun j hj hx3 => hqp.out j (by omega) hx3⟩
          have HWQ := Lib.hid hwq
          clear hwq d2 HW
          go_wp2
          go_roundw
          case rel => exact ⟨k + 1, m', by omega, by go_num, HWQ.out, HK⟩
          case measure => simp [intOf]; omega
    · have HOK : Hid (HashOk L n) := by
        refine ⟨h1', h2', fun i => ?_⟩
        rcases Nat.lt_or_ge i k with h | h
        · exact hq.out i h
        · intro z hz
          have := (List.getElem?_eq_some_iff.1 hz).1
          rw [HL.out, List.length_map, ← HN.out] at this
          omega
      have HW := Lib.hid hw
      clear hw
      go_wp2
      go_ret
      exact ⟨true, rfl, by simp [HOK.out], m, HW.out⟩
end Go.Proofs.YtofhgfgipdokbaaGreatDoor
namespace Go.Proofs.YtofhgfgipdokbaaGreatDoor
open Go.RowKit

theorem keyedInt : Maps.Keyed Tryz.prog 3 := Maps.int_keyed Tryz.underlying3
theorem zeroUnit (w : World) : (zeroValue 146).run Tryz.prog w = .ok (.agg #[]) w := by kernel_rfl
/-- the set holds the hashes of the first k objects -/
def Takes (L : List Int) (k : Nat) (b : Nat) (W : World) : Prop := ∃ D : DataW Unit, W.ownsMap Tryz.prog 3 unitElem b k D ∧ ∀ x : Int, x ≠ 0 → (Maps.has D (.int .i64 x) = true ↔ ∃ q, q < k ∧ L[q]? = some x)
def Checks (p : Prop) (w : World) (e : Ending) (w' : World) : Prop := (p ∧ Still .nilIface w e w') ∨ (¬ p ∧ Fails 1 w e w')
set_option maxRecDepth 100000 in
set_option maxHeartbeats 4000000 in
theorem checkHashes_checks {w : World} {ao : Option Addr} {cap : Nat} (its : List It) (hr : RowAt w ao (flat3 its)) (hfv : ∀ o ∈ its, ∃ fa m fc, o.fv = .slice fa m fc) (hl : its.length ≤ 2932031007402) (hh : ∀ o ∈ its, -9223372036854775808 ≤ o.hash ∧ o.hash ≤ 9223372036854775807) (n : Int) (n1 : -9223372036854775808 ≤ n) (n2 : n ≤ 9223372036854775807) (hg : Glob w) :
    Calls Tryz.prog 60 #[.slice ao its.length cap, .int .i64 n] w (Checks (HashOk (its.map fun o => o.hash) n) w) := by
  by_cases h1 : n < 0
  · have HNO : Hid (¬ HashOk (its.map fun o => o.hash) n) := fun h => by have := h.1; omega
    have hi := fun s hs => invalid_fails s hs n w hg n1 n2
    generalize its.length = N at *
    clear hr hg hfv hh
    go_enter Tryz.func60, Tryz.ntmps60
    go_wp2_with (first | (go_at_call 57; refine (hi _ (by decide)).mono ?_; rintro e w' ⟨st, rfl, hF'⟩))
    go_ret
    exact .inr ⟨HNO.out, _, rfl, hF'⟩
  by_cases h2 : 1099511627775 < n
  · have HNO : Hid (¬ HashOk (its.map fun o => o.hash) n) := fun h => by have := h.2.1; omega
    have hi := fun s hs => invalid_fails s hs n w hg n1 n2
    generalize its.length = N at *
    clear hr hg hfv hh
    go_enter Tryz.func60, Tryz.ntmps60
    go_wp2_with (first | (go_at_call 57; refine (hi _ (by decide)).mono ?_; rintro e w' ⟨st, rfl, hF'⟩))
    go_ret
    exact .inr ⟨HNO.out, _, rfl, hF'⟩
  obtain ⟨L, hL⟩ : ∃ L, L = its.map fun o => o.hash := ⟨_, rfl⟩
  rw [← hL]
  have HL := Lib.hid hL
  have HR := Lib.hid hr
  have HV := Lib.hid hfv
  have HB := Lib.hid hh
  have HG := Lib.hid hg
  obtain ⟨N, hN⟩ : ∃ N, N = its.length := ⟨_, rfl⟩
  rw [← hN] at hl ⊢
  have HN := Lib.hid hN
  have h1' : 0 ≤ n := by omega
  have h2' : n ≤ 1099511627775 := by omega
  have hmm := @run_makeMap Tryz.prog
  have HT0 : Hid (Takes L 0 w.heap.size (w.alloc (.map #[] 0))) := ⟨.map [], World.ownsMap_made _ _ _ _, fun x _ => by simp [Maps.has]⟩
  clear hL hr hN h1 h2 hfv hh hg
  go_enter Tryz.func60, Tryz.ntmps60
  go_wp2
  go_loopw [21] (fun i wr => ∃ k : Nat, k ≤ N ∧ i = .int .i64 k ∧ Hid (∀ q, q < k → okAt L n q) ∧ Hid (Takes L k w.heap.size wr) ∧ Hid (Fr [] w wr)) (fun i _ => N - (intOf i).toNat)
  case atStart => exact ⟨0, Nat.zero_le _, rfl, fun q h => by omega, HT0, (Fr.refl _ _).alloc _⟩
  case round =>
    obtain ⟨k, hk, rfl, hq, hT, hF⟩ := hrel
    by_cases hlt : k < N
    · have hkl : k < its.length := by rw [← HN.out]; exact hlt
      obtain ⟨o, ho⟩ : ∃ o, o = its[k] := ⟨_, rfl⟩
      have hik : its[k]? = some o := by rw [List.getElem?_eq_getElem hkl, ho]
      obtain ⟨f1, f2, f3⟩ := flat3_at hik
      obtain ⟨g, off, rfl, c1⟩ := HR.out _ _ f1
      obtain ⟨_, _, eg, c2⟩ := HR.out _ _ f2
      cases eg
      obtain ⟨_, _, eg, c3⟩ := HR.out _ _ f3
      cases eg
      obtain ⟨fa, fm, fc, hov⟩ := HV.out o (List.mem_of_getElem? hik)
      rw [hov] at c3
      have d1 := hF.out.cell (by simp) c1
      have d2 := hF.out.cell (by simp) c2
      have d3 := hF.out.cell (by simp) c3
      rw [← Nat.add_assoc] at d2 d3
      obtain ⟨b1, b2⟩ := HB.out o (List.mem_of_getElem? hik)
      have HLk : Hid (L[k]? = some o.hash) := by rw [HL.out, List.getElem?_map, hik]; exact rfl
      obtain ⟨D, hD, hDx⟩ := hT.out
      have HD := Lib.hid hD
      have HX := Lib.hid hDx
      clear ho hik f1 f2 f3 c1 c2 c3 hkl hov hD hDx hT
      generalize o.hash = x at *
      generalize o.cls = oc at *
      have hi := fun s hs => invalid_fails s hs x (wr.alloc (.cells #[.int .u64 oc, .int .i64 x, .slice fa fm fc] 65)) (HG.out.fr (hF.out.alloc _)) b1 b2
      by_cases hx0 : x = 0
      · have HK : Hid (∀ q, q < k + 1 → okAt L n q) := by
          intro q hq1
          rcases Nat.lt_or_ge q k with h | h
          · exact hq.out q h
          · obtain rfl : q = k := by omega
            intro z hz
            rw [HLk.out] at hz
            cases hz
            exact ⟨by omega, by omega, fun j _ hx3 => by omega⟩
        have HT2 : Hid (Takes L (k + 1) w.heap.size (wr.alloc (.cells #[.int .u64 oc, .int .i64 0, .slice fa fm fc] 65))) := by
          refine ⟨D, (HD.out.alloc _).mono (Nat.le_succ _), fun y hy => (HX.out y hy).trans ⟨fun ⟨q, h, e⟩ => ⟨q, by omega, e⟩, fun ⟨q, h, e⟩ => ?_⟩⟩
          rcases Nat.lt_or_ge q k with h' | h'
          · exact ⟨q, h', e⟩
          · obtain rfl : q = k := by omega
            rw [HLk.out] at e
            cases e
            exact absurd hx0 hy
        subst hx0
        clear hi
        go_wp2
        go_roundw
        case rel => exact ⟨k + 1, by omega, by go_num, HK, HT2, hF.out.alloc _⟩
        case measure => simp [intOf]; omega
      have hx0' : (x == 0) = false := by simpa using hx0
      by_cases hx1 : x < 0
      · have HNO : Hid (¬ HashOk L n) := fun h => by have := (h.2.2 k x HLk.out).1; omega
        go_wp2_with (first | (go_at_call 57; refine (hi _ (by decide)).mono ?_; rintro e w' ⟨st, rfl, hF'⟩))
        go_ret
        exact .inr ⟨HNO.out, _, rfl, (hF.out.alloc _).trans hF'⟩
      by_cases hx2 : n < x
      · have HNO : Hid (¬ HashOk L n) := fun h => by have := (h.2.2 k x HLk.out).2.1; omega
        go_wp2_with (first | (go_at_call 57; refine (hi _ (by decide)).mono ?_; rintro e w' ⟨st, rfl, hF'⟩))
        go_ret
        exact .inr ⟨HNO.out, _, rfl, (hF.out.alloc _).trans hF'⟩
      have hx1' : 1 ≤ x := by omega
      have hx2' : x ≤ n := by omega
      have hkey := Maps.keyOf_int_mk Tryz.underlying3 (WalkArith.wf_i64 (n := x) ⟨b1, b2⟩)
      have HF2 : Hid (Fr [] w ((wr.alloc (.cells #[.int .u64 oc, .int .i64 x, .slice fa fm fc] 65)).alloc (.cells #[] 146))) := (hF.out.alloc _).alloc _
      have hi2 := fun s hs => invalid_fails s hs x ((wr.alloc (.cells #[.int .u64 oc, .int .i64 x, .slice fa fm fc] 65)).alloc (.cells #[] 146)) (HG.out.fr HF2.out) b1 b2
      have HKL := Lib.hid (keyedInt.key hkey)
      clear hi
      cases hhas : Maps.has D (.int .i64 x)
      · have HK : Hid (∀ q, q < k + 1 → okAt L n q) := by
          intro q hq1
          rcases Nat.lt_or_ge q k with h | h
          · exact hq.out q h
          · obtain rfl : q = k := by omega
            intro z hz
            rw [HLk.out] at hz
            cases hz
            refine ⟨by omega, hx2', fun j hj _ he => ?_⟩
            have := (HX.out x hx0).2 ⟨j, hj, he⟩
            rw [hhas] at this
            cases this
        clear hi2
        go_wp2_with (first
          | (at_lookup; refine wpList_lookup_own_unit _ rfl _ _ 145 rfl 3 146 keyedInt Tryz.underlying145 (zeroUnit _) w.heap.size k D rfl (HD.out.alloc _) _ _ rfl hkey ?_; rw [hhas])
          | (at_mapUpdate; refine wpList_mapUpdate_own _ rfl _ _ _ 145 rfl 3 146 keyedInt Tryz.underlying145 unitElem w.heap.size k D rfl ((HD.out.alloc _).alloc _) (by unfold maxLen; omega) _ _ (.int .i64 x) rfl rfl hkey (.agg []) [] unitElem_mk ?_; intro w2 hown2 hgrow2; have HO2 := Lib.hid hown2; have HG2 := Lib.hid hgrow2; clear hown2 hgrow2))
        have HT2 : Hid (Takes L (k + 1) w.heap.size w2) := by
          refine ⟨_, HO2.out, fun y hy => ?_⟩
          by_cases hyx : y = x
          · subst hyx
            exact ⟨fun _ => ⟨k, by omega, HLk.out⟩, fun _ => Maps.has_put_same HD.out.isMap HKL.out _⟩
          · rw [Maps.has_put_other (fun e => hyx (by cases e; rfl))]
            refine (HX.out y hy).trans ⟨fun ⟨q, h, e⟩ => ⟨q, by omega, e⟩, fun ⟨q, h, e⟩ => ?_⟩
            rcases Nat.lt_or_ge q k with h' | h'
            · exact ⟨q, h', e⟩
            · obtain rfl : q = k := by omega
              rw [HLk.out] at e
              cases e
              exact absurd rfl hyx
        have HF3 : Hid (Fr [] w w2) := HF2.out.grown HG2.out (fun q hq1 hl1 => by cases hq1; omega)
        clear HO2 HG2
        go_wp2
        go_roundw
        case rel => exact ⟨k + 1, by omega, by go_num, HK, HT2, HF3⟩
        case measure => simp [intOf]; omega
      · have HNO : Hid (¬ HashOk L n) := fun h => by
          obtain ⟨q, hq1, hq2⟩ := (HX.out x hx0).1 hhas
          exact (h.2.2 k x HLk.out).2.2 q hq1 (by omega) hq2
        go_wp2_with (first
          | (at_lookup; refine wpList_lookup_own_unit _ rfl _ _ 145 rfl 3 146 keyedInt Tryz.underlying145 (zeroUnit _) w.heap.size k D rfl (HD.out.alloc _) _ _ rfl hkey ?_; rw [hhas])
          | (go_at_call 57; refine (hi2 _ (by decide)).mono ?_; rintro e w' ⟨st, rfl, hF'⟩))
        go_ret
        exact .inr ⟨HNO.out, _, rfl, HF2.out.trans hF'⟩
    · have HOK : Hid (HashOk L n) := by
        refine ⟨h1', by omega, fun i => ?_⟩
        rcases Nat.lt_or_ge i k with h | h
        · exact hq.out i h
        · intro z hz
          have := (List.getElem?_eq_some_iff.1 hz).1
          rw [HL.out, List.length_map, ← HN.out] at this
          omega
      go_wp2
      go_ret
      exact .inl ⟨HOK.out, rfl, hF.out⟩
end Go.Proofs.YtofhgfgipdokbaaGreatDoor
