/- What the memory's place does: an object's words behind the last ones, a mark where it begins. -/
import Derived.Test.YtfcigjicikpabaaDoorRepeat
import Derived.Test.YtfcigjicikpabaaDoorAppend
import Derived.Deep.DeepCutAuto
import Derived.Laws.AppendOwnNone
namespace Go.Proofs.YtfcigjicikpabaaDoor
open Go.RowKit

/-- a memory under way -/
structure Raw (w : World) (mb : Nat) (m : Mem) (wv sv : Value) : Prop where
  mem : w.heap[mb]? = some (.cells #[.int .i64 m.lim, wv, sv, .int .u64 m.root, .int .i64 m.hashes] 66 (0, 0))
  words : w.ownsRow 0 23 1 wv m.W.length (m.W.map (Value.int .u64))
  starts : w.ownsRow 0 4 1 sv m.M.length (m.M.map Value.bool)
theorem MemAt.raw {w : World} {mb : Nat} {m : Mem} {wv sv : Value} (h : MemAt w mb m wv sv) : Raw w mb m wv sv := ⟨h.mem, h.words, h.starts⟩
theorem tag_ne {w : World} {a b : Nat} {c d : Array Value} {s t : TypeId} {f g : Nat × Nat} (h1 : w.heap[a]? = some (.cells c s f)) (h2 : w.heap[b]? = some (.cells d t g)) (hne : s ≠ t) : a ≠ b := by
  rintro rfl
  have := h1.symm.trans h2
  simp at this
  exact hne this.2.1
theorem Raw.w_ne_mb {w : World} {mb : Nat} {m : Mem} {wv sv : Value} (h : Raw w mb m wv sv) {g : Nat} (hg : wv.ownBlock = some g) : g ≠ mb := by
  obtain ⟨cur, hh⟩ := row_heap h.words hg
  exact tag_ne hh h.mem (by decide)
theorem Raw.s_ne_mb {w : World} {mb : Nat} {m : Mem} {wv sv : Value} (h : Raw w mb m wv sv) {g : Nat} (hg : sv.ownBlock = some g) : g ≠ mb := by
  obtain ⟨cur, hh⟩ := row_heap h.starts hg
  exact tag_ne hh h.mem (by decide)
theorem Raw.w_ne_s {w : World} {mb : Nat} {m : Mem} {wv sv : Value} (h : Raw w mb m wv sv) {g k : Nat} (hg : wv.ownBlock = some g) (hk : sv.ownBlock = some k) : g ≠ k := by
  obtain ⟨c1, h1⟩ := row_heap h.words hg
  obtain ⟨c2, h2⟩ := row_heap h.starts hk
  exact tag_ne h1 h2 (by decide)
theorem Raw.fr0 {w w' : World} {mb : Nat} {m : Mem} {wv sv : Value} (h : Raw w mb m wv sv) (hF : Fr [] w w') : Raw w' mb m wv sv :=
  ⟨hF.heap (by simp) h.mem, hF.row h.words (fun _ _ => by simp), hF.row h.starts (fun _ _ => by simp)⟩
/-- behind an append to the words: the field that is to be written, and the memory once it is -/
theorem Raw.appW {w w1 : World} {mb k : Nat} {m : Mem} {wv sv v1 : Value} {news : List Int} (h : Raw w mb m wv sv) (hk : news.length = k) (ho : w1.ownsRow 0 23 1 v1 (m.W.length + k) (m.W.map (Value.int .u64) ++ news.map (Value.int .u64))) (hg : w.grownBy w1 wv.ownBlock) :
    w1.cell? ⟨mb, 1, none⟩ = some wv ∧ w1.frozen? ⟨mb, 1, none⟩ = false ∧ Raw (w1.setCell ⟨mb, 1, none⟩ v1) mb { m with W := m.W ++ news } v1 sv := by
  have hm1 : w1.heap[mb]? = some (.cells #[.int .i64 m.lim, wv, sv, .int .u64 m.root, .int .i64 m.hashes] 66 (0, 0)) :=
    (hg.block mb (lt_of_heap h.mem) (fun e => h.w_ne_mb e.symm rfl)).trans h.mem
  have hs1 : w1.ownsRow 0 4 1 sv m.M.length (m.M.map Value.bool) := h.starts.kept hg (by
    cases hs : sv.ownBlock with
    | none => exact .inl rfl
    | some k => exact .inr (fun e => h.w_ne_s e.symm hs rfl))
  have hF : Fr [mb] w1 (w1.setCell ⟨mb, 1, none⟩ v1) := (Fr.refl _ _).setCell (fun _ => by simp) _
  refine ⟨cell_of_heap hm1 rfl, frozen_of_heap hm1, heap_setCell_same hm1 _, ?_, hF.row hs1 (fun k hk => by simpa using h.s_ne_mb hk)⟩
  rw [List.length_append, List.map_append, hk]
  refine hF.row ho (fun j hj => ?_)
  obtain ⟨cur, hh⟩ := row_heap ho hj
  simpa using tag_ne hh hm1 (by decide)
/-- likewise of the marks -/
theorem Raw.appS {w w1 : World} {mb k : Nat} {m : Mem} {wv sv v1 : Value} {news : List Bool} (h : Raw w mb m wv sv) (hk : news.length = k) (ho : w1.ownsRow 0 4 1 v1 (m.M.length + k) (m.M.map Value.bool ++ news.map Value.bool)) (hg : w.grownBy w1 sv.ownBlock) :
    w1.cell? ⟨mb, 2, none⟩ = some sv ∧ w1.frozen? ⟨mb, 2, none⟩ = false ∧ Raw (w1.setCell ⟨mb, 2, none⟩ v1) mb { m with M := m.M ++ news } wv v1 := by
  have hm1 : w1.heap[mb]? = some (.cells #[.int .i64 m.lim, wv, sv, .int .u64 m.root, .int .i64 m.hashes] 66 (0, 0)) :=
    (hg.block mb (lt_of_heap h.mem) (fun e => h.s_ne_mb e.symm rfl)).trans h.mem
  have hs1 : w1.ownsRow 0 23 1 wv m.W.length (m.W.map (Value.int .u64)) := h.words.kept hg (by
    cases hs : wv.ownBlock with
    | none => exact .inl rfl
    | some k => exact .inr (fun e => h.w_ne_s hs e.symm rfl))
  have hF : Fr [mb] w1 (w1.setCell ⟨mb, 2, none⟩ v1) := (Fr.refl _ _).setCell (fun _ => by simp) _
  refine ⟨cell_of_heap hm1 rfl, frozen_of_heap hm1, heap_setCell_same hm1 _, hF.row hs1 (fun k hk => by simpa using h.w_ne_mb hk), ?_⟩
  rw [List.length_append, List.map_append, hk]
  refine hF.row ho (fun j hj => ?_)
  obtain ⟨cur, hh⟩ := row_heap ho hj
  simpa using tag_ne hh hm1 (by decide)
/-- a mark is set -/
theorem Raw.setMark {w : World} {mb : Nat} {m : Mem} {wv : Value} {g cap : Nat} (h : Raw w mb m wv (.slice (some ⟨g, 0, none⟩) m.M.length cap)) (i : Nat) (b : Bool) :
    Raw (w.setCell ⟨g, i, none⟩ (.bool b)) mb { m with M := m.M.set i b } wv (.slice (some ⟨g, 0, none⟩) m.M.length cap) := by
  have hF : Fr [g] w (w.setCell ⟨g, i, none⟩ (.bool b)) := (Fr.refl _ _).setCell (fun _ => by simp) _
  have h1 := h.s_ne_mb (g := g) rfl
  refine ⟨hF.heap (by simpa using fun e => h1 e.symm) h.mem, hF.row h.words (fun k hk => by have := h.w_ne_s (k := g) hk rfl; simpa using this), ?_⟩
  have := (h.starts.stored i (.bool b)).1
  simpa [List.map_set] using this
end Go.Proofs.YtfcigjicikpabaaDoor
