/- Words, put behind one another in a new row: append(append([]Word{}, xs...), x), whatever its order. -/
import Derived.Test.YtninigdcpeijhaaDoorMGcOrderWalk
import Derived.Laws.AppendOwnNone
namespace Go.Proofs.YtninigdcpeijhaaDoor
open Go.RowKit

section
variable {P : Program} {ops : Array Oper} {Q : Exit → Act → World → Prop} {md : Region.Mode} {S : World → Prop} {z : Nat}
/-- two operations may come up -/
theorem Walk.two {i j : Nat} {o p : Oper} {fuel : Nat} {listed : Array Bool} {a : Act} {w : World} (ho : ops[i]? = some o) (hp : ops[j]? = some p) (hr : Region.ready md ops listed = [i, j]) (hw : Region.wanted o (yielded ops a.tmps) = true) (hv : Region.wanted p (yielded ops a.tmps) = true)
    (h : ∀ K : Act → World → Prop, Shut (∀ a w, (i ≠ z → S w) → ((i ≠ z → S w) → Walk P md ops Q S z fuel (listed.setIfInBounds i true) a w) → K a w) → Oper.wp P o a w K Q)
    (h' : ∀ K : Act → World → Prop, Shut (∀ a w, (j ≠ z → S w) → ((j ≠ z → S w) → Walk P md ops Q S z fuel (listed.setIfInBounds j true) a w) → K a w) → Oper.wp P p a w K Q) : Walk P md ops Q S z (fuel + 1) listed a w := by
  refine ⟨fun h0 => (by rw [hr] at h0; cases h0), fun k hk => ?_⟩
  rw [hr] at hk
  simp only [List.mem_cons, List.not_mem_nil, or_false] at hk
  rcases hk with rfl | rfl
  · unfold wpOp
    simp only [ho]
    rw [if_pos hw]
    exact .inl (h _ (fun a w hS hW => ⟨hS, hW hS⟩))
  · unfold wpOp
    simp only [hp]
    rw [if_pos hv]
    exact .inl (h' _ (fun a w hS hW => ⟨hS, hW hS⟩))
end
/-- append of words to an owned row, at the operation -/
theorem wp_append_words {w : World} {o : Oper} {a : Act} {K : Act → World → Prop} {Q : Exit → Act → World → Prop} (s x : Operand) (ho : o.op = .call { callee := .builtin .append, args := #[s, x], argTypes := #[30, 30] })
    (v : Value) (n : Nat) (us : List Value) (hs : a.eval s = v) (hown : w.ownsRow 0 28 1 v n us) {ra : Option Addr} {rc : Nat} (xs : List Int) (hx : a.eval x = .slice ra xs.length rc) (hX : WordsAt w ra xs) (hX0 : ra = none → rc = 0 ∧ xs = []) (hn : n + xs.length ≤ 17592186044416)
    (h : ∀ v' w', w'.ownsRow 0 28 1 v' (n + xs.length) (us ++ xs.map (Value.int .u64)) → w.grownBy w' v.ownBlock → (v'.ownBlock = v.ownBlock ∨ v'.ownBlock = some w.heap.size) → K (a.put o.dst v') w') : Oper.wp Tryd.prog o a w K Q := by
  obtain ⟨i0, hi, hz0, hz1, hz2⟩ := info_parts infoWord
  have key : ∃ v' w', (Builtin.append_ #[30, 30] o.type #[v, .slice ra xs.length rc]).run Tryd.prog w = .ok v' w' ∧ w'.ownsRow 0 28 1 v' (n + xs.length) (us ++ xs.map (Value.int .u64)) ∧ w.grownBy w' v.ownBlock ∧ (v'.ownBlock = v.ownBlock ∨ v'.ownBlock = some w.heap.size) := by
    cases ra with
    | none =>
      obtain ⟨rfl, rfl⟩ := hX0 rfl
      refine ⟨v, w, run_append_owned_none (P := Tryd.prog) (w := w) 0 30 o.type 28 i0 1 Tryd.underlying30 hi v n us hown, by simpa using hown, ⟨rfl, rfl, rfl, Nat.le_refl _, fun _ _ _ => rfl⟩, .inl rfl⟩
    | some ad =>
      exact run_append_at (P := Tryd.prog) w 30 o.type 28 i0 (.int .u64 0) 1 8 Tryd.underlying30 hi hz0 hz1 hz2 rfl (by decide) v n us hown ad xs.length rc (xs.map (Value.int .u64)) (by simp) (fun j u hj => by
        rw [List.getElem?_map] at hj
        cases hxj : xs[j]? with
        | none => rw [hxj] at hj; cases hj
        | some y =>
          rw [hxj] at hj
          cases hj
          obtain ⟨g, of, e, hc⟩ := hX j y hxj
          cases e
          rw [Lib.add_plain]
          exact hc) (ints_one xs) (by unfold maxLen; omega) (by omega)
  obtain ⟨v', w', hrun, h1, h2, h3⟩ := key
  exact Lib.wp_append_run w s x 30 30 ho v _ hs hx v' w' hrun (h v' w' h1 h2 h3)
/-- a piece of code, by what holds behind it -/
theorem wp_via {P : Program} {c : Code} {Q : Exit → Act → World → Prop} {a : Act} {w : World} (R : Act → Act → World → Prop) (h1 : c.wp P (fun e a' w' => e = .normal ∧ R a a' w') a w) (h2 : ∀ a' w', R a a' w' → Q .normal a' w') : c.wp P Q a w :=
  Code.wp_mono (fun e a' w' ⟨he, h⟩ => by subst he; exact h2 a' w' h) h1
end Go.Proofs.YtninigdcpeijhaaDoor
