/- Words, put behind one another in a new row (for seats without gc). The document's cache: Drop. -/
import Derived.Test.YtofhgfgipdokbaaGreatDoorMRanges
import Derived.Test.YtofhgfgipdokbaaGreatDoorMHeaps
import Derived.Test.YtofhgfgipdokbaaGreatDoorMWords
import Derived.Test.YtofhgfgipdokbaaGreatDoorMPlaces
import Derived.Test.YtofhgfgipdokbaaGreatDoorMRcaA
import Derived.Test.YtofhgfgipdokbaaGreatDoorMRLoads
import Derived.Laws.AppendOwnNone
namespace Go.Proofs.YtofhgfgipdokbaaGreatDoor
open Go.RowKit

section
variable {P : Program} {ops : Array Oper} {Q : Exit → Act → World → Prop} {md : Region.Mode} {S : World → Prop} {z : Nat}
/-- two operations may come up -/
theorem Walk.twoB {i j : Nat} {o p : Oper} {fuel : Nat} {listed : Array Bool} {a : Act} {w : World} (ho : ops[i]? = some o) (hp : ops[j]? = some p) (hr : Region.ready md ops listed = [i, j]) (hw : Region.wanted o (yielded ops a.tmps) = true) (hv : Region.wanted p (yielded ops a.tmps) = true)
    (h : ∀ K : Act → World → Prop, Shut (∀ a w, (i ≠ z → S w) → ((i ≠ z → S w) → Walk P md ops Q S z fuel (listed.setIfInBounds i true) a w) → K a w) → Oper.wp P o a w K Q)
    (h' : ∀ K : Act → World → Prop, Shut (∀ a w, (j ≠ z → S w) → ((j ≠ z → S w) → Walk P md ops Q S z fuel (listed.setIfInBounds j true) a w) → K a w) → Oper.wp P p a w K Q) : Walk P md ops Q S z (fuel + 1) listed a w := by
  refine ⟨fun h0 => (by rw [hr] at h0; cases h0), fun k hk => ?_⟩
  rw [hr] at hk
  simp only [List.mem_cons, List.not_mem_nil, or_false] at hk
  rcases hk with rfl | rfl
  · unfold wpOp
    simp only [ho]
    rw [if_pos hw]
    exact .inl (h _ (fun a w hS hW => ⟨hS, hW hS⟩))
  · unfold wpOp
    simp only [hp]
    rw [if_pos hv]
    exact .inl (h' _ (fun a w hS hW => ⟨hS, hW hS⟩))
end
/-- append of words to an owned row, run -/
theorem append_words_run {w : World} (ty : TypeId) (v : Value) (n : Nat) (us : List Value) (hown : w.ownsRow 0 24 1 v n us) {ra : Option Addr} {rc : Nat} (xs : List Int) (hX : WordsAt w ra xs) (hX0 : ra = none → rc = 0 ∧ xs = []) (hn : n + xs.length ≤ 17592186044416) : ∃ v' w', (Builtin.append_ #[38, 38] ty #[v, .slice ra xs.length rc]).run Tryz.prog w = .ok v' w' ∧ w'.ownsRow 0 24 1 v' (n + xs.length) (us ++ xs.map (Value.int .u64)) ∧ w.grownBy w' v.ownBlock ∧ (v'.ownBlock = v.ownBlock ∨ v'.ownBlock = some w.heap.size) := by
  obtain ⟨i0, hi, hz0, hz1, hz2⟩ := info_parts infoWord
  cases ra with
  | none =>
    obtain ⟨rfl, rfl⟩ := hX0 rfl
    refine ⟨v, w, run_append_owned_none (P := Tryz.prog) (w := w) 0 38 ty 24 i0 1 Tryz.underlying38 hi v n us hown, by simpa using hown, ⟨rfl, rfl, rfl, Nat.le_refl _, fun _ _ _ => rfl⟩, .inl rfl⟩
  | some ad =>
    exact run_append_at (P := Tryz.prog) w 38 ty 24 i0 (.int .u64 0) 1 8 Tryz.underlying38 hi hz0 hz1 hz2 rfl (by decide) v n us hown ad xs.length rc (xs.map (Value.int .u64)) (by simp) (fun j u hj => by
      rw [List.getElem?_map] at hj
      cases hxj : xs[j]? with
      | none => rw [hxj] at hj; cases hj
      | some y =>
        rw [hxj] at hj
        cases hj
        obtain ⟨g, of, e, hc⟩ := hX j y hxj
        cases e
        rw [Lib.add_plain]
        exact hc) (ints_one xs) (by unfold maxLen; omega) (by omega)
/-- append of words to an owned row, at the operation -/
theorem wp_append_wordsB {w : World} {o : Oper} {a : Act} {K : Act → World → Prop} {Q : Exit → Act → World → Prop} (s x : Operand) (ho : o.op = .call { callee := .builtin .append, args := #[s, x], argTypes := #[38, 38] })
    (v : Value) (n : Nat) (us : List Value) (hs : a.eval s = v) (hown : w.ownsRow 0 24 1 v n us) {ra : Option Addr} {rc : Nat} (xs : List Int) (hx : a.eval x = .slice ra xs.length rc) (hX : WordsAt w ra xs) (hX0 : ra = none → rc = 0 ∧ xs = []) (hn : n + xs.length ≤ 17592186044416)
    (h : ∀ v' w', w'.ownsRow 0 24 1 v' (n + xs.length) (us ++ xs.map (Value.int .u64)) → w.grownBy w' v.ownBlock → (v'.ownBlock = v.ownBlock ∨ v'.ownBlock = some w.heap.size) → K (a.put o.dst v') w') : Oper.wp Tryz.prog o a w K Q := by
  obtain ⟨i0, hi, hz0, hz1, hz2⟩ := info_parts infoWord
  have key : ∃ v' w', (Builtin.append_ #[38, 38] o.type #[v, .slice ra xs.length rc]).run Tryz.prog w = .ok v' w' ∧ w'.ownsRow 0 24 1 v' (n + xs.length) (us ++ xs.map (Value.int .u64)) ∧ w.grownBy w' v.ownBlock ∧ (v'.ownBlock = v.ownBlock ∨ v'.ownBlock = some w.heap.size) := by
    cases ra with
    | none =>
      obtain ⟨rfl, rfl⟩ := hX0 rfl
      refine ⟨v, w, run_append_owned_none (P := Tryz.prog) (w := w) 0 38 o.type 24 i0 1 Tryz.underlying38 hi v n us hown, by simpa using hown, ⟨rfl, rfl, rfl, Nat.le_refl _, fun _ _ _ => rfl⟩, .inl rfl⟩
    | some ad =>
      exact run_append_at (P := Tryz.prog) w 38 o.type 24 i0 (.int .u64 0) 1 8 Tryz.underlying38 hi hz0 hz1 hz2 rfl (by decide) v n us hown ad xs.length rc (xs.map (Value.int .u64)) (by simp) (fun j u hj => by
        rw [List.getElem?_map] at hj
        cases hxj : xs[j]? with
        | none => rw [hxj] at hj; cases hj
        | some y =>
          rw [hxj] at hj
          cases hj
          obtain ⟨g, of, e, hc⟩ := hX j y hxj
          cases e
          rw [Lib.add_plain]
          exact hc) (ints_one xs) (by unfold maxLen; omega) (by omega)
  obtain ⟨v', w', hrun, h1, h2, h3⟩ := key
  exact Lib.wp_append_run w s x 38 38 ho v _ hs hx v' w' hrun (h v' w' h1 h2 h3)
/-- a piece of code, by what holds behind it -/
theorem wp_viaB {P : Program} {c : Code} {Q : Exit → Act → World → Prop} {a : Act} {w : World} (R : Act → Act → World → Prop) (h1 : c.wp P (fun e a' w' => e = .normal ∧ R a a' w') a w) (h2 : ∀ a' w', R a a' w' → Q .normal a' w') : c.wp P Q a w :=
  Code.wp_mono (fun e a' w' ⟨he, h⟩ => by subst he; exact h2 a' w' h) h1
end Go.Proofs.YtofhgfgipdokbaaGreatDoor
namespace Go.Proofs.YtofhgfgipdokbaaGreatDoor
open Go.RowKit

section
variable {w : World} {cb lb : Nat} {T : Tab} {ga : Option Addr} {gc : Nat}
/-- the selectors, with one more behind them, in a row of their own -/
theorem more_row (h : RcAt w cb lb T ga gc) (s : Int) : ∃ a1 c1 w1 a2 c2 w2, (Builtin.append_ #[38, 38] 38 #[.slice (some ⟨w.heap.size, 0, none⟩) 0 0, .slice ga T.D.length gc]).run Tryz.prog (w.alloc (.cells #[] 24)) = .ok (.slice a1 T.D.length c1) w1 ∧ Fr [] w w1 ∧
    (Builtin.append_ #[38, 38] 38 #[.slice a1 T.D.length c1, .slice (some ⟨w1.heap.size, 0, none⟩) 1 1]).run Tryz.prog (w1.alloc (.cells #[.int .u64 s] 24)) = .ok (.slice a2 (T.D.length + 1) c2) w2 ∧ Fr [] w w2 ∧ w2.ownsRow 0 24 1 (.slice a2 (T.D.length + 1) c2) (T.D.length + 1) ((T.D ++ [s]).map (Value.int .u64)) ∧ ∀ q, (Value.slice a2 (T.D.length + 1) c2).ownBlock = some q → w.heap.size ≤ q := by
  have hd := h.d64
  have hF0 : Fr [] w (w.alloc (.cells #[] 24)) := (Fr.refl _ _).alloc _
  obtain ⟨v1, w1, hr1, ho1, hg1, hf1⟩ := append_words_run (w := w.alloc (.cells #[] 24)) 38 (.slice (some ⟨w.heap.size, 0, none⟩) 0 0) 0 [] ⟨rfl, .inr ⟨w.heap.size, 0, #[], rfl, Nat.zero_le _, heap_new _ _, Nat.le_refl _, by unfold maxLen; omega, rfl, rfl⟩⟩ T.D (h.gone.fr hF0 (fun _ _ => by simp)) h.gnil (by omega)
  simp only [Nat.zero_add, List.nil_append] at ho1
  obtain ⟨a1, c1, rfl⟩ := row_shape ho1
  have hF1 : Fr [] w w1 := hF0.grown hg1 (fun q hq hl => by cases hq; simp at hl)
  have hn1 : ∀ q, (Value.slice a1 T.D.length c1).ownBlock = some q → w.heap.size ≤ q := fun q hq => by
    rcases hf1 with e | e
    · rw [e] at hq
      cases hq
      exact Nat.le_refl _
    · rw [e] at hq
      cases hq
      exact hF0.size
  have hF1a : Fr [] w1 (w1.alloc (.cells #[.int .u64 s] 24)) := (Fr.refl _ _).alloc _
  have hone : WordsAt (w1.alloc (.cells #[.int .u64 s] 24)) (some ⟨w1.heap.size, 0, none⟩) [s] := fun i x hx => by
    match i, hx with
    | 0, hx =>
      cases hx
      exact ⟨w1.heap.size, 0, rfl, cell_of_heap (o := 0) (heap_new w1 _) rfl⟩
  obtain ⟨v2, w2, hr2, ho2, hg2, hf2⟩ := append_words_run (w := w1.alloc (.cells #[.int .u64 s] 24)) (rc := 1) 38 (.slice a1 T.D.length c1) T.D.length _ (hF1a.row ho1 (fun _ _ => by simp)) [s] hone (fun e => by cases e) (by simp; omega)
  rw [← List.map_append] at ho2
  obtain ⟨a2, c2, rfl⟩ := row_shape ho2
  have hF2 : Fr [] w w2 := (hF1.trans hF1a).grown hg2 (fun q hq hl => by have := hn1 q hq; omega)
  refine ⟨a1, c1, w1, a2, c2, w2, hr1, hF1, hr2, hF2, ho2, fun q hq => ?_⟩
  rcases hf2 with e | e
  · exact hn1 q (e ▸ hq)
  · have hq' : (Value.slice a2 (T.D.length + [s].length) c2).ownBlock = some q := hq
    rw [e] at hq'
    cases hq'
    have := hF1.size
    simp
    omega
/-- the drops, told anew -/
theorem RcAt.setGone {w w2 W4 : World} {cb lb : Nat} {T : Tab} {ga ga' : Option Addr} {gc gc' : Nat} {D' : List Int} (h : RcAt w cb lb T ga gc) (hF : Fr [] w w2) (hG : Fr [cb] w2 W4) (hb : W4.heap[cb]? = some (.cells #[.slice (some ⟨lb, 0, none⟩) T.L.length T.L.length, .int .i64 T.r, .int .i64 T.k, .slice ga' D'.length gc'] 55 (0, 0))) (hW : WordsAt w2 ga' D') (hB : ∀ a, ga' = some a → ∃ cur, w2.heap[a.block]? = some (.cells cur 24 (0, 0))) (hN : ga' = none → gc' = 0 ∧ D' = []) (hd : D'.length ≤ 64) : RcAt W4 cb lb { T with D := D' } ga' gc' := by
  have h2 := h.fr0 hF
  have hne : ∀ a, ga' = some a → a.block ∉ [cb] := fun a ha => by
    obtain ⟨cur, hc⟩ := hB a ha
    simpa using tag_ne' hc h2.box (by decide)
  exact ⟨hb, hG.heap (by simpa using h2.cl.symm) h2.lines, hW.fr hG hne, fun a ha => by obtain ⟨cur, hc⟩ := hB a ha; exact ⟨cur, hG.heap (hne a ha) hc⟩, hN, h.n1, h.n2, hd⟩
set_option maxRecDepth 100000 in
set_option maxHeartbeats 4000000 in
theorem rdrop_at (h : RcAt w cb lb T ga gc) (s : Int) : Calls Tryz.prog 13 #[.pointer (some ⟨cb, 0, none⟩), .int .u64 s] w (RTo (.tuple #[]) cb lb ga { T with L := dropL T.L s, D := noteL T.D s } w) := by
  obtain ⟨a1, c1, w1, a2, c2, w2, hr1, hF1, hr2, hF2, ho2, hn2⟩ := more_row h s
  have c3 := h.cell3
  have hlt := lt_of_heap h.box
  have H := Lib.hid h
  have hd := h.d64
  have b2 := hF2.heap (by simp) h.box
  have c32 := cell_of_heap (o := 3) b2 rfl
  have z32 := frozen_of_heap (o := 3) b2
  have hlt2 := lt_of_heap b2
  obtain ⟨g, cp, hv, -, -, hcap⟩ := row_at ho2 (i := 0) (by simp)
  cases hv
  have HF2 := Lib.hid hF2
  have HO2 := Lib.hid ho2
  have HN2 := Lib.hid hn2
  obtain ⟨dn, hdn⟩ : ∃ dn, dn = T.D.length := ⟨_, rfl⟩
  rw [← hdn] at c3 hd hr1 hr2 c32 hcap
  have HDN := Lib.hid hdn
  clear h hdn hF1 hF2 ho2 hn2 b2
  by_cases hd64 : dn = 64
  · subst hd64
    go_enter Tryz.func13, Tryz.ntmps13
    go_wp2_with (first
      | (at_builtin; refine Lib.wpList_append_run (w.alloc (.cells #[] 24)) rfl (.tmp 6) (.tmp 10) 38 38 rfl _ _ rfl rfl _ w1 hr1 ?_)
      | (at_builtin; refine Lib.wpList_append_run (w1.alloc (.cells #[.int .u64 s] 24)) rfl (.tmp 11) (.tmp 13) 38 38 rfl _ _ rfl rfl _ w2 hr2 ?_))
    have HWD : Hid (WordsAt w2 (some ⟨g, 1, none⟩) (noteL T.D s)) := Lib.hid (by
      have hrow := row_rowAt HO2.out
      intro i x hx
      rw [show noteL T.D s = (T.D ++ [s]).drop 1 by unfold noteL; rw [if_pos HDN.out.symm, List.drop_append_of_le_length (by rw [← HDN.out]; omega)], List.getElem?_drop] at hx
      refine ⟨g, 1, rfl, ?_⟩
      obtain ⟨g', o', e, hc⟩ := hrow (1 + i) (.int .u64 x) (by rw [List.getElem?_map, hx]; rfl)
      cases e
      rw [Nat.zero_add] at hc; exact hc)
    have HBK : Hid (∃ cur, w2.heap[g]? = some (.cells cur 24 (0, 0))) := Lib.hid (own_heap HO2.out rfl)
    obtain ⟨W4, hW4⟩ : ∃ W4, W4 = ((w2.setCell ⟨cb, 3, none⟩ (.slice (some ⟨g, 0, none⟩) 65 c2)).setCell ⟨cb, 3, none⟩ (.slice (some ⟨g, 1, none⟩) 64 (c2 - 1))) := ⟨_, rfl⟩
    have HF24 : Hid (Fr [cb] w2 W4) := Lib.hid (by rw [hW4]; exact ((Fr.refl [cb] w2).setCell (p := ⟨cb, 3, none⟩) (fun _ => by simp) _).setCell (p := ⟨cb, 3, none⟩) (fun _ => by simp) _)
    have HF4 : Hid (Fr [cb] w W4) := Lib.hid (HF2.out.weak.trans HF24.out)
    have HB4 : Hid (W4.heap[cb]? = some (.cells #[.slice (some ⟨lb, 0, none⟩) T.L.length T.L.length, .int .i64 T.r, .int .i64 T.k, .slice (some ⟨g, 1, none⟩) (noteL T.D s).length (c2 - 1)] 55 (0, 0))) := Lib.hid (by
      rw [hW4, show (noteL T.D s).length = 64 by unfold noteL; rw [if_pos HDN.out.symm]; simp [← HDN.out]]
      have hb2 := HF2.out.heap (by simp) H.out.box
      have h1 := heap_setCell_same hb2 (o := 3) (.slice (some ⟨g, 0, none⟩) 65 c2); have h2 := heap_setCell_same h1 (o := 3) (.slice (some ⟨g, 1, none⟩) 64 (c2 - 1)); simpa using h2)
    have HR4 : Hid (RcAt W4 cb lb { T with D := noteL T.D s } (some ⟨g, 1, none⟩) (c2 - 1)) := Lib.hid (H.out.setGone HF2.out HF24.out HB4.out HWD.out (fun a ha => by cases ha; exact HBK.out) (fun e => by cases e) (noteL_len H.out.d64 s))
    obtain ⟨n, hn⟩ : ∃ n, n = T.L.length := ⟨_, rfl⟩
    have HN := Lib.hid hn
    have hn2' : n ≤ 256 := by rw [hn]; exact H.out.n2
    rw [← hW4]
    clear hW4 hn
    go_loopw [4] (fun i wr => ∃ k : Nat, k ≤ n ∧ i = .int .i64 k ∧ Hid (RcAt wr cb lb { T with L := dropTo T.L s k, D := noteL T.D s } (some ⟨g, 1, none⟩) (c2 - 1)) ∧ Hid (Fr [lb] W4 wr)) (fun i _ => n - (intOf i).toNat)
    case atStart => exact ⟨0, Nat.zero_le _, rfl, Lib.hid (by rw [dropTo_zero]; exact HR4.out), Fr.refl _ _⟩
    case round =>
      obtain ⟨k, hk, rfl, hT, hF⟩ := hrel
      have hc1 : wr.cell? ⟨cb, 0, none⟩ = some (.slice (some ⟨lb, 0, none⟩) n n) := by
        rw [hT.out.cell0]
        show some (Value.slice _ (dropTo T.L s k).length (dropTo T.L s k).length) = _
        rw [dropTo_len, ← HN.out]
      by_cases hlt3 : k < n
      · have hkl : k < T.L.length := by rw [← HN.out]; exact hlt3
        obtain ⟨l, hl⟩ : ∃ l, T.L[k]? = some l := ⟨_, List.getElem?_eq_getElem hkl⟩
        obtain ⟨v0, v1, v2, v3⟩ := rvals_at hT.out (i := k) (l := l) (by exact dropTo_at hl)
        have z := fun o => frozen_of_heap (o := o) hT.out.lines
        have z0 := z (k * 4)
        have z1 := z (k * 4 + 1)
        have z2 := z (k * 4 + 2)
        have z3 := z (k * 4 + 3)
        have hll := lt_of_heap hT.out.lines
        have HL := Lib.hid hl
        have k1 : (k : Int) < (n : Int) := by omega
        have k0 : (0 : Int) ≤ (k : Int) := by omega
        clear hl hkl z
        obtain ⟨lc, ls, lf, lm⟩ := l
        simp only at v0 v1 v2 v3
        by_cases hs : ls = s
        · subst hs
          have HKL : Hid (k < (dropTo T.L ls k).length) := by rw [dropTo_len, ← HN.out]; exact hlt3
          have HX : Hid (dropTo T.L ls (k + 1) = (dropTo T.L ls k).set k Ln.zero) := by rw [dropTo_next HL.out, dropLn, if_pos rfl]; exact rfl
          go_wp2
          go_roundw
          case rel =>
            have hh := rheap_set4 hT.out.lines HKL.out Ln.zero
            have hF2 : Fr [lb] _ _ := ((((Fr.refl [lb] wr).setCell (p := ⟨lb, k * 4, none⟩) (fun _ => by simp) (.bool false)).setCell (p := ⟨lb, k * 4 + 1, none⟩) (fun _ => by simp) (.int .u64 0)).setCell (p := ⟨lb, k * 4 + 2, none⟩) (fun _ => by simp) (.int .u64 0)).setCell (p := ⟨lb, k * 4 + 3, none⟩) (fun _ => by simp) (.int .u64 0)
            refine ⟨k + 1, by omega, by go_num, ?_, hF.out.trans hF2⟩
            show RcAt _ _ _ _ _ _
            rw [HX.out]
            exact hT.out.setLines (L' := (dropTo T.L ls k).set k Ln.zero) (by simp) hF2 hh
          case measure => simp [intOf]; omega
        · have hs' : (ls == s) = false := by simpa using hs
          have HX : Hid (dropTo T.L s (k + 1) = dropTo T.L s k) := dropTo_keep HL.out hs
          clear hs
          go_wp2
          go_roundw
          case rel =>
            refine ⟨k + 1, by omega, by go_num, ?_, hF.out⟩
            show RcAt _ _ _ _ _ _
            rw [HX.out]
            exact hT.out
          case measure => simp [intOf]; omega
      · have hkn : k = n := by omega
        have hkd : decide ((k : Int) < (n : Int)) = false := by simp; omega
        have HE : Hid (RcAt wr cb lb { T with L := dropL T.L s, D := noteL T.D s } (some ⟨g, 1, none⟩) (c2 - 1)) := Lib.hid (by have := hT.out; rw [hkn, HN.out, dropTo_all] at this; exact this)
        clear hkn
        go_wp2_with fail
        go_end0
        refine ⟨rfl, lb, _, _, HE.out, (HF4.out.mono (fun j _ hj => by simp at hj; simp [hj])).trans (hF.out.mono (fun j _ hj => by simp at hj; simp [hj])), .inl rfl, fun a ha => .inr ?_⟩
        cases ha
        exact HN2.out g rfl
  · have HD64 : Hid (¬ dn = 64) := Lib.hid hd64
    have hdw : IntKind.i64.wrap ((dn : Int) + 1) = ((dn + 1 : Nat) : Int) := by rw [IntKind.wrap_i64]; omega
    have hdd : decide (((dn + 1 : Nat) : Int) > 64) = false := by simp; omega
    have hdd2 : decide ((64 : Int) < ((dn + 1 : Nat) : Int)) = false := by simp; omega
    go_enter Tryz.func13, Tryz.ntmps13
    go_wp2_with (first
      | (at_builtin; refine Lib.wpList_append_run (w.alloc (.cells #[] 24)) rfl (.tmp 6) (.tmp 10) 38 38 rfl _ _ rfl rfl _ w1 hr1 ?_)
      | (at_builtin; refine Lib.wpList_append_run (w1.alloc (.cells #[.int .u64 s] 24)) rfl (.tmp 11) (.tmp 13) 38 38 rfl _ _ rfl rfl _ w2 hr2 ?_))
    have HWD : Hid (WordsAt w2 (some ⟨g, 0, none⟩) (noteL T.D s)) := Lib.hid (by
      have hrow := row_rowAt HO2.out
      intro i x hx
      rw [show noteL T.D s = T.D ++ [s] by unfold noteL; rw [if_neg (by rw [← HDN.out]; exact HD64.out)]] at hx
      refine ⟨g, 0, rfl, ?_⟩
      obtain ⟨g', o', e, hc⟩ := hrow (i) (.int .u64 x) (by rw [List.getElem?_map, hx]; rfl)
      cases e
      exact hc)
    have HBK : Hid (∃ cur, w2.heap[g]? = some (.cells cur 24 (0, 0))) := Lib.hid (own_heap HO2.out rfl)
    obtain ⟨W4, hW4⟩ : ∃ W4, W4 = w2.setCell ⟨cb, 3, none⟩ (.slice (some ⟨g, 0, none⟩) (dn + 1) c2) := ⟨_, rfl⟩
    have HF24 : Hid (Fr [cb] w2 W4) := Lib.hid (by rw [hW4]; exact (Fr.refl [cb] w2).setCell (p := ⟨cb, 3, none⟩) (fun _ => by simp) _)
    have HF4 : Hid (Fr [cb] w W4) := Lib.hid (HF2.out.weak.trans HF24.out)
    have HB4 : Hid (W4.heap[cb]? = some (.cells #[.slice (some ⟨lb, 0, none⟩) T.L.length T.L.length, .int .i64 T.r, .int .i64 T.k, .slice (some ⟨g, 0, none⟩) (noteL T.D s).length c2] 55 (0, 0))) := Lib.hid (by
      rw [hW4, show (noteL T.D s).length = dn + 1 by unfold noteL; rw [if_neg (by rw [← HDN.out]; exact HD64.out)]; simp [← HDN.out]]
      have hb2 := HF2.out.heap (by simp) H.out.box
      have h1 := heap_setCell_same hb2 (o := 3) (.slice (some ⟨g, 0, none⟩) (dn + 1) c2); simpa using h1)
    have HR4 : Hid (RcAt W4 cb lb { T with D := noteL T.D s } (some ⟨g, 0, none⟩) c2) := Lib.hid (H.out.setGone HF2.out HF24.out HB4.out HWD.out (fun a ha => by cases ha; exact HBK.out) (fun e => by cases e) (noteL_len H.out.d64 s))
    obtain ⟨n, hn⟩ : ∃ n, n = T.L.length := ⟨_, rfl⟩
    have HN := Lib.hid hn
    have hn2' : n ≤ 256 := by rw [hn]; exact H.out.n2
    rw [← hW4]
    clear hW4 hn
    go_loopw [4] (fun i wr => ∃ k : Nat, k ≤ n ∧ i = .int .i64 k ∧ Hid (RcAt wr cb lb { T with L := dropTo T.L s k, D := noteL T.D s } (some ⟨g, 0, none⟩) c2) ∧ Hid (Fr [lb] W4 wr)) (fun i _ => n - (intOf i).toNat)
    case atStart => exact ⟨0, Nat.zero_le _, rfl, Lib.hid (by rw [dropTo_zero]; exact HR4.out), Fr.refl _ _⟩
    case round =>
      obtain ⟨k, hk, rfl, hT, hF⟩ := hrel
      have hc1 : wr.cell? ⟨cb, 0, none⟩ = some (.slice (some ⟨lb, 0, none⟩) n n) := by
        rw [hT.out.cell0]
        show some (Value.slice _ (dropTo T.L s k).length (dropTo T.L s k).length) = _
        rw [dropTo_len, ← HN.out]
      by_cases hlt3 : k < n
      · have hkl : k < T.L.length := by rw [← HN.out]; exact hlt3
        obtain ⟨l, hl⟩ : ∃ l, T.L[k]? = some l := ⟨_, List.getElem?_eq_getElem hkl⟩
        obtain ⟨v0, v1, v2, v3⟩ := rvals_at hT.out (i := k) (l := l) (by exact dropTo_at hl)
        have z := fun o => frozen_of_heap (o := o) hT.out.lines
        have z0 := z (k * 4)
        have z1 := z (k * 4 + 1)
        have z2 := z (k * 4 + 2)
        have z3 := z (k * 4 + 3)
        have hll := lt_of_heap hT.out.lines
        have HL := Lib.hid hl
        have k1 : (k : Int) < (n : Int) := by omega
        have k0 : (0 : Int) ≤ (k : Int) := by omega
        clear hl hkl z
        obtain ⟨lc, ls, lf, lm⟩ := l
        simp only at v0 v1 v2 v3
        by_cases hs : ls = s
        · subst hs
          have HKL : Hid (k < (dropTo T.L ls k).length) := by rw [dropTo_len, ← HN.out]; exact hlt3
          have HX : Hid (dropTo T.L ls (k + 1) = (dropTo T.L ls k).set k Ln.zero) := by rw [dropTo_next HL.out, dropLn, if_pos rfl]; exact rfl
          go_wp2
          go_roundw
          case rel =>
            have hh := rheap_set4 hT.out.lines HKL.out Ln.zero
            have hF2 : Fr [lb] _ _ := ((((Fr.refl [lb] wr).setCell (p := ⟨lb, k * 4, none⟩) (fun _ => by simp) (.bool false)).setCell (p := ⟨lb, k * 4 + 1, none⟩) (fun _ => by simp) (.int .u64 0)).setCell (p := ⟨lb, k * 4 + 2, none⟩) (fun _ => by simp) (.int .u64 0)).setCell (p := ⟨lb, k * 4 + 3, none⟩) (fun _ => by simp) (.int .u64 0)
            refine ⟨k + 1, by omega, by go_num, ?_, hF.out.trans hF2⟩
            show RcAt _ _ _ _ _ _
            rw [HX.out]
            exact hT.out.setLines (L' := (dropTo T.L ls k).set k Ln.zero) (by simp) hF2 hh
          case measure => simp [intOf]; omega
        · have hs' : (ls == s) = false := by simpa using hs
          have HX : Hid (dropTo T.L s (k + 1) = dropTo T.L s k) := dropTo_keep HL.out hs
          clear hs
          go_wp2
          go_roundw
          case rel =>
            refine ⟨k + 1, by omega, by go_num, ?_, hF.out⟩
            show RcAt _ _ _ _ _ _
            rw [HX.out]
            exact hT.out
          case measure => simp [intOf]; omega
      · have hkn : k = n := by omega
        have hkd : decide ((k : Int) < (n : Int)) = false := by simp; omega
        have HE : Hid (RcAt wr cb lb { T with L := dropL T.L s, D := noteL T.D s } (some ⟨g, 0, none⟩) c2) := Lib.hid (by have := hT.out; rw [hkn, HN.out, dropTo_all] at this; exact this)
        clear hkn
        go_wp2_with fail
        go_end0
        refine ⟨rfl, lb, _, _, HE.out, (HF4.out.mono (fun j _ hj => by simp at hj; simp [hj])).trans (hF.out.mono (fun j _ hj => by simp at hj; simp [hj])), .inl rfl, fun a ha => .inr ?_⟩
        cases ha
        exact HN2.out g rfl
end
end Go.Proofs.YtofhgfgipdokbaaGreatDoor
