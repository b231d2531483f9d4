/- scan: may intervals be? -/
import Derived.Test.YtomcfjckhajhmaaScnBeg
namespace Go.Proofs.Ytomcfjckhajhmaa
open Go.RowKit Go.Shelf Go.Sort

/-- a row of numbers in new memory -/
structure NRow (w0 : World) (k : Nat) (xs : List Int) (v : Value) (W : World) : Prop where
  row : W.ownsRow 0 3 1 v k (xs.map fun x : Int => .int .i64 x)
  fr : Fr [] w0 W
  new : ∀ b, v.ownBlock = some b → w0.heap.size ≤ b
theorem NRow.fr' {w0 : World} {k : Nat} {xs : List Int} {v : Value} {W W1 : World} (h : NRow w0 k xs v W) (hF : Fr [] W W1) : NRow w0 k xs v W1 := ⟨hF.row h.row (fun _ _ => by simp), h.fr.trans hF, h.new⟩
theorem NRow.step {w0 : World} {k : Nat} {xs : List Int} {v v' : Value} {W W1 w1 : World} (h : NRow w0 k xs v W) (hW : Fr [] W W1) {x : Int} (ho : w1.ownsRow 0 3 1 v' (k + 1) ((xs.map fun x : Int => Value.int .i64 x) ++ [.int .i64 x])) (hg : W1.grownBy w1 v.ownBlock) (hf : v'.ownBlock = v.ownBlock ∨ v'.ownBlock = some W1.heap.size) : NRow w0 (k + 1) (xs ++ [x]) v' w1 := by
  refine ⟨by rw [List.map_append]; exact ho, (h.fr.trans hW).grown hg (fun b hb hl => by have := h.new b hb; omega), fun b hb => ?_⟩
  rcases hf with hf | hf
  · exact h.new b (hf ▸ hb)
  · have e := hf.symm.trans hb
    cases e
    exact Nat.le_trans h.fr.size hW.size
theorem nrow_shape {w : World} {b size : Nat} {e : TypeId} {v : Value} {n : Nat} {xs : List Value} (h : w.ownsRow b e size v n xs) : ∃ ao cap, v = .slice ao n cap := by
  rcases h.2 with ⟨rfl, rfl⟩ | ⟨g, cap, cur, rfl, _⟩
  · exact ⟨_, _, rfl⟩
  · exact ⟨_, _, rfl⟩
theorem nrow_some {w : World} {size : Nat} {e : TypeId} {v : Value} {n : Nat} {xs : List Value} (h : w.ownsRow 0 e size v (n + 1) xs) : ∃ g cap, v = .slice (some ⟨g, 0, none⟩) (n + 1) cap := by
  rcases h.2 with ⟨-, h0⟩ | ⟨g, cap, cur, rfl, _⟩
  · omega
  · exact ⟨_, _, rfl⟩
/-- what is left of equal neighbours is all, if no two are equal -/
theorem compact_all (zs : List Int) : (Lib.compactUpTo (zs.mergeSort fun x y => decide (x ≤ y)).toArray zs.length).length = zs.length ↔ zs.Nodup := by
  obtain ⟨ss, hss⟩ : ∃ ss, ss = zs.mergeSort fun x y => decide (x ≤ y) := ⟨_, rfl⟩
  have hp : ss.Perm zs := by rw [hss]; exact List.mergeSort_perm _ _
  have hs : ss.Pairwise (fun x y : Int => x ≤ y) := by
    have := List.pairwise_mergeSort (le := fun x y : Int => decide (x ≤ y)) (fun a b c h1 h2 => by simp at *; omega) (fun a b => by simp; omega) zs
    rw [← hss] at this
    exact this.imp (fun h => by simpa using h)
  rw [← hss, ← hp.nodup_iff]
  have hl : zs.length = ss.length := hp.length_eq.symm
  rw [hl]
  unfold Lib.compactUpTo
  rw [List.length_map]
  have e : ss.length = (List.range ss.length).length := by simp
  rw [show (((List.range ss.length).filter (Lib.keeps ss.toArray)).length = ss.length) ↔ (((List.range ss.length).filter (Lib.keeps ss.toArray)).length = (List.range ss.length).length) by rw [← e], List.length_filter_eq_length_iff]
  constructor
  · intro h
    refine List.pairwise_iff_getElem.2 fun a b ha hb hab he => ?_
    have h1 := h (a + 1) (List.mem_range.2 (by omega))
    have hle : ss[a] ≤ ss[a + 1] := List.pairwise_iff_getElem.1 hs a (a + 1) ha (by omega) (by omega)
    have hle2 : ss[a + 1] ≤ ss[b] := by
      by_cases e : a + 1 = b
      · subst e; exact Int.le_refl _
      · exact List.pairwise_iff_getElem.1 hs (a + 1) b (by omega) hb (by omega)
    have e2 : ss[a + 1] = ss[a] := by omega
    have hx : a + 1 < ss.length := by omega
    simp [Lib.keeps, hx, ha, e2] at h1
  · intro h a ha
    have ha := List.mem_range.1 ha
    by_cases e : a = 0
    · subst e; simp [Lib.keeps]
    · have h1 := List.pairwise_iff_getElem.1 h (a - 1) a (by omega) ha (by omega)
      have hx : a - 1 < ss.length := by omega
      simp [Lib.keeps, e, ha, hx]
      exact fun e => h1 e.symm
theorem sl_sortI {g cap : Nat} {zs : List Int} {w : World} (h : w.ownsRow 0 3 1 (.slice (some ⟨g, 0, none⟩) zs.length cap) zs.length (zs.map fun x : Int => .int .i64 x)) (hl : zs.length < 4611686018427387904) :
    Calls Try.prog 18 #[.slice (some ⟨g, 0, none⟩) zs.length cap] w fun e w' => e = .returned (.tuple #[]) ∧ Fr [g] w w' ∧ w'.ownsRow 0 3 1 (.slice (some ⟨g, 0, none⟩) zs.length cap) zs.length ((zs.mergeSort fun x y => decide (x ≤ y)).map fun x : Int => .int .i64 x) := by
  obtain ⟨hH, hcap, hcm, hlt⟩ := row_holds (Value.int .i64) h
  refine (AnyM.slices_Sort_int Try.scSortI g 0 cap zs w hH hlt hl).mono ?_
  rintro e w' ⟨rfl, q, os, rfl⟩
  refine ⟨rfl, fr_sortWorld (Value.int .i64) w g 0 q _ os, ?_⟩
  have h3 := row_put (Value.int .i64) h (zs.mergeSort fun x y => decide (x ≤ y)) (by simp) zs.length (by simp) q os
  rw [List.take_of_length_le (by simp)] at h3
  exact h3
theorem sl_compact {g cap : Nat} {zs : List Int} {w : World} (h : w.ownsRow 0 3 1 (.slice (some ⟨g, 0, none⟩) zs.length cap) zs.length (zs.map fun x : Int => .int .i64 x)) :
    Calls Try.prog 19 #[.slice (some ⟨g, 0, none⟩) zs.length cap] w fun e w' => e = .returned (.slice (some ⟨g, 0, none⟩) (Lib.compactUpTo zs.toArray zs.length).length cap) ∧ Fr [g] w w' := by
  obtain ⟨hH, hcap, hcm, hlt⟩ := row_holds (Value.int .i64) h
  have h1 := AnyE.slices_Compact Try.scCompact (Value.int .i64) (fun _ => rfl) (EqlAt.intD _ _ .i64) (NeqAt.intD _ _ .i64) 0 Try.scCompact.v3 g 0 cap zs.toArray w hH (by unfold maxLen at hcm; simp; omega) (by simpa using hcap)
  simp only [List.size_toArray] at h1
  refine h1.mono ?_
  rintro e w' ⟨rfl, q, rfl⟩
  exact ⟨rfl, ((Fr.refl [g] w).drewN q).trans (fr_putRow _ _ _ _ _)⟩
theorem heap2_new (w : World) (o1 o2 : Obj) : ((w.alloc o1).alloc o2).heap[w.heap.size + 1]? = some o2 := by
  have h := heap_new (w.alloc o1) o2
  have e : (w.alloc o1).heap.size = w.heap.size + 1 := by simp
  rw [e] at h
  exact h
/-- may intervals be? -/
def okI (x : Iv) : Bool := decide (0 ≤ x.f ∧ x.f ≤ x.t)
def okL (L : List Iv) : Bool := L.all okI && decide ((L.map fun x => x.v).Nodup)
theorem makeN0 (n : Nat) (h2 : n < 1099511627776 * 8) : ∃ Z : Array Value, Hid (Z.size = n) ∧ ∀ W : World, (Instr.makeSlice 41 (.int .i64 0) (.int .i64 (n : Int))).run Try.prog W = .ok (.slice (some ⟨W.heap.size, 0, none⟩) 0 n) (W.alloc (.cells Z 3)) := by
  obtain ⟨i0, hi, hz0, hz1, hz2⟩ := info_parts infoN
  refine ⟨madeCells (Value.int .i64 0).cells n, size_madeCells _ _, fun W => ?_⟩
  have hr := run_make (P := Try.prog) W 41 3 i0 (.int .i64 0) Try.underlying41 hi hz0 .i64 .i64 0 n (by omega) (by omega) (by rw [hz2]; omega) (by omega)
  simp only [Int.toNat_natCast, hz1, Int.toNat_zero, Nat.mul_one] at hr
  exact hr
set_option maxRecDepth 100000 in
set_option maxHeartbeats 4000000 in
theorem sc_valid (la : Option Addr) (lc n : Nat) (L : List Iv) (w : World) (hL : IvM w la L) (hn : L.length = n) (hnn : n < 1099511627776 * 8) : Calls Try.prog 13 #[.slice la n lc] w (Still (.bool (okL L)) w) := by
  obtain ⟨i0, hi, hz0, hz1, hz2⟩ := info_parts infoN
  obtain ⟨Z, HZ, hmk⟩ := makeN0 n hnn
  have HL := Lib.hid hL
  have HN := Lib.hid hn
  clear hL hn
  go_enter Try.func13, Try.ntmps13
  go_wp2
  have hR0 : NRow w 0 [] (.slice (some ⟨w.heap.size, 0, none⟩) 0 n) (w.alloc (.cells Z 3)) := ⟨⟨rfl, .inr ⟨_, n, Z, rfl, Nat.zero_le _, heap_new _ _, Nat.zero_le _, by unfold maxLen; omega, by rw [HZ.out, Nat.mul_one], rfl⟩⟩, (Fr.refl _ _).alloc _, fun b hb => by cases hb; exact Nat.le_refl _⟩
  have HR0 := Lib.hid hR0
  clear hR0 hmk
  go_loopw [3, 11] (fun rv i wr => ∃ (k cap g : Nat), k ≤ n ∧ i = .int .i64 k ∧ rv = .slice (some ⟨g, 0, none⟩) k cap ∧ Hid (NRow w k ((L.take k).map fun x => x.v) (.slice (some ⟨g, 0, none⟩) k cap) wr) ∧ Hid ((L.take k).all okI = true)) (fun _ i _ => n - (RowKit.intOf i).toNat)
  case atStart => exact ⟨0, n, _, Nat.zero_le _, rfl, rfl, HR0, Lib.hid rfl⟩
  case round =>
    obtain ⟨k, cap, g, hk, rfl, rfl, HR, HA⟩ := hrel
    by_cases hkn : k < n
    · obtain ⟨x, hx⟩ : ∃ x, L[k]? = some x := ⟨_, List.getElem?_eq_getElem (by rw [HN.out]; exact hkn)⟩
      obtain ⟨gl, ol, rfl, c0, c1, c2⟩ := (HL.out.fr HR.out.fr) k x hx
      have hx9 := (List.getElem?_eq_some_iff.1 hx)
      have HT : Hid (L.take (k + 1) = L.take k ++ [x]) := Lib.hid (by rw [List.take_add_one, hx]; rfl)
      have k0 : (0 : Int) ≤ (k : Int) := by omega
      have k1 : (k : Int) < (n : Int) := by omega
      have HX := Lib.hid hx
      clear hx hx9
      have hbad : okI x = false → okL L = false := fun h => by
        unfold okL
        rw [Bool.and_eq_false_iff]
        refine Or.inl (List.all_eq_false.2 ⟨x, List.mem_of_getElem? HX.out, by rw [h]; simp⟩)
      have HBAD := Lib.hid hbad
      clear hbad
      by_cases hf : x.f < 0
      · have e0 : decide (x.f < 0) = true := by simpa using hf
        go_wp2
        go_ret
        exact ⟨ret1 (vb (HBAD.out (by unfold okI; simp; omega)).symm), HR.out.fr.trans (by (repeat (first | (with_reducible refine Fr.setCell ?_ (fun h => absurd h (Nat.lt_irrefl _)) _) | (with_reducible refine Fr.setCell ?_ (fun h => absurd h (by first | omega | (simp; done) | (simp; omega) | (dsimp only; omega))) _) | (with_reducible refine Fr.alloc ?_ _) | (with_reducible refine Fr.drew ?_) | (with_reducible refine Fr.drewN ?_ _) | (with_reducible exact Fr.refl _ _))))⟩
      · by_cases ht : x.t < x.f
        · have e0 : decide (x.f < 0) = false := by simpa using hf
          have e1 : decide (x.t < x.f) = true := by simpa using ht
          go_wp2
          go_ret
          exact ⟨ret1 (vb (HBAD.out (by unfold okI; simp; omega)).symm), HR.out.fr.trans (by (repeat (first | (with_reducible refine Fr.setCell ?_ (fun h => absurd h (Nat.lt_irrefl _)) _) | (with_reducible refine Fr.setCell ?_ (fun h => absurd h (by first | omega | (simp; done) | (simp; omega) | (dsimp only; omega))) _) | (with_reducible refine Fr.alloc ?_ _) | (with_reducible refine Fr.drew ?_) | (with_reducible refine Fr.drewN ?_ _) | (with_reducible exact Fr.refl _ _))))⟩
        · have e0 : decide (x.f < 0) = false := by simpa using hf
          have e1 : decide (x.t < x.f) = false := by simpa using ht
          have hok : okI x = true := by unfold okI; simp; omega
          have HOK := Lib.hid hok
          clear hok
          have hmx : k + 1 ≤ maxLen := by unfold maxLen; omega
          go_wp2_with (at_builtin; refine wpList_append_at _ rfl (.tmp 25) (.tmp 28) 41 rfl 3 i0 (.int .i64 0) 1 8 Try.underlying41 hi hz0 hz1 hz2 rfl (by decide) (.slice (some ⟨g, 0, none⟩) k cap) k _ rfl (Fr.row (S := []) (by (repeat (first | (with_reducible refine Fr.setCell ?_ (fun h => absurd h (Nat.lt_irrefl _)) _) | (with_reducible refine Fr.setCell ?_ (fun h => absurd h (by first | omega | (simp; done) | (simp; omega) | (dsimp only; omega))) _) | (with_reducible refine Fr.alloc ?_ _) | (with_reducible refine Fr.drew ?_) | (with_reducible refine Fr.drewN ?_ _) | (with_reducible exact Fr.refl _ _)))) HR.out.row (fun _ _ => by simp)) ⟨wr.heap.size + 1, 0, none⟩ 1 1 [.int .i64 x.v] (by first | rfl | (go_simp; done)) rfl (by intro j u hj; rw [Lib.add_plain, Nat.zero_add]; exact cell_of_heap (heap2_new _ _ _) (by simpa using hj)) (by simp [Value.oneCell']) hmx (by omega) ?_; intro v5 w5 ho5 hg5 hf5; have hst := HR.out.step (W1 := _) (by (repeat (first | (with_reducible refine Fr.setCell ?_ (fun h => absurd h (Nat.lt_irrefl _)) _) | (with_reducible refine Fr.setCell ?_ (fun h => absurd h (by first | omega | (simp; done) | (simp; omega) | (dsimp only; omega))) _) | (with_reducible refine Fr.alloc ?_ _) | (with_reducible refine Fr.drew ?_) | (with_reducible refine Fr.drewN ?_ _) | (with_reducible exact Fr.refl _ _)))) ho5 hg5 hf5; obtain ⟨g5, p5, rfl⟩ := nrow_some ho5; have HST := Lib.hid hst; clear hst ho5 hg5 hf5)
          go_roundw
          case rel =>
            refine ⟨k + 1, p5, g5, by omega, by go_num, rfl, Lib.hid ?_, Lib.hid ?_⟩
            · rw [HT.out, List.map_append]
              exact HST.out
            · rw [HT.out, List.all_append, HA.out]
              simp [HOK.out]
          case measure => simp [RowKit.intOf]; omega
    · have hke : k = n := by omega
      subst hke
      have k1 : ¬ (k : Int) < (k : Int) := by omega
      have hzl : (L.map fun x => x.v).length = k := by rw [List.length_map, HN.out]
      have htk : L.take k = L := List.take_of_length_le (by rw [HN.out]; exact Nat.le_refl _)
      have hrow := HR.out.row
      rw [htk] at hrow
      have hall := HA.out
      rw [htk] at hall
      have hng := HR.out.new g rfl
      have hS := sl_sortI (zs := L.map fun x => x.v) (g := g) (cap := cap) (w := wr) (by rw [hzl]; exact hrow) (by omega)
      rw [hzl] at hS
      have HS := Lib.hid hS
      obtain ⟨cl, hcl⟩ : ∃ cl, cl = (Lib.compactUpTo ((L.map fun x => x.v).mergeSort fun x y => decide (x ≤ y)).toArray k).length := ⟨_, rfl⟩
      have HCP : Hid (∀ W : World, W.ownsRow 0 3 1 (.slice (some ⟨g, 0, none⟩) k cap) k (((L.map fun x => x.v).mergeSort fun x y => decide (x ≤ y)).map fun x : Int => .int .i64 x) → Calls Try.prog 19 #[.slice (some ⟨g, 0, none⟩) k cap] W fun e w' => e = .returned (.slice (some ⟨g, 0, none⟩) cl cap) ∧ Fr [g] W w') := Lib.hid fun W hW => by
        have e9 : ((L.map fun x => x.v).mergeSort fun x y => decide (x ≤ y)).length = k := by rw [List.length_mergeSort, hzl]
        have h1 := sl_compact (zs := (L.map fun x => x.v).mergeSort fun x y => decide (x ≤ y)) (g := g) (cap := cap) (w := W) (by rw [e9]; exact hW)
        rw [e9, ← hcl] at h1
        exact h1
      have HQ : Hid (decide ((cl : Int) = (k : Int)) = okL L) := Lib.hid (by
        have h1 := compact_all (L.map fun x => x.v)
        rw [hzl, ← hcl] at h1
        unfold okL
        rw [hall, Bool.true_and, decide_eq_decide, ← h1]
        omega)
      have HF := Lib.hid HR.out.fr
      clear hS hzl htk hrow hall hcl HR HA HR0
      go_wp2_with (first
        | (go_at_call 18; refine HS.out.mono ?_; rintro e w2 ⟨rfl, hF2, hr2⟩; have HF2 := Lib.hid hF2; have HR2 := Lib.hid hr2; clear hF2 hr2)
        | (go_at_call 19; refine (HCP.out _ HR2.out).mono ?_; rintro e w3 ⟨rfl, hF3⟩; have HF3 := Lib.hid hF3; clear hF3))
      go_ret
      refine ⟨ret1 (vb ?_), HF.out.trans' (HF2.out.trans HF3.out) (S'' := []) (fun _ _ e => e) (fun j hj e => by simp only [List.mem_cons, List.not_mem_nil, or_false] at e; omega)⟩
      rw [← HQ.out]
      rfl
end Go.Proofs.Ytomcfjckhajhmaa
