/- scan: the document's order. -/
import Derived.Test.YtomcfjckhajhmaaScnRight
import Derived.Deep.Upon
namespace Go.Proofs.Ytomcfjckhajhmaa
open Go.RowKit

theorem nrow_le {w : World} {b size : Nat} {e : TypeId} {ao : Option Addr} {n m cap : Nat} {xs : List Value} (h : w.ownsRow b e size (.slice ao n cap) m xs) : n ≤ cap := by
  rcases h.2 with ⟨hv, -⟩ | ⟨g, cap', cur, hv, -, -, hnc, -⟩
  · cases hv; exact Nat.le_refl _
  · cases hv; exact hnc
/-- a row of numbers in new memory, by their natural numbers -/
def nums (ys : List Nat) : List Int := ys.map fun k : Nat => (k : Int)
theorem nums_vals (ys : List Nat) : (nums ys).map (fun x : Int => Value.int .i64 x) = ys.map fun k : Nat => .int .i64 (k : Int) := by unfold nums; rw [List.map_map]; rfl
/-- the first i intervals, sorted -/
structure Ord (L : List Iv) (i : Nat) (ys : List Nat) : Prop where
  perm : ys.Perm (List.range i)
  so : (ys.map (getI L)).Pairwise begLt
theorem Ord.len {L : List Iv} {i : Nat} {ys : List Nat} (h : Ord L i ys) : ys.length = i := by rw [h.perm.length_eq]; simp
theorem Ord.put {L : List Iv} {n i k : Nat} {ys : List Nat} (h : Ord L i ys) (hn : L.length = n) (nd : L.Pairwise (fun a b => a.v ≠ b.v)) (hi : i < n) (hk : k ≤ i) (h1 : ∀ (j y : Nat), j < k → ys[j]? = some y → begLt (getI L y) (getI L i)) (h2 : ∀ y, ys[k]? = some y → ¬ begLt (getI L y) (getI L i)) : Ord L (i + 1) (ys.take k ++ [i] ++ ys.drop k) := by
  have hl := h.len
  constructor
  · rw [List.range_succ]
    have e : (ys.take k ++ [i] ++ ys.drop k).Perm (ys.take k ++ ys.drop k ++ [i]) := by
      rw [List.append_assoc, List.append_assoc]
      exact List.Perm.append_left _ (List.perm_append_comm)
    rw [List.take_append_drop] at e
    exact e.trans (h.perm.append_right _)
  · have hm : ∀ y, y ∈ ys → y < i := fun y hy => List.mem_range.1 (h.perm.mem_iff.1 hy)
    have after : ∀ y, y ∈ ys.drop k → begLt (getI L i) (getI L y) := fun y hy => by
      obtain ⟨j, hj⟩ := List.getElem?_of_mem hy
      rw [List.getElem?_drop] at hj
      have hkl : k < ys.length := by have := (List.getElem?_eq_some_iff.1 hj).1; omega
      have h3 := h2 _ (List.getElem?_eq_getElem hkl)
      have hyk := hm _ (List.getElem_mem hkl)
      have hne : (getI L ys[k]).v ≠ (getI L i).v := fun e => by
        have := nd_inj nd (getI_at (by omega)) (getI_at (by omega)) e
        omega
      have h4 : begLt (getI L i) (getI L ys[k]) := by unfold begLt at *; omega
      by_cases e : j = 0
      · subst e
        have := (List.getElem?_eq_some_iff.1 hj).2
        rw [← this]
        exact h4
      · have hj' := List.getElem?_eq_some_iff.1 hj
        have h5 := List.pairwise_iff_getElem.1 (List.pairwise_map.1 h.so) k (k + j) hkl hj'.1 (by omega)
        rw [hj'.2] at h5
        exact h4.trans h5
    rw [List.map_append, List.map_append]
    refine List.pairwise_append.2 ⟨List.pairwise_append.2 ⟨?_, by simp, fun a ha b hb => ?_⟩, ?_, fun a ha b hb => ?_⟩
    · rw [List.map_take]; exact h.so.sublist (List.take_sublist _ _)
    · obtain ⟨y, hy, rfl⟩ := List.mem_map.1 ha
      have e : b = getI L i := by simpa using hb
      rw [e]
      obtain ⟨j, hj⟩ := List.getElem?_of_mem hy
      rw [List.getElem?_take] at hj
      split at hj
      · exact h1 j y (by omega) hj
      · cases hj
    · rw [List.map_drop]; exact h.so.sublist (List.drop_sublist _ _)
    · obtain ⟨z, hz, rfl⟩ := List.mem_map.1 hb
      rcases List.mem_append.1 ha with ha | ha
      · obtain ⟨y, hy, rfl⟩ := List.mem_map.1 ha
        obtain ⟨j, hj⟩ := List.getElem?_of_mem hy
        rw [List.getElem?_take] at hj
        split at hj
        · exact (h1 j y (by omega) hj).trans (after z hz)
        · cases hj
      · have e : a = getI L i := by simpa using ha
        rw [e]
        exact after z hz
theorem nrow_take {w0 : World} {n : Nat} {xs : List Int} {g cap : Nat} {W : World} (h : NRow w0 n xs (.slice (some ⟨g, 0, none⟩) n cap) W) (o : Nat) : ∀ (j : Nat) (u : Value), ((xs.drop o).map fun x : Int => Value.int .i64 x)[j]? = some u → W.cell? ⟨g, o + j, none⟩ = some u := fun j u hj => by
  have hc := h.row.cells (g := g) rfl (o + j) u (by rw [List.getElem?_map] at hj ⊢; rw [List.getElem?_drop] at hj; exact hj)
  rw [Lib.add_plain, Nat.zero_add] at hc
  exact hc
theorem NRow.more {w0 : World} {k m : Nat} {xs ys : List Int} {v v' : Value} {W W1 w1 : World} (h : NRow w0 k xs v W) (hW : Fr [] W W1) (ho : w1.ownsRow 0 3 1 v' (k + m) ((xs.map fun x : Int => Value.int .i64 x) ++ ys.map fun x : Int => Value.int .i64 x)) (hg : W1.grownBy w1 v.ownBlock) (hf : v'.ownBlock = v.ownBlock ∨ v'.ownBlock = some W1.heap.size) : NRow w0 (k + m) (xs ++ ys) v' w1 := by
  refine ⟨by rw [List.map_append]; exact ho, (h.fr.trans hW).grown hg (fun b hb hl => by have := h.new b hb; omega), fun b hb => ?_⟩
  rcases hf with hf | hf
  · exact h.new b (hf ▸ hb)
  · have e := hf.symm.trans hb
    cases e
    exact Nat.le_trans h.fr.size hW.size
theorem NRow.base {w w0 : World} {k : Nat} {xs : List Int} {v : Value} {W : World} (h : NRow w0 k xs v W) (hF : Fr [] w w0) : NRow w k xs v W := ⟨h.row, hF.trans h.fr, fun b hb => Nat.le_trans hF.size (h.new b hb)⟩
set_option maxRecDepth 100000 in
set_option maxHeartbeats 8000000 in
theorem r14_order (la : Option Addr) (lc n : Nat) (L : List Iv) (w : World) (hL : IvM w la L) (hn : L.length = n) (hnn : n < 1099511627776 * 8) (nd : L.Pairwise (fun a b => a.v ≠ b.v)) : Calls Try.prog 17 #[.slice la n lc] w fun e w' => ∃ ao cap, e = .returned (.slice ao n cap) ∧ ∃ ys, Ord L n ys ∧ NRow w n (nums ys) (.slice ao n cap) w' := by
  obtain ⟨i0, hi0, hz0, hz1, hz2⟩ := info_parts infoN
  have HL := Lib.hid hL
  have HN := Lib.hid hn
  have HND := Lib.hid nd
  clear hL hn nd
  go_enter Try.func17, Try.ntmps17
  go_wp2_with fail
  go_loopw [3, 4] (fun ov iv wr => ∃ (i cap : Nat) (ao : Option Addr) (ys : List Nat), i ≤ n ∧ iv = .int .i64 i ∧ ov = .slice ao i cap ∧ Hid (NRow w i (nums ys) (.slice ao i cap) wr) ∧ Hid (Ord L i ys) ∧ (i = 0 → ao = none ∧ cap = 0)) (fun _ iv _ => n - (RowKit.intOf iv).toNat)
  case atStart => exact ⟨0, 0, none, [], Nat.zero_le _, rfl, rfl, Lib.hid ⟨⟨rfl, .inl ⟨rfl, rfl⟩⟩, Fr.refl _ _, fun b h => by cases h⟩, Lib.hid ⟨List.Perm.refl _, List.Pairwise.nil⟩, fun _ => ⟨rfl, rfl⟩⟩
  case round =>
    obtain ⟨i, cap, ao, ys, hi, rfl, rfl, HR, HO, hnil⟩ := hrel
    have HNIL := Lib.hid hnil
    clear hnil
    by_cases hin : i < n
    · have k1 : (i : Int) < (n : Int) := by omega
      have k0 : (0 : Int) ≤ (i : Int) := by omega
      have hx : L[i]? = some (getI L i) := getI_at (by rw [HN.out]; exact hin)
      obtain ⟨x, hxx⟩ : ∃ x, x = getI L i := ⟨_, rfl⟩
      rw [← hxx] at hx
      have HX := Lib.hid hx
      have HXX := Lib.hid hxx
      clear hx hxx
      go_wp2_with fail
      go_loopw [5] (fun kv wr => ∃ k : Nat, k ≤ i ∧ kv = .int .i64 k ∧ Hid (NRow w i (nums ys) (.slice ao i cap) wr) ∧ Hid (∀ (j y : Nat), j < k → ys[j]? = some y → begLt (getI L y) x)) (fun kv _ => i - (RowKit.intOf kv).toNat)
      case atStart => exact ⟨0, Nat.zero_le _, rfl, HR, Lib.hid (fun j y h => by omega)⟩
      case round =>
        obtain ⟨k, hk, rfl, HR2, HB⟩ := hrel
        have HYL : Hid (ys.length = i) := Lib.hid HO.out.len
        have HFW := Lib.hid HR2.out.fr
        have HR1 : Hid (NRow wr 0 [] (.slice none 0 0) wr) := Lib.hid ⟨⟨rfl, .inl ⟨rfl, rfl⟩⟩, Fr.refl _ _, fun b h => by cases h⟩
        have hkk : (0 : Int) ≤ (k : Int) := by omega
        by_cases hi00 : i = 0
        · subst hi00
          have hk0 : k = 0 := by omega
          subst hk0
          have hys : ys = [] := List.eq_nil_of_length_eq_zero HYL.out
          obtain ⟨rfl, rfl⟩ := HNIL.out rfl
          have HPUT := Lib.hid (HO.out.put HN.out HND.out hin hk (fun j y' hj hy' => by omega) (fun y' hy' => by have := (List.getElem?_eq_some_iff.1 hy').1; rw [HYL.out] at this; omega))
          go_wp2_with fail
          go_quiet (fail)
          go_wp2_with (first
            | (at_builtin; refine wpList_append_at _ rfl (.tmp 72) (.tmp 74) 41 rfl 3 i0 (.int .i64 0) 1 8 Try.underlying41 hi0 hz0 hz1 hz2 rfl (by decide) (.slice none 0 0) 0 _ (by first | rfl | (go_simp; done)) (HR1.out.fr' (by (repeat (first | (with_reducible refine Fr.setCell ?_ (fun h => absurd h (Nat.lt_irrefl _)) _) | (with_reducible refine Fr.setCell ?_ (fun h => absurd h (by first | omega | (simp; done) | (simp; omega) | (dsimp only; omega))) _) | (with_reducible refine Fr.alloc ?_ _) | (with_reducible refine Fr.drew ?_) | (with_reducible refine Fr.drewN ?_ _) | (with_reducible exact Fr.refl _ _))))).row ⟨wr.heap.size, 0, none⟩ 1 1 [.int .i64 0] (by first | rfl | (go_simp; done)) rfl (by intro j u hj; rw [Lib.add_plain, Nat.zero_add]; exact cell_of_heap (heap_new _ _) (by simpa using hj)) (by intro u hu; simp only [List.mem_map, List.mem_cons, List.not_mem_nil, or_false] at hu; first | (obtain ⟨_, -, rfl⟩ := hu; rfl) | (subst hu; rfl)) (by unfold maxLen; omega) (by omega) ?_; intro v6 w6 ho6 hg6 hf6; have hst := HR1.out.more (W1 := _) (ys := [(0 : Int)]) (by (repeat (first | (with_reducible refine Fr.setCell ?_ (fun h => absurd h (Nat.lt_irrefl _)) _) | (with_reducible refine Fr.setCell ?_ (fun h => absurd h (by first | omega | (simp; done) | (simp; omega) | (dsimp only; omega))) _) | (with_reducible refine Fr.alloc ?_ _) | (with_reducible refine Fr.drew ?_) | (with_reducible refine Fr.drewN ?_ _) | (with_reducible exact Fr.refl _ _)))) ho6 hg6 hf6; obtain ⟨g6, p6, rfl⟩ := nrow_some ho6; have hle6 := nrow_le ho6; have HR6 := Lib.hid hst; clear hst ho6 hg6 hf6)
            | (at_builtin; refine Lib.wpList_append_run _ rfl _ _ 41 41 rfl (.slice (some ⟨g6, 0, none⟩) (0 + 1) p6) (.slice none 0 0) (by first | rfl | (go_simp; done)) (by first | rfl | (go_simp; done)) _ _ (run_append_nothing _ 41 41 _ 3 i0 rfl hi0 _ _ _ hle6 _ (Src.ofNil rfl 0)) ?_))
          go_roundw
          case rel =>
            refine ⟨1, p6, some ⟨g6, 0, none⟩, [0], by omega, by go_num, by congr 1, Lib.hid ?_, Lib.hid (by have h9 := HPUT.out; rw [hys] at h9; exact h9), fun h => by omega⟩
            have h7 := HR6.out.base HFW.out
            exact h7
          case measure => simp [RowKit.intOf]; omega
        · obtain ⟨g, rfl⟩ : ∃ g, ao = some ⟨g, 0, none⟩ := by
            rcases HR2.out.row.2 with ⟨hv, h0⟩ | ⟨g, cap', cur, hv, -⟩
            · exact absurd h0 hi00
            · exact ⟨g, (Value.slice.inj hv).1⟩
          have hcap : i ≤ cap ∧ cap ≤ maxLen := by
            rcases HR2.out.row.2 with ⟨hv, h0⟩ | ⟨g', cap', cur, hv, -, -, h1, h2, -⟩
            · exact absurd h0 hi00
            · rw [(Value.slice.inj hv).2.2]; exact ⟨h1, h2⟩
          have HTK : Hid (∀ (j : Nat) (u : Value), (((nums ys).take k).map fun x : Int => Value.int .i64 x)[j]? = some u → wr.cell? ⟨g, 0 + j, none⟩ = some u) := Lib.hid fun j u hj => by
            refine nrow_take HR2.out 0 j u ?_
            rw [List.getElem?_map, List.getElem?_take] at hj
            rw [List.drop_zero, List.getElem?_map]
            split at hj
            · exact hj
            · cases hj
          have HDR : Hid (∀ W, Fr [] wr W → ∀ (j : Nat) (u : Value), (((nums ys).drop k).map fun x : Int => Value.int .i64 x)[j]? = some u → W.cell? ⟨g, k + j, none⟩ = some u) := Lib.hid fun W hF j u hj => hF.cell (by simp) (nrow_take HR2.out k j u hj)
          have ck1 : k ≤ cap := by omega
          have ck2 : (k : Int) ≤ (cap : Int) := by omega
          have ck3 : (k : Int) ≤ (i : Int) := by omega
          have ck4 : ¬ cap < k := by omega
          have ck5 : ¬ i < k := by omega
          by_cases hki : k < i
          · have hkl : k < ys.length := by rw [HYL.out]; exact hki
            obtain ⟨y, hyk⟩ : ∃ y, ys[k]? = some y := ⟨_, List.getElem?_eq_getElem hkl⟩
            have hyi : y < i := List.mem_range.1 (HO.out.perm.mem_iff.1 (List.mem_of_getElem? hyk))
            obtain ⟨z, hz⟩ : ∃ z, z = getI L y := ⟨_, rfl⟩
            have hLy : L[y]? = some z := by rw [hz]; exact getI_at (by rw [HN.out]; omega)
            have c5 : wr.cell? ⟨g, k, none⟩ = some (.int .i64 y) := by
              have h5 := nrow_take HR2.out 0 k (.int .i64 y) (by rw [List.drop_zero, nums_vals, List.getElem?_map, hyk]; rfl)
              rw [Nat.zero_add] at h5
              exact h5
            obtain ⟨gl, ol, rfl, i1, i2, i3⟩ := (HL.out.fr HR2.out.fr) i x HX.out
            obtain ⟨gl', ol', hee, d1, d2, d3⟩ := (HL.out.fr HR2.out.fr) y z hLy
            cases hee
            have HYK := Lib.hid hyk
            have HZ := Lib.hid hz
            have y0 : (0 : Int) ≤ (y : Int) := by omega
            have y1 : (y : Int) < (n : Int) := by omega
            have kk1 : (k : Int) < (i : Int) := by omega
            have kk2 : decide ((k : Int) < (i : Int)) = true := by simp; omega
            have kk3 : decide (k < i) = true := by simpa using hki
            have kk4 : k < i := hki
            clear hyk hz hLy hkl
            by_cases hlt : begLt z x
            · have HLT := Lib.hid hlt
              by_cases hf : z.f < x.f
              · have t1 : decide (z.f < x.f) = true := by simpa using hf
                clear hlt
                go_wp2_with fail
                go_quiet (fail)
                go_wp2_with fail
                go_roundw
                case rel =>
                  refine ⟨k + 1, by omega, by go_num, Lib.hid (HR2.out.fr' ((Fr.refl _ _).drewN _)), Lib.hid (fun a b ha hb => ?_)⟩
                  by_cases e : a = k
                  · subst e
                    rw [HYK.out] at hb
                    cases hb
                    rw [← HZ.out]; exact HLT.out
                  · exact HB.out a b (by omega) hb
                case measure => simp [RowKit.intOf]; omega
              · have hfe : z.f = x.f := by unfold begLt at hlt; omega
                have hv : z.v < x.v := by unfold begLt at hlt; omega
                have t1 : decide (z.f < x.f) = false := by simpa using hf
                have t2 : (z.f == x.f) = true := by simpa using hfe
                have t3 : decide (z.v < x.v) = true := by simpa using hv
                rw [hfe] at d2 t1
                clear hlt t2 hf hfe
                go_wp2_with fail
                go_quiet (fail)
                go_wp2_with fail
                go_roundw
                case rel =>
                  refine ⟨k + 1, by omega, by go_num, Lib.hid (HR2.out.fr' ((Fr.refl _ _).drewN _)), Lib.hid (fun a b ha hb => ?_)⟩
                  by_cases e : a = k
                  · subst e
                    rw [HYK.out] at hb
                    cases hb
                    rw [← HZ.out]; exact HLT.out
                  · exact HB.out a b (by omega) hb
                case measure => simp [RowKit.intOf]; omega
            · have HPUT := Lib.hid (HO.out.put HN.out HND.out hin hk (fun j y' hj hy' => by rw [← HXX.out]; exact HB.out j y' hj hy') (fun y' hy' => by rw [HYK.out] at hy'; cases hy'; rw [← HZ.out, ← HXX.out]; exact hlt))
              by_cases hf : z.f = x.f
              · have t1 : decide (z.f < x.f) = false := by simp; omega
                have t3 : decide (z.v < x.v) = false := by unfold begLt at hlt; simp; omega
                rw [hf] at d2 t1
                clear hlt hf
                go_wp2_with fail
                go_quiet (fail)
                go_wp2_with (first
                  | (at_builtin; refine wpList_append_at _ rfl (.tmp 67) (.tmp 70) 41 rfl 3 i0 (.int .i64 0) 1 8 Try.underlying41 hi0 hz0 hz1 hz2 rfl (by decide) (.slice none 0 0) 0 _ (by first | rfl | (go_simp; done)) HR1.out.row ⟨g, 0, none⟩ k cap (((nums ys).take k).map fun x : Int => Value.int .i64 x) (by first | rfl | (go_simp; done)) (by simp [nums, HYL.out]; omega) (fun j u hj => by rw [Lib.add_plain]; exact HTK.out j u hj) (by intro u hu; simp only [List.mem_map, List.mem_cons, List.not_mem_nil, or_false] at hu; first | (obtain ⟨_, -, rfl⟩ := hu; rfl) | (subst hu; rfl)) (by unfold maxLen; omega) (by omega) ?_; intro v5 w5 ho5 hg5 hf5; have hst := HR1.out.more (W1 := _) (by (repeat (first | (with_reducible refine Fr.setCell ?_ (fun h => absurd h (Nat.lt_irrefl _)) _) | (with_reducible refine Fr.setCell ?_ (fun h => absurd h (by first | omega | (simp; done) | (simp; omega) | (dsimp only; omega))) _) | (with_reducible refine Fr.alloc ?_ _) | (with_reducible refine Fr.drew ?_) | (with_reducible refine Fr.drewN ?_ _) | (with_reducible exact Fr.refl _ _)))) ho5 hg5 hf5; obtain ⟨a5, p5, rfl⟩ := nrow_shape ho5; have HR5 := Lib.hid hst; clear hst ho5 hg5 hf5)
                  | (at_builtin; refine wpList_append_at _ rfl (.tmp 72) (.tmp 74) 41 rfl 3 i0 (.int .i64 0) 1 8 Try.underlying41 hi0 hz0 hz1 hz2 rfl (by decide) (.slice a5 (0 + k) p5) (0 + k) _ (by first | rfl | (go_simp; done)) (HR5.out.fr' (by (repeat (first | (with_reducible refine Fr.setCell ?_ (fun h => absurd h (Nat.lt_irrefl _)) _) | (with_reducible refine Fr.setCell ?_ (fun h => absurd h (by first | omega | (simp; done) | (simp; omega) | (dsimp only; omega))) _) | (with_reducible refine Fr.alloc ?_ _) | (with_reducible refine Fr.drew ?_) | (with_reducible refine Fr.drewN ?_ _) | (with_reducible exact Fr.refl _ _))))).row ⟨w5.heap.size, 0, none⟩ 1 1 [.int .i64 i] (by first | rfl | (go_simp; done)) rfl (by intro j u hj; rw [Lib.add_plain, Nat.zero_add]; exact cell_of_heap (heap_new _ _) (by simpa using hj)) (by intro u hu; simp only [List.mem_map, List.mem_cons, List.not_mem_nil, or_false] at hu; first | (obtain ⟨_, -, rfl⟩ := hu; rfl) | (subst hu; rfl)) (by unfold maxLen; omega) (by omega) ?_; intro v6 w6 ho6 hg6 hf6; have hst := HR5.out.more (W1 := _) (ys := [(i : Int)]) (by (repeat (first | (with_reducible refine Fr.setCell ?_ (fun h => absurd h (Nat.lt_irrefl _)) _) | (with_reducible refine Fr.setCell ?_ (fun h => absurd h (by first | omega | (simp; done) | (simp; omega) | (dsimp only; omega))) _) | (with_reducible refine Fr.alloc ?_ _) | (with_reducible refine Fr.drew ?_) | (with_reducible refine Fr.drewN ?_ _) | (with_reducible exact Fr.refl _ _)))) ho6 hg6 hf6; obtain ⟨g6, p6, rfl⟩ := nrow_some ho6; have HR6 := Lib.hid hst; clear hst ho6 hg6 hf6)
                  | (at_builtin; refine wpList_append_at _ rfl (.tmp 76) (.tmp 79) 41 rfl 3 i0 (.int .i64 0) 1 8 Try.underlying41 hi0 hz0 hz1 hz2 rfl (by decide) (.slice (some ⟨g6, 0, none⟩) (0 + k + 1) p6) (0 + k + 1) _ (by first | rfl | (go_simp; done)) (HR6.out.fr' (by (repeat (first | (with_reducible refine Fr.setCell ?_ (fun h => absurd h (Nat.lt_irrefl _)) _) | (with_reducible refine Fr.setCell ?_ (fun h => absurd h (by first | omega | (simp; done) | (simp; omega) | (dsimp only; omega))) _) | (with_reducible refine Fr.alloc ?_ _) | (with_reducible refine Fr.drew ?_) | (with_reducible refine Fr.drewN ?_ _) | (with_reducible exact Fr.refl _ _))))).row _ (i - k) _ (((nums ys).drop k).map fun x : Int => Value.int .i64 x) (by first | rfl | (go_simp; done)) (by simp [nums, HYL.out]) (fun j u hj => by have h9 := HDR.out w6 HR6.out.fr j u hj; first | (rw [Lib.add_plain]; exact h9) | (exact absurd (List.getElem?_eq_some_iff.1 hj).1 (by simp [nums, HYL.out] <;> omega)) | (exfalso; have h8 := (List.getElem?_eq_some_iff.1 hj).1; simp [nums, HYL.out] at h8; omega)) (by intro u hu; simp only [List.mem_map, List.mem_cons, List.not_mem_nil, or_false] at hu; first | (obtain ⟨_, -, rfl⟩ := hu; rfl) | (subst hu; rfl)) (by unfold maxLen; omega) (by omega) ?_; intro v7 w7 ho7 hg7 hf7; have hst := HR6.out.more (W1 := _) (by (repeat (first | (with_reducible refine Fr.setCell ?_ (fun h => absurd h (Nat.lt_irrefl _)) _) | (with_reducible refine Fr.setCell ?_ (fun h => absurd h (by first | omega | (simp; done) | (simp; omega) | (dsimp only; omega))) _) | (with_reducible refine Fr.alloc ?_ _) | (with_reducible refine Fr.drew ?_) | (with_reducible refine Fr.drewN ?_ _) | (with_reducible exact Fr.refl _ _)))) ho7 hg7 hf7; obtain ⟨a7, p7, rfl⟩ := nrow_shape ho7; have HR7 := Lib.hid hst; clear hst ho7 hg7 hf7))
                go_roundw
                case rel =>
                  refine ⟨i + 1, p7, a7, ys.take k ++ [i] ++ ys.drop k, by omega, by go_num, by congr 1; omega, Lib.hid ?_, Lib.hid HPUT.out, fun h => by omega⟩
                  have h7 := HR7.out.base HFW.out
                  have e7 : 0 + k + 1 + (i - k) = i + 1 := by omega
                  rw [e7] at h7
                  have e8 : nums (ys.take k ++ [i] ++ ys.drop k) = [] ++ (nums ys).take k ++ [(i : Int)] ++ (nums ys).drop k := by simp [nums]
                  rw [e8]
                  exact h7
                case measure => simp [RowKit.intOf]; omega
              · have t1 : decide (z.f < x.f) = false := by unfold begLt at hlt; simp; omega
                have t2 : (z.f == x.f) = false := by simpa using hf
                have t4 : decide (z.f = x.f) = false := by simpa using hf
                clear hlt
                go_wp2_with fail
                go_quiet (fail)
                go_wp2_with (first
                  | (at_builtin; refine wpList_append_at _ rfl (.tmp 67) (.tmp 70) 41 rfl 3 i0 (.int .i64 0) 1 8 Try.underlying41 hi0 hz0 hz1 hz2 rfl (by decide) (.slice none 0 0) 0 _ (by first | rfl | (go_simp; done)) HR1.out.row ⟨g, 0, none⟩ k cap (((nums ys).take k).map fun x : Int => Value.int .i64 x) (by first | rfl | (go_simp; done)) (by simp [nums, HYL.out]; omega) (fun j u hj => by rw [Lib.add_plain]; exact HTK.out j u hj) (by intro u hu; simp only [List.mem_map, List.mem_cons, List.not_mem_nil, or_false] at hu; first | (obtain ⟨_, -, rfl⟩ := hu; rfl) | (subst hu; rfl)) (by unfold maxLen; omega) (by omega) ?_; intro v5 w5 ho5 hg5 hf5; have hst := HR1.out.more (W1 := _) (by (repeat (first | (with_reducible refine Fr.setCell ?_ (fun h => absurd h (Nat.lt_irrefl _)) _) | (with_reducible refine Fr.setCell ?_ (fun h => absurd h (by first | omega | (simp; done) | (simp; omega) | (dsimp only; omega))) _) | (with_reducible refine Fr.alloc ?_ _) | (with_reducible refine Fr.drew ?_) | (with_reducible refine Fr.drewN ?_ _) | (with_reducible exact Fr.refl _ _)))) ho5 hg5 hf5; obtain ⟨a5, p5, rfl⟩ := nrow_shape ho5; have HR5 := Lib.hid hst; clear hst ho5 hg5 hf5)
                  | (at_builtin; refine wpList_append_at _ rfl (.tmp 72) (.tmp 74) 41 rfl 3 i0 (.int .i64 0) 1 8 Try.underlying41 hi0 hz0 hz1 hz2 rfl (by decide) (.slice a5 (0 + k) p5) (0 + k) _ (by first | rfl | (go_simp; done)) (HR5.out.fr' (by (repeat (first | (with_reducible refine Fr.setCell ?_ (fun h => absurd h (Nat.lt_irrefl _)) _) | (with_reducible refine Fr.setCell ?_ (fun h => absurd h (by first | omega | (simp; done) | (simp; omega) | (dsimp only; omega))) _) | (with_reducible refine Fr.alloc ?_ _) | (with_reducible refine Fr.drew ?_) | (with_reducible refine Fr.drewN ?_ _) | (with_reducible exact Fr.refl _ _))))).row ⟨w5.heap.size, 0, none⟩ 1 1 [.int .i64 i] (by first | rfl | (go_simp; done)) rfl (by intro j u hj; rw [Lib.add_plain, Nat.zero_add]; exact cell_of_heap (heap_new _ _) (by simpa using hj)) (by intro u hu; simp only [List.mem_map, List.mem_cons, List.not_mem_nil, or_false] at hu; first | (obtain ⟨_, -, rfl⟩ := hu; rfl) | (subst hu; rfl)) (by unfold maxLen; omega) (by omega) ?_; intro v6 w6 ho6 hg6 hf6; have hst := HR5.out.more (W1 := _) (ys := [(i : Int)]) (by (repeat (first | (with_reducible refine Fr.setCell ?_ (fun h => absurd h (Nat.lt_irrefl _)) _) | (with_reducible refine Fr.setCell ?_ (fun h => absurd h (by first | omega | (simp; done) | (simp; omega) | (dsimp only; omega))) _) | (with_reducible refine Fr.alloc ?_ _) | (with_reducible refine Fr.drew ?_) | (with_reducible refine Fr.drewN ?_ _) | (with_reducible exact Fr.refl _ _)))) ho6 hg6 hf6; obtain ⟨g6, p6, rfl⟩ := nrow_some ho6; have HR6 := Lib.hid hst; clear hst ho6 hg6 hf6)
                  | (at_builtin; refine wpList_append_at _ rfl (.tmp 76) (.tmp 79) 41 rfl 3 i0 (.int .i64 0) 1 8 Try.underlying41 hi0 hz0 hz1 hz2 rfl (by decide) (.slice (some ⟨g6, 0, none⟩) (0 + k + 1) p6) (0 + k + 1) _ (by first | rfl | (go_simp; done)) (HR6.out.fr' (by (repeat (first | (with_reducible refine Fr.setCell ?_ (fun h => absurd h (Nat.lt_irrefl _)) _) | (with_reducible refine Fr.setCell ?_ (fun h => absurd h (by first | omega | (simp; done) | (simp; omega) | (dsimp only; omega))) _) | (with_reducible refine Fr.alloc ?_ _) | (with_reducible refine Fr.drew ?_) | (with_reducible refine Fr.drewN ?_ _) | (with_reducible exact Fr.refl _ _))))).row _ (i - k) _ (((nums ys).drop k).map fun x : Int => Value.int .i64 x) (by first | rfl | (go_simp; done)) (by simp [nums, HYL.out]) (fun j u hj => by have h9 := HDR.out w6 HR6.out.fr j u hj; first | (rw [Lib.add_plain]; exact h9) | (exact absurd (List.getElem?_eq_some_iff.1 hj).1 (by simp [nums, HYL.out] <;> omega)) | (exfalso; have h8 := (List.getElem?_eq_some_iff.1 hj).1; simp [nums, HYL.out] at h8; omega)) (by intro u hu; simp only [List.mem_map, List.mem_cons, List.not_mem_nil, or_false] at hu; first | (obtain ⟨_, -, rfl⟩ := hu; rfl) | (subst hu; rfl)) (by unfold maxLen; omega) (by omega) ?_; intro v7 w7 ho7 hg7 hf7; have hst := HR6.out.more (W1 := _) (by (repeat (first | (with_reducible refine Fr.setCell ?_ (fun h => absurd h (Nat.lt_irrefl _)) _) | (with_reducible refine Fr.setCell ?_ (fun h => absurd h (by first | omega | (simp; done) | (simp; omega) | (dsimp only; omega))) _) | (with_reducible refine Fr.alloc ?_ _) | (with_reducible refine Fr.drew ?_) | (with_reducible refine Fr.drewN ?_ _) | (with_reducible exact Fr.refl _ _)))) ho7 hg7 hf7; obtain ⟨a7, p7, rfl⟩ := nrow_shape ho7; have HR7 := Lib.hid hst; clear hst ho7 hg7 hf7))
                go_roundw
                case rel =>
                  refine ⟨i + 1, p7, a7, ys.take k ++ [i] ++ ys.drop k, by omega, by go_num, by congr 1; omega, Lib.hid ?_, Lib.hid HPUT.out, fun h => by omega⟩
                  have h7 := HR7.out.base HFW.out
                  have e7 : 0 + k + 1 + (i - k) = i + 1 := by omega
                  rw [e7] at h7
                  have e8 : nums (ys.take k ++ [i] ++ ys.drop k) = [] ++ (nums ys).take k ++ [(i : Int)] ++ (nums ys).drop k := by simp [nums]
                  rw [e8]
                  exact h7
                case measure => simp [RowKit.intOf]; omega
          · have hke : k = i := by omega
            have kk1 : ¬ (k : Int) < (i : Int) := by omega
            have kk2 : decide ((k : Int) < (i : Int)) = false := by simp; omega
            have kk3 : decide (k < i) = false := by simpa using hki
            have HPUT := Lib.hid (HO.out.put HN.out HND.out hin hk (fun j y' hj hy' => by rw [← HXX.out]; exact HB.out j y' hj hy') (fun y' hy' => by have := (List.getElem?_eq_some_iff.1 hy').1; rw [HYL.out] at this; omega))
            have HEM : Hid (∀ (j : Nat) (u : Value), (((nums ys).drop k).map fun x : Int => Value.int .i64 x)[j]? = some u → False) := Lib.hid (fun j u h => by
              have h8 := (List.getElem?_eq_some_iff.1 h).1
              have h9 := HYL.out
              simp only [List.length_map, List.length_drop, nums] at h8
              omega)
            clear hke
            by_cases hck : cap = k
            · replace hck := hck.symm
              subst hck
              go_wp2_with fail
              go_quiet (fail)
              go_wp2_with (first
                | (at_builtin; refine wpList_append_at _ rfl (.tmp 67) (.tmp 70) 41 rfl 3 i0 (.int .i64 0) 1 8 Try.underlying41 hi0 hz0 hz1 hz2 rfl (by decide) (.slice none 0 0) 0 _ (by first | rfl | (go_simp; done)) HR1.out.row ⟨g, 0, none⟩ k k (((nums ys).take k).map fun x : Int => Value.int .i64 x) (by first | rfl | (go_simp; done)) (by simp [nums, HYL.out]; omega) (fun j u hj => by rw [Lib.add_plain]; exact HTK.out j u hj) (by intro u hu; simp only [List.mem_map, List.mem_cons, List.not_mem_nil, or_false] at hu; first | (obtain ⟨_, -, rfl⟩ := hu; rfl) | (subst hu; rfl)) (by unfold maxLen; omega) (by omega) ?_; intro v5 w5 ho5 hg5 hf5; have hst := HR1.out.more (W1 := _) (by (repeat (first | (with_reducible refine Fr.setCell ?_ (fun h => absurd h (Nat.lt_irrefl _)) _) | (with_reducible refine Fr.setCell ?_ (fun h => absurd h (by first | omega | (simp; done) | (simp; omega) | (dsimp only; omega))) _) | (with_reducible refine Fr.alloc ?_ _) | (with_reducible refine Fr.drew ?_) | (with_reducible refine Fr.drewN ?_ _) | (with_reducible exact Fr.refl _ _)))) ho5 hg5 hf5; obtain ⟨a5, p5, rfl⟩ := nrow_shape ho5; have HR5 := Lib.hid hst; clear hst ho5 hg5 hf5)
                | (at_builtin; refine wpList_append_at _ rfl (.tmp 72) (.tmp 74) 41 rfl 3 i0 (.int .i64 0) 1 8 Try.underlying41 hi0 hz0 hz1 hz2 rfl (by decide) (.slice a5 (0 + k) p5) (0 + k) _ (by first | rfl | (go_simp; done)) (HR5.out.fr' (by (repeat (first | (with_reducible refine Fr.setCell ?_ (fun h => absurd h (Nat.lt_irrefl _)) _) | (with_reducible refine Fr.setCell ?_ (fun h => absurd h (by first | omega | (simp; done) | (simp; omega) | (dsimp only; omega))) _) | (with_reducible refine Fr.alloc ?_ _) | (with_reducible refine Fr.drew ?_) | (with_reducible refine Fr.drewN ?_ _) | (with_reducible exact Fr.refl _ _))))).row ⟨w5.heap.size, 0, none⟩ 1 1 [.int .i64 i] (by first | rfl | (go_simp; done)) rfl (by intro j u hj; rw [Lib.add_plain, Nat.zero_add]; exact cell_of_heap (heap_new _ _) (by simpa using hj)) (by intro u hu; simp only [List.mem_map, List.mem_cons, List.not_mem_nil, or_false] at hu; first | (obtain ⟨_, -, rfl⟩ := hu; rfl) | (subst hu; rfl)) (by unfold maxLen; omega) (by omega) ?_; intro v6 w6 ho6 hg6 hf6; have hst := HR5.out.more (W1 := _) (ys := [(i : Int)]) (by (repeat (first | (with_reducible refine Fr.setCell ?_ (fun h => absurd h (Nat.lt_irrefl _)) _) | (with_reducible refine Fr.setCell ?_ (fun h => absurd h (by first | omega | (simp; done) | (simp; omega) | (dsimp only; omega))) _) | (with_reducible refine Fr.alloc ?_ _) | (with_reducible refine Fr.drew ?_) | (with_reducible refine Fr.drewN ?_ _) | (with_reducible exact Fr.refl _ _)))) ho6 hg6 hf6; obtain ⟨g6, p6, rfl⟩ := nrow_some ho6; have HR6 := Lib.hid hst; clear hst ho6 hg6 hf6)
                | (at_builtin; refine wpList_append_at _ rfl (.tmp 76) (.tmp 79) 41 rfl 3 i0 (.int .i64 0) 1 8 Try.underlying41 hi0 hz0 hz1 hz2 rfl (by decide) (.slice (some ⟨g6, 0, none⟩) (0 + k + 1) p6) (0 + k + 1) _ (by first | rfl | (go_simp; done)) (HR6.out.fr' (by (repeat (first | (with_reducible refine Fr.setCell ?_ (fun h => absurd h (Nat.lt_irrefl _)) _) | (with_reducible refine Fr.setCell ?_ (fun h => absurd h (by first | omega | (simp; done) | (simp; omega) | (dsimp only; omega))) _) | (with_reducible refine Fr.alloc ?_ _) | (with_reducible refine Fr.drew ?_) | (with_reducible refine Fr.drewN ?_ _) | (with_reducible exact Fr.refl _ _))))).row _ 0 _ (((nums ys).drop k).map fun x : Int => Value.int .i64 x) (by first | rfl | (go_simp; done)) (by have h9 := HYL.out; simp [nums]; omega) (fun j u hj => (HEM.out j u hj).elim) (by intro u hu; simp only [List.mem_map, List.mem_cons, List.not_mem_nil, or_false] at hu; first | (obtain ⟨_, -, rfl⟩ := hu; rfl) | (subst hu; rfl)) (by unfold maxLen; omega) (by omega) ?_; intro v7 w7 ho7 hg7 hf7; have hst := HR6.out.more (W1 := _) (by (repeat (first | (with_reducible refine Fr.setCell ?_ (fun h => absurd h (Nat.lt_irrefl _)) _) | (with_reducible refine Fr.setCell ?_ (fun h => absurd h (by first | omega | (simp; done) | (simp; omega) | (dsimp only; omega))) _) | (with_reducible refine Fr.alloc ?_ _) | (with_reducible refine Fr.drew ?_) | (with_reducible refine Fr.drewN ?_ _) | (with_reducible exact Fr.refl _ _)))) ho7 hg7 hf7; obtain ⟨a7, p7, rfl⟩ := nrow_shape ho7; have HR7 := Lib.hid hst; clear hst ho7 hg7 hf7))
              go_roundw
              case rel =>
                refine ⟨i + 1, p7, a7, ys.take k ++ [i] ++ ys.drop k, by omega, by go_num, by congr 1; omega, Lib.hid ?_, Lib.hid HPUT.out, fun h => by omega⟩
                have h7 := HR7.out.base HFW.out
                have e7 : 0 + k + 1 + 0 = i + 1 := by omega
                rw [e7] at h7
                have e8 : nums (ys.take k ++ [i] ++ ys.drop k) = [] ++ (nums ys).take k ++ [(i : Int)] ++ (nums ys).drop k := by simp [nums]
                rw [e8]
                exact h7
              case measure => simp [RowKit.intOf]; omega
            · have ck6 : ¬ k = cap := by omega
              have ck7 : k < cap := by omega
              go_wp2_with fail
              go_quiet (fail)
              go_wp2_with (first
                | (at_builtin; refine wpList_append_at _ rfl (.tmp 67) (.tmp 70) 41 rfl 3 i0 (.int .i64 0) 1 8 Try.underlying41 hi0 hz0 hz1 hz2 rfl (by decide) (.slice none 0 0) 0 _ (by first | rfl | (go_simp; done)) HR1.out.row ⟨g, 0, none⟩ k cap (((nums ys).take k).map fun x : Int => Value.int .i64 x) (by first | rfl | (go_simp; done)) (by simp [nums, HYL.out]; omega) (fun j u hj => by rw [Lib.add_plain]; exact HTK.out j u hj) (by intro u hu; simp only [List.mem_map, List.mem_cons, List.not_mem_nil, or_false] at hu; first | (obtain ⟨_, -, rfl⟩ := hu; rfl) | (subst hu; rfl)) (by unfold maxLen; omega) (by omega) ?_; intro v5 w5 ho5 hg5 hf5; have hst := HR1.out.more (W1 := _) (by (repeat (first | (with_reducible refine Fr.setCell ?_ (fun h => absurd h (Nat.lt_irrefl _)) _) | (with_reducible refine Fr.setCell ?_ (fun h => absurd h (by first | omega | (simp; done) | (simp; omega) | (dsimp only; omega))) _) | (with_reducible refine Fr.alloc ?_ _) | (with_reducible refine Fr.drew ?_) | (with_reducible refine Fr.drewN ?_ _) | (with_reducible exact Fr.refl _ _)))) ho5 hg5 hf5; obtain ⟨a5, p5, rfl⟩ := nrow_shape ho5; have HR5 := Lib.hid hst; clear hst ho5 hg5 hf5)
                | (at_builtin; refine wpList_append_at _ rfl (.tmp 72) (.tmp 74) 41 rfl 3 i0 (.int .i64 0) 1 8 Try.underlying41 hi0 hz0 hz1 hz2 rfl (by decide) (.slice a5 (0 + k) p5) (0 + k) _ (by first | rfl | (go_simp; done)) (HR5.out.fr' (by (repeat (first | (with_reducible refine Fr.setCell ?_ (fun h => absurd h (Nat.lt_irrefl _)) _) | (with_reducible refine Fr.setCell ?_ (fun h => absurd h (by first | omega | (simp; done) | (simp; omega) | (dsimp only; omega))) _) | (with_reducible refine Fr.alloc ?_ _) | (with_reducible refine Fr.drew ?_) | (with_reducible refine Fr.drewN ?_ _) | (with_reducible exact Fr.refl _ _))))).row ⟨w5.heap.size, 0, none⟩ 1 1 [.int .i64 i] (by first | rfl | (go_simp; done)) rfl (by intro j u hj; rw [Lib.add_plain, Nat.zero_add]; exact cell_of_heap (heap_new _ _) (by simpa using hj)) (by intro u hu; simp only [List.mem_map, List.mem_cons, List.not_mem_nil, or_false] at hu; first | (obtain ⟨_, -, rfl⟩ := hu; rfl) | (subst hu; rfl)) (by unfold maxLen; omega) (by omega) ?_; intro v6 w6 ho6 hg6 hf6; have hst := HR5.out.more (W1 := _) (ys := [(i : Int)]) (by (repeat (first | (with_reducible refine Fr.setCell ?_ (fun h => absurd h (Nat.lt_irrefl _)) _) | (with_reducible refine Fr.setCell ?_ (fun h => absurd h (by first | omega | (simp; done) | (simp; omega) | (dsimp only; omega))) _) | (with_reducible refine Fr.alloc ?_ _) | (with_reducible refine Fr.drew ?_) | (with_reducible refine Fr.drewN ?_ _) | (with_reducible exact Fr.refl _ _)))) ho6 hg6 hf6; obtain ⟨g6, p6, rfl⟩ := nrow_some ho6; have HR6 := Lib.hid hst; clear hst ho6 hg6 hf6)
                | (at_builtin; refine wpList_append_at _ rfl (.tmp 76) (.tmp 79) 41 rfl 3 i0 (.int .i64 0) 1 8 Try.underlying41 hi0 hz0 hz1 hz2 rfl (by decide) (.slice (some ⟨g6, 0, none⟩) (0 + k + 1) p6) (0 + k + 1) _ (by first | rfl | (go_simp; done)) (HR6.out.fr' (by (repeat (first | (with_reducible refine Fr.setCell ?_ (fun h => absurd h (Nat.lt_irrefl _)) _) | (with_reducible refine Fr.setCell ?_ (fun h => absurd h (by first | omega | (simp; done) | (simp; omega) | (dsimp only; omega))) _) | (with_reducible refine Fr.alloc ?_ _) | (with_reducible refine Fr.drew ?_) | (with_reducible refine Fr.drewN ?_ _) | (with_reducible exact Fr.refl _ _))))).row _ (i - k) _ (((nums ys).drop k).map fun x : Int => Value.int .i64 x) (by first | rfl | (go_simp; done)) (by simp [nums, HYL.out]) (fun j u hj => (HEM.out j u hj).elim) (by intro u hu; simp only [List.mem_map, List.mem_cons, List.not_mem_nil, or_false] at hu; first | (obtain ⟨_, -, rfl⟩ := hu; rfl) | (subst hu; rfl)) (by unfold maxLen; omega) (by omega) ?_; intro v7 w7 ho7 hg7 hf7; have hst := HR6.out.more (W1 := _) (by (repeat (first | (with_reducible refine Fr.setCell ?_ (fun h => absurd h (Nat.lt_irrefl _)) _) | (with_reducible refine Fr.setCell ?_ (fun h => absurd h (by first | omega | (simp; done) | (simp; omega) | (dsimp only; omega))) _) | (with_reducible refine Fr.alloc ?_ _) | (with_reducible refine Fr.drew ?_) | (with_reducible refine Fr.drewN ?_ _) | (with_reducible exact Fr.refl _ _)))) ho7 hg7 hf7; obtain ⟨a7, p7, rfl⟩ := nrow_shape ho7; have HR7 := Lib.hid hst; clear hst ho7 hg7 hf7))
              go_roundw
              case rel =>
                refine ⟨i + 1, p7, a7, ys.take k ++ [i] ++ ys.drop k, by omega, by go_num, by congr 1; omega, Lib.hid ?_, Lib.hid HPUT.out, fun h => by omega⟩
                have h7 := HR7.out.base HFW.out
                have e7 : 0 + k + 1 + (i - k) = i + 1 := by omega
                rw [e7] at h7
                have e8 : nums (ys.take k ++ [i] ++ ys.drop k) = [] ++ (nums ys).take k ++ [(i : Int)] ++ (nums ys).drop k := by simp [nums]
                rw [e8]
                exact h7
              case measure => simp [RowKit.intOf]; omega
    · have hie : i = n := by omega
      have k1 : ¬ (i : Int) < (n : Int) := by omega
      subst hie
      go_wp2_with fail
      go_ret
      exact ⟨ao, cap, rfl, ys, HO.out, HR.out⟩
end Go.Proofs.Ytomcfjckhajhmaa
