/- gen: an instruction is come to: its map. gen: which instructions are leaders. gen: methods of blocks; words that are none; leaders; a new generator. gen: the leaders, and a new generator. gen: a new generator. -/
import Derived.Test.YtomcfjckhajhmabGreatDoorMGnC
import Derived.RegionTactic
import Derived.BigRegion
namespace Go.Proofs.YtomcfjckhajhmabGreatDoor
open Go.RowKit

set_option maxRecDepth 100000 in
set_option maxHeartbeats 1000000 in
theorem gn_isReached (d : Int) (w : World) : Calls Tryz.prog 40 #[.int .i64 d] w (Gives (.bool (decide (0 ≤ d))) w) := by
  by_cases h : 0 ≤ d
  · rw [decide_eq_true h]
    have h2 : decide (d < 0) = false := by simp; omega
    go_enter Tryz.func40, Tryz.ntmps40
    go_wp2_with fail
    go_ret
    exact ⟨ret1 (vb (by simp [h])), rfl⟩
  · rw [decide_eq_false h]
    go_enter Tryz.func40, Tryz.ntmps40
    go_wp2_with fail
    go_ret
    exact ⟨ret1 (vb (by simp [h])), rfl⟩
theorem gn_registerV (n : Int) (w : World) : Calls Tryz.prog 59 #[.int .i64 n] w (Still (.agg #[.int .i64 0, .int .i64 n, .int .u64 0]) w) := gn_register n w
theorem makeSr (n : Nat) (z : Int) (hz : z = (n : Int)) (h2 : n ≤ 65536) : ∃ Z : Array Value, Hid (Z.size = n * 3) ∧ ∀ W : World, (Instr.makeSlice 54 (.int .i64 0) (.int .i64 z)).run Tryz.prog W = .ok (.slice (some ⟨W.heap.size, 0, none⟩) 0 n) (W.alloc (.cells Z 57)) := by
  subst hz
  obtain ⟨i0, hi, hz0, hz1, hz2⟩ := info_parts infoSrc
  refine ⟨madeCells (Value.agg #[.int .i64 0, .int .i64 0, .int .u64 0]).cells (n * 3), size_madeCells _ _, fun W => ?_⟩
  have hr := run_make (P := Tryz.prog) W 54 57 i0 _ Tryz.underlying54 hi hz0 .i64 .i64 0 n (by omega) (by omega) (by rw [hz2]; omega) (by omega)
  simp only [Int.toNat_natCast, hz1, Int.toNat_zero] at hr
  exact hr
theorem made_row {W : World} {Z : Array Value} {n : Nat} (hZ : Z.size = n * 3) (hn : n ≤ 65536) : IGrows W 57 3 0 [] (.slice (some ⟨W.heap.size, 0, none⟩) 0 n) (W.alloc (.cells Z 57)) :=
  ⟨⟨by simp, .inr ⟨W.heap.size, n, Z, rfl, Nat.zero_le _, heap_new _ _, Nat.zero_le _, by unfold maxLen; omega, hZ, by simp⟩⟩, (Fr.refl [] W).alloc _, fun b hb => by cases hb; exact Nat.le_refl _⟩
theorem treg_step {t k : Nat} (h : k < t) : (tregs (t : Int)).take (k + 1) = (tregs (t : Int)).take k ++ [regS (k : Int)] := take_snoc (by simp [tregs, h])
theorem treg_all (t : Nat) : (tregs (t : Int)).take t = tregs (t : Int) := by rw [List.take_of_length_le]; simp [tregs]
theorem treg_len (t : Nat) : (tregs (t : Int)).length = t := by simp [tregs]
theorem GIs.append_notes {κ : GK} {w1 : World} {gb : Nat} {X : List (Nat × Obj)} {na : Option Addr} {nc : Nat} {N : List Sr} {g : GS} {W : World} (h : GIs κ w1 gb X na nc N g W) {va : Option Addr} {vc n : Nat} {us : List Value} (hown : W.ownsRow 0 57 3 (.slice va n vc) n us) (hn : n + N.length ≤ 100000) (ty : TypeId) : ∃ v' w', (Builtin.append_ #[54, 98] ty #[.slice va n vc, .slice na N.length nc]).run Tryz.prog W = .ok v' w' ∧ w'.ownsRow 0 57 3 v' (n + N.length) (us ++ flatS N) ∧ W.grownBy w' (Value.slice va n vc).ownBlock ∧ (v'.ownBlock = (Value.slice va n vc).ownBlock ∨ v'.ownBlock = some W.heap.size) := by
  obtain ⟨u, h1, -⟩ := h
  cases na with
  | none =>
    obtain ⟨i0, hi, hz0, hz1, hz2⟩ := info_parts infoSrc
    rcases h1.notes.2 with ⟨hv, h0⟩ | ⟨g', cap, cur, hv, -⟩
    · have hN0 : N = [] := List.length_eq_zero_iff.1 h0
      have hc : nc = 0 := by simp only [Value.slice.injEq] at hv; exact hv.2.2
      subst hN0 hc
      rw [append_types W 54 98 ty _ _ Tryz.underlying54 Tryz.underlying98]
      refine ⟨.slice va n vc, W, run_append_owned_none (P := Tryz.prog) (w := W) 0 54 ty 57 i0 3 Tryz.underlying54 hi (.slice va n vc) n us hown, by simpa [flatS] using hown, ⟨rfl, rfl, rfl, Nat.le_refl _, fun _ _ _ => rfl⟩, .inl rfl⟩
    · cases hv
  | some ad =>
    rcases h1.notes.2 with ⟨hv, h0⟩ | ⟨g', cap, cur, hv, -, h2, -, -, -, h6⟩
    · cases hv
    · cases hv
      have hR : RowB W g' 57 (flatS N) := ⟨cur, h2, cur.toList.drop (N.length * 3), by rw [← h6, List.take_append_drop]⟩
      exact append_srcs_run ty 54 98 Tryz.underlying54 Tryz.underlying98 va vc n us hown N g' 0 nc (fun j u hj => by rw [Nat.zero_add]; exact hR.cell hj) hn
/-- Returned: a map, in a block beside the generator, and what is noted. -/
def EnterTo (κ : GK) (w1 : World) (gb : Nat) (X : List (Nat × Obj)) (L N : List Sr) (g : GS) (e : Ending) (w' : World) : Prop := ∃ a c X' na nc, e = .returned (.slice a L.length c) ∧ InX w1 X' a L c ∧ (∀ x ∈ X, x ∈ X') ∧ GIs κ w1 gb X' na nc N g w'
theorem entered {κ : GK} {w1 : World} {gb : Nat} {X : List (Nat × Obj)} {na : Option Addr} {nc : Nat} {N : List Sr} {g : GS} {W w6 : World} {t m : Nat} (_ht : κ.m.temps = (t : Int)) (hm : m = N.length) (h : GIs κ w1 gb X na nc N g W) {a6 : Option Addr} {c6 : Nat} (hG : IGrows W 57 3 (t + m) (flatS (tregs (t : Int)) ++ flatS N) (.slice a6 (t + m) c6) w6) : EnterTo κ w1 gb X (tregs (t : Int) ++ N) N g (.returned (.slice a6 (t + m) c6)) w6 := by
  have hl : (tregs (t : Int) ++ N).length = t + m := by rw [List.length_append, treg_len, hm]
  have hf : flatS (tregs (t : Int) ++ N) = flatS (tregs (t : Int)) ++ flatS N := by simp [flatS]
  rcases hG.row.2 with ⟨hv, h0⟩ | ⟨g', cap, cur, hv, -, h2, h3, h4, -, h6⟩
  · refine ⟨a6, c6, X, na, nc, by rw [hl], ⟨by rw [hl]; exact slok_of hG, .inl (List.length_eq_zero_iff.1 (by omega))⟩, fun x hx => hx, h.fr0 hG.fr⟩
  · cases hv
    have hge := hG.new g' rfl
    refine ⟨some ⟨g', 0, none⟩, c6, (g', .cells cur 57 (0, 0)) :: X, na, nc, by rw [hl], ⟨by rw [hl]; exact slok_of hG, .inr ⟨g', cur, cur.toList.drop ((t + m) * 3), rfl, ?_, List.mem_cons_self .., ?_⟩⟩, fun x hx => List.mem_cons_of_mem _ hx, h.fresh hG.fr h2 hge⟩
    · have := h.fr.size
      omega
    · rw [hf, ← h6, List.take_append_drop]
section
variable {κ : GK} {w1 : World} {gb : Nat} {X : List (Nat × Obj)} {na : Option Addr} {nc : Nat} {N : List Sr} {g : GS} {W : World}
set_option maxRecDepth 100000 in
set_option maxHeartbeats 4000000 in
theorem gn_enter_off (h : GIs κ w1 gb X na nc N g W) {p n gd od : Nat} (hda : κ.da = some ⟨gd, od, none⟩) (hdl : κ.dl = n) (hp : p < n) (hn2 : n ≤ 128) (hd : ∀ W', Fr [gb] w1 W' → W'.cell? ⟨gd, od + p, none⟩ = some (.int .i64 (-1))) : Calls Tryz.prog 42 #[.pointer (some ⟨gb, 0, none⟩), .int .i64 p] W (EnterTo κ w1 gb X [] N g) := by
  have hgb := h.lt
  have HG := Lib.hid h
  have c0 := hd W h.fr
  have hgc : gd < W.heap.size := World.block_lt_of_cell? W _ c0
  have p6 := h.rowCells.2.1
  rw [hda, hdl] at p6
  have k0 : (0 : Int) ≤ (p : Int) := by omega
  have k1 : (p : Int) < (n : Int) := by omega
  clear h hda hdl hd
  go_enter Tryz.func42, Tryz.ntmps42
  go_wp2_with (go_at_call 40; refine (gn_isReached _ _).mono ?_; rintro e w2 ⟨rfl, rfl⟩)
  go_ret
  exact ⟨none, 0, X, na, nc, rfl, InX.nil, fun x hx => hx, HG.out⟩
set_option maxRecDepth 100000 in
set_option maxHeartbeats 4000000 in
theorem gn_enter_on (h : GIs κ w1 gb X na nc N g W) (hT : 0 ≤ κ.m.temps ∧ κ.m.temps ≤ 16) (hN : N.length ≤ 900) {p n gd od ge oe : Nat} (hda : κ.da = some ⟨gd, od, none⟩) (hdl : κ.dl = n) (hea : κ.ea = some ⟨ge, oe, none⟩) (hel : κ.el = n) (hp : p < n) (hn2 : n ≤ 128) (d : Nat) (hd : ∀ W', Fr [gb] w1 W' → W'.cell? ⟨gd, od + p, none⟩ = some (.int .i64 d)) (hx : ∀ W', Fr [gb] w1 W' → W'.cell? ⟨ge, oe + p, none⟩ = some (.bool false)) : Calls Tryz.prog 42 #[.pointer (some ⟨gb, 0, none⟩), .int .i64 p] W (EnterTo κ w1 gb X (tregs κ.m.temps ++ N) N g) := by
  have hgb := h.lt
  have HG := Lib.hid h
  have c0 := hd W h.fr
  have hgc : gd < W.heap.size := World.block_lt_of_cell? W _ c0
  have p6 := h.rowCells.2.1
  rw [hda, hdl] at p6
  have x0 := hx W h.fr
  have hge : ge < W.heap.size := World.block_lt_of_cell? W _ x0
  have p7 := h.rowCells.2.2
  rw [hea, hel] at p7
  have p8 := h.notesCell
  have k0 : (0 : Int) ≤ (p : Int) := by omega
  have k1 : (p : Int) < (n : Int) := by omega
  have d0 : (0 : Int) ≤ (d : Int) := by omega
  have p1 : W.cell? ⟨gb, 1, none⟩ = some (.int .i64 κ.m.temps) := by obtain ⟨u, h1, h2⟩ := h; exact cell_of_heap h1.box rfl
  obtain ⟨m, hm⟩ : ∃ m, m = N.length := ⟨_, rfl⟩
  rw [← hm] at p8 hN
  have HM := Lib.hid hm
  obtain ⟨t, ht⟩ : ∃ t : Nat, κ.m.temps = (t : Int) := ⟨κ.m.temps.toNat, by omega⟩
  rw [ht] at p1 hT ⊢
  have HTT := Lib.hid ht
  have e1 : IntKind.i64.wrap ((t : Int) + (m : Int)) = (t : Int) + (m : Int) := IntWalk.i64_in _ (by omega)
  have t16 : t ≤ 16 := by omega
  clear h hda hdl hd hea hel hx hm ht
  go_enter Tryz.func42, Tryz.ntmps42
  go_upto_region 10 with (go_at_call 40; refine (gn_isReached _ _).mono ?_; rintro e w2 ⟨rfl, rfl⟩)
  obtain ⟨Z, HZ, hmk⟩ := makeSr (t + m) ((t : Int) + (m : Int)) (by push_cast; rfl) (by omega)
  obtain ⟨i0, hi, hz0, hz1, hz2⟩ := info_parts infoSrc
  go_region
  go_wp2_with fail
  have HMR : Hid (IGrows W 57 3 0 [] (.slice (some ⟨W.heap.size, 0, none⟩) 0 (t + m)) ((W.alloc (.cells Z 57)).drew)) := Lib.hid ((made_row HZ.out (by omega)).fr' ((Fr.refl [] _).drew))
  go_loopw [6, 62] (fun v i wr => ∃ k : Nat, k ≤ t ∧ i = .int .i64 k ∧ Hid (IGrows W 57 3 k (flatS ((tregs (t : Int)).take k)) v wr)) (fun _ i _ => t - (intOf i).toNat)
  case atStart => exact ⟨0, Nat.zero_le _, rfl, Lib.hid (by simpa [flatS] using HMR.out)⟩
  case round =>
    obtain ⟨k, hk, rfl, HR⟩ := hrel
    obtain ⟨ao, cap, rfl⟩ := irow_shape HR.out.row
    by_cases hlt : k < t
    · have HST := Lib.hid (treg_step hlt)
      have y0 : (0 : Int) ≤ (k : Int) := by omega
      have y1 : (k : Int) < (t : Int) := by omega
      go_wp2_with (first
        | (go_at_call 59; refine (gn_registerV k _).mono ?_; rintro e w2 ⟨rfl, hF⟩; have HF2 := Lib.hid hF; have HRW : Hid ((w2.alloc (.cells #[.int .i64 0, .int .i64 k, .int .u64 0] 57)).ownsRow 0 57 3 (.slice ao k cap) k (flatS ((tregs (t : Int)).take k))) := Lib.hid ((HR.out.fr' (hF.alloc _)).row); have HNW := Lib.hid (heap_new w2 (.cells #[.int .i64 0, .int .i64 k, .int .u64 0] 57)); clear hF)
        | (at_builtin; refine wpList_append_at _ rfl (.tmp 65) (.tmp 68) 54 rfl 57 i0 _ 3 24 Tryz.underlying54 hi hz0 hz1 hz2 rfl (by decide) (.slice ao k cap) k _ rfl HRW.out ⟨w2.heap.size, 0, none⟩ 1 1 [.int .i64 0, .int .i64 k, .int .u64 0] rfl rfl (by
            intro j u hj
            rw [Lib.add_plain, Nat.zero_add]
            exact cell_of_heap HNW.out (by simpa using hj)) (by simp [Value.oneCell']) (by unfold maxLen; omega) (by omega) ?_; intro v5 w5 ho5 hg5 hf5; obtain ⟨a5, p5, rfl⟩ := irow_shape ho5; have HGn := Lib.hid (HR.out.step (HF2.out.alloc _) ho5 hg5 hf5); clear ho5 hg5 hf5))
      go_roundw
      case rel => exact ⟨k + 1, by omega, by go_num, Lib.hid (by rw [HST.out, flatS_snoc]; exact HGn.out)⟩
      case measure => simp [intOf]; omega
    · have hke : k = t := by omega
      have HR2 : Hid (IGrows W 57 3 t (flatS (tregs (t : Int))) (.slice ao t cap) wr) := Lib.hid (by have h9 := HR.out; rw [hke, treg_all] at h9; exact h9)
      have hkd : ¬ (k : Int) < (t : Int) := by omega
      have hG4 := HG.out.fr0 HR2.out.fr
      have q8 := hG4.notesCell
      rw [← HM.out] at q8
      have hg4 := hG4.lt
      obtain ⟨v6, w6, hrun, ho6, hg6, hf6⟩ := hG4.append_notes HR2.out.row (by have := HM.out; omega) 54
      rw [← HM.out] at hrun ho6
      obtain ⟨a6, c6, rfl⟩ := irow_shape ho6
      have HG6 : Hid (IGrows W 57 3 (t + m) (flatS (tregs (t : Int)) ++ flatS N) (.slice a6 (t + m) c6) w6) := Lib.hid (HR2.out.step (Fr.refl [] wr) ho6 hg6 hf6)
      clear hG4 ho6 hg6 hf6 HR
      subst hke
      go_wp2_with (at_builtin; refine Lib.wpList_append_run wr rfl (.tmp 71) (.tmp 75) 54 98 rfl _ _ rfl rfl _ w6 hrun ?_)
      go_ret
      exact entered HTT.out HM.out HG.out HG6.out
set_option maxRecDepth 100000 in
set_option maxHeartbeats 4000000 in
theorem gn_enter_lead (h : GIs κ w1 gb X na nc N g W) (hT : 0 ≤ κ.m.temps ∧ κ.m.temps ≤ 16) {p n gd od ge oe : Nat} (hda : κ.da = some ⟨gd, od, none⟩) (hdl : κ.dl = n) (hea : κ.ea = some ⟨ge, oe, none⟩) (hel : κ.el = n) (hp : p < n) (hn2 : n ≤ 128) (d : Nat) (hd : ∀ W', Fr [gb] w1 W' → W'.cell? ⟨gd, od + p, none⟩ = some (.int .i64 d)) (hx : ∀ W', Fr [gb] w1 W' → W'.cell? ⟨ge, oe + p, none⟩ = some (.bool true)) (hd9 : d ≤ 900) : Calls Tryz.prog 42 #[.pointer (some ⟨gb, 0, none⟩), .int .i64 p] W (EnterTo κ w1 gb X (tregs κ.m.temps ++ homes κ.m.temps d) (homes κ.m.temps d) g) := by
  have hgb := h.lt
  have HG := Lib.hid h
  have c0 := hd W h.fr
  have hgc : gd < W.heap.size := World.block_lt_of_cell? W _ c0
  have p6 := h.rowCells.2.1
  rw [hda, hdl] at p6
  have x0 := hx W h.fr
  have hge : ge < W.heap.size := World.block_lt_of_cell? W _ x0
  have p7 := h.rowCells.2.2
  rw [hea, hel] at p7
  have z8 : W.frozen? ⟨gb, 8, none⟩ = false := by obtain ⟨u, h1, h2⟩ := h; exact frozen_of_heap h1.box
  have p8 := h.notesCell
  have k0 : (0 : Int) ≤ (p : Int) := by omega
  have k1 : (p : Int) < (n : Int) := by omega
  have d0 : (0 : Int) ≤ (d : Int) := by omega
  have p1 : W.cell? ⟨gb, 1, none⟩ = some (.int .i64 κ.m.temps) := by obtain ⟨u, h1, h2⟩ := h; exact cell_of_heap h1.box rfl
  have HCL : Hid (∀ W', Fr [] W W' → GIs κ w1 gb X none 0 [] g (W'.setCell ⟨gb, 8, none⟩ (.slice none 0 0))) := Lib.hid fun W' hF => by obtain ⟨u, h1, h2⟩ := h.fr0 hF; exact ⟨u, h1.cleared, h2⟩
  have HDD := Lib.hid hd
  have HHO : Hid (∀ (k : Nat) na' nc' N' g' X' W', k ≤ 1000 → GIs κ w1 gb X' na' nc' N' g' W' → Calls Tryz.prog 58 #[.pointer (some ⟨gb, 0, none⟩), .int .i64 (k : Int)] W' (Still (home κ.m.temps k).v W')) := Lib.hid fun k na' nc' N' g' X' W' hk hG => gn_home hG hT rfl hk
  have HDA : Hid (κ.da = some ⟨gd, od, none⟩ ∧ κ.dl = n) := Lib.hid ⟨hda, hdl⟩
  obtain ⟨m, hm⟩ : ∃ m, m = d := ⟨_, rfl⟩
  obtain ⟨t, ht⟩ : ∃ t : Nat, κ.m.temps = (t : Int) := ⟨κ.m.temps.toNat, by omega⟩
  rw [ht] at p1 hT HHO ⊢
  have HTT := Lib.hid ht
  have t16 : t ≤ 16 := by omega
  clear h hda hdl hd hea hel hx ht
  go_enter Tryz.func42, Tryz.ntmps42
  go_upto_region 5 with (go_at_call 40; refine (gn_isReached _ _).mono ?_; rintro e w2 ⟨rfl, rfl⟩)
  obtain ⟨W3, hW3⟩ : ∃ W3, W3 = W.setCell ⟨gb, 8, none⟩ (.slice none 0 0) := ⟨_, rfl⟩
  rw [← hW3]
  have hG3 : GIs κ w1 gb X none 0 [] g W3 := by rw [hW3]; exact HCL.out W (Fr.refl _ _)
  have r6 := hG3.rowCells.2.1
  rw [HDA.out.1, HDA.out.2] at r6
  have s0 := HDD.out W3 hG3.fr
  have hgb3 := hG3.lt
  have hgd3 : gd < W3.heap.size := World.block_lt_of_cell? W3 _ s0
  have HG3 := Lib.hid hG3
  clear hW3 hG3 c0 hgc p6 x0 hge p7 z8 p8 p1 hgb HG HCL
  go_wp2_with fail
  go_loopw [34] (fun i wr => ∃ k : Nat, k ≤ d ∧ i = .int .i64 k ∧ ∃ na' nc', Hid (GIs κ w1 gb X na' nc' (homes (t : Int) k) g wr)) (fun i _ => d - (intOf i).toNat)
  case atStart => exact ⟨0, Nat.zero_le _, rfl, none, 0, HG3.out⟩
  case round =>
    obtain ⟨k, hk, rfl, na2, nc2, HK⟩ := hrel
    have hgk := HK.out.lt
    by_cases hlt : k < d
    · have hkd : (k : Int) < (d : Int) := by omega
      have HSN := Lib.hid (homes_snoc (t : Int) k)
      have HLK : Hid ((homes (t : Int) k).length ≤ 1000) := Lib.hid (by rw [homes_len]; omega)
      obtain ⟨D, hD⟩ : ∃ D, D = home (t : Int) k := ⟨_, rfl⟩
      have hh : Hid (∀ W', Fr [] wr W' → Calls Tryz.prog 58 #[.pointer (some ⟨gb, 0, none⟩), .int .i64 (k : Int)] W' (Still D.v W')) := Lib.hid fun W' hF => by rw [hD]; exact HHO.out k _ _ _ _ _ W' (by omega) (HK.out.fr0 hF)
      rw [← hD] at HSN
      obtain ⟨ek, en, ew⟩ := D
      unfold Sr.v at hh
      clear hD
      go_wp2_with fail
      go_region_law (first
        | (go_simp; go_at_call 58; refine (hh.out _ (by (repeat (first | (with_reducible refine Fr.setCell ?_ (fun h => absurd h (Nat.lt_irrefl _)) _) | (with_reducible refine Fr.setCell ?_ (fun h => absurd h (by first | omega | (simp; done) | (simp; omega) | (dsimp only; omega))) _) | (with_reducible refine Fr.alloc ?_ _) | (with_reducible refine Fr.drew ?_) | (with_reducible refine Fr.drewN ?_ _) | (with_reducible exact Fr.refl _ _))))).mono ?_; rintro e w2 ⟨rfl, hF⟩; have HF2 : Hid (Fr [] wr w2) := Lib.hid (Fr.trans (by (repeat (first | (with_reducible refine Fr.setCell ?_ (fun h => absurd h (Nat.lt_irrefl _)) _) | (with_reducible refine Fr.setCell ?_ (fun h => absurd h (by first | omega | (simp; done) | (simp; omega) | (dsimp only; omega))) _) | (with_reducible refine Fr.alloc ?_ _) | (with_reducible refine Fr.drew ?_) | (with_reducible refine Fr.drewN ?_ _) | (with_reducible exact Fr.refl _ _)))) hF); clear hF)
        | (go_simp; go_at_call 57; refine (gn_push (HK.out.fr0 (by (repeat (first | (with_reducible refine Fr.setCell ?_ (fun h => absurd h (Nat.lt_irrefl _)) _) | (with_reducible refine Fr.setCell ?_ (fun h => absurd h (by first | omega | (simp; done) | (simp; omega) | (dsimp only; omega))) _) | (with_reducible refine Fr.alloc ?_ _) | (with_reducible refine Fr.drew ?_) | (with_reducible refine Fr.drewN ?_ _) | (with_reducible exact HF2.out))))) ⟨ek, en, ew⟩ HLK.out).mono ?_; rintro e w3 ⟨rfl, na3, nc3, hG⟩; have HG4 := Lib.hid hG; clear hG))
      all_goals (try go_wp2_with fail)
      all_goals go_roundw
      all_goals first
        | exact ⟨k + 1, by omega, by go_num, na3, nc3, Lib.hid (by rw [HSN.out]; exact HG4.out.fr0 (by (repeat (first | (with_reducible refine Fr.setCell ?_ (fun h => absurd h (Nat.lt_irrefl _)) _) | (with_reducible refine Fr.setCell ?_ (fun h => absurd h (by first | omega | (simp; done) | (simp; omega) | (dsimp only; omega))) _) | (with_reducible refine Fr.alloc ?_ _) | (with_reducible refine Fr.drew ?_) | (with_reducible refine Fr.drewN ?_ _) | (with_reducible exact Fr.refl _ _)))))⟩
        | (simp [intOf]; omega)
    · have hke : k = d := by omega
      have hkd : ¬ (k : Int) < (d : Int) := by omega
      obtain ⟨wq, hwq⟩ : ∃ wq, wq = wr := ⟨_, rfl⟩
      rw [← hwq] at HK hgk ⊢
      have HGE : Hid (GIs κ w1 gb X na2 nc2 (homes (t : Int) d) g wq) := Lib.hid (by rw [← hke]; exact HK.out)
      have hm2 : m = (homes (t : Int) d).length := by rw [homes_len]; exact hm
      have HM := Lib.hid hm2
      have p8 := HGE.out.notesCell
      rw [← hm2] at p8
      have p1 : wq.cell? ⟨gb, 1, none⟩ = some (.int .i64 (t : Int)) := by obtain ⟨u, h1, h2⟩ := HGE.out; rw [← HTT.out]; exact cell_of_heap h1.box rfl
      have hN : m ≤ 900 := by omega
      have e1 : IntKind.i64.wrap ((t : Int) + (m : Int)) = (t : Int) + (m : Int) := IntWalk.i64_in _ (by omega)
      obtain ⟨Z, HZ, hmk⟩ := makeSr (t + m) ((t : Int) + (m : Int)) (by push_cast; rfl) (by omega)
      obtain ⟨i0, hi, hz0, hz1, hz2⟩ := info_parts infoSrc
      clear hwq hm hm2 hke hlt HK
      go_wp2_with fail
      go_region
      go_wp2_with fail
      have HMR : Hid (IGrows wq 57 3 0 [] (.slice (some ⟨wq.heap.size, 0, none⟩) 0 (t + m)) ((wq.alloc (.cells Z 57)).drew)) := Lib.hid ((made_row HZ.out (by omega)).fr' ((Fr.refl [] _).drew))
      go_loopw [6, 62] (fun v i wr => ∃ k : Nat, k ≤ t ∧ i = .int .i64 k ∧ Hid (IGrows wq 57 3 k (flatS ((tregs (t : Int)).take k)) v wr)) (fun _ i _ => t - (intOf i).toNat)
      case atStart => exact ⟨0, Nat.zero_le _, rfl, Lib.hid (by simpa [flatS] using HMR.out)⟩
      case round =>
        obtain ⟨k, hk, rfl, HR⟩ := hrel
        obtain ⟨ao, cap, rfl⟩ := irow_shape HR.out.row
        by_cases hlt : k < t
        · have HST := Lib.hid (treg_step hlt)
          have y0 : (0 : Int) ≤ (k : Int) := by omega
          have y1 : (k : Int) < (t : Int) := by omega
          go_wp2_with (first
            | (go_at_call 59; refine (gn_registerV k _).mono ?_; rintro e w2 ⟨rfl, hF⟩; have HF2 := Lib.hid hF; have HRW : Hid ((w2.alloc (.cells #[.int .i64 0, .int .i64 k, .int .u64 0] 57)).ownsRow 0 57 3 (.slice ao k cap) k (flatS ((tregs (t : Int)).take k))) := Lib.hid ((HR.out.fr' (hF.alloc _)).row); have HNW := Lib.hid (heap_new w2 (.cells #[.int .i64 0, .int .i64 k, .int .u64 0] 57)); clear hF)
            | (at_builtin; refine wpList_append_at _ rfl (.tmp 65) (.tmp 68) 54 rfl 57 i0 _ 3 24 Tryz.underlying54 hi hz0 hz1 hz2 rfl (by decide) (.slice ao k cap) k _ rfl HRW.out ⟨w2.heap.size, 0, none⟩ 1 1 [.int .i64 0, .int .i64 k, .int .u64 0] rfl rfl (by
                intro j u hj
                rw [Lib.add_plain, Nat.zero_add]
                exact cell_of_heap HNW.out (by simpa using hj)) (by simp [Value.oneCell']) (by unfold maxLen; omega) (by omega) ?_; intro v5 w5 ho5 hg5 hf5; obtain ⟨a5, p5, rfl⟩ := irow_shape ho5; have HGn := Lib.hid (HR.out.step (HF2.out.alloc _) ho5 hg5 hf5); clear ho5 hg5 hf5))
          go_roundw
          case rel => exact ⟨k + 1, by omega, by go_num, Lib.hid (by rw [HST.out, flatS_snoc]; exact HGn.out)⟩
          case measure => simp [intOf]; omega
        · have hke : k = t := by omega
          have HR2 : Hid (IGrows wq 57 3 t (flatS (tregs (t : Int))) (.slice ao t cap) wr) := Lib.hid (by have h9 := HR.out; rw [hke, treg_all] at h9; exact h9)
          have hkd : ¬ (k : Int) < (t : Int) := by omega
          have hG4 := HGE.out.fr0 HR2.out.fr
          have q8 := hG4.notesCell
          rw [← HM.out] at q8
          have hg4 := hG4.lt
          obtain ⟨v6, w6, hrun, ho6, hg6, hf6⟩ := hG4.append_notes HR2.out.row (by have := HM.out; omega) 54
          rw [← HM.out] at hrun ho6
          obtain ⟨a6, c6, rfl⟩ := irow_shape ho6
          have HG6 : Hid (IGrows wq 57 3 (t + m) (flatS (tregs (t : Int)) ++ flatS (homes (t : Int) d)) (.slice a6 (t + m) c6) w6) := Lib.hid (HR2.out.step (Fr.refl [] wr) ho6 hg6 hf6)
          clear hG4 ho6 hg6 hf6 HR
          subst hke
          go_wp2_with (at_builtin; refine Lib.wpList_append_run wr rfl (.tmp 71) (.tmp 75) 54 98 rfl _ _ rfl rfl _ w6 hrun ?_)
          go_ret
          exact entered HTT.out HM.out HGE.out HG6.out
end
end Go.Proofs.YtomcfjckhajhmabGreatDoor
namespace Go.Proofs.YtomcfjckhajhmabGreatDoor
open Go.RowKit

/-- a leader, by the instructions ahead of k -/
def GM.leadK (g : GM) (k p : Nat) : Bool := decide (p = 0) || (List.range k).any fun j => decide (g.on j) && (match g.code[j]? with | some i => leads i j p | none => false)
theorem GM.leadK_all (g : GM) (p : Nat) : g.leadK g.code.length p = g.lead p := rfl
theorem GM.leadK_succ {g : GM} {k p : Nat} {i : GI} (hi : g.code[k]? = some i) : g.leadK (k + 1) p = (g.leadK k p || (decide (g.on k) && leads i k p)) := by
  unfold GM.leadK
  rw [List.range_succ, List.any_append]
  simp only [List.any_cons, List.any_nil, Bool.or_false, hi]
  rw [Bool.or_assoc]
def GM.leadL (g : GM) (n k : Nat) : List Bool := (List.range n).map (g.leadK k)
theorem GM.leadL_len (g : GM) (n k : Nat) : (g.leadL n k).length = n := by simp [GM.leadL]
theorem GM.leadL_off {g : GM} {n k : Nat} {i : GI} (hi : g.code[k]? = some i) (ho : ¬ g.on k) : g.leadL n (k + 1) = g.leadL n k := by
  unfold GM.leadL
  refine List.map_congr_left fun p _ => ?_
  rw [g.leadK_succ hi, decide_eq_false ho]
  simp
theorem GM.leadL_none {g : GM} {n k : Nat} {i : GI} (hi : g.code[k]? = some i) (h : ∀ p, leads i k p = false) : g.leadL n (k + 1) = g.leadL n k := by
  unfold GM.leadL
  refine List.map_congr_left fun p _ => ?_
  rw [g.leadK_succ hi, h]
  simp
theorem GM.leadL_at (g : GM) {n k p : Nat} (hp : p < n) : (g.leadL n k)[p]? = some (g.leadK k p) := by simp [GM.leadL, hp]
theorem GM.leadL_set1 {g : GM} {n k a : Nat} {i : GI} (hi : g.code[k]? = some i) (ho : g.on k) (h : ∀ p, leads i k p = decide (p = a)) : g.leadL n (k + 1) = (g.leadL n k).set a true := by
  refine List.ext_getElem? fun p => ?_
  by_cases hp : p < n
  · rw [g.leadL_at hp, g.leadK_succ hi, decide_eq_true ho, h, List.getElem?_set, g.leadL_at hp]
    by_cases e : a = p
    · subst e
      simp [g.leadL_len, hp]
    · have e2 : ¬ p = a := fun h => e h.symm
      simp [e, e2]
  · rw [List.getElem?_eq_none (by rw [g.leadL_len]; omega), List.getElem?_eq_none (by rw [List.length_set, g.leadL_len]; omega)]
theorem GM.leadL_set3 {g : GM} {n k a : Nat} {i : GI} (hi : g.code[k]? = some i) (ho : g.on k) (h : ∀ p, leads i k p = decide (p = k ∨ p = k + 1 ∨ p = a)) : g.leadL n (k + 1) = (((g.leadL n k).set k true).set (k + 1) true).set a true := by
  refine List.ext_getElem? fun p => ?_
  by_cases hp : p < n
  · rw [g.leadL_at hp, g.leadK_succ hi, decide_eq_true ho, h]
    simp only [List.getElem?_set, List.length_set, g.leadL_len, g.leadL_at hp]
    by_cases e1 : a = p
    · subst e1; simp [hp]
    · by_cases e2 : k + 1 = p
      · subst e2; simp [e1, hp]
      · by_cases e3 : k = p
        · subst e3; simp [e1, hp]
        · have f1 : ¬ p = a := fun h => e1 h.symm
          have f2 : ¬ p = k + 1 := fun h => e2 h.symm
          have f3 : ¬ p = k := fun h => e3 h.symm
          simp [e1, e2, e3, f1, f2, f3]
  · rw [List.getElem?_eq_none (by rw [g.leadL_len]; omega), List.getElem?_eq_none (by simp only [List.length_set, g.leadL_len]; omega)]
theorem leads_14 (a b : Int) (k n : Nat) (hn : a = (n : Int)) (p : Nat) : leads ⟨14, a, b⟩ k p = decide (p = n) := by
  unfold leads
  simp only [show (14 : Int) = 14 ↔ True by simp, true_or, true_and, show ¬ ((14 : Int) = 15) by omega, show ¬ ((14 : Int) = 16) by omega, show ¬ ((14 : Int) = 7) by omega, show ¬ ((14 : Int) = 12) by omega, show ¬ ((14 : Int) = 19) by omega, or_self, false_and, or_false]
  rw [hn]
  exact decide_eq_decide.2 (by omega)
theorem leads_15 (op a b : Int) (ho : op = 15 ∨ op = 16) (k n : Nat) (hn : a = (n : Int)) (p : Nat) : leads ⟨op, a, b⟩ k p = decide (p = k ∨ p = k + 1 ∨ p = n) := by
  unfold leads
  simp only
  rw [hn]
  exact decide_eq_decide.2 (by omega)
theorem leads_7 (op a b : Int) (ho : op = 7 ∨ op = 12 ∨ op = 19) (k p : Nat) : leads ⟨op, a, b⟩ k p = decide (p = k + 1) := by
  unfold leads
  simp only
  exact decide_eq_decide.2 (by omega)
theorem leads_no (op a b : Int) (ho : op ≠ 14 ∧ op ≠ 15 ∧ op ≠ 16 ∧ op ≠ 7 ∧ op ≠ 12 ∧ op ≠ 19) (k p : Nat) : leads ⟨op, a, b⟩ k p = false := by
  unfold leads
  simp only
  exact decide_eq_false (by omega)
theorem infoBl : (Tryz.prog.info? 4).map (fun i => (i.zero, i.size, i.bytes)) = some (some (.bool false), 1, 1) := by kernel_rfl
theorem makeLd (n : Nat) (h2 : n ≤ 65536) (W : World) : (Instr.makeSlice 26 (.int .i64 (n : Int)) (.int .i64 (n : Int))).run Tryz.prog W = .ok (.slice (some ⟨W.heap.size, 0, none⟩) n n) (W.alloc (.cells (List.replicate n (Value.bool false)).toArray 4)) := by
  obtain ⟨i0, hi, hz0, hz1, hz2⟩ := info_parts infoBl
  have hr := run_make (P := Tryz.prog) W 26 4 i0 (.bool false) Tryz.underlying26 hi hz0 .i64 .i64 n n (by omega) (by omega) (by rw [hz2]; omega) (by omega)
  simp only [Int.toNat_natCast, hz1, Nat.mul_one] at hr
  rw [mades_ones _ _ rfl] at hr
  exact hr
/-- truths in a block -/
def BlAt (w : World) (b : Nat) (l : List Bool) : Prop := w.heap[b]? = some (.cells (l.map Value.bool).toArray 4 (0, 0))
theorem BlAt.set {w : World} {b : Nat} {l : List Bool} (h : BlAt w b l) (k : Nat) (v : Bool) : BlAt (w.setCell ⟨b, k, none⟩ (.bool v)) b (l.set k v) := by
  unfold BlAt at *
  rw [heap_setCell_same h]
  simp [List.map_set]
theorem BlAt.cell {w : World} {b : Nat} {l : List Bool} (h : BlAt w b l) {k : Nat} {v : Bool} (hk : l[k]? = some v) : w.cell? ⟨b, k, none⟩ = some (.bool v) := cell_of_heap h (by simp [hk])
theorem BlAt.frozen {w : World} {b : Nat} {l : List Bool} (h : BlAt w b l) (k : Nat) : w.frozen? ⟨b, k, none⟩ = false := frozen_of_heap h
theorem BlAt.fr {w w' : World} {b : Nat} {l : List Bool} (h : BlAt w b l) (hF : Fr [] w w') : BlAt w' b l := hF.heap (by simp) h
theorem BlAt.start {w : World} {b n : Nat} {g : GM} (h : BlAt w b (List.replicate n false)) (hn : 0 < n) : BlAt (w.setCell ⟨b, 0, none⟩ (.bool true)) b (g.leadL n 0) := by
  have h9 := h.set 0 true
  have : (List.replicate n false).set 0 true = g.leadL n 0 := by
    refine List.ext_getElem? fun p => ?_
    by_cases hp : p < n
    · rw [g.leadL_at hp, List.getElem?_set]
      by_cases e : p = 0
      · subst e; simp [GM.leadK, hn]
      · have e2 : ¬ 0 = p := fun h => e h.symm
        simp [GM.leadK, hp, e, e2]
    · rw [List.getElem?_eq_none (by simp; omega), List.getElem?_eq_none (by rw [g.leadL_len]; omega)]
  rw [this] at h9
  exact h9
end Go.Proofs.YtomcfjckhajhmabGreatDoor
namespace Go.Proofs.YtomcfjckhajhmabGreatDoor
open Go.RowKit

def blkOp (i : Ins) : Prop := i.op = 20 ∨ i.op = 21 ∨ i.op = 22 ∨ i.op = 23
instance (i : Ins) : Decidable (blkOp i) := by unfold blkOp; infer_instance
def Mth.blk (m : Mth) : Bool := m.code.any fun i => decide (blkOp i)
theorem Mth.blk_yes {m : Mth} {k : Nat} {i : Ins} (hi : m.code[k]? = some i) (h : blkOp i) : m.blk = true := List.any_eq_true.2 ⟨i, List.mem_of_getElem? hi, decide_eq_true h⟩
theorem Mth.blk_no {m : Mth} (h : ∀ j i, j < m.code.length → m.code[j]? = some i → ¬ blkOp i) : m.blk = false := by
  unfold Mth.blk
  rw [List.any_eq_false]
  intro i hi
  obtain ⟨j, hj⟩ := List.getElem?_of_mem hi
  simpa using h j i (List.getElem?_eq_some_iff.1 hj).1 hj
theorem code_cells {w : World} {ca : Option Addr} {l : List Ins} (h : RowAt w ca (flatI l)) {k : Nat} {i : Ins} (hi : l[k]? = some i) : ∃ gc oc, ca = some ⟨gc, oc, none⟩ ∧ w.cell? ⟨gc, oc + k * 3, none⟩ = some (.int .i64 i.op) ∧ w.cell? ⟨gc, oc + k * 3 + 1, none⟩ = some (.int .i64 i.a) ∧ w.cell? ⟨gc, oc + k * 3 + 2, none⟩ = some (.int .i64 i.b) := by
  obtain ⟨f0, f1, f2⟩ := flatI_at hi
  obtain ⟨gc, oc, e, c0⟩ := h _ _ f0
  obtain ⟨g1, o1, e1, c1⟩ := h _ _ f1
  obtain ⟨g2, o2, e2, c2⟩ := h _ _ f2
  rw [e] at e1 e2
  cases e1
  cases e2
  exact ⟨gc, oc, e, c0, by rw [Nat.add_assoc]; exact c1, by rw [Nat.add_assoc]; exact c2⟩
theorem RowAt.fr0 {w w' : World} {a : Option Addr} {xs : List Value} (h : RowAt w a xs) (hF : Fr [] w w') : RowAt w' a xs := h.fr hF (fun _ _ => by simp)
set_option maxRecDepth 100000 in
set_option maxHeartbeats 4000000 in
theorem gn_isOfBlock (m : Mth) (la ca : Option Addr) (lc cc : Nat) (w : World) (hcode : RowAt w ca (flatI m.code)) (hn : m.code.length ≤ 128) : Calls Tryz.prog 18 #[m.v la lc ca cc] w (Still (.bool m.blk) w) := by
  obtain ⟨n, hnn⟩ : ∃ n, n = m.code.length := ⟨_, rfl⟩
  have HY := Lib.hid (fun k i => @Mth.blk_yes m k i)
  have HNO := Lib.hid (@Mth.blk_no m)
  obtain ⟨b, hb⟩ : ∃ b, b = m.blk := ⟨_, rfl⟩
  rw [← hb] at HY HNO ⊢
  unfold Mth.v
  rw [← hnn] at hn HNO ⊢
  have HC := Lib.hid hcode
  have HN := Lib.hid hnn
  obtain ⟨ll, hll⟩ : ∃ ll, ll = m.lits.length := ⟨_, rfl⟩
  rw [← hll]
  clear hcode hb hll hnn
  go_enter Tryz.func18, Tryz.ntmps18
  go_wp2_with fail
  go_loopw [8] (fun i wr => ∃ k : Nat, k ≤ n ∧ i = .int .i64 k ∧ Hid (Fr [] w wr) ∧ Hid (∀ j x, j < k → m.code[j]? = some x → ¬ blkOp x)) (fun i _ => n - (intOf i).toNat)
  case atStart => exact ⟨0, Nat.zero_le _, rfl, Lib.hid (by (repeat (first | (with_reducible refine Fr.setCell ?_ (fun h => absurd h (Nat.lt_irrefl _)) _) | (with_reducible refine Fr.setCell ?_ (fun h => absurd h (by first | omega | (simp; done) | (simp; omega) | (dsimp only; omega))) _) | (with_reducible refine Fr.alloc ?_ _) | (with_reducible refine Fr.drew ?_) | (with_reducible refine Fr.drewN ?_ _) | (with_reducible exact Fr.refl _ _)))), Lib.hid fun j x h => absurd h (by omega)⟩
  case round =>
    obtain ⟨k, hk, rfl, HF, HP⟩ := hrel
    by_cases hlt : k < n
    · obtain ⟨i, hi⟩ : ∃ i, m.code[k]? = some i := ⟨_, List.getElem?_eq_getElem (by rw [← HN.out]; exact hlt)⟩
      obtain ⟨gc, oc, rfl, c0, c1, c2⟩ := code_cells (HC.out.fr0 HF.out) hi
      have hg := World.block_lt_of_cell? wr _ c0
      have HI := Lib.hid hi
      have k0 : (0 : Int) ≤ (k : Int) := by omega
      have k1 : (k : Int) < (n : Int) := by omega
      clear hi
      by_cases hop : blkOp i
      · have HE : Hid (b = true) := Lib.hid (HY.out k i HI.out hop)
        obtain ⟨op, a, b2⟩ := i
        unfold blkOp at hop
        simp only at hop c0 c1 c2
        rcases hop with rfl | rfl | rfl | rfl
        all_goals
          go_wp2_with fail
          go_ret
          exact ⟨ret1 (vb HE.out.symm), by (repeat (first | (with_reducible refine Fr.setCell ?_ (fun h => absurd h (Nat.lt_irrefl _)) _) | (with_reducible refine Fr.setCell ?_ (fun h => absurd h (by first | omega | (simp; done) | (simp; omega) | (dsimp only; omega))) _) | (with_reducible refine Fr.alloc ?_ _) | (with_reducible refine Fr.drew ?_) | (with_reducible refine Fr.drewN ?_ _) | (with_reducible exact HF.out)))⟩
      · have HP2 : Hid (∀ j x, j < k + 1 → m.code[j]? = some x → ¬ blkOp x) := Lib.hid fun j x hj hx => by
          by_cases e : j = k
          · subst e; rw [HI.out] at hx; cases hx; exact hop
          · exact HP.out j x (by omega) hx
        obtain ⟨op, a, b2⟩ := i
        have hq : (op == 20) = false ∧ (op == 21) = false ∧ (op == 22) = false ∧ (op == 23) = false := by
          unfold blkOp at hop
          simp only at hop
          simp only [beq_eq_false_iff_ne, ne_eq]
          omega
        simp only at c0 c1 c2
        obtain ⟨q1, q2, q3, q4⟩ := hq
        clear hop
        go_wp2_with fail
        go_roundw
        case rel => exact ⟨k + 1, by omega, by go_num, Lib.hid (by (repeat (first | (with_reducible refine Fr.setCell ?_ (fun h => absurd h (Nat.lt_irrefl _)) _) | (with_reducible refine Fr.setCell ?_ (fun h => absurd h (by first | omega | (simp; done) | (simp; omega) | (dsimp only; omega))) _) | (with_reducible refine Fr.alloc ?_ _) | (with_reducible refine Fr.drew ?_) | (with_reducible refine Fr.drewN ?_ _) | (with_reducible exact HF.out)))), HP2⟩
        case measure => simp [intOf]; omega
    · have hke : k = n := by omega
      have HE : Hid (b = false) := Lib.hid (HNO.out (by rw [← hke]; exact HP.out))
      have hkd : ¬ (k : Int) < (n : Int) := by omega
      clear hke hlt
      go_wp2_with fail
      go_ret
      exact ⟨ret1 (vb HE.out.symm), HF.out⟩
/-- a word that is none would come into the code -/
def Mth.lacks (m : Mth) : Prop := ∃ (p : Nat) (i : Ins), m.code[p]? = some i ∧ (gmOf m).on p ∧ (i.op = 3 ∨ i.op = 11) ∧ (gmOf m).lit i.a = 0
def lackAt (m : Mth) (p : Nat) (i : Ins) : Prop := (gmOf m).on p ∧ (i.op = 3 ∨ i.op = 11) ∧ (gmOf m).lit i.a = 0
noncomputable def Mth.lackB (m : Mth) : Bool := @decide m.lacks (Classical.propDecidable _)
theorem Mth.lack_yes {m : Mth} {k : Nat} {i : Ins} (hi : m.code[k]? = some i) (h : lackAt m k i) : m.lackB = true := @decide_eq_true _ (Classical.propDecidable _) ⟨k, i, hi, h⟩
theorem Mth.lack_no {m : Mth} (h : ∀ j i, j < m.code.length → m.code[j]? = some i → ¬ lackAt m j i) : m.lackB = false :=
  @decide_eq_false _ (Classical.propDecidable _) fun ⟨p, i, hi, h2⟩ => h p i (List.getElem?_eq_some_iff.1 hi).1 hi h2
set_option maxRecDepth 100000 in
set_option maxHeartbeats 4000000 in
theorem gn_lacksWord (m : Mth) (la ca da : Option Addr) (lc cc dc : Nat) (w : World) (hcode : RowAt w ca (flatI m.code)) (hlits : RowAt w la (m.lits.map (Value.int .u64))) (hdep : RowAt w da ((gmOf m).dep.map (Value.int .i64))) (hdl : (gmOf m).dep.length = m.code.length) (hop9 : ∀ i ∈ m.code, (0 ≤ i.a) ∧ ((i.op = 3 ∨ i.op = 11) → i.a < m.lits.length)) (hn : m.code.length ≤ 128) : Calls Tryz.prog 19 #[m.v la lc ca cc, .slice da m.code.length dc] w (Still (.bool m.lackB) w) := by
  obtain ⟨n, hnn⟩ : ∃ n, n = m.code.length := ⟨_, rfl⟩
  have HY := Lib.hid (fun k i => @Mth.lack_yes m k i)
  have HNO := Lib.hid (@Mth.lack_no m)
  obtain ⟨b, hb⟩ : ∃ b, b = m.lackB := ⟨_, rfl⟩
  rw [← hb] at HY HNO ⊢
  unfold Mth.v
  rw [← hnn] at hn HNO hdl ⊢
  have HC := Lib.hid hcode
  have HLI := Lib.hid hlits
  have HDE := Lib.hid hdep
  have HDL := Lib.hid hdl
  have HOP := Lib.hid hop9
  have HN := Lib.hid hnn
  obtain ⟨ll, hll⟩ : ∃ ll, ll = m.lits.length := ⟨_, rfl⟩
  rw [← hll]
  have HLL := Lib.hid hll
  have hw0 := heap_new w (.cells #[.int .i64 m.args, .int .i64 m.temps, .int .i64 m.stack, .int .i64 m.prim, .slice la ll lc, .slice ca n cc] 25)
  have HW0 := Lib.hid hw0
  clear hcode hb hll hnn hlits hdep hdl hop9 hw0
  go_enter Tryz.func19, Tryz.ntmps19
  go_wp2_with fail
  go_loopw [11] (fun i wr => ∃ k : Nat, k ≤ n ∧ i = .int .i64 k ∧ Hid (Fr [] (w.alloc (.cells #[.int .i64 m.args, .int .i64 m.temps, .int .i64 m.stack, .int .i64 m.prim, .slice la ll lc, .slice ca n cc] 25)) wr) ∧ Hid (∀ j x, j < k → m.code[j]? = some x → ¬ lackAt m j x)) (fun i _ => n - (intOf i).toNat)
  case atStart => exact ⟨0, Nat.zero_le _, rfl, Lib.hid (Fr.refl _ _), Lib.hid fun j x h => absurd h (by omega)⟩
  case round =>
    obtain ⟨k, hk, rfl, HF, HP⟩ := hrel
    have HFw : Hid (Fr [] w wr) := Lib.hid (((Fr.refl [] w).alloc _).trans HF.out)
    have hbx := HF.out.heap (by simp) HW0.out
    have x4 := cell_of_heap (o := 4) hbx rfl
    have hbl := lt_of_heap hbx
    clear hbx
    by_cases hlt : k < n
    · obtain ⟨i, hi⟩ : ∃ i, m.code[k]? = some i := ⟨_, List.getElem?_eq_getElem (by rw [← HN.out]; exact hlt)⟩
      obtain ⟨gc, oc, rfl, c0, c1, c2⟩ := code_cells (HC.out.fr0 HFw.out) hi
      have hg := World.block_lt_of_cell? wr _ c0
      obtain ⟨d, hd⟩ : ∃ d, d = (gmOf m).dep.getD k (-1) := ⟨_, rfl⟩
      obtain ⟨gd, od, rfl, cd⟩ := (HDE.out.fr0 HFw.out) k (.int .i64 d) (by rw [List.getElem?_map, hd, List.getD_eq_getElem?_getD, List.getElem?_eq_getElem (by rw [HDL.out]; exact hlt)]; rfl)
      have hgd := World.block_lt_of_cell? wr _ cd
      have hon : (gmOf m).on k ↔ 0 ≤ d := by unfold GM.on; rw [← hd]
      obtain ⟨ha0, hal⟩ := HOP.out i (List.mem_of_getElem? hi)
      have HI := Lib.hid hi
      have k0 : (0 : Int) ≤ (k : Int) := by omega
      have k1 : (k : Int) < (n : Int) := by omega
      have HP1 : Hid (¬ lackAt m k i → ∀ j x, j < k + 1 → m.code[j]? = some x → ¬ lackAt m j x) := Lib.hid fun hno j x hj hx => by
        by_cases e : j = k
        · subst e; rw [HI.out] at hx; cases hx; exact hno
        · exact HP.out j x (by omega) hx
      have HY1 : Hid (lackAt m k i → b = true) := Lib.hid (HY.out k i hi)
      unfold lackAt at HP1 HY1
      clear hi hd
      obtain ⟨op, a, b2⟩ := i
      simp only at c0 c1 c2 ha0 hal HP1 HY1
      by_cases hu : op = 3 ∨ op = 11
      · obtain ⟨ka, rfl⟩ : ∃ ka : Nat, a = (ka : Int) := ⟨a.toNat, by omega⟩
        have hal2 := hal hu
        rw [← HLL.out] at hal2
        have hkl : ka < m.lits.length := by rw [← HLL.out]; omega
        obtain ⟨x, hx⟩ : ∃ x, x = (gmOf m).lit (ka : Int) := ⟨_, rfl⟩
        obtain ⟨gl, ol, rfl, cl⟩ := (HLI.out.fr0 HFw.out) ka (.int .u64 x) (by rw [List.getElem?_map, List.getElem?_eq_getElem hkl, hx]; simp [GM.lit, gmOf, List.getD_eq_getElem?_getD, hkl])
        have hgl := World.block_lt_of_cell? wr _ cl
        rw [← hx] at HP1 HY1
        have a0 : (0 : Int) ≤ (ka : Int) := by omega
        clear hx hal hkl
        by_cases hd0 : 0 ≤ d
        · by_cases hx0 : x = 0
          · have HE : Hid (b = true) := Lib.hid (HY1.out ⟨hon.2 hd0, hu, hx0⟩)
            subst hx0
            have hdd : decide (0 ≤ d) = true := decide_eq_true hd0
            clear hon HP1 HY1
            rcases hu with rfl | rfl
            all_goals
              go_wp2_with (go_at_call 40; refine (gn_isReached _ _).mono ?_; rintro e w2 ⟨rfl, rfl⟩)
              go_ret
              exact ⟨ret1 (vb HE.out.symm), by (repeat (first | (with_reducible refine Fr.setCell ?_ (fun h => absurd h (Nat.lt_irrefl _)) _) | (with_reducible refine Fr.setCell ?_ (fun h => absurd h (by first | omega | (simp; done) | (simp; omega) | (dsimp only; omega))) _) | (with_reducible refine Fr.alloc ?_ _) | (with_reducible refine Fr.drew ?_) | (with_reducible refine Fr.drewN ?_ _) | (with_reducible exact HFw.out)))⟩
          · have HP2 := Lib.hid (HP1.out (fun h => hx0 h.2.2))
            have hxx : (x == 0) = false := by simpa using hx0
            have hdd : decide (0 ≤ d) = true := decide_eq_true hd0
            clear hon HP1 HY1 hx0
            rcases hu with rfl | rfl
            all_goals
              go_wp2_with (go_at_call 40; refine (gn_isReached _ _).mono ?_; rintro e w2 ⟨rfl, rfl⟩)
              go_roundw
            all_goals first
              | exact ⟨k + 1, by omega, by go_num, Lib.hid (by (repeat (first | (with_reducible refine Fr.setCell ?_ (fun h => absurd h (Nat.lt_irrefl _)) _) | (with_reducible refine Fr.setCell ?_ (fun h => absurd h (by first | omega | (simp; done) | (simp; omega) | (dsimp only; omega))) _) | (with_reducible refine Fr.alloc ?_ _) | (with_reducible refine Fr.drew ?_) | (with_reducible refine Fr.drewN ?_ _) | (with_reducible exact HF.out)))), HP2⟩
              | (simp [intOf]; omega)
        · have HP2 := Lib.hid (HP1.out (fun h => hd0 (hon.1 h.1)))
          have hdd : decide (0 ≤ d) = false := decide_eq_false hd0
          clear hon HP1 HY1
          rcases hu with rfl | rfl
          all_goals
            go_wp2_with (go_at_call 40; refine (gn_isReached _ _).mono ?_; rintro e w2 ⟨rfl, rfl⟩)
            go_roundw
          all_goals first
            | exact ⟨k + 1, by omega, by go_num, Lib.hid (by (repeat (first | (with_reducible refine Fr.setCell ?_ (fun h => absurd h (Nat.lt_irrefl _)) _) | (with_reducible refine Fr.setCell ?_ (fun h => absurd h (by first | omega | (simp; done) | (simp; omega) | (dsimp only; omega))) _) | (with_reducible refine Fr.alloc ?_ _) | (with_reducible refine Fr.drew ?_) | (with_reducible refine Fr.drewN ?_ _) | (with_reducible exact HF.out)))), HP2⟩
            | (simp [intOf]; omega)
      · have HP2 := Lib.hid (HP1.out (fun h => hu h.2.1))
        have hq : (op == 3) = false ∧ (op == 11) = false := by
          simp only [beq_eq_false_iff_ne, ne_eq]
          omega
        obtain ⟨q1, q2⟩ := hq
        clear hon HP1 HY1 hu hal
        go_wp2_with fail
        go_roundw
        case rel => exact ⟨k + 1, by omega, by go_num, Lib.hid (by (repeat (first | (with_reducible refine Fr.setCell ?_ (fun h => absurd h (Nat.lt_irrefl _)) _) | (with_reducible refine Fr.setCell ?_ (fun h => absurd h (by first | omega | (simp; done) | (simp; omega) | (dsimp only; omega))) _) | (with_reducible refine Fr.alloc ?_ _) | (with_reducible refine Fr.drew ?_) | (with_reducible refine Fr.drewN ?_ _) | (with_reducible exact HF.out)))), HP2⟩
        case measure => simp [intOf]; omega
    · have hke : k = n := by omega
      have HE : Hid (b = false) := Lib.hid (HNO.out (by rw [← hke]; exact HP.out))
      have hkd : ¬ (k : Int) < (n : Int) := by omega
      clear hke hlt
      go_wp2_with fail
      go_ret
      exact ⟨ret1 (vb HE.out.symm), HFw.out⟩
end Go.Proofs.YtomcfjckhajhmabGreatDoor
namespace Go.Proofs.YtomcfjckhajhmabGreatDoor
open Go.RowKit

/-- what a list of leaders wants of the method -/
structure LdOk (m : Mth) : Prop where
  len : 1 ≤ m.code.length ∧ m.code.length ≤ 128
  dl : (gmOf m).dep.length = m.code.length
  jump : ∀ (p : Nat) (i : Ins), m.code[p]? = some i → (gmOf m).on p → (i.op = 14 ∨ i.op = 15 ∨ i.op = 16) → 0 ≤ i.a ∧ i.a < m.code.length
  next : ∀ (p : Nat) (i : Ins), m.code[p]? = some i → (gmOf m).on p → (i.op = 15 ∨ i.op = 16 ∨ i.op = 7 ∨ i.op = 12 ∨ i.op = 19) → p + 1 < m.code.length
theorem gm_at {m : Mth} {k : Nat} {i : Ins} (h : m.code[k]? = some i) : (gmOf m).code[k]? = some ⟨i.op, i.a, i.b⟩ := by simp [gmOf, h]
set_option maxRecDepth 100000 in
set_option maxHeartbeats 4000000 in
theorem gn_leadersOf (m : Mth) (la ca da : Option Addr) (lc cc dc : Nat) (w : World) (hcode : RowAt w ca (flatI m.code)) (hdep : RowAt w da ((gmOf m).dep.map (Value.int .i64))) (L : LdOk m) : Calls Tryz.prog 41 #[m.v la lc ca cc, .slice da m.code.length dc] w (fun e w' => ∃ eb, e = .returned (.slice (some ⟨eb, 0, none⟩) m.code.length m.code.length) ∧ w.heap.size ≤ eb ∧ BlAt w' eb ((gmOf m).leadL m.code.length m.code.length) ∧ Fr [] w w') := by
  obtain ⟨n, hnn⟩ : ∃ n, n = m.code.length := ⟨_, rfl⟩
  obtain ⟨hn, hdl, hju, hnx⟩ := L
  unfold Mth.v
  rw [← hnn] at hn hdl hju hnx ⊢
  have HC := Lib.hid hcode
  have HDE := Lib.hid hdep
  have HDL := Lib.hid hdl
  have HJU := Lib.hid hju
  have HNX := Lib.hid hnx
  have HN := Lib.hid hnn
  obtain ⟨ll, hll⟩ : ∃ ll, ll = m.lits.length := ⟨_, rfl⟩
  rw [← hll]
  have hmk := makeLd n (by omega)
  obtain ⟨eb, heb⟩ : ∃ eb, eb = (w.alloc (.cells #[.int .i64 m.args, .int .i64 m.temps, .int .i64 m.stack, .int .i64 m.prim, .slice la ll lc, .slice ca n cc] 25)).heap.size := ⟨_, rfl⟩
  obtain ⟨W2, hW2⟩ : ∃ W2, W2 = (w.alloc (.cells #[.int .i64 m.args, .int .i64 m.temps, .int .i64 m.stack, .int .i64 m.prim, .slice la ll lc, .slice ca n cc] 25)).alloc (.cells (Array.replicate n (Value.bool false)) 4) := ⟨_, rfl⟩
  have hB2 : BlAt W2 eb (List.replicate n false) := by
    unfold BlAt
    rw [hW2, heb, show ((List.replicate n false).map Value.bool).toArray = Array.replicate n (Value.bool false) by simp]
    exact heap_new _ _
  have hF2 : Fr [] w W2 := by rw [hW2]; exact ((Fr.refl _ _).alloc _).alloc _
  have HGE : Hid (w.heap.size ≤ eb ∧ w.heap.size + 1 = eb) := Lib.hid (by rw [heb]; simp)
  have HB3 : Hid (BlAt (W2.setCell ⟨eb, 0, none⟩ (.bool true)) eb ((gmOf m).leadL n 0)) := Lib.hid (hB2.start (by omega))
  have HF2 := Lib.hid hF2
  have HMB : Hid (W2.heap[w.heap.size]? = some (.cells #[.int .i64 m.args, .int .i64 m.temps, .int .i64 m.stack, .int .i64 m.prim, .slice la ll lc, .slice ca n cc] 25 (0, 0))) := Lib.hid (by rw [hW2]; exact ((Fr.refl [] _).alloc _).heap (by simp) (heap_new _ _))
  have b0 : W2.cell? ⟨eb, 0, none⟩ = some (.bool false) := hB2.cell (by rw [List.getElem?_replicate, if_pos (by omega)])
  have z0 := hB2.frozen 0
  have hlt2 := lt_of_heap hB2
  have hW2' := Lib.hid hW2
  clear hcode hdep hdl hju hnx hnn hll hB2 hF2
  go_enter Tryz.func41, Tryz.ntmps41
  go_upto_region 2 with (fail)
  rw [← hW2, HGE.out.2]
  clear heb hW2
  have x5 := cell_of_heap (o := 5) HMB.out rfl
  have hmbl := lt_of_heap HMB.out
  have HBX : Hid (w.heap.size ≠ eb) := Lib.hid (by have := HGE.out.2; omega)
  go_upto_region 3 with (fail)
  obtain ⟨W3, hW3⟩ : ∃ W3, W3 = W2.setCell ⟨eb, 0, none⟩ (.bool true) := ⟨_, rfl⟩
  rw [← hW3]
  have hB3 := HB3.out
  rw [← hW3] at hB3
  have HB4 := Lib.hid hB3
  have hF3 : Fr [eb] w W3 := by rw [hW3]; exact (HF2.out.weak).setCell (fun _ => by simp) _
  have HF3 := Lib.hid hF3
  have y5 : W3.cell? ⟨w.heap.size, 5, none⟩ = some (.slice ca n cc) := by rw [hW3]; exact ((Fr.refl [eb] W2).setCell (fun _ => by simp) _).cell (by simpa using HBX.out) x5
  have hmb3 : w.heap.size < W3.heap.size := World.block_lt_of_cell? W3 _ y5
  clear hW3 hB3 hF3 x5 hmbl hW2' HB3 hmk b0 z0 hlt2 HF2
  go_wp2_with fail
  go_loopw [17] (fun i wr => ∃ k : Nat, k ≤ n ∧ i = .int .i64 k ∧ Hid (Fr [eb] w wr) ∧ Hid (BlAt wr eb ((gmOf m).leadL n k))) (fun i _ => n - (intOf i).toNat)
  case atStart => exact ⟨0, Nat.zero_le _, rfl, HF3, HB4⟩
  case round =>
    obtain ⟨k, hk, rfl, HF, HB⟩ := hrel
    have hbw := HB.out
    have hltb := lt_of_heap hbw
    by_cases hlt : k < n
    · obtain ⟨i, hi⟩ : ∃ i, m.code[k]? = some i := ⟨_, List.getElem?_eq_getElem (by rw [← HN.out]; exact hlt)⟩
      obtain ⟨gc, oc, rfl, c0, c1, c2⟩ := code_cells HC.out hi
      have hgn : gc ∉ [eb] := by have := World.block_lt_of_cell? w _ c0; have := HGE.out.1; simp; simp at *; omega
      replace c0 := HF.out.cell hgn c0
      replace c1 := HF.out.cell hgn c1
      replace c2 := HF.out.cell hgn c2
      have hg := World.block_lt_of_cell? wr _ c0
      obtain ⟨d, hd⟩ : ∃ d, d = (gmOf m).dep.getD k (-1) := ⟨_, rfl⟩
      obtain ⟨gd, od, rfl, cd⟩ := HDE.out k (.int .i64 d) (by rw [List.getElem?_map, hd, List.getD_eq_getElem?_getD, List.getElem?_eq_getElem (by rw [HDL.out]; exact hlt)]; rfl)
      have hgdn : gd ∉ [eb] := by have := World.block_lt_of_cell? w _ cd; have := HGE.out.1; simp; simp at *; omega
      replace cd := HF.out.cell hgdn cd
      have hgd := World.block_lt_of_cell? wr _ cd
      have hon : (gmOf m).on k ↔ 0 ≤ d := by unfold GM.on; rw [← hd]
      have hgi := gm_at hi
      have hju := HJU.out k i hi
      have hnx := HNX.out k i hi
      have k0 : (0 : Int) ≤ (k : Int) := by omega
      have k1 : (k : Int) < (n : Int) := by omega
      have FX : Hid (∀ v : Value, True) := Lib.hid fun _ => trivial
      clear hi hd hgn hgdn
      obtain ⟨op, a, b2⟩ := i
      simp only at c0 c1 c2 hju hnx hgi
      by_cases hd0 : 0 ≤ d
      · have ho := hon.2 hd0
        have hdd : decide (0 ≤ d) = true := decide_eq_true hd0
        have hju2 := hju ho
        have hnx2 := hnx ho
        clear hju hnx hon
        by_cases h14 : op = 14
        · subst h14
          obtain ⟨ja, rfl⟩ : ∃ ja : Nat, a = (ja : Int) := ⟨a.toNat, by have := (hju2 (.inl rfl)).1; omega⟩
          have hja : ja < n := by have := (hju2 (.inl rfl)).2; omega
          have a0 : (0 : Int) ≤ (ja : Int) := by omega
          have a1 : (ja : Int) < (n : Int) := by omega
          have HB2 : Hid (BlAt (wr.setCell ⟨eb, ja, none⟩ (.bool true)) eb ((gmOf m).leadL n (k + 1))) := Lib.hid (by rw [GM.leadL_set1 hgi ho (leads_14 _ _ k ja rfl)]; exact hbw.set ja true)
          have e0 := hbw.cell ((gmOf m).leadL_at (k := k) hja)
          have f0 := hbw.frozen ja
          clear hju2 hnx2
          go_wp2_with (go_at_call 40; refine (gn_isReached _ _).mono ?_; rintro e w2 ⟨rfl, rfl⟩)
          go_roundw
          case rel => exact ⟨k + 1, by omega, by go_num, Lib.hid (by (repeat (first | (with_reducible refine Fr.setCell ?_ (fun h => absurd h (Nat.lt_irrefl _)) _) | (with_reducible refine Fr.setCell ?_ (fun h => absurd h (by first | omega | (simp; done) | (simp; omega) | (dsimp only; omega))) _) | (with_reducible refine Fr.alloc ?_ _) | (with_reducible refine Fr.drew ?_) | (with_reducible refine Fr.drewN ?_ _) | (with_reducible exact HF.out.setCell (fun _ => by simp) _)))), Lib.hid (HB2.out.fr (by (repeat (first | (with_reducible refine Fr.setCell ?_ (fun h => absurd h (Nat.lt_irrefl _)) _) | (with_reducible refine Fr.setCell ?_ (fun h => absurd h (by first | omega | (simp; done) | (simp; omega) | (dsimp only; omega))) _) | (with_reducible refine Fr.alloc ?_ _) | (with_reducible refine Fr.drew ?_) | (with_reducible refine Fr.drewN ?_ _) | (with_reducible exact Fr.refl _ _)))))⟩
          case measure => simp [intOf]; omega
        · by_cases h15 : op = 15 ∨ op = 16
          · obtain ⟨ja, rfl⟩ : ∃ ja : Nat, a = (ja : Int) := ⟨a.toNat, by have := (hju2 (.inr h15)).1; omega⟩
            have hja : ja < n := by have := (hju2 (.inr h15)).2; omega
            have hk1 : k + 1 < n := hnx2 (by omega)
            have a0 : (0 : Int) ≤ (ja : Int) := by omega
            have a1 : (ja : Int) < (n : Int) := by omega
            have e1 : IntKind.i64.wrap ((k : Int) + 1) = (k : Int) + 1 := IntWalk.i64_in _ (by omega)
            have e2 : (k : Int) + 1 < (n : Int) := by omega
            have e3 : (0 : Int) ≤ (k : Int) + 1 := by omega
            have HS := Lib.hid (GM.leadL_set3 (n := n) hgi ho (leads_15 _ _ _ h15 k ja rfl))
            have c9 := hbw.cell ((gmOf m).leadL_at (k := k) hlt)
            have c8 := hbw.cell ((gmOf m).leadL_at (k := k) hk1)
            have f9 := hbw.frozen k
            have f8 := hbw.frozen (k + 1)
            have HBB : Hid (BlAt ((wr.setCell ⟨eb, k, none⟩ (.bool true)).setCell ⟨eb, k + 1, none⟩ (.bool true)) eb ((((gmOf m).leadL n k).set k true).set (k + 1) true)) := Lib.hid ((hbw.set k true).set (k + 1) true)
            obtain ⟨y, hy⟩ : ∃ y, ((((gmOf m).leadL n k).set k true).set (k + 1) true)[ja]? = some y := ⟨_, List.getElem?_eq_getElem (by simp only [List.length_set, GM.leadL_len]; exact hja)⟩
            have HYY := Lib.hid hy
            clear hju2 hnx2 hgi hy
            rcases h15 with rfl | rfl
            all_goals
              go_upto_region 15 with (go_at_call 40; refine (gn_isReached _ _).mono ?_; rintro e w2 ⟨rfl, rfl⟩)
            · obtain ⟨W5, hW5⟩ : ∃ W5, W5 = ((wr.setCell ⟨eb, k, none⟩ (.bool true)).setCell ⟨eb, k + 1, none⟩ (.bool true)).alloc (.cells #[.int .i64 15, .int .i64 (ja : Int), .int .i64 b2] 69) := ⟨_, rfl⟩
              rw [← hW5]
              have hB5 : BlAt W5 eb ((((gmOf m).leadL n k).set k true).set (k + 1) true) := by rw [hW5]; exact HBB.out.fr ((Fr.refl [] _).alloc _)
              have hx5 : W5.heap[wr.heap.size]? = some (.cells #[.int .i64 15, .int .i64 (ja : Int), .int .i64 b2] 69 (0, 0)) := by
                rw [hW5]
                have h9 := heap_new ((wr.setCell ⟨eb, k, none⟩ (.bool true)).setCell ⟨eb, k + 1, none⟩ (.bool true)) (.cells #[.int .i64 15, .int .i64 (ja : Int), .int .i64 b2] 69)
                simpa [World.setCell] using h9
              have HF5 : Hid (Fr [eb] w W5) := Lib.hid (by rw [hW5]; exact (((HF.out.setCell (fun _ => by simp) _).setCell (fun _ => by simp) _).alloc _))
              have HB6 : Hid (BlAt (W5.setCell ⟨eb, ja, none⟩ (.bool true)) eb ((gmOf m).leadL n (k + 1))) := Lib.hid (by rw [HS.out]; exact hB5.set ja true)
              have v1 := cell_of_heap (o := 1) hx5 rfl
              have vj := hB5.cell HYY.out
              have fj := hB5.frozen ja
              have vl := lt_of_heap hx5
              have vb := lt_of_heap hB5
              clear hW5 hB5 hx5 c0 c1 c2 hg cd hgd c9 c8 f9 f8 hbw hltb
              go_wp2_with fail
              go_roundw
              case rel => exact ⟨k + 1, by omega, by go_num, Lib.hid (by (repeat (first | (with_reducible refine Fr.setCell ?_ (fun h => absurd h (Nat.lt_irrefl _)) _) | (with_reducible refine Fr.setCell ?_ (fun h => absurd h (by first | omega | (simp; done) | (simp; omega) | (dsimp only; omega))) _) | (with_reducible refine Fr.alloc ?_ _) | (with_reducible refine Fr.drew ?_) | (with_reducible refine Fr.drewN ?_ _) | (with_reducible exact HF5.out.setCell (fun _ => by simp) _)))), Lib.hid (HB6.out.fr (by (repeat (first | (with_reducible refine Fr.setCell ?_ (fun h => absurd h (Nat.lt_irrefl _)) _) | (with_reducible refine Fr.setCell ?_ (fun h => absurd h (by first | omega | (simp; done) | (simp; omega) | (dsimp only; omega))) _) | (with_reducible refine Fr.alloc ?_ _) | (with_reducible refine Fr.drew ?_) | (with_reducible refine Fr.drewN ?_ _) | (with_reducible exact Fr.refl _ _)))))⟩
              case measure => simp [intOf]; omega
            · obtain ⟨W5, hW5⟩ : ∃ W5, W5 = ((wr.setCell ⟨eb, k, none⟩ (.bool true)).setCell ⟨eb, k + 1, none⟩ (.bool true)).alloc (.cells #[.int .i64 16, .int .i64 (ja : Int), .int .i64 b2] 69) := ⟨_, rfl⟩
              rw [← hW5]
              have hB5 : BlAt W5 eb ((((gmOf m).leadL n k).set k true).set (k + 1) true) := by rw [hW5]; exact HBB.out.fr ((Fr.refl [] _).alloc _)
              have hx5 : W5.heap[wr.heap.size]? = some (.cells #[.int .i64 16, .int .i64 (ja : Int), .int .i64 b2] 69 (0, 0)) := by
                rw [hW5]
                have h9 := heap_new ((wr.setCell ⟨eb, k, none⟩ (.bool true)).setCell ⟨eb, k + 1, none⟩ (.bool true)) (.cells #[.int .i64 16, .int .i64 (ja : Int), .int .i64 b2] 69)
                simpa [World.setCell] using h9
              have HF5 : Hid (Fr [eb] w W5) := Lib.hid (by rw [hW5]; exact (((HF.out.setCell (fun _ => by simp) _).setCell (fun _ => by simp) _).alloc _))
              have HB6 : Hid (BlAt (W5.setCell ⟨eb, ja, none⟩ (.bool true)) eb ((gmOf m).leadL n (k + 1))) := Lib.hid (by rw [HS.out]; exact hB5.set ja true)
              have v1 := cell_of_heap (o := 1) hx5 rfl
              have vj := hB5.cell HYY.out
              have fj := hB5.frozen ja
              have vl := lt_of_heap hx5
              have vb := lt_of_heap hB5
              clear hW5 hB5 hx5 c0 c1 c2 hg cd hgd c9 c8 f9 f8 hbw hltb
              go_wp2_with fail
              go_roundw
              case rel => exact ⟨k + 1, by omega, by go_num, Lib.hid (by (repeat (first | (with_reducible refine Fr.setCell ?_ (fun h => absurd h (Nat.lt_irrefl _)) _) | (with_reducible refine Fr.setCell ?_ (fun h => absurd h (by first | omega | (simp; done) | (simp; omega) | (dsimp only; omega))) _) | (with_reducible refine Fr.alloc ?_ _) | (with_reducible refine Fr.drew ?_) | (with_reducible refine Fr.drewN ?_ _) | (with_reducible exact HF5.out.setCell (fun _ => by simp) _)))), Lib.hid (HB6.out.fr (by (repeat (first | (with_reducible refine Fr.setCell ?_ (fun h => absurd h (Nat.lt_irrefl _)) _) | (with_reducible refine Fr.setCell ?_ (fun h => absurd h (by first | omega | (simp; done) | (simp; omega) | (dsimp only; omega))) _) | (with_reducible refine Fr.alloc ?_ _) | (with_reducible refine Fr.drew ?_) | (with_reducible refine Fr.drewN ?_ _) | (with_reducible exact Fr.refl _ _)))))⟩
              case measure => simp [intOf]; omega
          · by_cases h7 : op = 7 ∨ op = 12 ∨ op = 19
            · have hk1 : k + 1 < n := hnx2 (by omega)
              have e1 : IntKind.i64.wrap ((k : Int) + 1) = (k : Int) + 1 := IntWalk.i64_in _ (by omega)
              have e2 : (k : Int) + 1 < (n : Int) := by omega
              have e3 : (0 : Int) ≤ (k : Int) + 1 := by omega
              have HB2 : Hid (BlAt (wr.setCell ⟨eb, k + 1, none⟩ (.bool true)) eb ((gmOf m).leadL n (k + 1))) := Lib.hid (by rw [GM.leadL_set1 hgi ho (leads_7 _ _ _ h7 k)]; exact hbw.set (k + 1) true)
              have c8 := hbw.cell ((gmOf m).leadL_at (k := k) hk1)
              have f8 := hbw.frozen (k + 1)
              clear hju2 hnx2 hgi
              rcases h7 with rfl | rfl | rfl
              all_goals
                go_wp2_with (go_at_call 40; refine (gn_isReached _ _).mono ?_; rintro e w2 ⟨rfl, rfl⟩)
                go_roundw
              all_goals first
                | exact ⟨k + 1, by omega, by go_num, Lib.hid (by (repeat (first | (with_reducible refine Fr.setCell ?_ (fun h => absurd h (Nat.lt_irrefl _)) _) | (with_reducible refine Fr.setCell ?_ (fun h => absurd h (by first | omega | (simp; done) | (simp; omega) | (dsimp only; omega))) _) | (with_reducible refine Fr.alloc ?_ _) | (with_reducible refine Fr.drew ?_) | (with_reducible refine Fr.drewN ?_ _) | (with_reducible exact HF.out.setCell (fun _ => by simp) _)))), Lib.hid (HB2.out.fr (by (repeat (first | (with_reducible refine Fr.setCell ?_ (fun h => absurd h (Nat.lt_irrefl _)) _) | (with_reducible refine Fr.setCell ?_ (fun h => absurd h (by first | omega | (simp; done) | (simp; omega) | (dsimp only; omega))) _) | (with_reducible refine Fr.alloc ?_ _) | (with_reducible refine Fr.drew ?_) | (with_reducible refine Fr.drewN ?_ _) | (with_reducible exact Fr.refl _ _)))))⟩
                | (simp [intOf]; omega)
            · have HB2 : Hid (BlAt wr eb ((gmOf m).leadL n (k + 1))) := Lib.hid (by rw [GM.leadL_none hgi (leads_no _ _ _ (by omega) k)]; exact hbw)
              have hq : (op == 15) = false ∧ (op == 16) = false ∧ (op == 14) = false ∧ (op == 7) = false ∧ (op == 19) = false ∧ (op == 12) = false := by
                simp only [beq_eq_false_iff_ne, ne_eq]
                omega
              obtain ⟨q1, q2, q3, q4, q5, q6⟩ := hq
              clear hju2 hnx2 hgi h14 h15 h7
              go_wp2_with (go_at_call 40; refine (gn_isReached _ _).mono ?_; rintro e w2 ⟨rfl, rfl⟩)
              go_roundw
              case rel => exact ⟨k + 1, by omega, by go_num, Lib.hid (by (repeat (first | (with_reducible refine Fr.setCell ?_ (fun h => absurd h (Nat.lt_irrefl _)) _) | (with_reducible refine Fr.setCell ?_ (fun h => absurd h (by first | omega | (simp; done) | (simp; omega) | (dsimp only; omega))) _) | (with_reducible refine Fr.alloc ?_ _) | (with_reducible refine Fr.drew ?_) | (with_reducible refine Fr.drewN ?_ _) | (with_reducible exact HF.out)))), Lib.hid (HB2.out.fr (by (repeat (first | (with_reducible refine Fr.setCell ?_ (fun h => absurd h (Nat.lt_irrefl _)) _) | (with_reducible refine Fr.setCell ?_ (fun h => absurd h (by first | omega | (simp; done) | (simp; omega) | (dsimp only; omega))) _) | (with_reducible refine Fr.alloc ?_ _) | (with_reducible refine Fr.drew ?_) | (with_reducible refine Fr.drewN ?_ _) | (with_reducible exact Fr.refl _ _)))))⟩
              case measure => simp [intOf]; omega
      · have HB2 : Hid (BlAt wr eb ((gmOf m).leadL n (k + 1))) := Lib.hid (by rw [GM.leadL_off hgi (fun h => hd0 (hon.1 h))]; exact hbw)
        have hdd : decide (0 ≤ d) = false := decide_eq_false hd0
        clear hju hnx hgi hon
        go_wp2_with (go_at_call 40; refine (gn_isReached _ _).mono ?_; rintro e w2 ⟨rfl, rfl⟩)
        go_roundw
        case rel => exact ⟨k + 1, by omega, by go_num, Lib.hid (by (repeat (first | (with_reducible refine Fr.setCell ?_ (fun h => absurd h (Nat.lt_irrefl _)) _) | (with_reducible refine Fr.setCell ?_ (fun h => absurd h (by first | omega | (simp; done) | (simp; omega) | (dsimp only; omega))) _) | (with_reducible refine Fr.alloc ?_ _) | (with_reducible refine Fr.drew ?_) | (with_reducible refine Fr.drewN ?_ _) | (with_reducible exact HF.out)))), Lib.hid (HB2.out.fr (by (repeat (first | (with_reducible refine Fr.setCell ?_ (fun h => absurd h (Nat.lt_irrefl _)) _) | (with_reducible refine Fr.setCell ?_ (fun h => absurd h (by first | omega | (simp; done) | (simp; omega) | (dsimp only; omega))) _) | (with_reducible refine Fr.alloc ?_ _) | (with_reducible refine Fr.drew ?_) | (with_reducible refine Fr.drewN ?_ _) | (with_reducible exact Fr.refl _ _)))))⟩
        case measure => simp [intOf]; omega
    · have hke : k = n := by omega
      have hkd : ¬ (k : Int) < (n : Int) := by omega
      subst hke
      go_wp2_with fail
      go_ret
      exact ⟨eb, rfl, HGE.out.1, HB.out, HF.out.mono (fun j hj hjs => by simp at hjs; have := HGE.out.1; omega)⟩
end Go.Proofs.YtomcfjckhajhmabGreatDoor
namespace Go.Proofs.YtomcfjckhajhmabGreatDoor
open Go.RowKit

def noU : Un := ⟨0, 0, 0, 0, 0, 0, none, [], 0, none, [], 0, none, [], 0, none, [], 0⟩
def newK (m : Mth) (la ca da : Option Addr) (lc cc dc eb : Nat) : GK := ⟨m, la, lc, ca, cc, da, m.code.length, dc, some ⟨eb, 0, none⟩, m.code.length, m.code.length, none, 0⟩
set_option maxRecDepth 100000 in
set_option maxHeartbeats 4000000 in
theorem gn_newGenerator (m : Mth) (la ca da : Option Addr) (lc cc dc : Nat) (w : World) (hcode : RowAt w ca (flatI m.code)) (hdep : RowAt w da ((gmOf m).dep.map (Value.int .i64))) (L : LdOk m) : Calls Tryz.prog 20 #[m.v la lc ca cc, .slice da m.code.length dc] w (fun e w' => ∃ gb eb, e = .returned (.pointer (some ⟨gb, 0, none⟩)) ∧ w'.heap[gb]? = some (.cells (gcells (newK m la ca da lc cc dc eb) none 0 0 noU) 100 (0, 0)) ∧ w.heap.size ≤ gb ∧ eb ≠ gb ∧ w.heap.size ≤ eb ∧ BlAt w' eb ((gmOf m).leadL m.code.length m.code.length) ∧ Fr [] w w') := by
  have HL : Hid (∀ W', Fr [] w W' → Calls Tryz.prog 41 #[m.v la lc ca cc, .slice da m.code.length dc] W' (fun e w' => ∃ eb, e = .returned (.slice (some ⟨eb, 0, none⟩) m.code.length m.code.length) ∧ W'.heap.size ≤ eb ∧ BlAt w' eb ((gmOf m).leadL m.code.length m.code.length) ∧ Fr [] W' w')) := Lib.hid fun W' hF => gn_leadersOf m la ca da lc cc dc W' (hcode.fr0 hF) (hdep.fr0 hF) L
  unfold gcells newK noU
  simp only [List.length_nil]
  unfold Mth.v at HL ⊢
  obtain ⟨n, hnn⟩ : ∃ n, n = m.code.length := ⟨_, rfl⟩
  obtain ⟨ll, hll⟩ : ∃ ll, ll = m.lits.length := ⟨_, rfl⟩
  rw [← hnn, ← hll] at HL ⊢
  have hw0 := heap_new w (.cells #[.int .i64 m.args, .int .i64 m.temps, .int .i64 m.stack, .int .i64 m.prim, .slice la ll lc, .slice ca n cc] 25)
  have HW0 := Lib.hid hw0
  have i0 := cell_of_heap (o := 0) hw0 rfl; have i1 := cell_of_heap (o := 1) hw0 rfl; have i2 := cell_of_heap (o := 2) hw0 rfl; have i3 := cell_of_heap (o := 3) hw0 rfl; have i4 := cell_of_heap (o := 4) hw0 rfl; have i5 := cell_of_heap (o := 5) hw0 rfl
  clear hcode hdep L hnn hll hw0
  go_enter Tryz.func20, Tryz.ntmps20
  go_wp2_with fail
  go_region_held3 (fun w' => w'.cell? ⟨w.heap.size, 0, none⟩ = some (.int .i64 m.args) ∧ w'.cell? ⟨w.heap.size, 1, none⟩ = some (.int .i64 m.temps) ∧ w'.cell? ⟨w.heap.size, 2, none⟩ = some (.int .i64 m.stack) ∧ w'.cell? ⟨w.heap.size, 3, none⟩ = some (.int .i64 m.prim) ∧ w'.cell? ⟨w.heap.size, 4, none⟩ = some (.slice la ll lc) ∧ w'.cell? ⟨w.heap.size, 5, none⟩ = some (.slice ca n cc))
    (first | exact ⟨i0, i1, i2, i3, i4, i5⟩ | exact ⟨j0, j1, j2, j3, j4, j5⟩ | go_keep)
    ((go_at_call 41; refine (HL.out _ (by (repeat (first | (with_reducible refine Fr.setCell ?_ (fun h => absurd h (Nat.lt_irrefl _)) _) | (with_reducible refine Fr.setCell ?_ (fun h => absurd h (by first | omega | (simp; done) | (simp; omega) | (dsimp only; omega))) _) | (with_reducible refine Fr.alloc ?_ _) | (with_reducible refine Fr.drew ?_) | (with_reducible refine Fr.drewN ?_ _) | (with_reducible exact Fr.refl _ _))))).mono ?_; rintro e w2 ⟨eb, rfl, hge, hB, hF⟩; have HF2 : Hid (Fr [] w w2) := Lib.hid (Fr.trans (by (repeat (first | (with_reducible refine Fr.setCell ?_ (fun h => absurd h (Nat.lt_irrefl _)) _) | (with_reducible refine Fr.setCell ?_ (fun h => absurd h (by first | omega | (simp; done) | (simp; omega) | (dsimp only; omega))) _) | (with_reducible refine Fr.alloc ?_ _) | (with_reducible refine Fr.drew ?_) | (with_reducible refine Fr.drewN ?_ _) | (with_reducible exact Fr.refl _ _)))) hF); have hj := hF.heap (k := w.heap.size) (by simp) HW0.out; have j0 := cell_of_heap (o := 0) hj rfl; have j1 := cell_of_heap (o := 1) hj rfl; have j2 := cell_of_heap (o := 2) hj rfl; have j3 := cell_of_heap (o := 3) hj rfl; have j4 := cell_of_heap (o := 4) hj rfl; have j5 := cell_of_heap (o := 5) hj rfl; have HB2 := Lib.hid hB; have HGE : Hid (w.heap.size ≤ eb) := Lib.hid (Nat.le_trans (by first | exact ((Fr.refl [] w).alloc _).size | exact (((Fr.refl [] w).alloc _).drew).size | exact (((Fr.refl [] w).alloc _).drewN _).size) hge); clear hge hB hF hj))
  all_goals (try go_wp2_with fail)
  all_goals go_ret
  all_goals exact ⟨_, eb, rfl, heap_new _ _, HF2.out.size, by have := lt_of_heap HB2.out; simp; omega, HGE.out, HB2.out.fr (by (repeat (first | (with_reducible refine Fr.setCell ?_ (fun h => absurd h (Nat.lt_irrefl _)) _) | (with_reducible refine Fr.setCell ?_ (fun h => absurd h (by first | omega | (simp; done) | (simp; omega) | (dsimp only; omega))) _) | (with_reducible refine Fr.alloc ?_ _) | (with_reducible refine Fr.drew ?_) | (with_reducible refine Fr.drewN ?_ _) | (with_reducible exact Fr.refl _ _)))), by (repeat (first | (with_reducible refine Fr.setCell ?_ (fun h => absurd h (Nat.lt_irrefl _)) _) | (with_reducible refine Fr.setCell ?_ (fun h => absurd h (by first | omega | (simp; done) | (simp; omega) | (dsimp only; omega))) _) | (with_reducible refine Fr.alloc ?_ _) | (with_reducible refine Fr.drew ?_) | (with_reducible refine Fr.drewN ?_ _) | (with_reducible exact HF2.out)))⟩
end Go.Proofs.YtomcfjckhajhmabGreatDoor
