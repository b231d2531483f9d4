/- gc.valid: whether each of the words may be. A run of gc under way: its memory. gc.moved and gc.movedAll: words as they lead then. gc.reach: what is noted, and what is pending. gc.follow and gc.examine: whatever the roots lead to. -/
import Derived.Test.YtjjkbdkalnhcbaaGreatDoorMSnaps
import Derived.Test.YtjjkbdkalnhcbaaGreatDoorMPlain
import Derived.Test.YtjjkbdkalnhcbaaGreatDoorMLists
import Derived.Test.YtjjkbdkalnhcbaaGreatDoorMHeaps
import Derived.Maps.OwnOps
import Derived.WalkSmall
import Derived.Deep.LoopGhost
namespace Go.Proofs.YtjjkbdkalnhcbaaGreatDoor
open Go.RowKit

set_option maxHeartbeats 2000000 in
theorem valid_still {W : World} {hv : Value} {mb : Nat} {m : Mem} {wv sv : Value} (hO : ∀ W', Fr [] W W' → Opens hv mb m wv sv W') {ra : Option Addr} {rc : Nat} (xs : List Int) (hx : WordsAt W ra xs) (hb : ∀ x ∈ xs, WB x) (hl : xs.length ≤ 17592186044416) :
    Calls Tryz.prog 26 #[hv, .slice ra xs.length rc] W (Still (.bool (xs.all (okB m.M))) W) := by
  obtain ⟨n, hn⟩ : ∃ n, n = xs.length := ⟨_, rfl⟩
  rw [← hn] at hl ⊢
  have HN := Lib.hid hn
  have HX := Lib.hid hx
  have HB := Lib.hid hb
  have HO := Lib.hid hO
  obtain ⟨b, hbe⟩ : ∃ b, b = xs.all (okB m.M) := ⟨_, rfl⟩
  rw [← hbe]
  have HBE := Lib.hid hbe
  clear hn hx hb hO hbe
  go_enter Tryz.func26, Tryz.ntmps26
  go_wp2
  go_loopw [6, 9] (fun _ i wr => ∃ k : Nat, k ≤ n ∧ i = .int .i64 k ∧ Hid (Fr [] W wr) ∧ Hid ((xs.take k).all (okB m.M) = true)) (fun _ i _ => n - (intOf i).toNat)
  case atStart => exact ⟨0, Nat.zero_le _, rfl, Fr.refl _ _, by show (xs.take 0).all (okB m.M) = true; simp⟩
  case round =>
    obtain ⟨k, hk, rfl, hF, hall⟩ := hrel
    by_cases hlt : k < n
    · have hkl : k < xs.length := by rw [← HN.out]; exact hlt
      obtain ⟨x, hxe⟩ : ∃ x, xs[k]? = some x := ⟨_, List.getElem?_eq_getElem hkl⟩
      obtain ⟨g, o, rfl, hc⟩ := HX.out k x hxe
      have hc' := hF.out.cell (by simp) hc
      obtain ⟨x1, x2⟩ := HB.out x (List.mem_of_getElem? hxe)
      have hI := wordIsInt x wr x1 x2
      have hH := has_still (HO.out wr hF.out) x x1 x2
      have HT : Hid (xs.take (k + 1) = xs.take k ++ [x]) := by rw [List.take_add_one, hxe]; exact rfl
      have HNO : Hid (okB m.M x = false → b = false) := by
        refine Lib.hid fun h => ?_
        rw [HBE.out]
        exact List.all_eq_false.2 ⟨x, List.mem_of_getElem? hxe, by simp [h]⟩
      have HYES : Hid (okB m.M x = true → (xs.take (k + 1)).all (okB m.M) = true) := by
        refine Lib.hid fun h => ?_
        rw [HT.out, List.all_append, hall.out]
        simp [h]
      have k0 : (0 : Int) ≤ (k : Int) := by omega
      have k1 : (k : Int) < (n : Int) := by omega
      clear hkl hxe hc
      by_cases hz : x = 0
      · subst hz
        have HY := Lib.hid (HYES.out (by simp [okB]))
        clear hI hH
        go_wp2
        go_roundw
        case rel => exact ⟨k + 1, by omega, by go_num, hF, HY⟩
        case measure => simp [intOf]; omega
      · have hz1 : (x != 0) = true := by simpa using hz
        have hz2 : (x == 0) = false := by simpa using hz
        cases ho : odd x
        · rw [ho] at hI
          cases hs : stB m.M x
          · rw [hs] at hH
            have HNb := Lib.hid (HNO.out (by simp [okB, ho, hs, hz]))
            clear ho hs
            go_wp2_with (first | (go_at_call 51; refine hI.mono ?_; rintro e w' ⟨rfl, rfl⟩) | (go_at_call 52; refine hH.mono ?_; rintro e w2 ⟨rfl, hF2⟩; have HF2 := Lib.hid (hF.out.trans hF2); clear hF2))
            go_ret
            exact ⟨ret1 (vb HNb.out.symm), HF2.out⟩
          · rw [hs] at hH
            have HY := Lib.hid (HYES.out (by simp [okB, hs]))
            clear ho hs
            go_wp2_with (first | (go_at_call 51; refine hI.mono ?_; rintro e w' ⟨rfl, rfl⟩) | (go_at_call 52; refine hH.mono ?_; rintro e w2 ⟨rfl, hF2⟩; have HF2 := Lib.hid (hF.out.trans hF2); clear hF2))
            go_roundw
            case rel => exact ⟨k + 1, by omega, by go_num, HF2, HY⟩
            case measure => simp [intOf]; omega
        · rw [ho] at hI
          have HY := Lib.hid (HYES.out (by simp [okB, ho]))
          clear ho hH
          go_wp2_with (first | (go_at_call 51; refine hI.mono ?_; rintro e w' ⟨rfl, rfl⟩))
          go_roundw
          case rel => exact ⟨k + 1, by omega, by go_num, hF, HY⟩
          case measure => simp [intOf]; omega
    · have HBT : Hid (b = true) := by
        rw [HBE.out]
        have := hall.out
        rw [List.take_of_length_le (by rw [← HN.out]; omega)] at this
        exact this
      have hkd : decide (k < n) = false := by simp; omega
      go_wp2
      go_ret
      exact ⟨ret1 (vb HBT.out.symm), hF.out⟩
end Go.Proofs.YtjjkbdkalnhcbaaGreatDoor
namespace Go.Proofs.YtjjkbdkalnhcbaaGreatDoor
open Go.RowKit

theorem keyedWord : Maps.Keyed Tryz.prog 24 := Maps.int_keyed Tryz.underlying24
theorem zeroWord (w : World) : (zeroValue 24).run Tryz.prog w = .ok (.int .u64 0) w := by kernel_rfl
theorem wfWord {x : Int} (h : WB x) : (Lit.int .u64 x).wf = true := WalkArith.wf_u64 ⟨h.1, h.2⟩
theorem keyWord {x : Int} (h : WB x) : keyOf Tryz.prog 24 (.int .u64 x) = some (.int .u64 x) := Maps.keyOf_int_mk Tryz.underlying24 (wfWord h)
/-- the map holds just what val says -/
def MapV (W : World) (b n : Nat) (val : Int → Option Int) (D : DataW Unit) : Prop :=
  W.ownsMap Tryz.prog 24 (plainElem Tryz.prog 24) b n D ∧ ∀ x, WB x → Maps.has D (.int .u64 x) = (val x).isSome ∧ D.atKey (.int .u64 x) (.lit (.int .u64 0)) = .lit (.int .u64 ((val x).getD 0))
theorem MapV.fr {W W' : World} {b n : Nat} {val : Int → Option Int} {D : DataW Unit} {S : List Nat} (h : MapV W b n val D) (hF : Fr S W W') (hb : b ∉ S) : MapV W' b n val D := by
  obtain ⟨⟨es, clock, h1, h2⟩, h3⟩ := h
  exact ⟨⟨es, clock, hF.heap hb h1, h2⟩, h3⟩
theorem MapV.put {W W' : World} {b n : Nat} {val : Int → Option Int} {D : DataW Unit} (h : MapV W b n val D) {x : Int} (v : Int) (hx : WB x) (ho : W'.ownsMap Tryz.prog 24 (plainElem Tryz.prog 24) b (n + 1) (D.put (.int .u64 x) (.lit (.int .u64 v)))) :
    MapV W' b (n + 1) (fun y => if y = x then some v else val y) (D.put (.int .u64 x) (.lit (.int .u64 v))) := by
  refine ⟨ho, fun y hy => ?_⟩
  have hm := h.1.isMap
  have hk := keyedWord.key (keyWord hx)
  dsimp only
  by_cases e : y = x
  · subst e
    rw [if_pos rfl, Maps.has_put_same hm hk, Maps.atKey_put_same hm hk]
    exact ⟨rfl, rfl⟩
  · rw [if_neg e, Maps.has_put_other (fun e' => e (by cases e'; rfl)), Maps.atKey_put_other (fun e' => e (by cases e'; rfl))]
    exact h.2 y hy
theorem MapV.congr {W : World} {b n : Nat} {val val' : Int → Option Int} {D : DataW Unit} (h : MapV W b n val D) (he : ∀ x, val x = val' x) : MapV W b n val' D := by
  obtain rfl : val = val' := funext he
  exact h
theorem MapV.not_cells {W : World} {b n : Nat} {val : Int → Option Int} {D : DataW Unit} (h : MapV W b n val D) {k : Nat} {c : Array Value} {t : TypeId} {f : Nat × Nat} (hk : W.heap[k]? = some (.cells c t f)) : k ≠ b := by
  rintro rfl
  obtain ⟨⟨es, clock, h1, -⟩, -⟩ := h
  rw [hk] at h1
  cases h1

/-- a run under way: what its map holds, and what is pending -/
structure Coll (w0 : World) (hb cb b : Nat) (pv : Value) (val : Int → Option Int) (n : Nat) (pend : List Int) (W : World) : Prop where
  box : W.heap[cb]? = some (.cells #[.pointer (some ⟨hb, 0, none⟩), .map (some b), pv] 64 (0, 0))
  map : ∃ D, MapV W b n val D
  row : W.ownsRow 0 24 1 pv pend.length (pend.map (Value.int .u64))
  fr : Fr [] w0 W
  cn : w0.heap.size ≤ cb
  bn : w0.heap.size ≤ b
  pn : ∀ k, pv.ownBlock = some k → w0.heap.size ≤ k
section
variable {w0 W W' : World} {hb cb b : Nat} {pv : Value} {val : Int → Option Int} {n : Nat} {pend : List Int}
def cfoot (cb b : Nat) (pv : Value) : List Nat := cb :: b :: pv.ownBlock.toList
theorem Coll.still (h : Coll w0 hb cb b pv val n pend W) (hF : Fr [] W W') : Coll w0 hb cb b pv val n pend W' := by
  obtain ⟨D, hD⟩ := h.map
  exact ⟨hF.heap (by simp) h.box, ⟨D, hD.fr hF (by simp)⟩, hF.row h.row (fun _ _ => by simp), h.fr.trans hF, h.cn, h.bn, h.pn⟩
theorem Coll.row_ne (h : Coll w0 hb cb b pv val n pend W) {k : Nat} (hk : pv.ownBlock = some k) : k ≠ cb ∧ k ≠ b := by
  obtain ⟨cur, hc⟩ := row_heap h.row hk
  obtain ⟨D, hD⟩ := h.map
  exact ⟨tag_ne hc h.box (by decide), hD.not_cells hc⟩
theorem Coll.box_ne (h : Coll w0 hb cb b pv val n pend W) : cb ≠ b := by
  obtain ⟨D, hD⟩ := h.map
  exact hD.not_cells h.box
theorem Coll.cell0 (h : Coll w0 hb cb b pv val n pend W) : W.cell? ⟨cb, 0, none⟩ = some (.pointer (some ⟨hb, 0, none⟩)) := cell_of_heap h.box rfl
theorem Coll.cell1 (h : Coll w0 hb cb b pv val n pend W) : W.cell? ⟨cb, 1, none⟩ = some (.map (some b)) := cell_of_heap h.box rfl
theorem Coll.cell2 (h : Coll w0 hb cb b pv val n pend W) : W.cell? ⟨cb, 2, none⟩ = some pv := cell_of_heap h.box rfl
/-- the map was written -/
theorem Coll.mapped (h : Coll w0 hb cb b pv val n pend W) {n' : Nat} {val' : Int → Option Int} (hg : W.grownBy W' (some b)) (hm : ∃ D, MapV W' b n' val' D) : Coll w0 hb cb b pv val' n' pend W' := by
  have hF : Fr [b] W W' := (Fr.refl _ _).grown hg (fun k hk _ => by cases hk; simp)
  refine ⟨hF.heap (by simpa using h.box_ne) h.box, hm, hF.row h.row (fun k hk => by simpa using (h.row_ne hk).2), h.fr.join hF (fun j hj => ?_), h.cn, h.bn, h.pn⟩
  simp only [List.mem_singleton] at hj
  rw [hj]
  exact h.bn
/-- one more is pending -/
theorem Coll.pushed (h : Coll w0 hb cb b pv val n pend W) {w1 : World} {v1 : Value} {x : Int} (ho : w1.ownsRow 0 24 1 v1 (pend.length + 1) (pend.map (Value.int .u64) ++ [.int .u64 x])) (hg : W.grownBy w1 pv.ownBlock) (hf : v1.ownBlock = pv.ownBlock ∨ v1.ownBlock = some W.heap.size) :
    w1.cell? ⟨cb, 2, none⟩ = some pv ∧ w1.frozen? ⟨cb, 2, none⟩ = false ∧ Coll w0 hb cb b v1 val n (pend ++ [x]) (w1.setCell ⟨cb, 2, none⟩ v1) := by
  have hFg : Fr pv.ownBlock.toList W w1 := (Fr.refl _ _).grown hg (fun k hk _ => by simp [hk])
  have hcb : cb ∉ pv.ownBlock.toList := fun hm => (h.row_ne (by simpa using hm)).1 rfl
  have hbb : b ∉ pv.ownBlock.toList := fun hm => (h.row_ne (by simpa using hm)).2 rfl
  have hbox1 := hFg.heap hcb h.box
  have hF2 : Fr [cb] w1 (w1.setCell ⟨cb, 2, none⟩ v1) := (Fr.refl _ _).setCell (fun _ => by simp) _
  obtain ⟨D, hD⟩ := h.map
  have hpn : ∀ k, v1.ownBlock = some k → w0.heap.size ≤ k := fun k hk => by
    rcases hf with hf | hf
    · exact h.pn k (hf ▸ hk)
    · rw [hf] at hk; cases hk; exact h.fr.size
  refine ⟨cell_of_heap hbox1 rfl, frozen_of_heap hbox1, heap_setCell_same hbox1 _, ⟨D, (hD.fr hFg hbb).fr hF2 (by simpa using Ne.symm h.box_ne)⟩, ?_, ?_, h.cn, h.bn, hpn⟩
  · have := hF2.row ho (fun k hk => by obtain ⟨cur, hc⟩ := row_heap ho hk; simpa using tag_ne hc hbox1 (by decide))
    simpa using this
  · refine (h.fr.join hFg (fun j hj => h.pn j (by simpa using hj))).join hF2 (fun j hj => ?_)
    simp only [List.mem_singleton] at hj
    rw [hj]
    exact h.cn
/-- what is pending is cut by one -/
theorem Coll.popped {g cap : Nat} {x : Int} (h : Coll w0 hb cb b (.slice (some ⟨g, 0, none⟩) (pend.length + 1) cap) val n (pend ++ [x]) W) :
    W.frozen? ⟨cb, 2, none⟩ = false ∧ Coll w0 hb cb b (.slice (some ⟨g, 0, none⟩) pend.length cap) val n pend (W.setCell ⟨cb, 2, none⟩ (.slice (some ⟨g, 0, none⟩) pend.length cap)) := by
  have hF2 : Fr [cb] W (W.setCell ⟨cb, 2, none⟩ (.slice (some ⟨g, 0, none⟩) pend.length cap)) := (Fr.refl _ _).setCell (fun _ => by simp) _
  have hr : W.ownsRow 0 24 1 (.slice (some ⟨g, 0, none⟩) pend.length cap) pend.length (pend.map (Value.int .u64)) := by
    have := h.row
    rw [List.length_append, List.length_singleton, List.map_append] at this
    exact ownsRow_pop (by simp) this
  obtain ⟨D, hD⟩ := h.map
  refine ⟨frozen_of_heap h.box, heap_setCell_same h.box _, ⟨D, hD.fr hF2 (by simpa using Ne.symm h.box_ne)⟩, hF2.row hr (fun k hk => by simpa using (h.row_ne (k := k) hk).1), h.fr.join hF2 (fun j hj => ?_), h.cn, h.bn, fun k hk => h.pn k hk⟩
  simp only [List.mem_singleton] at hj
  rw [hj]
  exact h.cn
end
def val0 (a : List Int) (x : Int) : Option Int := if x ∈ a then some 0 else none
theorem val0_snoc (a : List Int) (x y : Int) : (if y = x then some 0 else val0 a y) = val0 (a ++ [x]) y := by
  unfold val0
  simp only [List.mem_append, List.mem_singleton]
  by_cases e : y = x <;> by_cases h : y ∈ a <;> simp [e, h]
end Go.Proofs.YtjjkbdkalnhcbaaGreatDoor
namespace Go.Proofs.YtjjkbdkalnhcbaaGreatDoor
open Go.RowKit

/-- the map of a run lies there -/
def Places (cb b n : Nat) (val : Int → Option Int) (W : World) : Prop := (∃ hv pv, W.heap[cb]? = some (.cells #[hv, .map (some b), pv] 64 (0, 0))) ∧ ∃ D, MapV W b n val D
theorem Places.fr {cb b n : Nat} {val : Int → Option Int} {W W' : World} (h : Places cb b n val W) (hF : Fr [] W W') : Places cb b n val W' := by
  obtain ⟨⟨hv, pv, h1⟩, D, h2⟩ := h
  exact ⟨⟨hv, pv, hF.heap (by simp) h1⟩, D, h2.fr hF (by simp)⟩
set_option maxHeartbeats 1000000 in
theorem moved_gives {W : World} {cb b n : Nat} {val : Int → Option Int} (hP : Places cb b n val W) (x : Int) (hx : WB x) :
    Calls Tryz.prog 31 #[.pointer (some ⟨cb, 0, none⟩), .int .u64 x] W (Gives (.int .u64 ((val x).getD x)) W) := by
  obtain ⟨⟨hv, pv, hbox⟩, D, hD⟩ := hP
  have hc := cell_of_heap (o := 1) hbox rfl
  have hk := keyWord hx
  obtain ⟨h1, h2⟩ := hD.2 x hx
  have HD := Lib.hid hD
  clear hD hbox
  cases hval : val x with
  | none =>
    rw [hval] at h1 h2
    simp only [Option.isSome_none, Option.getD_none] at h1 h2
    go_enter Tryz.func31, Tryz.ntmps31
    go_wp2_with (at_lookup; refine wpList_lookup_own_ok_int _ rfl _ _ 62 rfl 24 24 .u64 keyedWord Tryz.underlying62 Tryz.underlying24 (zeroWord _) b n D rfl HD.out.1 _ _ rfl hk ?_; intro c hat hwc; rw [h1])
    go_ret
    exact ⟨rfl, rfl⟩
  | some p =>
    rw [hval] at h1 h2
    simp only [Option.isSome_some, Option.getD_some] at h1 h2
    go_enter Tryz.func31, Tryz.ntmps31
    go_wp2_with (at_lookup; refine wpList_lookup_own_ok_int _ rfl _ _ 62 rfl 24 24 .u64 keyedWord Tryz.underlying62 Tryz.underlying24 (zeroWord _) b n D rfl HD.out.1 _ _ rfl hk ?_; intro c hat hwc; rw [h1])
    go_ret
    rw [h2] at hat
    cases hat
    exact ⟨rfl, rfl⟩
theorem one_cell (w : World) (v : Value) (t : TypeId) : ∀ j u, [v][j]? = some u → (w.alloc (.cells #[v] t)).cell? ((⟨w.heap.size, 0, none⟩ : Addr).add j) = some u := by
  intro j u hj
  rw [Lib.add_plain, Nat.zero_add, World.cell?_alloc_new]
  simpa using hj
theorem makeZ (n : Nat) (h2 : n ≤ 17592186044416) : ∃ Z : Array Value, Hid (Z.size = n) ∧ ∀ W : World, (Instr.makeSlice 25 (.int .i64 0) (.int .i64 (n : Int))).run Tryz.prog W = .ok (.slice (some ⟨W.heap.size, 0, none⟩) 0 n) (W.alloc (.cells Z 24)) := by
  obtain ⟨i0, hi, hz0, hz1, hz2⟩ := info_parts infoWord
  refine ⟨madeCells (Value.int .u64 0).cells n, size_madeCells _ _, fun W => ?_⟩
  have hr := run_make (P := Tryz.prog) W 25 24 i0 (.int .u64 0) Tryz.underlying25 hi hz0 .i64 .i64 0 n (by omega) (by omega) (by rw [hz2]; omega) (by omega)
  simp only [Int.toNat_natCast, hz1, Nat.mul_one, Int.toNat_zero] at hr
  exact hr
set_option maxRecDepth 100000 in
set_option maxHeartbeats 4000000 in
theorem movedAll_at {W : World} {cb b n : Nat} {val : Int → Option Int} (hP : Places cb b n val W) (f : Int → Int) (hf : ∀ x, WB x → (val x).getD x = f x) {ra : Option Addr} {rc : Nat} (xs : List Int) (hx : WordsAt W ra xs) (hB : ∀ x ∈ xs, WB x) (hl : xs.length ≤ 17592186044416) :
    Calls Tryz.prog 32 #[.pointer (some ⟨cb, 0, none⟩), .slice ra xs.length rc] W (Lists 24 1 xs.length ((xs.map f).map (Value.int .u64)) W) := by
  obtain ⟨i0, hi, hz0, hz1, hz2⟩ := info_parts infoWord
  obtain ⟨N, hn⟩ : ∃ N, N = xs.length := ⟨_, rfl⟩
  rw [← hn] at hl ⊢
  obtain ⟨Z, HZ, hmk⟩ := makeZ N hl
  have HN := Lib.hid hn
  have HX := Lib.hid hx
  have HB := Lib.hid hB
  have HF := Lib.hid hf
  have HP := Lib.hid hP
  clear hn hx hB hf hP
  go_enter Tryz.func32, Tryz.ntmps32
  go_wp2
  go_loopw [5, 13] (fun v i wr => ∃ k : Nat, k ≤ N ∧ i = .int .i64 k ∧ ∃ vo vc, v = .slice vo k vc ∧ Hid (wr.ownsRow 0 24 1 (.slice vo k vc) k (((xs.take k).map f).map (Value.int .u64)) ∧ Fr [] W wr ∧ ∀ q, (Value.slice vo k vc).ownBlock = some q → W.heap.size ≤ q)) (fun _ i _ => N - (intOf i).toNat)
  case atStart => exact ⟨0, Nat.zero_le _, rfl, _, _, rfl, ⟨rfl, .inr ⟨W.heap.size, N, Z, rfl, Nat.zero_le _, heap_new _ _, Nat.zero_le _, by unfold maxLen; omega, by rw [HZ.out, Nat.mul_one], by simp⟩⟩, (Fr.refl _ _).alloc _, fun q hq => by cases hq; exact Nat.le_refl _⟩
  case round =>
    obtain ⟨k, hk, rfl, vo, vc, rfl, hR⟩ := hrel
    by_cases hlt : k < N
    · have hkl : k < xs.length := by rw [← HN.out]; exact hlt
      obtain ⟨x, hxe⟩ : ∃ x, xs[k]? = some x := ⟨_, List.getElem?_eq_getElem hkl⟩
      obtain ⟨g, o, rfl, hc⟩ := HX.out k x hxe
      have hc' := hR.out.2.1.cell (by simp) hc
      have hxb := HB.out x (List.mem_of_getElem? hxe)
      have hmv := moved_gives (HP.out.fr hR.out.2.1) x hxb
      rw [HF.out x hxb] at hmv
      have HT : Hid (((xs.take (k + 1)).map f).map (Value.int .u64) = ((xs.take k).map f).map (Value.int .u64) ++ [.int .u64 (f x)]) := by
        rw [List.take_add_one, hxe]
        exact Lib.hid (by simp)
      obtain ⟨y, hy⟩ : ∃ y, y = f x := ⟨_, rfl⟩
      rw [← hy] at hmv HT
      have k0 : (0 : Int) ≤ (k : Int) := by omega
      have k1 : (k : Int) < (N : Int) := by omega
      have HR1 : Hid ((wr.alloc (.cells #[.int .u64 y] 24)).ownsRow 0 24 1 (.slice vo k vc) k (((xs.take k).map f).map (Value.int .u64))) := ((Fr.refl [] _).alloc _).row hR.out.1 (fun _ _ => by simp)
      clear hkl hxe hc hxb hy
      go_wp2_with (first
        | (go_at_call 31; refine hmv.mono ?_; rintro e w2 ⟨rfl, rfl⟩)
        | (at_builtin; refine wpList_append_at _ rfl (.tmp 17) (.tmp 21) 25 rfl 24 i0 (.int .u64 0) 1 8 Tryz.underlying25 hi hz0 hz1 hz2 rfl (by decide) (.slice vo k vc) k _ rfl HR1.out ⟨wr.heap.size, 0, none⟩ 1 1 [.int .u64 y] rfl rfl (one_cell wr (.int .u64 y) 24) (by simp [Value.oneCell']) (by unfold maxLen; omega) (by omega) ?_; intro v5 w5 ho5 hg5 hf5; obtain ⟨a5, p5, rfl⟩ := row_shape ho5; have HO5 := Lib.hid ho5; have HG5 := Lib.hid hg5; have HF5 := Lib.hid hf5; clear ho5 hg5 hf5))
      go_roundw
      case rel =>
        refine ⟨k + 1, by omega, by go_num, a5, p5, rfl, ⟨by rw [HT.out]; exact HO5.out, (hR.out.2.1.alloc _).grown HG5.out (fun q hq _ => absurd (hR.out.2.2 q hq) (by omega)), fun q hq => ?_⟩⟩
        rcases HF5.out with h | h
        · exact hR.out.2.2 q (h ▸ hq)
        · rw [h] at hq
          cases hq
          have := hR.out.2.1.size
          simp
          omega
      case measure => simp [intOf]; omega
    · have hkN : k = N := by omega
      subst hkN
      have HT : Hid (xs.take k = xs) := List.take_of_length_le (by rw [← HN.out]; omega)
      have hkd : decide (k < k) = false := by simp
      go_wp2
      go_ret
      have h := hR.out
      rw [HT.out] at h
      exact ⟨_, rfl, h.1, h.2.1, h.2.2⟩
end Go.Proofs.YtjjkbdkalnhcbaaGreatDoor
namespace Go.Proofs.YtjjkbdkalnhcbaaGreatDoor
open Go.RowKit

theorem ownBlock_slice {a : Option Addr} {n c : Nat} {k : Nat} (h : (Value.slice a n c).ownBlock = some k) : ∃ ad, a = some ad ∧ ad.block = k := by
  cases a with
  | none => cases h
  | some ad => cases h; exact ⟨ad, rfl, rfl⟩
/-- a run after words were reached -/
def Rea (w0 : World) (hb cb b : Nat) (pv : Value) (W : World) (s : List Int × List Int) (wr : World) : Prop :=
  ∃ pv', Coll w0 hb cb b pv' (val0 s.1) s.1.length s.2 wr ∧ Fr (cfoot cb b pv) W wr ∧ ∀ q, pv'.ownBlock = some q → pv.ownBlock = some q ∨ W.heap.size ≤ q
theorem Rea.go {w0 W wr w' : World} {hb cb b : Nat} {pv : Value} {s : List Int × List Int} (h : Rea w0 hb cb b pv W s wr) (hF : Fr [] wr w') : Rea w0 hb cb b pv W s w' := by
  obtain ⟨pv', h1, h2, h3⟩ := h
  exact ⟨pv', h1.still hF, h2.trans hF.weak, h3⟩
set_option maxRecDepth 100000 in
set_option maxHeartbeats 4000000 in
theorem reach_at {w0 W : World} {hb mb cb b : Nat} {m : Mem} {wv sv pv : Value} (hH : HeapAt w0 hb mb m wv sv) {s : List Int × List Int} (hC : Coll w0 hb cb b pv (val0 s.1) s.1.length s.2 W) (hs : ∀ ys, (reachL m.M s ys).1.length ≤ 65536 ∧ (reachL m.M s ys).2.length ≤ 65536)
    {ra : Option Addr} {rc : Nat} (xs : List Int) (hx : WordsAt W ra xs) (hd : xs ≠ [] → ∀ a, ra = some a → a.block ∉ cfoot cb b pv) (hB : ∀ x ∈ xs, WB x) (hl : xs.length ≤ 17592186044416) :
    Calls Tryz.prog 27 #[.pointer (some ⟨cb, 0, none⟩), .slice ra xs.length rc] W fun e W' => e = .returned (.tuple #[]) ∧ Rea w0 hb cb b pv W (reachL m.M s xs) W' := by
  obtain ⟨i0, hi, hz0, hz1, hz2⟩ := info_parts infoWord
  obtain ⟨n, hn⟩ : ∃ n, n = xs.length := ⟨_, rfl⟩
  rw [← hn] at hl ⊢
  have HN := Lib.hid hn
  have HX := Lib.hid hx
  have HB := Lib.hid hB
  have HDJ := Lib.hid hd
  have HH := Lib.hid hH
  have HS := Lib.hid hs
  have HC : Hid (Rea w0 hb cb b pv W s W) := ⟨pv, hC, Fr.refl _ _, fun q hq => .inl hq⟩
  clear hn hx hB hd hH hs hC
  go_enter Tryz.func27, Tryz.ntmps27
  go_wp2
  go_loopw [10] (fun i wr => ∃ k : Nat, k ≤ n ∧ i = .int .i64 k ∧ Hid (Rea w0 hb cb b pv W (reachL m.M s (xs.take k)) wr)) (fun i _ => n - (intOf i).toNat)
  case atStart => exact ⟨0, Nat.zero_le _, rfl, HC⟩
  case round =>
    obtain ⟨k, hk, rfl, hR⟩ := hrel
    by_cases hlt : k < n
    · have hkl : k < xs.length := by rw [← HN.out]; exact hlt
      obtain ⟨x, hxe⟩ : ∃ x, xs[k]? = some x := ⟨_, List.getElem?_eq_getElem hkl⟩
      obtain ⟨g, o, rfl, hc⟩ := HX.out k x hxe
      obtain ⟨pv', hCk, hFk, hnk⟩ := hR.out
      have hc' := hFk.cell (p := ⟨g, o + k, none⟩) (HDJ.out (fun h => by rw [h] at hkl; simp at hkl) ⟨g, o, none⟩ rfl) hc
      have hxb := HB.out x (List.mem_of_getElem? hxe)
      have hkey := keyWord hxb
      have HNX := Lib.hid (reachL_next (M := m.M) (s := s) hxe)
      have hlen := HS.out (xs.take k)
      obtain ⟨sk, hsk⟩ : ∃ sk, sk = reachL m.M s (xs.take k) := ⟨_, rfl⟩
      rw [← hsk] at hCk hlen HNX
      obtain ⟨D, hD⟩ := hCk.map
      obtain ⟨pa, pc, rfl⟩ := row_shape hCk.row
      have c0 := hCk.cell0
      have c1 := hCk.cell1
      have hHas := has_still (memory_at (HH.out.fr hCk.fr (by simp) (fun _ _ => by simp))) x hxb.1 hxb.2
      have hv := (hD.2 x hxb).1
      have HD := Lib.hid hD
      have HCk := Lib.hid hCk
      have HFk := Lib.hid hFk
      have HNK := Lib.hid hnk
      have HXB := Lib.hid hxb
      have hl1 := hlen.1
      have hl2 := hlen.2
      have k0 : (0 : Int) ≤ (k : Int) := by omega
      have k1 : (k : Int) < (n : Int) := by omega
      clear hkl hxe hc hR hD hCk hFk hnk hxb hsk hlen
      by_cases hmem : x ∈ sk.1
      · have hhas : Maps.has D (.int .u64 x) = true := by rw [hv]; simp [val0, hmem]
        have HNEXT : Hid (Rea w0 hb cb b pv W (reachL m.M s (xs.take (k + 1))) wr) := by
          rw [HNX.out]
          unfold reach1
          rw [if_pos (.inl hmem)]
          exact ⟨_, HCk.out, HFk.out, HNK.out⟩
        clear hHas hv hmem
        go_wp2_with (at_lookup; refine wpList_lookup_own_ok_int _ rfl _ _ 62 rfl 24 24 .u64 keyedWord Tryz.underlying62 Tryz.underlying24 (zeroWord _) b sk.1.length D rfl HD.out.1 _ _ rfl hkey ?_; intro c hat hwc; rw [hhas]; clear hat hwc)
        go_roundw
        case rel => exact ⟨k + 1, by omega, by go_num, HNEXT⟩
        case measure => simp [intOf]; omega
      · have hhas : Maps.has D (.int .u64 x) = false := by rw [hv]; simp [val0, hmem]
        cases hst : stB m.M x
        · rw [hst] at hHas
          have HNEXT : Hid (∀ w', Fr [] wr w' → Rea w0 hb cb b pv W (reachL m.M s (xs.take (k + 1))) w') := by
            refine Lib.hid fun w' hF => ?_
            rw [HNX.out]
            unfold reach1
            rw [if_pos (.inr hst)]
            exact Rea.go ⟨_, HCk.out, HFk.out, HNK.out⟩ hF
          clear hv hmem hst
          go_wp2_with (first
            | (at_lookup; refine wpList_lookup_own_ok_int _ rfl _ _ 62 rfl 24 24 .u64 keyedWord Tryz.underlying62 Tryz.underlying24 (zeroWord _) b sk.1.length D rfl HD.out.1 _ _ rfl hkey ?_; intro c hat hwc; rw [hhas]; clear hat hwc)
            | (go_at_call 52; refine hHas.mono ?_; rintro e w2 ⟨rfl, hF2⟩; have HF2 := Lib.hid hF2; clear hF2))
          go_roundw
          case rel => exact ⟨k + 1, by omega, by go_num, HNEXT.out _ HF2.out⟩
          case measure => simp [intOf]; omega
        · rw [hst] at hHas
          have HNEXT : Hid (reachL m.M s (xs.take (k + 1)) = (sk.1 ++ [x], sk.2 ++ [x])) := by
            rw [HNX.out]
            unfold reach1
            rw [if_neg (by rw [hst]; simpa using hmem)]
            exact rfl
          clear hv hmem hst
          go_wp2_with (first
            | (at_lookup; refine wpList_lookup_own_ok_int _ rfl _ _ 62 rfl 24 24 .u64 keyedWord Tryz.underlying62 Tryz.underlying24 (zeroWord _) b sk.1.length D rfl HD.out.1 _ _ rfl hkey ?_; intro c hat hwc; rw [hhas]; clear hat hwc)
            | (go_at_call 52; refine hHas.mono ?_; rintro e w2 ⟨rfl, hF2⟩; have HF2 := Lib.hid hF2; have HC2 := Lib.hid (HCk.out.still hF2); have HD2 := Lib.hid (HD.out.fr hF2 (by simp)); have d1 := HC2.out.cell1; clear hF2)
            | (at_mapUpdate; refine wpList_mapUpdate_own _ rfl _ _ _ 62 rfl 24 24 keyedWord Tryz.underlying62 (plainElem Tryz.prog 24) b sk.1.length D rfl HD2.out.1 (by unfold maxLen; omega) _ _ (.int .u64 x) rfl rfl hkey (.lit (.int .u64 0)) [] (plainElem_int Tryz.underlying24 rfl) ?_; intro w3 hown3 hgrow3; have HC3 : Hid (Coll w0 hb cb b (.slice pa sk.2.length pc) (val0 (sk.1 ++ [x])) (sk.1.length + 1) sk.2 w3) := HC2.out.mapped hgrow3 ⟨_, (HD2.out.put 0 HXB.out hown3).congr (val0_snoc _ _)⟩; have HG3 := Lib.hid hgrow3; have HC4 := Lib.hid (HC3.out.still ((Fr.refl _ _).alloc (.cells #[.int .u64 x] 24))); have d2 := HC4.out.cell2; have e2 := HC3.out.cell2; clear hown3 hgrow3)
            | (at_builtin; refine wpList_append_at _ rfl (.tmp 42) (.tmp 44) 25 rfl 24 i0 (.int .u64 0) 1 8 Tryz.underlying25 hi hz0 hz1 hz2 rfl (by decide) (.slice pa sk.2.length pc) sk.2.length _ rfl HC4.out.row ⟨w3.heap.size, 0, none⟩ 1 1 [.int .u64 x] rfl rfl (one_cell w3 (.int .u64 x) 24) (by simp [Value.oneCell']) (by unfold maxLen; omega) (by omega) ?_; intro v5 w5 ho5 hg5 hf5; obtain ⟨a5, p5, rfl⟩ := row_shape ho5; have hap := HC4.out.pushed ho5 hg5 hf5; have hc5 := hap.1; have hz5 := hap.2.1; have HC5 := Lib.hid hap.2.2; have HG5 := Lib.hid hg5; have HF5 := Lib.hid hf5; clear hap ho5 hg5 hf5))
          have HNEW : Hid (Rea w0 hb cb b pv W (reachL m.M s (xs.take (k + 1))) (w5.setCell ⟨cb, 2, none⟩ (.slice a5 (sk.2.length + 1) p5))) := by
            rw [HNEXT.out]
            refine ⟨_, by simpa using HC5.out, ?_, ?_⟩
            · refine Fr.setCell (Fr.grown (Fr.alloc (Fr.grown (HFk.out.trans HF2.out.weak) HG3.out (fun q hq _ => ?_)) _) HG5.out (fun q hq hql => ?_)) (fun _ => ?_) _
              · cases hq; simp [cfoot]
              · rcases HNK.out q hq with h | h
                · simp [cfoot, h]
                · omega
              · simp [cfoot]
            · intro q hq
              rcases HF5.out with h | h
              · exact HNK.out q (h ▸ hq)
              · rw [h] at hq
                cases hq
                right
                have h1 := HFk.out.size
                have h2 := HF2.out.size
                have h3 := HG3.out.size
                simp
                omega
          clear HC5 HG5 HF5 HC4 HC3 HG3 HC2 HD2
          go_roundw
          case rel => exact ⟨k + 1, by omega, by go_num, HNEW⟩
          case measure => simp [intOf]; omega
    · have hkN : k = n := by omega
      subst hkN
      have HT : Hid (xs.take k = xs) := List.take_of_length_le (by rw [← HN.out]; omega)
      have hkd : decide (k < k) = false := by simp
      go_wp2
      go_end0
      have h := hR.out
      rw [HT.out] at h
      exact ⟨rfl, h⟩
end Go.Proofs.YtjjkbdkalnhcbaaGreatDoor
namespace Go.Proofs.YtjjkbdkalnhcbaaGreatDoor
open Go.RowKit

def CollAt (w0 : World) (hb cb b : Nat) (s : List Int × List Int) (W : World) : Prop := ∃ pv, Coll w0 hb cb b pv (val0 s.1) s.1.length s.2 W
section
variable {w0 W : World} {hb mb cb b : Nat} {lim root hashes : Int} {os : List Ob} {wv sv : Value} {s : List Int × List Int}
theorem CollAt.still {W' : World} (h : CollAt w0 hb cb b s W) (hF : Fr [] W W') : CollAt w0 hb cb b s W' := by obtain ⟨pv, h⟩ := h; exact ⟨pv, h.still hF⟩
theorem CollAt.fr (h : CollAt w0 hb cb b s W) : Fr [] w0 W := by obtain ⟨pv, h⟩ := h; exact h.fr
theorem CollAt.cell0 (h : CollAt w0 hb cb b s W) : W.cell? ⟨cb, 0, none⟩ = some (.pointer (some ⟨hb, 0, none⟩)) := by obtain ⟨pv, h⟩ := h; exact h.cell0
theorem Coll.lt {pv : Value} {val : Int → Option Int} {n : Nat} {pend : List Int} (h : Coll w0 hb cb b pv val n pend W) : ∀ k ∈ cfoot cb b pv, k < W.heap.size := by
  intro k hk
  obtain ⟨D, hD⟩ := h.map
  simp only [cfoot, List.mem_cons, Option.mem_toList] at hk
  rcases hk with rfl | rfl | hk
  · exact lt_of_heap h.box
  · exact hD.1.lt
  · obtain ⟨cur, hc⟩ := row_heap h.row hk
    exact lt_of_heap hc
theorem RW.lens (hl : endOf os ≤ 65536) (h : RW (marksOf os) s) (ys : List Int) : (reachL (marksOf os) s ys).1.length ≤ 65536 ∧ (reachL (marksOf os) s ys).2.length ≤ 65536 := by
  have h1 := h.all ys
  have h2 := h1.len hl
  have h3 := nodup_le h1.n2 h1.sub
  have h4 := len_end os
  omega
theorem reach_one (hl : endOf os ≤ 65536) (hH : HeapAt w0 hb mb (absMem lim os root hashes) wv sv) (hR : RW (marksOf os) s) (hC : CollAt w0 hb cb b s W) (x : Int) (hx : WB x) :
    Calls Tryz.prog 27 #[.pointer (some ⟨cb, 0, none⟩), .slice (some ⟨W.heap.size, 0, none⟩) 1 1] (W.alloc (.cells #[.int .u64 x] 24)) fun e W' => e = .returned (.tuple #[]) ∧ CollAt w0 hb cb b (reach1 (marksOf os) s x) W' := by
  obtain ⟨pv, hC⟩ := hC
  have hlt := hC.lt
  refine (reach_at hH (hC.still ((Fr.refl _ _).alloc _)) (hR.lens hl) [x] (fun i y hy => ⟨W.heap.size, 0, rfl, ?_⟩) (fun _ a ha hk => ?_) (fun y hy => by simp at hy; rw [hy]; exact hx) (by simp)).mono ?_
  · cases i with
    | zero => simp at hy; subst hy; simp
    | succ i => simp at hy
  · cases ha
    have := hlt _ hk
    simp at this
  · rintro e W' ⟨rfl, pv', h1, -⟩
    exact ⟨rfl, pv', h1⟩
theorem obj_calls (hI : OInv lim os hashes) (hH : HeapAt W hb mb (absMem lim os root hashes) wv sv) {x : Int} {o : Ob} (ho : lookP 1 os x = some o) :
    Calls Tryz.prog 68 #[.pointer (some ⟨hb, 0, none⟩), .int .u64 x] W (Still (.tuple #[.int .u64 o.1, .int .i64 0]) W) ∧
    Calls Tryz.prog 54 #[.pointer (some ⟨hb, 0, none⟩), .int .u64 x] W (Still (.tuple #[.int .i64 o.2.2.length, .int .i64 0]) W) ∧
    ∀ (j : Nat) (v : Int), o.2.2[j]? = some v → Calls Tryz.prog 69 #[.pointer (some ⟨hb, 0, none⟩), .int .u64 x, .int .i64 j] W (Still (.tuple #[.int .u64 v, .int .i64 0]) W) := by
  obtain ⟨pre, post, rfl, rfl⟩ := lookP_split ho
  have h1 := endOf_lt pre post o
  have h2 := hI.fit
  have h3 := hI.l2
  have h4 : (1 + (flatW pre).length) = endOf pre := rfl
  rw [h4]
  have h5 := endOf_pos pre
  refine ⟨class_yes (memory_at hH) _ _ abs_mark h5 (by omega) abs_cls, size_yes (memory_at hH) _ _ abs_mark h5 (by omega) abs_size (by omega), fun j v hv => ?_⟩
  have hj := (List.getElem?_eq_some_iff.1 hv).1
  exact fetch_yes (memory_at hH) _ _ j v abs_mark h5 abs_size (by omega) hj (by rw [abs_field j hj]; exact hv)
set_option maxRecDepth 100000 in
set_option maxHeartbeats 4000000 in
theorem follow_at (hI : OInv lim os hashes) (hH : HeapAt w0 hb mb (absMem lim os root hashes) wv sv) (hR : RW (marksOf os) s) (hC : CollAt w0 hb cb b s W) {x : Int} {o : Ob} (ho : lookP 1 os x = some o) :
    Calls Tryz.prog 53 #[.pointer (some ⟨cb, 0, none⟩), .int .u64 x] W fun e W' => e = .returned (.tuple #[]) ∧ CollAt w0 hb cb b (reachL (marksOf os) s (o.1 :: o.2.2)) W' := by
  have hl : endOf os ≤ 65536 := by have := hI.fit; have := hI.l2; omega
  have hbo := hI.bd o (lookP_mem ho)
  have hfs : o.2.2.length ≤ 65536 := by
    obtain ⟨k, -, -, h3⟩ := (lookP_ge ho).2
    have h4 : endOf os = 1 + (flatW os).length := rfl
    omega
  have hcl := (obj_calls hI (hH.fr hC.fr (by simp) (fun _ _ => by simp)) ho).1
  have hc0 := hC.cell0
  have HI := Lib.hid hI
  have HH := Lib.hid hH
  have HR := Lib.hid hR
  have HC := Lib.hid hC
  have HO := Lib.hid ho
  have HBO := Lib.hid hbo
  have HL := Lib.hid hl
  obtain ⟨n, hn⟩ : ∃ n, n = o.2.2.length := ⟨_, rfl⟩
  rw [← hn] at hfs
  have HNN := Lib.hid hn
  clear hI hH hR hC ho hbo hl hn
  go_enter Tryz.func53, Tryz.ntmps53
  go_wp2_with (first
    | (go_at_call 68; refine hcl.mono ?_; rintro e w1 ⟨rfl, hF1⟩; have HC1 := Lib.hid (HC.out.still hF1); have hr1 := reach_one HL.out HH.out HR.out HC1.out o.1 HBO.out.1; clear hF1)
    | (go_at_call 27; refine hr1.mono ?_; rintro e w2 ⟨rfl, hC2⟩; have hsz := (obj_calls HI.out (HH.out.fr hC2.fr (by simp) (fun _ _ => by simp)) HO.out).2.1; rw [← HNN.out] at hsz; have hc2 := hC2.cell0; have HC2 := Lib.hid hC2; clear hC2)
    | (go_at_call 54; refine hsz.mono ?_; rintro e w3 ⟨rfl, hF3⟩; have HC3 := Lib.hid (HC2.out.still hF3); clear hF3))
  go_loopw [34] (fun i wr => ∃ k : Nat, k ≤ n ∧ i = .int .i64 k ∧ Hid (CollAt w0 hb cb b (reachL (marksOf os) s (o.1 :: o.2.2.take k)) wr)) (fun i _ => n - (intOf i).toNat)
  case atStart => exact ⟨0, Nat.zero_le _, rfl, HC3⟩
  case round =>
    obtain ⟨k, hk, rfl, hCk⟩ := hrel
    by_cases hlt : k < n
    · have hkl : k < o.2.2.length := by rw [← HNN.out]; exact hlt
      obtain ⟨v, hv⟩ : ∃ v, o.2.2[k]? = some v := ⟨_, List.getElem?_eq_getElem hkl⟩
      have hft := (obj_calls HI.out (HH.out.fr hCk.out.fr (by simp) (fun _ _ => by simp)) HO.out).2.2 k v hv
      have hvb := HBO.out.2 v (List.mem_of_getElem? hv)
      have HNX : Hid (reachL (marksOf os) s (o.1 :: o.2.2.take (k + 1)) = reach1 (marksOf os) (reachL (marksOf os) s (o.1 :: o.2.2.take k)) v) := Lib.hid (reachL_next (M := marksOf os) (s := s) (xs := o.1 :: o.2.2) (k := k + 1) (by simpa using hv))
      have HVB := Lib.hid hvb
      have hc4 := hCk.out.cell0
      clear hkl hv hvb
      go_wp2_with (first
        | (go_at_call 69; refine hft.mono ?_; rintro e w4 ⟨rfl, hF4⟩; have HC4 := Lib.hid (hCk.out.still hF4); have hr4 := reach_one HL.out HH.out (HR.out.all _) HC4.out v HVB.out; clear hF4)
        | (go_at_call 27; refine hr4.mono ?_; rintro e w5 ⟨rfl, hC5⟩; rw [← HNX.out] at hC5; have HC5 := Lib.hid hC5; clear hC5))
      go_roundw
      case rel => exact ⟨k + 1, by omega, by go_num, HC5⟩
      case measure => simp [intOf]; omega
    · have hkN : k = n := by omega
      subst hkN
      have HT : Hid (o.2.2.take k = o.2.2) := List.take_of_length_le (by rw [← HNN.out]; omega)
      have hkd : decide (k < k) = false := by simp
      go_wp2
      go_end0
      have h := hCk.out
      rw [HT.out] at h
      exact ⟨rfl, h⟩
theorem RW.pop {M : List Bool} {a p : List Int} {x : Int} (h : RW M (a, p ++ [x])) : RW M (a, p) := by
  have hn2 := h.n2
  simp only [List.nodup_append] at hn2
  exact ⟨h.n1, hn2.1, fun y hy => h.sub y (by simp [hy]), h.obj⟩
set_option maxRecDepth 100000 in
set_option maxHeartbeats 4000000 in
theorem examine_at (hI : OInv lim os hashes) (hH : HeapAt w0 hb mb (absMem lim os root hashes) wv sv) {rts : List Int} (hRI : RI os rts s) (hC : CollAt w0 hb cb b s W) :
    Calls Tryz.prog 28 #[.pointer (some ⟨cb, 0, none⟩)] W fun e W' => e = .returned (.tuple #[]) ∧ ∃ a, RI os rts (a, []) ∧ CollAt w0 hb cb b (a, []) W' := by
  have hl : endOf os ≤ 65536 := by have := hI.fit; have := hI.l2; omega
  have HI := Lib.hid hI
  have HH := Lib.hid hH
  have HRI := Lib.hid hRI
  have HC := Lib.hid hC
  have HL := Lib.hid hl
  clear hI hH hRI hC hl
  go_enter Tryz.func28, Tryz.ntmps28
  go_wp2
  go_loopg [] (2 * (os.length - s.1.length) + s.2.length) (fun k wr => ∃ a p, Hid (RI os rts (a, p)) ∧ Hid (CollAt w0 hb cb b (a, p) wr) ∧ 2 * (os.length - a.length) + p.length ≤ k)
  case atStart => exact ⟨s.1, s.2, HRI, HC, Nat.le_refl _⟩
  case round =>
    obtain ⟨a, p, hRIa, hCa, hle⟩ := hrel
    obtain ⟨pv, hcl⟩ := hCa.out
    rcases List.eq_nil_or_concat p with rfl | ⟨p', x, rfl⟩
    · obtain ⟨pa, pc, rfl⟩ := row_shape hcl.row
      have c2 := hcl.cell2
      simp only [List.length_nil] at c2
      clear hcl hle
      go_wp2
      go_end0
      exact ⟨rfl, a, hRIa.out, hCa.out⟩
    · simp only [List.concat_eq_append] at *
      obtain ⟨g, cap, rfl, hcx, -, hcap⟩ := row_at hcl.row (i := p'.length) (by simp)
      rw [List.getElem?_map] at hcx
      simp only [List.length_append, List.length_singleton] at hcl hcap
      have hcx' : wr.cell? ⟨g, p'.length, none⟩ = some (.int .u64 x) := by rw [hcx]; simp
      have c2 := hcl.cell2
      obtain ⟨hz2, hpop⟩ := hcl.popped
      have hobj := hRIa.out.rw'.obj x (hRIa.out.rw'.sub x (by simp))
      rw [stB_look HL.out] at hobj
      obtain ⟨o, ho⟩ := Option.isSome_iff_exists.1 hobj
      have hfo := follow_at HI.out HH.out hRIa.out.rw'.pop ⟨_, hpop⟩ ho
      have HO := Lib.hid ho
      have hp1 : p'.length ≤ 65536 := by
        have h1 : (p' ++ [x]).length ≤ a.length := nodup_le hRIa.out.rw'.n2 hRIa.out.rw'.sub
        have h2 : a.length ≤ os.length := hRIa.out.rw'.len HL.out
        have h3 := len_end os
        have h4 := HL.out
        simp only [List.length_append, List.length_singleton] at h1
        omega
      have hcap' : p'.length < cap := by omega
      obtain ⟨q, hq⟩ : ∃ q, q = p'.length := ⟨_, rfl⟩
      rw [← hq] at hcx' c2 hfo hp1 hcap'
      have HQ := Lib.hid hq
      have HLE := Lib.hid hle
      clear hcl hcx hpop hobj ho hcap hq hle
      go_wp2_with (go_at_call 53; refine hfo.mono ?_; rintro e w5 ⟨rfl, hC5⟩; have HC5 := Lib.hid hC5; clear hC5)
      go_roundg (2 * (os.length - (reachL (marksOf os) (a, p') (o.1 :: o.2.2)).1.length) + (reachL (marksOf os) (a, p') (o.1 :: o.2.2)).2.length)
      case measure =>
        have h1 := hRIa.out.measure HL.out HO.out
        have h2 := HLE.out
        omega
      case rel => exact ⟨_, _, Lib.hid (hRIa.out.next HL.out HO.out), HC5, Nat.le_refl _⟩
end
end Go.Proofs.YtjjkbdkalnhcbaaGreatDoor
