/- The document's Encode: bytes of its heap. alike: a heap, and the document's, that hold the same (image); sameBytes. -/
import Derived.Test.YtfhhjdfdfbelgaaGreatDoorMImgA
import Derived.Test.YtfhhjdfdfbelgaaGreatDoorMImgB
import Derived.Test.YtfhhjdfdfbelgaaGreatDoorMRLoads
import Derived.Test.YtfhhjdfdfbelgaaGreatDoorMRefs
import Derived.Test.YtfhhjdfdfbelgaaGreatDoorMLoading
import Derived.Test.YtfhhjdfdfbelgaaGreatDoorMImgE
import Derived.ArgAppend
import Derived.Lib.SlBytesConst
namespace Go.Proofs.YtfhhjdfdfbelgaaGreatDoor
open Go.RowKit

theorem b8_div (x : Int) (j : Nat) (hj : j < 8) : (b8 x)[j]? = some (x / 256 ^ j % 256) := by
  match j, hj with
  | 0, _ => simp [b8]
  | 1, _ => simp [b8]
  | 2, _ => simp [b8]
  | 3, _ => simp [b8]
  | 4, _ => simp [b8]
  | 5, _ => simp [b8]
  | 6, _ => simp [b8]
  | 7, _ => simp [b8]
set_option maxRecDepth 100000 in
set_option maxHeartbeats 2000000 in
theorem rnumber_at (x : Int) (h1 : 0 ≤ x) (h2 : x ≤ 18446744073709551615) (w : World) : Calls Tryz.prog 35 #[.int .u64 x] w (More8 8 (b8 x) (.slice none 0 0) w) := by
  obtain ⟨i0, hi0, hz0, hz1, hz2⟩ := info_parts infoB
  go_enter Tryz.func35, Tryz.ntmps35
  go_wp2_with fail
  go_loopw [0, 3, 4] (fun xv v i wr => ∃ (j : Nat) (y : Int), j ≤ 8 ∧ i = .int .i64 j ∧ xv = .int .u64 y ∧ Hid (y = x / 256 ^ j) ∧ ∃ vo vc, v = .slice vo j vc ∧ Hid (Row8 w (.slice none 0 0) j ((b8 x).take j) v wr)) (fun _ _ i _ => 8 - (intOf i).toNat)
  case atStart => exact ⟨0, x, by omega, rfl, rfl, (show _ = _ by simp), none, 0, rfl, ⟨World.ownsRow_nil _ _ _ _, Fr.refl _ _, fun b hb => .inl hb⟩⟩
  case round =>
    obtain ⟨j, y, hj, rfl, rfl, hy, vo, vc, rfl, hR⟩ := hrel
    have hy0 : 0 ≤ y ∧ y ≤ 18446744073709551615 := by
      rw [hy.out]
      have hp : (0 : Int) < 256 ^ j := Int.pow_pos (by decide)
      exact ⟨Int.ediv_nonneg h1 (Int.le_of_lt hp), Int.le_trans (Int.ediv_le_self _ h1) h2⟩
    obtain ⟨y1, y2⟩ := hy0
    by_cases hlt : j < 8
    · have j0 : (0 : Int) ≤ (j : Int) := by omega
      have j1 : (j : Int) < 8 := by omega
      have HJ : Hid ((b8 x).take (j + 1) = (b8 x).take j ++ [y % 256]) := by rw [List.take_add_one, b8_div x j hlt, hy.out]; exact rfl
      have HY : Hid (y / 256 = x / 256 ^ (j + 1)) := by
        show _ = _
        rw [hy.out, Int.pow_succ, Int.ediv_ediv_of_nonneg (Int.le_of_lt (Int.pow_pos (by decide)))]
      have HR1 : Hid ((wr.alloc (.cells #[.int .u8 (y % 256)] 5)).ownsRow 0 5 1 (.slice vo j vc) j (u8s ((b8 x).take j))) := ((Fr.refl [] _).alloc _).row hR.out.row (fun _ _ => by simp)
      go_wp2_with (at_builtin; refine wpList_append_at _ rfl (.tmp 9) (.tmp 13) 22 rfl 5 i0 (.int .u8 0) 1 1 Tryz.underlying22 hi0 hz0 hz1 hz2 rfl (by decide) (.slice vo j vc) j _ rfl HR1.out ⟨wr.heap.size, 0, none⟩ 1 1 [.int .u8 (y % 256)] rfl rfl (one_cellI wr (.int .u8 (y % 256)) 5) (by simp [Value.oneCell']) (by unfold maxLen; omega) (by omega) ?_; intro v5 w5 ho5 hg5 hf5; obtain ⟨a5, p5, rfl⟩ := row_shape ho5; have HO5 := Lib.hid ho5; have HG5 := Lib.hid hg5; have HF5 := Lib.hid hf5; clear ho5 hg5 hf5)
      go_roundw
      case rel =>
        have h5 : Row8 w (.slice none 0 0) (j + 1) ((b8 x).take j ++ [y % 256]) _ _ := hR.out.step (ys := [y % 256]) ((Fr.refl _ _).alloc _) HO5.out HG5.out HF5.out
        refine ⟨j + 1, y / 256, by omega, by go_num, by first | rfl | (congr 1; omega), HY, a5, p5, rfl, ?_⟩
        show Row8 _ _ _ _ _ _
        rw [HJ.out]
        exact h5
      case measure => simp [intOf]; omega
    · obtain rfl : j = 8 := by omega
      go_wp2_with fail
      go_ret
      have := hR.out.to
      rw [show (b8 x).take 8 = b8 x from rfl] at this
      exact this
theorem rnumber6 (x : Int) (h1 : 0 ≤ x) (h2 : x ≤ 18446744073709551615) (w : World) : Calls Tryz.prog 35 #[.int .u64 x] w fun e w' => ∃ ra rc, e = .returned (.slice ra 8 rc) ∧ w'.ownsRow 0 5 1 (.slice ra 8 rc) 8 (u8s (b8 x)) ∧ Fr [] w w' := by
  refine (rnumber_at x h1 h2 w).mono ?_
  rintro e w' ⟨v, rfl, hr, hF, -⟩
  obtain ⟨ra, rc, rfl⟩ := row_shape' hr
  exact ⟨ra, rc, rfl, hr, hF⟩
theorem own_num {w W : World} {ra : Option Addr} {rc k : Nat} {xs : List Int} (hk : 0 < k) (h : W.ownsRow 0 5 1 (.slice ra k rc) k (u8s xs)) : ∃ a, ra = some a ∧ ∀ (j : Nat) u, (u8s xs)[j]? = some u → W.cell? (a.add j) = some u := by
  have _ := w
  rcases h.2 with ⟨-, h1⟩ | ⟨g, cp, cur, h0, -⟩
  · omega
  · cases h0
    refine ⟨_, rfl, fun j u hu => ?_⟩
    obtain ⟨g', o', e, hc⟩ := row_rowAt h j u hu
    cases e
    rw [Lib.add_plain]
    exact hc
theorem one_u8 (xs : List Int) : ∀ u ∈ u8s xs, u.oneCell' = true := fun u hu => by
  obtain ⟨x, -, rfl⟩ := List.mem_map.1 hu
  rfl
theorem Row8.fr0 {w W : World} {v : Value} {k : Nat} {xs : List Int} (h : Row8 w (.slice none 0 0) k xs v W) : Fr [] w W := h.fr
/-- a number more, behind bytes of one's own -/
theorem app_num {w W W1 : World} {vo : Option Addr} {vc k : Nat} {xs : List Int} (hR : Row8 w (.slice none 0 0) k xs (.slice vo k vc) W) (hF : Fr [] W W1) {ra : Option Addr} {rc : Nat} {x : Int} (hN : W1.ownsRow 0 5 1 (.slice ra 8 rc) 8 (u8s (b8 x))) (hk : k ≤ 1000000) (ty : TypeId) : ∃ vo' vc' W', (Builtin.append_ #[22, 22] ty #[.slice vo k vc, .slice ra 8 rc]).run Tryz.prog W1 = .ok (.slice vo' (k + 8) vc') W' ∧ Row8 w (.slice none 0 0) (k + 8) (xs ++ b8 x) (.slice vo' (k + 8) vc') W' := by
  obtain ⟨i0, hi0, hz0, hz1, hz2⟩ := info_parts infoB
  obtain ⟨a, rfl, hc⟩ := own_num (w := w) (by decide) hN
  obtain ⟨v', W', hr, ho, hg, hf⟩ := run_append_at (P := Tryz.prog) W1 22 ty 5 i0 (.int .u8 0) 1 1 Tryz.underlying22 hi0 hz0 hz1 hz2 rfl (by decide) (.slice vo k vc) k (u8s xs) (hR.still hF).row a 8 rc (u8s (b8 x)) rfl hc (one_u8 _) (by unfold maxLen; omega) (by omega)
  obtain ⟨vo', vc', rfl⟩ := row_shape' ho
  exact ⟨vo', vc', W', hr, hR.step hF ho hg hf⟩
/-- a number behind bytes that are not one's own -/
theorem app_first {w W1 : World} (hF : Fr [] w W1) {g n : Nat} {xs : List Int} (hx : xs.length = n) (hb : BytesAt W1 (some ⟨g, 0, none⟩) xs) {ra : Option Addr} {rc : Nat} {x : Int} (hN : W1.ownsRow 0 5 1 (.slice ra 8 rc) 8 (u8s (b8 x))) (hk : n ≤ 1000000) (ty : TypeId) : ∃ vo' vc' W', (Builtin.append_ #[22, 22] ty #[.slice (some ⟨g, 0, none⟩) n n, .slice ra 8 rc]).run Tryz.prog W1 = .ok (.slice vo' (n + 8) vc') W' ∧ Row8 w (.slice none 0 0) (n + 8) (xs ++ b8 x) (.slice vo' (n + 8) vc') W' := by
  obtain ⟨i0, hi0, hz0, hz1, hz2⟩ := info_parts infoB
  obtain ⟨a, rfl, hc⟩ := own_num (w := w) (by decide) hN
  obtain ⟨v', W', hr, ho, hg⟩ := run_append_arg_grows (P := Tryz.prog) W1 22 ty 5 i0 (.int .u8 0) 1 1 Tryz.underlying22 hi0 hz0 hz1 hz2 rfl (by decide) ⟨g, 0, none⟩ n n (u8s xs) (by simp [u8s, hx]) (fun j u hu => by
    obtain ⟨y, hy, rfl⟩ : ∃ y, xs[j]? = some y ∧ u = .int .u8 y := by
      unfold u8s at hu
      rw [List.getElem?_map] at hu
      cases h : xs[j]? with
      | none => rw [h] at hu; cases hu
      | some y => rw [h] at hu; cases hu; exact ⟨y, rfl, rfl⟩
    obtain ⟨g', o', e, hcl⟩ := hb j y hy
    cases e
    rw [Lib.add_plain]
    exact hcl) a 8 rc (u8s (b8 x)) rfl hc (by omega) (by unfold maxLen; omega) (by omega)
  obtain ⟨vo', vc', rfl⟩ := row_shape' ho
  refine ⟨vo', vc', W', hr, ⟨by rw [u8s_app]; exact ⟨ho.1, ho.2.imp id fun ⟨g2, cp, cur, e, _, rest⟩ => ⟨g2, cp, cur, e, Nat.zero_le _, rest⟩⟩, hF.grown hg (fun k hk => by cases hk), fun b hb => .inr ?_⟩⟩
  have hge : W1.heap.size ≤ b := by
    rcases ho.2 with ⟨h0, -⟩ | ⟨g2, cp, cur, h0, h1, -⟩
    · rw [h0] at hb; cases hb
    · rw [h0] at hb; cases hb; exact h1
  exact Nat.le_trans hF.size hge
/-- the objects that are there -/
def obsR (l : List RO) : List Ob := l.map RO.ob
theorem words3_R {l : List RO} {k : Nat} {o : RO} (h : l[k]? = some o) : words3 (obsR (l.take (k + 1))) = words3 (obsR (l.take k)) + 3 + o.fs.length := by
  unfold words3 obsR
  rw [List.take_add_one, h]
  simp [RO.ob]
  omega
theorem words3_Rle (l : List RO) (k : Nat) : words3 (obsR (l.take k)) ≤ words3 (obsR l) := by
  unfold words3 obsR
  conv => rhs; rw [← List.take_append_drop k l]
  rw [List.map_append, List.map_append, List.sum_append]
  omega
set_option maxRecDepth 100000 in
set_option maxHeartbeats 4000000 in
theorem rencode_at {w : World} {rb : Nat} {r : RH} {lv : Value} (h : RefAt w rb r lv) (hroot : WB r.root) (hh : 0 ≤ r.last ∧ r.last ≤ 1099511627775) (hob : ∀ o ∈ r.l, GoodOb o.ob) (hw3 : words3 (obsR r.l) ≤ 65536) : Calls Tryz.prog 15 #[.pointer (some ⟨rb, 0, none⟩)] w (More8 (28 + 8 * words3 (obsR r.l)) (encI r.root r.last (obsR r.l)) (.slice none 0 0) w) := by
  obtain ⟨la, lcap, hlv⟩ := row_shape h.row
  have HLV := Lib.hid hlv
  have HH := Lib.hid h
  obtain ⟨n, hn'⟩ : ∃ n, n = r.l.length := ⟨_, rfl⟩
  have hn : n ≤ 65536 := by rw [hn']; exact h.most
  have HN := Lib.hid hn'
  have HOB := Lib.hid hob
  have HWD : Hid (∀ k, words3 (obsR (r.l.take k)) ≤ 65536) := Lib.hid fun k => Nat.le_trans (words3_Rle r.l k) hw3
  obtain ⟨rt1, rt2⟩ := hroot
  obtain ⟨ha1, ha2⟩ := hh
  obtain ⟨root, hrt⟩ : ∃ x, x = r.root := ⟨_, rfl⟩
  obtain ⟨last, hla⟩ : ∃ x, x = r.last := ⟨_, rfl⟩
  rw [← hrt] at rt1 rt2
  rw [← hla] at ha1 ha2
  have HRT := Lib.hid hrt
  have HLA := Lib.hid hla
  have HCELL : Hid (∀ W, Fr [] w W → W.cell? ⟨rb, 1, none⟩ = some (.slice la n lcap) ∧ W.cell? ⟨rb, 2, none⟩ = some (.int .u64 root) ∧ W.cell? ⟨rb, 3, none⟩ = some (.int .i64 last)) := Lib.hid fun W hF => by
    have hc := (h.fr0 hF).heap
    refine ⟨?_, ?_, ?_⟩
    · have := cell_of_heap (o := 1) hc rfl
      rw [hlv, ← hn'] at this
      exact this
    · rw [hrt]; exact cell_of_heap (o := 2) hc rfl
    · rw [hla]; exact cell_of_heap (o := 3) hc rfl
  have hcv := Lib.run_convert_bytes_const (P := Tryz.prog) w 22 5 #[.int .u8 84, .int .u8 80, .int .u8 80, .int .u8 84] 4 4 Tryz.underlying22 Tryz.underlying5
  obtain ⟨W1, hW1⟩ : ∃ W1, W1 = w.alloc (.cells #[.int .u8 84, .int .u8 80, .int .u8 80, .int .u8 84] 5 (4, 5)) := ⟨_, rfl⟩
  have hcv' : (convert 22 22 (.slice (some ⟨w.heap.size, 0, none⟩) 4 4)).run Tryz.prog (w.alloc (.cells #[.int .u8 84, .int .u8 80, .int .u8 80, .int .u8 84] 5)) = .ok (.slice (some ⟨w.heap.size, 0, none⟩) 4 4) W1 := by rw [hW1]; exact hcv
  have HF1 : Hid (Fr [] w W1) := by rw [hW1]; exact (Fr.refl _ _).alloc _
  have HM1 : Hid (BytesAt W1 (some ⟨w.heap.size, 0, none⟩) [84, 80, 80, 84]) := by
    have hb : W1.heap[w.heap.size]? = some (.cells #[.int .u8 84, .int .u8 80, .int .u8 80, .int .u8 84] 5 (4, 5)) := by
      rw [hW1]
      exact heap_new _ _
    refine Lib.hid fun i x hx => ⟨w.heap.size, 0, rfl, cell_of_heap hb ?_⟩
    match i, hx with
    | 0, hx => cases hx; rfl
    | 1, hx => cases hx; rfl
    | 2, hx => cases hx; rfl
    | 3, hx => cases hx; rfl
  obtain ⟨-, c2, -⟩ := HCELL.out W1 HF1.out
  clear h hlv hn' hob hrt hla hcv hW1 hw3
  go_enter Tryz.func15, Tryz.ntmps15
  go_wp2_with fail
  refine (rnumber6 root rt1 rt2 _).mono ?_
  rintro e w2 ⟨ra2, rc2, rfl, hr2, hF2⟩
  obtain ⟨va, vac, W3, hrun, hR3⟩ := app_first (HF1.out.trans hF2) rfl (HM1.out.fr hF2 (fun _ _ => by simp)) hr2 (by decide) 22
  have hlen4 : ([84, 80, 80, 84] : List Int).length = 4 := rfl
  rw [hlen4] at hrun hR3
  have HR3 := Lib.hid hR3
  obtain ⟨-, -, c3⟩ := HCELL.out W3 hR3.fr0
  clear hr2 hF2 hR3 c2 hlen4 hcv'
  go_wp2_with (at_builtin; refine Lib.wpList_append_run w2 rfl (.tmp 9) (.tmp 14) 22 22 rfl _ _ rfl rfl _ W3 hrun ?_)
  refine (rnumber6 last ha1 (by omega) _).mono ?_
  rintro e w4 ⟨ra4, rc4, rfl, hr4, hF4⟩
  obtain ⟨vb, vbc, W5, hrun5, hR5⟩ := app_num HR3.out hF4 hr4 (by decide) 22
  have HR5 := Lib.hid hR5
  obtain ⟨c1, -, -⟩ := HCELL.out W5 hR5.fr0
  clear hr4 hF4 hR5 hrun c3 HR3
  go_wp2_with (at_builtin; refine Lib.wpList_append_run w4 rfl (.tmp 16) (.tmp 22) 22 22 rfl _ _ rfl rfl _ W5 hrun5 ?_)
  refine (rnumber6 (n : Int) (by omega) (by omega) _).mono ?_
  rintro e w6 ⟨ra6, rc6, rfl, hr6, hF6⟩
  obtain ⟨vd, vdc, W7, hrun7, hR7⟩ := app_num HR5.out hF6 hr6 (by decide) 22
  have HR7 := Lib.hid hR7
  clear hr6 hF6 hR7 hrun5 c1 HR5
  go_wp2_with (at_builtin; refine Lib.wpList_append_run w6 rfl (.tmp 24) (.tmp 31) 22 22 rfl _ _ rfl rfl _ W7 hrun7 ?_)
  obtain ⟨H, hH⟩ : ∃ H, H = [84, 80, 80, 84] ++ b8 root ++ b8 last ++ b8 (n : Int) := ⟨_, rfl⟩
  rw [← hH] at HR7
  have HHD := Lib.hid hH
  clear hH hrun7
  go_loopw [3, 4] (fun v i wr => ∃ k : Nat, k ≤ n ∧ i = .int .i64 k ∧ ∃ vo vc, v = .slice vo (28 + 8 * words3 (obsR (r.l.take k))) vc ∧ Hid (Row8 w (.slice none 0 0) (28 + 8 * words3 (obsR (r.l.take k))) (H ++ (obsR (r.l.take k)).flatMap obB8) (.slice vo (28 + 8 * words3 (obsR (r.l.take k))) vc) wr)) (fun _ i _ => n - (intOf i).toNat)
  case atStart => exact ⟨0, Nat.zero_le _, rfl, vd, vdc, rfl, by show Row8 _ _ _ _ _ _; simpa [words3, obsR] using HR7.out⟩
  case round =>
    obtain ⟨k, hk, rfl, vo, vc, rfl, hG⟩ := hrel
    obtain ⟨c1, -, -⟩ := HCELL.out wr hG.out.fr0
    by_cases hlt : k < n
    · have hkl : k < r.l.length := by rw [← HN.out]; exact hlt
      obtain ⟨o, ho⟩ : ∃ o, o = r.l[k] := ⟨_, rfl⟩
      have hik : r.l[k]? = some o := by rw [List.getElem?_eq_getElem hkl, ho]
      have hmem := List.mem_of_getElem? hik
      have hRf := HH.out.fr0 hG.out.fr0
      obtain ⟨g, cp, hv, hc, -, -⟩ := row_at hRf.row (i := k) hkl
      have hv' := HLV.out.symm.trans hv
      cases hv'
      rw [List.getElem?_map, hik] at hc
      simp only [Option.map_some, RO.ptr] at hc
      have hA := HH.out.objs o hmem
      obtain ⟨ob1, ob2, ob3, ob4⟩ := HOB.out o hmem
      obtain ⟨fa, fc, hfv⟩ := row_shape hA.row
      have HOC : Hid (∀ W, Fr [] w W → W.cell? ⟨o.b, 0, none⟩ = some (.int .u64 o.cls) ∧ W.cell? ⟨o.b, 1, none⟩ = some (.int .i64 o.hash) ∧ W.cell? ⟨o.b, 2, none⟩ = some (.slice fa o.fs.length fc)) := Lib.hid fun W hF => by
        have hc := (hA.fr0 hF).cells
        rw [hfv] at hc
        exact ⟨cell_of_heap (o := 0) hc rfl, cell_of_heap (o := 1) hc rfl, cell_of_heap (o := 2) hc rfl⟩
      have HWF : Hid (∀ W, Fr [] w W → WordsAt W fa o.fs) := Lib.hid fun W hF => by
        obtain ⟨fa', fc', e, hw, -⟩ := ItOwn.ok (w := W) (o := ⟨o.cls, o.hash, o.fv, o.fs⟩) ⟨(hA.fr0 hF).row, by simp only; exact Nat.le_trans ob3 (by decide)⟩
        rw [hfv] at e
        cases e
        exact hw
      have hw := words3_R hik
      have hm1 := HWD.out (k + 1)
      have HT : Hid ((obsR (r.l.take (k + 1))).flatMap obB8 = (obsR (r.l.take k)).flatMap obB8 ++ obB8 o.ob) := by
        rw [List.take_add_one, hik]
        exact Lib.hid (by simp [obsR])
      obtain ⟨K, hK⟩ : ∃ K, K = 28 + 8 * words3 (obsR (r.l.take k)) := ⟨_, rfl⟩
      obtain ⟨Y, hY⟩ : ∃ Y, Y = H ++ (obsR (r.l.take k)).flatMap obB8 := ⟨_, rfl⟩
      have hK2 : K + 8 * (3 + o.fs.length) ≤ 600000 := by omega
      have HKN : Hid (28 + 8 * words3 (obsR (r.l.take (k + 1))) = K + 8 * (3 + o.fs.length)) := by show _ = _; omega
      rw [← hK, ← hY] at hG
      rw [← hK]
      have HY := Lib.hid hY
      have k0 : (0 : Int) ≤ (k : Int) := by omega
      have k1 : (k : Int) < (n : Int) := by omega
      obtain ⟨d0, d1, d2⟩ := HOC.out wr hG.out.fr0
      obtain ⟨x1, x2⟩ := ob1
      obtain ⟨x3, x4⟩ := ob2
      have x5 : o.hash ≤ 9223372036854775807 := x4
      have HO4 : Hid (∀ x ∈ o.fs, 0 ≤ x ∧ x ≤ 18446744073709551615) := ob4
      simp only [RO.ob] at x1 x2 x3 x4 ob3
      obtain ⟨q, hq⟩ : ∃ q, q = o.fs.length := ⟨_, rfl⟩
      rw [← hq] at d2 hK2 HKN ob3 HOC
      have HQ := Lib.hid hq
      clear ho hik hmem hkl hRf hv hA hfv hw hm1 hK hY ob4 hq HR7
      go_wp2_with fail
      refine (rnumber6 o.cls x1 x2 _).mono ?_
      rintro e u1 ⟨ra1, rc1, rfl, hs1, hG1⟩
      obtain ⟨vA, vAc, U1, hrA, hRA⟩ := app_num hG.out hG1 hs1 (by omega) 22
      have HRA := Lib.hid hRA
      obtain ⟨-, e1, -⟩ := HOC.out U1 hRA.fr0
      clear hs1 hG1 hRA d0 d1 d2 hc c1
      go_wp2_with (at_builtin; refine Lib.wpList_append_run u1 rfl (.tmp 49) (.tmp 54) 22 22 rfl _ _ rfl rfl _ U1 hrA ?_)
      refine (rnumber6 o.hash x3 (by omega) _).mono ?_
      rintro e u2 ⟨ra2, rc2, rfl, hs2, hG2⟩
      obtain ⟨vB, vBc, U2, hrB, hRB⟩ := app_num HRA.out hG2 hs2 (by omega) 22
      have HRB := Lib.hid hRB
      obtain ⟨-, -, e2⟩ := HOC.out U2 hRB.fr0
      clear hs2 hG2 hRB hrA e1
      go_wp2_with (at_builtin; refine Lib.wpList_append_run u2 rfl (.tmp 56) (.tmp 62) 22 22 rfl _ _ rfl rfl _ U2 hrB ?_)
      refine (rnumber6 (q : Int) (by omega) (by omega) _).mono ?_
      rintro e u3 ⟨ra3, rc3, rfl, hs3, hG3⟩
      obtain ⟨vC, vCc, U3, hrC, hRC⟩ := app_num HRB.out hG3 hs3 (by omega) 22
      have HRC := Lib.hid hRC
      clear hs3 hG3 hRC hrB e2
      go_wp2_with (at_builtin; refine Lib.wpList_append_run u3 rfl (.tmp 64) (.tmp 71) 22 22 rfl _ _ rfl rfl _ U3 hrC ?_)
      obtain ⟨Y2, hY2⟩ : ∃ Y2, Y2 = Y ++ b8 o.cls ++ b8 o.hash ++ b8 (q : Int) := ⟨_, rfl⟩
      rw [← hY2] at HRC
      have HY2 := Lib.hid hY2
      clear hY2 hrC HRA HRB
      go_loopw [3, 6] (fun v i wi => ∃ j : Nat, j ≤ q ∧ i = .int .i64 j ∧ ∃ vo vc, v = .slice vo (K + 24 + 8 * j) vc ∧ Hid (Row8 w (.slice none 0 0) (K + 24 + 8 * j) (Y2 ++ (o.fs.take j).flatMap b8) (.slice vo (K + 24 + 8 * j) vc) wi)) (fun _ i _ => q - (intOf i).toNat)
      case atStart => exact ⟨0, Nat.zero_le _, rfl, vC, vCc, rfl, by show Row8 _ _ _ _ _ _; simpa using HRC.out⟩
      case round =>
        obtain ⟨j, hj, rfl, vo, vc, rfl, hI⟩ := hrel
        obtain ⟨-, -, e2⟩ := HOC.out wr hI.out.fr0
        by_cases hlj : j < q
        · have hjl : j < o.fs.length := by rw [← HQ.out]; exact hlj
          obtain ⟨x, hx⟩ : ∃ x, o.fs[j]? = some x := ⟨_, List.getElem?_eq_getElem hjl⟩
          obtain ⟨gf, of, rfl, hcx⟩ := HWF.out wr hI.out.fr0 j x hx
          have hxb := HO4.out x (List.mem_of_getElem? hx)
          have HTJ : Hid ((o.fs.take (j + 1)).flatMap b8 = (o.fs.take j).flatMap b8 ++ b8 x) := by
            rw [List.take_add_one, hx]
            exact Lib.hid (by simp)
          have j0 : (0 : Int) ≤ (j : Int) := by omega
          have j1 : (j : Int) < (q : Int) := by omega
          obtain ⟨xb1, xb2⟩ := hxb
          clear hjl hx
          go_wp2_with fail
          refine (rnumber6 x xb1 xb2 _).mono ?_
          rintro e u4 ⟨ra4, rc4, rfl, hs4, hG4⟩
          obtain ⟨vD, vDc, U4, hrD, hRD⟩ := app_num hI.out hG4 hs4 (by omega) 22
          have HRD := Lib.hid hRD
          clear hs4 hG4 hRD hcx e2
          go_wp2_with (at_builtin; refine Lib.wpList_append_run u4 rfl (.tmp 82) (.tmp 90) 22 22 rfl _ _ rfl rfl _ U4 hrD ?_)
          go_roundw
          case rel =>
            refine ⟨j + 1, by omega, by go_num, vD, vDc, by congr 1, ?_⟩
            show Row8 _ _ _ _ _ _
            rw [HTJ.out, ← List.append_assoc]
            exact HRD.out
          case measure => simp [intOf]; omega
        · obtain rfl : j = q := by omega
          go_wp2_with fail
          go_roundw
          case rel =>
            refine ⟨k + 1, by omega, by go_num, vo, vc, by rw [HKN.out]; congr 1; omega, ?_⟩
            show Row8 _ _ _ _ _ _
            have h6 := hI.out
            rw [show o.fs.take j = o.fs from List.take_of_length_le (by rw [← HQ.out]; omega)] at h6
            have e : Y2 ++ o.fs.flatMap b8 = H ++ (obsR (r.l.take (k + 1))).flatMap obB8 := by
              rw [HT.out, HY2.out, HY.out, HQ.out]
              simp [obB8, RO.ob]
            rw [e] at h6
            rw [HKN.out, show K + 8 * (3 + j) = K + 24 + 8 * j by omega]
            exact h6
          case measure => simp [intOf]; omega
    · obtain rfl : k = n := by omega
      have HTK : Hid (r.l.take k = r.l) := List.take_of_length_le (by rw [← HN.out]; omega)
      have hG2 := hG.out
      rw [HTK.out] at hG2
      have HG2 := Lib.hid hG2
      rw [HTK.out]
      clear hG hG2
      go_wp2_with fail
      go_ret
      have h := HG2.out.to
      have e : H ++ (obsR r.l).flatMap obB8 = encI r.root r.last (obsR r.l) := by
        rw [HHD.out, HN.out, HRT.out, HLA.out]
        simp [encI, obsR]
      rw [e] at h
      exact h
end Go.Proofs.YtfhhjdfdfbelgaaGreatDoor
namespace Go.Proofs.YtfhhjdfdfbelgaaGreatDoor
open Go.RowKit

set_option maxRecDepth 100000 in
set_option maxHeartbeats 1000000 in
theorem sameBytes_at {w : World} {a b : Option Addr} {la lb : List Int} {ca cb : Nat} (hA : BytesAt w a la) (hB : BytesAt w b lb) (bA : ∀ x ∈ la, B x) (bB : ∀ x ∈ lb, B x) : Calls Tryz.prog 14 #[.slice a la.length ca, .slice b lb.length cb] w (Still (.bool (decide (la = lb))) w) := by
  have h1 := conv_bytes hA ca
  have h2 := conv_bytes hB cb
  have h3 := bstr_dec bA bB
  generalize la.length = n at *
  generalize lb.length = m at *
  generalize bstr la = s at *
  generalize bstr lb = t at *
  clear hA hB bA bB
  rw [← h3]
  clear h3
  go_enter Tryz.func14, Tryz.ntmps14
  go_wp2_with fail
  go_ret
  exact ⟨rfl, by first | exact Fr.refl _ _ | exact (Fr.refl _ _).drewN _⟩
set_option maxRecDepth 100000 in
set_option maxHeartbeats 4000000 in
theorem alike6 {w : World} {gb gm rb : Nat} {lim root hs : Int} {os : List Ob} {gv gs lv : Value} {l : List RO} (hI : OInv lim os hs) (hH : HeapAt w gb gm (absMem lim os root hs) gv gs) (ha : RAgree 1 l os) (hR : RefAt w rb ⟨lim, l, root, hs⟩ lv) :
    Calls Tryz.prog 11 #[.pointer (some ⟨gb, 0, none⟩), .pointer (some ⟨rb, 0, none⟩)] w (Still (.bool true) w) := by
  have hfit := hI.fit
  have hl2 := hI.l2
  have atH : ∀ W', Fr [] w W' → HeapAt W' gb gm (absMem lim os root hs) gv gs := fun W' hF => hH.fr hF (by simp) (fun _ _ => by simp)
  have HWO : Hid (∀ W', Fr [] w W' → Calls Tryz.prog 22 #[.pointer (some ⟨gb, 0, none⟩)] W' (Still (.int .i64 lim) W')) := Lib.hid fun W' hF => words_still (memory_at (atH W' hF))
  have HUS : Hid (∀ W', Fr [] w W' → Calls Tryz.prog 16 #[.pointer (some ⟨gb, 0, none⟩)] W' (Still (.int .i64 (endOf os : Nat)) W')) := Lib.hid fun W' hF => by have := used_still (memory_at (atH W' hF)); rw [(absMem_len _ _ _ _).1] at this; exact this
  have HRU : Hid (∀ W', Fr [] w W' → Calls Tryz.prog 31 #[.pointer (some ⟨rb, 0, none⟩)] W' (Still (.int .i64 (endOf os : Nat)) W')) := Lib.hid fun W' hF => (rused (hR.fr0 hF)).mono fun e w' ⟨he, m, hm⟩ => ⟨by rw [he, show usedR (RH.mk lim l root hs).l = endOf os from agree_used ha], by rw [hm]; exact (Fr.refl _ _).drewN _⟩
  have HRT : Hid (∀ W', Fr [] w W' → Calls Tryz.prog 17 #[.pointer (some ⟨gb, 0, none⟩)] W' (Still (.int .u64 root) W')) := Lib.hid fun W' hF => root_still (memory_at (atH W' hF))
  have HHA : Hid (∀ W', Fr [] w W' → Calls Tryz.prog 30 #[.pointer (some ⟨gb, 0, none⟩)] W' (Still (.int .i64 hs) W')) := Lib.hid fun W' hF => hashes_still (memory_at (atH W' hF))
  have HDU := Lib.hid (fun W' (hF : Fr [] w W') => snap_at hI (atH W' hF))
  have HRD : Hid (∀ W', Fr [] w W' → Calls Tryz.prog 32 #[.pointer (some ⟨rb, 0, none⟩)] W' fun e W1 => ∃ ka kc kts, e = .returned (.slice ka kts.length kc) ∧ RowAt W1 ka (flat4 kts) ∧ (∀ o ∈ kts, ItOk W1 o.1) ∧ kts.map (fun o => o.1.key) = os ∧ Fr [] W' W1) := by
    refine Lib.hid fun W' hF => (rdump (hR.fr0 hF)).mono ?_
    rintro e W1 ⟨v, kts, rfl, hD⟩
    have hl : l.length = kts.length := by have := congrArg List.length hD.keys; simpa [keys4, keysR] using this.symm
    have hr' : W1.ownsRow 0 72 4 v kts.length (flat4 kts) := by rw [← hl]; exact hD.gr.row
    obtain ⟨ka, kc, rfl⟩ := row_shape' hr'
    refine ⟨ka, kc, kts, rfl, row_rowAt hr', fun o ho => (hD.own o ho).ok, ?_, hD.gr.fr⟩
    have := congrArg (List.map Prod.fst) hD.keys
    simp only [keys4, keysR, List.map_map] at this
    rw [← ROB ha]
    exact this
  have c0 : w.cell? ⟨rb, 0, none⟩ = some (.int .i64 lim) := cell_of_heap hR.heap rfl
  have c2 : w.cell? ⟨rb, 2, none⟩ = some (.int .u64 root) := cell_of_heap hR.heap rfl
  have c3 : w.cell? ⟨rb, 3, none⟩ = some (.int .i64 hs) := cell_of_heap hR.heap rfl
  have hlen : os.length ≤ 65536 := by
    have := words3_end os
    have : os.length ≤ words3 os := by
      clear HWO HUS HRU HRT HHA HDU HRD c0 c2 c3 atH hR hH ha hI hfit this
      unfold words3
      induction os with
      | nil => simp
      | cons a l ih => simp only [List.length_cons, List.map_cons, List.sum_cons]; omega
    omega
  clear hI ha hH hR atH hfit hl2
  go_enter Tryz.func11, Tryz.ntmps11
  obtain ⟨M, hM⟩ : ∃ M, M = os.length := ⟨_, rfl⟩
  have HM := Lib.hid hM
  have hMb : M ≤ 65536 := by omega
  clear hM hlen
  go_wp2_with fail
  go_region_held3 (fun w' => w'.cell? ⟨rb, 0, none⟩ = some (.int .i64 lim) ∧ w'.cell? ⟨rb, 2, none⟩ = some (.int .u64 root) ∧ w'.cell? ⟨rb, 3, none⟩ = some (.int .i64 hs))
    (first | exact ⟨HF9.out.cell (by simp) c0, HF9.out.cell (by simp) c2, HF9.out.cell (by simp) c3⟩ | exact ⟨HF8.out.cell (by simp) c0, HF8.out.cell (by simp) c2, HF8.out.cell (by simp) c3⟩ | exact ⟨HF7.out.cell (by simp) c0, HF7.out.cell (by simp) c2, HF7.out.cell (by simp) c3⟩ | exact ⟨HF6.out.cell (by simp) c0, HF6.out.cell (by simp) c2, HF6.out.cell (by simp) c3⟩ | exact ⟨HF5.out.cell (by simp) c0, HF5.out.cell (by simp) c2, HF5.out.cell (by simp) c3⟩ | exact ⟨HF4.out.cell (by simp) c0, HF4.out.cell (by simp) c2, HF4.out.cell (by simp) c3⟩ | exact ⟨HF3.out.cell (by simp) c0, HF3.out.cell (by simp) c2, HF3.out.cell (by simp) c3⟩ | exact ⟨HF2.out.cell (by simp) c0, HF2.out.cell (by simp) c2, HF2.out.cell (by simp) c3⟩ | exact ⟨HF1.out.cell (by simp) c0, HF1.out.cell (by simp) c2, HF1.out.cell (by simp) c3⟩ | go_keep)
    (first
      | (go_at_call 22; refine (HWO.out _ ((Fr.refl _ _).drew)).mono ?_; rintro e w1 ⟨rfl, hF1⟩; have HF1 : Hid (Fr [] w w1) := ((Fr.refl _ _).drew).trans hF1; clear hF1)
      | (go_at_call 17; refine (HRT.out _ HF1.out).mono ?_; rintro e w2 ⟨rfl, hF2⟩; have HF2 : Hid (Fr [] w w2) := HF1.out.trans hF2; clear hF2)
      | (go_at_call 30; refine (HHA.out _ HF2.out).mono ?_; rintro e w3 ⟨rfl, hF3⟩; have HF3 : Hid (Fr [] w w3) := HF2.out.trans hF3; clear hF3)
      | (go_at_call 16; refine (HUS.out _ HF3.out).mono ?_; rintro e w4 ⟨rfl, hF4⟩; have HF4 : Hid (Fr [] w w4) := HF3.out.trans hF4; clear hF4)
      | (go_at_call 31; refine (HRU.out _ HF4.out).mono ?_; rintro e w5 ⟨rfl, hF5⟩; have HF5 : Hid (Fr [] w w5) := HF4.out.trans hF5; clear hF5)
      | (go_at_call 20; refine (HDU.out _ HF5.out).mono ?_; rintro e w6 ⟨va, vc, its, rfl, hr6, ho6, hown6, hF6, -⟩; have HF6 : Hid (Fr [] w w6) := HF5.out.trans hF6; have hil : its.length = M := (by rw [HM.out, ← ho6]; simp [obsOf]); have hth := theirs_at (vc := vc) hr6 hown6 (by omega); have HO6 := Lib.hid ho6; have HI6 := Lib.hid hil; rw [hil] at hth ⊢; clear hr6 ho6 hown6 hF6 hil)
      | (go_at_call 19; refine hth.mono ?_; rintro e w7 ⟨ba, bc, rfl, -, hG7, hF7, -⟩; have HF7 : Hid (Fr [] w w7) := HF6.out.trans hF7; have HG7 := Lib.hid hG7; clear hG7 hF7 hth)
      | (go_at_call 32; refine (HRD.out _ HF7.out).mono ?_; rintro e w8 ⟨ka, kc, kts, rfl, hkr, hko, hkk, hF8⟩; have HF8 : Hid (Fr [] w w8) := HF7.out.trans hF8; have hso := sameObjects (ac := bc) (bc := kc) (noPlace its) kts (HG7.out.fr0 hF8).row hkr (HG7.out.fr0 hF8).ok hko (by rw [noPlace_len, HI6.out]; omega); rw [noPlace_keys, HO6.out, hkk, noPlace_len, HI6.out, decide_eq_true rfl] at hso; generalize kts.length = kn at *; clear hkr hko hkk hF8)
      | (go_at_call 18; refine hso.mono ?_; rintro e w9 ⟨rfl, hdc⟩; have HF9 : Hid (Fr [] w w9) := (by obtain ⟨m, rfl⟩ := hdc; exact HF8.out.drewN _); clear hdc hso))
  go_wp2_with fail
  go_ret
  exact ⟨rfl, HF9.out⟩
end Go.Proofs.YtfhhjdfdfbelgaaGreatDoor
