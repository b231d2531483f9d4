/- live: the temporaries of a method in its unit: plain. LiveTemps: the walk. -/
import Derived.Test.YtbmfmklalonhiaaGreatDoorMLvK
import Derived.Test.YtbmfmklalonhiaaGreatDoorMGlHome
import Derived.Test.YtbmfmklalonhiaaGreatDoorMLvN
namespace Go.Proofs.YtbmfmklalonhiaaGreatDoor
open Go.RowKit

theorem ivT_stamp (k : Nat) (v : Int) : ∀ (l : List Int) (E : List (Int × Nat)), ivV (E ++ stamp k l) v = if v ∈ l then some (((ivV E v).map Prod.fst).getD k, k) else ivV E v
  | [], E => by simp [stamp]
  | x :: l, E => by
    have e : E ++ stamp k (x :: l) = (E ++ [(x, k)]) ++ stamp k l := by simp [stamp]
    rw [e, ivT_stamp k v l, ivV_snoc]
    by_cases h1 : v = x
    · subst h1
      by_cases h2 : v ∈ l <;> simp [h2]
    · by_cases h2 : v ∈ l <;> simp [h1, h2]
theorem ivT_step (u : Un) (v : Int) (k : Nat) : ivV (evs u (k + 1)) v = if v ∈ usesAt u k then some (((ivV (evs u k) v).map Prod.fst).getD k, k) else ivV (evs u k) v := by rw [evs_succ, ivT_stamp]

/-- the last map that is not empty -/
def lastF (u : Un) : Nat → Nat
  | 0 => 0
  | k + 1 => if 0 < (mapU u k).length then k else lastF u k
theorem unit_uses {m : Mth} {method : Int} {p : Nat} {i : Ins} (hi : m.code[p]? = some i) : mapU ((gmOf m).unit method) p = (if (gmOf m).on p then tregs m.temps ++ (gmOf m).N p else []) ∧ (¬ (gmOf m).on p → partU ((gmOf m).unit method) p = []) := by
  obtain ⟨b, h1, h2, -, h4⟩ := (gmOf m).unit_at method (gm_at hi)
  refine ⟨by unfold mapU; rw [h4]; rfl, fun ho => ?_⟩
  rw [if_neg ho, List.length_nil, Nat.add_zero] at h2
  rw [part_at h1 h2, Nat.add_zero, Nat.sub_self, List.take_zero]
theorem tregs_mem {T : Int} {t : Nat} (ht : (t : Int) < T) : (t : Int) ∈ regL (tregs T) := by
  unfold regL tregs
  refine List.mem_map.2 ⟨regS t, List.mem_filter.2 ⟨List.mem_map.2 ⟨t, List.mem_range.2 (by omega), rfl⟩, by simp [regS]⟩, rfl⟩
theorem temps_uses {m : Mth} {method : Int} {v : Un} (hs : SameU ((gmOf m).unit method) v) (hT : 0 ≤ m.temps) {t p : Nat} (ht : (t : Int) < m.temps) {i : Ins} (hi : m.code[p]? = some i) : ((t : Int) ∈ usesAt v p ↔ (gmOf m).on p) ∧ (0 < (mapU v p).length ↔ (gmOf m).on p) := by
  obtain ⟨h1, h2⟩ := unit_uses (method := method) hi
  rw [usesAt_same hs, mapU_same hs]
  unfold usesAt
  rw [h1]
  have hl := tregs_len hT
  by_cases ho : (gmOf m).on p
  · rw [if_pos ho]
    refine ⟨⟨fun _ => ho, fun _ => ?_⟩, ⟨fun _ => ho, fun _ => ?_⟩⟩
    · rw [regL_append]
      exact List.mem_append.2 (.inl (List.mem_append.2 (.inl (tregs_mem ht))))
    · rw [List.length_append]; omega
  · rw [if_neg ho, h2 ho]
    exact ⟨⟨fun h => by simp [regL] at h, fun h => absurd h ho⟩, ⟨fun h => by simp at h, fun h => absurd h ho⟩⟩
theorem temps_iv {m : Mth} {method : Int} (H : GenOk m method) {v : Un} (hs : SameU ((gmOf m).unit method) v) (hT : 0 ≤ m.temps) {t : Nat} (ht : (t : Int) < m.temps) : ∀ k, k ≤ m.code.length → ivV (evs v k) t = if k = 0 then none else some (0, lastF v k)
  | 0, _ => rfl
  | k + 1, hk => by
    have ih := temps_iv H hs hT ht k (by omega)
    obtain ⟨i, hi⟩ : ∃ i, m.code[k]? = some i := ⟨_, List.getElem?_eq_getElem (by omega)⟩
    obtain ⟨h1, h2⟩ := temps_uses hs hT ht hi
    rw [ivT_step, if_neg (Nat.succ_ne_zero k)]
    by_cases ho : (gmOf m).on k
    · rw [if_pos (h1.2 ho), ih, lastF, if_pos (h2.2 ho)]
      by_cases h0 : k = 0
      · subst h0; rfl
      · rw [if_neg h0]; rfl
    · rw [if_neg (fun h => ho (h1.1 h)), ih, lastF, if_neg (fun h => ho (h2.1 h))]
      by_cases h0 : k = 0
      · subst h0
        exact absurd (gm_way H.good .start).1 ho
      · rw [if_neg h0]
theorem temps_of {m : Mth} {method : Int} (H : GenOk m method) {v : Un} (hs : SameU ((gmOf m).unit method) v) (hok : okU v = true) (hT : 0 ≤ m.temps) {t : Nat} (ht : (t : Int) < m.temps) : ofL (ivsU v) t = some ((t : Int), 0, lastF v v.maps.length) := by
  have hlen : v.maps.length = m.code.length := (gen_lens hs).1
  have h0 : 0 < m.code.length := by
    have := m.head_iff.1 (m.ok_iff.1 H.good.ok).1
    omega
  have hiv := temps_iv H hs hT ht v.maps.length (by omega)
  rw [if_neg (by omega)] at hiv
  have hu := uok_of hok
  have hd := evs_dom hu (n := v.maps.length) (x := (t : Int)) (by rw [hiv]; rfl)
  unfold ivsU
  exact ofL_ivs (by omega) (by have := hu.regs; omega) hiv
end Go.Proofs.YtbmfmklalonhiaaGreatDoor
namespace Go.Proofs.YtbmfmklalonhiaaGreatDoor
open Go.RowKit

theorem maps_head {w : World} {v : Un} (hA : UAt w v) {k : Nat} (hk : k < v.maps.length) : ∃ g o a2 c2, v.ma = some ⟨g, o, none⟩ ∧ w.cell? ⟨g, o + k, none⟩ = some (.slice a2 (mapU v k).length c2) := by
  obtain ⟨x, hx⟩ : ∃ x, v.maps[k]? = some x := ⟨_, List.getElem?_eq_getElem hk⟩
  obtain ⟨⟨g, o, e, c⟩, -⟩ := hA.maps k x hx
  refine ⟨g, o, x.a, x.c, e, ?_⟩
  rw [show mapU v k = x.l by unfold mapU; rw [hx]]
  exact c
set_option maxRecDepth 100000 in
set_option maxHeartbeats 8000000 in
theorem liveTemps_walk (m : Mth) (la ca : Option Addr) (lc cc : Nat) (w : World) (hcode : RowAt w ca (flatI m.code)) (hlits : RowAt w la (m.lits.map (Value.int .u64))) (hcl : m.code.length ≤ 5864062014805) (hwb : ∀ x ∈ m.lits, WU x) (hg : VG w) : Calls Tryz.prog 7 #[m.v la lc ca cc] w (Still (.bool true) w) := by
  have HAW := Lib.hid (fun W (hF : Fr [] w W) => awake13 W (hg.fr hF))
  have HGN := Lib.hid (fun W (hF : Fr [] w W) => gn_Gen m 4 la ca lc cc W (hcode.fr0 hF) (hlits.fr0 hF) (hg.fr hF))
  have HWB := Lib.hid hwb
  unfold Mth.v at HGN ⊢
  obtain ⟨n, hnn⟩ : ∃ n, n = m.code.length := ⟨_, rfl⟩
  obtain ⟨ll, hll⟩ : ∃ ll, ll = m.lits.length := ⟨_, rfl⟩
  simp only [← hnn, ← hll] at HGN ⊢
  have HN := Lib.hid hnn
  clear hcode hlits hg hnn hll hcl hwb
  go_enter Tryz.func7, Tryz.ntmps7
  go_wp2_with fail
  refine (HAW.out _ ((Fr.refl _ _).alloc _)).mono ?_
  rintro e w2 ⟨rfl, hF2⟩
  have HF2 : Hid (Fr [] w w2) := Lib.hid (((Fr.refl _ _).alloc _).trans hF2)
  have HB2 := Lib.hid (hF2.heap (by simp) (heap_new w _))
  have k0 := cell_of_heap (o := 0) HB2.out rfl; have k1 := cell_of_heap (o := 1) HB2.out rfl; have k2 := cell_of_heap (o := 2) HB2.out rfl; have k3 := cell_of_heap (o := 3) HB2.out rfl; have k4 := cell_of_heap (o := 4) HB2.out rfl; have k5 := cell_of_heap (o := 5) HB2.out rfl
  clear hF2
  go_wp2_with fail
  refine (HGN.out w2 HF2.out).mono ?_
  rintro e w3 ⟨hF3, ⟨hok, v, lo, rfl, hs, hO⟩ | ⟨hn, er, her, rfl⟩⟩
  · have HF3 : Hid (Fr [] w w3) := Lib.hid (HF2.out.trans hF3)
    have HB3 := Lib.hid (hF3.heap (by simp) HB2.out)
    have hh := m.head_iff.1 (m.ok_iff.1 hok.good.ok).1
    have hA := hO.at
    have hUB := unit_UB hok HWB.out ⟨by omega, by omega⟩ hs hO
    have hokU := okU_err (unit_errU hok hs)
    have HLI : Hid (∀ W, Fr [] w3 W → Calls Tryz.prog 16 #[v.v] W fun e w' => ∃ a c, e = .returned (.tuple #[.slice a (ivsU v).length c, .int .i64 0]) ∧ Fr [] W w' ∧ IvAt w' a (ivsU v)) := Lib.hid fun W hF => (lv_Intervals v W (hA.fr hF) hUB).mono (by
      rintro e w' ⟨h1, ⟨-, a, c, he, hG⟩ | ⟨hn, -⟩⟩
      · exact ⟨a, c, he, h1, ivs_of_row hG.row⟩
      · rw [hokU] at hn; cases hn)
    have hil : (ivsU v).length ≤ 4096 := by
      have h1 := (uok_of hokU).regs
      have h2 := ivs_len (evs v v.maps.length) v.regs.toNat
      unfold ivsU
      omega
    obtain ⟨T, hT⟩ : ∃ T : Nat, m.temps = T := ⟨m.temps.toNat, by omega⟩
    have hml := (gen_lens hs).1
    have HMM : Hid (∀ W, Fr [] w3 W → ∀ k, k < v.maps.length → ∃ g o a2 c2, v.ma = some ⟨g, o, none⟩ ∧ W.cell? ⟨g, o + k, none⟩ = some (.slice a2 (mapU v k).length c2)) := Lib.hid fun W hF k hk => maps_head (hA.fr hF) hk
    have HLF : Hid (∀ k, lastF v (k + 1) = if 0 < (mapU v k).length then k else lastF v k) := Lib.hid fun k => rfl
    have HL0 : Hid (lastF v 0 = 0) := Lib.hid rfl
    have HOF : Hid (∀ W a c (t : Nat), t < T → IvAt W a (ivsU v) → Calls Tryz.prog 23 #[.slice a (ivsU v).length c, .int .i64 t] W (Still (.tuple #[ivA t 0 (lastF v v.maps.length), .bool true]) W)) := Lib.hid fun W a c t ht hI => by
      have h9 := l13_of (ivsU v) a c (t : Int) W hI hil
      rw [temps_of hok hs hokU (by omega) (by omega)] at h9
      exact h9
    have HFL : Hid (∀ k, k ≤ v.maps.length → lastF v k ≤ k) := Lib.hid fun k => by
      induction k with
      | zero => intro _; exact Nat.le_refl _
      | succ k ih => intro hk; rw [HLF.out]; split; omega; have := ih (by omega); omega
    have hm128 : v.maps.length ≤ 128 := by omega
    have hml8 : ∀ k, (mapU v k).length ≤ 5864062014805 := fun k => by
      unfold mapU
      split
      · next x hx => exact (hUB.maps x (List.mem_of_getElem? hx)).1
      · exact Nat.zero_le _
    have HML8 := Lib.hid hml8
    rw [hT] at HB3 ⊢
    generalize ivsU v = iv at *
    generalize hlf : lastF v = lf at *
    generalize hmu : mapU v = mu at *
    clear hlf hmu hok hs hO hA hUB hokU hml hF3 k0 k1 k2 k3 k4 k5 hml8
    obtain ⟨vm, vg, vt, vr, vp, vs, vea, ven, vec, vca, vco, vcc, vsa, vst, vsc, vma, vmp, vmc⟩ := v
    unfold Un.v at HLI ⊢
    dsimp only at HLI HMM HOF HFL hm128 ⊢
    generalize ven.length = el at *
    generalize vst.length = sl at *
    generalize vco.length = cl at *
    obtain ⟨ml, hmle⟩ : ∃ z, z = vmp.length := ⟨_, rfl⟩
    rw [← hmle] at HLI HMM HOF HFL hm128 ⊢
    generalize iv.length = il at *
    have HT8 : Hid (T ≤ 16) := Lib.hid (by omega)
    have HM8 := Lib.hid hm128
    clear hmle hil hh hm128
    have k0 := cell_of_heap (o := 0) HB3.out rfl; have k1 := cell_of_heap (o := 1) HB3.out rfl; have k2 := cell_of_heap (o := 2) HB3.out rfl; have k3 := cell_of_heap (o := 3) HB3.out rfl; have k4 := cell_of_heap (o := 4) HB3.out rfl; have k5 := cell_of_heap (o := 5) HB3.out rfl
    have hl3 := lt_of_heap HB3.out
    go_wp2_with (go_at_call 16; refine (HLI.out _ (by (repeat (first | (with_reducible refine Fr.setCell ?_ (fun h => absurd h (Nat.lt_irrefl _)) _) | (with_reducible refine Fr.setCell ?_ (fun h => absurd h (by first | omega | (simp; done) | (simp; omega) | (dsimp only; omega))) _) | (with_reducible refine Fr.alloc ?_ _) | (with_reducible refine Fr.drew ?_) | (with_reducible refine Fr.drewN ?_ _) | (with_reducible exact Fr.refl _ _))))).mono ?_; rintro e w4 ⟨a4, c4, rfl, hF, hI⟩; have HF4 : Hid (Fr [] w3 w4) := Lib.hid (Fr.trans (by (repeat (first | (with_reducible refine Fr.setCell ?_ (fun h => absurd h (Nat.lt_irrefl _)) _) | (with_reducible refine Fr.setCell ?_ (fun h => absurd h (by first | omega | (simp; done) | (simp; omega) | (dsimp only; omega))) _) | (with_reducible refine Fr.alloc ?_ _) | (with_reducible refine Fr.drew ?_) | (with_reducible refine Fr.drewN ?_ _) | (with_reducible exact Fr.refl _ _)))) hF); have HI4 := Lib.hid hI; clear k0 k1 k2 k3 k4 k5 hl3; have HB4 := Lib.hid (HF4.out.heap (by simp) HB3.out); have HU4 := Lib.hid (hF.heap (by simp) (heap_new w3 _)); have hl3 := lt_of_heap HB4.out; have hl4 := lt_of_heap HU4.out; have u0 := cell_of_heap (o := 0) HU4.out rfl; have u1 := cell_of_heap (o := 1) HU4.out rfl; have u2 := cell_of_heap (o := 2) HU4.out rfl; have u3 := cell_of_heap (o := 3) HU4.out rfl; have u4 := cell_of_heap (o := 4) HU4.out rfl; have u5 := cell_of_heap (o := 5) HU4.out rfl; have u6 := cell_of_heap (o := 6) HU4.out rfl; have u7 := cell_of_heap (o := 7) HU4.out rfl; have u8 := cell_of_heap (o := 8) HU4.out rfl; have u9 := cell_of_heap (o := 9) HU4.out rfl; have k0 := cell_of_heap (o := 0) HB4.out rfl; have k1 := cell_of_heap (o := 1) HB4.out rfl; have k2 := cell_of_heap (o := 2) HB4.out rfl; have k3 := cell_of_heap (o := 3) HB4.out rfl; have k4 := cell_of_heap (o := 4) HB4.out rfl; have k5 := cell_of_heap (o := 5) HB4.out rfl; clear hF hI)
    clear k0 k1 k2 k3 k4 k5 u0 u1 u2 u3 u4 u5 u6 u7 u8 u9 hl3 hl4
    go_loopw [8, 9] (fun la i wr => ∃ k : Nat, k ≤ ml ∧ i = .int .i64 k ∧ la = .int .i64 (lf k : Nat) ∧ Hid (Fr [] w4 wr)) (fun _ i _ => ml - (RowKit.intOf i).toNat)
    case atStart => exact ⟨0, Nat.zero_le _, rfl, by rw [HL0.out]; rfl, Lib.hid (by (repeat (first | (with_reducible refine Fr.setCell ?_ (fun h => absurd h (Nat.lt_irrefl _)) _) | (with_reducible refine Fr.setCell ?_ (fun h => absurd h (by first | omega | (simp; done) | (simp; omega) | (dsimp only; omega))) _) | (with_reducible refine Fr.alloc ?_ _) | (with_reducible refine Fr.drew ?_) | (with_reducible refine Fr.drewN ?_ _) | (with_reducible exact Fr.refl _ _))))⟩
    case round =>
      obtain ⟨k, hk, rfl, rfl, HF⟩ := hrel
      have hb := HF.out.heap (by simp) HB4.out
      have hu := HF.out.heap (by simp) HU4.out
      have k0 := cell_of_heap (o := 0) hb rfl; have k1 := cell_of_heap (o := 1) hb rfl; have k2 := cell_of_heap (o := 2) hb rfl; have k3 := cell_of_heap (o := 3) hb rfl; have k4 := cell_of_heap (o := 4) hb rfl; have k5 := cell_of_heap (o := 5) hb rfl
      have u0 := cell_of_heap (o := 0) hu rfl; have u1 := cell_of_heap (o := 1) hu rfl; have u2 := cell_of_heap (o := 2) hu rfl; have u3 := cell_of_heap (o := 3) hu rfl; have u4 := cell_of_heap (o := 4) hu rfl; have u5 := cell_of_heap (o := 5) hu rfl; have u6 := cell_of_heap (o := 6) hu rfl; have u7 := cell_of_heap (o := 7) hu rfl; have u8 := cell_of_heap (o := 8) hu rfl; have u9 := cell_of_heap (o := 9) hu rfl
      have hl3 := lt_of_heap hb
      have hl4 := lt_of_heap hu
      clear hb hu
      have hm8 := HM8.out
      by_cases hlt : k < ml
      · obtain ⟨g, o, a2, c2, rfl, d0⟩ := HMM.out wr (HF4.out.trans HF.out) k hlt
        have hg := World.block_lt_of_cell? wr _ d0
        have q0 : (0 : Int) ≤ (k : Int) := by omega
        have q1 : (k : Int) < (ml : Int) := by omega
        have hlf := HLF.out k
        have hq8 := HML8.out k
        obtain ⟨q, hq⟩ : ∃ q, q = (mu k).length := ⟨_, rfl⟩
        rw [← hq] at d0 hlf hq8
        by_cases hq0 : 0 < q
        · rw [if_pos hq0] at hlf
          have HLK := Lib.hid hlf
          have z1 : (q : Int) > 0 := by omega
          clear hlf hq hlt
          go_wp2_with fail
          go_roundw
          case rel => exact ⟨k + 1, by omega, by go_num, by rw [HLK.out], Lib.hid (by (repeat (first | (with_reducible refine Fr.setCell ?_ (fun h => absurd h (Nat.lt_irrefl _)) _) | (with_reducible refine Fr.setCell ?_ (fun h => absurd h (by first | omega | (simp; done) | (simp; omega) | (dsimp only; omega))) _) | (with_reducible refine Fr.alloc ?_ _) | (with_reducible refine Fr.drew ?_) | (with_reducible refine Fr.drewN ?_ _) | (with_reducible exact HF.out))))⟩
          case measure => simp [RowKit.intOf]; omega
        · rw [if_neg hq0] at hlf
          have HLK := Lib.hid hlf
          have z1 : ¬ (q : Int) > 0 := by omega
          clear hlf hq hlt
          go_wp2_with fail
          go_roundw
          case rel => exact ⟨k + 1, by omega, by go_num, by rw [HLK.out], Lib.hid (by (repeat (first | (with_reducible refine Fr.setCell ?_ (fun h => absurd h (Nat.lt_irrefl _)) _) | (with_reducible refine Fr.setCell ?_ (fun h => absurd h (by first | omega | (simp; done) | (simp; omega) | (dsimp only; omega))) _) | (with_reducible refine Fr.alloc ?_ _) | (with_reducible refine Fr.drew ?_) | (with_reducible refine Fr.drewN ?_ _) | (with_reducible exact HF.out))))⟩
          case measure => simp [RowKit.intOf]; omega
      · have hke : k = ml := by omega
        have hkd : ¬ (k : Int) < (ml : Int) := by omega
        have HFLL := Lib.hid (HFL.out ml (Nat.le_refl _))
        subst hke
        generalize lf k = lft at *
        clear hlt
        obtain ⟨W5, hW5⟩ : ∃ W5, W5 = wr := ⟨_, rfl⟩
        have HF5 : Hid (Fr [] w4 W5) := Lib.hid (by rw [hW5]; exact HF.out)
        have HW5 := Lib.hid hW5
        clear hW5
        have HB5 := Lib.hid (HF5.out.heap (by simp) HB4.out)
        go_wp2_with fail
        clear k0 k1 k2 k3 k4 k5 u0 u1 u2 u3 u4 u5 u6 u7 u8 u9 hl3 hl4
        go_loopw [10] (fun i wr => ∃ t : Nat, t ≤ T ∧ i = .int .i64 t ∧ Hid (Fr [] W5 wr)) (fun i _ => T - (RowKit.intOf i).toNat)
        case atStart => exact ⟨0, Nat.zero_le _, rfl, Lib.hid (by rw [HW5.out]; exact Fr.refl _ _)⟩
        case round =>
          obtain ⟨t, ht, rfl, HFt⟩ := hrel
          have hb := HFt.out.heap (by simp) HB5.out
          have k0 := cell_of_heap (o := 0) hb rfl; have k1 := cell_of_heap (o := 1) hb rfl; have k2 := cell_of_heap (o := 2) hb rfl; have k3 := cell_of_heap (o := 3) hb rfl; have k4 := cell_of_heap (o := 4) hb rfl; have k5 := cell_of_heap (o := 5) hb rfl
          have hl3 := lt_of_heap hb
          clear hb
          have ht8 := HT8.out
          by_cases hlt : t < T
          · have hof := HOF.out wr a4 c4 t hlt (HI4.out.fr (HF5.out.trans HFt.out))
            unfold ivA at hof
            have q0 : (0 : Int) ≤ (t : Int) := by omega
            have q1 : (t : Int) < (T : Int) := by omega
            have b1 : ((lft : Int) != (lft : Int)) = false := by simp
            clear hlt
            go_wp2_with (go_at_call 23; refine hof.mono ?_; rintro e w6 ⟨rfl, hF⟩; have HF6 : Hid (Fr [] W5 w6) := Lib.hid (HFt.out.trans (Fr.trans (by (repeat (first | (with_reducible refine Fr.setCell ?_ (fun h => absurd h (Nat.lt_irrefl _)) _) | (with_reducible refine Fr.setCell ?_ (fun h => absurd h (by first | omega | (simp; done) | (simp; omega) | (dsimp only; omega))) _) | (with_reducible refine Fr.alloc ?_ _) | (with_reducible refine Fr.drew ?_) | (with_reducible refine Fr.drewN ?_ _) | (with_reducible exact Fr.refl _ _)))) hF)); clear hF)
            go_roundw
            case rel => exact ⟨t + 1, by omega, by go_num, Lib.hid (by (repeat (first | (with_reducible refine Fr.setCell ?_ (fun h => absurd h (Nat.lt_irrefl _)) _) | (with_reducible refine Fr.setCell ?_ (fun h => absurd h (by first | omega | (simp; done) | (simp; omega) | (dsimp only; omega))) _) | (with_reducible refine Fr.alloc ?_ _) | (with_reducible refine Fr.drew ?_) | (with_reducible refine Fr.drewN ?_ _) | (with_reducible exact HF6.out))))⟩
            case measure => simp [RowKit.intOf]; omega
          · have hkd : ¬ (t : Int) < (T : Int) := by omega
            clear hlt
            go_wp2_with fail
            go_ret
            exact ⟨rfl, HF3.out.trans (HF4.out.trans (HF5.out.trans (by (repeat (first | (with_reducible refine Fr.setCell ?_ (fun h => absurd h (Nat.lt_irrefl _)) _) | (with_reducible refine Fr.setCell ?_ (fun h => absurd h (by first | omega | (simp; done) | (simp; omega) | (dsimp only; omega))) _) | (with_reducible refine Fr.alloc ?_ _) | (with_reducible refine Fr.drew ?_) | (with_reducible refine Fr.drewN ?_ _) | (with_reducible exact HFt.out))))))⟩
  · have HF3 : Hid (Fr [] w w3) := Lib.hid (HF2.out.trans hF3)
    have HB3 := Lib.hid (hF3.heap (by simp) HB2.out)
    clear hn hF3 k0 k1 k2 k3 k4 k5
    have k0 := cell_of_heap (o := 0) HB3.out rfl; have k1 := cell_of_heap (o := 1) HB3.out rfl; have k2 := cell_of_heap (o := 2) HB3.out rfl; have k3 := cell_of_heap (o := 3) HB3.out rfl; have k4 := cell_of_heap (o := 4) HB3.out rfl; have k5 := cell_of_heap (o := 5) HB3.out rfl
    have hl3 := lt_of_heap HB3.out
    unfold noU Un.v
    dsimp only
    rcases her with rfl | rfl
    all_goals
      go_wp2_with fail
      go_ret
      exact ⟨rfl, by (repeat (first | (with_reducible refine Fr.setCell ?_ (fun h => absurd h (Nat.lt_irrefl _)) _) | (with_reducible refine Fr.setCell ?_ (fun h => absurd h (by first | omega | (simp; done) | (simp; omega) | (dsimp only; omega))) _) | (with_reducible refine Fr.alloc ?_ _) | (with_reducible refine Fr.drew ?_) | (with_reducible refine Fr.drewN ?_ _) | (with_reducible exact HF3.out)))⟩
end Go.Proofs.YtbmfmklalonhiaaGreatDoor
