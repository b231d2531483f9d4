/- ScanFirst: the walk. -/
import Derived.Test.YtomcfjckhajhmaaScnAwake
import Derived.Test.YtomcfjckhajhmaaScnLaws
import Derived.Test.YtomcfjckhajhmaaAppend
import Derived.Test.YtomcfjckhajhmaaMask
namespace Go.Proofs.Ytomcfjckhajhmaa
open Go.RowKit

theorem infoIv3 : (Try.prog.info? 35).map (fun i => (i.zero, i.size, i.bytes)) = some (some (.agg #[.int .i64 0, .int .i64 0, .int .i64 0]), 3, 24) := by kernel_rfl
/-- intervals, cell by cell -/
def flatL (l : List Iv) : List Value := l.flatMap fun x => [.int .i64 x.v, .int .i64 x.f, .int .i64 x.t]
theorem flatL_len (l : List Iv) : (flatL l).length = l.length * 3 := by
  induction l with
  | nil => rfl
  | cons a l ih => rw [show flatL (a :: l) = .int .i64 a.v :: .int .i64 a.f :: .int .i64 a.t :: flatL l from rfl]; simp [ih]; omega
theorem flatL_snoc (l : List Iv) (x : Iv) : flatL (l ++ [x]) = flatL l ++ [.int .i64 x.v, .int .i64 x.f, .int .i64 x.t] := by simp [flatL]
theorem flatL_at {l : List Iv} {k : Nat} {x : Iv} (h : l[k]? = some x) : (flatL l)[k * 3]? = some (.int .i64 x.v) ∧ (flatL l)[k * 3 + 1]? = some (.int .i64 x.f) ∧ (flatL l)[k * 3 + 2]? = some (.int .i64 x.t) := by
  induction l generalizing k with
  | nil => cases h
  | cons a l ih =>
    have e : flatL (a :: l) = .int .i64 a.v :: .int .i64 a.f :: .int .i64 a.t :: flatL l := rfl
    rw [e]
    cases k with
    | zero => cases h; exact ⟨rfl, rfl, rfl⟩
    | succ k =>
      have := ih (by simpa using h)
      rw [show (k + 1) * 3 = k * 3 + 1 + 1 + 1 by omega]
      simpa [Nat.add_assoc] using this
/-- a row of intervals in new memory -/
structure LRow (w0 : World) (L : List Iv) (n : Nat) (v : Value) (W : World) : Prop where
  row : W.ownsRow 0 35 3 v n (flatL L)
  fr : Fr [] w0 W
  new : ∀ b, v.ownBlock = some b → w0.heap.size ≤ b
theorem LRow.step {w0 : World} {L : List Iv} {n : Nat} {v v' : Value} {W W1 w1 : World} (h : LRow w0 L n v W) (hW : Fr [] W W1) {x : Iv} (ho : w1.ownsRow 0 35 3 v' (n + 1) (flatL L ++ [.int .i64 x.v, .int .i64 x.f, .int .i64 x.t])) (hg : W1.grownBy w1 v.ownBlock) (hf : v'.ownBlock = v.ownBlock ∨ v'.ownBlock = some W1.heap.size) : LRow w0 (L ++ [x]) (n + 1) v' w1 := by
  refine ⟨by rw [flatL_snoc]; exact ho, (h.fr.trans hW).grown hg (fun b hb hl => by have := h.new b hb; omega), fun b hb => ?_⟩
  rcases hf with hf | hf
  · exact h.new b (hf ▸ hb)
  · have e := hf.symm.trans hb
    cases e
    exact Nat.le_trans h.fr.size hW.size
theorem LRow.iv {w0 : World} {L : List Iv} {n c : Nat} {a : Option Addr} {W : World} (h : LRow w0 L n (.slice a n c) W) : IvM W a L := by
  intro k x hk
  obtain ⟨f0, f1, f2⟩ := flatL_at hk
  rcases h.row.2 with ⟨hv, hn⟩ | ⟨g, cap, cur, hv, -⟩
  · have h1 := h.row.1
    rw [hn, flatL_len] at h1
    have h2 := (List.getElem?_eq_some_iff.1 hk).1
    omega
  · cases hv
    have hc := h.row.cells (g := g) rfl
    have d0 := hc _ _ f0
    have d1 := hc _ _ f1
    have d2 := hc _ _ f2
    rw [Lib.add_plain] at d0 d1 d2
    exact ⟨g, 0, rfl, d0, by rw [Nat.add_assoc]; exact d1, by rw [Nat.add_assoc]; exact d2⟩
theorem LRow.len {w0 : World} {L : List Iv} {n : Nat} {v : Value} {W : World} (h : LRow w0 L n v W) : L.length = n := by
  have := h.row.1
  rw [flatL_len] at this
  omega
theorem lrow_nil (w : World) : LRow w [] 0 (.slice none 0 0) w := ⟨⟨rfl, .inl ⟨rfl, rfl⟩⟩, Fr.refl _ _, fun b h => by cases h⟩
theorem fst_scan {k r : Nat} {s : St} (h : Scanned (fstL k) r s) : Fst r k s := by
  obtain ⟨S, p, hg, ru⟩ := h.good (fstL_good k).nd
  have e : S = fstL k := List.Perm.eq_of_pairwise (le := begLt) (fun a b _ _ => begLt_antisymm) hg.so (fstL_good k).so p
  rw [e] at ru
  exact ru.fst
theorem fst_ok {k : Nat} : okL (fstL k) = true := by
  unfold okL
  rw [Bool.and_eq_true]
  refine ⟨List.all_eq_true.2 fun x hx => ?_, by simp only [decide_eq_true_eq]; exact List.pairwise_map.2 (fstL_good k).nd⟩
  obtain ⟨i, -, rfl⟩ := List.mem_map.1 hx
  simp [okI]
theorem fst_len (k : Nat) : (fstL k).length = k := by unfold fstL; simp
theorem fst_at {k j : Nat} (h : j < k) : (fstL k)[j]? = some ⟨(j : Int), 0, 5⟩ := by unfold fstL; simp [h]
theorem mask_nat (a : Int) (b : Nat) (hb : b < 1000000) : ∃ k : Nat, bits .and .i64 a b = (k : Int) ∧ k ≤ b := by
  obtain ⟨h1, h2⟩ := and_mask a b hb
  exact ⟨(bits .and .i64 a b).toNat, by omega, by omega⟩
set_option maxRecDepth 100000 in
set_option maxHeartbeats 8000000 in
theorem scanFirst_walk (a b : Int) (w : World) : Calls Try.prog 7 #[.int .i64 a, .int .i64 b] w (Still (.bool true) w) := by
  obtain ⟨i0, hi, hz0, hz1, hz2⟩ := info_parts infoIv3
  obtain ⟨m1, hm1, hb1⟩ := mask_nat a 15 (by omega)
  obtain ⟨r1, hr1, hb2⟩ := mask_nat b 7 (by omega)
  have hm1' : bits .and .i64 a 15 = (m1 : Int) := hm1
  have hr1' : bits .and .i64 b 7 = (r1 : Int) := hr1
  obtain ⟨m, hm⟩ : ∃ m, m = 1 + m1 := ⟨_, rfl⟩
  obtain ⟨r, hr⟩ : ∃ r, r = 1 + r1 := ⟨_, rfl⟩
  have wm : IntKind.i64.wrap (1 + (m1 : Int)) = (m : Int) := by rw [IntKind.wrap_i64]; omega
  have wr1 : IntKind.i64.wrap (1 + (r1 : Int)) = (r : Int) := by rw [IntKind.wrap_i64]; omega
  have hm16 : m ≤ 16 := by omega
  have hr8 : 1 ≤ r ∧ r ≤ 8 := by omega
  clear hm1 hr1 hm hr hb1 hb2
  go_enter Try.func7, Try.ntmps7
  go_wp2_with (go_at_call 9; refine (awake14 _).mono ?_; rintro e w1 ⟨rfl, hF⟩; have HF1 := Lib.hid hF; clear hF)
  have HLN : Hid (LRow w [] 0 (.slice none 0 0) w1) := Lib.hid ⟨⟨rfl, .inl ⟨rfl, rfl⟩⟩, HF1.out, fun b h => by cases h⟩
  go_loopw [8, 9] (fun lv iv wr => ∃ (k : Nat) (ao : Option Addr) (cap : Nat), k ≤ m ∧ iv = .int .i64 k ∧ lv = .slice ao k cap ∧ Hid (LRow w (fstL k) k (.slice ao k cap) wr)) (fun _ iv _ => m - (RowKit.intOf iv).toNat)
  case atStart => exact ⟨0, none, 0, Nat.zero_le _, rfl, rfl, HLN⟩
  case round =>
    obtain ⟨k, ao, cap, hk, rfl, rfl, HR⟩ := hrel
    by_cases hkm : k < m
    · have k1 : (k : Int) < (m : Int) := by omega
      have hmx : k + 1 ≤ maxLen := by unfold maxLen; omega
      go_wp2_with (at_builtin; refine wpList_append_at _ rfl (.tmp 26) (.tmp 29) 22 rfl 35 i0 (.agg #[.int .i64 0, .int .i64 0, .int .i64 0]) 3 24 Try.underlying22 hi hz0 hz1 hz2 rfl (by decide) (.slice ao k cap) k _ rfl (Fr.row (S := []) (by (repeat (first | (with_reducible refine Fr.setCell ?_ (fun h => absurd h (Nat.lt_irrefl _)) _) | (with_reducible refine Fr.setCell ?_ (fun h => absurd h (by first | omega | (simp; done) | (simp; omega) | (dsimp only; omega))) _) | (with_reducible refine Fr.alloc ?_ _) | (with_reducible refine Fr.drew ?_) | (with_reducible refine Fr.drewN ?_ _) | (with_reducible exact Fr.refl _ _)))) HR.out.row (fun _ _ => by simp)) ⟨wr.heap.size, 0, none⟩ 1 1 [.int .i64 k, .int .i64 0, .int .i64 5] (by first | rfl | (go_simp; done)) rfl (by intro j u hj; rw [Lib.add_plain, Nat.zero_add]; exact cell_of_heap (heap_new _ _) (by simpa using hj)) (by simp [Value.oneCell']) hmx (by omega) ?_; intro v5 w5 ho5 hg5 hf5; have hst := HR.out.step (W1 := _) (x := ⟨(k : Int), 0, 5⟩) (by (repeat (first | (with_reducible refine Fr.setCell ?_ (fun h => absurd h (Nat.lt_irrefl _)) _) | (with_reducible refine Fr.setCell ?_ (fun h => absurd h (by first | omega | (simp; done) | (simp; omega) | (dsimp only; omega))) _) | (with_reducible refine Fr.alloc ?_ _) | (with_reducible refine Fr.drew ?_) | (with_reducible refine Fr.drewN ?_ _) | (with_reducible exact Fr.refl _ _)))) ho5 hg5 hf5; obtain ⟨a5, p5, rfl⟩ := nrow_shape ho5; have HST := Lib.hid hst; clear hst ho5 hg5 hf5)
      go_roundw
      case rel => exact ⟨k + 1, a5, p5, by omega, by go_num, rfl, Lib.hid (by rw [fstL_succ]; exact HST.out)⟩
      case measure => simp [RowKit.intOf]; omega
    · have hke : k = m := by omega
      subst hke
      have k1 : ¬ (k : Int) < (k : Int) := by omega
      have HAS := Lib.hid (sc_Assign_yes ao cap k (fstL k) r wr HR.out.iv (fst_len k) (by omega) hr8 fst_ok)
      have wmr : IntKind.i64.wrap ((k : Int) - (r : Int)) = (k : Int) - (r : Int) := by rw [IntKind.wrap_i64]; omega
      go_wp2_with (go_at_call 10; refine HAS.out.mono ?_; rintro e w2 ⟨pb, s, cur, rfl, hF, hpb, hcu, hpc, hsc⟩; have hfs := fst_scan hsc; have hcs : (s.cells : Int) = max 0 ((k : Int) - (r : Int)) := (by rw [hfs.cells]; omega); have hcb : ((s.cells : Int) != max 0 ((k : Int) - (r : Int))) = false := (by simpa using hcs); have HFS := Lib.hid hfs; have HF2 := Lib.hid (HR.out.fr.trans hF); have HCU := Lib.hid hcu; have HPC := Lib.hid hpc; clear hF hcu hpc hsc hpb hfs)
      clear hcs hcb
      go_loopw [13] (fun iv wr => ∃ j : Nat, j ≤ k ∧ iv = .int .i64 j ∧ Hid (Fr [] w wr) ∧ Hid (Fr [] w2 wr)) (fun iv _ => k - (RowKit.intOf iv).toNat)
      case atStart => exact ⟨0, Nat.zero_le _, rfl, HF2, Fr.refl _ _⟩
      case round =>
        obtain ⟨j, hj, rfl, HF, HFW⟩ := hrel
        by_cases hjk : j < k
        · have hcu := HFW.out.heap (by simp) HCU.out
          have ho := HFS.out.out j hjk
          obtain ⟨c0, c1, c2⟩ := HPC.out.at_ j _ (fst_at hjk)
          have c0 := cell_of_heap hcu c0
          have c1 := cell_of_heap hcu c1
          have c2 := cell_of_heap hcu c2
          dsimp only at c0 c1 c2
          rw [ho] at c0 c1
          have e1 : (j : Int) < (k : Int) := by omega
          have e2 : (0 : Int) ≤ (j : Int) := by omega
          clear hcu ho
          by_cases hjr : j < r
          · rw [if_pos hjr] at c0 c1
            have e3 : (j : Int) < (r : Int) := by omega
            have e4 : decide ((j : Int) < (r : Int)) = true := by simpa using hjr
            have e5 : decide ((r : Int) ≤ (j : Int)) = false := by simpa using hjr
            have e6 : ¬ (r : Int) ≤ (j : Int) := by omega
            go_wp2_with fail
            go_roundw
            case rel => exact ⟨j + 1, by omega, by go_num, HF, HFW⟩
            case measure => simp [RowKit.intOf]; omega
          · rw [if_neg hjr] at c0 c1
            have e3 : ¬ (j : Int) < (r : Int) := by omega
            have e4 : decide ((j : Int) < (r : Int)) = false := by simpa using hjr
            have e5 : decide ((r : Int) ≤ (j : Int)) = true := by simp; omega
            have e6 : (r : Int) ≤ (j : Int) := by omega
            go_wp2_with fail
            go_roundw
            case rel => exact ⟨j + 1, by omega, by go_num, HF, HFW⟩
            case measure => simp [RowKit.intOf]; omega
        · have e1 : ¬ (j : Int) < (k : Int) := by omega
          go_wp2_with fail
          go_ret
          exact ⟨rfl, HF.out⟩
end Go.Proofs.Ytomcfjckhajhmaa
