/- CodeBack: methods there and back; one field turned. -/
import Derived.Test.YtgpcidmlogbjbaaGreatDoorMCodeFieldsWalk
namespace Go.Proofs.YtgpcidmlogbjbaaGreatDoor
open Go.RowKit

theorem okB_snoc {os : List Ob} {o : Ob} {v : Int} (h : okB (marksOf os) v = true) : okB (marksOf (os ++ [o])) v = true := by
  unfold okB at h ⊢
  simp only [Bool.or_eq_true] at h ⊢
  rcases h with (h | h) | h
  · left; left
    obtain ⟨k, rfl, h1, h2, hm⟩ := stB_at h
    refine stB_mk h1 h2 ?_
    unfold marksOf at hm ⊢
    rw [flatM_append]
    have hk : k < (false :: flatM os).length := (List.getElem?_eq_some_iff.1 hm).1
    rw [← List.cons_append, List.getElem?_append_left hk]
    exact hm
  · left; right; exact h
  · right; exact h
theorem writeF_good {lim : Int} {os : List Ob} {cls : Int} {m : Mth} (hok : m.ok = true) (hc : okB (marksOf os) cls = true) (hroom : (endOf os : Int) + 3 + m.fs.length ≤ lim) (hv : ∀ v ∈ m.fs, okB (marksOf (os ++ [(cls, 0, m.fs)])) v = true) : (writeF lim os cls m).2.1 = 0 := by
  have hd := m.head_iff.1 (m.ok_iff.1 hok).1
  have hfl := m.fs_len
  have h1 : okB (marksOf os) 1 = true := by unfold okB; simp [odd]
  have ha : allocF lim os cls m.fs.length 1 = (2 * (endOf os : Int), 0, os ++ [(cls, 0, List.replicate (m.fs.length : Int).toNat 1)]) := by
    rcases allocF_cases lim os cls m.fs.length 1 with ⟨h, -⟩ | ⟨-, h'⟩ | ⟨-, -, -, -, -, h'⟩
    · exact h
    · rw [hc, h1] at h'
      simp at h'
      omega
    · omega
  rw [writeF_stores hok ha]
  simp only [Int.toNat_natCast]
  have hget : (os ++ [(cls, (0 : Int), List.replicate m.fs.length (1 : Int))])[os.length]? = some (cls, 0, List.replicate m.fs.length 1) := by simp
  have hm : marksOf (os ++ [(cls, (0 : Int), List.replicate m.fs.length (1 : Int))]) = marksOf (os ++ [(cls, 0, m.fs)]) := by
    have := flatM_set (o' := (cls, (0 : Int), m.fs)) hget (by simp)
    rw [← this]
    simp
  rw [storesI_all os.length m.fs _ _ 0 hget (by simp) (by rw [hm]; exact hv)]
theorem turn_step {w W W' : World} {hb mb : Nat} {m m' : Mem} {wv sv v : Value} {e : Ending} (hB : Base w W (foot mb wv sv)) (hH : HeapAt W hb mb m wv sv) (hT : Turns v mb m' (foot mb wv sv) W e W') : e = .returned v ∧ ∃ wv' sv', HeapAt W' hb mb m' wv' sv' ∧ Base w W' (foot mb wv' sv') ∧ Fr (foot mb wv sv) W W' := by
  obtain ⟨rfl, wv', sv', hM, hF, hk⟩ := hT
  refine ⟨rfl, wv', sv', ⟨hF.heap hH.apart hH.heap, hM⟩, ⟨hB.fr.join hF hB.new, fun k h => ?_⟩, hF⟩
  rcases hk k h with h | h
  · exact hB.new k h
  · exact Nat.le_trans hB.fr.size h
theorem Base.still {w W W' : World} {S : List Nat} (h : Base w W S) (hF : Fr [] W W') : Base w W' S := ⟨h.fr.trans hF, h.new⟩
theorem fresh_word (v : Int) : IntKind.u64.wrap (IntKind.u64.wrap (IntKind.u64.wrap v * 2) + 1) = wordOf v := by
  simp only [wrap_u64_eq]
  unfold wordOf
  omega
/-- are two methods the same? -/
theorem same_any (a b : Mth) {w : World} {la ca la' ca' : Option Addr} {lc cc lc' cc' : Nat} (hA : MAt w a la lc ca) (hB : MAt w b la' lc' ca') (hl : a.lits.length ≤ 17592186044416) (hcl : a.code.length ≤ 17592186044416) : ∃ B : Bool, (B = true ↔ a = b) ∧ Calls Tryz.prog 42 #[a.v la lc ca cc, b.v la' lc' ca' cc'] w (Still (.bool B) w) := by
  by_cases h : a.headEq b
  · refine ⟨decide (a.code = b.code), ?_, same_head_yes a b hA hB hl hcl h⟩
    obtain ⟨h1, h2, h3, h4, h5, -⟩ := h
    cases a
    cases b
    simp at h1 h2 h3 h4 h5 ⊢
    exact ⟨fun h => ⟨h1, h2, h3, h4, h5, h⟩, fun h => h.2.2.2.2.2⟩
  · refine ⟨false, ?_, same_head_no a b hA hB hl h⟩
    simp
    intro e
    subst e
    exact h ⟨rfl, rfl, rfl, rfl, rfl, rfl⟩
set_option maxRecDepth 100000 in
set_option maxHeartbeats 3200000 in
theorem codeBack_walk (m : Mth) (la : Option Addr) (lc : Nat) (ca : Option Addr) (cc : Nat) (w : World) (hM : MIn w m la lc ca) (a v : Int) (hg : Glob w) (hE : Field w) : Calls Tryz.prog 7 #[m.v la lc ca cc, .int .i64 a, .int .i64 v] w (Still (.bool true) w) := by
  have HAW := Lib.hid (fun W (hF : Fr [] w W) => awake4 W (hg.fr hF) (hE.fr hF))
  have HBO := Lib.hid (fun W (hF : Fr [] w W) => both_fresh (hg.fr hF))
  have HG := Lib.hid hg
  have HE := Lib.hid hE
  have HM := Lib.hid hM
  have HWN := Lib.hid (writeF_new m)
  have hll := hM.ll
  have hcl := hM.cl
  have HFL := Lib.hid m.fs_len
  obtain ⟨ll, hll'⟩ : ∃ n, n = m.lits.length := ⟨_, rfl⟩
  obtain ⟨n, hn'⟩ : ∃ n, n = m.code.length := ⟨_, rfl⟩
  have HLL := Lib.hid hll'
  have HNN := Lib.hid hn'
  rw [← hll'] at hll HFL
  rw [← hn'] at hcl HFL
  unfold Mth.v
  rw [← hll', ← hn']
  clear hg hE hM hll' hn'
  go_enter Tryz.func7, Tryz.ntmps7
  go_wp2_with fail
  refine (HAW.out _ ((Fr.refl _ _).alloc _)).mono ?_
  rintro e w1 ⟨rfl, hF1⟩
  have HF1 : Hid (Fr [] w w1) := ((Fr.refl _ _).alloc _).trans hF1
  have HB1 := Lib.hid (hF1.heap (by simp) (heap_new w _))
  clear hF1
  go_wp2_with fail
  refine (HBO.out _ HF1.out).mono ?_
  rintro e w2 ⟨hb, mb, rb, root, hs, l, rfl, hI, hT⟩
  have HI := Lib.hid hI
  obtain ⟨wv, sv, lv, -, hH, -, hF2, -, hft, -⟩ := hT
  have HH := Lib.hid hH
  have HF2 : Hid (Fr [] w w2) := HF1.out.trans hF2
  have HB2 := Lib.hid (hF2.heap (by simp) HB1.out)
  have HBS : Hid (Base w1 w2 (foot mb wv sv)) := ⟨hF2, hft⟩
  have HG1 : Hid (Glob w1) := HG.out.fr HF1.out
  have HE1 : Hid (Field w1) := HE.out.fr HF1.out
  have HLT1 : Hid (w.heap.size < w1.heap.size) := lt_of_heap HB1.out
  have HNF : Hid (w.heap.size ∉ foot mb wv sv) := Lib.hid fun h => by have h1 := hft _ h; have h2 := lt_of_heap HB1.out; omega
  have HWR := Lib.hid (write_at m la ca lc cc 0 (by unfold WB; omega) HM.out.wb HG1.out HE1.out HBS.out HI.out HH.out (HM.out.at_.fr0 HF2.out))
  unfold Mth.v at HWR
  rw [← HLL.out, ← HNN.out] at HWR
  have k0 := cell_of_heap (o := 0) HB2.out rfl; have k1 := cell_of_heap (o := 1) HB2.out rfl; have k2 := cell_of_heap (o := 2) HB2.out rfl; have k3 := cell_of_heap (o := 3) HB2.out rfl; have k4 := cell_of_heap (o := 4) HB2.out rfl; have k5 := cell_of_heap (o := 5) HB2.out rfl
  clear hI hH hF2 hft
  go_wp2_with fail
  refine HWR.out.mono ?_
  intro e w3 hT3
  obtain ⟨rfl, wv3, sv3, hH3, hB3, hF3⟩ := turn_step HBS.out HH.out hT3
  have HF3 := Lib.hid (HF1.out.trans hB3.fr)
  have HBS3 := Lib.hid hB3
  have HB3 := Lib.hid (hF3.heap HNF.out HB2.out)
  have HH3 := Lib.hid hH3
  have HI3 := Lib.hid (writeF_inv HI.out 0 m (by unfold WB; omega) HM.out.wb)
  have hlt3 : w.heap.size < w3.heap.size := lt_of_heap HB3.out
  clear hT3 hH3 hB3 hF3 k0 k1 k2 k3 k4 k5
  rcases HWN.out with ⟨hok, hwf⟩ | ⟨hok, hwf⟩ | ⟨hok, hwf⟩
  · rw [hwf]
    clear hok hwf
    go_wp2_with fail
    go_ret
    exact ⟨rfl, HF3.out⟩
  · rw [hwf]
    clear hok hwf
    go_wp2_with fail
    go_ret
    exact ⟨rfl, HF3.out⟩
  · obtain ⟨hwo, -, hall, hroom⟩ := writeF_ok hwf
    rw [hwo] at HH3 HI3
    rw [hwo]
    simp only [List.nil_append] at HH3 HI3 hall ⊢
    have HOK := Lib.hid hok
    have HALL := Lib.hid hall
    have hd := m.head_iff.1 (m.ok_iff.1 hok).1
    rw [← HLL.out, ← HNN.out] at hd
    obtain ⟨N, hN⟩ : ∃ N, N = m.fs.length := ⟨_, rfl⟩
    rw [← hN] at HFL
    have HNL := Lib.hid hN
    have hNb : N ≤ 165 ∧ 6 ≤ N := by have := HFL.out; omega
    have HSZ : Hid (∀ W, Fr [] w3 W → Calls Tryz.prog 43 #[.pointer (some ⟨hb, 0, none⟩), .int .u64 (2 * (endOf [] : Int))] W (Still (.tuple #[.int .i64 N, .int .i64 0]) W)) := Lib.hid fun W hF => by
      rw [hN]
      exact size_yes (memory_at (HH3.out.fr hF (by simp) (fun _ _ => by simp))) (endOf []) m.fs.length (abs_mark (pre := []) (post := [])) (endOf_pos _) (by decide) (abs_size (pre := []) (post := [])) (by omega)
    have HFT : Hid (∀ W (j : Nat) (x : Int), Fr [] w3 W → m.fs[j]? = some x → Calls Tryz.prog 44 #[.pointer (some ⟨hb, 0, none⟩), .int .u64 (2 * (endOf [] : Int)), .int .i64 j] W (Still (.tuple #[.int .u64 x, .int .i64 0]) W)) := Lib.hid fun W j x hF hj => by
      have hjl := (List.getElem?_eq_some_iff.1 hj).1
      exact fetch_yes (memory_at (HH3.out.fr hF (by simp) (fun _ _ => by simp))) (endOf []) m.fs.length j x (abs_mark (pre := []) (post := [])) (endOf_pos _) (abs_size (pre := []) (post := [])) (by omega) hjl ((abs_field (pre := []) (post := []) (o := (0, 0, m.fs)) j hjl).trans hj)
    have HRD : Hid (∀ W, Fr [] w3 W → Calls Tryz.prog 40 #[.pointer (some ⟨hb, 0, none⟩), .int .u64 (2 * (endOf [] : Int))] W (ReadTo true m W)) := Lib.hid fun W hF => by
      have := read_at (pre := []) (post := []) (o := (0, 0, m.fs)) ((HE.out.fr HF3.out).fr hF) HI3.out (HH3.out.fr hF (by simp) (fun _ _ => by simp))
      rw [(dec_fs m hok).1, (dec_fs m hok).2] at this
      exact this
    obtain ⟨p, hp, hpe⟩ := pick_at (xs := m.fs) (by rw [← hN]; omega) a
    rw [← hN] at hp hpe
    obtain ⟨old, hold⟩ : ∃ x, m.fs[p]? = some x := ⟨_, List.getElem?_eq_getElem (by rw [← hN]; exact hp)⟩
    obtain ⟨y, hy⟩ : ∃ y, y = wordOf v := ⟨_, rfl⟩
    have hyb := wordOf_WB v
    rw [← hy] at hyb
    have hyw : IntKind.u64.wrap (IntKind.u64.wrap (IntKind.u64.wrap v * 2) + 1) = y := by rw [hy]; exact fresh_word v
    obtain ⟨fs2, hfs2⟩ : ∃ l, l = m.fs.set p y := ⟨_, rfl⟩
    have HF2L : Hid (fs2.length = N) := Lib.hid (by rw [hfs2, hN]; simp)
    have HST : storeI [(0, 0, m.fs)] 0 p y = (0, [(0, 0, fs2)]) := by
      unfold storeI
      simp only [List.getElem?_cons_zero]
      rw [if_pos ⟨by omega, by omega, by unfold okB; rw [hyb.2]; simp⟩, hfs2]
      simp
    have HSR := Lib.hid (fun W wvx svx (hB : Base w1 W (foot mb wvx svx)) (hH : HeapAt W hb mb (absMem 4096 [(0, 0, m.fs)] root hs) wvx svx) => hstore (i := 0) (HG1.out.fr hB.fr) HI3.out hH (by simp) p y (by omega) (by omega) hyb.1)
    have HI4 : Hid (OInv 4096 [(0, 0, fs2)] hs) := by
      have := storeI_inv HI3.out 0 p y hyb.1
      rw [HST] at this
      exact this
    rw [HST] at HSR
    have e2 : (2 * (endOf [] : Int)) = 2 := by decide
    simp only [List.take_zero] at HSR
    rw [e2] at HSZ HFT HRD HSR ⊢
    have HWB2 : Hid (∀ x ∈ fs2, WB x) := (HI4.out.bd (0, 0, fs2) (by simp)).2
    have HM2 : Hid (old = y → fs2 = m.fs) := Lib.hid fun h => by rw [hfs2]; exact set_same (by rw [hold, h])
    have HP2 : Hid (fs2[p]? = some y) := Lib.hid (by rw [hfs2]; exact List.getElem?_set_self (by rw [← hN]; exact hp))
    have HNE : Hid (old ≠ y → decOk fs2 = true → decM fs2 ≠ m) := Lib.hid fun h1 h2 h3 => by
      have h4 := fs_dec fs2 HWB2.out h2
      rw [h3] at h4
      rw [h4] at hold
      have := HP2.out
      rw [hold] at this
      exact h1 (Option.some.inj this)
    have HOLD := Lib.hid hold
    have HMK : Hid (∀ x ∈ fs2, okB (marksOf [(0, 0, fs2)]) x = true) := Lib.hid fun x hx => by
      have hmk : marksOf [((0 : Int), (0 : Int), fs2)] = marksOf [(0, 0, m.fs)] := by
        have := flatM_set (os := [((0 : Int), (0 : Int), m.fs)]) (i := 0) (o := (0, 0, m.fs)) (o' := (0, 0, fs2)) rfl (by simp only; rw [HF2L.out, HNL.out])
        simpa using this
      rw [hmk]
      rw [hfs2] at hx
      rcases List.mem_or_eq_of_mem_set hx with h | h
      · exact HALL.out x h
      · rw [h]; unfold okB; rw [hyb.2]; simp
    have HHE : Hid (∀ W wvx svx, Base w1 W (foot mb wvx svx) → HeapAt W hb mb (absMem 4096 [(0, 0, fs2)] root hs) wvx svx → Calls Tryz.prog 40 #[.pointer (some ⟨hb, 0, none⟩), .int .u64 2] W (ReadTo (decOk fs2) (decM fs2) W)) := Lib.hid fun W wvx svx hB hH => by
      have := read_at (pre := []) (post := []) (o := (0, 0, fs2)) (HE1.out.fr hB.fr) HI4.out hH
      have e2 : (2 * (endOf [] : Int)) = 2 := by decide
      rw [e2] at this
      exact this
    have HPE := Lib.hid hpe
    have HYW := Lib.hid hyw
    obtain ⟨⟨yb1, yb2⟩, -⟩ := hyb
    have hob := HM.out.at_
    have HOB : Hid (WB old) := Lib.hid (Mth.fs_WB HM.out.wb old (List.mem_of_getElem? hold))
    obtain ⟨ob1, ob2⟩ := HOB.out
    have HL32 : Hid (m.lits.length ≤ 17592186044416 ∧ m.code.length ≤ 17592186044416) := Lib.hid ⟨Nat.le_trans HM.out.ll (by decide), Nat.le_trans HM.out.cl (by decide)⟩
    clear hwo hroom hok hwf hN e2 HWN hpe hyw hold hy hfs2 HST hall hob
    have k0 := cell_of_heap (o := 0) HB3.out rfl; have k1 := cell_of_heap (o := 1) HB3.out rfl; have k2 := cell_of_heap (o := 2) HB3.out rfl; have k3 := cell_of_heap (o := 3) HB3.out rfl; have k4 := cell_of_heap (o := 4) HB3.out rfl; have k5 := cell_of_heap (o := 5) HB3.out rfl
    go_wp2_with fail
    refine (HRD.out _ (Fr.refl _ _)).mono ?_
    rintro e w4 ⟨hF4, ⟨-, la4, lc4, ca4, cc4, rfl, hM4, -, -⟩ | ⟨hx, -⟩⟩
    rotate_left
    · cases hx
    have HB4 := Lib.hid (hF4.heap (by simp) HB3.out)
    have HF4 := Lib.hid hF4
    have hlt4 : w.heap.size < w4.heap.size := lt_of_heap HB4.out
    obtain ⟨B4', hB4i, hsm4⟩ := same_any (cc := cc4) (cc' := cc) (w := w4.alloc (.cells #[.int .i64 m.args, .int .i64 m.temps, .int .i64 m.stack, .int .i64 m.prim, .slice la4 ll lc4, .slice ca4 n cc4] 61)) m m (hM4.fr0 ((Fr.refl _ _).alloc _)) (HM.out.at_.fr0 ((HF3.out.trans HF4.out).alloc _)) HL32.out.1 HL32.out.2
    obtain rfl : B4' = true := hB4i.2 rfl
    unfold Mth.v at hsm4 ⊢
    rw [← HLL.out, ← HNN.out] at hsm4 ⊢
    have HSM4 := Lib.hid hsm4
    clear hF4 hM4 hB4i hsm4 k0 k1 k2 k3 k4 k5
    have k0 := cell_of_heap (o := 0) HB4.out rfl; have k1 := cell_of_heap (o := 1) HB4.out rfl; have k2 := cell_of_heap (o := 2) HB4.out rfl; have k3 := cell_of_heap (o := 3) HB4.out rfl; have k4 := cell_of_heap (o := 4) HB4.out rfl; have k5 := cell_of_heap (o := 5) HB4.out rfl
    go_wp2_with fail
    refine HSM4.out.mono ?_
    rintro e w5 ⟨rfl, hF5⟩
    have HF35 : Hid (Fr [] w3 w5) := (HF4.out.alloc _).trans hF5
    clear hF5 k0 k1 k2 k3 k4 k5
    go_wp2_with fail
    refine (HSZ.out _ HF35.out).mono ?_
    rintro e w6 ⟨rfl, hF6⟩
    have HF36 : Hid (Fr [] w3 w6) := HF35.out.trans hF6
    clear hF6
    have hN0 : ((N : Int) == 0) = false := by simp; omega
    go_wp2_with fail
    rw [HPE.out]
    refine (HFT.out _ p old HF36.out HOLD.out).mono ?_
    rintro e w7 ⟨rfl, hF7⟩
    have HF37 : Hid (Fr [] w3 w7) := HF36.out.trans hF7
    clear hF7
    go_wp2_with fail
    rw [HYW.out]
    have hH7 : HeapAt w7 hb mb (absMem 4096 [(0, 0, m.fs)] root hs) wv3 sv3 := HH3.out.fr HF37.out (by simp) (fun _ _ => by simp)
    have hB7 : Base w1 w7 (foot mb wv3 sv3) := HBS3.out.still HF37.out
    refine (HSR.out w7 wv3 sv3 hB7 hH7).mono ?_
    intro e w8 hT8
    obtain ⟨rfl, wv8, sv8, hH8, hB8, hF8⟩ := turn_step hB7 hH7 hT8
    have HB8 := Lib.hid (hF8.heap (fun h => by have := hB7.new _ h; have := HLT1.out; omega) (HF37.out.heap (by simp) HB3.out))
    have HH8 := Lib.hid hH8
    have HBS8 := Lib.hid hB8
    have HF8 := Lib.hid (HF1.out.trans hB8.fr)
    have hrd8 := HHE.out w8 wv8 sv8 hB8 hH8
    clear hH7 hB7 hT8 hH8 hB8 hF8
    by_cases hoy : old = y
    · have hfm := HM2.out hoy
      rw [hfm, (dec_fs m HOK.out).1, (dec_fs m HOK.out).2] at hrd8
      clear hfm
      have HOY := Lib.hid hoy
      have eo : (old == y) = true := by simp [hoy]
      clear hoy
      go_wp2_with fail
      refine hrd8.mono ?_
      rintro e w9 ⟨hF9, ⟨-, la9, lc9, ca9, cc9, rfl, hM9, -, -⟩ | ⟨hx, -⟩⟩
      rotate_left
      · cases hx
      have HB9 := Lib.hid (hF9.heap (by simp) HB8.out)
      have HF9 := Lib.hid (HF8.out.trans hF9)
      have hlt9 : w.heap.size < w9.heap.size := lt_of_heap HB9.out
      obtain ⟨B9', hB9i, hsm9⟩ := same_any (cc := cc9) (cc' := cc) (w := w9.alloc (.cells #[.int .i64 m.args, .int .i64 m.temps, .int .i64 m.stack, .int .i64 m.prim, .slice la9 ll lc9, .slice ca9 n cc9] 61)) m m (hM9.fr0 ((Fr.refl _ _).alloc _)) (HM.out.at_.fr0 (HF9.out.alloc _)) HL32.out.1 HL32.out.2
      obtain rfl : B9' = true := hB9i.2 rfl
      unfold Mth.v at hsm9 ⊢
      rw [← HLL.out, ← HNN.out] at hsm9 ⊢
      have HSM9 := Lib.hid hsm9
      clear hF9 hM9 hB9i hsm9 hrd8
      have k0 := cell_of_heap (o := 0) HB9.out rfl; have k1 := cell_of_heap (o := 1) HB9.out rfl; have k2 := cell_of_heap (o := 2) HB9.out rfl; have k3 := cell_of_heap (o := 3) HB9.out rfl; have k4 := cell_of_heap (o := 4) HB9.out rfl; have k5 := cell_of_heap (o := 5) HB9.out rfl
      go_wp2_with fail
      refine HSM9.out.mono ?_
      rintro e w10 ⟨rfl, hF10⟩
      have HF10 := Lib.hid ((HF9.out.alloc _).trans hF10)
      clear hF10
      go_wp2_with fail
      go_ret
      exact ⟨rfl, HF10.out⟩
    · have eo : (old == y) = false := by simp [hoy]
      cases hdk : decOk fs2
      · rw [hdk] at hrd8
        clear hdk hoy
        go_wp2_with fail
        refine hrd8.mono ?_
        rintro e w9 ⟨hF9, ⟨hx, -⟩ | ⟨-, rfl⟩⟩
        · cases hx
        have HF9 := Lib.hid (HF8.out.trans hF9)
        clear hF9 hrd8
        go_wp2_with fail
        go_ret
        exact ⟨rfl, HF9.out.alloc _⟩
      · have HNEQ := Lib.hid (HNE.out hoy hdk)
        have HBO' := Lib.hid (decM_ok hdk)
        have HBF := Lib.hid (fs_dec fs2 HWB2.out hdk)
        rw [hdk] at hrd8
        obtain ⟨b, hbd⟩ : ∃ b, b = decM fs2 := ⟨_, rfl⟩
        rw [← hbd] at hrd8 HNEQ HBO' HBF
        have HBL : Hid (∀ x ∈ b.lits, WB x) := Lib.hid fun x hx => HWB2.out x (by rw [← HBF.out]; unfold Mth.fs; simp only [List.mem_append]; exact .inl (.inr hx))
        have hbh := b.head_iff.1 (b.ok_iff.1 HBO'.out).1
        have hend : endOf [((0 : Int), (0 : Int), fs2)] = 4 + N := by rw [show ([((0 : Int), (0 : Int), fs2)] : List Ob) = [] ++ [(0, 0, fs2)] from rfl, endOf_snoc]; simp only; rw [HF2L.out]; show 1 + 3 + N = _; omega
        have hwg : (writeF 4096 [(0, 0, fs2)] 0 b).2.1 = 0 := writeF_good HBO'.out (by unfold okB; simp) (by rw [hend, HBF.out, HF2L.out]; omega) (fun x hx => by rw [HBF.out] at hx; exact okB_snoc (HMK.out x hx))
        have hwo2 := (writeF_ok hwg).1
        rw [HBF.out, hend] at hwo2
        have HWR9 := Lib.hid (fun W wvx svx la9 lc9 ca9 cc9 (hB : Base w1 W (foot mb wvx svx)) (hH : HeapAt W hb mb (absMem 4096 [(0, 0, fs2)] root hs) wvx svx) (hMb : MAt W b la9 lc9 ca9) => write_at b la9 ca9 lc9 cc9 0 (by unfold WB; omega) HBL.out HG1.out HE1.out hB HI4.out hH hMb)
        rw [hwo2] at HWR9
        have HFX : Hid (∀ W wvx svx, HeapAt W hb mb (absMem 4096 ([(0, 0, fs2)] ++ [(0, 0, fs2)]) root hs) wvx svx → Calls Tryz.prog 44 #[.pointer (some ⟨hb, 0, none⟩), .int .u64 (2 * ((4 + N : Nat) : Int)), .int .i64 p] W (Still (.tuple #[.int .u64 y, .int .i64 0]) W)) := Lib.hid fun W wvx svx hH => by
          rw [← hend]
          exact fetch_yes (memory_at hH) (endOf [(0, 0, fs2)]) fs2.length p y (abs_mark (pre := [(0, 0, fs2)]) (post := [])) (endOf_pos _) (abs_size (pre := [(0, 0, fs2)]) (post := [])) (by rw [HF2L.out]; omega) (by rw [HF2L.out]; exact hp) ((abs_field (pre := [(0, 0, fs2)]) (post := []) (o := (0, 0, fs2)) p (by simp only; rw [HF2L.out]; exact hp)).trans HP2.out)
        obtain ⟨l2, hl2⟩ : ∃ n, n = b.lits.length := ⟨_, rfl⟩
        obtain ⟨n2, hn2⟩ : ∃ n, n = b.code.length := ⟨_, rfl⟩
        have HL2 := Lib.hid hl2
        have HN2 := Lib.hid hn2
        rw [← hl2, ← hn2] at hbh
        clear hdk hoy hbd hwg hwo2 hend hl2 hn2
        go_wp2_with fail
        refine hrd8.mono ?_
        rintro e w9 ⟨hF9, ⟨-, la9, lc9, ca9, cc9, rfl, hM9, hla9, hca9⟩ | ⟨hx, -⟩⟩
        rotate_left
        · cases hx
        have HB9 := Lib.hid (hF9.heap (by simp) HB8.out)
        have HF9 := Lib.hid (HF8.out.trans hF9)
        have hlt9 : w.heap.size < w9.heap.size := lt_of_heap HB9.out
        obtain ⟨W9, hW9⟩ : ∃ W9, W9 = w9.alloc (.cells #[.int .i64 b.args, .int .i64 b.temps, .int .i64 b.stack, .int .i64 b.prim, .slice la9 l2 lc9, .slice ca9 n2 cc9] 61) := ⟨_, rfl⟩
        have HF89 : Hid (Fr [] w8 W9) := by rw [hW9]; exact hF9.alloc _
        have HBB : Hid (W9.heap[w9.heap.size]? = some (.cells #[.int .i64 b.args, .int .i64 b.temps, .int .i64 b.stack, .int .i64 b.prim, .slice la9 l2 lc9, .slice ca9 n2 cc9] 61 (0, 0))) := by rw [hW9]; exact heap_new _ _
        have HBM9 : Hid (W9.heap[w.heap.size]? = _) := HF89.out.heap (by simp) HB8.out
        have HMB9 : Hid (MAt W9 b la9 lc9 ca9) := by rw [hW9]; exact hM9.fr0 ((Fr.refl _ _).alloc _)
        have HLA9 := Lib.hid hla9
        have H9S := Lib.hid hF9.size
        have HCA9 := Lib.hid hca9
        have hwr9 := HWR9.out W9 wv8 sv8 la9 lc9 ca9 cc9 (HBS8.out.still HF89.out) (HH8.out.fr HF89.out (by simp) (fun _ _ => by simp)) HMB9.out
        unfold Mth.v at hwr9 ⊢
        rw [← HL2.out, ← HN2.out] at hwr9 ⊢
        have HWR := Lib.hid hwr9
        have HW9 := Lib.hid hW9
        have k0 := cell_of_heap (o := 0) HBB.out rfl; have k1 := cell_of_heap (o := 1) HBB.out rfl; have k2 := cell_of_heap (o := 2) HBB.out rfl; have k3 := cell_of_heap (o := 3) HBB.out rfl; have k4 := cell_of_heap (o := 4) HBB.out rfl; have k5 := cell_of_heap (o := 5) HBB.out rfl
        clear hF9 hM9 hla9 hca9 hrd8 hW9 hwr9
        go_upto_region 15 with (fail)
        rw [← HW9.out]
        clear HW9
        go_wp2_with fail
        refine HWR.out.mono ?_
        intro e w10 hT10
        obtain ⟨rfl, wv10, sv10, hH10, hB10, hF10⟩ := turn_step (HBS8.out.still HF89.out) (HH8.out.fr HF89.out (by simp) (fun _ _ => by simp)) hT10
        have HLT8 : Hid (∀ q ∈ foot mb wv8 sv8, q < w8.heap.size) := Lib.hid fun q hq => HH8.out.mem.lt q hq
        have hs89 := HF89.out.size
        have h9s := H9S.out
        have HBB10 := Lib.hid (hF10.heap (fun h => by have := HLT8.out _ h; omega) HBB.out)
        have HBM10 := Lib.hid (hF10.heap (fun h => by have := HBS8.out.new _ h; have := HLT1.out; omega) HBM9.out)
        have HMB10 : Hid (MAt w10 b la9 lc9 ca9) := HMB9.out.fr hF10 (fun a ha h => by have := HLA9.out a ha; have := HLT8.out _ h; omega) (fun a ha h => by have := HCA9.out a ha; have := HLT8.out _ h; omega)
        have HF10 := Lib.hid (HF1.out.trans hB10.fr)
        have hfx := HFX.out w10 wv10 sv10 hH10
        clear hT10 hH10 hB10 hF10 k0 k1 k2 k3 k4 k5
        go_wp2_with fail
        refine hfx.mono ?_
        rintro e w11 ⟨rfl, hF11⟩
        have HF11 := Lib.hid (HF10.out.trans hF11)
        have HBB11 := Lib.hid (hF11.heap (by simp) HBB10.out)
        have HBM11 := Lib.hid (hF11.heap (by simp) HBM10.out)
        obtain ⟨B11, hB11, hsm11⟩ := same_any (cc := cc9) (cc' := cc) b m (HMB10.out.fr0 hF11) (HM.out.at_.fr0 HF11.out) (by rw [← HL2.out]; omega) (by rw [← HN2.out]; omega)
        obtain rfl : B11 = false := Bool.of_not_eq_true fun h => HNEQ.out (hB11.1 h)
        unfold Mth.v at hsm11
        rw [← HL2.out, ← HN2.out, ← HLL.out, ← HNN.out] at hsm11
        have HSM := Lib.hid hsm11
        have k0 := cell_of_heap (o := 0) HBB11.out rfl; have k1 := cell_of_heap (o := 1) HBB11.out rfl; have k2 := cell_of_heap (o := 2) HBB11.out rfl; have k3 := cell_of_heap (o := 3) HBB11.out rfl; have k4 := cell_of_heap (o := 4) HBB11.out rfl; have k5 := cell_of_heap (o := 5) HBB11.out rfl
        have j0 := cell_of_heap (o := 0) HBM11.out rfl; have j1 := cell_of_heap (o := 1) HBM11.out rfl; have j2 := cell_of_heap (o := 2) HBM11.out rfl; have j3 := cell_of_heap (o := 3) HBM11.out rfl; have j4 := cell_of_heap (o := 4) HBM11.out rfl; have j5 := cell_of_heap (o := 5) HBM11.out rfl
        clear hF11 hB11 hsm11 hfx
        go_wp2_with fail
        refine HSM.out.mono ?_
        rintro e w12 ⟨rfl, hF12⟩
        have HF12 := Lib.hid (HF11.out.trans hF12)
        clear hF12
        go_wp2_with fail
        go_ret
        exact ⟨rfl, HF12.out⟩
end Go.Proofs.YtgpcidmlogbjbaaGreatDoor
