/- CacheNone, walked. -/
import Derived.Test.YtollpgckdldonaaGreatDoorMCacB
import Derived.Test.YtollpgckdldonaaGreatDoorMCacNone
namespace Go.Proofs.YtollpgckdldonaaGreatDoor
open Go.RowKit

theorem objects_of8 {W : World} {hb mb : Nat} {lim root hashes : Int} {os : List Ob} {wv sv : Value} (hI : OInv lim os hashes) (hH : HeapAt W hb mb (absMem lim os root hashes) wv sv) :
    Calls Tryz.prog 6 #[.pointer (some ⟨hb, 0, none⟩)] W fun e W' => ∃ ao cap, e = .returned (.slice ao (refsO os).length cap) ∧ WordsAt W' ao (refsO os) ∧ Fr [] W W' ∧ ∀ a, ao = some a → W.heap.size ≤ a.block :=
  (objects_at hI (w := { W with heap := #[] }) ⟨wv, sv, hH, ⟨rfl, rfl, rfl, Nat.zero_le _, fun k hk => absurd hk (by simp)⟩, Nat.zero_le _, fun _ _ => Nat.zero_le _⟩).mono fun _ _ ⟨ao, cap, h1, h2, h3, h4, _⟩ => ⟨ao, cap, h1, h2, h3, h4⟩
theorem obs_le (os : List Ob) : os.length ≤ endOf os := by
  unfold endOf
  induction os with
  | nil => simp
  | cons a l ih =>
    rw [flatW_cons, List.length_append, wordsOb_len, List.length_cons]
    omega
/-- a word that was chosen is a word -/
theorem chosenI_WB {l : List Int} (hl : ∀ x ∈ l, WB x) {x i : Int} (hx : WB x) : WB (chosenI l x i) := by
  unfold chosenI
  split
  · next h =>
    rw [List.getD_eq_getElem?_getD]
    cases hk : l[i.toNat % l.length]? with
    | none => exact wb_zero
    | some v => exact hl v (List.mem_of_getElem? hk)
  · exact hx
theorem lookV_some (m : Int) : lookV (some m) = .tuple #[.int .u64 m, .int .i64 0] := rfl
theorem lookV_none : lookV none = .tuple #[.int .u64 0, .int .i64 5] := rfl
theorem lookV_two (o : Option Int) : ∃ x e, lookV o = .tuple #[.int .u64 x, .int .i64 e] := by
  cases o with
  | none => exact ⟨_, _, rfl⟩
  | some m => exact ⟨_, _, rfl⟩
set_option maxRecDepth 100000 in
set_option maxHeartbeats 4000000 in
theorem cacheNone_walk {w : World} (hg : Glob w) {ao : Option Addr} {cap : Nat} (its : List (It × Int)) (hG : G4 w ao its) (hB : B4 its) (rt hs0 : Int) (hrt : WB rt) (hh1 : -9223372036854775808 ≤ hs0) (hh2 : hs0 ≤ 9223372036854775807) (o0 o1 o2 o3 o4 : Int) (i1 : -9223372036854775808 ≤ o1 ∧ o1 ≤ 9223372036854775807) (i2 : -9223372036854775808 ≤ o2 ∧ o2 ≤ 9223372036854775807) (h4 : WB o4) :
    Calls Tryz.prog 3 #[.slice ao its.length cap, .int .u64 rt, .int .i64 hs0, .agg #[.int .i64 o0, .int .i64 o1, .int .i64 o2, .int .i64 o3, .int .u64 o4]] w (Still (.bool true) w) := by
  have hA := fun w' => awake8 w'
  have hLd := fun w' (hF : Fr [] w w') => loaded8 (cap := cap) (hg.fr hF) its (hG.fr0 hF) hB rt hs0 hrt hh1 hh2
  have HG := Lib.hid hg
  have HRT := Lib.hid hrt
  have H4 := Lib.hid h4
  clear hG hB hg hrt h4
  generalize its.length = N at *
  go_enter Tryz.func3, Tryz.ntmps3
  go_wp2_with fail
  refine (hA _).mono ?_
  rintro e w1 ⟨rfl, hF1⟩
  have HBX1 : Hid (w1.heap[w.heap.size]? = some (.cells #[.int .i64 o0, .int .i64 o1, .int .i64 o2, .int .i64 o3, .int .u64 o4] 26 (0, 0))) := hF1.heap (by simp) (heap_new w _)
  have HF1 : Hid (Fr [] w w1) := ((Fr.refl _ _).alloc _).trans hF1
  clear hF1 hA
  go_wp2_with fail
  refine (hLd _ HF1.out).mono ?_
  rintro e w2 ⟨hb, mb, rb, os, root, hs, l, rfl, hI, -, hT, hO⟩
  obtain ⟨wv, sv, hH⟩ := hT.hp (HG.out.fr HF1.out) hI (hO.root HRT.out)
  have HH := Lib.hid hH
  have HF12 : Hid (Fr [] w w2) := HF1.out.trans hT.fr
  have HBX2 : Hid (w2.heap[w.heap.size]? = some (.cells #[.int .i64 o0, .int .i64 o1, .int .i64 o2, .int .i64 o3, .int .u64 o4] 26 (0, 0))) := hT.fr.heap (by simp) HBX1.out
  have HI := Lib.hid hI
  clear hI hT hO hH hLd HBX1
  go_wp2_with fail
  refine (objects_of8 HI.out HH.out.heap).mono ?_
  rintro e w4 ⟨ko, kc, rfl, hW4, hF4, -⟩
  have HW4 := Lib.hid hW4
  have hbx := hF4.heap (by simp) HBX2.out
  have q1 := cell_of_heap (o := 1) hbx rfl
  have q2 := cell_of_heap (o := 2) hbx rfl
  have q4 := cell_of_heap (o := 4) hbx rfl
  have hrl : (refsO os).length ≤ 65536 := by
    have h1 := HH.out.le
    have h2 := obs_le os
    rw [refsO_len]
    omega
  have hc1 := chosen8 (cap := kc) (refsO os) hW4 hrl o4 o1 i1.1 i1.2
  have hc2 := chosen8 (cap := kc) (refsO os) hW4 hrl o4 o2 i2.1 i2.2
  have ha := chosenI_WB (i := o1) (refsO_WB HI.out) H4.out
  have hb' := chosenI_WB (i := o2) (refsO_WB HI.out) H4.out
  have H0 := Lib.hid (HH.out.fr0 hF4)
  have HF4 : Hid (Fr [] w w4) := HF12.out.trans hF4
  generalize chosenI (refsO os) o4 o1 = a at *
  generalize chosenI (refsO os) o4 o2 = b at *
  generalize (refsO os).length = kn at *
  obtain ⟨x, er, hv⟩ := lookV_two (lookR os root a b)
  have HFD : Hid (∀ w' v, NoCac w' v → Fr [] w4 w' → Calls Tryz.prog 11 #[v, .pointer (some ⟨hb, 0, none⟩), .int .u64 a, .int .u64 b] w' (Still (.tuple #[.int .u64 x, .int .i64 er]) w')) := Lib.hid fun w' v hn hF => by rw [← hv]; exact nocfind hn (H0.out.fr0 hF) a b ha hb'
  have HLK : Hid (∀ w', Fr [] w4 w' → Calls Tryz.prog 12 #[.pointer (some ⟨hb, 0, none⟩), .int .u64 a, .int .u64 b] w' (Still (.tuple #[.int .u64 x, .int .i64 er]) w')) := Lib.hid fun w' hF => by rw [← hv]; exact klookup (H0.out.fr0 hF) a b ha hb'
  clear hbx hrl hW4 hF4 hv ha hb' HF12 HH HI HBX2
  go_wp2_with fail
  refine hc1.mono ?_
  rintro e w5 ⟨rfl, rfl⟩
  go_wp2_with fail
  refine hc2.mono ?_
  rintro e w6 ⟨rfl, rfl⟩
  clear hc1 hc2 q1 q2 q4
  go_wp2_with fail
  have HARR : Hid (((w4.alloc (.cells #[.pointer none] 38)).alloc (.cells #[.pointer none, .pointer (some ⟨w4.heap.size, 0, none⟩)] 35)).heap[w4.heap.size + 1]? = some (.cells #[.pointer none, .pointer (some ⟨w4.heap.size, 0, none⟩)] 35 (0, 0))) := by
    have e : w4.heap.size + 1 = (w4.alloc (.cells #[.pointer none] 38)).heap.size := by simp
    show _ = _
    rw [e]
    exact heap_new _ _
  have HBOX : Hid (((w4.alloc (.cells #[.pointer none] 38)).alloc (.cells #[.pointer none, .pointer (some ⟨w4.heap.size, 0, none⟩)] 35)).heap[w4.heap.size]? = some (.cells #[.pointer none] 38 (0, 0))) := ((Fr.refl [] _).alloc _).heap (by simp) (heap_new w4 _)
  have HF5 : Hid (Fr [] w4 ((w4.alloc (.cells #[.pointer none] 38)).alloc (.cells #[.pointer none, .pointer (some ⟨w4.heap.size, 0, none⟩)] 35))) := ((Fr.refl _ _).alloc _).alloc _
  generalize (w4.alloc (.cells #[.pointer none] 38)).alloc (.cells #[.pointer none, .pointer (some ⟨w4.heap.size, 0, none⟩)] 35) = W5 at *
  go_loopw [17] (fun i wr => ∃ k : Nat, k ≤ 2 ∧ i = .int .i64 k ∧ Hid (Fr [] W5 wr)) (fun i _ => 2 - (intOf i).toNat)
  case atStart => exact ⟨0, Nat.zero_le _, rfl, Fr.refl _ _⟩
  case round =>
    obtain ⟨k, hk, rfl, hF⟩ := hrel
    by_cases hlt : k < 2
    · obtain ⟨v, hv, HN⟩ : ∃ v, wr.cell? ⟨w4.heap.size + 1, k, none⟩ = some v ∧ Hid (NoCac wr v) := by
        have hh := hF.out.heap (by simp) HARR.out
        rcases Nat.lt_or_ge k 1 with h | h
        · obtain rfl : k = 0 := by omega
          exact ⟨.pointer none, cell_of_heap (o := 0) hh rfl, .inl rfl⟩
        · obtain rfl : k = 1 := by omega
          exact ⟨.pointer (some ⟨w4.heap.size, 0, none⟩), cell_of_heap (o := 1) hh rfl, .inr ⟨_, rfl, hF.out.heap (by simp) HBOX.out⟩⟩
      have k0 : (0 : Int) ≤ (k : Int) := by omega
      have k1 : (k : Int) < 2 := by omega
      have HF := Lib.hid (HF5.out.trans hF.out)
      go_wp2_with fail
      refine (nocput HN.out a b 8).mono ?_
      rintro e u1 ⟨rfl, g1⟩
      have G1 := Lib.hid g1
      clear g1
      go_wp2_with fail
      refine (nocdrop (HN.out.fr0 G1.out) a).mono ?_
      rintro e u2 ⟨rfl, g2⟩
      have G2 := Lib.hid (G1.out.trans g2)
      clear g2
      go_wp2_with fail
      refine (nocclear (HN.out.fr0 G2.out)).mono ?_
      rintro e u3 ⟨rfl, g3⟩
      have G3 := Lib.hid (G2.out.trans g3)
      clear g3
      go_wp2_with fail
      refine (HFD.out u3 _ (HN.out.fr0 G3.out) (HF.out.trans G3.out)).mono ?_
      rintro e u4 ⟨rfl, g4⟩
      have G4 := Lib.hid (G3.out.trans g4)
      clear g4
      go_wp2_with fail
      refine (HLK.out u4 (HF.out.trans G4.out)).mono ?_
      rintro e u5 ⟨rfl, g5⟩
      have G5 := Lib.hid (G4.out.trans g5)
      clear g5
      go_wp2_with fail
      refine (nocget (HN.out.fr0 G5.out) a b).mono ?_
      rintro e u6 ⟨rfl, g6⟩
      have G6 := Lib.hid (G5.out.trans g6)
      clear g6
      go_wp2_with fail
      refine (noccounts (HN.out.fr0 G6.out)).mono ?_
      rintro e u7 ⟨rfl, g7⟩
      have G7 := Lib.hid (G6.out.trans g7)
      clear g7
      go_wp2_with fail
      refine (nocdrops (HN.out.fr0 G7.out)).mono ?_
      rintro e u8 ⟨rfl, g8⟩
      have G8 := Lib.hid (G7.out.trans g8)
      clear g8
      go_wp2_with fail
      go_roundw
      case rel => exact ⟨k + 1, by omega, by go_num, hF.out.trans G8.out⟩
      case measure => simp [intOf]; omega
    · obtain rfl : k = 2 := by omega
      go_wp2_with fail
      go_ret
      exact ⟨rfl, (HF4.out.trans HF5.out).trans hF.out⟩
end Go.Proofs.YtollpgckdldonaaGreatDoor
