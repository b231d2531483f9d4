/- loaded: a heap, and the document's, with the same objects (prim). -/
import Derived.Test.YtmifnlalocoeiaaGreatDoorMRLoads
import Derived.Test.YtmifnlalocoeiaaGreatDoorMMask
namespace Go.Proofs.YtmifnlalocoeiaaGreatDoor
open Go.RowKit

theorem inv_fresh9 (lim : Int) (h1 : 64 ≤ lim) (h2 : lim ≤ 65536) : OInv lim [] 0 :=
  { l1 := h1, l2 := h2, fit := (by simp [endOf, flatW]; omega), h0 := (by omega), h1 := (by omega), each := (fun o h => by cases h), bd := (fun o h => by cases h), uq := ⟨by omega, by omega, fun i x h => by simp at h⟩ }
/-- two heaps that hold the same -/
def Both9 (lim : Int) (os0 : List Ob) (rt hs0 : Int) (w : World) (e : Ending) (W : World) : Prop := ∃ hb mb rb os root hs l, e = .returned (.tuple #[.pointer (some ⟨hb, 0, none⟩), .pointer (some ⟨rb, 0, none⟩)]) ∧ OInv lim os hs ∧ RAgree 1 l os ∧ Two w [] hb mb rb (absMem lim os root hs) ⟨lim, l, root, hs⟩ W ∧ OLoad lim [] 0 0 os0 rt hs0 os root hs
set_option maxRecDepth 100000 in
set_option maxHeartbeats 3200000 in
theorem loaded9 (words n : Int) (hn9 : 64 + bits .and .i64 words 8191 = n) {w : World} (hg : Glob w) {ao : Option Addr} {cap : Nat} (its : List (It × Int)) (hG : G4 w ao its) (hB : B4 its) (rt hs0 : Int) (hrt : WB rt) (hh1 : -9223372036854775808 ≤ hs0) (hh2 : hs0 ≤ 9223372036854775807) : Calls Tryz.prog 5 #[.int .i64 words, .slice ao its.length cap, .int .u64 rt, .int .i64 hs0] w (Both9 n (obsOf (its.map Prod.fst)) rt hs0 w) := by
  obtain ⟨m, hm⟩ : ∃ m, bits .and .i64 words 8191 = m := ⟨_, rfl⟩
  have hm1 : 0 ≤ m ∧ m ≤ 8191 := by rw [← hm]; exact and_mask words 8191 (by omega)
  rw [hm] at hn9
  obtain ⟨m1, m2⟩ := hm1
  have h1 : 64 ≤ n := by omega
  have h2 : n ≤ 65536 := by omega
  have HRT := Lib.hid hrt
  obtain ⟨i0, hi, hz0, hz1, hz2⟩ := info_parts infoHO
  have HGL := Lib.hid hg
  have HG := Lib.hid hG
  have HB := Lib.hid hB
  obtain ⟨os', root', hs', hOL, hML⟩ := OLoad.ex n [] 0 0 (obsOf (its.map Prod.fst)) rt hs0
  have HML := Lib.hid hML
  have HOL := Lib.hid hOL
  have HNI := Lib.hid (hOL.inv (inv_fresh9 n h1 h2) (fun o ho => by obtain ⟨a, ha, rfl⟩ := List.mem_map.1 ho; obtain ⟨b, hb, rfl⟩ := List.mem_map.1 ha; exact hB.words b hb))
  have hlen := hB.len
  obtain ⟨N, hN⟩ : ∃ N, N = its.length := ⟨_, rfl⟩
  rw [← hN] at hlen ⊢
  have HN := Lib.hid hN
  clear hg hG hB hOL hML hN
  go_enter Tryz.func5, Tryz.ntmps5
  go_wp2_with fail
  refine (live_new n _ h1 h2).mono ?_
  rintro e w1 ⟨hb, mb, rfl, hL⟩
  have HL := Lib.hid hL
  clear hL
  go_wp2_with fail
  refine (rnew n _ h1 h2).mono ?_
  rintro e w2 ⟨rfl, hR, hF2⟩
  have HT2 : Hid (Two w [] hb mb w1.heap.size (absMem n [] 0 0) ⟨n, [], 0, 0⟩ w2) := two_new HL.out hF2 hR (fun k hk => by simp [rfoot, Value.ownBlock] at hk; omega)
  have HF2 : Hid (Fr [] w w2) := HL.out.fr.trans hF2
  obtain ⟨rb, hrb⟩ : ∃ rb, rb = w1.heap.size := ⟨_, rfl⟩
  rw [← hrb] at HT2
  rw [← hrb]
  clear hR hF2 hrb HL
  go_wp2_with fail
  go_loopw [14, 15] (fun v i wr => ∃ k : Nat, k ≤ N ∧ i = .int .i64 k ∧ Hid (Grows w2 43 3 k (flat3 ((its.take k).map Prod.fst)) v wr)) (fun _ i _ => N - (intOf i).toNat)
  case atStart => exact ⟨0, Nat.zero_le _, rfl, World.ownsRow_nil _ _ _ _, Fr.refl _ _, fun _ h => by cases h⟩
  case round =>
    obtain ⟨k, hk, rfl, hG⟩ := hrel
    obtain ⟨vo, vc, rfl⟩ := row_shape' hG.out.row
    by_cases hlt : k < N
    · have hkl : k < its.length := by rw [← HN.out]; exact hlt
      obtain ⟨o, ho⟩ : ∃ o, o = its[k] := ⟨_, rfl⟩
      have hik : its[k]? = some o := by rw [List.getElem?_eq_getElem hkl, ho]
      obtain ⟨f1, f2, f3, -⟩ := flat4_at hik
      obtain ⟨g, off, rfl, c1⟩ := HG.out.row _ _ f1
      obtain ⟨g2, off2, e2, c2⟩ := HG.out.row _ _ f2
      cases e2
      obtain ⟨g3, off3, e3, c3⟩ := HG.out.row _ _ f3
      cases e3
      have hgw : g < w.heap.size := World.block_lt_of_cell? w _ c1
      obtain ⟨fa, fc, hov, -⟩ := HG.out.ok o (List.mem_of_getElem? hik)
      obtain ⟨z, hz⟩ : ∃ z, z = o.1.fs.length := ⟨_, rfl⟩
      rw [← hz] at hov
      rw [hov] at c3
      have HFW := Lib.hid (HF2.out.trans hG.out.fr)
      have d1 := HFW.out.cell (by simp) c1
      have d2 := HFW.out.cell (by simp) c2
      have d3 := HFW.out.cell (by simp) c3
      rw [← Nat.add_assoc] at d2 d3
      have hs2 := HF2.out.size
      have hov1 : (Value.slice vo k vc).ownBlock ≠ some g := fun e => by have := hG.out.new g e; omega
      have HT : Hid (its.take (k + 1) = its.take k ++ [o]) := by rw [List.take_add_one, hik]; rfl
      have HO := Lib.hid hov
      have hgr : g < wr.heap.size := Nat.lt_of_lt_of_le hgw HFW.out.size
      have hk0 : (0 : Int) ≤ (k : Int) := Int.natCast_nonneg _
      have hk1 : (k : Int) < (N : Int) := by omega
      have HROW : Hid (wr.ownsRow 0 43 3 (.slice vo k vc) k (flat3 ((its.take k).map Prod.fst))) := hG.out.row
      have hmx : k + 1 ≤ maxLen := by unfold maxLen; omega
      clear ho hik f1 f2 f3 c1 c2 c3 hkl hov hz
      go_wp2_with fail
      go_region_held3 (fun w' => w'.cell? ⟨g, off + k * 4, none⟩ = some (.int .u64 o.1.cls) ∧ w'.cell? ⟨g, off + k * 4 + 1, none⟩ = some (.int .i64 o.1.hash) ∧ w'.cell? ⟨g, off + k * 4 + 2, none⟩ = some (.slice fa z fc))
        (first
          | go_keep
          | (go_split_ands
             refine ⟨?_, ?_, ?_⟩
             · (rw [hgrow.cell_far _ (by simp; omega) (Ne.symm hov1)]; assumption)
             · (rw [hgrow.cell_far _ (by simp; omega) (Ne.symm hov1)]; assumption)
             · (rw [hgrow.cell_far _ (by simp; omega) (Ne.symm hov1)]; assumption)))
        ((refine step_append_lies _ (by rfl) _ _ _ (by rfl) 0 43 i0 _ 3 40 Tryz.underlying39 hi hz0 hz1 hz2 rfl (by omega) (.slice vo k vc) k (flat3 ((its.take k).map Prod.fst)) (by rfl) ((HROW.out.alloc _).drew) ⟨wr.heap.size, 0, none⟩ 1 1 [.int .u64 o.1.cls, .int .i64 o.1.hash, .slice fa z fc] (by rfl) (by rfl) (World.news_of_block (cs := #[.int .u64 o.1.cls, .int .i64 o.1.hash, .slice fa z fc]) (t := 43) (fr := (0, 0)) (heap_alloc_new wr _)) (by simp [Value.oneCell']) (by omega) hmx (by omega) (by simp) (wr.heap.size + 1) (by simp) ?_; intro gg cp w1 hown1 hgrow hat hlt1))
      have HGn : Hid (Grows w2 43 3 (k + 1) (flat3 ((its.take (k + 1)).map Prod.fst)) (.slice (some ⟨gg, 0, none⟩) (k + 1) cp) w1) := by
        rw [HT.out, List.map_append, List.map_singleton, flat3_snoc]
        rw [HO.out]
        exact hG.out.step (W1 := (wr.alloc _).drew) (((Fr.refl _ _).alloc _).drew) hown1 hgrow (hat.imp (fun h => h.symm) (fun h => by rw [h]; simp [Value.ownBlock]))
      clear hown1 hgrow hat hlt1 HROW hG
      go_wp2_with fail
      go_roundw
      case rel => exact ⟨k + 1, by omega, by go_num, HGn⟩
      case measure => simp [intOf]; omega
    · have hke : k = N := by omega
      subst hke
      have hkd : decide (k < k) = false := by simp
      have HR : Hid (wr.ownsRow 0 43 3 (.slice vo k vc) k (flat3 (its.map Prod.fst))) := by
        have := hG.out.row
        rw [HN.out, List.take_length, ← HN.out] at this
        exact this
      have HF := Lib.hid hG.out.fr
      have HT3 := Lib.hid (HT2.out.still HF.out)
      have HH3 : Hid (Handed wr vo (its.map Prod.fst)) := by
        have hg := HG.out.fr0 (HF2.out.trans HF.out)
        have hB := HB.out
        exact ⟨row_rowAt HR.out, fun o ho => by obtain ⟨b, hb, rfl⟩ := List.mem_map.1 ho; exact hg.inn b hb, by simpa using hB.len, fun o ho => by obtain ⟨b, hb, rfl⟩ := List.mem_map.1 ho; exact hB.sizes b hb, fun o ho => by obtain ⟨b, hb, rfl⟩ := List.mem_map.1 ho; exact hB.hash b hb, fun o ho => by obtain ⟨b, hb, rfl⟩ := List.mem_map.1 ho; exact hB.words b hb⟩
      have hhl := hload2 (cap := vc) (lo := ao) HGL.out (inv_fresh9 n h1 h2) HT3.out (its.map Prod.fst) HH3.out its (fun wv sv W' hHA h2' hF' => HG.out.fr (HF2.out.trans HF.out |>.join hF' h2') (fun _ a _ => by simp) (fun _ _ fa _ _ _ _ => by simp)) rt hs0 HRT.out hh1 hh2 HML.out
      rw [List.length_map, ← HN.out] at hhl
      have HHL := Lib.hid hhl
      clear hG hhl
      go_wp2_with fail
      refine HHL.out.mono ?_
      rintro e w4 ⟨rfl, hT4, hG4⟩
      have hrl := rload2 (cap := cap) (l := []) (inv_fresh9 n h1 h2) (show RAgree 1 [] [] from trivial) its HB.out rt hs0 HRT.out hh1 hh2 HOL.out hT4 hG4
      rw [← HN.out] at hrl
      have HRL := Lib.hid hrl
      clear hT4 hG4 hrl
      go_wp2_with fail
      refine HRL.out.mono ?_
      rintro e w5 ⟨rfl, l', ha', hT5⟩
      have HT5 := Lib.hid hT5
      have HA5 := Lib.hid ha'
      clear hT5 ha'
      go_wp2_with fail
      go_ret2
      exact ⟨hb, mb, rb, os', root', hs', l', rfl, HNI.out, HA5.out, HT5.out, HOL.out⟩
end Go.Proofs.YtmifnlalocoeiaaGreatDoor
