/- The document's reader of an image: next. -/
import Derived.Test.YtfhhjdfdfbelgaaGreatDoorMImgB
namespace Go.Proofs.YtfhhjdfdfbelgaaGreatDoor
open Go.RowKit

/-- the document's reader at block rb: what it has left, whether it came short -/
structure RRAt (w : World) (rb : Nat) (bs : List Int) (sh : Bool) : Prop where
  ex : ∃ ao cap, w.heap[rb]? = some (.cells #[.slice ao bs.length cap, .bool sh] 62 (0, 0)) ∧ BytesAt w ao bs ∧ bs.length ≤ cap ∧ ∀ a, ao = some a → a.block < rb
  byte : ∀ x ∈ bs, B x
theorem RRAt.fr {S : List Nat} {w w' : World} {rb : Nat} {bs : List Int} {sh : Bool} (h : RRAt w rb bs sh) (hF : Fr S w w') (hS : ∀ k ∈ S, rb < k) : RRAt w' rb bs sh := by
  obtain ⟨ao, cap, h1, h2, h3, h4⟩ := h.ex
  exact ⟨⟨ao, cap, hF.heap (fun e => Nat.lt_irrefl _ (hS _ e)) h1, h2.fr hF (fun a ha e => by have := hS _ e; have := h4 a ha; omega), h3, h4⟩, h.byte⟩
theorem RRAt.still {w w' : World} {rb : Nat} {bs : List Int} {sh : Bool} (h : RRAt w rb bs sh) (hF : Fr [] w w') : RRAt w' rb bs sh := h.fr hF (fun _ h => by cases h)
theorem RRAt.lt {w : World} {rb : Nat} {bs : List Int} {sh : Bool} (h : RRAt w rb bs sh) : rb < w.heap.size := by
  obtain ⟨ao, cap, h1, -⟩ := h.ex
  exact lt_of_heap h1
theorem RRAt.shorten {w : World} {rb : Nat} {bs : List Int} {sh : Bool} (h : RRAt w rb bs sh) : RRAt (w.setCell ⟨rb, 1, none⟩ (.bool true)) rb bs true := by
  obtain ⟨ao, cap, h1, h2, h3, h4⟩ := h.ex
  have hF2 : Fr [rb] w (w.setCell ⟨rb, 1, none⟩ (.bool true)) := (Fr.refl _ _).setCell (fun _ => by simp) _
  refine ⟨⟨ao, cap, ?_, h2.fr hF2 (fun a ha => by have := h4 a ha; simp; omega), h3, h4⟩, h.byte⟩
  have := heap_setCell_same h1 (o := 1) (.bool true)
  simpa using this
/-- what next answers -/
def NextTo (rb : Nat) (bs : List Int) (sh : Bool) (w : World) (e : Ending) (w' : World) : Prop := match rdN bs with
  | some (x, r) => e = .returned (.int .u64 x) ∧ RRAt w' rb r sh ∧ Fr [rb] w w'
  | none => e = .returned (.int .u64 0) ∧ RRAt w' rb bs true ∧ Fr [rb] w w'
/-- the last of 8 bytes, from behind -/
def tailN (bs : List Int) : Nat → Int
  | 0 => 0
  | k + 1 => tailN bs k * 256 + bs.getD (7 - k) 0
theorem tailN_all (bs : List Int) : tailN bs 8 = numB bs := by
  simp only [tailN, numB, n8]
  simp
  omega
theorem tailN_bd {bs : List Int} (h : ∀ x ∈ bs, B x) : ∀ k, 0 ≤ tailN bs k ∧ tailN bs k < 256 ^ k
  | 0 => ⟨Int.le_refl _, (by show (0 : Int) < 1; decide)⟩
  | k + 1 => by
    obtain ⟨h1, h2⟩ := tailN_bd h k
    obtain ⟨b1, b2⟩ := getD_B h (7 - k)
    rw [tailN, Int.pow_succ]
    omega
set_option maxRecDepth 100000 in
set_option maxHeartbeats 2000000 in
theorem next_no {w : World} {rb : Nat} {bs : List Int} {sh : Bool} (h : RRAt w rb bs sh) (hl : bs.length < 8) : Calls Tryz.prog 27 #[.pointer (some ⟨rb, 0, none⟩)] w (fun e w' => e = .returned (.int .u64 0) ∧ RRAt w' rb bs true ∧ Fr [rb] w w') := by
  obtain ⟨ao, cap, h1, h2, h3, h4⟩ := h.ex
  have c0 := cell_of_heap (o := 0) h1 rfl
  have c1 := cell_of_heap (o := 1) h1 rfl
  have z1 := frozen_of_heap (o := 1) h1
  have hl' : (bs.length : Int) < 8 := by omega
  have HS := Lib.hid h.shorten
  generalize bs.length = n at *
  clear h h1 h2 h3 h4 hl
  go_enter Tryz.func27, Tryz.ntmps27
  go_wp2_with fail
  go_ret
  exact ⟨rfl, HS.out, (Fr.refl _ _).setCell (fun _ => by simp) _⟩
theorem RRAt.next {w w' : World} {rb g o n : Nat} {bs : List Int} {sh : Bool} (h : RRAt w rb bs sh) (hn : n = bs.length) (hF : Fr [] w w') (hB : BytesAt w (some ⟨g, o, none⟩) bs) (hG : ∀ a, some (⟨g, o, none⟩ : Addr) = some a → a.block < rb) (hl : 8 ≤ n) (o2 c2 : Nat) (ho : n = 8 ∨ o2 = o + 8) (hc : n - 8 ≤ c2) : RRAt (w'.setCell ⟨rb, 0, none⟩ (.slice (some ⟨g, o2, none⟩) (n - 8) c2)) rb (bs.drop 8) sh := by
  obtain ⟨ao, cap, h1, h2, h3, h4⟩ := h.ex
  have hgl : g < rb := hG _ rfl
  have hgr : g ≠ rb := by omega
  have hF2 : Fr [rb] w' (w'.setCell ⟨rb, 0, none⟩ (.slice (some ⟨g, o2, none⟩) (n - 8) c2)) := (Fr.refl _ _).setCell (fun _ => by simp) _
  have hd : (bs.drop 8).length = n - 8 := by simp [hn]
  refine ⟨⟨some ⟨g, o2, none⟩, c2, ?_, ?_, by omega, fun a ha => by cases ha; exact hgl⟩, fun x hx => h.byte x (List.mem_of_mem_drop hx)⟩
  · have := heap_setCell_same (hF.heap (by simp) h1) (o := 0) (.slice (some ⟨g, o2, none⟩) (n - 8) c2)
    rw [hd]
    simpa using this
  · rcases ho with e | rfl
    · intro i x hx
      have := (List.getElem?_eq_some_iff.1 hx).1
      omega
    · exact (hB.fr hF (fun _ _ => by simp)).drop 8 |>.fr hF2 (fun a ha => by cases ha; simpa using hgr)
set_option maxRecDepth 100000 in
set_option maxHeartbeats 2000000 in
theorem next_yes {w : World} {rb : Nat} {bs : List Int} {sh : Bool} (h : RRAt w rb bs sh) (hl : 8 ≤ bs.length) : Calls Tryz.prog 27 #[.pointer (some ⟨rb, 0, none⟩)] w (fun e w' => e = .returned (.int .u64 (numB bs)) ∧ RRAt w' rb (bs.drop 8) sh ∧ Fr [rb] w w') := by
  obtain ⟨ao, cap, h1, h2, h3, h4⟩ := h.ex
  obtain ⟨g, o, rfl⟩ : ∃ g o, ao = some ⟨g, o, none⟩ := by
    obtain ⟨g, o, e, -⟩ := h2 0 _ (List.getElem?_eq_getElem (by omega))
    exact ⟨g, o, e⟩
  have c0 := cell_of_heap (o := 0) h1 rfl
  have z0 := frozen_of_heap (o := 0) h1
  have hb := lt_of_heap h1
  have hl' : ¬ (bs.length : Int) < 8 := by omega
  have HB := Lib.hid h2
  have H := Lib.hid h
  obtain ⟨n, hn⟩ : ∃ n, n = bs.length := ⟨_, rfl⟩
  rw [← hn] at c0 h3 hl hl'
  have HN := Lib.hid hn
  have HG := Lib.hid h4
  clear h h1 h2 h4 hn
  go_enter Tryz.func27, Tryz.ntmps27
  go_wp2_with fail
  go_loopw [3, 4] (fun v i wr => ∃ k : Nat, k ≤ 8 ∧ i = .int .i64 (7 - (k : Int)) ∧ v = .int .u64 (tailN bs k) ∧ Hid (Fr [] w wr)) (fun _ i _ => (intOf i + 1).toNat)
  case atStart => exact ⟨0, Nat.zero_le _, rfl, rfl, Fr.refl _ _⟩
  case round =>
    obtain ⟨k, hk, rfl, rfl, hF⟩ := hrel
    have c1 : wr.cell? ⟨rb, 0, none⟩ = some (.slice (some ⟨g, o, none⟩) n cap) := hF.out.cell (by simp) c0
    obtain ⟨t1, t2⟩ := tailN_bd H.out.byte k
    by_cases hlt : k < 8
    · obtain ⟨x, hx⟩ : ∃ x, bs[7 - k]? = some x := ⟨_, List.getElem?_eq_getElem (by rw [← HN.out]; omega)⟩
      obtain ⟨g', o', e, hc⟩ := HB.out (7 - k) x hx
      cases e
      have hc' := hF.out.cell (by simp) hc
      obtain ⟨x1, x2⟩ := H.out.byte x (List.mem_of_getElem? hx)
      have hgd : bs.getD (7 - k) 0 = x := by rw [List.getD_eq_getElem?_getD, hx]; rfl
      have HS : Hid (tailN bs (k + 1) = tailN bs k * 256 + x) := by show _ = _; rw [tailN, hgd]
      have t3 : tailN bs k ≤ 72057594037927935 := by
        have : (256 : Int) ^ k ≤ 256 ^ 7 := by
          have : (256 : Nat) ^ k ≤ 256 ^ 7 := Nat.pow_le_pow_right (by decide) (by omega)
          exact_mod_cast this
        have : (256 : Int) ^ 7 = 72057594037927936 := by decide
        omega
      have hk1 : (k : Int) < 8 := by omega
      have hk2 : 7 - (k : Int) = ((7 - k : Nat) : Int) := by omega
      rw [hk2]
      obtain ⟨y, hy⟩ : ∃ y, y = tailN bs k := ⟨_, rfl⟩
      obtain ⟨m, hm⟩ : ∃ m, m = 7 - k := ⟨_, rfl⟩
      rw [← hy] at HS t1 t2 t3 ⊢
      rw [← hm] at hc' ⊢
      have HM := Lib.hid hm
      have hm7 : m ≤ 7 := by omega
      have hm8 : (m : Int) ≤ 7 := by omega
      have hm9 : m < n := by omega
      clear hc hx hgd t2 hy hk2 hm
      go_wp2_with fail
      go_roundw
      case rel => exact ⟨k + 1, by omega, by have := HM.out; congr 1; omega, by rw [HS.out], hF⟩
      case measure => (simp [intOf]; try omega)
    · obtain rfl : k = 8 := by omega
      have z1 := hF.out.frozen hb (by simp) z0
      rw [tailN_all]
      have hb1 : rb < wr.heap.size := Nat.lt_of_lt_of_le hb hF.out.size
      have HE := Lib.hid (fun (o2 c2 : Nat) => H.out.next (w' := wr) (g := g) (o := o) (n := n) HN.out (hF.out) HB.out HG.out hl o2 c2)
      clear c0 z0 t1 t2
      by_cases hc8 : cap = 8
      · subst hc8
        obtain rfl : n = 8 := by omega
        go_wp2_with fail
        go_ret
        exact ⟨rfl, by simpa using HE.out o 0 (.inl trivial) (by simp), hF.out.weak.trans ((Fr.refl [rb] wr).setCell (fun _ => by simp) _)⟩
      · go_wp2_with fail
        go_ret
        exact ⟨rfl, HE.out (o + 8) (cap - 8) (.inr rfl) (by omega), hF.out.weak.trans ((Fr.refl [rb] wr).setCell (fun _ => by simp) _)⟩
end Go.Proofs.YtfhhjdfdfbelgaaGreatDoor
