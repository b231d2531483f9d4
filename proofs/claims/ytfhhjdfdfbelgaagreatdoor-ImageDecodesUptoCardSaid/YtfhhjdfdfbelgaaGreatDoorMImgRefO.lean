/- The document's reader of an image: objects. -/
import Derived.Test.YtfhhjdfdfbelgaaGreatDoorMImgRefR
namespace Go.Proofs.YtfhhjdfdfbelgaaGreatDoor
open Go.RowKit

/-- what next answers -/
def NextP (bs : List Int) (sh : Bool) (x : Int) (r : List Int) (sh' : Bool) : Prop := (rdN bs = some (x, r) ∧ sh' = sh) ∨ (rdN bs = none ∧ x = 0 ∧ r = bs ∧ sh' = true)
theorem rnext6_at {w : World} {rb : Nat} {bs : List Int} {sh : Bool} (h : RRAt w rb bs sh) : Calls Tryz.prog 27 #[.pointer (some ⟨rb, 0, none⟩)] w fun e w' => ∃ x r sh', e = .returned (.int .u64 x) ∧ WB x ∧ RRAt w' rb r sh' ∧ Fr [rb] w w' ∧ NextP bs sh x r sh' := by
  by_cases hl : bs.length < 8
  · refine (next_no h hl).mono ?_
    rintro e w' ⟨rfl, hR, hF⟩
    exact ⟨0, bs, true, rfl, ⟨by decide, by decide⟩, hR, hF, .inr ⟨by unfold rdN; rw [if_pos hl], rfl, rfl, rfl⟩⟩
  · refine (next_yes h (by omega)).mono ?_
    rintro e w' ⟨rfl, hR, hF⟩
    have e : rdN bs = some (numB bs, bs.drop 8) := by unfold rdN; rw [if_neg hl]
    exact ⟨numB bs, bs.drop 8, sh, rfl, (rdN_inv h.byte e).2, hR, hF, .inl ⟨e, rfl⟩⟩
theorem heads3 {b0 b1 b2 b3 : List Int} {x1 x2 x3 : Int} {s1 s2 s3 : Bool} (h1 : NextP b0 false x1 b1 s1) (h2 : NextP b1 s1 x2 b2 s2) (h3 : NextP b2 s2 x3 b3 s3) : (rdNs 3 b0 = some ([x1, x2, x3], b3) ∧ s3 = false) ∨ (rdNs 3 b0 = none ∧ x3 = 0 ∧ s3 = true) := by
  rcases h1 with ⟨e1, rfl⟩ | ⟨e1, -, rfl, rfl⟩
  · rcases h2 with ⟨e2, rfl⟩ | ⟨e2, -, rfl, rfl⟩
    · rcases h3 with ⟨e3, rfl⟩ | ⟨e3, rfl, rfl, rfl⟩
      · left; simp [rdNs, e1, e2, e3]
      · right; simp [rdNs, e1, e2, e3]
    · rcases h3 with ⟨e3, -⟩ | ⟨e3, rfl, rfl, rfl⟩
      · rw [e2] at e3; cases e3
      · right; simp [rdNs, e1, e2]
  · rcases h2 with ⟨e2, -⟩ | ⟨e2, -, rfl, rfl⟩
    · rw [e1] at e2; cases e2
    · rcases h3 with ⟨e3, -⟩ | ⟨e3, rfl, rfl, rfl⟩
      · rw [e1] at e3; cases e3
      · right; simp [rdNs, e1]
/-- a list of the document's objects under way -/
structure RObsL (w : World) (rb : Nat) (bs : List Int) (s0 : Bool) (Z : Prop) (k : Nat) (v : Value) (its : List It) (r : List Int) (sh : Bool) (W : World) : Prop where
  row : W.ownsRow 0 72 4 v its.length (flat4 (noPlace its))
  own : ∀ o ∈ its, ItOwn W o
  fresh : ∀ o ∈ its, ∀ b, o.fv.ownBlock = some b → w.heap.size ≤ b
  new : ∀ b, v.ownBlock = some b → w.heap.size ≤ b
  at_ : RRAt W rb r sh
  fr : Fr [rb] w W
  st : (sh = false ∧ s0 = false ∧ its.length = k ∧ rdObs k bs = some (obsOf its, r)) ∨ (sh = true ∧ Z)
/-- the fields of one under way -/
structure RFld (W : World) (rb xb : Nat) (c h : Int) (s0 : Bool) (Z : Prop) (r0 : List Int) (j : Nat) (fv : Value) (ys r : List Int) (sh : Bool) (Wi : World) : Prop where
  box : Wi.heap[xb]? = some (.cells #[.int .u64 c, .int .i64 h, fv, .int .i64 0] 72 (0, 0))
  row : Wi.ownsRow 0 35 1 fv j (ys.map (Value.int .u64))
  new : ∀ b, fv.ownBlock = some b → W.heap.size ≤ b
  at_ : RRAt Wi rb r sh
  fr : Fr [rb, xb] W Wi
  st : (sh = false ∧ s0 = false ∧ rdNs j r0 = some (ys, r)) ∨ (sh = true ∧ Z)
theorem RFld.grown {W Wi W1 w5 : World} {rb xb : Nat} {c h : Int} {s0 : Bool} {Z : Prop} {r0 : List Int} {j : Nat} {fv : Value} {ys r : List Int} {sh : Bool} (H : RFld W rb xb c h s0 Z r0 j fv ys r sh Wi) (h1 : rb < xb) (h2 : xb < W.heap.size) (hA : Fr [rb] Wi W1) (hg : W1.grownBy w5 fv.ownBlock) :
    Fr [rb, xb] W w5 ∧ w5.heap[xb]? = some (.cells #[.int .u64 c, .int .i64 h, fv, .int .i64 0] 72 (0, 0)) := by
  refine ⟨(H.fr.trans' hA (fun _ _ e => e) (fun _ _ e => by simp at e; simp [e])).grown hg (fun b hb hl => by have := H.new b hb; omega), ?_⟩
  have hl : xb < W1.heap.size := Nat.lt_of_lt_of_le (lt_of_heap H.box) hA.size
  rw [hg.block xb hl (fun e => by have := H.new xb e.symm; omega)]
  exact hA.heap (by simp; omega) H.box
theorem RFld.step {W Wi w1 W1 w5 : World} {rb xb : Nat} {c h : Int} {s0 : Bool} {Z : Prop} {r0 : List Int} {j : Nat} {fv v5 : Value} {ys r r' : List Int} {sh' : Bool} {x : Int} (H : RFld W rb xb c h s0 Z r0 j fv ys r false Wi) (h1 : rb < xb) (h2 : xb < W.heap.size) (hA : Fr [rb] Wi w1) (hA1 : Fr [] w1 W1) (hR : RRAt w1 rb r' sh')
    (ho : w5.ownsRow 0 35 1 v5 (j + 1) (ys.map (Value.int .u64) ++ [.int .u64 x])) (hg : W1.grownBy w5 fv.ownBlock) (hf : v5.ownBlock = fv.ownBlock ∨ v5.ownBlock = some W1.heap.size) (hP : NextP r false x r' sh') (hZ : rdN r = none → Z) :
    RFld W rb xb c h s0 Z r0 (j + 1) v5 (ys ++ [x]) r' sh' (w5.setCell ⟨xb, 2, none⟩ v5) := by
  obtain ⟨g1, g2⟩ := H.grown h1 h2 (hA.trans' hA1 (fun _ _ e => e) (fun _ _ e => by cases e)) hg
  have hw : W.heap.size ≤ w1.heap.size := Nat.le_trans H.fr.size hA.size
  have hnew : ∀ b, v5.ownBlock = some b → W.heap.size ≤ b := fun b hb' => by
    rcases hf with hf | hf
    · exact H.new b (hf ▸ hb')
    · have e := hf.symm.trans hb'
      cases e
      exact Nat.le_trans hw hA1.size
  have hs : Fr [xb] w5 (w5.setCell ⟨xb, 2, none⟩ v5) := (Fr.refl _ _).setCell (fun _ => by simp) _
  have hF3 : Fr fv.ownBlock.toList W1 w5 := (Fr.refl _ _).grown hg (fun q hq _ => by simp [hq])
  refine ⟨?_, ?_, hnew, ?_, ?_, ?_⟩
  · rw [heap_setCell_same g2]
    simp
  · rw [List.map_append, List.map_cons, List.map_nil]
    exact hs.row ho (fun b hb' => by have := hnew b hb'; simp; omega)
  · exact ((hR.still hA1).fr hF3 (fun q hq => by have := H.new q (by simpa using hq); omega)).fr hs (fun q hq => by simp at hq; omega)
  · exact g1.setCell (fun _ => by simp) _
  · rcases H.st with ⟨-, e0, e1⟩ | ⟨e, -⟩
    · rcases hP with ⟨e2, e3⟩ | ⟨e2, -, -, e3⟩
      · exact .inl ⟨e3, e0, by rw [rdNs_snoc, e1]; simp only [e2]⟩
      · exact .inr ⟨e3, hZ e2⟩
    · cases e
theorem RObsL.bad {w W W' : World} {rb k : Nat} {s0 : Bool} {Z : Prop} {bs r r' : List Int} {v : Value} {its : List It} {sh : Bool} (h : RObsL w rb bs s0 Z k v its r sh W) (hrb : rb < w.heap.size) (hF : Fr [rb] W W') (hA : RRAt W' rb r' true) (hn : Z) : RObsL w rb bs s0 Z k v its r' true W' :=
  ⟨hF.row h.row (fun q hq hm => by have := h.new q hq; simp at hm; omega), fun o ho => (h.own o ho).fr hF (fun q hq hm => by have := h.fresh o ho q hq; simp at hm; omega), h.fresh, h.new, hA, h.fr.trans hF, .inr ⟨rfl, hn⟩⟩
/-- one object more -/
theorem RObsL.step {w W W2 Wa W3 : World} {rb k : Nat} {s0 : Bool} {Z : Prop} {bs r r2 : List Int} {v v' : Value} {its : List It} {sh sh2 : Bool} {o : It} (h : RObsL w rb bs s0 Z k v its r sh W) (hrb : rb < w.heap.size) (hF : Fr [rb] W W2) (ho : ItOwn W2 o) (hof : ∀ b, o.fv.ownBlock = some b → W.heap.size ≤ b) (hA : RRAt W2 rb r2 sh2)
    (hFa : Fr [] W2 Wa) (hrow : Wa.ownsRow 0 72 4 v its.length (flat4 (noPlace its)) → W3.ownsRow 0 72 4 v' (its.length + 1) (flat4 (noPlace its) ++ [.int .u64 o.cls, .int .i64 o.hash, o.fv, .int .i64 0])) (hgr : Wa.grownBy W3 v.ownBlock) (hf : v.ownBlock = v'.ownBlock ∨ v'.ownBlock = some Wa.heap.size)
    (hst : (sh2 = false ∧ s0 = false ∧ (its ++ [o]).length = k + 1 ∧ rdObs (k + 1) bs = some (obsOf (its ++ [o]), r2)) ∨ (sh2 = true ∧ Z)) : RObsL w rb bs s0 Z (k + 1) v' (its ++ [o]) r2 sh2 W3 := by
  have hrow2 : Wa.ownsRow 0 72 4 v its.length (flat4 (noPlace its)) := hFa.row (hF.row h.row (fun q hq hm => by have := h.new q hq; simp at hm; omega)) (fun _ _ => by simp)
  have hF3 : Fr v.ownBlock.toList Wa W3 := (Fr.refl _ _).grown hgr (fun q hq _ => by simp [hq])
  have hw : w.heap.size ≤ W2.heap.size := Nat.le_trans h.fr.size hF.size
  have hov : ∀ p, ItOwn Wa p → ItOwn W3 p := fun p hp => hp.grown hrow2 hgr (by decide)
  have hnv : ∀ q, v'.ownBlock = some q → w.heap.size ≤ q := fun q hq => by
    rcases hf with hf | hf
    · exact h.new q (hf.trans hq)
    · have e := hf.symm.trans hq
      cases e
      exact Nat.le_trans hw hFa.size
  refine ⟨?_, ?_, ?_, hnv, ?_, ?_, hst⟩
  · rw [noPlace_snoc, flat4_snoc, List.length_append]
    exact hrow hrow2
  · intro p hp
    rcases List.mem_append.1 hp with hp | hp
    · exact hov p (((h.own p hp).fr hF (fun q hq hm => by have := h.fresh p hp q hq; simp at hm; omega)).fr hFa (fun _ _ => by simp))
    · rw [List.mem_singleton] at hp
      subst hp
      exact hov _ (ho.fr hFa (fun _ _ => by simp))
  · intro p hp b hb
    rcases List.mem_append.1 hp with hp | hp
    · exact h.fresh p hp b hb
    · rw [List.mem_singleton] at hp
      subst hp
      exact Nat.le_trans h.fr.size (hof b hb)
  · exact (hA.still hFa).fr hF3 (fun q hq => by have := h.new q (by simpa using hq); omega)
  · have hF4 : Fr v.ownBlock.toList W2 W3 := (hFa.weak (S := v.ownBlock.toList)).trans hF3
    exact (h.fr.trans hF).trans' hF4 (fun _ _ e => e) (fun j hj hm => by have := h.new j (by simpa using hm); omega)
set_option maxRecDepth 100000 in
set_option maxHeartbeats 4000000 in
theorem robjects6 {w : World} {rb : Nat} {bs : List Int} {sh : Bool} (h : RRAt w rb bs sh) (n : Nat) (hn : n ≤ 18446744073709551615) (hl : bs.length ≤ 1048576) (Z : Prop) (hz : rdObs n bs = none → Z) (hs : sh = true → Z) : Calls Tryz.prog 28 #[.pointer (some ⟨rb, 0, none⟩), .int .u64 n] w (fun e w' => ∃ k v its r sh', e = .returned v ∧ RObsL w rb bs sh Z k v its r sh' w' ∧ (sh' = false → k = n)) := by
  obtain ⟨i0, hi, hz0, hz1, hz2⟩ := info_parts infoRO
  obtain ⟨i1, hi1, hy0, hy1, hy2⟩ := info_parts infoWord
  have H := Lib.hid h
  have hrb := h.lt
  have HL := Lib.hid hl
  have HS := Lib.hid hs
  have HZZ := Lib.hid hz
  clear h hl hs hz
  go_enter Tryz.func28, Tryz.ntmps28
  go_wp2_with fail
  go_loopw [5, 6] (fun v i wr => ∃ k : Nat, k ≤ n ∧ i = .int .u64 k ∧ ∃ its r sh', Hid (RObsL w rb bs sh Z k v its r sh' wr)) (fun _ i _ => n - (intOf i).toNat)
  case atStart => exact ⟨0, Nat.zero_le _, rfl, [], bs, sh, ⟨World.ownsRow_nil _ _ _ _, (fun _ h => by cases h), (fun _ h => by cases h), (fun _ h => by cases h), H.out, Fr.refl _ _, by
    cases hsh : sh
    · exact .inl ⟨rfl, rfl, rfl, rfl⟩
    · exact .inr ⟨rfl, HS.out hsh⟩⟩⟩
  case round =>
    obtain ⟨k, hk, rfl, its, r, sh', hI⟩ := hrel
    obtain ⟨vo, vc, rfl⟩ := row_shape' hI.out.row
    obtain ⟨ao, ac, hh, -⟩ := hI.out.at_.ex
    have c1 := cell_of_heap (o := 1) hh rfl
    by_cases hlt : k < n
    · have k0 : (0 : Int) ≤ (k : Int) := by omega
      have k1 : (k : Int) < (n : Int) := by omega
      cases sh'
      · obtain ⟨-, hsf, hlen, hrd⟩ : false = false ∧ sh = false ∧ its.length = k ∧ rdObs k bs = some (obsOf its, r) := by
          rcases hI.out.st with h | h
          · exact h
          · cases h.1
        have HRD := Lib.hid hrd
        have HSF := Lib.hid hsf
        clear hsf
        have hkl := (rdObs_len _ _ _ _ hrd).1
        have hkb : k ≤ 43691 := by have := HL.out; omega
        subst hlen
        obtain ⟨K, hK⟩ : ∃ K, K = its.length := ⟨_, rfl⟩
        have HK := Lib.hid hK
        rw [← hK] at k0 k1 hkb ⊢
        have hW := hI.out.at_.lt
        clear hh hrd hkl hK hk
        go_wp2_with fail
        refine (rnext6_at hI.out.at_).mono ?_
        rintro e w1 ⟨x1, r1, s1, rfl, hx1, hA1, hF1, hP1⟩
        have HA1 := Lib.hid hA1
        have HF1 := Lib.hid hF1
        have HP1 := Lib.hid hP1
        clear hA1 hF1 hP1 c1
        have hb1 : rb < w1.heap.size := Nat.lt_of_lt_of_le hW HF1.out.size
        obtain ⟨xb, hxb⟩ : ∃ xb, xb = w1.heap.size := ⟨_, rfl⟩
        have HBX : Hid ((w1.alloc (.cells #[.int .u64 x1, .int .i64 0, .slice none 0 0, .int .i64 0] 72)).heap[xb]? = some (.cells #[.int .u64 x1, .int .i64 0, .slice none 0 0, .int .i64 0] 72 (0, 0))) := by rw [hxb]; exact heap_new w1 _
        have HXB : Hid (wr.heap.size ≤ xb ∧ rb < xb) := by have := HF1.out.size; exact Lib.hid ⟨by omega, by omega⟩
        have HXE := Lib.hid hxb
        clear hxb
        have HF1x : Hid (Fr [rb] wr (w1.alloc (.cells #[.int .u64 x1, .int .i64 0, .slice none 0 0, .int .i64 0] 72))) := HF1.out.alloc _
        have hn2 := rnext6_at (HA1.out.still ((Fr.refl [] w1).alloc (.cells #[.int .u64 x1, .int .i64 0, .slice none 0 0, .int .i64 0] 72)))
        go_wp2_with fail
        rw [← HXE.out]
        refine hn2.mono ?_
        rintro e w2 ⟨x2, r2, s2, rfl, hx2, hA2, hF2, hP2⟩
        have hbx2 := hF2.heap (by have := HXB.out.2; simp; omega) HBX.out
        have q1 := cell_of_heap (o := 1) hbx2 rfl
        have z1 := frozen_of_heap (o := 1) hbx2
        have HBX2 := Lib.hid hbx2
        have HA2 := Lib.hid hA2
        have HF2 := Lib.hid (HF1x.out.trans hF2)
        have HP2 := Lib.hid hP2
        have hsg := wrap_sgn hx2.1 hx2.2
        obtain ⟨h2, hh2⟩ : ∃ h2, h2 = sgn x2 := ⟨_, rfl⟩
        rw [← hh2] at hsg
        have HH2 := Lib.hid hh2
        have HU2 : Hid (Fr [xb] w2 (w2.setCell ⟨xb, 1, none⟩ (.int .i64 h2))) := (Fr.refl _ _).setCell (fun _ => by simp) _
        have hn3 := rnext6_at (HA2.out.fr HU2.out (fun j hj => by simp at hj; rw [hj]; exact HXB.out.2))
        clear hn2 hA2 hF2 hP2 hbx2 hh2
        go_wp2_with fail
        refine hn3.mono ?_
        rintro e w3 ⟨x3, r3, s3, rfl, hx3, hA3, hF3, hP3⟩
        have HX3 := Lib.hid (heads3 HP1.out HP2.out hP3)
        have HBX3 : Hid (w3.heap[xb]? = some (.cells #[.int .u64 x1, .int .i64 h2, .slice none 0 0, .int .i64 0] 72 (0, 0))) := Lib.hid (by
          refine hF3.heap (by have := HXB.out.2; simp; omega) ?_
          have := heap_setCell_same HBX2.out (o := 1) (.int .i64 h2)
          simpa using this)
        have HA3 := Lib.hid hA3
        have HF3 : Hid (Fr [rb] wr w3) := Lib.hid ((HF2.out.trans' HU2.out (fun _ _ e => e) (fun j hj e => by simp at e; have := HXB.out.1; omega)).trans hF3)
        obtain ⟨hx31, hx32⟩ := hx3
        obtain ⟨s, hs3⟩ : ∃ s : Nat, x3 = (s : Int) := ⟨x3.toNat, by omega⟩
        subst hs3
        clear hn3 hA3 hF3 hP3 q1 z1
        by_cases hbig : (512 : Int) < (s : Int)
        · have HBAD : Hid Z := by
            rcases HX3.out with ⟨e, -⟩ | ⟨-, e, -⟩
            · refine Lib.hid (HZZ.out <| rdObs_none HRD.out ?_ (show its.length < n by have := HK.out; omega))
              unfold rdOb
              rw [e]
              simp only [List.getD_cons_zero, List.getD_cons_succ]
              rw [if_pos hbig]
            · omega
          obtain ⟨ra, rc, hrr, -⟩ := HA3.out.ex
          have p1 := cell_of_heap (o := 1) hrr rfl
          have y1 := frozen_of_heap (o := 1) hrr
          have HSH := Lib.hid HA3.out.shorten
          clear hrr
          go_wp2_with fail
          go_ret
          have hFX : Fr [rb] w3 (w3.setCell ⟨rb, 1, none⟩ (.bool true)) := (Fr.refl _ _).setCell (fun _ => by simp) _
          have hbd := hI.out.bad hrb (HF3.out.trans hFX) HSH.out HBAD.out
          rw [← HK.out] at hbd
          exact ⟨_, _, its, r3, true, rfl, hbd, fun h => by cases h⟩
        · have HZ : Hid (∀ j r', j < s → (∃ ys, rdNs j r3 = some (ys, r')) → s3 = false → rdN r' = none → Z) := Lib.hid (by
            intro j r' hj ⟨ys, he⟩ h3 hno
            rcases HX3.out with ⟨e, -⟩ | ⟨-, -, e⟩
            · refine HZZ.out <| rdObs_none HRD.out ?_ (show its.length < n by have := HK.out; omega)
              unfold rdOb
              rw [e]
              simp only [List.getD_cons_zero, List.getD_cons_succ]
              rw [if_neg hbig]
              have e5 : rdNs (s : Int).toNat r3 = none := by simpa using rdNs_none he hno hj
              rw [e5]
            · rw [h3] at e; cases e)
          have HS3 : Hid (s3 = true → Z) := Lib.hid (by
            intro h3
            rcases HX3.out with ⟨-, e⟩ | ⟨e, -, -⟩
            · rw [h3] at e; cases e
            · refine HZZ.out <| rdObs_none HRD.out ?_ (show its.length < n by have := HK.out; omega)
              unfold rdOb
              rw [e])
          have hxl : xb < w3.heap.size := lt_of_heap HBX3.out
          have HNN : Hid (s ≤ 512) := Lib.hid (by omega)
          go_wp2_with fail
          obtain ⟨wo, hwo⟩ : ∃ wo, wo = wr := ⟨_, rfl⟩
          have HWO := Lib.hid hwo
          rw [← hwo] at HF3 hI HXB
          clear hwo
          go_loopw [9] (fun i wz => ∃ j : Nat, j ≤ s ∧ i = .int .u64 j ∧ ∃ fv ys r' sh', Hid (RFld w3 rb xb x1 h2 s3 Z r3 j fv ys r' sh' wz)) (fun i _ => s - (intOf i).toNat)
          case atStart => exact ⟨0, Nat.zero_le _, rfl, .slice none 0 0, [], r3, s3, ⟨HBX3.out, World.ownsRow_nil _ _ _ _, (fun _ h => by cases h), HA3.out, Fr.refl _ _, by
            cases s3
            · exact .inl ⟨rfl, rfl, rfl⟩
            · exact .inr ⟨rfl, HS3.out rfl⟩⟩⟩
          case round =>
            obtain ⟨j, hj, rfl, fv, ys, r', sh', hI2⟩ := hrel
            obtain ⟨fo, fc, rfl⟩ := row_shape hI2.out.row
            obtain ⟨ra, rc, hrr, -⟩ := hI2.out.at_.ex
            have p1 := cell_of_heap (o := 1) hrr rfl
            have q2 := cell_of_heap (o := 2) hI2.out.box rfl
            have z2 := frozen_of_heap (o := 2) hI2.out.box
            clear hrr
            have hjl : Hid (j = ys.length) := Lib.hid (by have := hI2.out.row.1; simpa using this.symm)
            obtain ⟨O, hO⟩ : ∃ O, O = Obj.cells #[.int .u64 x1, .int .i64 h2, .slice fo j fc, .int .i64 0] 72 := ⟨_, rfl⟩
            have HSTEP : Hid (∀ (hst : (sh' = false ∧ j = s) ∨ sh' = true) (v' : Value) (W3 : World), ((wr.alloc O).ownsRow 0 72 4 (.slice vo K vc) K (flat4 (noPlace its)) → W3.ownsRow 0 72 4 v' (K + 1) (flat4 (noPlace its) ++ [.int .u64 x1, .int .i64 h2, .slice fo j fc, .int .i64 0])) → (wr.alloc O).grownBy W3 (Value.slice vo K vc).ownBlock → ((Value.slice vo K vc).ownBlock = v'.ownBlock ∨ v'.ownBlock = some (wr.alloc O).heap.size) → RObsL w rb bs sh Z (K + 1) v' (its ++ [⟨x1, h2, .slice fo j fc, ys⟩]) r' sh' W3) := Lib.hid (by
              intro hst v' W3 h1 h2' h3
              rw [HK.out] at h1 h2' h3 ⊢
              have hj5 : j ≤ 512 := by have := HNN.out; omega
              refine hI.out.step hrb (HF3.out.trans' hI2.out.fr (fun _ _ e => e) (fun q hq e => by have := HXB.out.1; simp at e ⊢; omega)) ?_ ?_ hI2.out.at_ ((Fr.refl _ _).alloc O) h1 h2' h3 ?_
              · refine ⟨?_, ?_⟩
                · show wr.ownsRow 0 35 1 (.slice fo j fc) ys.length _
                  rw [← hjl.out]
                  exact hI2.out.row
                · show ys.length ≤ _
                  rw [← hjl.out]
                  omega
              · intro b hb
                exact Nat.le_trans (Nat.le_trans HF3.out.size (Nat.le_refl _)) (hI2.out.new b hb)
              · rcases hI2.out.st with ⟨e1, e2, e3⟩ | ⟨e1, e2⟩
                · refine .inl ⟨e1, HSF.out, by simp, ?_⟩
                  rcases hst with ⟨-, e4⟩ | e4
                  · rcases HX3.out with ⟨e5, -⟩ | ⟨-, -, e5⟩
                    · rw [rdObs_snoc, HRD.out]
                      have e6 : rdOb r = some ((x1, h2, ys), r') := by
                        unfold rdOb
                        rw [e5]
                        simp only [List.getD_cons_zero, List.getD_cons_succ]
                        rw [if_neg (by omega)]
                        have e7 : rdNs (s : Int).toNat r3 = some (ys, r') := by rw [← e4]; simpa using e3
                        rw [e7]
                        simp only [HH2.out]
                      simp only [e6, obsOf, List.map_append, List.map_cons, List.map_nil, It.key]
                    · rw [e2] at e5; cases e5
                  · rw [e1] at e4; cases e4
                · exact .inr ⟨e1, e2⟩)
            by_cases hjs : j < s
            · have j0 : (0 : Int) ≤ (j : Int) := by omega
              have j1 : (j : Int) < (s : Int) := by omega
              cases sh'
              · have HNX : Hid (∀ W', Fr [] wr W' → Calls Tryz.prog 27 #[.pointer (some ⟨rb, 0, none⟩)] W' fun e w' => ∃ x r sh', e = .returned (.int .u64 x) ∧ WB x ∧ RRAt w' rb r sh' ∧ Fr [rb] W' w' ∧ NextP r' false x r sh') := Lib.hid fun W' hF => rnext6_at (hI2.out.at_.still hF)
                have hmx : j + 1 ≤ maxLen := by have := HNN.out; unfold maxLen; omega
                have hj5 : j ≤ 512 := by have := HNN.out; omega
                have HNO : Hid (s3 = false ∧ rdNs j r3 = some (ys, r')) := Lib.hid (by
                  rcases hI2.out.st with ⟨-, e0, e1⟩ | ⟨e, -⟩
                  · exact ⟨e0, e1⟩
                  · cases e)
                have HNR : Hid (∀ q, (Value.slice fo j fc).ownBlock = some q → q ∉ [rb]) := Lib.hid fun q hq => by have := hI2.out.new q hq; have := HXB.out.2; simp; omega
                have HLT : Hid (rb < xb ∧ xb < w3.heap.size) := Lib.hid ⟨HXB.out.2, hxl⟩
                go_wp2_with fail
                go_region_law (first
                  | (go_simp; go_at_call 27; refine (HNX.out _ (by first | exact (Fr.refl _ _).drew | exact (Fr.refl _ _).drew.drew | exact Fr.refl _ _)).mono ?_; rintro e w1 ⟨x, q, sq, rfl, hx, hA, hF, hP⟩; have HFx : Hid (Fr [rb] wr w1) := (by first | exact Lib.hid ((Fr.refl _ _).drew.drew.trans hF) | exact Lib.hid ((Fr.refl _ _).drew.trans hF)); have HAx := Lib.hid hA; have HPx := Lib.hid hP; have HX := Lib.hid hx; have k2 : w1.cell? ⟨xb, 2, none⟩ = some (.slice fo j fc) := cell_of_heap (HFx.out.heap (by have := HLT.out; simp; omega) hI2.out.box) rfl; have k2l : xb < w1.heap.size := lt_of_heap (HFx.out.heap (by have := HLT.out; simp; omega) hI2.out.box); clear hA hF hP hx)
                  | (refine step_append_lies _ (by rfl) _ _ _ (by rfl) 0 35 i1 _ 1 8 Tryz.underlying70 hi1 hy0 hy1 hy2 rfl (by omega) (.slice fo j fc) j (ys.map (Value.int .u64)) (by rfl) ((HFx.out.alloc _).row hI2.out.row HNR.out) ⟨w1.heap.size, 0, none⟩ 1 1 [.int .u64 x] (by rfl) (by rfl) (World.news_of_block (cs := #[.int .u64 x]) (t := 35) (fr := (0, 0)) (heap_alloc_new w1 _)) (by simp [Value.oneCell']) (by omega) hmx (by omega) (Nat.zero_le _) (w1.heap.size + 1) (by simp) ?_; intro gg cq w5 hown1 hgrow hat hlt1; have HG5 := Lib.hid (hI2.out.grown HLT.out.1 HLT.out.2 (HFx.out.alloc _) hgrow); have s5 := cell_of_heap (o := 2) HG5.out.2 rfl; have t5 := frozen_of_heap (o := 2) HG5.out.2; have HST := Lib.hid (hI2.out.step HLT.out.1 HLT.out.2 HFx.out ((Fr.refl [] w1).alloc (.cells #[.int .u64 x] 35)) HAx.out hown1 hgrow (hat.imp (fun h => by rw [h]; simp [Value.ownBlock]) (fun h => by rw [h]; simp [Value.ownBlock])) HPx.out (fun e => HZ.out j r' hjs ⟨ys, HNO.out.2⟩ HNO.out.1 e)); clear hown1 hgrow hat))
                all_goals (go_wp2_with fail)
                all_goals go_roundw
                all_goals first
                  | exact ⟨j + 1, by omega, by go_num, _, _, _, _, HST⟩
                  | (simp [intOf]; omega)
              · have HBW := Lib.hid hI2.out.box
                have m0 := cell_of_heap (o := 0) HBW.out rfl; have m1 := cell_of_heap (o := 1) HBW.out rfl; have m2 := cell_of_heap (o := 2) HBW.out rfl; have m3 := cell_of_heap (o := 3) HBW.out rfl
                have HAL : Hid (Fr [rb] wo wr) := Lib.hid (HF3.out.trans' hI2.out.fr (fun _ _ e => e) (fun q hq e => by have := HXB.out.1; simp at e ⊢; omega))
                have HROW : Hid ((wr.alloc O).ownsRow 0 72 4 (.slice vo K vc) K (flat4 (noPlace its))) := Lib.hid (((Fr.refl [] wr).alloc O).row (by
                  have h1 := hI.out.row
                  rw [← HK.out] at h1
                  exact HAL.out.row h1 (fun q hq => by have := hI.out.new q (by rw [← HK.out]; exact hq); simp; omega)) (fun _ _ => by simp))
                have HNW : Hid (∀ (j' : Nat) u, [Value.int .u64 x1, .int .i64 h2, .slice fo j fc, .int .i64 0][j']? = some u → (wr.alloc O).cell? ((⟨wr.heap.size, 0, none⟩ : Addr).add j') = some u) := by
                  rw [hO]
                  exact World.news_of_block (cs := #[.int .u64 x1, .int .i64 h2, .slice fo j fc, .int .i64 0]) (t := 72) (fr := (0, 0)) (heap_new wr _)
                have HST2 := Lib.hid (HSTEP.out (.inr rfl))
                clear HSTEP
                subst hO
                go_wp2_with (at_builtin; refine wpList_append_at _ rfl (.tmp 56) (.tmp 58) 33 rfl 72 i0 _ 4 48 Tryz.underlying33 hi hz0 hz1 hz2 rfl (by decide) (.slice vo K vc) K _ rfl HROW.out ⟨wr.heap.size, 0, none⟩ 1 1 [.int .u64 x1, .int .i64 h2, .slice fo j fc, .int .i64 0] rfl rfl HNW.out (by simp [Value.oneCell']) (by unfold maxLen; omega) (by omega) ?_; intro v5 w5 ho5 hg5 hf5; obtain ⟨a5, p5, rfl⟩ := row_shape' ho5; have H5 := Lib.hid (HST2.out _ _ (fun _ => ho5) hg5 (hf5.imp (fun e => e.symm) (fun e => e))); clear ho5 hg5 hf5)
                go_roundw
                case rel => exact ⟨K + 1, by omega, by go_num, _, _, _, H5⟩
                case measure => simp [intOf]; omega
            · have hjs' : j = s := by omega
              have hjd : decide ((j : Int) < (s : Int)) = false := by simp; omega
              have HQ2 : Hid ((sh' = false ∧ j = s) ∨ sh' = true) := Lib.hid (by cases sh' with | false => exact .inl ⟨rfl, hjs'⟩ | true => exact .inr rfl)
              have HJS := Lib.hid hjs'
              clear hjs'
              have HBW := Lib.hid hI2.out.box
              have m0 := cell_of_heap (o := 0) HBW.out rfl; have m1 := cell_of_heap (o := 1) HBW.out rfl; have m2 := cell_of_heap (o := 2) HBW.out rfl; have m3 := cell_of_heap (o := 3) HBW.out rfl
              have HAL : Hid (Fr [rb] wo wr) := Lib.hid (HF3.out.trans' hI2.out.fr (fun _ _ e => e) (fun q hq e => by have := HXB.out.1; simp at e ⊢; omega))
              have HROW : Hid ((wr.alloc O).ownsRow 0 72 4 (.slice vo K vc) K (flat4 (noPlace its))) := Lib.hid (((Fr.refl [] wr).alloc O).row (by
                have h1 := hI.out.row
                rw [← HK.out] at h1
                exact HAL.out.row h1 (fun q hq => by have := hI.out.new q (by rw [← HK.out]; exact hq); simp; omega)) (fun _ _ => by simp))
              have HNW : Hid (∀ (j' : Nat) u, [Value.int .u64 x1, .int .i64 h2, .slice fo j fc, .int .i64 0][j']? = some u → (wr.alloc O).cell? ((⟨wr.heap.size, 0, none⟩ : Addr).add j') = some u) := by
                rw [hO]
                exact World.news_of_block (cs := #[.int .u64 x1, .int .i64 h2, .slice fo j fc, .int .i64 0]) (t := 72) (fr := (0, 0)) (heap_new wr _)
              have HST2 := Lib.hid (HSTEP.out HQ2.out)
              clear HSTEP
              subst hO
              go_wp2_with (at_builtin; refine wpList_append_at _ rfl (.tmp 56) (.tmp 58) 33 rfl 72 i0 _ 4 48 Tryz.underlying33 hi hz0 hz1 hz2 rfl (by decide) (.slice vo K vc) K _ rfl HROW.out ⟨wr.heap.size, 0, none⟩ 1 1 [.int .u64 x1, .int .i64 h2, .slice fo j fc, .int .i64 0] rfl rfl HNW.out (by simp [Value.oneCell']) (by unfold maxLen; omega) (by omega) ?_; intro v5 w5 ho5 hg5 hf5; obtain ⟨a5, p5, rfl⟩ := row_shape' ho5; have H5 := Lib.hid (HST2.out _ _ (fun _ => ho5) hg5 (hf5.imp (fun e => e.symm) (fun e => e))); clear ho5 hg5 hf5)
              go_roundw
              case rel => exact ⟨K + 1, by omega, by go_num, _, _, _, H5⟩
              case measure => simp [intOf]; omega
      · go_wp2_with fail
        go_ret
        exact ⟨k, _, its, r, true, rfl, hI.out, fun h => by cases h⟩
    · have hkn : k = n := by omega
      have hkd : decide ((k : Int) < (n : Int)) = false := by simp; omega
      have HKN := Lib.hid hkn
      clear hkn
      go_wp2_with fail
      go_ret
      exact ⟨k, _, its, r, sh', rfl, hI.out, fun _ => HKN.out⟩
end Go.Proofs.YtfhhjdfdfbelgaaGreatDoor
