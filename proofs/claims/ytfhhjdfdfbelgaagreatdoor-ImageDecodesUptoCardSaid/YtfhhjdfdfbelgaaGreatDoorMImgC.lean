/- image.readContents: what an image tells behind its mark. bytes.Equal, HasPrefix, CutPrefix; bytes as a string. image.decoded: the contents of bytes. -/
import Derived.Test.YtfhhjdfdfbelgaaGreatDoorMImgB
import Derived.Test.YtfhhjdfdfbelgaaGreatDoorMImgA
import Derived.Laws.BytesString
import Derived.Laws.IdiomStrings
import Derived.Lib.SlBytesConst
namespace Go.Proofs.YtfhhjdfdfbelgaaGreatDoor
open Go.RowKit

/-- what stands behind the mark, and what is left -/
def decC (l : List Int) : Option ((Int × Int × List (Int × Int × List Int)) × List Int) := match rdNs 3 l with
  | none => none
  | some (xs, r) => match rdObs (xs.getD 2 0).toNat r with
    | none => none
    | some (os, q) => some ((xs.getD 0 0, sgn (xs.getD 1 0), os), q)
theorem decQ_C (l : List Int) : decQ l = if l.take 4 = [84, 80, 80, 84] then decC (l.drop 4) else none := rfl
/-- contents, or an error -/
def ContOut (bT bF : Addr) (rb : Nat) (bs : List Int) (w : World) (e : Ending) (w' : World) : Prop := match decC bs with
  | some ((root, hashes, os), r) => ∃ ao cap its, e = .returned (.tuple #[contV root hashes ao its.length cap, .nilIface]) ∧ obsOf its = os ∧ ObsIn w (.slice ao its.length cap) its w' ∧ ReadAt w' rb r ∧ Fr [rb] w w'
  | none => ∃ r b, (b = bT ∨ b = bF) ∧ e = .returned (.tuple #[.agg #[.int .u64 0, .int .i64 0, .slice none 0 0], .iface 185 (.pointer (some b))]) ∧ ReadAt w' rb r ∧ Fr [rb] w w'
theorem ObsIn.base {w w1 W : World} {v : Value} {its : List It} (h : ObsIn w1 v its W) (hs : w.heap.size ≤ w1.heap.size) : ObsIn w v its W :=
  ⟨h.row, h.own, fun o ho b hb => Nat.le_trans hs (h.fresh o ho b hb), fun b hb => Nat.le_trans hs (h.new b hb)⟩
theorem zero_cont (w : World) : (w.alloc (.cells #[.int .u64 0, .int .i64 0, .slice none 0 0] 52)).heap[w.heap.size]? = some (.cells #[.int .u64 0, .int .i64 0, .slice none 0 0] 52 (0, 0)) := heap_new _ _
set_option maxRecDepth 100000 in
set_option maxHeartbeats 4000000 in
theorem readContents_at {w : World} {rb : Nat} {bs : List Int} {bT bF : Addr} (h : ReadAt w rb bs) (hE : IErrs w bT bF) (hg : 0 < rb ∧ 1 < rb) (hl : bs.length ≤ 35184372088832) : Calls Tryz.prog 44 #[.func (.func 45) #[.pointer (some ⟨rb, 0, none⟩)] #[]] w (ContOut bT bF rb bs w) := by
  have HF0 : Hid (Fr [] w (w.alloc (.cells #[.int .u64 0, .int .i64 0, .slice none 0 0] 52))) := (Fr.refl _ _).alloc _
  have HZ0 := Lib.hid (zero_cont w)
  have h3 := readNumbers_at (h.still HF0.out) (hE.still HF0.out) hg 3 (by omega)
  have HE := Lib.hid hE
  have HG := Lib.hid hg
  have HL := Lib.hid hl
  have hrb := h.lt
  have HNE : Hid (w.heap.size ∉ [rb]) := by show _ ∉ _; simp; omega
  have e3 : ((3 : Nat) : Int) = 3 := rfl
  rw [e3] at h3
  cases hq : rdNs 3 bs with
  | none =>
    have HNO : Hid (decC bs = none) := Lib.hid (by unfold decC; rw [hq])
    unfold NumsOut at h3
    rw [hq] at h3
    clear h hE hg hq hl
    go_enter Tryz.func44, Tryz.ntmps44
    go_wp2_with fail
    refine h3.mono ?_
    rintro e w1 ⟨r, rfl, hA1, hF1⟩
    have HA1 := Lib.hid hA1
    have HF1 := Lib.hid hF1
    have HB := Lib.hid (hF1.heap HNE.out HZ0.out)
    have k0 := cell_of_heap (o := 0) HB.out rfl; have k1 := cell_of_heap (o := 1) HB.out rfl; have k2 := cell_of_heap (o := 2) HB.out rfl; have f0 := frozen_of_heap (o := 0) HB.out; have f1 := frozen_of_heap (o := 1) HB.out; have f2 := frozen_of_heap (o := 2) HB.out
    clear h3 hA1 hF1
    go_wp2_with fail
    (try simp only [Exit.inBlock, Exit.then])
    refine bodyPost_ret (v := .tuple #[.agg #[.int .u64 0, .int .i64 0, .slice none 0 0], .iface 185 (.pointer (some bT))]) ?_ rfl ?_
    · rw [results_cell_tmp rfl]
      go_simp
    · unfold ContOut
      rw [HNO.out]
      have hx := fr_three w1 w.heap.size (.int .u64 0) (.int .i64 0) (.slice none 0 0)
      exact ⟨r, bT, .inl rfl, rfl, HA1.out.res hrb hx, (HF0.out.weak.trans HF1.out).res hx⟩
  | some p =>
    obtain ⟨xs, r⟩ := p
    obtain ⟨-, hl3, hbd⟩ := rdNs_inv 3 bs h.byte xs r hq
    obtain ⟨c, hs, s, rfl⟩ : ∃ c hs s, xs = [c, hs, s] := by
      match xs, hl3 with
      | [a, b, c], _ => exact ⟨a, b, c, rfl⟩
    obtain ⟨c1, c2⟩ := hbd c (by simp)
    obtain ⟨d1, d2⟩ := hbd hs (by simp)
    obtain ⟨s1, s2⟩ := hbd s (by simp)
    obtain ⟨m, rfl⟩ : ∃ m : Nat, s = (m : Int) := ⟨s.toNat, by omega⟩
    have hsg := wrap_sgn d1 d2
    have HSG := Lib.hid hsg
    have hln := rdNs_len 3 bs _ _ hq
    unfold NumsOut at h3
    rw [hq] at h3
    have HQ := Lib.hid hq
    have HRL : Hid (r.length ≤ 35184372088832) := by show _ ≤ _; omega
    clear hq hbd hl3 hsg hln hl
    have e4 : (w.alloc (.cells #[.int .u64 0, .int .i64 0, .slice none 0 0] 52)).heap.size = w.heap.size + 1 := by simp
    rw [e4] at h3
    clear h hE hg e4
    go_enter Tryz.func44, Tryz.ntmps44
    go_wp2_with fail
    refine h3.mono ?_
    rintro e w1 ⟨rfl, hr1, hA1, hF1⟩
    have q2 := cell_of_heap (o := 2) hr1 rfl
    have HR1 := Lib.hid hr1
    have h4 := readObjects_at hA1 ((HE.out.still HF0.out).fr hF1 (fun k hk => by simp at hk; subst hk; exact HG.out)) HG.out HRL.out m (by omega)
    have HA1 := Lib.hid hA1
    have HF1 := Lib.hid hF1
    have HB := Lib.hid (hF1.heap HNE.out HZ0.out)
    clear h3 hA1 hF1 hr1
    cases hq2 : rdObs m r with
    | none =>
      have HNO : Hid (decC bs = none) := Lib.hid (by unfold decC; rw [HQ.out]; simp only [List.getD_cons_zero, List.getD_cons_succ, Int.toNat_natCast]; rw [hq2])
      unfold ObsOut at h4
      rw [hq2] at h4
      clear hq2
      go_wp2_with fail
      refine h4.mono ?_
      rintro e w2 ⟨r2, b, hb, rfl, hA2, hF2⟩
      have HBB := Lib.hid hb
      have HB2 := Lib.hid (hF2.heap HNE.out HB.out)
      have HA2 := Lib.hid hA2
      have HF2 := Lib.hid (HF1.out.trans hF2)
      have k0 := cell_of_heap (o := 0) HB2.out rfl; have k1 := cell_of_heap (o := 1) HB2.out rfl; have k2 := cell_of_heap (o := 2) HB2.out rfl; have f0 := frozen_of_heap (o := 0) HB2.out; have f1 := frozen_of_heap (o := 1) HB2.out; have f2 := frozen_of_heap (o := 2) HB2.out
      clear h4 hA2 hF2 hb
      go_wp2_with fail
      (try simp only [Exit.inBlock, Exit.then])
      refine bodyPost_ret (v := .tuple #[.agg #[.int .u64 0, .int .i64 0, .slice none 0 0], .iface 185 (.pointer (some b))]) ?_ rfl ?_
      · rw [results_cell_tmp rfl]
        go_simp
      · unfold ContOut
        rw [HNO.out]
        have hx := fr_three w2 w.heap.size (.int .u64 0) (.int .i64 0) (.slice none 0 0)
        exact ⟨r2, b, HBB.out, rfl, HA2.out.res hrb hx, (HF0.out.weak.trans HF2.out).res hx⟩
    | some p =>
      obtain ⟨os, r2⟩ := p
      have HYES : Hid (decC bs = some ((c, sgn hs, os), r2)) := Lib.hid (by unfold decC; rw [HQ.out]; simp only [List.getD_cons_zero, List.getD_cons_succ, Int.toNat_natCast]; rw [hq2])
      unfold ObsOut at h4
      rw [hq2] at h4
      clear hq2
      go_wp2_with fail
      refine h4.mono ?_
      rintro e w2 ⟨v, its, rfl, hob, hin, hA2, hF2⟩
      obtain ⟨va, vc, rfl⟩ := row_shape' hin.row
      have HOB := Lib.hid hob
      have HIN := Lib.hid hin
      have hb := hF2.heap HNE.out HB.out
      have HA2 := Lib.hid hA2
      have hsz1 := HF1.out.size
      have hh := hF2.heap (k := w.heap.size + 1) (by simp; omega) HR1.out
      have HF2 := Lib.hid (HF1.out.trans hF2)
      have k0 := cell_of_heap (o := 0) hb rfl; have k1 := cell_of_heap (o := 1) hb rfl; have k2 := cell_of_heap (o := 2) hb rfl; have f0 := frozen_of_heap (o := 0) hb; have f1 := frozen_of_heap (o := 1) hb; have f2 := frozen_of_heap (o := 2) hb; have h0 := cell_of_heap (o := 0) hh rfl; have h1 := cell_of_heap (o := 1) hh rfl; have h2 := cell_of_heap (o := 2) hh rfl
      obtain ⟨n, hn⟩ : ∃ n, n = its.length := ⟨_, rfl⟩
      rw [← hn]
      have HN := Lib.hid hn
      clear h4 hA2 hF2 hin hob hb hh hn q2 hsz1
      have hcs : IntKind.i64.wrap hs = sgn hs := HSG.out
      go_wp2_with fail
      go_region
      go_wp2_with fail
      (try simp only [Exit.inBlock, Exit.then])
      refine bodyPost_ret (v := .tuple #[contV c (sgn hs) va n vc, .nilIface]) ?_ rfl ?_
      · rw [results_cell_tmp rfl]
        unfold contV
        go_simp
      · unfold ContOut
        rw [HYES.out]
        have hx := (fr_three w2 w.heap.size (.int .u64 c) (.int .i64 (sgn hs)) (.slice va n vc)).drew
        have hs1 := HF1.out.size
        simp at hs1
        exact ⟨va, vc, its, by rw [HN.out], HOB.out, (HIN.out.fr hx (fun j hj => by simp at hj; omega)).base (by omega), HA2.out.res hrb hx, (HF0.out.weak.trans HF2.out).res hx⟩
end Go.Proofs.YtfhhjdfdfbelgaaGreatDoor
namespace Go.Proofs.YtfhhjdfdfbelgaaGreatDoor
open Go.RowKit

/-- bytes as a string -/
def bstr (l : List Int) : ByteArray := l.foldl (fun r n => r.push (UInt8.ofNat n.toNat)) ByteArray.empty
theorem foldl_push8 : ∀ (l : List Int) (r : ByteArray), l.foldl (fun r n => r.push (UInt8.ofNat n.toNat)) r = ⟨r.data ++ (l.map fun n => UInt8.ofNat n.toNat).toArray⟩
  | [], r => by simp
  | b :: l, r => by
    simp only [List.foldl_cons]
    rw [foldl_push8 l]
    simp [ByteArray.push]
theorem bstr_eq (l : List Int) : bstr l = ⟨(l.map fun n => UInt8.ofNat n.toNat).toArray⟩ := by
  unfold bstr
  rw [foldl_push8]
  have he0 : ByteArray.empty.data = #[] := rfl
  rw [he0]
  simp
theorem byte_inj {x y : Int} (hx : B x) (hy : B y) (h : UInt8.ofNat x.toNat = UInt8.ofNat y.toNat) : x = y := by
  obtain ⟨x1, x2⟩ := hx
  obtain ⟨y1, y2⟩ := hy
  have h2 := congrArg UInt8.toNat h
  simp at h2
  omega
theorem bstr_inj : ∀ {l m : List Int} (_ : ∀ x ∈ l, B x) (_ : ∀ x ∈ m, B x) (_ : bstr l = bstr m), l = m := by
  intro l m hl hm h
  rw [bstr_eq, bstr_eq] at h
  have h1 : l.map (fun n => UInt8.ofNat n.toNat) = m.map (fun n => UInt8.ofNat n.toNat) := by
    have := congrArg ByteArray.data h
    simpa using this
  clear h
  induction l generalizing m with
  | nil =>
    cases m with
    | nil => rfl
    | cons b m => cases h1
  | cons a l ih =>
    cases m with
    | nil => cases h1
    | cons b m =>
      simp only [List.map_cons, List.cons.injEq] at h1
      rw [byte_inj (hl a (by simp)) (hm b (by simp)) h1.1, ih (fun x hx => hl x (by simp [hx])) (fun x hx => hm x (by simp [hx])) h1.2]
theorem bstr_dec {l m : List Int} (hl : ∀ x ∈ l, B x) (hm : ∀ x ∈ m, B x) : ((bstr l).toList == (bstr m).toList) = decide (l = m) := by
  by_cases h : l = m
  · subst h; simp
  · rw [decide_eq_false h]
    refine beq_false_of_ne (fun e => h (bstr_inj hl hm (WideShapes.bytes_inj ?_)))
    simpa [ByteArray.toList_eq] using e
theorem conv_bytes {w : World} {ao : Option Addr} {l : List Int} (h : BytesAt w ao l) (cap : Nat) : (convert 22 9 (.slice ao l.length cap)).run Tryz.prog w = .ok (.string (bstr l)) w := by
  rw [run_convert_bytes_string w 22 9 5 ao l.length cap Tryz.underlying22 Tryz.underlying5 Tryz.underlying9]
  cases ao with
  | none =>
    cases l with
    | nil => rfl
    | cons a l =>
      obtain ⟨g, o, e, -⟩ := h 0 a rfl
      cases e
  | some a =>
    refine run_bytesToString w a l.length cap l ?_
    have := run_loadCells_list (P := Tryz.prog) w a (l.map (Value.int .u8)) (fun j v hj => by
      obtain ⟨x, hx⟩ : ∃ x, l[j]? = some x := by
        have := (List.getElem?_eq_some_iff.1 hj).1
        exact ⟨_, List.getElem?_eq_getElem (by simpa using this)⟩
      obtain ⟨g, o, e, hc⟩ := h j x hx
      cases e
      rw [Lib.add_plain, hc]
      simp [hx] at hj
      rw [hj])
    simpa using this
set_option maxRecDepth 100000 in
set_option maxHeartbeats 1000000 in
theorem equal_at {w : World} {a b : Option Addr} {la lb : List Int} {ca cb : Nat} (hA : BytesAt w a la) (hB : BytesAt w b lb) (bA : ∀ x ∈ la, B x) (bB : ∀ x ∈ lb, B x) : Calls Tryz.prog 69 #[.slice a la.length ca, .slice b lb.length cb] w (Still (.bool (decide (la = lb))) w) := by
  have h1 := conv_bytes hA ca
  have h2 := conv_bytes hB cb
  have h3 := bstr_dec bA bB
  generalize la.length = n at *
  generalize lb.length = m at *
  generalize bstr la = s at *
  generalize bstr lb = t at *
  clear hA hB bA bB
  rw [← h3]
  clear h3
  go_enter Tryz.func69, Tryz.ntmps69
  go_wp2_with fail
  go_ret
  exact ⟨rfl, by first | exact Fr.refl _ _ | exact (Fr.refl _ _).drewN _⟩
set_option maxRecDepth 100000 in
set_option maxHeartbeats 1000000 in
theorem hasPrefix_at {w : World} {a b : Option Addr} {la lb : List Int} {ca cb : Nat} (hA : BytesAt w a la) (hB : BytesAt w b lb) (bA : ∀ x ∈ la, B x) (bB : ∀ x ∈ lb, B x) (hc : la.length ≤ ca) : Calls Tryz.prog 57 #[.slice a la.length ca, .slice b lb.length cb] w (Still (.bool (decide (la.take lb.length = lb))) w) := by
  by_cases hl : lb.length ≤ la.length
  · have hA4 : BytesAt w a (la.take lb.length) := fun i x hx => by
      rw [List.getElem?_take] at hx
      split at hx
      · exact hA i x hx
      · cases hx
    have heq := equal_at (ca := ca) (cb := cb) hA4 hB (fun x hx => bA x (List.mem_of_mem_take hx)) bB
    rw [List.length_take, Nat.min_eq_left hl] at heq
    have hl2 : lb.length ≤ ca := by omega
    have hl3 : (lb.length : Int) ≤ (la.length : Int) := by omega
    generalize decide (la.take lb.length = lb) = d at *
    generalize la.length = n at *
    generalize lb.length = m at *
    clear hA hB bA bB hA4
    go_enter Tryz.func57, Tryz.ntmps57
    go_wp2_with fail
    refine heq.mono ?_
    rintro e w1 ⟨rfl, hF1⟩
    go_wp2_with fail
    go_ret
    exact ⟨rfl, hF1⟩
  · have hd : decide (la.take lb.length = lb) = false := by
      refine decide_eq_false (fun e => ?_)
      have := congrArg List.length e
      simp at this
      omega
    have hl3 : ¬ (lb.length : Int) ≤ (la.length : Int) := by omega
    rw [hd]
    generalize la.length = n at *
    generalize lb.length = m at *
    clear hA hB bA bB hd
    go_enter Tryz.func57, Tryz.ntmps57
    go_wp2_with fail
    go_ret
    exact ⟨rfl, Fr.refl _ _⟩
/-- bytes behind a prefix, or as they were -/
def CutTo (la lb : List Int) (a : Option Addr) (ca : Nat) (w : World) (e : Ending) (w' : World) : Prop := Fr [] w w' ∧
  ((la.take lb.length = lb ∧ ∃ a' c', e = .returned (.tuple #[.slice a' (la.drop lb.length).length c', .bool true]) ∧ BytesAt w' a' (la.drop lb.length) ∧ (la.drop lb.length).length ≤ c' ∧ ∀ q, a' = some q → ∃ p, a = some p ∧ q.block = p.block) ∨
   (la.take lb.length ≠ lb ∧ e = .returned (.tuple #[.slice a la.length ca, .bool false])))
set_option maxRecDepth 100000 in
set_option maxHeartbeats 1000000 in
theorem cutPrefix_at {w : World} {a b : Option Addr} {la lb : List Int} {ca cb : Nat} (hA : BytesAt w a la) (hB : BytesAt w b lb) (bA : ∀ x ∈ la, B x) (bB : ∀ x ∈ lb, B x) (hc : la.length ≤ ca) (h0 : 0 < lb.length) : Calls Tryz.prog 43 #[.slice a la.length ca, .slice b lb.length cb] w (CutTo la lb a ca w) := by
  have hp := hasPrefix_at (ca := ca) (cb := cb) hA hB bA bB hc
  by_cases ht : la.take lb.length = lb
  · have hl : lb.length ≤ la.length := by
      have := congrArg List.length ht
      simp at this
      omega
    obtain ⟨g, o, rfl⟩ : ∃ g o, a = some ⟨g, o, none⟩ := by
      obtain ⟨g, o, e, -⟩ := hA 0 _ (List.getElem?_eq_getElem (by omega))
      exact ⟨g, o, e⟩
    rw [decide_eq_true ht] at hp
    have HC : Hid (∀ W, Fr [] w W → ∀ o2 c2 k : Nat, k = la.length - lb.length → (la.length = lb.length ∨ o2 = o + lb.length) → k ≤ c2 → CutTo la lb (some ⟨g, o, none⟩) ca w (.returned (.tuple #[.slice (some ⟨g, o2, none⟩) k c2, .bool true])) W) := Lib.hid fun W hF o2 c2 k hk h1 h2 => by
      have hdl : (la.drop lb.length).length = la.length - lb.length := by simp
      refine ⟨hF, .inl ⟨ht, some ⟨g, o2, none⟩, c2, by rw [hdl, hk], ?_, by rw [hdl, ← hk]; exact h2, fun q hq => ⟨⟨g, o, none⟩, rfl, by cases hq; rfl⟩⟩⟩
      rcases h1 with h1 | rfl
      · intro i x hx
        have := (List.getElem?_eq_some_iff.1 hx).1
        omega
      · exact (hA.fr hF (fun _ _ => by simp)).drop lb.length
    generalize la.length = n at *
    generalize lb.length = m at *
    clear hA hB bA bB ht
    go_enter Tryz.func43, Tryz.ntmps43
    go_wp2_with fail
    refine hp.mono ?_
    rintro e w1 ⟨rfl, hF1⟩
    have HF1 := Lib.hid hF1
    clear hp hF1
    by_cases hcm : ca = m
    · subst hcm
      obtain rfl : n = ca := by omega
      go_wp2_with fail
      go_ret2
      exact HC.out _ HF1.out _ _ _ (by simp) (.inl trivial) (Nat.le_refl _)
    · go_wp2_with fail
      go_ret2
      exact HC.out _ HF1.out _ _ _ rfl (.inr rfl) (by omega)
  · rw [decide_eq_false ht] at hp
    have HT : Hid (∀ W, Fr [] w W → CutTo la lb a ca w (.returned (.tuple #[.slice a la.length ca, .bool false])) W) := Lib.hid fun W hF => ⟨hF, .inr ⟨ht, rfl⟩⟩
    generalize la.length = n at *
    generalize lb.length = m at *
    clear hA hB bA bB ht
    go_enter Tryz.func43, Tryz.ntmps43
    go_wp2_with fail
    refine hp.mono ?_
    rintro e w1 ⟨rfl, hF1⟩
    go_wp2_with fail
    go_ret2
    exact HT.out _ hF1
end Go.Proofs.YtfhhjdfdfbelgaaGreatDoor
namespace Go.Proofs.YtfhhjdfdfbelgaaGreatDoor
open Go.RowKit

/-- contents, or a fault -/
def DecTo6 (bs : List Int) (bT bF : Addr) (w : World) (e : Ending) (w' : World) : Prop := match decI bs with
  | some (root, hashes, os) => ∃ ao cap its, e = .returned (.tuple #[contV root hashes ao its.length cap, .nilIface]) ∧ obsOf its = os ∧ ObsIn w (.slice ao its.length cap) its w' ∧ Fr [] w w'
  | none => ∃ (n : Int) (b : Addr), (b = bT ∨ b = bF) ∧ e = .returned (.tuple #[.agg #[.int .u64 0, .int .i64 0, .slice none 0 0], .iface 95 (.agg #[.int .i64 n, .iface 185 (.pointer (some b))])]) ∧ Fr [] w w'
set_option maxRecDepth 100000 in
set_option maxHeartbeats 4000000 in
theorem idecoded_at {w : World} {a : Option Addr} {bs : List Int} {cap : Nat} {bT bF : Addr} (hA : BytesAt w a bs) (hB : ∀ x ∈ bs, B x) (hE : IErrs w bT bF) (hc : bs.length ≤ cap) (hl : bs.length ≤ 35184372088832) : Calls Tryz.prog 23 #[.slice a bs.length cap] w (DecTo6 bs bT bF w) := by
  have HF0 : Hid (Fr [] w (w.alloc (.cells #[.int .u64 0, .int .i64 0, .slice none 0 0] 52))) := (Fr.refl _ _).alloc _
  have HZ0 := Lib.hid (zero_cont w)
  have HE := Lib.hid hE
  have hlt := hE.lt
  have HCU : Hid (∀ W, Fr [] w W → ∀ g n, BytesAt W (some ⟨g, 0, none⟩) [84, 80, 80, 84] → Calls Tryz.prog 43 #[.slice a bs.length cap, .slice (some ⟨g, 0, none⟩) 4 n] W (CutTo bs [84, 80, 80, 84] a cap W)) := Lib.hid fun W hF g n hM =>
    cutPrefix_at (hA.fr hF (fun _ _ => by simp)) hM hB (fun x hx => by simp at hx; unfold B; rcases hx with rfl | rfl | rfl | rfl <;> omega) hc (by decide)
  have hcv := Lib.run_convert_bytes_const (P := Tryz.prog) (w.alloc (.cells #[.int .u64 0, .int .i64 0, .slice none 0 0] 52)) 22 5 #[.int .u8 84, .int .u8 80, .int .u8 80, .int .u8 84] 4 4 Tryz.underlying22 Tryz.underlying5
  have e1 : (w.alloc (.cells #[.int .u64 0, .int .i64 0, .slice none 0 0] 52)).heap.size = w.heap.size + 1 := by simp
  rw [e1] at hcv
  obtain ⟨W1, hW1⟩ : ∃ W1, W1 = (w.alloc (.cells #[.int .u64 0, .int .i64 0, .slice none 0 0] 52)).alloc (.cells #[.int .u8 84, .int .u8 80, .int .u8 80, .int .u8 84] 5 (4, 5)) := ⟨_, rfl⟩
  have hcv' : (convert 22 22 (.slice (some ⟨w.heap.size + 1, 0, none⟩) 4 4)).run Tryz.prog ((w.alloc (.cells #[.int .u64 0, .int .i64 0, .slice none 0 0] 52)).alloc (.cells #[.int .u8 84, .int .u8 80, .int .u8 80, .int .u8 84] 5)) = .ok (.slice (some ⟨w.heap.size + 1, 0, none⟩) 4 4) W1 := by rw [hW1]; exact hcv
  have HF1 : Hid (Fr [] w W1) := by rw [hW1]; exact ((Fr.refl _ _).alloc _).alloc _
  have HZ1 : Hid (W1.heap[w.heap.size]? = some (.cells #[.int .u64 0, .int .i64 0, .slice none 0 0] 52 (0, 0))) := by rw [hW1]; exact ((Fr.refl [] _).alloc _).heap (by simp) (heap_new w _)
  have HM1 : Hid (BytesAt W1 (some ⟨w.heap.size + 1, 0, none⟩) [84, 80, 80, 84]) := by
    have hb : W1.heap[w.heap.size + 1]? = some (.cells #[.int .u8 84, .int .u8 80, .int .u8 80, .int .u8 84] 5 (4, 5)) := by
      rw [hW1, ← e1]
      exact heap_new _ _
    refine Lib.hid fun i x hx => ⟨w.heap.size + 1, 0, rfl, cell_of_heap hb ?_⟩
    match i, hx with
    | 0, hx => cases hx; rfl
    | 1, hx => cases hx; rfl
    | 2, hx => cases hx; rfl
    | 3, hx => cases hx; rfl
  clear hE hcv hW1 e1
  go_enter Tryz.func23, Tryz.ntmps23
  go_wp2_with fail
  refine (HCU.out W1 HF1.out _ _ HM1.out).mono ?_
  rintro e w2 ⟨hF2, ⟨ht, a', c', rfl, hA2, hc2, hb2⟩ | ⟨ht, rfl⟩⟩
  · have ht' : bs.take 4 = [84, 80, 80, 84] := ht
    have hA2' : BytesAt w2 a' (bs.drop 4) := hA2
    have hc2' : (bs.drop 4).length ≤ c' := hc2
    have HDQ : Hid (decQ bs = decC (bs.drop 4)) := Lib.hid (by rw [decQ_C, if_pos ht'])
    have HF2 := Lib.hid (HF1.out.trans hF2)
    have HZ2 := Lib.hid (hF2.heap (by simp) HZ1.out)
    have hal : ∀ q, a' = some q → q.block < w2.heap.size := fun q hq => by
      obtain ⟨p, hp, e⟩ := hb2 q hq
      obtain ⟨g, o, e2, hcl⟩ := hA 0 84 (by
        have := congrArg (fun l => l[0]?) ht'
        simpa using this)
      have := World.block_lt_of_cell? w _ hcl
      rw [hp] at e2
      cases e2
      have e3 : q.block = g := e
      have h5 : g < w.heap.size := this
      have := HF2.out.size
      omega
    obtain ⟨n, hn⟩ : ∃ n, n = (bs.drop 4).length := ⟨_, rfl⟩
    have hn' : ([84, 80, 80, 84] : List Int).length = 4 := rfl
    rw [hn', ← hn]
    have HRD : Hid (ReadAt (w2.alloc (.cells #[.slice a' n c'] 98)) w2.heap.size (bs.drop 4)) := Lib.hid ⟨⟨a', c', by rw [hn]; exact heap_new _ _, hA2'.fr ((Fr.refl [] _).alloc _) (fun _ _ => by simp), hc2', hal⟩, fun x hx => hB x (List.mem_of_mem_drop hx)⟩
    have hsz2 := HF2.out.size
    have HGL : Hid (0 < w2.heap.size ∧ 1 < w2.heap.size) := Lib.hid ⟨by omega, by omega⟩
    have hrc := readContents_at HRD.out ((HE.out.still HF2.out).still ((Fr.refl [] _).alloc _)) HGL.out (by simp; omega)
    have HF3 : Hid (Fr [] w (w2.alloc (.cells #[.slice a' n c'] 98))) := HF2.out.alloc _
    have HZ3 := Lib.hid (((Fr.refl [] w2).alloc (.cells #[.slice a' n c'] 98)).heap (by simp) HZ2.out)
    have hlt2 := lt_of_heap HZ2.out
    have HNE : Hid (w.heap.size ∉ [w2.heap.size]) := by show _ ∉ _; simp; omega
    clear hF2 ht ht' hA2 hA2' hc2 hc2' hb2 hal hn hn' HZ2 HRD hcv'
    cases hq : decC (bs.drop 4) with
    | none =>
      have HNO : Hid (decI bs = none) := Lib.hid (by unfold decI; rw [HDQ.out, hq])
      unfold ContOut at hrc
      rw [hq] at hrc
      clear hq
      go_wp2_with fail
      refine hrc.mono ?_
      rintro e w3 ⟨r, b, hb, rfl, hA3, hF3⟩
      obtain ⟨ra, rc, hrr, -⟩ := hA3.ex
      have q0 := cell_of_heap (o := 0) hrr rfl
      have hz := hF3.heap HNE.out HZ3.out
      have HB := Lib.hid hb
      have hl3 := lt_of_heap hrr
      have hl4 := lt_of_heap hz
      have HF4 := Lib.hid (HF3.out.trans' hF3 (S'' := []) (fun _ _ e => e) (fun j hj e => by simp at e; omega))
      generalize r.length = k at *
      have k0 := cell_of_heap (o := 0) hz rfl; have k1 := cell_of_heap (o := 1) hz rfl; have k2 := cell_of_heap (o := 2) hz rfl; have f0 := frozen_of_heap (o := 0) hz; have f1 := frozen_of_heap (o := 1) hz; have f2 := frozen_of_heap (o := 2) hz
      clear hrc hA3 hF3 hz hrr hb
      go_wp2_with fail
      go_region
      go_wp2_with fail
      (try simp only [Exit.inBlock, Exit.then])
      refine bodyPost_ret (v := .tuple #[.agg #[.int .u64 0, .int .i64 0, .slice none 0 0], .iface 95 (.agg #[.int .i64 k, .iface 185 (.pointer (some b))])]) ?_ rfl ?_
      · rw [results_cell_tmp rfl]
        go_simp
      · unfold DecTo6
        rw [HNO.out]
        have hx := ((fr_three w3 w.heap.size (.int .u64 0) (.int .i64 0) (.slice none 0 0)).alloc (.cells #[.int .u64 0, .int .i64 0, .slice none 0 0] 52)).drew
        exact ⟨_, b, HB.out, rfl, HF4.out.res hx⟩
    | some p =>
      obtain ⟨⟨root, hashes, os⟩, r⟩ := p
      unfold ContOut at hrc
      rw [hq] at hrc
      have HQ := Lib.hid hq
      clear hq
      go_wp2_with fail
      refine hrc.mono ?_
      rintro e w3 ⟨ao, ac, its, rfl, hob, hin, hA3, hF3⟩
      obtain ⟨ra, rc, hrr, -⟩ := hA3.ex
      have q0 := cell_of_heap (o := 0) hrr rfl
      have hz := hF3.heap HNE.out HZ3.out
      have HOB := Lib.hid hob
      have HIN := Lib.hid hin
      have HF4 := Lib.hid (HF3.out.trans' hF3 (S'' := []) (fun _ _ e => e) (fun j hj e => by simp at e; omega))
      have hl3 := lt_of_heap hrr
      have hl4 := lt_of_heap hz
      obtain ⟨N, hN⟩ : ∃ N, N = its.length := ⟨_, rfl⟩
      rw [← hN]
      have HN := Lib.hid hN
      have k0 := cell_of_heap (o := 0) hz rfl; have k1 := cell_of_heap (o := 1) hz rfl; have k2 := cell_of_heap (o := 2) hz rfl; have f0 := frozen_of_heap (o := 0) hz; have f1 := frozen_of_heap (o := 1) hz; have f2 := frozen_of_heap (o := 2) hz
      by_cases hr0 : r = []
      · have HYES : Hid (decI bs = some (root, hashes, os)) := Lib.hid (by unfold decI; rw [HDQ.out, HQ.out]; simp only [if_pos hr0])
        subst hr0
        clear hrc hA3 hF3 hz hrr hob hin hN
        unfold contV
        go_wp2_with fail
        (try simp only [Exit.inBlock, Exit.then])
        refine bodyPost_ret (v := .tuple #[contV root hashes ao N ac, .nilIface]) ?_ rfl ?_
        · rw [results_cell_tmp rfl]
          unfold contV
          go_simp
        · unfold DecTo6
          rw [HYES.out]
          have hx := (fr_three w3 w.heap.size (.int .u64 root) (.int .i64 hashes) (.slice ao N ac)).alloc (.cells #[.int .u64 root, .int .i64 hashes, .slice ao N ac] 52)
          exact ⟨ao, ac, its, by rw [HN.out], HOB.out, (HIN.out.fr hx (fun j hj => by simp at hj; simp; omega)).base (by simp; omega), HF4.out.res hx⟩
      · have HNO : Hid (decI bs = none) := Lib.hid (by unfold decI; rw [HDQ.out, HQ.out]; simp only [if_neg hr0])
        have hr1 : (0 : Int) < (r.length : Int) := by have := List.length_pos_iff.2 hr0; omega
        have hgf := (HE.out.still HF4.out).f
        have hgn : 1 < w.heap.size := hlt.2
        have hgn3 : 1 < w3.heap.size := Nat.lt_trans hgn hl4
        generalize r.length = k at *
        clear hrc hA3 hF3 hz hrr hob hin hN hr0
        unfold contV
        go_wp2_with fail
        go_region
        go_wp2_with fail
        (try simp only [Exit.inBlock, Exit.then])
        refine bodyPost_ret (v := .tuple #[.agg #[.int .u64 0, .int .i64 0, .slice none 0 0], .iface 95 (.agg #[.int .i64 k, .iface 185 (.pointer (some bF))])]) ?_ rfl ?_
        · rw [results_cell_tmp rfl]
          go_simp
        · unfold DecTo6
          rw [HNO.out]
          have hx := ((fr_three w3 w.heap.size (.int .u64 0) (.int .i64 0) (.slice none 0 0)).alloc (.cells #[.int .u64 root, .int .i64 hashes, .slice ao N ac] 52)).drew
          exact ⟨_, bF, .inr rfl, rfl, HF4.out.res hx⟩
  · have ht' : ¬ bs.take 4 = [84, 80, 80, 84] := ht
    have HF2 := Lib.hid (HF1.out.trans hF2)
    have hz := hF2.heap (by simp) HZ1.out
    have HNO : Hid (decI bs = none) := Lib.hid (by unfold decI; rw [decQ_C, if_neg ht'])
    have hgf := (HE.out.still HF2.out).f
    have hgn : 1 < w.heap.size := hlt.2
    generalize bs.length = k at *
    have k0 := cell_of_heap (o := 0) hz rfl; have k1 := cell_of_heap (o := 1) hz rfl; have k2 := cell_of_heap (o := 2) hz rfl; have f0 := frozen_of_heap (o := 0) hz; have f1 := frozen_of_heap (o := 1) hz; have f2 := frozen_of_heap (o := 2) hz
    clear hF2 hz ht ht' hcv'
    go_wp2_with fail
    go_region
    go_wp2_with fail
    (try simp only [Exit.inBlock, Exit.then])
    refine bodyPost_ret (v := .tuple #[.agg #[.int .u64 0, .int .i64 0, .slice none 0 0], .iface 95 (.agg #[.int .i64 k, .iface 185 (.pointer (some bF))])]) ?_ rfl ?_
    · rw [results_cell_tmp rfl]
      go_simp
    · unfold DecTo6
      rw [HNO.out]
      have hx := (fr_three w2 w.heap.size (.int .u64 0) (.int .i64 0) (.slice none 0 0)).drew
      exact ⟨_, bF, .inr rfl, rfl, HF2.out.res hx⟩
end Go.Proofs.YtfhhjdfdfbelgaaGreatDoor
