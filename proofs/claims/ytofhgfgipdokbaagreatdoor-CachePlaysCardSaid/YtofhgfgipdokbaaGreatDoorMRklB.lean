/- A chain of superclasses that is longer than there are objects has nothing new: plain. Where a selector stands among a dictionary's fields. The document's place and Lookup. -/
import Derived.Test.YtofhgfgipdokbaaGreatDoorMRklA
namespace Go.Proofs.YtofhgfgipdokbaaGreatDoor
open Go.RowKit

theorem pigeon : ∀ (N : Nat) (f : Nat → Nat), (∀ k, k ≤ N → f k < N) → ∃ i j, i < j ∧ j ≤ N ∧ f i = f j := by
  intro N
  induction N with
  | zero => intro f h; have := h 0 (Nat.le_refl _); omega
  | succ N ih =>
    intro f h
    by_cases hx : ∃ i, i ≤ N ∧ f i = f (N + 1)
    · obtain ⟨i, hi, e⟩ := hx
      exact ⟨i, N + 1, by omega, Nat.le_refl _, e⟩
    · have hne : ∀ i, i ≤ N → f i ≠ f (N + 1) := fun i hi e => hx ⟨i, hi, e⟩
      have hv := h (N + 1) (Nat.le_refl _)
      obtain ⟨i, j, h1, h2, h3⟩ := ih (fun k => if f k < f (N + 1) then f k else f k - 1) (fun k hk => by
        have a := h k (by omega)
        have b := hne k hk
        show (if f k < f (N + 1) then f k else f k - 1) < N
        split <;> omega)
      refine ⟨i, j, h1, by omega, ?_⟩
      have a := hne i (by omega)
      have b := hne j h2
      have h4 : (if f i < f (N + 1) then f i else f i - 1) = (if f j < f (N + 1) then f j else f j - 1) := h3
      split at h4 <;> split at h4 <;> omega
section
variable {os : List Ob} {root : Int}
theorem lineC_add (a b : Nat) (c : Int) : lineC os root (a + b) c = lineC os root b (lineC os root a c) := by
  induction a generalizing c with
  | zero => rw [Nat.zero_add]; rfl
  | succ a ih => rw [Nat.add_right_comm]; exact ih _
theorem lineC_succ (n : Nat) (c : Int) : lineC os root (n + 1) c = (readF os root (lineC os root n c)).super := lineC_add n 1 c
/-- are the first n of a chain classes? -/
def ChainB (os : List Ob) (root : Int) (n : Nat) (c : Int) : Prop := ∀ k, k < n → isClsB os root (lineC os root k c) = true
theorem lineN_more {n : Nat} : ∀ {c : Int}, ChainB os root (n + 1) c → lineN os root (n + 1) c = lineN os root n c ++ [(lineC os root n c, readF os root (lineC os root n c))] := by
  induction n with
  | zero =>
    intro c h
    have h0 := h 0 (by omega)
    unfold lineN
    rw [show lineC os root 0 c = c from rfl] at h0 ⊢
    rw [h0, if_pos rfl]
    rfl
  | succ n ih =>
    intro c h
    have h0 : isClsB os root c = true := h 0 (by omega)
    have := ih (c := (readF os root c).super) (fun k hk => h (k + 1) (by omega))
    rw [show lineN os root (n + 1 + 1) c = if isClsB os root c then (c, readF os root c) :: lineN os root (n + 1) (readF os root c).super else [] from rfl, h0, if_pos rfl, this]
    rw [show lineN os root (n + 1) c = if isClsB os root c then (c, readF os root c) :: lineN os root n (readF os root c).super else [] from rfl, h0, if_pos rfl]
    rfl
theorem lineN_stop {n : Nat} : ∀ {c : Int}, isClsB os root (lineC os root n c) = false → ChainB os root n c → ∀ m, n ≤ m → lineN os root m c = lineN os root n c := by
  induction n with
  | zero =>
    intro c h _ m _
    cases m with
    | zero => rfl
    | succ m =>
      show (if isClsB os root c then _ else _) = _
      rw [show isClsB os root c = false from h]
      rfl
  | succ n ih =>
    intro c h hc m hm
    obtain ⟨m, rfl⟩ : ∃ q, m = q + 1 := ⟨m - 1, by omega⟩
    have h0 : isClsB os root c = true := hc 0 (by omega)
    have := ih (c := (readF os root c).super) h (fun k hk => hc (k + 1) (by omega)) m (by omega)
    show (if isClsB os root c then (c, readF os root c) :: lineN os root m (readF os root c).super else []) = (if isClsB os root c then (c, readF os root c) :: lineN os root n (readF os root c).super else [])
    rw [this]
theorem lineN_mem {n k : Nat} : ∀ {c : Int}, ChainB os root n c → k < n → (lineC os root k c, readF os root (lineC os root k c)) ∈ lineN os root n c := by
  induction n generalizing k with
  | zero => intro c _ h; omega
  | succ n ih =>
    intro c h hk
    have h0 : isClsB os root c = true := h 0 (by omega)
    show _ ∈ (if isClsB os root c then (c, readF os root c) :: lineN os root n (readF os root c).super else [])
    rw [h0, if_pos rfl]
    cases k with
    | zero => exact List.mem_cons_self
    | succ k => exact List.mem_cons_of_mem _ (ih (c := (readF os root c).super) (fun q hq => h (q + 1) (by omega)) (by omega))
theorem cls_ref {x : Int} (h : isClsB os root x = true) : ∃ i, i < os.length ∧ x = refI os i := by
  unfold isClsB at h
  simp only [Bool.and_eq_true] at h
  obtain ⟨⟨⟨⟨⟨h4, -⟩, -⟩, -⟩, -⟩, -⟩ := h
  cases hl : lookP 1 os x with
  | none =>
    unfold sizeAt at h4
    rw [hl] at h4
    simp at h4
  | some o =>
    obtain ⟨i, hi, hx, -⟩ := look_ref hl
    exact ⟨i, (List.getElem?_eq_some_iff.1 hi).1, hx⟩
/-- behind as many steps as there are objects nothing is new -/
theorem chain_old {n : Nat} {c : Int} (hn : os.length ≤ n) (h : ChainB os root (n + 1) c) : ∃ m, m < n ∧ lineC os root n c = lineC os root m c := by
  have hix : ∀ k, ∃ i, k ≤ n → i < os.length ∧ lineC os root k c = refI os i := fun k => by
    by_cases hk : k ≤ n
    · obtain ⟨i, h1, h2⟩ := cls_ref (h k (by omega))
      exact ⟨i, fun _ => ⟨h1, h2⟩⟩
    · exact ⟨0, fun e => absurd e hk⟩
  obtain ⟨f, hf⟩ := Classical.axiomOfChoice hix
  obtain ⟨i, j, h1, h2, h3⟩ := pigeon n f (fun k hk => by have := (hf k hk).1; omega)
  have hij : lineC os root i c = lineC os root j c := by rw [(hf i (by omega)).2, (hf j h2).2, h3]
  refine ⟨n - (j - i), by omega, ?_⟩
  have e1 := lineC_add (os := os) (root := root) j (n - j) c
  have e2 := lineC_add (os := os) (root := root) i (n - j) c
  rw [show j + (n - j) = n by omega] at e1
  rw [show i + (n - j) = n - (j - i) by omega] at e2
  rw [e1, e2, hij]
theorem lookL_app {s : Int} {l l' : List (Int × Frm)} : lookL os s (l ++ l') = (lookL os s l).or (lookL os s l') := by
  unfold lookL
  rw [List.findSome?_append]
theorem chain_dec (n : Nat) (c : Int) : ChainB os root n c ∨ ∃ k, k < n ∧ isClsB os root (lineC os root k c) = false ∧ ChainB os root k c := by
  induction n with
  | zero => exact .inl (fun k hk => absurd hk (by omega))
  | succ n ih =>
    rcases ih with h | ⟨k, h1, h2, h3⟩
    · cases e : isClsB os root (lineC os root n c) with
      | true => exact .inl (fun k hk => by
          by_cases hkn : k = n
          · rw [hkn]; exact e
          · exact h k (by omega))
      | false => exact .inr ⟨n, by omega, e, h⟩
    · exact .inr ⟨k, by omega, h2, h3⟩
theorem lookL_step {s : Int} {n : Nat} {c : Int} (hn : os.length ≤ n) : lookL os s (lineN os root (n + 1) c) = lookL os s (lineN os root n c) := by
  rcases chain_dec (os := os) (root := root) (n + 1) c with h | ⟨k, h1, h2, h3⟩
  · rw [lineN_more h, lookL_app]
    cases hl : lookL os s (lineN os root n c) with
    | some m => rfl
    | none =>
      obtain ⟨m, hm, e⟩ := chain_old hn h
      have hmem := lineN_mem (k := m) (n := n) (c := c) (os := os) (root := root) (fun q hq => h q (by omega)) hm
      unfold lookL at hl ⊢
      rw [List.findSome?_eq_none_iff] at hl
      have := hl _ hmem
      rw [e]
      simp only [List.findSome?_cons, List.findSome?_nil]
      rw [this]
      rfl
  · rw [lineN_stop h2 h3 (n + 1) (by omega), lineN_stop h2 h3 n (by omega)]
theorem lookL_all {s : Int} {n : Nat} {c : Int} (hn : os.length ≤ n) : lookL os s (lineN os root n c) = lookL os s (lineN os root os.length c) := by
  obtain ⟨d, rfl⟩ : ∃ d, n = os.length + d := ⟨n - os.length, by omega⟩
  clear hn
  induction d with
  | zero => rfl
  | succ d ih => rw [← Nat.add_assoc, lookL_step (by omega), ih]
/-- where a selector stands, pair by pair -/
def placeN (fs : List Int) (s : Int) : Option Nat := (List.range (fs.length / 2)).find? fun i => fs[2 * i]?.getD 0 == s
def placeW (fs : List Int) (s : Int) : Int := match placeN fs s with | some i => ((2 * i : Nat) : Int) | none => -1
theorem find_congr {α : Type} {p q : α → Bool} : ∀ {l : List α}, (∀ x ∈ l, p x = q x) → l.find? p = l.find? q
  | [], _ => rfl
  | x :: l, h => by
    rw [List.find?_cons, List.find?_cons, h x List.mem_cons_self, find_congr (fun y hy => h y (List.mem_cons_of_mem _ hy))]
theorem findI_place {d s : Int} (he : (fsAt os d).length % 2 = 0) : findI os d s = (placeN (fsAt os d) s).map (prAt os d) := by
  have hsz : (fsAt os d).length = sizeAt os d := fsAt_len os d
  unfold findI placeN prs
  rw [List.find?_map]
  have h1 : prN os d = (fsAt os d).length / 2 := by unfold prN; omega
  rw [h1]
  congr 1
  refine find_congr fun i hi => ?_
  rw [List.mem_range] at hi
  show ((fieldV os d ((2 * i : Nat) : Int)) == s) = _
  have h2 : fieldV os d ((2 * i : Nat) : Int) = (fsAt os d)[2 * i]?.getD 0 := by
    unfold fieldV
    rw [if_pos ⟨by omega, by omega⟩, fieldAt_fs]
    rfl
  rw [h2]
theorem placeN_lt {fs : List Int} {s : Int} {i : Nat} (h : placeN fs s = some i) : 2 * i + 1 < fs.length := by
  have := List.mem_of_find?_eq_some h
  rw [List.mem_range] at this
  omega
theorem prAt_val {d : Int} {i : Nat} (h : 2 * i + 1 < (fsAt os d).length) : (prAt os d i).2.2 = (fsAt os d)[2 * i + 1]?.getD 0 := by
  have hsz : (fsAt os d).length = sizeAt os d := fsAt_len os d
  show fieldV os d (((2 * i : Nat) : Int) + 1) = _
  unfold fieldV
  rw [if_pos ⟨by omega, by omega⟩, fieldAt_fs]
  congr 2
end
end Go.Proofs.YtofhgfgipdokbaaGreatDoor
namespace Go.Proofs.YtofhgfgipdokbaaGreatDoor
open Go.RowKit

section
variable {W : World} {rb : Nat} {lim root hashes : Int} {os : List Ob} {l : List RO} {lv : Value}
set_option maxRecDepth 100000 in
set_option maxHeartbeats 2000000 in
theorem r7place (w : World) {fa : Option Addr} {fc : Nat} (fs : List Int) (hW : WordsAt w fa fs) (s : Int) (hl : fs.length ≤ 65536) (he : fs.length % 2 = 0) : Calls Tryz.prog 55 #[.slice fa fs.length fc, .int .u64 s] w (Still (.int .i64 (placeW fs s)) w) := by
  have HW := Lib.hid hW
  obtain ⟨n, hn⟩ : ∃ n, n = fs.length := ⟨_, rfl⟩
  rw [← hn] at hl he ⊢
  have HN := Lib.hid hn
  clear hW hn
  go_enter Tryz.func55, Tryz.ntmps55
  go_wp2_with fail
  go_loopw [5] (fun iv wr => ∃ k : Nat, 2 * k ≤ n ∧ iv = .int .i64 ((2 * k : Nat) : Int) ∧ Hid (∀ j, j < k → fs[2 * j]?.getD 0 ≠ s) ∧ Hid (Fr [] w wr)) (fun iv _ => n + 1 - (intOf iv).toNat)
  case atStart => exact ⟨0, by omega, rfl, Lib.hid (fun j hj => absurd hj (by omega)), Fr.refl _ _⟩
  case round =>
    obtain ⟨k, hk, rfl, hp, hF⟩ := hrel
    by_cases hlt : 2 * k < n
    · obtain ⟨x, hx⟩ : ∃ x, fs[2 * k]? = some x := ⟨_, List.getElem?_eq_getElem (by rw [← HN.out]; exact hlt)⟩
      obtain ⟨g, o, rfl, hc⟩ := HW.out _ x hx
      have hc' := hF.out.cell (by simp) hc
      have hw1 : IntKind.i64.wrap (((2 * k : Nat) : Int) + 1) = ((2 * k + 1 : Nat) : Int) := by rw [IntKind.wrap_i64]; omega
      have hw2 : IntKind.i64.wrap (((2 * k : Nat) : Int) + 2) = ((2 * (k + 1) : Nat) : Int) := by rw [IntKind.wrap_i64]; omega
      have k0 : (0 : Int) ≤ ((2 * k : Nat) : Int) := by omega
      have k1 : ((2 * k : Nat) : Int) < (n : Int) := by omega
      have k2 : ((2 * k + 1 : Nat) : Int) < (n : Int) := by omega
      have HXK := Lib.hid hx
      clear hc hx
      by_cases hs : x = s
      · subst hs
        have HP : Hid (placeW fs x = ((2 * k : Nat) : Int)) := by
          have h1 : placeN fs x = some k := by
            unfold placeN
            rw [List.find?_range_eq_some]
            refine ⟨by rw [HXK.out]; simp, by have := HN.out; simp; omega, fun j hj => ?_⟩
            simpa using hp.out j hj
          unfold placeW
          rw [h1]
          exact rfl
        go_wp2_with fail
        go_ret
        exact ⟨ret1 (by rw [HP.out]; rfl), hF.out⟩
      · have hs1 : (x == s) = false := by simpa using hs
        have HP2 : Hid (∀ j, j < k + 1 → fs[2 * j]?.getD 0 ≠ s) := Lib.hid (fun j hj => by
          by_cases e : j = k
          · rw [e, HXK.out]
            exact hs
          · exact hp.out j (by omega))
        go_wp2_with fail
        go_roundw
        case rel => exact ⟨k + 1, by omega, by go_num, HP2, hF⟩
        case measure => simp [intOf]; omega
    · have hke : 2 * k = n := by omega
      have hw1 : IntKind.i64.wrap (((2 * k : Nat) : Int) + 1) = ((2 * k + 1 : Nat) : Int) := by rw [IntKind.wrap_i64]; omega
      have hkd : decide (((2 * k + 1 : Nat) : Int) < (n : Int)) = false := by simp; omega
      have HP : Hid (placeW fs s = -1) := by
        have h1 : placeN fs s = none := by
          unfold placeN
          rw [List.find?_range_eq_none]
          intro j hj
          have := HN.out
          simpa using hp.out j (by omega)
        unfold placeW
        rw [h1]
        exact rfl
      go_wp2_with fail
      go_ret
      exact ⟨ret1 (by rw [HP.out]; rfl), hF.out⟩
end
/-- what Lookup comes to, in as many steps as there are objects -/
theorem lookR_objs {os : List Ob} {root c s : Int} : lookR os root c s = if isSelB os root s then lookL os s (lineN os root os.length c) else none := by
  unfold lookR lineK
  rw [lookL_all (by have : ∀ q : List Ob, 1 + q.length * 3 ≤ endOf q := len_end; have := this os; omega)]
theorem lookL_hit {os : List Ob} {root c s m : Int} {k : Nat} (hk : k < os.length) (h : lookL os s (lineN os root (k + 1) c) = some m) : lookL os s (lineN os root os.length c) = some m := by
  have key : ∀ d, lookL os s (lineN os root (k + 1 + d) c) = some m := fun d => by
    induction d with
    | zero => exact h
    | succ d ih =>
      rcases chain_dec (os := os) (root := root) (k + 1 + d + 1) c with hc | ⟨q, h1, h2, h3⟩
      · rw [← Nat.add_assoc, lineN_more hc, lookL_app, ih]
        rfl
      · rw [← Nat.add_assoc, lineN_stop h2 h3 (k + 1 + d + 1) (by omega)]
        rw [lineN_stop h2 h3 (k + 1 + d) (by omega)] at ih
        exact ih
  have := key (os.length - (k + 1))
  rwa [show k + 1 + (os.length - (k + 1)) = os.length by omega] at this
/-- what a class on the chain says of a selector -/
theorem lookL_next {os : List Ob} {root c s : Int} {k : Nat} (hc : ChainB os root (k + 1) c) (h0 : lookL os s (lineN os root k c) = none) : lookL os s (lineN os root (k + 1) c) = (findI os (readF os root (lineC os root k c)).dict s).map (fun q => q.2.2) := by
  rw [lineN_more hc, lookL_app, h0]
  unfold lookL
  simp
section
variable {W : World} {rb : Nat} {lim root hashes : Int} {os : List Ob} {l : List RO} {lv : Value}
theorem RpAt.lineB (h : RpAt W rb lim os root hashes l lv) {c : Int} (hc : WB c) : ∀ k, WB (lineC os root k c) := by
  intro k
  induction k with
  | zero => exact hc
  | succ k ih =>
    rw [lineC_succ]
    unfold readF
    split
    · exact h.field _ 0
    · exact ⟨by show (0 : Int) ≤ 0; omega, by show (0 : Int) ≤ _; omega⟩
theorem dict_of {x : Int} (h : isClsB os root x = true) : sizeAt os x = 4 ∧ dictOk os root (fieldAt os x 1) = true ∧ (readF os root x).dict = dictV os root (fieldAt os x 1) ∧ (readF os root x).super = fieldAt os x 0 := by
  have h' := h
  unfold isClsB at h'
  simp only [Bool.and_eq_true] at h'
  obtain ⟨⟨⟨⟨⟨h4, -⟩, -⟩, h1⟩, -⟩, -⟩ := h'
  refine ⟨by simpa using h4, h1, ?_, ?_⟩
  · unfold readF; rw [if_pos h]; rfl
  · unfold readF; rw [if_pos h]; rfl
set_option maxRecDepth 100000 in
set_option maxHeartbeats 4000000 in
theorem r7lookup (h : RpAt W rb lim os root hashes l lv) (c s : Int) (hc : WB c) (hs : WB s) : Calls Tryz.prog 38 #[.pointer (some ⟨rb, 0, none⟩), .int .u64 c, .int .u64 s] W (fun e W' => e = .returned (lookV (lookR os root c s)) ∧ Fr [] W W') := by
  obtain ⟨lo, lc, hlv⟩ := row_shape h.ref.row
  have hrow : (RH.mk lim l root hashes).l = l := rfl
  have hlen : l.length = os.length := h.agr.len
  have c1 : W.cell? ⟨rb, 1, none⟩ = some lv := cell_of_heap h.ref.heap rfl
  rw [hlv, hrow, hlen] at c1
  have H := Lib.hid h
  have HLB := Lib.hid (h.lineB hc)
  have hN : os.length ≤ 65536 := by rw [← hlen]; exact h.ref.most
  obtain ⟨N, hNN⟩ : ∃ N, N = os.length := ⟨_, rfl⟩
  have HN := Lib.hid hNN
  rw [← hNN] at c1 hN
  have HNM := Lib.hid (fun W' (hF : Fr [] W W') => r7named (h.fr0 hF) s hs)
  have HIS := Lib.hid (fun W' x (hF : Fr [] W W') hx => r7is (h.fr0 hF) x hx)
  have HDI := Lib.hid (fun W' x (hF : Fr [] W W') hx hz => r7dict (h.fr0 hF) x hx hz)
  have HFE := Lib.hid (fun W' x (hF : Fr [] W W') hx => r7fetch (h.fr0 hF) x 0 hx (by omega) (by omega))
  rw [lookR_objs]
  clear h hlv hrow hlen hNN
  go_enter Tryz.func38, Tryz.ntmps38
  go_wp2_with fail
  go_loopw [1, 8] (fun cv iv wr => ∃ k : Nat, k ≤ N ∧ iv = .int .i64 k ∧ cv = .int .u64 (lineC os root k c) ∧ Hid (ChainB os root k c) ∧ Hid (lookL os s (lineN os root k c) = none) ∧ Hid (Fr [] W wr)) (fun _ iv _ => N - (intOf iv).toNat)
  case atStart => exact ⟨0, by omega, rfl, rfl, Lib.hid (fun j hj => absurd hj (by omega)), Lib.hid rfl, Fr.refl _ _⟩
  case round =>
    obtain ⟨k, hk, rfl, rfl, hC, hL, hF⟩ := hrel
    have c1' := hF.out.cell (by simp) c1
    have hnm := HNM.out wr hF.out
    have k0 : (0 : Int) ≤ (k : Int) := by omega
    by_cases hlt : k < N
    · have k1 : (k : Int) < (N : Int) := by omega
      cases hse : isSelB os root s
      · rw [hse] at hnm
        go_wp2_with (go_at_call 52; refine hnm.mono ?_; rintro e w' ⟨rfl, rfl⟩)
        all_goals go_ret2
        all_goals exact ⟨rfl, hF.out⟩
      · rw [hse] at hnm
        have his := HIS.out wr _ hF.out (HLB.out k)
        cases hcl : isClsB os root (lineC os root k c)
        · rw [hcl] at his
          have HR : Hid (lookL os s (lineN os root os.length c) = none) := Lib.hid (by rw [lineN_stop hcl hC.out os.length (by rw [← HN.out]; exact hk)]; exact hL.out)
          clear hcl
          go_wp2_with (first | (go_at_call 52; refine hnm.mono ?_; rintro e w' ⟨rfl, rfl⟩) | (go_at_call 53; refine his.mono ?_; rintro e w2 ⟨rfl, hF2⟩; have HF2 := Lib.hid (hF.out.trans hF2); clear hF2))
          all_goals go_ret2
          all_goals (simp only; rw [HR.out]; exact ⟨rfl, HF2.out⟩)
        · rw [hcl] at his
          obtain ⟨d1, d2, d3, d4⟩ := dict_of hcl
          have HCL := Lib.hid hcl
          have HC1 : Hid (ChainB os root (k + 1) c) := Lib.hid (fun j hj => by
            by_cases e : j = k
            · rw [e]; exact HCL.out
            · exact hC.out j (by omega))
          have HD1 := Lib.hid d1
          have HD2 := Lib.hid d2
          have HD3 := Lib.hid d3
          have HD4 := Lib.hid d4
          clear hcl d1 d2 d3 d4
          go_wp2_with (first | (go_at_call 52; refine hnm.mono ?_; rintro e w' ⟨rfl, rfl⟩) | (go_at_call 53; refine his.mono ?_; rintro e w2 ⟨rfl, hF2⟩; have HF2 := Lib.hid (hF.out.trans hF2); clear hF2))
          refine (HDI.out w2 _ HF2.out (HLB.out k) (by rw [HD1.out]; omega)).mono ?_
          rintro e w3 ⟨hF3, ⟨hd, -⟩ | ⟨-, fa, fc, rfl, hW3, hL3, hE3⟩⟩
          · rw [HD2.out] at hd
            cases hd
          · obtain ⟨d, hde⟩ : ∃ d, d = dictV os root (fieldAt os (lineC os root k c) 1) := ⟨_, rfl⟩
            rw [← hde] at hW3 hL3 hE3 ⊢
            have HNX : Hid (lookL os s (lineN os root (k + 1) c) = ((placeN (fsAt os d) s).map (prAt os d)).map (fun q => q.2.2)) := Lib.hid (by rw [lookL_next HC1.out hL.out, HD3.out, ← hde, findI_place hE3])
            have hpl := r7place w3 (fc := fc) (fsAt os d) (hW3.fr hF3 (fun _ _ => by simp)) s hL3 hE3
            have HF3 := Lib.hid (HF2.out.trans hF3)
            have HW3 := Lib.hid (hW3.fr hF3 (fun _ _ => by simp))
            obtain ⟨n, hn⟩ : ∃ n, n = (fsAt os d).length := ⟨_, rfl⟩
            rw [← hn] at hL3 hpl ⊢
            have HNN := Lib.hid hn
            clear hF3 hW3 hE3 hn hde hnm his
            cases hpn : placeN (fsAt os d) s with
            | some i =>
              have hil := placeN_lt hpn
              obtain ⟨y, hy⟩ : ∃ y, (fsAt os d)[2 * i + 1]? = some y := ⟨_, List.getElem?_eq_getElem hil⟩
              have hpv : placeW (fsAt os d) s = ((2 * i : Nat) : Int) := by unfold placeW; rw [hpn]
              rw [hpv] at hpl
              have HRES : Hid (lookL os s (lineN os root os.length c) = some y) := Lib.hid (lookL_hit (by rw [← HN.out]; exact hlt) (by
                rw [HNX.out, hpn]
                show some (prAt os d i).2.2 = some y
                rw [prAt_val hil, hy]
                rfl))
              obtain ⟨g, off, rfl, hcy⟩ := HW3.out _ y hy
              have hw1 : IntKind.i64.wrap (((2 * i : Nat) : Int) + 1) = ((2 * i + 1 : Nat) : Int) := by rw [← HNN.out] at hil; rw [IntKind.wrap_i64]; omega
              have i0 : (0 : Int) ≤ ((2 * i : Nat) : Int) := by omega
              have i1 : ((2 * i + 1 : Nat) : Int) < (n : Int) := by rw [← HNN.out] at hil; omega
              have i2 : (0 : Int) ≤ ((2 * i + 1 : Nat) : Int) := by omega
              have HCY := Lib.hid hcy
              clear hpn hil hy hpv hcy
              go_wp2_with (first | (go_at_call 55; refine hpl.mono ?_; rintro e w4 ⟨rfl, hF4⟩; have hcy4 := hF4.cell (by simp) HCY.out; have HF4 := Lib.hid (HF3.out.trans hF4); clear hF4))
              go_ret2
              simp only
              rw [HRES.out]
              exact ⟨rfl, HF4.out⟩
            | none =>
              have hpv : placeW (fsAt os d) s = -1 := by unfold placeW; rw [hpn]
              rw [hpv] at hpl
              have HL1 : Hid (lookL os s (lineN os root (k + 1) c) = none) := Lib.hid (by rw [HNX.out, hpn]; rfl)
              have hfe := fun w' (hF : Fr [] W w') => HFE.out w' _ hF (HLB.out k)
              have e1 : fieldV os (lineC os root k c) 0 = lineC os root (k + 1) c := by
                rw [lineC_succ, HD4.out]
                unfold Proofs.YtofhgfgipdokbaaGreatDoor.fieldV
                rw [if_pos ⟨by omega, by rw [HD1.out]; omega⟩]
                rfl
              rw [e1] at hfe
              have HFF := Lib.hid hfe
              clear hpn hpv hfe e1
              go_wp2_with (first
                | (go_at_call 55; refine hpl.mono ?_; rintro e w4 ⟨rfl, hF4⟩; have HF4 := Lib.hid (HF3.out.trans hF4); have hfe4 := HFF.out w4 HF4.out; clear hF4)
                | (go_at_call 56; refine hfe4.mono ?_; rintro e w5 ⟨rfl, rfl⟩))
              go_roundw
              case rel => exact ⟨k + 1, by omega, by go_num, rfl, HC1, HL1, HF4⟩
              case measure => simp [intOf]; omega
    · have hke : k = N := by omega
      have hkd : decide ((k : Int) < (N : Int)) = false := by simp; omega
      have HR : Hid (lookL os s (lineN os root os.length c) = none) := Lib.hid (by rw [← HN.out, ← hke]; exact hL.out)
      clear hke hnm
      go_wp2_with fail
      all_goals go_ret2
      all_goals first | exact ⟨rfl, hF.out⟩ | exact ⟨by rw [HR.out]; rfl, hF.out⟩ | exact ⟨by simp only [if_true]; rw [HR.out]; rfl, hF.out⟩
end
end Go.Proofs.YtofhgfgipdokbaaGreatDoor
