/- The document's heap (tappetref02): its objects in memory; what its readers return. The document's heap: Used, Size, Class, Fetch; SetClass, Hash, Store, SetRoot; New. The document's heap: SetClass, Hash, Store, SetRoot. The document's heap: ref, Alloc. -/
import Derived.Test.YtofhgfgipdokbaaGreatDoorMPlaces
namespace Go.Proofs.YtofhgfgipdokbaaGreatDoor
open Go.RowKit

theorem rIsInt (n : Int) (w : World) (h1 : 0 ≤ n) (h2 : n ≤ 18446744073709551615) : Calls Tryz.prog 65 #[.int .u64 n] w (Gives (.bool (odd n)) w) := by
  have hw : IntKind.u64.wrap (n.tmod 2) = n % 2 := by rw [wrap_u64_eq, Int.tmod_eq_emod_of_nonneg h1]; omega
  go_enter Tryz.func65, Tryz.ntmps65
  go_wp2
  go_ret
  refine ⟨ret1 (vb ?_), rfl⟩
  unfold odd
  first
    | rfl
    | (rw [hw]; rfl)
    | (simp only [hw]; rfl)
    | (simp [Int.tmod_eq_emod_of_nonneg h1])
theorem rRef_no (n : Int) (w : World) (h1 : 0 ≤ n) (h2 : n ≤ 18446744073709551615) (h : rfOk n = false) : Calls Tryz.prog 81 #[.int .u64 n] w (Gives (.tuple #[.int .i64 0, .int .i64 1]) w) := by
  have h' : ¬ (n % 2 = 0 ∧ 1 ≤ n / 2 ∧ n / 2 ≤ 2147483647) := by rw [← rfOk_iff, h]; simp
  clear h
  cases h : odd n
  · have ho := (odd_not n).1 h
    by_cases h3 : n / 2 < 1
    · clear h' ho
      go_enter Tryz.func81, Tryz.ntmps81
      go_wp2_with (go_at_call 65; refine (rIsInt _ _ h1 h2).mono ?_; rintro e w' ⟨rfl, rfl⟩)
      go_ret2
      exact ⟨rfl, rfl⟩
    · have h4 : 2147483647 < n / 2 := by omega
      clear h' ho
      go_enter Tryz.func81, Tryz.ntmps81
      go_wp2_with (go_at_call 65; refine (rIsInt _ _ h1 h2).mono ?_; rintro e w' ⟨rfl, rfl⟩)
      go_ret2
      exact ⟨rfl, rfl⟩
  · clear h'
    go_enter Tryz.func81, Tryz.ntmps81
    go_wp2_with (go_at_call 65; refine (rIsInt _ _ h1 h2).mono ?_; rintro e w' ⟨rfl, rfl⟩)
    go_ret2
    exact ⟨rfl, rfl⟩
theorem rRef_yes (n : Int) (w : World) (h1 : 0 ≤ n) (h2 : n ≤ 18446744073709551615) (h : rfOk n = true) : Calls Tryz.prog 81 #[.int .u64 n] w (Gives (.tuple #[.int .i64 (n / 2), .int .i64 0]) w) := by
  rw [rfOk_iff] at h
  obtain ⟨h3, h4, h5⟩ := h
  have h := (odd_not n).2 h3
  clear h3
  go_enter Tryz.func81, Tryz.ntmps81
  go_wp2_with (go_at_call 65; refine (rIsInt _ _ h1 h2).mono ?_; rintro e w' ⟨rfl, rfl⟩)
  go_ret2
  exact ⟨rfl, rfl⟩
/-- an object: its block, its fields' slice; class, hash, fields, place -/
structure RO where
  b : Nat
  fv : Value
  cls : Int
  hash : Int
  fs : List Int
  pos : Nat
def RO.ptr (o : RO) : Value := .pointer (some ⟨o.b, 0, none⟩)
structure RO.At (o : RO) (w : World) : Prop where
  cells : w.heap[o.b]? = some (.cells #[.int .u64 o.cls, .int .i64 o.hash, o.fv, .int .i64 o.pos] 63 (0, 0))
  row : w.ownsRow 0 24 1 o.fv o.fs.length (o.fs.map (Value.int .u64))
/-- two objects that share no memory -/
def RO.Apart (a b : RO) : Prop := a.b ≠ b.b ∧ ∀ k, a.fv.ownBlock = some k → b.fv.ownBlock ≠ some k
def RO.blocks (o : RO) : List Nat := o.b :: o.fv.ownBlock.toList
/-- the document's heap: its words, objects, root, how many hashes were given -/
structure RH where
  n : Int
  l : List RO
  root : Int
  last : Int
structure RefAt (w : World) (rb : Nat) (r : RH) (lv : Value) : Prop where
  heap : w.heap[rb]? = some (.cells #[.int .i64 r.n, lv, .int .u64 r.root, .int .i64 r.last] 93 (0, 0))
  row : w.ownsRow 0 103 1 lv r.l.length (r.l.map RO.ptr)
  objs : ∀ o ∈ r.l, o.At w
  apart : r.l.Pairwise RO.Apart
  most : r.l.length ≤ 65536
  small : ∀ o ∈ r.l, 1 ≤ o.pos ∧ o.pos + 3 + o.fs.length ≤ 65536
def rfoot (rb : Nat) (r : RH) (lv : Value) : List Nat := rb :: (lv.ownBlock.toList ++ r.l.flatMap RO.blocks)
theorem rfoot_b {rb : Nat} {r : RH} {lv : Value} {o : RO} (h : o ∈ r.l) : o.b ∈ rfoot rb r lv := by
  simp only [rfoot, List.mem_cons, List.mem_append, List.mem_flatMap]
  exact .inr (.inr ⟨o, h, by simp [RO.blocks]⟩)
theorem rfoot_f {rb : Nat} {r : RH} {lv : Value} {o : RO} (h : o ∈ r.l) {k : Nat} (hk : o.fv.ownBlock = some k) : k ∈ rfoot rb r lv := by
  simp only [rfoot, List.mem_cons, List.mem_append, List.mem_flatMap]
  exact .inr (.inr ⟨o, h, by simp [RO.blocks, hk]⟩)
theorem RO.At.fr {S : List Nat} {w w' : World} {o : RO} (h : o.At w) (hF : Fr S w w') (h1 : o.b ∉ S) (h2 : ∀ k, o.fv.ownBlock = some k → k ∉ S) : o.At w' := ⟨hF.heap h1 h.cells, hF.row h.row h2⟩
theorem RefAt.fr {S : List Nat} {w w' : World} {rb : Nat} {r : RH} {lv : Value} (h : RefAt w rb r lv) (hF : Fr S w w') (hS : ∀ k ∈ rfoot rb r lv, k ∉ S) : RefAt w' rb r lv :=
  ⟨hF.heap (hS rb (by simp [rfoot])) h.heap, hF.row h.row (fun k hk => hS k (by simp [rfoot, hk])), fun o ho => (h.objs o ho).fr hF (hS _ (rfoot_b ho)) (fun k hk => hS k (rfoot_f ho hk)), h.apart, h.most, h.small⟩
theorem RefAt.lt {w : World} {rb : Nat} {r : RH} {lv : Value} (h : RefAt w rb r lv) : ∀ k ∈ rfoot rb r lv, k < w.heap.size := by
  intro k hk
  simp only [rfoot, List.mem_cons, List.mem_append, List.mem_flatMap, Option.mem_toList, RO.blocks] at hk
  rcases hk with rfl | hk | ⟨o, ho, rfl | hk⟩
  · exact lt_of_heap h.heap
  · obtain ⟨c, hc⟩ := row_heap h.row hk; exact lt_of_heap hc
  · exact lt_of_heap (h.objs o ho).cells
  · obtain ⟨c, hc⟩ := row_heap (h.objs o ho).row hk; exact lt_of_heap hc

/-- the object to which a word leads -/
def findR (l : List RO) (x : Int) : Option RO := if rfOk x then l.find? (fun o => decide ((o.pos : Int) = x / 2)) else none
def optPtr : Option RO → Value
  | none => .pointer none
  | some o => o.ptr
theorem findR_mem {l : List RO} {x : Int} {o : RO} (h : findR l x = some o) : o ∈ l := by
  unfold findR at h
  split at h
  · exact List.mem_of_find?_eq_some h
  · cases h
set_option maxHeartbeats 1000000 in
theorem rfind {w : World} {rb : Nat} {r : RH} {lv : Value} (h : RefAt w rb r lv) (x : Int) (h1 : 0 ≤ x) (h2 : x ≤ 18446744073709551615) :
    Calls Tryz.prog 64 #[.pointer (some ⟨rb, 0, none⟩), .int .u64 x] w (Gives (optPtr (findR r.l x)) w) := by
  obtain ⟨ao, cap, rfl⟩ := row_shape h.row
  have hl : w.cell? ⟨rb, 1, none⟩ = some (.slice ao r.l.length cap) := cell_of_heap h.heap rfl
  have hm := h.most
  cases hx : rfOk x
  · have hr := rRef_no x w h1 h2 hx
    have he : findR r.l x = none := by unfold findR; rw [hx]; rfl
    rw [he]
    clear h hx he
    generalize r.l.length = n at *
    go_enter Tryz.func64, Tryz.ntmps64
    go_wp2_with (go_at_call 81; refine hr.mono ?_; rintro e w' ⟨rfl, rfl⟩)
    go_loop [7] (fun i => i = .int .i64 0) (fun _ => 0)
    case atStart => rfl
    case round =>
      subst hrel
      by_cases hn : 0 < n
      · go_wp2
        go_ret
        exact ⟨rfl, rfl⟩
      · go_wp2
        go_ret
        exact ⟨rfl, rfl⟩
  · have hr := rRef_yes x w h1 h2 hx
    have he : findR r.l x = r.l.find? (fun o => decide ((o.pos : Int) = x / 2)) := by unfold findR; rw [hx]; rfl
    rw [he]
    have HH := Lib.hid h
    obtain ⟨n, hn⟩ : ∃ n, n = r.l.length := ⟨_, rfl⟩
    rw [← hn] at hl hm HH
    have HN := Lib.hid hn
    rw [rfOk_iff] at hx
    obtain ⟨x1, x2, x3⟩ := hx
    obtain ⟨q, hq⟩ : ∃ q, q = x / 2 := ⟨_, rfl⟩
    rw [← hq] at hr x2 x3 ⊢
    clear h he hn hq x1
    go_enter Tryz.func64, Tryz.ntmps64
    go_wp2_with (go_at_call 81; refine hr.mono ?_; rintro e w' ⟨rfl, rfl⟩)
    go_loop [7] (fun i => ∃ k : Nat, k ≤ n ∧ i = .int .i64 k ∧ Hid (r.l.find? (fun o => decide ((o.pos : Int) = q)) = (r.l.drop k).find? (fun o => decide ((o.pos : Int) = q)))) (fun i => n - (intOf i).toNat)
    case atStart => exact ⟨0, Nat.zero_le _, rfl, rfl⟩
    case round =>
      obtain ⟨k, hk, rfl, hd⟩ := hrel
      by_cases hlt : k < n
      · have hkl : k < r.l.length := by rw [← HN.out]; exact hlt
        obtain ⟨o, ho⟩ : ∃ o, o = r.l[k] := ⟨_, rfl⟩
        have hmem : o ∈ r.l := by rw [ho]; exact List.getElem_mem hkl
        obtain ⟨g, cp, hv, hc, -, -⟩ := row_at HH.out.row (i := k) hkl
        cases hv
        rw [List.getElem?_map, List.getElem?_eq_getElem hkl, ← ho] at hc
        simp only [Option.map_some, RO.ptr] at hc
        have hp : w.cell? ⟨o.b, 3, none⟩ = some (.int .i64 o.pos) := cell_of_heap (HH.out.objs o hmem).cells rfl
        have hD : Hid (r.l.drop k = o :: r.l.drop (k + 1)) := by rw [List.drop_eq_getElem_cons hkl, ← ho]; exact rfl
        clear ho hmem hkl
        by_cases hpq : (o.pos : Int) = q
        · subst hpq
          go_wp2
          go_ret
          refine ⟨ret1 ?_, rfl⟩
          rw [hd.out, hD.out, List.find?_cons]
          simp [optPtr, RO.ptr]
        · have hpq' : decide ((o.pos : Int) = q) = false := by simpa using hpq
          go_wp2
          go_round
          case rel => exact ⟨k + 1, by omega, by go_num, by rw [hd.out, hD.out, List.find?_cons, hpq']; exact rfl⟩
          case measure => simp [intOf]; omega
      · have hke : k = n := by omega
        go_wp2
        go_ret
        refine ⟨ret1 ?_, rfl⟩
        rw [hd.out, hke, HN.out, List.drop_length]
        rfl
/-- may a word be? -/
def mayR (l : List RO) (x : Int) : Bool := decide (x = 0) || odd x || (findR l x).isSome
theorem rhas {w : World} {rb : Nat} {r : RH} {lv : Value} (h : RefAt w rb r lv) (x : Int) (h1 : 0 ≤ x) (h2 : x ≤ 18446744073709551615) :
    Calls Tryz.prog 46 #[.pointer (some ⟨rb, 0, none⟩), .int .u64 x] w (Gives (.bool (findR r.l x).isSome) w) := by
  have hf := rfind h x h1 h2
  clear h
  cases hx : findR r.l x with
  | none =>
    rw [hx] at hf
    simp only [optPtr] at hf
    go_enter Tryz.func46, Tryz.ntmps46
    go_wp2_with (go_at_call 64; refine hf.mono ?_; rintro e w' ⟨rfl, rfl⟩)
    go_ret
    exact ⟨rfl, rfl⟩
  | some o =>
    rw [hx] at hf
    simp only [optPtr, RO.ptr] at hf
    go_enter Tryz.func46, Tryz.ntmps46
    go_wp2_with (go_at_call 64; refine hf.mono ?_; rintro e w' ⟨rfl, rfl⟩)
    go_ret
    exact ⟨rfl, rfl⟩
theorem rmay {w : World} {rb : Nat} {r : RH} {lv : Value} (h : RefAt w rb r lv) (x : Int) (h1 : 0 ≤ x) (h2 : x ≤ 18446744073709551615) :
    Calls Tryz.prog 47 #[.pointer (some ⟨rb, 0, none⟩), .int .u64 x] w (Gives (.bool (mayR r.l x)) w) := by
  have hf := rhas h x h1 h2
  have hi := rIsInt x w h1 h2
  clear h
  unfold mayR
  by_cases h0 : x = 0
  · subst h0
    go_enter Tryz.func47, Tryz.ntmps47
    go_wp2
    go_ret
    exact ⟨rfl, rfl⟩
  · have e0 : decide (x = 0) = false := by simpa using h0
    rw [e0]
    cases ho : odd x
    · rw [ho] at hi
      generalize (findR r.l x).isSome = b at *
      go_enter Tryz.func47, Tryz.ntmps47
      go_wp2_with (first | (go_at_call 65; refine hi.mono ?_; rintro e w' ⟨rfl, rfl⟩) | (go_at_call 46; refine hf.mono ?_; rintro e w' ⟨rfl, rfl⟩))
      go_ret
      exact ⟨ret1 (vb (by simp [h0])), rfl⟩
    · rw [ho] at hi
      clear hf
      go_enter Tryz.func47, Tryz.ntmps47
      go_wp2_with (first | (go_at_call 65; refine hi.mono ?_; rintro e w' ⟨rfl, rfl⟩))
      go_ret
      exact ⟨ret1 (vb (by simp)), rfl⟩
end Go.Proofs.YtofhgfgipdokbaaGreatDoor
namespace Go.Proofs.YtofhgfgipdokbaaGreatDoor
open Go.RowKit

/-- how many words are taken -/
def usedR (l : List RO) : Nat := match l.getLast? with | none => 1 | some o => o.pos + 3 + o.fs.length
/-- Returned v, and only draws. -/
def Drawn (v : Value) (w : World) (e : Ending) (w' : World) : Prop := e = .returned v ∧ ∃ m, w' = w.drewN m
theorem rused {w : World} {rb : Nat} {r : RH} {lv : Value} (h : RefAt w rb r lv) : Calls Tryz.prog 43 #[.pointer (some ⟨rb, 0, none⟩)] w (Drawn (.int .i64 (usedR r.l)) w) := by
  obtain ⟨ao, cap, rfl⟩ := row_shape h.row
  have hl : w.cell? ⟨rb, 1, none⟩ = some (.slice ao r.l.length cap) := cell_of_heap h.heap rfl
  have hm := h.most
  cases hx : r.l.getLast? with
  | none =>
    have he : r.l = [] := List.getLast?_eq_none_iff.1 hx
    have hu : usedR r.l = 1 := by unfold usedR; rw [hx]
    rw [hu]
    rw [he, List.length_nil] at hl
    clear h hx he hm hu
    go_enter Tryz.func43, Tryz.ntmps43
    go_wp2
    go_ret
    exact ⟨rfl, 0, rfl⟩
  | some o =>
    have hu : usedR r.l = o.pos + 3 + o.fs.length := by unfold usedR; rw [hx]
    rw [hu]
    have hmem : o ∈ r.l := List.mem_of_getLast? hx
    have hpos : 0 < r.l.length := List.length_pos_of_mem hmem
    rw [List.getLast?_eq_getElem?] at hx
    obtain ⟨g, cp, hv, hc, -, hcap⟩ := row_at h.row (i := r.l.length - 1) (by omega)
    cases hv
    rw [List.getElem?_map, hx] at hc
    simp only [Option.map_some, RO.ptr] at hc
    obtain ⟨fa, fc, hfv⟩ := row_shape (h.objs o hmem).row
    have c2 : w.cell? ⟨o.b, 2, none⟩ = some o.fv := cell_of_heap (h.objs o hmem).cells rfl
    rw [hfv] at c2
    have c3 : w.cell? ⟨o.b, 3, none⟩ = some (.int .i64 o.pos) := cell_of_heap (h.objs o hmem).cells rfl
    have hs := h.small o hmem
    generalize r.l.length = n at *
    generalize o.fs.length = z at *
    generalize o.pos = p at *
    generalize o.b = ob at *
    clear h hx hu hmem hfv
    obtain ⟨s1, s2⟩ := hs
    have wr1 : IntKind.i64.wrap ((n : Int) - 1) = ((n - 1 : Nat) : Int) := by rw [IntKind.wrap_i64]; omega
    have wr2 : IntKind.i64.wrap ((p : Int) + 3) = ((p + 3 : Nat) : Int) := by rw [IntKind.wrap_i64]; omega
    have wr3 : IntKind.i64.wrap (((p + 3 : Nat) : Int) + z) = ((p + 3 + z : Nat) : Int) := by rw [IntKind.wrap_i64]; omega
    have hc1 : w.drew.cell? ⟨g, n - 1, none⟩ = some (.pointer (some ⟨ob, 0, none⟩)) := hc
    have hc2 : w.drew.cell? ⟨ob, 2, none⟩ = some (.slice fa z fc) := c2
    have hc3 : w.drew.cell? ⟨ob, 3, none⟩ = some (.int .i64 p) := c3
    go_enter Tryz.func43, Tryz.ntmps43
    go_wp2
    go_region
    all_goals go_wp2
    all_goals go_region
    all_goals go_wp2
    all_goals go_ret
    all_goals exact ⟨ret1 (vi (by omega)), 2, rfl⟩
/-- a field that is there -/
def fieldR (l : List RO) (x k : Int) : Option Int := match findR l x with | none => none | some o => if 0 ≤ k then o.fs[k.toNat]? else none
theorem rfetch {w : World} {rb : Nat} {r : RH} {lv : Value} (h : RefAt w rb r lv) (x k : Int) (h1 : 0 ≤ x) (h2 : x ≤ 18446744073709551615) (k1 : -9223372036854775808 ≤ k) (k2 : k ≤ 9223372036854775807) :
    Calls Tryz.prog 56 #[.pointer (some ⟨rb, 0, none⟩), .int .u64 x, .int .i64 k] w (Gives (match fieldR r.l x k with | none => .tuple #[.int .u64 0, .int .i64 1] | some y => .tuple #[.int .u64 y, .int .i64 0]) w) := by
  have hf := rfind h x h1 h2
  unfold fieldR
  cases hx : findR r.l x with
  | none =>
    rw [hx] at hf
    simp only [optPtr] at hf ⊢
    clear h hx
    go_enter Tryz.func56, Tryz.ntmps56
    go_wp2_with (go_at_call 64; refine hf.mono ?_; rintro e w' ⟨rfl, rfl⟩)
    go_ret2
    exact ⟨rfl, rfl⟩
  | some o =>
    rw [hx] at hf
    simp only [optPtr, RO.ptr] at hf ⊢
    have hA := h.objs o (findR_mem hx)
    have hs := h.small o (findR_mem hx)
    by_cases hk : 0 ≤ k ∧ k < o.fs.length
    · obtain ⟨n, rfl⟩ : ∃ n : Nat, k = n := ⟨k.toNat, by omega⟩
      have hn : n < o.fs.length := by omega
      obtain ⟨g, fc, hfv, hc, -, hcap⟩ := row_at hA.row hn
      have c2 : w.cell? ⟨o.b, 2, none⟩ = some o.fv := cell_of_heap hA.cells rfl
      rw [hfv] at c2
      rw [if_pos hk.1, Int.toNat_natCast, List.getElem?_eq_getElem hn]
      rw [List.getElem?_map, List.getElem?_eq_getElem hn] at hc
      simp only [Option.map_some] at hc ⊢
      have hz : o.fs.length ≤ 65536 := by omega
      generalize o.fs[n] = y at *
      generalize o.fs.length = z at *
      clear h hA hx hfv hk
      go_enter Tryz.func56, Tryz.ntmps56
      go_wp2_with (go_at_call 64; refine hf.mono ?_; rintro e w' ⟨rfl, rfl⟩)
      go_ret2
      exact ⟨rfl, rfl⟩
    · have he : (if 0 ≤ k then o.fs[k.toNat]? else none) = none := by
        split
        · exact List.getElem?_eq_none_iff.2 (by omega)
        · rfl
      rw [he]
      obtain ⟨fa, fc, hfv⟩ := row_shape hA.row
      have c2 : w.cell? ⟨o.b, 2, none⟩ = some o.fv := cell_of_heap hA.cells rfl
      rw [hfv] at c2
      have hz : o.fs.length ≤ 65536 := by omega
      generalize o.fs.length = z at *
      clear h hA hx hfv he
      by_cases hk0 : k < 0
      · go_enter Tryz.func56, Tryz.ntmps56
        go_wp2_with (go_at_call 64; refine hf.mono ?_; rintro e w' ⟨rfl, rfl⟩)
        go_ret2
        exact ⟨rfl, rfl⟩
      · have hk1 : (z : Int) ≤ k := by omega
        go_enter Tryz.func56, Tryz.ntmps56
        go_wp2_with (go_at_call 64; refine hf.mono ?_; rintro e w' ⟨rfl, rfl⟩)
        go_ret2
        exact ⟨rfl, rfl⟩
end Go.Proofs.YtofhgfgipdokbaaGreatDoor
namespace Go.Proofs.YtofhgfgipdokbaaGreatDoor
open Go.RowKit

theorem map_set_same {α β : Type} {l : List α} {i : Nat} {o o' : α} (f : α → β) (hi : l[i]? = some o) (hf : f o' = f o) : (l.set i o').map f = l.map f := by
  apply List.ext_getElem?
  intro j
  rw [List.getElem?_map, List.getElem?_map, List.getElem?_set]
  split
  · rename_i e
    subst e
    have hl := (List.getElem?_eq_some_iff.1 hi).1
    rw [if_pos hl, hi, Option.map_some, Option.map_some, hf]
  · rfl
theorem RefAt.other {w : World} {rb : Nat} {r : RH} {lv : Value} (h : RefAt w rb r lv) {i j : Nat} {o p : RO} (hi : r.l[i]? = some o) (hj : r.l[j]? = some p) (hne : i ≠ j) : p.b ≠ o.b ∧ ∀ k, o.fv.ownBlock = some k → p.fv.ownBlock ≠ some k := by
  have hp := List.pairwise_iff_getElem.1 h.apart
  obtain ⟨li, ei⟩ := List.getElem?_eq_some_iff.1 hi
  obtain ⟨lj, ej⟩ := List.getElem?_eq_some_iff.1 hj
  rcases Nat.lt_or_gt_of_ne hne with hlt | hlt
  · have := hp i j li lj hlt
    rw [ei, ej] at this
    exact ⟨fun e => this.1 e.symm, this.2⟩
  · have := hp j i lj li hlt
    rw [ei, ej] at this
    exact ⟨this.1, fun k hk e => this.2 k e hk⟩
/-- an object of the heap is another one now, in the same blocks -/
theorem RefAt.upd {S : List Nat} {w w' : World} {rb : Nat} {r : RH} {lv : Value} (h : RefAt w rb r lv) {i : Nat} {o o' : RO} (hi : r.l[i]? = some o) (hb : o'.b = o.b) (hv : o'.fv = o.fv) (hp : o'.pos = o.pos) (hl : o'.fs.length = o.fs.length)
    (hA : o'.At w') (hF : Fr S w w') (h1 : rb ∉ S) (h2 : ∀ k, lv.ownBlock = some k → k ∉ S) (h3 : ∀ j p, r.l[j]? = some p → i ≠ j → p.b ∉ S ∧ ∀ k, p.fv.ownBlock = some k → k ∉ S) : RefAt w' rb { r with l := r.l.set i o' } lv := by
  have hm : o ∈ r.l := List.mem_of_getElem? hi
  refine ⟨hF.heap h1 h.heap, ?_, ?_, ?_, by simpa using h.most, ?_⟩
  · have := hF.row h.row h2
    rw [← map_set_same RO.ptr hi (o' := o') (by simp [RO.ptr, hb])] at this
    simpa using this
  · intro p hpm
    obtain ⟨j, hj⟩ := List.getElem?_of_mem hpm
    simp only at hj
    rw [List.getElem?_set] at hj
    split at hj
    · rename_i e
      subst e
      split at hj
      · cases hj; exact hA
      · cases hj
    · rename_i e
      exact (h.objs p (List.mem_of_getElem? hj)).fr hF (h3 j p hj e).1 (h3 j p hj e).2
  · have e : (r.l.set i o').map (fun p => (p.b, p.fv)) = r.l.map (fun p => (p.b, p.fv)) := map_set_same _ hi (by simp [hb, hv])
    have a := h.apart
    have key : ∀ l : List RO, l.Pairwise RO.Apart ↔ (l.map (fun p => (p.b, p.fv))).Pairwise (fun a b => a.1 ≠ b.1 ∧ ∀ k, a.2.ownBlock = some k → b.2.ownBlock ≠ some k) := fun l => by rw [List.pairwise_map]; exact Iff.rfl
    exact (key _).2 (e ▸ (key _).1 a)
  · intro p hpm
    rcases List.mem_or_eq_of_mem_set hpm with hpm | rfl
    · exact h.small p hpm
    · rw [hp, hl]; exact h.small o hm
theorem rfoot_set {rb : Nat} {r : RH} {lv : Value} {i : Nat} {o o' : RO} (hi : r.l[i]? = some o) (hb : o'.b = o.b) (hv : o'.fv = o.fv) : rfoot rb { r with l := r.l.set i o' } lv = rfoot rb r lv := by
  simp only [rfoot, List.flatMap]
  rw [map_set_same RO.blocks hi (by simp [RO.blocks, hb, hv])]
/-- Returned v; at block rb lies the heap r'; nothing but the blocks of S has changed. -/
def RTurns (v : Value) (rb : Nat) (r' : RH) (S : List Nat) (w : World) (e : Ending) (w' : World) : Prop :=
  e = .returned v ∧ ∃ lv', RefAt w' rb r' lv' ∧ Fr S w w' ∧ ∀ k ∈ rfoot rb r' lv', k ∈ S ∨ w.heap.size ≤ k
theorem RefAt.b_apart {w : World} {rb : Nat} {r : RH} {lv : Value} (h : RefAt w rb r lv) {i : Nat} {o : RO} (hi : r.l[i]? = some o) :
    rb ∉ [o.b] ∧ (∀ k, lv.ownBlock = some k → k ∉ [o.b]) ∧ ∀ j p, r.l[j]? = some p → i ≠ j → p.b ∉ [o.b] ∧ ∀ k, p.fv.ownBlock = some k → k ∉ [o.b] := by
  have hA := h.objs o (List.mem_of_getElem? hi)
  refine ⟨?_, fun k hk => ?_, fun j p hj hne => ⟨?_, fun k hk => ?_⟩⟩
  · simpa using tag_ne h.heap hA.cells (by decide)
  · obtain ⟨c, hc⟩ := row_heap h.row hk; simpa using tag_ne hc hA.cells (by decide)
  · simpa using (h.other hi hj hne).1
  · obtain ⟨c, hc⟩ := row_heap (h.objs p (List.mem_of_getElem? hj)).row hk; simpa using tag_ne hc hA.cells (by decide)
theorem RefAt.f_apart {w : World} {rb : Nat} {r : RH} {lv : Value} (h : RefAt w rb r lv) {i g : Nat} {o : RO} (hi : r.l[i]? = some o) (hg : o.fv.ownBlock = some g) :
    rb ∉ [g] ∧ (∀ k, lv.ownBlock = some k → k ∉ [g]) ∧ ∀ j p, r.l[j]? = some p → i ≠ j → p.b ∉ [g] ∧ ∀ k, p.fv.ownBlock = some k → k ∉ [g] := by
  have hA := h.objs o (List.mem_of_getElem? hi)
  obtain ⟨cg, hcg⟩ := row_heap hA.row hg
  refine ⟨?_, fun k hk => ?_, fun j p hj hne => ⟨?_, fun k hk => ?_⟩⟩
  · simpa using tag_ne h.heap hcg (by decide)
  · obtain ⟨c, hc⟩ := row_heap h.row hk; simpa using tag_ne hc hcg (by decide)
  · simpa using tag_ne (h.objs p (List.mem_of_getElem? hj)).cells hcg (by decide)
  · have := (h.other hi hj hne).2 g hg
    simp only [List.mem_singleton]
    rintro rfl
    exact this hk
/-- a cell of an object's block is written -/
theorem RefAt.setObj {w : World} {rb : Nat} {r : RH} {lv : Value} (h : RefAt w rb r lv) {i : Nat} {o o' : RO} (hi : r.l[i]? = some o) (hb : o'.b = o.b) (hv : o'.fv = o.fv) (hp : o'.pos = o.pos) (hf : o'.fs = o.fs) (k : Nat) (v : Value)
    (hk : (#[Value.int .u64 o.cls, .int .i64 o.hash, o.fv, .int .i64 o.pos] : Array Value).setIfInBounds k v = #[.int .u64 o'.cls, .int .i64 o'.hash, o'.fv, .int .i64 o'.pos]) : RefAt (w.setCell ⟨o.b, k, none⟩ v) rb { r with l := r.l.set i o' } lv := by
  obtain ⟨a1, a2, a3⟩ := h.b_apart hi
  have hA := h.objs o (List.mem_of_getElem? hi)
  have hF : Fr [o.b] w (w.setCell ⟨o.b, k, none⟩ v) := (Fr.refl _ _).setCell (fun _ => by simp) _
  refine h.upd hi hb hv hp (by rw [hf]) ⟨?_, ?_⟩ hF a1 a2 a3
  · rw [hb, heap_setCell_same hA.cells, hk]
  · rw [hv, hf]
    refine hF.row hA.row (fun g hg => ?_)
    obtain ⟨c, hc⟩ := row_heap hA.row hg
    simpa using tag_ne hc hA.cells (by decide)
/-- a field is written -/
theorem RefAt.setField {w : World} {rb : Nat} {r : RH} {lv : Value} (h : RefAt w rb r lv) {i : Nat} {o : RO} {g cap : Nat} (hi : r.l[i]? = some o) (hv : o.fv = .slice (some ⟨g, 0, none⟩) o.fs.length cap) (k : Nat) (x : Int) :
    RefAt (w.setCell ⟨g, k, none⟩ (.int .u64 x)) rb { r with l := r.l.set i { o with fs := o.fs.set k x } } lv := by
  obtain ⟨a1, a2, a3⟩ := h.f_apart (g := g) hi (by rw [hv]; rfl)
  have hA := h.objs o (List.mem_of_getElem? hi)
  have hF : Fr [g] w (w.setCell ⟨g, k, none⟩ (.int .u64 x)) := (Fr.refl _ _).setCell (fun _ => by simp) _
  refine h.upd hi rfl rfl rfl (by simp) ⟨?_, ?_⟩ hF a1 a2 a3
  · obtain ⟨c, hc⟩ := row_heap hA.row (g := g) (by rw [hv]; rfl)
    exact hF.heap (by simpa using tag_ne hA.cells hc (by decide)) hA.cells
  · have hr := hA.row
    rw [hv] at hr
    have := (hr.stored k (.int .u64 x)).1
    simpa [List.map_set, hv] using this
theorem RefAt.setLast {w : World} {rb : Nat} {r : RH} {lv : Value} (h : RefAt w rb r lv) (n : Int) : RefAt (w.setCell ⟨rb, 3, none⟩ (.int .i64 n)) rb { r with last := n } lv := by
  have hF : Fr [rb] w (w.setCell ⟨rb, 3, none⟩ (.int .i64 n)) := (Fr.refl _ _).setCell (fun _ => by simp) _
  refine ⟨heap_setCell_same h.heap _, hF.row h.row (fun k hk => ?_), fun o ho => (h.objs o ho).fr hF ?_ (fun k hk => ?_), h.apart, h.most, h.small⟩
  · obtain ⟨c, hc⟩ := row_heap h.row hk; simpa using tag_ne hc h.heap (by decide)
  · simpa using tag_ne (h.objs o ho).cells h.heap (by decide)
  · obtain ⟨c, hc⟩ := row_heap (h.objs o ho).row hk; simpa using tag_ne hc h.heap (by decide)
theorem RefAt.setRoot {w : World} {rb : Nat} {r : RH} {lv : Value} (h : RefAt w rb r lv) (n : Int) : RefAt (w.setCell ⟨rb, 2, none⟩ (.int .u64 n)) rb { r with root := n } lv := by
  have hF : Fr [rb] w (w.setCell ⟨rb, 2, none⟩ (.int .u64 n)) := (Fr.refl _ _).setCell (fun _ => by simp) _
  refine ⟨heap_setCell_same h.heap _, hF.row h.row (fun k hk => ?_), fun o ho => (h.objs o ho).fr hF ?_ (fun k hk => ?_), h.apart, h.most, h.small⟩
  · obtain ⟨c, hc⟩ := row_heap h.row hk; simpa using tag_ne hc h.heap (by decide)
  · simpa using tag_ne (h.objs o ho).cells h.heap (by decide)
  · obtain ⟨c, hc⟩ := row_heap (h.objs o ho).row hk; simpa using tag_ne hc h.heap (by decide)
theorem RefAt.frozen {w : World} {rb : Nat} {r : RH} {lv : Value} (h : RefAt w rb r lv) (k : Nat) : w.frozen? ⟨rb, k, none⟩ = false := frozen_of_heap h.heap

theorem rnew (n : Int) (w : World) (h1 : 64 ≤ n) (h2 : n ≤ 65536) : Calls Tryz.prog 25 #[.int .i64 n] w fun e w' => e = .returned (.tuple #[.pointer (some ⟨w.heap.size, 0, none⟩), .int .i64 0]) ∧ RefAt w' w.heap.size ⟨n, [], 0, 0⟩ (.slice none 0 0) ∧ Fr [] w w' := by
  go_enter Tryz.func25, Tryz.ntmps25
  go_wp2
  go_ret2
  exact ⟨rfl, ⟨heap_new _ _, World.ownsRow_nil _ _ _ _, (fun _ h => by cases h), .nil, Nat.zero_le _, (fun _ h => by cases h)⟩, (Fr.refl _ _).alloc _⟩
theorem rnew_no (n : Int) (w : World) (h : n < 64 ∨ 65536 < n) (b1 : -9223372036854775808 ≤ n) (b2 : n ≤ 9223372036854775807) : Calls Tryz.prog 25 #[.int .i64 n] w (Gives (.tuple #[.pointer none, .int .i64 1]) w) := by
  by_cases h0 : n < 64
  · clear h
    go_enter Tryz.func25, Tryz.ntmps25
    go_wp2
    go_ret2
    exact ⟨rfl, rfl⟩
  · have h3 : 65536 < n := by omega
    clear h
    go_enter Tryz.func25, Tryz.ntmps25
    go_wp2
    go_ret2
    exact ⟨rfl, rfl⟩
end Go.Proofs.YtofhgfgipdokbaaGreatDoor
namespace Go.Proofs.YtofhgfgipdokbaaGreatDoor
open Go.RowKit

theorem infoPtr : (Tryz.prog.info? 103).map (fun i => (i.zero, i.size, i.bytes)) = some (some (.pointer none), 1, 8) := by kernel_rfl
theorem RefAt.fr0 {w w' : World} {rb : Nat} {r : RH} {lv : Value} (h : RefAt w rb r lv) (hF : Fr [] w w') : RefAt w' rb r lv := h.fr hF (fun _ _ => by simp)
theorem RO.At.fr0 {w w' : World} {o : RO} (h : o.At w) (hF : Fr [] w w') : o.At w' := h.fr hF (by simp) (fun _ _ => by simp)
/-- an object made since the world w -/
structure NewRO (w : World) (o : RO) (W : World) : Prop where
  at_ : o.At W
  fr : Fr [] w W
  nb : w.heap.size ≤ o.b
  nf : ∀ k, o.fv.ownBlock = some k → w.heap.size ≤ k
/-- words are appended to the fields of a new object -/
theorem NewRO.step {w W W1 w1 : World} {o : RO} {v' : Value} {ys : List Int} {j : Nat} (h : NewRO w o W) (hW : Fr [] W W1) (ho : w1.ownsRow 0 24 1 v' (o.fs.length + j) (o.fs.map (Value.int .u64) ++ ys.map (Value.int .u64))) (hj : j = ys.length)
    (hg : W1.grownBy w1 o.fv.ownBlock) (hf : v'.ownBlock = o.fv.ownBlock ∨ v'.ownBlock = some W1.heap.size) :
    w1.cell? ⟨o.b, 2, none⟩ = some o.fv ∧ w1.frozen? ⟨o.b, 2, none⟩ = false ∧ NewRO w { o with fv := v', fs := o.fs ++ ys } (w1.setCell ⟨o.b, 2, none⟩ v') := by
  have hA1 := h.at_.fr0 hW
  have hFw : Fr [] w w1 := (h.fr.trans hW).grown hg (fun k hk hl => by have := h.nf k hk; omega)
  have hc1 : w1.heap[o.b]? = some (.cells #[.int .u64 o.cls, .int .i64 o.hash, o.fv, .int .i64 o.pos] 63 (0, 0)) := by
    rw [hg.block o.b (lt_of_heap hA1.cells) (fun e => by obtain ⟨c, hc⟩ := row_heap hA1.row e.symm; exact tag_ne hc hA1.cells (by decide) rfl)]
    exact hA1.cells
  have hF2 : Fr [o.b] w1 (w1.setCell ⟨o.b, 2, none⟩ v') := (Fr.refl _ _).setCell (fun _ => by simp) _
  refine ⟨cell_of_heap hc1 rfl, frozen_of_heap hc1, ⟨heap_setCell_same hc1 _, ?_⟩, ?_, h.nb, ?_⟩
  · have := hF2.row ho (fun k hk => by obtain ⟨c, hc⟩ := row_heap ho hk; simpa using tag_ne hc hc1 (by decide))
    simp only [List.length_append, List.map_append]
    rw [← hj]
    exact this
  · exact hFw.setCell (fun hl => by have := h.nb; simp only at hl; omega) _
  · intro k hk
    rcases hf with hf | hf
    · exact h.nf k (hf ▸ hk)
    · have e := hf.symm.trans hk
      cases e
      exact Nat.le_trans h.fr.size hW.size
/-- an object is appended to the heap's -/
theorem RefAt.push {w W w1 : World} {rb : Nat} {r : RH} {lv v' : Value} {o : RO} {ob : Obj} (h : RefAt W rb r lv) (hN : NewRO w o W) (hlt : ∀ k ∈ rfoot rb r lv, k < w.heap.size) (ho : w1.ownsRow 0 103 1 v' (r.l.length + 1) (r.l.map RO.ptr ++ [o.ptr]))
    (hg : (W.alloc ob).grownBy w1 lv.ownBlock) (hf : v'.ownBlock = lv.ownBlock ∨ v'.ownBlock = some (W.alloc ob).heap.size) (hl : r.l.length < 65536) (hp : 1 ≤ o.pos ∧ o.pos + 3 + o.fs.length ≤ 65536) :
    w1.cell? ⟨rb, 1, none⟩ = some lv ∧ w1.frozen? ⟨rb, 1, none⟩ = false ∧ RefAt (w1.setCell ⟨rb, 1, none⟩ v') rb { r with l := r.l ++ [o] } v' ∧ Fr (rfoot rb r lv) w (w1.setCell ⟨rb, 1, none⟩ v') ∧ ∀ k ∈ rfoot rb { r with l := r.l ++ [o] } v', k ∈ rfoot rb r lv ∨ w.heap.size ≤ k := by
  have hA1 := h.fr0 ((Fr.refl [] W).alloc ob)
  have hO1 := hN.at_.fr0 ((Fr.refl [] W).alloc ob)
  have hFg : Fr lv.ownBlock.toList (W.alloc ob) w1 := (Fr.refl _ _).grown hg (fun g hgv _ => by simp [hgv])
  have hlv : ∀ k, k ∈ lv.ownBlock.toList → ∃ c, (W.alloc ob).heap[k]? = some (.cells c 103 (0, 0)) := fun k hk => row_heap hA1.row (by simpa using hk)
  have hne : ∀ {q : Nat} {c : Array Value} {t : TypeId} {f : Nat × Nat}, (W.alloc ob).heap[q]? = some (.cells c t f) → t ≠ 103 → q ∉ lv.ownBlock.toList := by
    intro q c t f hq ht hk
    obtain ⟨c', hc'⟩ := hlv q hk
    exact tag_ne hq hc' ht rfl
  have hb1 := hFg.heap (hne hA1.heap (by decide)) hA1.heap
  have hF2 : Fr [rb] w1 (w1.setCell ⟨rb, 1, none⟩ v') := (Fr.refl _ _).setCell (fun _ => by simp) _
  have obj : ∀ p : RO, p.At (W.alloc ob) → p.At (w1.setCell ⟨rb, 1, none⟩ v') := by
    intro p hp
    have h1 : p.At w1 := hp.fr hFg (hne hp.cells (by decide)) (fun k hk => by obtain ⟨c, hc⟩ := row_heap hp.row hk; exact hne hc (by decide))
    exact h1.fr hF2 (by simpa using tag_ne h1.cells hb1 (by decide)) (fun k hk => by obtain ⟨c, hc⟩ := row_heap h1.row hk; simpa using tag_ne hc hb1 (by decide))
  refine ⟨cell_of_heap hb1 rfl, frozen_of_heap hb1, ⟨heap_setCell_same hb1 _, ?_, ?_, ?_, by simp; omega, ?_⟩, ?_, ?_⟩
  · have := hF2.row ho (fun k hk => by obtain ⟨c, hc⟩ := row_heap ho hk; simpa using tag_ne hc hb1 (by decide))
    simpa using this
  · intro p hpm
    rcases List.mem_append.1 hpm with hpm | hpm
    · exact obj p (hA1.objs p hpm)
    · simp at hpm; subst hpm; exact obj _ hO1
  · refine List.pairwise_append.2 ⟨h.apart, List.pairwise_singleton _ _, fun a ha b hb => ?_⟩
    simp at hb; subst hb
    refine ⟨fun e => ?_, fun k hk hk' => ?_⟩
    · have h1 := hlt _ (rfoot_b ha); have h2 := hN.nb; omega
    · have h1 := hlt _ (rfoot_f ha hk); have h2 := hN.nf k hk'; omega
  · intro p hpm
    rcases List.mem_append.1 hpm with hpm | hpm
    · exact h.small p hpm
    · simp at hpm; subst hpm; exact hp
  · refine Fr.setCell (((hN.fr.weak (S := rfoot rb r lv)).alloc ob).grown hg (fun k hk _ => by simp [rfoot, hk])) (fun _ => by simp [rfoot]) _
  · intro k hk
    simp only [rfoot, List.mem_cons, List.mem_append, List.flatMap_append, List.flatMap_cons, List.flatMap_nil, List.append_nil, Option.mem_toList] at hk ⊢
    rcases hk with rfl | hk | hk | hk
    · exact .inl (.inl rfl)
    · rcases hf with hf | hf
      · exact .inl (.inr (.inl (hf ▸ hk)))
      · have e := hf.symm.trans hk
        cases e
        right
        have := hN.fr.size
        simp
        omega
    · exact .inl (.inr (.inr hk))
    · right
      simp only [RO.blocks, List.mem_cons, Option.mem_toList] at hk
      rcases hk with rfl | hk
      · exact hN.nb
      · exact hN.nf k hk
theorem usedR_le {w : World} {rb : Nat} {r : RH} {lv : Value} (h : RefAt w rb r lv) : 1 ≤ usedR r.l ∧ usedR r.l ≤ 65536 := by
  unfold usedR
  split
  · omega
  · rename_i o ho
    have := h.small o (List.mem_of_getLast? ho)
    omega
end Go.Proofs.YtofhgfgipdokbaaGreatDoor
