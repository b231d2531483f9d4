/- strconv.FormatUint at base 10 and strconv.Itoa: each returns the number's numeral; memory that was there stays as it was. heap.invalid, invalidWord, full: each returns a fault that wraps its number; memory that was there stays as it was. What package word's IsInt, Ref and FromRef return. A heap's memory as lists of words and marks; what the memory's readers (start, find, field, size, hash) return. What the memory's find, size, hash and field return. What the memory's check returns: nothing where all words are valid, else a fault. What the memory's set and assignHash do. Whether the memory takes one more object. -/
import Derived.Test.YtofhgfgipdokbaaGreatDoorMBase
import Derived.Test.YtofhgfgipdokbaaGreatDoorShelf
import Derived.Shelf.Strconv.Itoa3
import Derived.Lib.ItoaLen
import Derived.Laws.BitsAllLaws
import Derived.RegionTactic
namespace Go.Proofs.YtofhgfgipdokbaaGreatDoor
open Go.RowKit Go.Sort Go.Lib

theorem holds_zero0 (w : World) (T : TypeId) (nd : Nat) (hs : nd ≤ 24) : Holds (fun (b : UInt8) => Value.int .u8 (b.toNat : Int)) (w.alloc (.cells Lib.zeros24 T)) w.heap.size 0 (Array.replicate nd (0 : UInt8)) := fun j hj => by
  have hj' : j < nd := by simpa using hj
  refine ⟨?_, World.frozen?_alloc_new _ _ _ _⟩
  rw [World.cell?_alloc_new, Lib.zeros24_at _ (by omega), getElem!_pos _ j hj]
  simp
theorem fin_pos0 (w : World) (o : Obj) (dk : Array UInt8) (k : Nat) : ∃ os, (putRow (fun (b : UInt8) => Value.int .u8 (b.toNat : Int)) (w.alloc o) w.heap.size 0 dk).drewN k = grow (w.drewN k) os := by
  rw [alloc_eq_grow]
  obtain ⟨os', _, e⟩ := putRow_grow_new (fun (b : UInt8) => Value.int .u8 (b.toNat : Int)) w #[o] w.heap.size 0 dk (Nat.le_refl _)
  exact ⟨os', by rw [e]; rfl⟩
theorem arr24 : Tryz.prog.arrayLen 196 = 24 := by kernel_rfl
set_option maxHeartbeats 6400000 in
set_option maxRecDepth 100000 in
theorem iFormatUint (u : Nat) (hu64 : u < 18446744073709551616) (w : World) (htab : Lib.TabIs Tryz.prog w "internal/strconv.uint64pow10" .u64 Lib.pow10Tab) :
    Calls Tryz.prog 106 #[.int .u64 u, .int .i64 10] w (Still (.string ⟨(Lib.decDigits u).toArray⟩) w) := by
  by_cases hs : u < 100
  · have hs' : (u : Int) < 100 := by omega
    go_enter Tryz.func106, Tryz.ntmps106
    go_wp2_with (go_at_call 109; refine (Tryz.internal_strconv_small u hs _).mono ?_; rintro e w' ⟨rfl, rfl⟩)
    go_ret
    exact ⟨rfl, Fr.refl _ _⟩
  · have hs' : ¬ (u : Int) < 100 := by omega
    have hu1 : 1 ≤ u := by omega
    have hnd20 : Lib.nDigits u ≤ 20 := by have := Lib.numDigits_eq u hu1 hu64; split at this <;> omega
    have hsl : ∀ W, (Instr.sliceAt 196 (.pointer (some ⟨w.heap.size, 0, none⟩)) none (some (.int .i64 (Lib.nDigits u : Int))) none).run Tryz.prog W = .ok (.slice (some ⟨w.heap.size, 0, none⟩) (Lib.nDigits u) 24) W := fun W => by
      rw [run_sliceAt_array_h W 196 ⟨w.heap.size, 0, none⟩ (by kernel_rfl) .i64 (Lib.nDigits u : Int) (by omega) (by rw [arr24]; omega)]
      go_simp
    have hH0 := holds_zero0 w 196 (Lib.nDigits u) (by omega)
    have hfmt := Tryz.internal_strconv_formatBase10 w.heap.size 0 24 u (Array.replicate (Lib.nDigits u) 0) (w.alloc (.cells Lib.zeros24 196)) hH0 (by rw [Array.size_replicate]; exact Lib.lt_pow_nDigits u) hu64 (by rw [Array.size_replicate]; omega)
    rw [Array.size_replicate] at hfmt
    have HH0 := Lib.hid hH0
    clear hH0
    go_enter Tryz.func106, Tryz.ntmps106
    go_wp2_with (first
      | (go_at_call 110; refine (Tryz.internal_strconv_numDigits u hu1 hu64 _ (Lib.tabIs_alloc htab _)).mono ?_; rintro e w' ⟨rfl, rfl⟩))
    go_at_call 111
    refine hfmt.mono ?_
    rintro e w' ⟨rfl, k, v', dk, rfl, hF⟩
    have hcv : (convert 199 9 (.slice (some ⟨w.heap.size, 0, none⟩) (Lib.nDigits u) 24)).run Tryz.prog ((putRow (fun (b : UInt8) => Value.int .u8 (b.toNat : Int)) (w.alloc (.cells Lib.zeros24 196)) w.heap.size 0 dk).drewN k) = .ok (.string ⟨(Lib.decDigits u).toArray⟩) ((putRow (fun (b : UInt8) => Value.int .u8 (b.toNat : Int)) (w.alloc (.cells Lib.zeros24 196)) w.heap.size 0 dk).drewN k) := by
      have h := run_convert_bytes_back (P := Tryz.prog) ((putRow (fun (b : UInt8) => Value.int .u8 (b.toNat : Int)) (w.alloc (.cells Lib.zeros24 196)) w.heap.size 0 dk).drewN k) 199 9 5 ⟨w.heap.size, 0, none⟩ 24 (Lib.decDigits u) Tryz.underlying199 Tryz.underlying5 Tryz.underlying9 (fun j hj => by
        rw [Lib.row_is_numeral hF j hj, Lib.add_plain, World.cell?_drewN]
        exact cell?_putRow (fun (b : UInt8) => Value.int .u8 (b.toNat : Int)) _ w.heap.size 0 _ dk HH0.out (by rw [hF.size, Array.size_replicate]) j (by rw [hF.size]; rw [Lib.decDigits_length] at hj; exact hj))
      rw [Lib.decDigits_length] at h
      exact h
    go_wp2
    go_ret
    obtain ⟨os, eo⟩ := fin_pos0 w (.cells Lib.zeros24 196) dk k
    refine ⟨rfl, ?_⟩
    show Fr [] w ((putRow (fun (b : UInt8) => Value.int .u8 (b.toNat : Int)) (w.alloc (.cells Lib.zeros24 196)) w.heap.size 0 dk).drewN k)
    rw [eo]
    exact Fr.grow k os
end Go.Proofs.YtofhgfgipdokbaaGreatDoor
namespace Go.Proofs.YtofhgfgipdokbaaGreatDoor
open Go.RowKit Go.Sort Go.Lib

/-- what the package-level variables that are read hold -/
structure Glob (w : World) : Prop where
  et : w.cell? ⟨0, 0, none⟩ = some (.iface 175 (.agg #[.pointer (some ⟨4, 95, none⟩)]))
  tab : Lib.TabIs Tryz.prog w "internal/strconv.uint64pow10" .u64 Lib.pow10Tab
theorem tabIs_fr {S : List Nat} {w w' : World} {k : IntKind} {zs : List Int} (h : Fr S w w') (hS : 1 ∉ S) (ht : Lib.TabIs Tryz.prog w "internal/strconv.uint64pow10" k zs) : Lib.TabIs Tryz.prog w' "internal/strconv.uint64pow10" k zs := by
  have hg : Tryz.prog.globalNamed "internal/strconv.uint64pow10" = some 1 := by kernel_rfl
  unfold Lib.TabIs World.var? at ht ⊢
  simp only [hg, Option.bind_some] at ht ⊢
  have hlt : 1 < w.heap.size := by
    rcases Nat.lt_or_ge 1 w.heap.size with h' | h'
    · exact h'
    · rw [Array.getElem?_eq_none h'] at ht; simp at ht
  rw [h.block _ hlt hS]
  exact ht
theorem Glob.fr' {S : List Nat} {w w' : World} (hg : Glob w) (h : Fr S w w') (hS : ∀ k ∈ S, 4 ≤ k) : Glob w' :=
  ⟨h.cell (fun e => by have := hS _ e; simp at this) hg.et, tabIs_fr h (fun e => by have := hS _ e; simp at this) hg.tab⟩
theorem Glob.fr {w w' : World} (hg : Glob w) (h : Fr [] w w') : Glob w' := hg.fr' h (fun _ e => by cases e)

/-- Returned a short text; only new memory. -/
def Texts (w : World) (e : Ending) (w' : World) : Prop := ∃ t : ByteArray, e = .returned (.string t) ∧ t.size ≤ 21 ∧ Fr [] w w'
theorem formatUint (u : Nat) (hu64 : u < 18446744073709551616) (w : World) (hg : Glob w) :
    Calls Tryz.prog 93 #[.int .u64 u, .int .i64 10] w (Texts w) := by
  have hc := iFormatUint u hu64 w hg.tab
  have hl : (Lib.decDigits u).length ≤ 21 := by rw [Lib.decDigits_length]; have := Lib.nDigits_le20 u hu64; omega
  clear hg
  go_enter Tryz.func93, Tryz.ntmps93
  go_wp2_with (go_at_call 106; refine hc.mono ?_; rintro e w' ⟨rfl, hF⟩)
  go_ret
  exact ⟨_, rfl, by simpa [ByteArray.size] using hl, hF⟩
theorem itoa_texts (n : Int) (w : World) (hg : Glob w) (h0 : -9223372036854775808 ≤ n) (h1 : n ≤ 9223372036854775807) : Calls Tryz.prog 72 #[.int .i64 n] w (Texts w) := by
  refine (Tryz.strconv_Itoa n h0 h1 w hg.tab).mono ?_
  rintro e w' ⟨rfl, k, os, rfl⟩
  exact ⟨_, rfl, by simpa [ByteArray.size] using Lib.itoa_length_le n h0 h1, Fr.grow k os⟩

/-- Returned a fault that wraps n; only new memory. -/
def Fails (n : Int) (w : World) (e : Ending) (w' : World) : Prop := ∃ s : ByteArray, e = .returned (.iface 144 (.agg #[.string s, .int .i64 n])) ∧ Fr [] w w'

theorem invalid_fails (s : ByteArray) (hs : s.size ≤ 100) (n : Int) (w : World) (hg : Glob w) (h0 : -9223372036854775808 ≤ n) (h1 : n ≤ 9223372036854775807) :
    Calls Tryz.prog 57 #[.string s, .int .i64 n] w (Fails 1 w) := by
  have hc := itoa_texts n w hg h0 h1
  clear hg
  go_enter Tryz.func57, Tryz.ntmps57
  go_wp2_with (go_at_call 72; refine hc.mono ?_; rintro e w' ⟨t, rfl, ht, hF⟩)
  go_ret
  exact ⟨_, rfl, hF⟩
theorem full_fails (s : ByteArray) (hs : s.size ≤ 100) (n : Int) (w : World) (hg : Glob w) (h0 : -9223372036854775808 ≤ n) (h1 : n ≤ 9223372036854775807) :
    Calls Tryz.prog 59 #[.string s, .int .i64 n] w (Fails 2 w) := by
  have hc := itoa_texts n w hg h0 h1
  clear hg
  go_enter Tryz.func59, Tryz.ntmps59
  go_wp2_with (go_at_call 72; refine hc.mono ?_; rintro e w' ⟨t, rfl, ht, hF⟩)
  go_ret
  exact ⟨_, rfl, hF⟩
theorem invalidWord_fails (s : ByteArray) (hs : s.size ≤ 100) (n : Int) (w : World) (hg : Glob w) (h0 : 0 ≤ n) (h1 : n < 18446744073709551616) :
    Calls Tryz.prog 76 #[.string s, .int .u64 n] w (Fails 1 w) := by
  obtain ⟨u, rfl⟩ := Int.eq_ofNat_of_zero_le h0
  have hc := formatUint u (by omega) w hg
  clear hg h0 h1
  go_enter Tryz.func76, Tryz.ntmps76
  go_wp2_with (go_at_call 93; refine hc.mono ?_; rintro e w' ⟨t, rfl, ht, hF⟩)
  go_ret
  exact ⟨_, rfl, hF⟩
theorem errno_still (s : ByteArray) (n : Int) (w : World) (hg : Glob w) : Calls Tryz.prog 42 #[.iface 144 (.agg #[.string s, .int .i64 n])] w (Still (.int .i64 n) w) := errno_fault s n w hg.et
end Go.Proofs.YtofhgfgipdokbaaGreatDoor
namespace Go.Proofs.YtofhgfgipdokbaaGreatDoor
open Go.RowKit

def odd (w : Int) : Bool := decide (w % 2 = 1)
def rfOk (w : Int) : Bool := decide (w % 2 = 0 ∧ 1 ≤ w / 2 ∧ w / 2 ≤ 2147483647)
theorem odd_iff (n : Int) : odd n = true ↔ n % 2 = 1 := by unfold odd; simp
theorem odd_not (n : Int) : odd n = false ↔ n % 2 = 0 := by unfold odd; simp; omega
theorem rfOk_iff (n : Int) : rfOk n = true ↔ (n % 2 = 0 ∧ 1 ≤ n / 2 ∧ n / 2 ≤ 2147483647) := by unfold rfOk; simp
theorem bits_and1_u64 (n : Int) (h1 : 0 ≤ n) (h2 : n ≤ 18446744073709551615) : bits .and .u64 n 1 = n % 2 := by
  rw [u64_and n 1 h1 (by omega) (by omega) (by omega)]
  have e : (1 : Int).toNat = 1 := rfl
  rw [e, nat_mask1]; omega
theorem wrap_u64_eq (n : Int) : IntKind.u64.wrap n = n % 18446744073709551616 := IntKind.wrap_u64 n
theorem wordIsInt (n : Int) (w : World) (h1 : 0 ≤ n) (h2 : n ≤ 18446744073709551615) : Calls Tryz.prog 91 #[.int .u64 n] w (Gives (.bool (odd n)) w) := by
  go_enter Tryz.func91, Tryz.ntmps91
  go_wp2
  go_ret
  exact ⟨ret1 (vb (by rw [bits_and1_u64 n h1 h2]; unfold odd; rfl)), rfl⟩
theorem wordRef_no (n : Int) (w : World) (h1 : 0 ≤ n) (h2 : n ≤ 18446744073709551615) (h : rfOk n = false) : Calls Tryz.prog 92 #[.int .u64 n] w (Gives (.tuple #[.int .i64 0, .int .i64 1]) w) := by
  have h' : ¬ (n % 2 = 0 ∧ 1 ≤ n / 2 ∧ n / 2 ≤ 2147483647) := by rw [← rfOk_iff, h]; simp
  clear h
  cases h : odd n
  · have ho := (odd_not n).1 h
    by_cases h3 : n / 2 < 1
    · clear h' ho
      go_enter Tryz.func92, Tryz.ntmps92
      go_wp2_with (go_at_call 91; refine (wordIsInt _ _ h1 h2).mono ?_; rintro e w' ⟨rfl, rfl⟩)
      go_ret2
      exact ⟨rfl, rfl⟩
    · have h4 : 2147483647 < n / 2 := by omega
      clear h' ho
      go_enter Tryz.func92, Tryz.ntmps92
      go_wp2_with (go_at_call 91; refine (wordIsInt _ _ h1 h2).mono ?_; rintro e w' ⟨rfl, rfl⟩)
      go_ret2
      exact ⟨rfl, rfl⟩
  · clear h'
    go_enter Tryz.func92, Tryz.ntmps92
    go_wp2_with (go_at_call 91; refine (wordIsInt _ _ h1 h2).mono ?_; rintro e w' ⟨rfl, rfl⟩)
    go_ret2
    exact ⟨rfl, rfl⟩
theorem wordRef_yes (n : Int) (w : World) (h1 : 0 ≤ n) (h2 : n ≤ 18446744073709551615) (h : rfOk n = true) : Calls Tryz.prog 92 #[.int .u64 n] w (Gives (.tuple #[.int .i64 (n / 2), .int .i64 0]) w) := by
  rw [rfOk_iff] at h
  obtain ⟨h3, h4, h5⟩ := h
  have h := (odd_not n).2 h3
  clear h3
  go_enter Tryz.func92, Tryz.ntmps92
  go_wp2_with (go_at_call 91; refine (wordIsInt _ _ h1 h2).mono ?_; rintro e w' ⟨rfl, rfl⟩)
  go_ret2
  exact ⟨rfl, rfl⟩
/-- at the word of a reference, by its place -/
theorem wordRef_at (k : Nat) (w : World) (h1 : 1 ≤ k) (h2 : k ≤ 2147483647) : Calls Tryz.prog 92 #[.int .u64 (2 * k)] w (Gives (.tuple #[.int .i64 k, .int .i64 0]) w) := by
  have h := wordRef_yes (2 * k) w (by omega) (by omega) (by rw [rfOk_iff]; omega)
  rw [show (2 * (k : Int)) / 2 = k by omega] at h
  exact h
theorem wordFromRef (k : Nat) (w : World) (h1 : 1 ≤ k) (h2 : k ≤ 2147483647) : Calls Tryz.prog 30 #[.int .i64 k] w (Gives (.tuple #[.int .u64 (2 * k), .int .i64 0]) w) := by
  have h1' : (1 : Int) ≤ k := by omega
  have h2' : (k : Int) ≤ 2147483647 := by omega
  go_enter Tryz.func30, Tryz.ntmps30
  go_wp2
  go_ret2
  exact ⟨tup2 (vi (by first | omega | (simp only [wrap_u64_eq]; omega))) rfl, rfl⟩
end Go.Proofs.YtofhgfgipdokbaaGreatDoor
namespace Go.Proofs.YtofhgfgipdokbaaGreatDoor
open Go.RowKit Go.Sort Go.Lib

/-! rows -/
theorem row_shape {w : World} {b : Nat} {e : TypeId} {v : Value} {n : Nat} {xs : List Value} (h : w.ownsRow b e 1 v n xs) : ∃ ao cap, v = .slice ao n cap := by
  rcases h.2 with ⟨rfl, rfl⟩ | ⟨g, cap, cur, rfl, _⟩
  · exact ⟨_, _, rfl⟩
  · exact ⟨_, _, rfl⟩
theorem row_at {w : World} {b : Nat} {e : TypeId} {v : Value} {n : Nat} {xs : List Value} (h : w.ownsRow b e 1 v n xs) {i : Nat} (hi : i < n) : ∃ g cap, v = .slice (some ⟨g, 0, none⟩) n cap ∧ w.cell? ⟨g, i, none⟩ = xs[i]? ∧ w.frozen? ⟨g, i, none⟩ = false ∧ n ≤ cap := by
  rcases h.2 with ⟨rfl, rfl⟩ | ⟨g, cap, cur, rfl, hb, hg, hn, hr⟩
  · omega
  · exact ⟨g, cap, rfl, h.cellAt i (by omega), h.frozenAt i, hn⟩

/-- what a memory holds: its limit, its words, for each of them whether an object begins there, the root, how many hashes were given -/
structure Mem where
  lim : Int
  W : List Int
  M : List Bool
  root : Int
  hashes : Int

/-- does a word lead to an object? -/
def stB (M : List Bool) (x : Int) : Bool := rfOk x && M[(x / 2).toNat]?.getD false
theorem stB_at {M : List Bool} {x : Int} (h : stB M x = true) : ∃ k : Nat, x = 2 * k ∧ 1 ≤ k ∧ k ≤ 2147483647 ∧ M[k]? = some true := by
  unfold stB at h
  simp only [Bool.and_eq_true] at h
  obtain ⟨h1, h2⟩ := h
  rw [rfOk_iff] at h1
  refine ⟨(x / 2).toNat, by omega, by omega, by omega, ?_⟩
  cases hm : M[(x / 2).toNat]? with
  | none => rw [hm] at h2; cases h2
  | some b => rw [hm] at h2; simp at h2; rw [h2]
theorem stB_mk {M : List Bool} {k : Nat} (h1 : 1 ≤ k) (h2 : k ≤ 2147483647) (h : M[k]? = some true) : stB M (2 * k) = true := by
  unfold stB
  have e : (2 * (k : Int) / 2).toNat = k := by omega
  rw [e, h]
  simp only [Option.getD_some, Bool.and_true]
  rw [rfOk_iff]; omega
theorem stB_no {M : List Bool} {x : Int} (h : stB M x = false) : rfOk x = false ∨ ∃ k : Nat, x = 2 * k ∧ 1 ≤ k ∧ k ≤ 2147483647 ∧ (M.length ≤ k ∨ M[k]? = some false) := by
  cases hr : rfOk x
  · exact .inl rfl
  · right
    unfold stB at h
    rw [hr] at h
    rw [rfOk_iff] at hr
    refine ⟨(x / 2).toNat, by omega, by omega, by omega, ?_⟩
    simp only [Bool.true_and] at h
    cases hm : M[(x / 2).toNat]? with
    | none => left; exact List.getElem?_eq_none_iff.1 hm
    | some b => rw [hm] at h; simp at h; right; rw [h]

/-- the memory m lies at block mb -/
structure MemAt (w : World) (mb : Nat) (m : Mem) (wv sv : Value) : Prop where
  mem : w.heap[mb]? = some (.cells #[.int .i64 m.lim, wv, sv, .int .u64 m.root, .int .i64 m.hashes] 101 (0, 0))
  words : w.ownsRow 0 24 1 wv m.W.length (m.W.map (Value.int .u64))
  starts : w.ownsRow 0 4 1 sv m.M.length (m.M.map Value.bool)
  most : m.W.length ≤ 65536
  alike : m.M.length = m.W.length

theorem start_yes {w : World} {mb : Nat} {m : Mem} {wv sv : Value} (h : MemAt w mb m wv sv) (k : Nat) (hk : m.M[k]? = some true) (h1 : 1 ≤ k) (h2 : k ≤ 2147483647) :
    Calls Tryz.prog 75 #[.pointer (some ⟨mb, 0, none⟩), .int .u64 (2 * k)] w (Gives (.tuple #[.int .i64 k, .bool true]) w) := by
  have hkl : k < m.M.length := (List.getElem?_eq_some_iff.1 hk).1
  have hm := h.most
  have ha := h.alike
  obtain ⟨g, cap, rfl, hc, _, hcap⟩ := row_at h.starts hkl
  rw [List.getElem?_map, hk] at hc
  simp only [Option.map_some] at hc
  have hs : w.cell? ⟨mb, 2, none⟩ = some (.slice (some ⟨g, 0, none⟩) m.M.length cap) := cell_of_heap h.mem rfl
  have hr := wordRef_at k w h1 h2
  have hm' : m.M.length ≤ 65536 := by omega
  clear h hk hm ha hcap
  generalize m.M.length = n at *
  go_enter Tryz.func75, Tryz.ntmps75
  go_wp2_with (go_at_call 92; refine hr.mono ?_; rintro e w' ⟨rfl, rfl⟩)
  go_ret2
  exact ⟨rfl, rfl⟩
theorem start_no {w : World} {mb : Nat} {m : Mem} {wv sv : Value} (h : MemAt w mb m wv sv) (x : Int) (h1 : 0 ≤ x) (h2 : x ≤ 18446744073709551615) (hx : stB m.M x = false) :
    Calls Tryz.prog 75 #[.pointer (some ⟨mb, 0, none⟩), .int .u64 x] w (Gives (.tuple #[.int .i64 0, .bool false]) w) := by
  have hm := h.most
  have ha := h.alike
  have hm' : m.M.length ≤ 65536 := by omega
  rcases stB_no hx with hr | ⟨k, rfl, k1, k2, hk | hk⟩
  · have hc := wordRef_no x w h1 h2 hr
    clear h hx hm ha hr
    go_enter Tryz.func75, Tryz.ntmps75
    go_wp2_with (go_at_call 92; refine hc.mono ?_; rintro e w' ⟨rfl, rfl⟩)
    go_ret2
    exact ⟨rfl, rfl⟩
  · have hr := wordRef_at k w k1 k2
    obtain ⟨ao, cap, rfl⟩ := row_shape h.starts
    have hs : w.cell? ⟨mb, 2, none⟩ = some (.slice ao m.M.length cap) := cell_of_heap h.mem rfl
    clear h hx hm ha
    generalize m.M.length = n at *
    go_enter Tryz.func75, Tryz.ntmps75
    go_wp2_with (go_at_call 92; refine hr.mono ?_; rintro e w' ⟨rfl, rfl⟩)
    go_ret2
    exact ⟨rfl, rfl⟩
  · have hkl : k < m.M.length := (List.getElem?_eq_some_iff.1 hk).1
    obtain ⟨g, cap, rfl, hc, _, hcap⟩ := row_at h.starts hkl
    rw [List.getElem?_map, hk] at hc
    simp only [Option.map_some] at hc
    have hs : w.cell? ⟨mb, 2, none⟩ = some (.slice (some ⟨g, 0, none⟩) m.M.length cap) := cell_of_heap h.mem rfl
    have hr := wordRef_at k w k1 k2
    clear h hk hm ha hcap hx
    generalize m.M.length = n at *
    go_enter Tryz.func75, Tryz.ntmps75
    go_wp2_with (go_at_call 92; refine hr.mono ?_; rintro e w' ⟨rfl, rfl⟩)
    go_ret2
    exact ⟨rfl, rfl⟩
end Go.Proofs.YtofhgfgipdokbaaGreatDoor
namespace Go.Proofs.YtofhgfgipdokbaaGreatDoor
open Go.RowKit Go.Sort Go.Lib

/-- Returned 0 and a fault that wraps n; only new memory. -/
def Fails2 (n : Int) (w : World) (e : Ending) (w' : World) : Prop := ∃ s : ByteArray, e = .returned (.tuple #[.int .i64 0, .iface 144 (.agg #[.string s, .int .i64 n])]) ∧ Fr [] w w'
theorem find_yes {w : World} {mb : Nat} {m : Mem} {wv sv : Value} (h : MemAt w mb m wv sv) (k : Nat) (hk : m.M[k]? = some true) (h1 : 1 ≤ k) (h2 : k ≤ 2147483647) :
    Calls Tryz.prog 107 #[.pointer (some ⟨mb, 0, none⟩), .int .u64 (2 * k)] w (Gives (.tuple #[.int .i64 k, .nilIface]) w) := by
  have hc := start_yes h k hk h1 h2
  clear h hk h1 h2
  go_enter Tryz.func107, Tryz.ntmps107
  go_wp2_with (go_at_call 75; refine hc.mono ?_; rintro e w' ⟨rfl, rfl⟩)
  go_ret2
  exact ⟨rfl, rfl⟩
theorem find_no {w : World} {mb : Nat} {m : Mem} {wv sv : Value} (h : MemAt w mb m wv sv) (hg : Glob w) (x : Int) (h1 : 0 ≤ x) (h2 : x ≤ 18446744073709551615) (hx : stB m.M x = false) :
    Calls Tryz.prog 107 #[.pointer (some ⟨mb, 0, none⟩), .int .u64 x] w (Fails2 1 w) := by
  have hc := start_no h x h1 h2 hx
  have hi := fun s hs => invalidWord_fails s hs x w hg h1 (by omega)
  clear h hg hx
  go_enter Tryz.func107, Tryz.ntmps107
  go_wp2_with (first | (go_at_call 75; refine hc.mono ?_; rintro e w' ⟨rfl, rfl⟩) | (go_at_call 76; refine (hi _ (by decide)).mono ?_; rintro e w' ⟨s, rfl, hF⟩))
  go_ret2
  exact ⟨_, rfl, hF⟩
theorem words_at {w : World} {mb : Nat} {m : Mem} {wv sv : Value} (h : MemAt w mb m wv sv) {i : Nat} {z : Int} (hz : m.W[i]? = some z) : ∃ g cap, wv = .slice (some ⟨g, 0, none⟩) m.W.length cap ∧ w.cell? ⟨mb, 1, none⟩ = some (.slice (some ⟨g, 0, none⟩) m.W.length cap) ∧ w.cell? ⟨g, i, none⟩ = some (.int .u64 z) ∧ w.frozen? ⟨g, i, none⟩ = false ∧ m.W.length ≤ cap ∧ i < m.W.length := by
  have hi : i < m.W.length := (List.getElem?_eq_some_iff.1 hz).1
  obtain ⟨g, cap, rfl, hc, hf, hcap⟩ := row_at h.words hi
  rw [List.getElem?_map, hz] at hc
  exact ⟨g, cap, rfl, cell_of_heap h.mem rfl, hc, hf, hcap, hi⟩
theorem size_gives {w : World} {mb : Nat} {m : Mem} {wv sv : Value} (h : MemAt w mb m wv sv) (k z : Nat) (hz : m.W[k + 2]? = some (z : Int)) (hz2 : z ≤ 65536) :
    Calls Tryz.prog 48 #[.pointer (some ⟨mb, 0, none⟩), .int .i64 k] w (Gives (.int .i64 z) w) := by
  have hm := h.most
  obtain ⟨g, cap, -, hw, hc, -, -, hi⟩ := words_at h hz
  clear h hz
  generalize m.W.length = n at *
  go_enter Tryz.func48, Tryz.ntmps48
  go_wp2
  go_ret
  exact ⟨rfl, rfl⟩
theorem field_yes {w : World} {mb : Nat} {m : Mem} {wv sv : Value} (h : MemAt w mb m wv sv) (k z j : Nat) (hk : m.M[k]? = some true) (h1 : 1 ≤ k) (hz : m.W[k + 2]? = some (z : Int)) (hz2 : z ≤ 65536) (hj : j < z) :
    Calls Tryz.prog 104 #[.pointer (some ⟨mb, 0, none⟩), .int .u64 (2 * k), .int .i64 j] w (Gives (.tuple #[.int .i64 (k + 3 + j), .nilIface]) w) := by
  have hkl : k < m.M.length := (List.getElem?_eq_some_iff.1 hk).1
  have hm := h.most
  have ha := h.alike
  have hk2 : k ≤ 65536 := by omega
  have hc := find_yes h k hk h1 (by omega)
  have hs := size_gives h k z hz hz2
  clear h hk hz ha hm hkl
  go_enter Tryz.func104, Tryz.ntmps104
  go_wp2_with (first | (go_at_call 107; refine hc.mono ?_; rintro e w' ⟨rfl, rfl⟩) | (go_at_call 48; refine hs.mono ?_; rintro e w' ⟨rfl, rfl⟩))
  go_ret2
  exact ⟨rfl, rfl⟩
theorem field_far {w : World} {mb : Nat} {m : Mem} {wv sv : Value} (h : MemAt w mb m wv sv) (hg : Glob w) (k z : Nat) (j : Int) (hk : m.M[k]? = some true) (h1 : 1 ≤ k) (hz : m.W[k + 2]? = some (z : Int)) (hz2 : z ≤ 65536) (hj : j < 0 ∨ (z : Int) ≤ j) (j1 : -9223372036854775808 ≤ j) (j2 : j ≤ 9223372036854775807) :
    Calls Tryz.prog 104 #[.pointer (some ⟨mb, 0, none⟩), .int .u64 (2 * k), .int .i64 j] w (Fails2 1 w) := by
  have hkl : k < m.M.length := (List.getElem?_eq_some_iff.1 hk).1
  have hm := h.most
  have ha := h.alike
  have hk2 : k ≤ 65536 := by omega
  have hc := find_yes h k hk h1 (by omega)
  have hs := size_gives h k z hz hz2
  have hi := fun s hs => invalid_fails s hs j w hg j1 j2
  clear h hk hz ha hm hkl hg
  rcases hj with hj | hj
  · go_enter Tryz.func104, Tryz.ntmps104
    go_wp2_with (first | (go_at_call 107; refine hc.mono ?_; rintro e w' ⟨rfl, rfl⟩) | (go_at_call 48; refine hs.mono ?_; rintro e w' ⟨rfl, rfl⟩) | (go_at_call 57; refine (hi _ (by decide)).mono ?_; rintro e w' ⟨s, rfl, hF⟩))
    go_ret2
    exact ⟨_, rfl, hF⟩
  · have hj0 : ¬ j < 0 := by omega
    go_enter Tryz.func104, Tryz.ntmps104
    go_wp2_with (first | (go_at_call 107; refine hc.mono ?_; rintro e w' ⟨rfl, rfl⟩) | (go_at_call 48; refine hs.mono ?_; rintro e w' ⟨rfl, rfl⟩) | (go_at_call 57; refine (hi _ (by decide)).mono ?_; rintro e w' ⟨s, rfl, hF⟩))
    go_ret2
    exact ⟨_, rfl, hF⟩
theorem field_no {w : World} {mb : Nat} {m : Mem} {wv sv : Value} (h : MemAt w mb m wv sv) (hg : Glob w) (x j : Int) (h1 : 0 ≤ x) (h2 : x ≤ 18446744073709551615) (hx : stB m.M x = false) :
    Calls Tryz.prog 104 #[.pointer (some ⟨mb, 0, none⟩), .int .u64 x, .int .i64 j] w (Fails2 1 w) := by
  have hc := find_no h hg x h1 h2 hx
  clear h hg hx
  go_enter Tryz.func104, Tryz.ntmps104
  go_wp2_with (go_at_call 107; refine hc.mono ?_; rintro e w' ⟨s, rfl, hF⟩)
  go_ret2
  exact ⟨_, rfl, hF⟩
end Go.Proofs.YtofhgfgipdokbaaGreatDoor
namespace Go.Proofs.YtofhgfgipdokbaaGreatDoor
open Go.RowKit

/-- may a word be? -/
def okB (M : List Bool) (x : Int) : Bool := stB M x || decide (x = 0) || odd x
/-- the words xs lie from an address on -/
def WordsAt (w : World) (ao : Option Addr) (xs : List Int) : Prop := ∀ i x, xs[i]? = some x → ∃ g o, ao = some ⟨g, o, none⟩ ∧ w.cell? ⟨g, o + i, none⟩ = some (.int .u64 x)
theorem WordsAt.fr {S : List Nat} {w w' : World} {ao : Option Addr} {xs : List Int} (h : WordsAt w ao xs) (hF : Fr S w w') (hS : ∀ a, ao = some a → a.block ∉ S) : WordsAt w' ao xs := by
  intro i x hx
  obtain ⟨g, o, rfl, hc⟩ := h i x hx
  exact ⟨g, o, rfl, hF.cell (hS ⟨g, o, none⟩ rfl) hc⟩

theorem start_any {w : World} {mb : Nat} {m : Mem} {wv sv : Value} (h : MemAt w mb m wv sv) (x : Int) (h1 : 0 ≤ x) (h2 : x ≤ 18446744073709551615) :
    Calls Tryz.prog 75 #[.pointer (some ⟨mb, 0, none⟩), .int .u64 x] w fun e w' => ∃ z : Int, e = .returned (.tuple #[.int .i64 z, .bool (stB m.M x)]) ∧ w = w' := by
  cases hx : stB m.M x
  · exact (start_no h x h1 h2 hx).mono fun e w' ⟨a, b⟩ => ⟨0, a, b⟩
  · obtain ⟨k, rfl, k1, k2, hk⟩ := stB_at hx
    exact (start_yes h k hk k1 k2).mono fun e w' ⟨a, b⟩ => ⟨k, a, b⟩

set_option maxHeartbeats 1000000 in
theorem check_ok {w : World} {mb : Nat} {m : Mem} {wv sv : Value} (h : MemAt w mb m wv sv) (ao : Option Addr) (cap : Nat) (xs : List Int) (hx : WordsAt w ao xs) (hl : xs.length ≤ 65536) (hb : ∀ x ∈ xs, 0 ≤ x ∧ x ≤ 18446744073709551615) (hok : ∀ x ∈ xs, okB m.M x = true) :
    Calls Tryz.prog 73 #[.pointer (some ⟨mb, 0, none⟩), .slice ao xs.length cap] w (Gives .nilIface w) := by
  have hst := start_any h
  clear h
  obtain ⟨n, hn⟩ : ∃ n, n = xs.length := ⟨_, rfl⟩
  rw [← hn]
  have hn2 : n ≤ 65536 := by omega
  have HN := Lib.hid hn
  have HX := Lib.hid hx
  have HB := Lib.hid hb
  have HOK := Lib.hid hok
  have HST := Lib.hid hst
  clear hn hx hb hok hst hl
  go_enter Tryz.func73, Tryz.ntmps73
  go_wp2
  go_loop [11] (fun i => ∃ k : Nat, k ≤ n ∧ i = .int .i64 k) (fun i => n - (intOf i).toNat)
  case atStart => exact ⟨0, Nat.zero_le _, rfl⟩
  case round =>
    obtain ⟨k, hk, rfl⟩ := hrel
    by_cases hlt : k < n
    · have hkl : k < xs.length := by rw [← HN.out]; exact hlt
      obtain ⟨x, hxk⟩ : ∃ x, x = xs[k] := ⟨_, rfl⟩
      have hxs : xs[k]? = some x := by rw [List.getElem?_eq_getElem hkl, hxk]
      obtain ⟨g, o, hao, hc⟩ := HX.out k x hxs
      subst hao
      have hmem : x ∈ xs := List.mem_of_getElem? hxs
      obtain ⟨b1, b2⟩ := HB.out x hmem
      have hok := HOK.out x hmem
      have hs := HST.out x b1 b2
      have hI := wordIsInt x w b1 b2
      clear hxs hmem hxk hkl
      cases hS : stB m.M x
      · rw [hS] at hs
        unfold okB at hok
        rw [hS] at hok
        simp only [Bool.false_or, Bool.or_eq_true, decide_eq_true_eq] at hok
        rcases hok with rfl | hok
        · clear hI hS
          go_wp2_with (first | (go_at_call 75; refine hs.mono ?_; rintro e w' ⟨z, rfl, rfl⟩))
          go_round
          case rel => exact ⟨k + 1, by omega, by go_num⟩
          case measure => simp [intOf]; omega
        · by_cases h0 : x = 0
          · subst h0; simp [odd] at hok
          · clear hS
            go_wp2_with (first | (go_at_call 75; refine hs.mono ?_; rintro e w' ⟨z, rfl, rfl⟩) | (go_at_call 91; refine hI.mono ?_; rintro e w' ⟨rfl, rfl⟩))
            go_round
            case rel => exact ⟨k + 1, by omega, by go_num⟩
            case measure => simp [intOf]; omega
      · rw [hS] at hs
        clear hok hI hS
        go_wp2_with (first | (go_at_call 75; refine hs.mono ?_; rintro e w' ⟨z, rfl, rfl⟩))
        go_round
        case rel => exact ⟨k + 1, by omega, by go_num⟩
        case measure => simp [intOf]; omega
    · go_wp2
      go_ret
      exact ⟨rfl, rfl⟩

set_option maxHeartbeats 1000000 in
theorem check_bad {w : World} {mb : Nat} {m : Mem} {wv sv : Value} (h : MemAt w mb m wv sv) (hg : Glob w) (ao : Option Addr) (cap : Nat) (xs : List Int) (hx : WordsAt w ao xs) (hl : xs.length ≤ 65536) (hb : ∀ x ∈ xs, 0 ≤ x ∧ x ≤ 18446744073709551615) (j0 : Nat) (y : Int) (hj : xs[j0]? = some y) (hok : okB m.M y = false) :
    Calls Tryz.prog 73 #[.pointer (some ⟨mb, 0, none⟩), .slice ao xs.length cap] w (Fails 1 w) := by
  have hst := start_any h
  clear h
  obtain ⟨n, hn⟩ : ∃ n, n = xs.length := ⟨_, rfl⟩
  rw [← hn]
  have hn2 : n ≤ 65536 := by omega
  have hj0 : j0 < n := by rw [hn]; exact (List.getElem?_eq_some_iff.1 hj).1
  have HN := Lib.hid hn
  have HX := Lib.hid hx
  have HB := Lib.hid hb
  have HST := Lib.hid hst
  have HJ := Lib.hid hj
  have HOK := Lib.hid hok
  clear hn hx hb hok hst hl hj
  go_enter Tryz.func73, Tryz.ntmps73
  go_wp2
  go_loop [11] (fun i => ∃ k : Nat, k ≤ j0 ∧ i = .int .i64 k) (fun i => n - (intOf i).toNat)
  case atStart => exact ⟨0, Nat.zero_le _, rfl⟩
  case round =>
    obtain ⟨k, hk, rfl⟩ := hrel
    have hlt : k < n := by omega
    have hkl : k < xs.length := by rw [← HN.out]; exact hlt
    obtain ⟨x, hxk⟩ : ∃ x, x = xs[k] := ⟨_, rfl⟩
    have hxs : xs[k]? = some x := by rw [List.getElem?_eq_getElem hkl, hxk]
    obtain ⟨g, o, hao, hc⟩ := HX.out k x hxs
    subst hao
    have hmem : x ∈ xs := List.mem_of_getElem? hxs
    obtain ⟨b1, b2⟩ := HB.out x hmem
    have hs := HST.out x b1 b2
    have hI := wordIsInt x w b1 b2
    have hne : okB m.M x = true → k < j0 := by
      intro hx1
      rcases Nat.lt_or_ge k j0 with h' | h'
      · exact h'
      · have : k = j0 := by omega
        subst this
        rw [HJ.out] at hxs
        cases hxs
        rw [HOK.out] at hx1
        cases hx1
    clear hxs hmem hxk hkl
    cases hS : stB m.M x
    · rw [hS] at hs
      by_cases h0 : x = 0
      · subst h0
        have hk3 : k < j0 := hne (by simp [okB])
        clear hI hS hne
        go_wp2_with (first | (go_at_call 75; refine hs.mono ?_; rintro e w' ⟨z, rfl, rfl⟩))
        go_round
        case rel => exact ⟨k + 1, by omega, by go_num⟩
        case measure => simp [intOf]; omega
      · cases ho : odd x
        · have hf := fun s hs => invalidWord_fails s hs x w hg b1 (by omega)
          clear hS hne hg
          go_wp2_with (first | (go_at_call 75; refine hs.mono ?_; rintro e w' ⟨z, rfl, rfl⟩) | (go_at_call 91; refine hI.mono ?_; rintro e w' ⟨rfl, rfl⟩) | (go_at_call 76; refine (hf _ (by decide)).mono ?_; rintro e w' ⟨s, rfl, hF⟩))
          go_ret
          exact ⟨_, rfl, hF⟩
        · have hk3 : k < j0 := hne (by simp [okB, ho])
          clear hS hne
          go_wp2_with (first | (go_at_call 75; refine hs.mono ?_; rintro e w' ⟨z, rfl, rfl⟩) | (go_at_call 91; refine hI.mono ?_; rintro e w' ⟨rfl, rfl⟩))
          go_round
          case rel => exact ⟨k + 1, by omega, by go_num⟩
          case measure => simp [intOf]; omega
    · rw [hS] at hs
      have hk3 : k < j0 := hne (by simp [okB, hS])
      clear hI hS hne
      go_wp2_with (first | (go_at_call 75; refine hs.mono ?_; rintro e w' ⟨z, rfl, rfl⟩))
      go_round
      case rel => exact ⟨k + 1, by omega, by go_num⟩
      case measure => simp [intOf]; omega
end Go.Proofs.YtofhgfgipdokbaaGreatDoor
namespace Go.Proofs.YtofhgfgipdokbaaGreatDoor
open Go.RowKit

/-- the blocks of a memory -/
def foot (mb : Nat) (wv sv : Value) : List Nat := mb :: (wv.ownBlock.toList ++ sv.ownBlock.toList)
theorem foot_mb {mb : Nat} {wv sv : Value} : mb ∈ foot mb wv sv := by simp [foot]
theorem foot_w {mb g : Nat} {wv sv : Value} (h : wv.ownBlock = some g) : g ∈ foot mb wv sv := by simp [foot, h]
theorem foot_s {mb g : Nat} {wv sv : Value} (h : sv.ownBlock = some g) : g ∈ foot mb wv sv := by simp [foot, h]
theorem MemAt.fr {S : List Nat} {w w' : World} {mb : Nat} {m : Mem} {wv sv : Value} (h : MemAt w mb m wv sv) (hF : Fr S w w') (hS : ∀ k ∈ foot mb wv sv, k ∉ S) : MemAt w' mb m wv sv :=
  ⟨hF.heap (hS _ foot_mb) h.mem, hF.row h.words (fun k hk => hS k (foot_w hk)), hF.row h.starts (fun k hk => hS k (foot_s hk)), h.most, h.alike⟩
theorem MemAt.fr0 {w w' : World} {mb : Nat} {m : Mem} {wv sv : Value} (h : MemAt w mb m wv sv) (hF : Fr [] w w') : MemAt w' mb m wv sv := h.fr hF (fun _ _ e => by cases e)
theorem row_heap {w : World} {b : Nat} {e : TypeId} {v : Value} {n : Nat} {xs : List Value} (h : w.ownsRow b e 1 v n xs) {g : Nat} (hg : v.ownBlock = some g) : ∃ cur, w.heap[g]? = some (.cells cur e (0, 0)) := by
  rcases h.2 with ⟨rfl, rfl⟩ | ⟨g', cap, cur, rfl, hb, hh, _⟩
  · cases hg
  · cases hg; exact ⟨cur, hh⟩
theorem MemAt.w_ne_mb {w : World} {mb : Nat} {m : Mem} {wv sv : Value} (h : MemAt w mb m wv sv) {g : Nat} (hg : wv.ownBlock = some g) : g ≠ mb := by
  rintro rfl
  obtain ⟨cur, hh⟩ := row_heap h.words hg
  have := h.mem.symm.trans hh
  simp at this
theorem MemAt.s_ne_mb {w : World} {mb : Nat} {m : Mem} {wv sv : Value} (h : MemAt w mb m wv sv) {g : Nat} (hg : sv.ownBlock = some g) : g ≠ mb := by
  rintro rfl
  obtain ⟨cur, hh⟩ := row_heap h.starts hg
  have := h.mem.symm.trans hh
  simp at this
theorem MemAt.w_ne_s {w : World} {mb : Nat} {m : Mem} {wv sv : Value} (h : MemAt w mb m wv sv) {g k : Nat} (hg : wv.ownBlock = some g) (hk : sv.ownBlock = some k) : g ≠ k := by
  rintro rfl
  obtain ⟨c1, h1⟩ := row_heap h.words hg
  obtain ⟨c2, h2⟩ := row_heap h.starts hk
  have := h1.symm.trans h2
  simp at this
theorem MemAt.lt {w : World} {mb : Nat} {m : Mem} {wv sv : Value} (h : MemAt w mb m wv sv) : ∀ k ∈ foot mb wv sv, k < w.heap.size := by
  intro k hk
  simp only [foot, List.mem_cons, List.mem_append, Option.mem_toList] at hk
  rcases hk with rfl | hk | hk
  · exact lt_of_heap h.mem
  · obtain ⟨c, hc⟩ := row_heap h.words hk; exact lt_of_heap hc
  · obtain ⟨c, hc⟩ := row_heap h.starts hk; exact lt_of_heap hc
/-- a word of the memory is written -/
theorem MemAt.setWord {w : World} {mb : Nat} {m : Mem} {sv : Value} {g cap : Nat} (h : MemAt w mb m (.slice (some ⟨g, 0, none⟩) m.W.length cap) sv) (i : Nat) (x : Int) :
    MemAt (w.setCell ⟨g, i, none⟩ (.int .u64 x)) mb { m with W := m.W.set i x } (.slice (some ⟨g, 0, none⟩) m.W.length cap) sv := by
  have hF : Fr [g] w (w.setCell ⟨g, i, none⟩ (.int .u64 x)) := (Fr.refl _ _).setCell (fun _ => by simp) _
  have h1 := h.w_ne_mb (g := g) rfl
  refine ⟨hF.heap (by simpa using fun e => h1 e.symm) h.mem, ?_, hF.row h.starts (fun k hk => by have := h.w_ne_s (g := g) rfl hk; simpa using fun e => this e.symm), by simpa using h.most, by simpa using h.alike⟩
  have := (h.words.stored i (.int .u64 x)).1
  simpa [List.map_set] using this
/-- Returned v; the memory at block mb is m' now, its rows where they were; nothing but the blocks of S has changed. -/
def Sets (v : Value) (mb : Nat) (m' : Mem) (wv sv : Value) (w : World) (e : Ending) (w' : World) : Prop := e = .returned v ∧ MemAt w' mb m' wv sv ∧ Fr (foot mb wv sv) w w'

theorem check1_ok {w : World} {mb : Nat} {m : Mem} {wv sv : Value} (h : MemAt w mb m wv sv) (a : Addr) (x : Int) (ha : w.cell? a = some (.int .u64 x)) (hs : a.spot = none) (b1 : 0 ≤ x) (b2 : x ≤ 18446744073709551615) (hok : okB m.M x = true) :
    Calls Tryz.prog 73 #[.pointer (some ⟨mb, 0, none⟩), .slice (some a) 1 1] w (Gives .nilIface w) := by
  obtain ⟨g, o, sp⟩ := a
  cases hs
  exact check_ok h (some ⟨g, o, none⟩) 1 [x] (fun i y hy => by cases i with | zero => cases hy; exact ⟨g, o, rfl, ha⟩ | succ i => simp at hy) (by simp) (by simpa using ⟨b1, b2⟩) (by simpa using hok)
theorem check1_bad {w : World} {mb : Nat} {m : Mem} {wv sv : Value} (h : MemAt w mb m wv sv) (hg : Glob w) (a : Addr) (x : Int) (ha : w.cell? a = some (.int .u64 x)) (hs : a.spot = none) (b1 : 0 ≤ x) (b2 : x ≤ 18446744073709551615) (hok : okB m.M x = false) :
    Calls Tryz.prog 73 #[.pointer (some ⟨mb, 0, none⟩), .slice (some a) 1 1] w (Fails 1 w) := by
  obtain ⟨g, o, sp⟩ := a
  cases hs
  exact check_bad h hg (some ⟨g, o, none⟩) 1 [x] (fun i y hy => by cases i with | zero => cases hy; exact ⟨g, o, rfl, ha⟩ | succ i => simp at hy) (by simp) (by simpa using ⟨b1, b2⟩) 0 x rfl hok

/-! assignHash -/
theorem MemAt.setHashes {w : World} {mb : Nat} {m : Mem} {wv sv : Value} (h : MemAt w mb m wv sv) (n : Int) : MemAt (w.setCell ⟨mb, 4, none⟩ (.int .i64 n)) mb { m with hashes := n } wv sv := by
  have hF : Fr [mb] w (w.setCell ⟨mb, 4, none⟩ (.int .i64 n)) := (Fr.refl _ _).setCell (fun _ => by simp) _
  exact ⟨heap_setCell_same h.mem _, hF.row h.words (fun k hk => by simpa using h.w_ne_mb hk), hF.row h.starts (fun k hk => by simpa using h.s_ne_mb hk), h.most, h.alike⟩
theorem MemAt.setRoot {w : World} {mb : Nat} {m : Mem} {wv sv : Value} (h : MemAt w mb m wv sv) (n : Int) : MemAt (w.setCell ⟨mb, 3, none⟩ (.int .u64 n)) mb { m with root := n } wv sv := by
  have hF : Fr [mb] w (w.setCell ⟨mb, 3, none⟩ (.int .u64 n)) := (Fr.refl _ _).setCell (fun _ => by simp) _
  exact ⟨heap_setCell_same h.mem _, hF.row h.words (fun k hk => by simpa using h.w_ne_mb hk), hF.row h.starts (fun k hk => by simpa using h.s_ne_mb hk), h.most, h.alike⟩
theorem MemAt.cell {w : World} {mb : Nat} {m : Mem} {wv sv : Value} (h : MemAt w mb m wv sv) : w.cell? ⟨mb, 0, none⟩ = some (.int .i64 m.lim) ∧ w.cell? ⟨mb, 1, none⟩ = some wv ∧ w.cell? ⟨mb, 2, none⟩ = some sv ∧ w.cell? ⟨mb, 3, none⟩ = some (.int .u64 m.root) ∧ w.cell? ⟨mb, 4, none⟩ = some (.int .i64 m.hashes) :=
  ⟨cell_of_heap h.mem rfl, cell_of_heap h.mem rfl, cell_of_heap h.mem rfl, cell_of_heap h.mem rfl, cell_of_heap h.mem rfl⟩
theorem MemAt.frozen {w : World} {mb : Nat} {m : Mem} {wv sv : Value} (h : MemAt w mb m wv sv) (o : Nat) : w.frozen? ⟨mb, o, none⟩ = false := frozen_of_heap h.mem
end Go.Proofs.YtofhgfgipdokbaaGreatDoor
namespace Go.Proofs.YtofhgfgipdokbaaGreatDoor
open Go.RowKit

theorem check2_ok {w : World} {mb : Nat} {m : Mem} {wv sv : Value} (h : MemAt w mb m wv sv) (g : Nat) (x y : Int) (ha : w.cell? ⟨g, 0, none⟩ = some (.int .u64 x)) (hb : w.cell? ⟨g, 1, none⟩ = some (.int .u64 y)) (b1 : 0 ≤ x) (b2 : x ≤ 18446744073709551615) (b3 : 0 ≤ y) (b4 : y ≤ 18446744073709551615) (hok : okB m.M x = true) (hok2 : okB m.M y = true) :
    Calls Tryz.prog 73 #[.pointer (some ⟨mb, 0, none⟩), .slice (some ⟨g, 0, none⟩) 2 2] w (Gives .nilIface w) :=
  check_ok h (some ⟨g, 0, none⟩) 2 [x, y] (fun i z hz => by match i, hz with | 0, hz => cases hz; exact ⟨g, 0, rfl, ha⟩ | 1, hz => cases hz; exact ⟨g, 0, rfl, hb⟩ | i + 2, hz => simp at hz) (by simp) (by simp; omega) (by simpa using ⟨hok, hok2⟩)
theorem check2_bad {w : World} {mb : Nat} {m : Mem} {wv sv : Value} (h : MemAt w mb m wv sv) (hg : Glob w) (g : Nat) (x y : Int) (ha : w.cell? ⟨g, 0, none⟩ = some (.int .u64 x)) (hb : w.cell? ⟨g, 1, none⟩ = some (.int .u64 y)) (b1 : 0 ≤ x) (b2 : x ≤ 18446744073709551615) (b3 : 0 ≤ y) (b4 : y ≤ 18446744073709551615) (hok : okB m.M x = false ∨ okB m.M y = false) :
    Calls Tryz.prog 73 #[.pointer (some ⟨mb, 0, none⟩), .slice (some ⟨g, 0, none⟩) 2 2] w (Fails 1 w) := by
  have hW : WordsAt w (some ⟨g, 0, none⟩) [x, y] := fun i z hz => by match i, hz with | 0, hz => cases hz; exact ⟨g, 0, rfl, ha⟩ | 1, hz => cases hz; exact ⟨g, 0, rfl, hb⟩ | i + 2, hz => simp at hz
  rcases hok with hok | hok
  · exact check_bad h hg (some ⟨g, 0, none⟩) 2 [x, y] hW (by simp) (by simp; omega) 0 x rfl hok
  · exact check_bad h hg (some ⟨g, 0, none⟩) 2 [x, y] hW (by simp) (by simp; omega) 1 y rfl hok
end Go.Proofs.YtofhgfgipdokbaaGreatDoor
