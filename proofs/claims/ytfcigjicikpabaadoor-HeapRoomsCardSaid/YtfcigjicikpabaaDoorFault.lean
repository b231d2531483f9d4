/- heap.invalid, invalidWord, full: each returns a fault that wraps its number; memory that was there stays as it was. -/
import Derived.Test.YtfcigjicikpabaaDoorNum
import Derived.Lib.ItoaLen
namespace Go.Proofs.YtfcigjicikpabaaDoor
open Go.RowKit Go.Sort Go.Lib

/-- what the package-level variables that are read hold -/
structure Glob (w : World) : Prop where
  et : w.cell? ⟨0, 0, none⟩ = some (.iface 117 (.agg #[.pointer (some ⟨4, 55, none⟩)]))
  tab : Lib.TabIs Tryd.prog w "internal/strconv.uint64pow10" .u64 Lib.pow10Tab
theorem tabIs_fr {S : List Nat} {w w' : World} {k : IntKind} {zs : List Int} (h : Fr S w w') (hS : 1 ∉ S) (ht : Lib.TabIs Tryd.prog w "internal/strconv.uint64pow10" k zs) : Lib.TabIs Tryd.prog w' "internal/strconv.uint64pow10" k zs := by
  have hg : Tryd.prog.globalNamed "internal/strconv.uint64pow10" = some 1 := by kernel_rfl
  unfold Lib.TabIs World.var? at ht ⊢
  simp only [hg, Option.bind_some] at ht ⊢
  have hlt : 1 < w.heap.size := by
    rcases Nat.lt_or_ge 1 w.heap.size with h' | h'
    · exact h'
    · rw [Array.getElem?_eq_none h'] at ht; simp at ht
  rw [h.block _ hlt hS]
  exact ht
theorem Glob.fr' {S : List Nat} {w w' : World} (hg : Glob w) (h : Fr S w w') (hS : ∀ k ∈ S, 4 ≤ k) : Glob w' :=
  ⟨h.cell (fun e => by have := hS _ e; simp at this) hg.et, tabIs_fr h (fun e => by have := hS _ e; simp at this) hg.tab⟩
theorem Glob.fr {w w' : World} (hg : Glob w) (h : Fr [] w w') : Glob w' := hg.fr' h (fun _ e => by cases e)

/-- Returned a short text; only new memory. -/
def Texts (w : World) (e : Ending) (w' : World) : Prop := ∃ t : ByteArray, e = .returned (.string t) ∧ t.size ≤ 21 ∧ Fr [] w w'
theorem formatUint (u : Nat) (hu64 : u < 18446744073709551616) (w : World) (hg : Glob w) :
    Calls Tryd.prog 59 #[.int .u64 u, .int .i64 10] w (Texts w) := by
  have hc := iFormatUint u hu64 w hg.tab
  have hl : (Lib.decDigits u).length ≤ 21 := by rw [Lib.decDigits_length]; have := Lib.nDigits_le20 u hu64; omega
  clear hg
  go_enter Tryd.func59, Tryd.ntmps59
  go_wp2_with (go_at_call 64; refine hc.mono ?_; rintro e w' ⟨rfl, hF⟩)
  go_ret
  exact ⟨_, rfl, by simpa [ByteArray.size] using hl, hF⟩
theorem itoa_texts (n : Int) (w : World) (hg : Glob w) (h0 : -9223372036854775808 ≤ n) (h1 : n ≤ 9223372036854775807) : Calls Tryd.prog 51 #[.int .i64 n] w (Texts w) := by
  refine (Tryd.strconv_Itoa n h0 h1 w hg.tab).mono ?_
  rintro e w' ⟨rfl, k, os, rfl⟩
  exact ⟨_, rfl, by simpa [ByteArray.size] using Lib.itoa_length_le n h0 h1, Fr.grow k os⟩

/-- Returned a fault that wraps n; only new memory. -/
def Fails (n : Int) (w : World) (e : Ending) (w' : World) : Prop := ∃ s : ByteArray, e = .returned (.iface 94 (.agg #[.string s, .int .i64 n])) ∧ Fr [] w w'

theorem invalid_fails (s : ByteArray) (hs : s.size ≤ 100) (n : Int) (w : World) (hg : Glob w) (h0 : -9223372036854775808 ≤ n) (h1 : n ≤ 9223372036854775807) :
    Calls Tryd.prog 41 #[.string s, .int .i64 n] w (Fails 1 w) := by
  have hc := itoa_texts n w hg h0 h1
  clear hg
  go_enter Tryd.func41, Tryd.ntmps41
  go_wp2_with (go_at_call 51; refine hc.mono ?_; rintro e w' ⟨t, rfl, ht, hF⟩)
  go_ret
  exact ⟨_, rfl, hF⟩
theorem full_fails (s : ByteArray) (hs : s.size ≤ 100) (n : Int) (w : World) (hg : Glob w) (h0 : -9223372036854775808 ≤ n) (h1 : n ≤ 9223372036854775807) :
    Calls Tryd.prog 43 #[.string s, .int .i64 n] w (Fails 2 w) := by
  have hc := itoa_texts n w hg h0 h1
  clear hg
  go_enter Tryd.func43, Tryd.ntmps43
  go_wp2_with (go_at_call 51; refine hc.mono ?_; rintro e w' ⟨t, rfl, ht, hF⟩)
  go_ret
  exact ⟨_, rfl, hF⟩
theorem invalidWord_fails (s : ByteArray) (hs : s.size ≤ 100) (n : Int) (w : World) (hg : Glob w) (h0 : 0 ≤ n) (h1 : n < 18446744073709551616) :
    Calls Tryd.prog 46 #[.string s, .int .u64 n] w (Fails 1 w) := by
  obtain ⟨u, rfl⟩ := Int.eq_ofNat_of_zero_le h0
  have hc := formatUint u (by omega) w hg
  clear hg h0 h1
  go_enter Tryd.func46, Tryd.ntmps46
  go_wp2_with (go_at_call 59; refine hc.mono ?_; rintro e w' ⟨t, rfl, ht, hF⟩)
  go_ret
  exact ⟨_, rfl, hF⟩
theorem errno_still (s : ByteArray) (n : Int) (w : World) (hg : Glob w) : Calls Tryd.prog 25 #[.iface 94 (.agg #[.string s, .int .i64 n])] w (Still (.int .i64 n) w) := errno_fault s n w hg.et
end Go.Proofs.YtfcigjicikpabaaDoor
