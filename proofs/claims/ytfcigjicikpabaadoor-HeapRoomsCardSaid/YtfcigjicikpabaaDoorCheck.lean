/- What the memory's check returns: nothing where all words are valid, else a fault. -/
import Derived.Test.YtfcigjicikpabaaDoorFind
namespace Go.Proofs.YtfcigjicikpabaaDoor
open Go.RowKit

/-- may a word be? -/
def okB (M : List Bool) (x : Int) : Bool := stB M x || decide (x = 0) || odd x
/-- the words xs lie from an address on -/
def WordsAt (w : World) (ao : Option Addr) (xs : List Int) : Prop := ∀ i x, xs[i]? = some x → ∃ g o, ao = some ⟨g, o, none⟩ ∧ w.cell? ⟨g, o + i, none⟩ = some (.int .u64 x)
theorem WordsAt.fr {S : List Nat} {w w' : World} {ao : Option Addr} {xs : List Int} (h : WordsAt w ao xs) (hF : Fr S w w') (hS : ∀ a, ao = some a → a.block ∉ S) : WordsAt w' ao xs := by
  intro i x hx
  obtain ⟨g, o, rfl, hc⟩ := h i x hx
  exact ⟨g, o, rfl, hF.cell (hS ⟨g, o, none⟩ rfl) hc⟩

theorem start_any {w : World} {mb : Nat} {m : Mem} {wv sv : Value} (h : MemAt w mb m wv sv) (x : Int) (h1 : 0 ≤ x) (h2 : x ≤ 18446744073709551615) :
    Calls Tryd.prog 36 #[.pointer (some ⟨mb, 0, none⟩), .int .u64 x] w fun e w' => ∃ z : Int, e = .returned (.tuple #[.int .i64 z, .bool (stB m.M x)]) ∧ w = w' := by
  cases hx : stB m.M x
  · exact (start_no h x h1 h2 hx).mono fun e w' ⟨a, b⟩ => ⟨0, a, b⟩
  · obtain ⟨k, rfl, k1, k2, hk⟩ := stB_at hx
    exact (start_yes h k hk k1 k2).mono fun e w' ⟨a, b⟩ => ⟨k, a, b⟩

set_option maxHeartbeats 1000000 in
theorem check_ok {w : World} {mb : Nat} {m : Mem} {wv sv : Value} (h : MemAt w mb m wv sv) (ao : Option Addr) (cap : Nat) (xs : List Int) (hx : WordsAt w ao xs) (hl : xs.length ≤ 65536) (hb : ∀ x ∈ xs, 0 ≤ x ∧ x ≤ 18446744073709551615) (hok : ∀ x ∈ xs, okB m.M x = true) :
    Calls Tryd.prog 42 #[.pointer (some ⟨mb, 0, none⟩), .slice ao xs.length cap] w (Gives .nilIface w) := by
  have hst := start_any h
  clear h
  obtain ⟨n, hn⟩ : ∃ n, n = xs.length := ⟨_, rfl⟩
  rw [← hn]
  have hn2 : n ≤ 65536 := by omega
  have HN := Lib.hid hn
  have HX := Lib.hid hx
  have HB := Lib.hid hb
  have HOK := Lib.hid hok
  have HST := Lib.hid hst
  clear hn hx hb hok hst hl
  go_enter Tryd.func42, Tryd.ntmps42
  go_wp2
  go_loop [11] (fun i => ∃ k : Nat, k ≤ n ∧ i = .int .i64 k) (fun i => n - (intOf i).toNat)
  case atStart => exact ⟨0, Nat.zero_le _, rfl⟩
  case round =>
    obtain ⟨k, hk, rfl⟩ := hrel
    by_cases hlt : k < n
    · have hkl : k < xs.length := by rw [← HN.out]; exact hlt
      obtain ⟨x, hxk⟩ : ∃ x, x = xs[k] := ⟨_, rfl⟩
      have hxs : xs[k]? = some x := by rw [List.getElem?_eq_getElem hkl, hxk]
      obtain ⟨g, o, hao, hc⟩ := HX.out k x hxs
      subst hao
      have hmem : x ∈ xs := List.mem_of_getElem? hxs
      obtain ⟨b1, b2⟩ := HB.out x hmem
      have hok := HOK.out x hmem
      have hs := HST.out x b1 b2
      have hI := wordIsInt x w b1 b2
      clear hxs hmem hxk hkl
      cases hS : stB m.M x
      · rw [hS] at hs
        unfold okB at hok
        rw [hS] at hok
        simp only [Bool.false_or, Bool.or_eq_true, decide_eq_true_eq] at hok
        rcases hok with rfl | hok
        · clear hI hS
          go_wp2_with (first | (go_at_call 36; refine hs.mono ?_; rintro e w' ⟨z, rfl, rfl⟩))
          go_round
          case rel => exact ⟨k + 1, by omega, by go_num⟩
          case measure => simp [intOf]; omega
        · by_cases h0 : x = 0
          · subst h0; simp [odd] at hok
          · clear hS
            go_wp2_with (first | (go_at_call 36; refine hs.mono ?_; rintro e w' ⟨z, rfl, rfl⟩) | (go_at_call 52; refine hI.mono ?_; rintro e w' ⟨rfl, rfl⟩))
            go_round
            case rel => exact ⟨k + 1, by omega, by go_num⟩
            case measure => simp [intOf]; omega
      · rw [hS] at hs
        clear hok hI hS
        go_wp2_with (first | (go_at_call 36; refine hs.mono ?_; rintro e w' ⟨z, rfl, rfl⟩))
        go_round
        case rel => exact ⟨k + 1, by omega, by go_num⟩
        case measure => simp [intOf]; omega
    · go_wp2
      go_ret
      exact ⟨rfl, rfl⟩

set_option maxHeartbeats 1000000 in
theorem check_bad {w : World} {mb : Nat} {m : Mem} {wv sv : Value} (h : MemAt w mb m wv sv) (hg : Glob w) (ao : Option Addr) (cap : Nat) (xs : List Int) (hx : WordsAt w ao xs) (hl : xs.length ≤ 65536) (hb : ∀ x ∈ xs, 0 ≤ x ∧ x ≤ 18446744073709551615) (j0 : Nat) (y : Int) (hj : xs[j0]? = some y) (hok : okB m.M y = false) :
    Calls Tryd.prog 42 #[.pointer (some ⟨mb, 0, none⟩), .slice ao xs.length cap] w (Fails 1 w) := by
  have hst := start_any h
  clear h
  obtain ⟨n, hn⟩ : ∃ n, n = xs.length := ⟨_, rfl⟩
  rw [← hn]
  have hn2 : n ≤ 65536 := by omega
  have hj0 : j0 < n := by rw [hn]; exact (List.getElem?_eq_some_iff.1 hj).1
  have HN := Lib.hid hn
  have HX := Lib.hid hx
  have HB := Lib.hid hb
  have HST := Lib.hid hst
  have HJ := Lib.hid hj
  have HOK := Lib.hid hok
  clear hn hx hb hok hst hl hj
  go_enter Tryd.func42, Tryd.ntmps42
  go_wp2
  go_loop [11] (fun i => ∃ k : Nat, k ≤ j0 ∧ i = .int .i64 k) (fun i => n - (intOf i).toNat)
  case atStart => exact ⟨0, Nat.zero_le _, rfl⟩
  case round =>
    obtain ⟨k, hk, rfl⟩ := hrel
    have hlt : k < n := by omega
    have hkl : k < xs.length := by rw [← HN.out]; exact hlt
    obtain ⟨x, hxk⟩ : ∃ x, x = xs[k] := ⟨_, rfl⟩
    have hxs : xs[k]? = some x := by rw [List.getElem?_eq_getElem hkl, hxk]
    obtain ⟨g, o, hao, hc⟩ := HX.out k x hxs
    subst hao
    have hmem : x ∈ xs := List.mem_of_getElem? hxs
    obtain ⟨b1, b2⟩ := HB.out x hmem
    have hs := HST.out x b1 b2
    have hI := wordIsInt x w b1 b2
    have hne : okB m.M x = true → k < j0 := by
      intro hx1
      rcases Nat.lt_or_ge k j0 with h' | h'
      · exact h'
      · have : k = j0 := by omega
        subst this
        rw [HJ.out] at hxs
        cases hxs
        rw [HOK.out] at hx1
        cases hx1
    clear hxs hmem hxk hkl
    cases hS : stB m.M x
    · rw [hS] at hs
      by_cases h0 : x = 0
      · subst h0
        have hk3 : k < j0 := hne (by simp [okB])
        clear hI hS hne
        go_wp2_with (first | (go_at_call 36; refine hs.mono ?_; rintro e w' ⟨z, rfl, rfl⟩))
        go_round
        case rel => exact ⟨k + 1, by omega, by go_num⟩
        case measure => simp [intOf]; omega
      · cases ho : odd x
        · have hf := fun s hs => invalidWord_fails s hs x w hg b1 (by omega)
          clear hS hne hg
          go_wp2_with (first | (go_at_call 36; refine hs.mono ?_; rintro e w' ⟨z, rfl, rfl⟩) | (go_at_call 52; refine hI.mono ?_; rintro e w' ⟨rfl, rfl⟩) | (go_at_call 46; refine (hf _ (by decide)).mono ?_; rintro e w' ⟨s, rfl, hF⟩))
          go_ret
          exact ⟨_, rfl, hF⟩
        · have hk3 : k < j0 := hne (by simp [okB, ho])
          clear hS hne
          go_wp2_with (first | (go_at_call 36; refine hs.mono ?_; rintro e w' ⟨z, rfl, rfl⟩) | (go_at_call 52; refine hI.mono ?_; rintro e w' ⟨rfl, rfl⟩))
          go_round
          case rel => exact ⟨k + 1, by omega, by go_num⟩
          case measure => simp [intOf]; omega
    · rw [hS] at hs
      have hk3 : k < j0 := hne (by simp [okB, hS])
      clear hI hS hne
      go_wp2_with (first | (go_at_call 36; refine hs.mono ?_; rintro e w' ⟨z, rfl, rfl⟩))
      go_round
      case rel => exact ⟨k + 1, by omega, by go_num⟩
      case measure => simp [intOf]; omega
end Go.Proofs.YtfcigjicikpabaaDoor
