/- What the heap's methods return and do at an object. -/
import Derived.Test.YtfcigjicikpabaaDoorAlloc
namespace Go.Proofs.YtfcigjicikpabaaDoor
open Go.RowKit

section
variable {w : World} {hv : Value} {mb : Nat} {m : Mem} {wv sv : Value}
theorem size_yes (hO : Opens hv mb m wv sv w) (k z : Nat) (hk : m.M[k]? = some true) (h1 : 1 ≤ k) (h2 : k ≤ 2147483647) (hz : m.W[k + 2]? = some (z : Int)) (hz2 : z ≤ 65536) : Calls Tryd.prog 7 #[hv, .int .u64 (2 * k)] w (Still (.tuple #[.int .i64 z, .int .i64 0]) w) := by
  unfold Opens at hO
  have HK := Lib.hid hk
  have HZ := Lib.hid hz
  clear hk hz
  go_enter Tryd.func7, Tryd.ntmps7
  go_wp2_with (first
    | (go_at_call 23; refine hO.mono ?_; rintro e w' ⟨rfl, hM, hF⟩; have hc := find_yes hM k HK.out h1 h2; have hs := size_gives hM k z HZ.out hz2; have HF := Lib.hid hF; clear hM hF)
    | (go_at_call 29; refine hc.mono ?_; rintro e w'' ⟨rfl, rfl⟩)
    | (go_at_call 30; refine hs.mono ?_; rintro e w3 ⟨rfl, rfl⟩))
  go_ret2
  exact ⟨rfl, HF.out⟩
theorem class_yes (hO : Opens hv mb m wv sv w) (k : Nat) (c : Int) (hk : m.M[k]? = some true) (h1 : 1 ≤ k) (h2 : k ≤ 2147483647) (hz : m.W[k]? = some c) : Calls Tryd.prog 8 #[hv, .int .u64 (2 * k)] w (Still (.tuple #[.int .u64 c, .int .i64 0]) w) := by
  unfold Opens at hO
  have HK := Lib.hid hk
  have HZ := Lib.hid hz
  have hkl : k < m.W.length := (List.getElem?_eq_some_iff.1 hz).1
  clear hk hz
  go_enter Tryd.func8, Tryd.ntmps8
  go_wp2_with (first
    | (go_at_call 23; refine hO.mono ?_; rintro e w' ⟨rfl, hM, hF⟩; have hc := find_yes hM k HK.out h1 h2; have hmost := hM.most; obtain ⟨g, cap, -, hw, hcl, -, -, hi⟩ := words_at hM HZ.out; have HF := Lib.hid hF; clear hM hF)
    | (go_at_call 29; refine hc.mono ?_; rintro e w'' ⟨rfl, rfl⟩))
  go_ret2
  exact ⟨rfl, HF.out⟩
theorem fetch_far (hO : Opens hv mb m wv sv w) (hg : Glob w) (k z : Nat) (j : Int) (hk : m.M[k]? = some true) (h1 : 1 ≤ k) (hz : m.W[k + 2]? = some (z : Int)) (hz2 : z ≤ 65536) (hj : j < 0 ∨ (z : Int) ≤ j) (j1 : -9223372036854775808 ≤ j) (j2 : j ≤ 9223372036854775807) : Calls Tryd.prog 10 #[hv, .int .u64 (2 * k), .int .i64 j] w (Still (.tuple #[.int .u64 0, .int .i64 1]) w) := by
  unfold Opens at hO
  have HG := Lib.hid hg
  have HC : Hid (∀ w', MemAt w' mb m wv sv → Glob w' → Calls Tryd.prog 33 #[.pointer (some ⟨mb, 0, none⟩), .int .u64 (2 * k), .int .i64 j] w' (Fails2 1 w')) := fun w' hM hG => field_far hM hG k z j hk h1 hz hz2 hj j1 j2
  clear hg hk hz hj
  go_enter Tryd.func10, Tryd.ntmps10
  go_wp2_with (first
    | (go_at_call 23; refine hO.mono ?_; rintro e w' ⟨rfl, hM, hF⟩; have hc := HC.out w' hM (HG.out.fr hF); have HF := Lib.hid hF; clear hM hF)
    | (go_at_call 33; refine hc.mono ?_; rintro e w'' ⟨s, rfl, hF2⟩; have HF2 := Lib.hid (HF.out.trans hF2); have he := errno_still s 1 w'' (HG.out.fr HF2.out); clear hF2)
    | (go_at_call 25; refine he.mono ?_; rintro e w3 ⟨rfl, hF3⟩))
  go_ret2
  exact ⟨rfl, HF2.out.trans hF3⟩
theorem fetch_yes (hO : Opens hv mb m wv sv w) (k z j : Nat) (v : Int) (hk : m.M[k]? = some true) (h1 : 1 ≤ k) (hz : m.W[k + 2]? = some (z : Int)) (hz2 : z ≤ 65536) (hj : j < z) (hv' : m.W[k + 3 + j]? = some v) : Calls Tryd.prog 10 #[hv, .int .u64 (2 * k), .int .i64 j] w (Still (.tuple #[.int .u64 v, .int .i64 0]) w) := by
  unfold Opens at hO
  have HV := Lib.hid hv'
  have HC : Hid (∀ w', MemAt w' mb m wv sv → Calls Tryd.prog 33 #[.pointer (some ⟨mb, 0, none⟩), .int .u64 (2 * k), .int .i64 j] w' (Gives (.tuple #[.int .i64 (k + 3 + j), .nilIface]) w')) := fun w' hM => field_yes hM k z j hk h1 hz hz2 hj
  have hkl := (List.getElem?_eq_some_iff.1 hv').1
  clear hv' hk hz
  go_enter Tryd.func10, Tryd.ntmps10
  go_wp2_with (first
    | (go_at_call 23; refine hO.mono ?_; rintro e w' ⟨rfl, hM, hF⟩; have hc := HC.out w' hM; have hmost := hM.most; obtain ⟨g, cap, -, hw, hcl, -, -, hi⟩ := words_at hM HV.out; have HF := Lib.hid hF; clear hM hF)
    | (go_at_call 33; refine hc.mono ?_; rintro e w'' ⟨rfl, rfl⟩))
  go_ret2
  exact ⟨rfl, HF.out⟩
/-! Hash -/
theorem hash_has (hO : Opens hv mb m wv sv w) (k : Nat) (z : Int) (hk : m.M[k]? = some true) (h1 : 1 ≤ k) (h2 : k ≤ 2147483647) (hz : m.W[k + 1]? = some z) (hz1 : 1 ≤ z) (hz2 : z ≤ 1099511627775) : Calls Tryd.prog 9 #[hv, .int .u64 (2 * k)] w (Still (.tuple #[.int .i64 z, .int .i64 0]) w) := by
  unfold Opens at hO
  have HK := Lib.hid hk
  have HZ := Lib.hid hz
  clear hk hz
  go_enter Tryd.func9, Tryd.ntmps9
  go_wp2_with (first
    | (go_at_call 23; refine hO.mono ?_; rintro e w' ⟨rfl, hM, hF⟩; have hc := find_yes hM k HK.out h1 h2; have ha := assignHash_has hM k z HZ.out hz1 hz2; have hs := hash_gives hM k z HZ.out (by omega) hz2; have HF := Lib.hid hF; clear hM hF)
    | (go_at_call 29; refine hc.mono ?_; rintro e w'' ⟨rfl, rfl⟩)
    | (go_at_call 31; refine ha.mono ?_; rintro e w3 ⟨rfl, rfl⟩)
    | (go_at_call 32; refine hs.mono ?_; rintro e w4 ⟨rfl, rfl⟩))
  go_ret2
  exact ⟨rfl, HF.out⟩
theorem hash_full (hO : Opens hv mb m wv sv w) (hg : Glob w) (k : Nat) (hk : m.M[k]? = some true) (h1 : 1 ≤ k) (h2 : k ≤ 2147483647) (hz : m.W[k + 1]? = some 0) (hh : m.hashes = 1099511627775) : Calls Tryd.prog 9 #[hv, .int .u64 (2 * k)] w (Still (.tuple #[.int .i64 0, .int .i64 2]) w) := by
  unfold Opens at hO
  have HG := Lib.hid hg
  have HK := Lib.hid hk
  have HZ := Lib.hid hz
  have HH := Lib.hid hh
  clear hk hz hg hh
  go_enter Tryd.func9, Tryd.ntmps9
  go_wp2_with (first
    | (go_at_call 23; refine hO.mono ?_; rintro e w' ⟨rfl, hM, hF⟩; have hc := find_yes hM k HK.out h1 h2; have ha := assignHash_full hM (HG.out.fr hF) k HZ.out HH.out; have HF := Lib.hid hF; clear hM hF)
    | (go_at_call 29; refine hc.mono ?_; rintro e w'' ⟨rfl, rfl⟩)
    | (go_at_call 31; refine ha.mono ?_; rintro e w3 ⟨s, rfl, hF2⟩; have HF2 := Lib.hid (HF.out.trans hF2); have he := errno_still s 2 w3 (HG.out.fr HF2.out); clear hF2)
    | (go_at_call 25; refine he.mono ?_; rintro e w4 ⟨rfl, hF3⟩))
  go_ret2
  exact ⟨rfl, HF2.out.trans hF3⟩
theorem Sets.turns {v : Value} {m' : Mem} {e : Ending} {w' w1 w0 : World} (h : MemAt w' mb m' wv sv) (hF : Fr (foot mb wv sv) w1 w') (h0 : Fr [] w0 w1) (he : e = .returned v) : Turns v mb m' (foot mb wv sv) w0 e w' :=
  ⟨he, wv, sv, h, h0.cons hF, fun _ hk => .inl hk⟩
theorem hash_new (hO : Opens hv mb m wv sv w) (k : Nat) (hk : m.M[k]? = some true) (h1 : 1 ≤ k) (h2 : k ≤ 2147483647) (hz : m.W[k + 1]? = some 0) (h0 : 0 ≤ m.hashes) (hh : m.hashes < 1099511627775) : Calls Tryd.prog 9 #[hv, .int .u64 (2 * k)] w (Turns (.tuple #[.int .i64 (m.hashes + 1), .int .i64 0]) mb { m with W := m.W.set (k + 1) (m.hashes + 1), hashes := m.hashes + 1 } (foot mb wv sv) w) := by
  unfold Opens at hO
  have HK := Lib.hid hk
  have HZ := Lib.hid hz
  have HI : Hid (({ m with W := m.W.set (k + 1) (m.hashes + 1), hashes := m.hashes + 1 } : Mem).W[k + 1]? = some (m.hashes + 1)) := by
    have hl := (List.getElem?_eq_some_iff.1 hz).1
    show (m.W.set (k + 1) (m.hashes + 1))[k + 1]? = some (m.hashes + 1)
    rw [List.getElem?_set_self hl]
  clear hk hz
  go_enter Tryd.func9, Tryd.ntmps9
  go_wp2_with (first
    | (go_at_call 23; refine hO.mono ?_; rintro e w' ⟨rfl, hM, hF⟩; have hc := find_yes hM k HK.out h1 h2; have ha := assignHash_new hM k HZ.out h0 hh; have HF := Lib.hid hF; clear hM hF)
    | (go_at_call 29; refine hc.mono ?_; rintro e w'' ⟨rfl, rfl⟩)
    | (go_at_call 31; refine ha.mono ?_; rintro e w3 ⟨rfl, hM3, hF3⟩; have hs := hash_gives hM3 k (m.hashes + 1) HI.out (by omega) (by omega); have HM3 := Lib.hid hM3; have HF3 := Lib.hid hF3; clear hM3 hF3)
    | (go_at_call 32; refine hs.mono ?_; rintro e w4 ⟨rfl, rfl⟩))
  go_ret2
  exact Sets.turns HM3.out HF3.out HF.out rfl
/-! SetClass, Store, SetRoot -/
theorem setClass_bad (hO : Opens hv mb m wv sv w) (hg : Glob w) (k : Nat) (y : Int) (hk : m.M[k]? = some true) (h1 : 1 ≤ k) (h2 : k ≤ 2147483647) (b1 : 0 ≤ y) (b2 : y ≤ 18446744073709551615) (hok : okB m.M y = false) : Calls Tryd.prog 11 #[hv, .int .u64 (2 * k), .int .u64 y] w (Still (.int .i64 1) w) := by
  unfold Opens at hO
  have HG := Lib.hid hg
  have HK := Lib.hid hk
  have HOK := Lib.hid hok
  have hkl := (List.getElem?_eq_some_iff.1 hk).1
  clear hk hg hok
  go_enter Tryd.func11, Tryd.ntmps11
  go_wp2_with (first
    | (go_at_call 23; refine hO.mono ?_; rintro e w' ⟨rfl, hM, hF⟩; have hc := find_yes hM k HK.out h1 h2; have ha := set_bad hM (HG.out.fr hF) (k : Int) y b1 b2 HOK.out; have HF := Lib.hid hF; clear hM hF)
    | (go_at_call 29; refine hc.mono ?_; rintro e w'' ⟨rfl, rfl⟩)
    | (go_at_call 34; refine ha.mono ?_; rintro e w3 ⟨s, rfl, hF2⟩; have HF2 := Lib.hid (HF.out.trans hF2); have he := errno_still s 1 w3 (HG.out.fr HF2.out); clear hF2)
    | (go_at_call 25; refine he.mono ?_; rintro e w4 ⟨rfl, hF3⟩))
  go_ret
  exact ⟨rfl, HF2.out.trans hF3⟩
theorem setClass_ok (hO : Opens hv mb m wv sv w) (k : Nat) (y : Int) (hk : m.M[k]? = some true) (h1 : 1 ≤ k) (h2 : k ≤ 2147483647) (hkw : k < m.W.length) (b1 : 0 ≤ y) (b2 : y ≤ 18446744073709551615) (hok : okB m.M y = true) : Calls Tryd.prog 11 #[hv, .int .u64 (2 * k), .int .u64 y] w (Turns (.int .i64 0) mb { m with W := m.W.set k y } (foot mb wv sv) w) := by
  unfold Opens at hO
  have HK := Lib.hid hk
  have HOK := Lib.hid hok
  clear hk hok
  go_enter Tryd.func11, Tryd.ntmps11
  go_wp2_with (first
    | (go_at_call 23; refine hO.mono ?_; rintro e w' ⟨rfl, hM, hF⟩; have hc := find_yes hM k HK.out h1 h2; have ha := set_ok hM k hkw y b1 b2 HOK.out; have hmost := hM.most; have HF := Lib.hid hF; clear hM hF)
    | (go_at_call 29; refine hc.mono ?_; rintro e w'' ⟨rfl, rfl⟩)
    | (go_at_call 34; refine ha.mono ?_; rintro e w3 ⟨rfl, hM3, hF3⟩; have HM3 := Lib.hid hM3; have HF3 := Lib.hid hF3; clear hM3 hF3)
    | (go_at_call 25; refine (errno_nil _).mono ?_; rintro e w4 ⟨rfl, rfl⟩))
  go_ret
  exact Sets.turns HM3.out HF3.out HF.out rfl
theorem store_fail (hO : Opens hv mb m wv sv w) (hg : Glob w) (k z : Nat) (j y : Int) (hk : m.M[k]? = some true) (h1 : 1 ≤ k) (hz : m.W[k + 2]? = some (z : Int)) (hz2 : z ≤ 65536) (hj : j < 0 ∨ (z : Int) ≤ j) (j1 : -9223372036854775808 ≤ j) (j2 : j ≤ 9223372036854775807) : Calls Tryd.prog 12 #[hv, .int .u64 (2 * k), .int .i64 j, .int .u64 y] w (Still (.int .i64 1) w) := by
  unfold Opens at hO
  have HG := Lib.hid hg
  have HC : Hid (∀ w', MemAt w' mb m wv sv → Glob w' → Calls Tryd.prog 33 #[.pointer (some ⟨mb, 0, none⟩), .int .u64 (2 * k), .int .i64 j] w' (Fails2 1 w')) := fun w' hM hG => field_far hM hG k z j hk h1 hz hz2 hj j1 j2
  clear hg hk hz hj
  go_enter Tryd.func12, Tryd.ntmps12
  go_wp2_with (first
    | (go_at_call 23; refine hO.mono ?_; rintro e w' ⟨rfl, hM, hF⟩; have hc := HC.out w' hM (HG.out.fr hF); have HF := Lib.hid hF; clear hM hF)
    | (go_at_call 33; refine hc.mono ?_; rintro e w'' ⟨s, rfl, hF2⟩; have HF2 := Lib.hid (HF.out.trans hF2); have he := errno_still s 1 w'' (HG.out.fr HF2.out); clear hF2)
    | (go_at_call 25; refine he.mono ?_; rintro e w3 ⟨rfl, hF3⟩))
  go_ret
  exact ⟨rfl, HF2.out.trans hF3⟩
theorem store_bad (hO : Opens hv mb m wv sv w) (hg : Glob w) (k z j : Nat) (y : Int) (hk : m.M[k]? = some true) (h1 : 1 ≤ k) (hz : m.W[k + 2]? = some (z : Int)) (hz2 : z ≤ 65536) (hj : j < z) (b1 : 0 ≤ y) (b2 : y ≤ 18446744073709551615) (hok : okB m.M y = false) : Calls Tryd.prog 12 #[hv, .int .u64 (2 * k), .int .i64 j, .int .u64 y] w (Still (.int .i64 1) w) := by
  unfold Opens at hO
  have HG := Lib.hid hg
  have HOK := Lib.hid hok
  have HC : Hid (∀ w', MemAt w' mb m wv sv → Calls Tryd.prog 33 #[.pointer (some ⟨mb, 0, none⟩), .int .u64 (2 * k), .int .i64 j] w' (Gives (.tuple #[.int .i64 (k + 3 + j), .nilIface]) w')) := fun w' hM => field_yes hM k z j hk h1 hz hz2 hj
  clear hk hz hg hok
  go_enter Tryd.func12, Tryd.ntmps12
  go_wp2_with (first
    | (go_at_call 23; refine hO.mono ?_; rintro e w' ⟨rfl, hM, hF⟩; have hc := HC.out w' hM; have ha := set_bad hM (HG.out.fr hF) ((k : Int) + 3 + j) y b1 b2 HOK.out; have HF := Lib.hid hF; clear hM hF)
    | (go_at_call 33; refine hc.mono ?_; rintro e w'' ⟨rfl, rfl⟩)
    | (go_at_call 34; refine ha.mono ?_; rintro e w3 ⟨s, rfl, hF2⟩; have HF2 := Lib.hid (HF.out.trans hF2); have he := errno_still s 1 w3 (HG.out.fr HF2.out); clear hF2)
    | (go_at_call 25; refine he.mono ?_; rintro e w4 ⟨rfl, hF3⟩))
  go_ret
  exact ⟨rfl, HF2.out.trans hF3⟩
theorem store_ok (hO : Opens hv mb m wv sv w) (k z j : Nat) (y : Int) (hk : m.M[k]? = some true) (h1 : 1 ≤ k) (hz : m.W[k + 2]? = some (z : Int)) (hz2 : z ≤ 65536) (hj : j < z) (hin : k + 3 + j < m.W.length) (b1 : 0 ≤ y) (b2 : y ≤ 18446744073709551615) (hok : okB m.M y = true) : Calls Tryd.prog 12 #[hv, .int .u64 (2 * k), .int .i64 j, .int .u64 y] w (Turns (.int .i64 0) mb { m with W := m.W.set (k + 3 + j) y } (foot mb wv sv) w) := by
  unfold Opens at hO
  have HOK := Lib.hid hok
  have HC : Hid (∀ w', MemAt w' mb m wv sv → Calls Tryd.prog 33 #[.pointer (some ⟨mb, 0, none⟩), .int .u64 (2 * k), .int .i64 j] w' (Gives (.tuple #[.int .i64 (k + 3 + j), .nilIface]) w')) := fun w' hM => field_yes hM k z j hk h1 hz hz2 hj
  clear hk hz hok
  go_enter Tryd.func12, Tryd.ntmps12
  go_wp2_with (first
    | (go_at_call 23; refine hO.mono ?_; rintro e w' ⟨rfl, hM, hF⟩; have hc := HC.out w' hM; have ha := set_ok hM (k + 3 + j) hin y b1 b2 HOK.out; have HF := Lib.hid hF; clear hM hF)
    | (go_at_call 33; refine hc.mono ?_; rintro e w'' ⟨rfl, rfl⟩)
    | (go_at_call 34; refine ha.mono ?_; rintro e w3 ⟨rfl, hM3, hF3⟩; have HM3 := Lib.hid hM3; have HF3 := Lib.hid hF3; clear hM3 hF3)
    | (go_at_call 25; refine (errno_nil _).mono ?_; rintro e w4 ⟨rfl, rfl⟩))
  go_ret
  exact Sets.turns HM3.out HF3.out HF.out rfl
theorem setRoot_ok (hO : Opens hv mb m wv sv w) (k : Nat) (hk : m.M[k]? = some true) (h1 : 1 ≤ k) (h2 : k ≤ 2147483647) : Calls Tryd.prog 13 #[hv, .int .u64 (2 * k)] w (Turns (.int .i64 0) mb { m with root := 2 * k } (foot mb wv sv) w) := by
  unfold Opens at hO
  have HK := Lib.hid hk
  clear hk
  go_enter Tryd.func13, Tryd.ntmps13
  go_wp2_with (first
    | (go_at_call 23; refine hO.mono ?_; rintro e w' ⟨rfl, hM, hF⟩; have hc := find_yes hM k HK.out h1 h2; have hroot := hM.cell.2.2.2.1; have hfz := hM.frozen 3; have HF := Lib.hid hF; have HM := Lib.hid hM; clear hM hF)
    | (go_at_call 29; refine hc.mono ?_; rintro e w'' ⟨rfl, rfl⟩))
  go_ret
  exact Sets.turns (HM.out.setRoot _) (Fr.setCell (p := ⟨mb, 3, none⟩) (Fr.refl _ _) (fun _ => foot_mb) _) HF.out rfl
end
end Go.Proofs.YtfcigjicikpabaaDoor
