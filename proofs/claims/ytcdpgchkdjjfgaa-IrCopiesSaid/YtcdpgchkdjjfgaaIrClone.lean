/- ir: slices.Clone over numbers, sources, maps and instructions. -/
import Derived.Test.YtcdpgchkdjjfgaaIrReads
namespace Go.Proofs.Ytcdpgchkdjjfgaa
open Go.RowKit

/-- Returned: these cells, in a new row. -/
def ClonesTo (e' : TypeId) (size n : Nat) (xs : List Value) (w : World) (e : Ending) (w' : World) : Prop := ∃ v, e = .returned v ∧ IGrows w e' size n xs v w'
theorem owns_empty (w : World) (e : TypeId) (size : Nat) : (w.alloc (.cells #[] e)).ownsRow 0 e size (.slice (some ⟨w.heap.size, 0, none⟩) 0 0) 0 [] :=
  ⟨by simp, .inr ⟨w.heap.size, 0, #[], rfl, Nat.zero_le _, heap_new _ _, Nat.le_refl _, Nat.zero_le _, by simp, by simp⟩⟩
theorem grows_empty (w : World) (e : TypeId) (size : Nat) : IGrows w e size 0 [] (.slice (some ⟨w.heap.size, 0, none⟩) 0 0) (w.alloc (.cells #[] e)) :=
  ⟨owns_empty w e size, (Fr.refl [] w).alloc _, fun b hb => by cases hb; exact Nat.le_refl _⟩
theorem clone_grows {w w' : World} {e : TypeId} {size n : Nat} {xs : List Value} {v : Value} (h : w'.ownsRow 0 e size v (0 + n) ([] ++ xs)) (hg : (w.alloc (.cells #[] e)).grownBy w' (Value.slice (some ⟨w.heap.size, 0, none⟩) 0 0).ownBlock) (hf : v.ownBlock = (Value.slice (some ⟨w.heap.size, 0, none⟩) 0 0).ownBlock ∨ v.ownBlock = some (w.alloc (.cells #[] e)).heap.size) : IGrows w e size n xs v w' := by
  have := (grows_empty w e size).step (Fr.refl [] _) h hg hf
  simpa using this
theorem srcs_news {w : World} {a : Addr} {l : List Sr} (h : SrcsAt w (some a) l) : ∀ j u, (flatS l)[j]? = some u → w.cell? (a.add j) = some u := by
  intro j u hj
  have hjl := (List.getElem?_eq_some_iff.1 hj).1
  rw [flatS_len] at hjl
  have hk : j / 3 < l.length := by omega
  have hs : l[j / 3]? = some l[j / 3] := List.getElem?_eq_getElem hk
  obtain ⟨g, o, e, c0, c1, c2⟩ := h _ _ hs
  cases e
  obtain ⟨f0, f1, f2⟩ := flatS_at hs
  rw [Lib.add_plain]
  have hr : j = j / 3 * 3 + j % 3 := by omega
  have h4 : j % 3 = 0 ∨ j % 3 = 1 ∨ j % 3 = 2 := by omega
  rcases h4 with h4 | h4 | h4
  · rw [h4, Nat.add_zero] at hr
    rw [hr] at hj ⊢
    rw [hj] at f0
    rw [Option.some.inj f0]
    exact c0
  · rw [h4] at hr
    rw [hr] at hj ⊢
    rw [hj] at f1
    rw [Option.some.inj f1, ← Nat.add_assoc]
    exact c1
  · rw [h4] at hr
    rw [hr] at hj ⊢
    rw [hj] at f2
    rw [Option.some.inj f2, ← Nat.add_assoc]
    exact c2
theorem flatS_one (l : List Sr) : ∀ u ∈ flatS l, u.oneCell' = true := by
  intro u hu
  simp only [flatS, List.mem_flatMap] at hu
  obtain ⟨s, -, hs⟩ := hu
  simp at hs
  rcases hs with rfl | rfl | rfl <;> rfl
set_option maxHeartbeats 1000000 in
theorem clone_srcs {w : World} {a : Option Addr} {l : List Sr} {c : Nat} (h : SrcsAt w a l) (hs : SlOk a l.length c) (hl : l.length ≤ 5864062014805) : Calls Try.prog 37 #[.slice a l.length c] w (ClonesTo 25 3 l.length (flatS l) w) := by
  cases a with
  | none =>
    obtain ⟨h1, rfl⟩ := hs.nil0 rfl
    have h2 : l = [] := List.length_eq_zero_iff.1 h1
    subst h2
    clear h hs h1 hl
    simp only [List.length_nil]
    have hn : (binOp .eql 26 (.slice none 0 0) (.slice none 0 0)).run Try.prog w = .ok (.bool true) w := by rfl
    go_enter Try.func37, Try.ntmps37
    go_wp2_with fail
    go_ret
    exact ⟨_, rfl, ⟨World.ownsRow_nil _ _ _ _, Fr.refl _ _, fun b hb => by cases hb⟩⟩
  | some ad =>
    obtain ⟨i0, hi, hz0, hz1, hz2⟩ := info_parts infoSrc
    have hn : (binOp .eql 26 (.slice (some ad) l.length c) (.slice none 0 0)).run Try.prog w = .ok (.bool false) w := by rfl
    obtain ⟨n, hnl⟩ : ∃ n, n = l.length := ⟨_, rfl⟩
    have HFL := Lib.hid (flatS_len l)
    rw [← hnl] at hn hl HFL ⊢
    have HA := Lib.hid h
    have HN := Lib.hid hn
    clear h hs hnl
    go_enter Try.func37, Try.ntmps37
    go_wp2_with (at_builtin; refine wpList_append_at _ rfl (.tmp 5) (.tmp 6) 26 rfl 25 i0 _ 3 24 Try.underlying26 hi hz0 hz1 hz2 rfl (by decide) (.slice (some ⟨w.heap.size, 0, none⟩) 0 0) 0 _ rfl (owns_empty w 25 3) ad n c (flatS l) rfl HFL.out (srcs_news (HA.out.fr ((Fr.refl [] w).alloc _))) (flatS_one l) (by unfold maxLen; omega) (by omega) ?_; intro v5 w5 ho5 hg5 hf5; obtain ⟨a5, p5, rfl⟩ := irow_shape ho5; have HGn : Hid (IGrows w 25 3 n (flatS l) (.slice a5 n p5) w5) := Lib.hid (by have h9 := clone_grows ho5 hg5 hf5; rwa [Nat.zero_add] at h9); clear ho5 hg5 hf5)
    go_ret
    exact ⟨_, rfl, HGn.out⟩
theorem infoInt : (Try.prog.info? 3).map (fun i => (i.zero, i.size, i.bytes)) = some (some (.int .i64 0), 1, 8) := by kernel_rfl
theorem infoSrcs : (Try.prog.info? 26).map (fun i => (i.zero, i.size, i.bytes)) = some (some (.slice none 0 0), 1, 24) := by kernel_rfl
theorem infoIns7 : (Try.prog.info? 28).map (fun i => (i.zero, i.size, i.bytes)) = some (some (.agg #[.int .i64 0, .int .i64 0, .int .i64 0, .int .i64 0, .int .u64 0, .slice none 0 0, .int .u64 0]), 7, 72) := by kernel_rfl
def flatN (l : List Int) : List Value := l.map (Value.int .i64)
def Mp.v (m : Mp) : Value := .slice m.a m.l.length m.c
def flatM (l : List Mp) : List Value := l.map Mp.v
def flat7 (l : List Ii) : List Value := l.flatMap fun i => [.int .i64 i.op, .int .i64 i.n, .int .i64 i.d.kind, .int .i64 i.d.n, .int .u64 i.d.w, .slice i.la i.l.length i.lc, .int .u64 i.w]
theorem flatN_len (l : List Int) : (flatN l).length = l.length * 1 := by simp [flatN]
theorem flatM_len (l : List Mp) : (flatM l).length = l.length * 1 := by simp [flatM]
theorem flatN_one (l : List Int) : ∀ u ∈ flatN l, u.oneCell' = true := by
  intro u hu
  simp only [flatN, List.mem_map] at hu
  obtain ⟨s, -, rfl⟩ := hu
  rfl
theorem flatM_one (l : List Mp) : ∀ u ∈ flatM l, u.oneCell' = true := by
  intro u hu
  simp only [flatM, List.mem_map] at hu
  obtain ⟨s, -, rfl⟩ := hu
  rfl
theorem ints_news {w : World} {a : Addr} {l : List Int} (h : IntsAt w (some a) l) : ∀ j u, (flatN l)[j]? = some u → w.cell? (a.add j) = some u := by
  intro j u hj
  simp only [flatN, List.getElem?_map, Option.map_eq_some_iff] at hj
  obtain ⟨s, hs, rfl⟩ := hj
  obtain ⟨g, o, e, c0⟩ := h _ _ hs
  cases e
  rw [Lib.add_plain]
  exact c0
theorem maps_news {w : World} {a : Addr} {l : List Mp} (h : MapsAt w (some a) l) : ∀ j u, (flatM l)[j]? = some u → w.cell? (a.add j) = some u := by
  intro j u hj
  simp only [flatM, List.getElem?_map, Option.map_eq_some_iff] at hj
  obtain ⟨s, hs, rfl⟩ := hj
  obtain ⟨⟨g, o, e, c0⟩, -⟩ := h _ _ hs
  cases e
  rw [Lib.add_plain]
  exact c0
theorem flat7_len (l : List Ii) : (flat7 l).length = l.length * 7 := by
  induction l with
  | nil => rfl
  | cons a l ih => rw [show flat7 (a :: l) = .int .i64 a.op :: .int .i64 a.n :: .int .i64 a.d.kind :: .int .i64 a.d.n :: .int .u64 a.d.w :: .slice a.la a.l.length a.lc :: .int .u64 a.w :: flat7 l from rfl]; simp [ih]; omega
theorem flat7_one (l : List Ii) : ∀ u ∈ flat7 l, u.oneCell' = true := by
  intro u hu
  simp only [flat7, List.mem_flatMap] at hu
  obtain ⟨s, -, hs⟩ := hu
  simp at hs
  rcases hs with rfl | rfl | rfl | rfl | rfl | rfl | rfl <;> rfl
theorem flat7_at {l : List Ii} {k : Nat} {i : Ii} (h : l[k]? = some i) (d : Nat) (hd : d < 7) : (flat7 l)[k * 7 + d]? = [Value.int .i64 i.op, .int .i64 i.n, .int .i64 i.d.kind, .int .i64 i.d.n, .int .u64 i.d.w, .slice i.la i.l.length i.lc, .int .u64 i.w][d]? := by
  induction l generalizing k with
  | nil => cases h
  | cons a l ih =>
    have e : flat7 (a :: l) = [Value.int .i64 a.op, .int .i64 a.n, .int .i64 a.d.kind, .int .i64 a.d.n, .int .u64 a.d.w, .slice a.la a.l.length a.lc, .int .u64 a.w] ++ flat7 l := rfl
    rw [e]
    cases k with
    | zero =>
      cases h
      rw [Nat.zero_mul, Nat.zero_add, List.getElem?_append_left (by simp; omega)]
    | succ k =>
      have := ih (by simpa using h)
      rw [List.getElem?_append_right (by simp; omega)]
      rw [← this]
      congr 1
      simp
      omega
theorem inss_news {w : World} {a : Addr} {l : List Ii} (h : InsAt w (some a) l) : ∀ j u, (flat7 l)[j]? = some u → w.cell? (a.add j) = some u := by
  intro j u hj
  have hjl := (List.getElem?_eq_some_iff.1 hj).1
  rw [flat7_len] at hjl
  have hk : j / 7 < l.length := by omega
  have hs : l[j / 7]? = some l[j / 7] := List.getElem?_eq_getElem hk
  obtain ⟨⟨g, o, e, c0, c1, c2, c3, c4, c5, c6⟩, -⟩ := h _ _ hs
  cases e
  have hf := flat7_at hs (j % 7) (by omega)
  have hr : j / 7 * 7 + j % 7 = j := by omega
  rw [hr, hj] at hf
  rw [Lib.add_plain, ← hr]
  have h4 : j % 7 = 0 ∨ j % 7 = 1 ∨ j % 7 = 2 ∨ j % 7 = 3 ∨ j % 7 = 4 ∨ j % 7 = 5 ∨ j % 7 = 6 := by omega
  rcases h4 with h4 | h4 | h4 | h4 | h4 | h4 | h4
  all_goals
    rw [h4] at hf ⊢
    simp at hf
    subst hf
    first | exact c0 | (rw [← Nat.add_assoc]; first | exact c1 | exact c2 | exact c3 | exact c4 | exact c5 | exact c6)
set_option maxHeartbeats 1000000 in
theorem clone_ints {w : World} {a : Option Addr} {l : List Int} {c : Nat} (h : IntsAt w a l) (hs : SlOk a l.length c) (hl : l.length ≤ 17592186043904) : Calls Try.prog 35 #[.slice a l.length c] w (ClonesTo 3 1 l.length (flatN l) w) := by
  cases a with
  | none =>
    obtain ⟨h1, rfl⟩ := hs.nil0 rfl
    have h2 : l = [] := List.length_eq_zero_iff.1 h1
    subst h2
    clear h hs h1 hl
    simp only [List.length_nil]
    have hn : (binOp .eql 40 (.slice none 0 0) (.slice none 0 0)).run Try.prog w = .ok (.bool true) w := by rfl
    go_enter Try.func35, Try.ntmps35
    go_wp2_with fail
    go_ret
    exact ⟨_, rfl, ⟨World.ownsRow_nil _ _ _ _, Fr.refl _ _, fun b hb => by cases hb⟩⟩
  | some ad =>
    obtain ⟨i0, hi, hz0, hz1, hz2⟩ := info_parts infoInt
    have hn : (binOp .eql 40 (.slice (some ad) l.length c) (.slice none 0 0)).run Try.prog w = .ok (.bool false) w := by rfl
    obtain ⟨n, hnl⟩ : ∃ n, n = l.length := ⟨_, rfl⟩
    have HFL := Lib.hid (flatN_len l)
    rw [← hnl] at hn hl HFL ⊢
    have HA := Lib.hid h
    have HN := Lib.hid hn
    clear h hs hnl
    go_enter Try.func35, Try.ntmps35
    go_wp2_with (at_builtin; refine wpList_append_at _ rfl (.tmp 5) (.tmp 6) 40 rfl 3 i0 _ 1 8 Try.underlying40 hi hz0 hz1 hz2 rfl (by decide) (.slice (some ⟨w.heap.size, 0, none⟩) 0 0) 0 _ rfl (owns_empty w 3 1) ad n c (flatN l) rfl HFL.out (ints_news (HA.out.fr ((Fr.refl [] w).alloc _))) (flatN_one l) (by unfold maxLen; omega) (by omega) ?_; intro v5 w5 ho5 hg5 hf5; obtain ⟨a5, p5, rfl⟩ := irow_shape ho5; have HGn : Hid (IGrows w 3 1 n (flatN l) (.slice a5 n p5) w5) := Lib.hid (by have h9 := clone_grows ho5 hg5 hf5; rwa [Nat.zero_add] at h9); clear ho5 hg5 hf5)
    go_ret
    exact ⟨_, rfl, HGn.out⟩
set_option maxHeartbeats 1000000 in
theorem clone_maps {w : World} {a : Option Addr} {l : List Mp} {c : Nat} (h : MapsAt w a l) (hs : SlOk a l.length c) (hl : l.length ≤ 5864062014805) : Calls Try.prog 36 #[.slice a l.length c] w (ClonesTo 26 1 l.length (flatM l) w) := by
  cases a with
  | none =>
    obtain ⟨h1, rfl⟩ := hs.nil0 rfl
    have h2 : l = [] := List.length_eq_zero_iff.1 h1
    subst h2
    clear h hs h1 hl
    simp only [List.length_nil]
    have hn : (binOp .eql 41 (.slice none 0 0) (.slice none 0 0)).run Try.prog w = .ok (.bool true) w := by rfl
    go_enter Try.func36, Try.ntmps36
    go_wp2_with fail
    go_ret
    exact ⟨_, rfl, ⟨World.ownsRow_nil _ _ _ _, Fr.refl _ _, fun b hb => by cases hb⟩⟩
  | some ad =>
    obtain ⟨i0, hi, hz0, hz1, hz2⟩ := info_parts infoSrcs
    have hn : (binOp .eql 41 (.slice (some ad) l.length c) (.slice none 0 0)).run Try.prog w = .ok (.bool false) w := by rfl
    obtain ⟨n, hnl⟩ : ∃ n, n = l.length := ⟨_, rfl⟩
    have HFL := Lib.hid (flatM_len l)
    rw [← hnl] at hn hl HFL ⊢
    have HA := Lib.hid h
    have HN := Lib.hid hn
    clear h hs hnl
    go_enter Try.func36, Try.ntmps36
    go_wp2_with (at_builtin; refine wpList_append_at _ rfl (.tmp 5) (.tmp 6) 41 rfl 26 i0 _ 1 24 Try.underlying41 hi hz0 hz1 hz2 rfl (by decide) (.slice (some ⟨w.heap.size, 0, none⟩) 0 0) 0 _ rfl (owns_empty w 26 1) ad n c (flatM l) rfl HFL.out (maps_news (HA.out.fr ((Fr.refl [] w).alloc _))) (flatM_one l) (by unfold maxLen; omega) (by omega) ?_; intro v5 w5 ho5 hg5 hf5; obtain ⟨a5, p5, rfl⟩ := irow_shape ho5; have HGn : Hid (IGrows w 26 1 n (flatM l) (.slice a5 n p5) w5) := Lib.hid (by have h9 := clone_grows ho5 hg5 hf5; rwa [Nat.zero_add] at h9); clear ho5 hg5 hf5)
    go_ret
    exact ⟨_, rfl, HGn.out⟩
set_option maxHeartbeats 1000000 in
theorem clone_inss {w : World} {a : Option Addr} {l : List Ii} {c : Nat} (h : InsAt w a l) (hs : SlOk a l.length c) (hl : l.length ≤ 1954687338211) : Calls Try.prog 44 #[.slice a l.length c] w (ClonesTo 28 7 l.length (flat7 l) w) := by
  cases a with
  | none =>
    obtain ⟨h1, rfl⟩ := hs.nil0 rfl
    have h2 : l = [] := List.length_eq_zero_iff.1 h1
    subst h2
    clear h hs h1 hl
    simp only [List.length_nil]
    have hn : (binOp .eql 39 (.slice none 0 0) (.slice none 0 0)).run Try.prog w = .ok (.bool true) w := by rfl
    go_enter Try.func44, Try.ntmps44
    go_wp2_with fail
    go_ret
    exact ⟨_, rfl, ⟨World.ownsRow_nil _ _ _ _, Fr.refl _ _, fun b hb => by cases hb⟩⟩
  | some ad =>
    obtain ⟨i0, hi, hz0, hz1, hz2⟩ := info_parts infoIns7
    have hn : (binOp .eql 39 (.slice (some ad) l.length c) (.slice none 0 0)).run Try.prog w = .ok (.bool false) w := by rfl
    obtain ⟨n, hnl⟩ : ∃ n, n = l.length := ⟨_, rfl⟩
    have HFL := Lib.hid (flat7_len l)
    rw [← hnl] at hn hl HFL ⊢
    have HA := Lib.hid h
    have HN := Lib.hid hn
    clear h hs hnl
    go_enter Try.func44, Try.ntmps44
    go_wp2_with (at_builtin; refine wpList_append_at _ rfl (.tmp 5) (.tmp 6) 39 rfl 28 i0 _ 7 72 Try.underlying39 hi hz0 hz1 hz2 rfl (by decide) (.slice (some ⟨w.heap.size, 0, none⟩) 0 0) 0 _ rfl (owns_empty w 28 7) ad n c (flat7 l) rfl HFL.out (inss_news (HA.out.fr ((Fr.refl [] w).alloc _))) (flat7_one l) (by unfold maxLen; omega) (by omega) ?_; intro v5 w5 ho5 hg5 hf5; obtain ⟨a5, p5, rfl⟩ := irow_shape ho5; have HGn : Hid (IGrows w 28 7 n (flat7 l) (.slice a5 n p5) w5) := Lib.hid (by have h9 := clone_grows ho5 hg5 hf5; rwa [Nat.zero_add] at h9); clear ho5 hg5 hf5)
    go_ret
    exact ⟨_, rfl, HGn.out⟩
end Go.Proofs.Ytcdpgchkdjjfgaa
