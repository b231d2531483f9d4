/- Words that name objects of a list: kept when a field is stored, and when an object is added. A row of words that is kept beside both heaps, and grows by one. Both heaps while methods are laid in them: each call of laid, by what it leaves. -/
import Derived.Test.YtjghgambieflaaaGreatDoorMCodeB
import Derived.Test.YtjghgambieflaaaGreatDoorMSnaps
import Derived.Test.YtjghgambieflaaaGreatDoorMCodeWritesWalk
namespace Go.Proofs.YtjghgambieflaaaGreatDoor
theorem storeI_end (os : List Ob) (i : Nat) (k v : Int) (j : Nat) : endOf ((storeI os i k v).2.take j) = endOf (os.take j) := by
  rcases storeI_cases os i k v with ⟨-, o, ho, -, -, -, e⟩ | e
  · rw [e]; exact end_set ho (by simp) j
  · rw [e]
/-- each word names an object of the list -/
def Named (os : List Ob) (ws : List Int) : Prop := ∀ x ∈ ws, ∃ j, j < os.length ∧ x = 2 * (endOf (os.take j) : Int)
theorem Named.store {os : List Ob} {ws : List Int} (h : Named os ws) (i : Nat) (k v : Int) : Named (storeI os i k v).2 ws := fun x hx => by
  obtain ⟨j, hj, e⟩ := h x hx
  exact ⟨j, by rw [storeI_len]; exact hj, by rw [storeI_end]; exact e⟩
theorem Named.grow {os : List Ob} {ws : List Int} (h : Named os ws) (o : Ob) : Named (os ++ [o]) ws := fun x hx => by
  obtain ⟨j, hj, e⟩ := h x hx
  refine ⟨j, by simp; omega, ?_⟩
  rw [List.take_append_of_le_length (by omega)]
  exact e
theorem Named.last (os : List Ob) (o : Ob) : Named (os ++ [o]) [2 * (endOf os : Int)] := fun x hx => by
  have hx : x = 2 * (endOf os : Int) := by simpa using hx
  refine ⟨os.length, by simp, ?_⟩
  rw [List.take_append_of_le_length (Nat.le_refl _), List.take_length]
  exact hx
theorem Named.join {os : List Ob} {ws vs : List Int} (h : Named os ws) (h' : Named os vs) : Named os (ws ++ vs) := fun x hx => by
  rcases List.mem_append.1 hx with hx | hx
  · exact h x hx
  · exact h' x hx
theorem Named.push {os : List Ob} {ws : List Int} (h : Named os ws) (o : Ob) : Named (os ++ [o]) (ws ++ [2 * (endOf os : Int)]) := (h.grow o).join (Named.last os o)
theorem Named.wb {lim hashes : Int} {os : List Ob} {ws : List Int} (hI : OInv lim os hashes) (h : Named os ws) : ∀ x ∈ ws, WB x := fun x hx => by
  obtain ⟨j, hj, rfl⟩ := h x hx
  have h1 := end_take_lt (os := os) hj (Nat.le_refl _)
  rw [List.take_length] at h1
  have := hI.fit
  have := hI.l2
  exact ⟨by omega, by omega⟩
end Go.Proofs.YtjghgambieflaaaGreatDoor
namespace Go.Proofs.YtjghgambieflaaaGreatDoor
open Go.RowKit
section
variable {w0 W W' : World} {hb mb rb : Nat} {m : Mem} {r : RH} {g cap : Nat} {cur : Array Value} {ws : List Int}
/-- the block that is kept has changed, or another is kept in its place -/
theorem Two.swap {o o' : Obj} (h : Two w0 [(g, o)] hb mb rb m r W) (hF : Fr [g] W W') (hg : w0.heap.size ≤ g) {k : Nat} (hk : k = g ∨ W.heap.size ≤ k) (ho : W'.heap[k]? = some o') : Two w0 [(k, o')] hb mb rb m r W' := by
  obtain ⟨wv, sv, lv, hX, hH, hR, hF0, h1, h2, h3, h4, h5⟩ := h
  obtain ⟨q1, q2, q3, q4⟩ := hX _ (List.mem_singleton.2 rfl)
  simp only at q1 q2 q3 q4
  refine ⟨wv, sv, lv, fun p hp => ?_, hH.fr hF (fun h => q2 (List.mem_singleton.1 h).symm) (fun x hx hx' => q3 (by rw [← List.mem_singleton.1 hx']; exact hx)), hR.fr hF (fun x hx hx' => q4 (by rw [← List.mem_singleton.1 hx']; exact hx)), hF0.join hF (fun x hx => by rw [List.mem_singleton.1 hx]; exact hg), h1, h2, h3, h4, h5⟩
  obtain rfl := List.mem_singleton.1 hp
  simp only
  rcases hk with rfl | hk
  · exact ⟨ho, q2, q3, q4⟩
  · exact ⟨ho, fun e => by have := lt_of_heap hH.heap; omega, fun hm => by have := hH.mem.lt _ hm; omega, fun hm => by have := hR.lt _ hm; omega⟩
/-- what the kept block holds -/
structure LR (cap : Nat) (cur : Array Value) (ws : List Int) : Prop where
  le : ws.length ≤ cap
  most : cap ≤ maxLen
  size : cur.size = cap
  take : cur.toList.take ws.length = ws.map (Value.int .u64)
theorem LR.cell (h : LR cap cur ws) {j : Nat} {x : Int} (hj : ws[j]? = some x) : cur[j]? = some (.int .u64 x) := by
  have hl := (List.getElem?_eq_some_iff.1 hj).1
  have e : (cur.toList.take ws.length)[j]? = some (.int .u64 x) := by rw [h.take, List.getElem?_map, hj]; rfl
  rw [List.getElem?_take_of_lt hl] at e
  simpa using e
theorem lrow_push (hT : Two w0 [(g, .cells cur 32 (0, 0))] hb mb rb m r W) (hg : w0.heap.size ≤ g) (hL : LR cap cur ws) (x : Int) (ty : TypeId) (hlen : ws.length < 1000000) :
    ∃ g' cap' cur' w', (Builtin.append_ #[22, 22] ty #[.slice (some ⟨g, 0, none⟩) ws.length cap, .slice (some ⟨W.heap.size, 0, none⟩) 1 1]).run Tryz.prog (W.alloc (.cells #[.int .u64 x] 32)) = .ok (.slice (some ⟨g', 0, none⟩) (ws.length + 1) cap') w' ∧ Two w0 [(g', .cells cur' 32 (0, 0))] hb mb rb m r w' ∧ w0.heap.size ≤ g' ∧ LR cap' cur' (ws ++ [x]) := by
  obtain ⟨i0, hi, hz0, hz1, hz2⟩ := info_parts infoWord
  have hT1 := hT.still ((Fr.refl [] W).alloc (.cells #[.int .u64 x] 32))
  have hk := hT1.kept (List.mem_singleton.2 rfl)
  have hn := heap_new W (.cells #[.int .u64 x] 32)
  obtain ⟨W1, hW1⟩ : ∃ W1, W1 = W.alloc (.cells #[.int .u64 x] 32) := ⟨_, rfl⟩
  have hs : W.heap.size < W1.heap.size := by rw [hW1]; simp
  have hF0 : Fr [] w0 W := hT.fr
  rw [← hW1] at hT1 hk hn ⊢
  have hown : W1.ownsRow 0 32 1 (.slice (some ⟨g, 0, none⟩) ws.length cap) ws.length (ws.map (Value.int .u64)) := ⟨by simp, .inr ⟨g, cap, cur, rfl, Nat.zero_le _, hk, hL.le, hL.most, by rw [hL.size, Nat.mul_one], by rw [Nat.mul_one]; exact hL.take⟩⟩
  obtain ⟨v', w', hrun, h1, h2, h3⟩ := run_append_at (P := Tryz.prog) W1 22 ty 32 i0 (.int .u64 0) 1 8 Tryz.underlying22 hi hz0 hz1 hz2 rfl (by decide) _ _ _ hown ⟨W.heap.size, 0, none⟩ 1 1 [.int .u64 x] (by simp) (fun j u hj => by
    match j, hj with
    | 0, hj => cases hj; exact cell_of_heap hn rfl
    | k + 1, hj => simp at hj) (fun u hu => by rw [List.mem_singleton.1 hu]; rfl) (by unfold maxLen; omega) (by omega)
  rcases h1.2 with ⟨-, h0⟩ | ⟨g', cap', cur', rfl, -, hh, hnc, hcm, hcs, htk⟩
  · omega
  · have hF : Fr [g] W1 w' := (Fr.refl _ _).grown h2 (fun k hk _ => by cases hk; simp)
    have hg' : g' = g ∨ W1.heap.size ≤ g' := by
      rcases h3 with h3 | h3
      · cases h3; exact .inl rfl
      · cases h3; exact .inr (Nat.le_refl _)
    refine ⟨g', cap', cur', w', hrun, hT1.swap hF hg hg' hh, ?_, ⟨by simpa using hnc, hcm, by simpa using hcs, ?_⟩⟩
    · rcases hg' with rfl | hg'
      · exact hg
      · have := hF0.size; omega
    · rw [Nat.mul_one] at htk
      rw [List.length_append, List.map_append]
      exact htk
end
end Go.Proofs.YtjghgambieflaaaGreatDoor
namespace Go.Proofs.YtjghgambieflaaaGreatDoor
open Go.RowKit
theorem storesI_named {ws : List Int} (i : Nat) : ∀ (fs : List Int) (os : List Ob) (k : Nat), Named os ws → Named (storesI i os k fs).2 ws
  | [], _, _, h => h
  | v :: fs, os, k, h => by
    rw [storesI_cons]
    split
    · exact storesI_named i fs _ _ (h.store i k v)
    · exact h.store i k v
theorem writeF_named {lim : Int} {os : List Ob} {ws : List Int} (h : Named os ws) (cls : Int) (m : Mth) : Named (writeF lim os cls m).2.2 ws := by
  have ha : Named (allocF lim os cls m.fs.length 1).2.2 ws := by
    rcases allocF_cases lim os cls m.fs.length 1 with ⟨e, -⟩ | ⟨e, -⟩ | ⟨e, -⟩
    · rw [e]; exact h.grow _
    · rw [e]; exact h
    · rw [e]; exact h
  unfold writeF
  split
  · exact h
  · split
    · exact storesI_named _ _ _ _ ha
    · exact ha
theorem writeF_last {lim : Int} {os : List Ob} {cls : Int} {m : Mth} (h : (writeF lim os cls m).2.1 = 0) : Named (writeF lim os cls m).2.2 [(writeF lim os cls m).1] := by
  rw [(writeF_ok h).1]
  exact Named.last _ _
theorem writeF_wb {lim hashes : Int} {os : List Ob} (hI : OInv lim os hashes) (cls : Int) (m : Mth) : WB (writeF lim os cls m).1 := by
  have z : WB 0 := ⟨by omega, by omega⟩
  have h1 := hI.fit
  have h2 := hI.l2
  have ha : WB (allocF lim os cls m.fs.length 1).1 := by
    rcases allocF_cases lim os cls m.fs.length 1 with ⟨e, -⟩ | ⟨e, -⟩ | ⟨e, -⟩
    · rw [e]; exact ⟨by simp only; omega, by simp only; omega⟩
    · rw [e]; exact z
    · rw [e]; exact z
  unfold writeF
  split
  · exact z
  · split
    · simp only
      split
      · exact ha
      · exact z
    · exact z
section
variable {w0 W : World} {X : List (Nat × Obj)} {hb mb rb : Nat} {ws : List Int} {m : Mth} {x er k v up : Int} {la ca : Option Addr} {lc cc : Nat}
/-- both heaps hold the same, the words name objects of it -/
def LSt (w0 : World) (X : List (Nat × Obj)) (hb mb rb : Nat) (ws : List Int) (W : World) : Prop := ∃ os l, OInv 8192 os 0 ∧ RAgree 1 l os ∧ Named os ws ∧ Two w0 X hb mb rb (absMem 8192 os 0 0) ⟨8192, l, 0, 0⟩ W
/-- the program's heap alone has got the method -/
def LMid (w0 : World) (X : List (Nat × Obj)) (hb mb rb : Nat) (ws : List Int) (m : Mth) (x er : Int) (W : World) : Prop := ∃ os l, OInv 8192 os 0 ∧ RAgree 1 l os ∧ Named os ws ∧ x = (writeF 8192 os 0 m).1 ∧ er = (writeF 8192 os 0 m).2.1 ∧ Two w0 X hb mb rb (absMem 8192 (writeF 8192 os 0 m).2.2 0 0) ⟨8192, l, 0, 0⟩ W
/-- the program's heap alone has got the field -/
def LMidS (w0 : World) (X : List (Nat × Obj)) (hb mb rb : Nat) (ws : List Int) (up k v : Int) (W : World) : Prop := ∃ os l j, OInv 8192 os 0 ∧ RAgree 1 l os ∧ Named os ws ∧ j < os.length ∧ up = 2 * (endOf (os.take j) : Int) ∧ Two w0 X hb mb rb (absMem 8192 (storeI os j k v).2 0 0) ⟨8192, l, 0, 0⟩ W
theorem LSt.fr (h : LSt w0 X hb mb rb ws W) : Fr [] w0 W := by obtain ⟨_, _, _, _, _, h⟩ := h; exact h.fr
theorem LMid.fr (h : LMid w0 X hb mb rb ws m x er W) : Fr [] w0 W := by obtain ⟨_, _, _, _, _, _, _, h⟩ := h; exact h.fr
theorem LMidS.fr (h : LMidS w0 X hb mb rb ws up k v W) : Fr [] w0 W := by obtain ⟨_, _, _, _, _, _, _, _, h⟩ := h; exact h.fr
theorem LSt.kept (h : LSt w0 X hb mb rb ws W) {p : Nat × Obj} (hp : p ∈ X) : W.heap[p.1]? = some p.2 := by obtain ⟨_, _, _, _, _, h⟩ := h; exact h.kept hp
theorem LMid.kept (h : LMid w0 X hb mb rb ws m x er W) {p : Nat × Obj} (hp : p ∈ X) : W.heap[p.1]? = some p.2 := by obtain ⟨_, _, _, _, _, _, _, h⟩ := h; exact h.kept hp
theorem LMidS.kept (h : LMidS w0 X hb mb rb ws up k v W) {p : Nat × Obj} (hp : p ∈ X) : W.heap[p.1]? = some p.2 := by obtain ⟨_, _, _, _, _, _, _, _, h⟩ := h; exact h.kept hp
theorem LSt.write (h : LSt w0 X hb mb rb ws W) (hg : Glob w0) (hE : Field w0) (m : Mth) (la ca : Option Addr) (lc cc : Nat) (hwb : ∀ x ∈ m.lits, WB x) (hM : MAt W m la lc ca) :
    Calls Tryz.prog 14 #[.pointer (some ⟨hb, 0, none⟩), .int .u64 0, m.v la lc ca cc] W fun e W' => ∃ x er, e = .returned (.tuple #[.int .u64 x, .int .i64 er]) ∧ LMid w0 X hb mb rb ws m x er W' := by
  obtain ⟨os, l, hI, ha, hN, hT⟩ := h
  refine (two_turnsH hT (fun wv sv hH hB => write_at m la ca lc cc 0 ⟨by omega, by omega⟩ hwb hg hE hB hI hH hM)).mono ?_
  rintro e W' ⟨rfl, hT'⟩
  exact ⟨_, _, rfl, os, l, hI, ha, hN, rfl, rfl, hT'⟩
theorem LMid.write (h : LMid w0 X hb mb rb ws m x er W) (la ca : Option Addr) (lc cc : Nat) (hwb : ∀ x ∈ m.lits, WB x) (hcl : m.code.length ≤ 17592186044416) (hM : MAt W m la lc ca) :
    Calls Tryz.prog 15 #[.pointer (some ⟨rb, 0, none⟩), .int .u64 0, m.v la lc ca cc] W fun e W' => e = .returned (.tuple #[.int .u64 x, .int .i64 er]) ∧ WB x ∧ LSt w0 X hb mb rb ws W' ∧ (er = 0 → LSt w0 X hb mb rb (ws ++ [x]) W') := by
  obtain ⟨os, l, hI, ha, hN, rfl, rfl, hT⟩ := h
  have z : WB 0 := ⟨by omega, by omega⟩
  refine (two_rt hT (fun lv hR => rwrite_at m la ca lc cc 0 z hwb hcl hI ha hR hM)).mono ?_
  rintro e W' ⟨rfl, l', ha', hT'⟩
  exact ⟨rfl, writeF_wb hI 0 m, ⟨_, l', writeF_inv hI 0 m z hwb, ha', writeF_named hN 0 m, hT'⟩, fun he => ⟨_, l', writeF_inv hI 0 m z hwb, ha', (writeF_named hN 0 m).join (writeF_last he), hT'⟩⟩
theorem LSt.store (h : LSt w0 X hb mb rb ws W) (hg : Glob w0) (hu : up ∈ ws) (k1 : -9223372036854775808 ≤ k) (k2 : k ≤ 9223372036854775807) (hv : WB v) :
    Calls Tryz.prog 16 #[.pointer (some ⟨hb, 0, none⟩), .int .u64 up, .int .i64 k, .int .u64 v] W fun e W' => ∃ z, e = .returned (.int .i64 z) ∧ LMidS w0 X hb mb rb ws up k v W' := by
  obtain ⟨os, l, hI, ha, hN, hT⟩ := h
  obtain ⟨j, hj, rfl⟩ := hN _ hu
  refine (two_turnsH hT (fun wv sv hH hB => hstore (hg.fr hB.fr) hI hH hj k v k1 k2 hv)).mono ?_
  rintro e W' ⟨rfl, hT'⟩
  exact ⟨_, rfl, os, l, j, hI, ha, hN, hj, rfl, hT'⟩
theorem LMidS.store (h : LMidS w0 X hb mb rb ws up k v W) (k1 : -9223372036854775808 ≤ k) (k2 : k ≤ 9223372036854775807) (hv : WB v) :
    Calls Tryz.prog 17 #[.pointer (some ⟨rb, 0, none⟩), .int .u64 up, .int .i64 k, .int .u64 v] W fun e W' => ∃ z, e = .returned (.int .i64 z) ∧ LSt w0 X hb mb rb ws W' := by
  obtain ⟨os, l, j, hI, ha, hN, hj, rfl, hT⟩ := h
  refine (two_rt hT (fun lv hR => rstore hI (RT.start ha hR) hj k v k1 k2 hv)).mono ?_
  rintro e W' ⟨rfl, l', ha', hT'⟩
  exact ⟨_, rfl, _, l', storeI_inv hI j k v hv, ha', hN.store j k v, hT'⟩
theorem LSt.push {g cap : Nat} {cur : Array Value} {vs : List Int} (h : LSt w0 [(g, .cells cur 32 (0, 0))] hb mb rb ws W) (hg : w0.heap.size ≤ g) (hL : LR cap cur vs) (x : Int) (ty : TypeId) (hlen : vs.length < 1000000) :
    ∃ g' cap' cur' w', (Builtin.append_ #[22, 22] ty #[.slice (some ⟨g, 0, none⟩) vs.length cap, .slice (some ⟨W.heap.size, 0, none⟩) 1 1]).run Tryz.prog (W.alloc (.cells #[.int .u64 x] 32)) = .ok (.slice (some ⟨g', 0, none⟩) (vs.length + 1) cap') w' ∧ LSt w0 [(g', .cells cur' 32 (0, 0))] hb mb rb ws w' ∧ w0.heap.size ≤ g' ∧ LR cap' cur' (vs ++ [x]) := by
  obtain ⟨os, l, hI, ha, hN, hT⟩ := h
  obtain ⟨g', cap', cur', w', h1, h2, h3, h4⟩ := lrow_push hT hg hL x ty hlen
  exact ⟨g', cap', cur', w', h1, ⟨os, l, hI, ha, hN, h2⟩, h3, h4⟩
end
end Go.Proofs.YtjghgambieflaaaGreatDoor
