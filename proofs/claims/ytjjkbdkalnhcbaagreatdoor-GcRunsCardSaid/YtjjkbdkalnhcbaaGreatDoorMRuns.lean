/- gc.settle: each object that is kept gets its place. gc.kept: the objects that are left, as they lie then. gc.Run: what is left, and where the roots lead then. The document's example of gc. -/
import Derived.Test.YtjjkbdkalnhcbaaGreatDoorMGathers
import Derived.Test.YtjjkbdkalnhcbaaGreatDoorMPlain
import Derived.Test.YtjjkbdkalnhcbaaGreatDoorMLoads
namespace Go.Proofs.YtjjkbdkalnhcbaaGreatDoor
open Go.RowKit

theorem region_own {P : Program} {ops : List Oper} {Q : Exit → Act → World → Prop} {S : World → Prop} {id : Nat} {a : Act} {w : World} (hm : P.follows .mixedOrders = true) (hS : S w.drew)
    (h : S w.drew → wpAnyH P .any ops.toArray (Norm Q) S ops.toArray.size (Array.replicate ops.toArray.size false) a w.drew) : (Code.region id ops.toArray true).wp P Q a w :=
  Code.wp_mono Norm.imp (wp_region_held_drew hm hS h)
section
variable {w0 W : World} {hb mb cb b : Nat} {lim root hashes : Int} {os : List Ob} {wv sv : Value}
/-- the places of the first k objects are settled -/
def Settled (w0 : World) (hb cb b : Nat) (keep : Int → Bool) (os : List Ob) (n k : Nat) (W : World) : Prop := ∃ pv, Coll w0 hb cb b pv (placeV keep os k) (n + k) [] W
theorem Settled.still {keep : Int → Bool} {n k : Nat} {W' : World} (h : Settled w0 hb cb b keep os n k W) (hF : Fr [] W W') : Settled w0 hb cb b keep os n k W' := by obtain ⟨pv, h⟩ := h; exact ⟨pv, h.still hF⟩
theorem Settled.skip {keep : Int → Bool} {n k : Nat} {o : Ob} (h : Settled w0 hb cb b keep os n k W) (hk : os[k]? = some o) (hkk : ∀ x, keep x = true → (lookP 1 os x).isSome = true) (hn : keep (2 * (endOf (os.take k) : Int)) = false) : Settled w0 hb cb b keep os n (k + 1) W := by
  obtain ⟨pv, h⟩ := h
  obtain ⟨D, hD⟩ := h.map
  refine ⟨pv, h.box, ⟨D, ⟨hD.1.mono (by omega), fun x hx => ?_⟩⟩, h.row, h.fr, h.cn, h.bn, h.pn⟩
  rw [placeV_next hk hkk, if_neg (fun e => by rw [e.1, hn] at e; cases e.2)]
  exact hD.2 x hx
theorem WordsAt.grown {W' : World} {val : Int → Option Int} {n : Nat} {D : DataW Unit} {ao : Option Addr} {xs : List Int} (h : WordsAt W ao xs) (hD : MapV W b n val D) (hg : W.grownBy W' (some b)) : WordsAt W' ao xs := by
  intro i x hx
  obtain ⟨g, o, rfl, hc⟩ := h i x hx
  refine ⟨g, o, rfl, ?_⟩
  have hF : Fr [b] W W' := (Fr.refl _ _).grown hg (fun k hk _ => by cases hk; simp)
  refine hF.cell (p := ⟨g, o + i, none⟩) ?_ hc
  intro hm
  simp only [List.mem_singleton] at hm
  subst hm
  obtain ⟨⟨es, clock, h1, -⟩, -⟩ := hD
  simp [World.cell?, h1] at hc
theorem Settled.cell1 {keep : Int → Bool} {n k : Nat} (h : Settled w0 hb cb b keep os n k W) : W.cell? ⟨cb, 1, none⟩ = some (.map (some b)) := by obtain ⟨pv, h⟩ := h; exact h.cell1
theorem WordsAt.fr0 {W' : World} {ao : Option Addr} {xs : List Int} (h : WordsAt W ao xs) (hF : Fr [] W W') : WordsAt W' ao xs := by
  intro i x hx
  obtain ⟨g, o, rfl, hc⟩ := h i x hx
  exact ⟨g, o, rfl, hF.cell (by simp) hc⟩
theorem Settled.fr {keep : Int → Bool} {n k : Nat} (h : Settled w0 hb cb b keep os n k W) : Fr [] w0 W := by obtain ⟨pv, h⟩ := h; exact h.fr
theorem Settled.cell0 {keep : Int → Bool} {n k : Nat} (h : Settled w0 hb cb b keep os n k W) : W.cell? ⟨cb, 0, none⟩ = some (.pointer (some ⟨hb, 0, none⟩)) := by obtain ⟨pv, h⟩ := h; exact h.cell0
theorem objects_of (hI : OInv lim os hashes) (hH : HeapAt W hb mb (absMem lim os root hashes) wv sv) :
    Calls Tryz.prog 23 #[.pointer (some ⟨hb, 0, none⟩)] W fun e W' => ∃ ao cap, e = .returned (.slice ao (refsO os).length cap) ∧ WordsAt W' ao (refsO os) ∧ Fr [] W W' ∧ ∀ a, ao = some a → W.heap.size ≤ a.block :=
  (objects_at hI (w := { W with heap := #[] }) ⟨wv, sv, hH, ⟨rfl, rfl, rfl, Nat.zero_le _, fun k hk => absurd hk (by simp)⟩, Nat.zero_le _, fun _ _ => Nat.zero_le _⟩).mono fun _ _ ⟨ao, cap, h1, h2, h3, h4, _⟩ => ⟨ao, cap, h1, h2, h3, h4⟩
theorem keep_end_le (keep : Int → Bool) (os : List Ob) (k : Nat) : endOf (keepL keep 1 (os.take k)) ≤ endOf os := by
  have h1 := flatW_sub (keepL_sub keep 1 (os.take k))
  have h2 := end_take os k
  unfold endOf at *
  omega
set_option maxRecDepth 100000 in
set_option maxHeartbeats 4000000 in
theorem settle_at (hI : OInv lim os hashes) (hH : HeapAt w0 hb mb (absMem lim os root hashes) wv sv) {keep : Int → Bool} {n : Nat} (hn : n ≤ 65536) (hk : ∀ x, keep x = true → (lookP 1 os x).isSome = true) (hC : Settled w0 hb cb b keep os n 0 W) :
    Calls Tryz.prog 29 #[.pointer (some ⟨cb, 0, none⟩)] W fun e W' => e = .returned (.tuple #[]) ∧ Settled w0 hb cb b keep os n os.length W' := by
  have hl : endOf os ≤ 65536 := by have := hI.fit; have := hI.l2; omega
  have hlos : os.length ≤ 65536 := by have := len_end os; omega
  have c0 : W.cell? ⟨cb, 0, none⟩ = some (.pointer (some ⟨hb, 0, none⟩)) := by obtain ⟨pv, h⟩ := hC; exact h.cell0
  have hFW : Fr [] w0 W := by obtain ⟨pv, h⟩ := hC; exact h.fr
  have hHW : HeapAt W hb mb (absMem lim os root hashes) wv sv := hH.fr hFW (by simp) (fun _ _ => by simp)
  have hob := objects_of hI hHW
  have HI := Lib.hid hI
  have HH := Lib.hid hH
  have HC := Lib.hid hC
  have HK := Lib.hid hk
  have HL := Lib.hid hl
  obtain ⟨N, hN⟩ : ∃ N, N = os.length := ⟨_, rfl⟩
  have HN := Lib.hid hN
  rw [refsO_len, ← hN] at hob
  rw [← hN] at hlos ⊢
  clear hI hH hC hk hl hFW hHW hN
  go_enter Tryz.func29, Tryz.ntmps29
  go_wp2_with (first | (go_at_call 23; refine hob.mono ?_; rintro e w1 ⟨lo, lc, rfl, hwd, hF1, -⟩; have HWD := Lib.hid hwd; have HC1 := Lib.hid (HC.out.still hF1); clear hwd hF1))
  go_loopw [2, 15] (fun a i wr => ∃ k : Nat, k ≤ N ∧ i = .int .i64 k ∧ ∃ q : Nat, a = .int .i64 q ∧ Hid (q = endOf (keepL keep 1 (os.take k))) ∧ Hid (Settled w0 hb cb b keep os n k wr) ∧ Hid (WordsAt wr lo (refsO os))) (fun _ i _ => N - (intOf i).toNat)
  case atStart => exact ⟨0, Nat.zero_le _, rfl, 1, rfl, by simp [keepL, endOf, flatW, Hid], HC1, HWD⟩
  case round =>
    obtain ⟨k, hk, rfl, q, rfl, hq, hCk, hWk⟩ := hrel
    by_cases hlt : k < N
    · have hkl : k < os.length := by rw [← HN.out]; exact hlt
      obtain ⟨o, ho⟩ : ∃ o, os[k]? = some o := ⟨_, List.getElem?_eq_getElem hkl⟩
      obtain ⟨g, off, rfl, hc⟩ := hWk.out k _ (refsO_at hkl)
      obtain ⟨pv, hcl⟩ := hCk.out
      obtain ⟨D, hD⟩ := hcl.map
      have hlk := look_of_ref ho
      have hend : endOf (os.take k) ≤ endOf os := end_take os k
      have hxb : WB (2 * (endOf (os.take k) : Int)) := ⟨by omega, by have := HL.out; omega⟩
      have hkey := keyWord hxb
      have hv := (hD.2 _ hxb).1
      have c0' := hcl.cell0
      have c1 := hcl.cell1
      obtain ⟨x, hx⟩ : ∃ x, x = 2 * (endOf (os.take k) : Int) := ⟨_, rfl⟩
      have hpv : (placeV keep os k x).isSome = keep x := by
        unfold placeV
        rw [if_neg (show ¬ x < 2 * (endOf (os.take k) : Int) by omega)]
        cases keep x <;> rfl
      rw [← hx] at hc hxb hkey hv hlk
      rw [hpv] at hv
      have HXB := Lib.hid hxb
      have HXE := Lib.hid hx
      have HO := Lib.hid ho
      have HD := Lib.hid hD
      have HCL := Lib.hid hcl
      have HLK := Lib.hid hlk
      have k0 : (0 : Int) ≤ (k : Int) := by omega
      have k1 : (k : Int) < (N : Int) := by omega
      have HKN := Lib.hid (keepL_next (keep := keep) ho)
      clear hkl ho hcl hD hlk hend hxb hx hpv
      cases hkx : keep x
      · rw [hkx] at hv
        have HNX : Hid (Settled w0 hb cb b keep os n (k + 1) wr) := hCk.out.skip HO.out HK.out (by rw [← HXE.out]; exact hkx)
        have HQ : Hid (q = endOf (keepL keep 1 (os.take (k + 1)))) := by rw [HKN.out, ← HXE.out, hkx]; simpa using hq
        clear HKN
        go_wp2_with (at_lookup; refine wpList_lookup_own_ok_int _ rfl _ _ 62 rfl 24 24 .u64 keyedWord Tryz.underlying62 Tryz.underlying24 (zeroWord _) b (n + k) D rfl HD.out.1 _ _ rfl hkey ?_; intro c hat hwc; rw [hv]; clear hat hwc)
        go_roundw
        case rel => exact ⟨k + 1, by omega, by go_num, q, rfl, HQ, HNX, hWk⟩
        case measure => simp [intOf]; omega
      · rw [hkx] at hv
        have hq1 : 1 ≤ q := by rw [hq.out]; exact endOf_pos _
        have hq2 : q ≤ 65536 := by rw [hq.out]; exact Nat.le_trans (keep_end_le keep os k) HL.out
        have hfr := fun w => wordFromRef q w hq1 (by omega)
        have HQ : Hid (q + 3 + o.2.2.length = endOf (keepL keep 1 (os.take (k + 1)))) := by
          rw [HKN.out, ← HXE.out, hkx, hq.out, if_pos rfl, endOf_snoc]
          exact rfl
        clear HKN
        go_wp2_with (first
          | (at_lookup; refine wpList_lookup_own_ok_int _ rfl _ _ 62 rfl 24 24 .u64 keyedWord Tryz.underlying62 Tryz.underlying24 (zeroWord _) b (n + k) D rfl HD.out.1 _ _ rfl hkey ?_; intro c hat hwc; rw [hv]; clear hat hwc)
          | fail)
        have hmx : Tryz.prog.follows .mixedOrders = true := by kernel_rfl
        obtain ⟨w3, hrun3, hown3, hgrow3⟩ := (World.ownsMap.drew HD.out.1).update keyedWord Tryz.underlying62 (by unfold maxLen; omega) (val := .int .u64 (2 * (q : Int))) (d := .lit (.int .u64 (2 * (q : Int)))) (ps := []) hkey (plainElem_int Tryz.underlying24 (WalkArith.wf_u64 ⟨by omega, by omega⟩))
        have HCW : Hid (Settled w0 hb cb b keep os n (k + 1) w3) := by
          refine ⟨pv, (HCL.out.still (Fr.drew (Fr.refl _ _))).mapped hgrow3 ⟨_, ((HD.out.fr (Fr.drew (Fr.refl [] _)) (by simp)).put (2 * (q : Int)) HXB.out hown3).congr fun y => ?_⟩⟩
          rw [placeV_next HO.out HK.out, ← hq.out, ← HXE.out]
          by_cases e : y = x
          · rw [if_pos e, if_pos ⟨e, by rw [e]; exact hkx⟩]
          · rw [if_neg e, if_neg (fun h => e h.1)]
        have HWW : Hid (WordsAt w3 (some ⟨g, off, none⟩) (refsO os)) := WordsAt.grown (W := wr.drew) hWk.out (HD.out.fr (Fr.drew (Fr.refl [] _)) (by simp)) hgrow3
        have hsz := (obj_calls HI.out (HH.out.fr HCW.out.fr (by simp) (fun _ _ => by simp)) HLK.out).2.1
        have c3 := HCW.out.cell0
        clear hown3 hgrow3
        have c4 := HCW.out.cell1
        refine region_own (S := fun w' => w'.cell? ⟨cb, 1, none⟩ = some (.map (some b))) hmx c1 (fun hHeld => ?_)
        (refine wpAnyH_take (i := 0) (oi := ⟨some 31, _, _, _, _, _⟩) (v := ?_) rfl (by kernel_rfl) (by kernel_rfl) (by kernel_rfl) (fun _ _ _ h => h) (Or.inl ⟨by rfl, ?_⟩) (by assumption) ?_); rotate_left; focus (intro w hSw; (try dsimp only at hSw); go_split_ands; go_simp; try with_reducible rfl); (try simp only [Act.put, List.setIfInBounds_toArray, List.set_cons_zero, List.set_cons_succ])
        (refine wpAnyH_take (i := 1) (oi := ⟨some 32, _, _, _, _, _⟩) (v := ?_) rfl (by kernel_rfl) (by kernel_rfl) (by kernel_rfl) (fun _ _ _ h => h) (Or.inl ⟨by rfl, ?_⟩) (by assumption) ?_); rotate_left; focus (intro w hSw; (try dsimp only at hSw); go_split_ands; go_simp; try with_reducible rfl); (try simp only [Act.put, List.setIfInBounds_toArray, List.set_cons_zero, List.set_cons_succ])
        (refine wpAnyH_take (i := 2) (oi := ⟨some 33, _, _, _, _, _⟩) (v := ?_) rfl (by kernel_rfl) (by kernel_rfl) (by kernel_rfl) (fun _ _ _ h => h) (Or.inl ⟨by rfl, ?_⟩) (by assumption) ?_); rotate_left; focus (intro w hSw; (try dsimp only at hSw); go_split_ands; go_simp; try with_reducible rfl); (try simp only [Act.put, List.setIfInBounds_toArray, List.set_cons_zero, List.set_cons_succ])
        (refine wpAnyH_take (i := 3) (oi := ⟨some 34, _, _, _, _, _⟩) (v := ?_) rfl (by kernel_rfl) (by kernel_rfl) (by kernel_rfl) (fun _ _ _ h => h) (Or.inl ⟨by rfl, ?_⟩) (by assumption) ?_); rotate_left; focus (intro w hSw; (try dsimp only at hSw); go_split_ands; go_simp; try with_reducible rfl); (try simp only [Act.put, List.setIfInBounds_toArray, List.set_cons_zero, List.set_cons_succ])
        (refine wpAnyH_take (i := 4) (oi := ⟨some 35, _, _, _, _, _⟩) (v := ?_) rfl (by kernel_rfl) (by kernel_rfl) (by kernel_rfl) (fun _ _ _ h => h) (Or.inl ⟨by rfl, ?_⟩) (by assumption) ?_); rotate_left; focus (intro w hSw; (try dsimp only at hSw); go_split_ands; go_simp; try with_reducible rfl); (try simp only [Act.put, List.setIfInBounds_toArray, List.set_cons_zero, List.set_cons_succ])
        (refine wpAnyH_take (i := 5) (oi := ⟨some 36, _, _, _, _, _⟩) (v := ?_) rfl (by kernel_rfl) (by kernel_rfl) (by kernel_rfl) (fun _ _ _ h => h) (Or.inl ⟨by rfl, ?_⟩) (by assumption) ?_); rotate_left; focus (intro w hSw; (try dsimp only at hSw); go_split_ands; go_simp; try with_reducible rfl); (try simp only [Act.put, List.setIfInBounds_toArray, List.set_cons_zero, List.set_cons_succ])
        (refine wpAnyH_ready (rs := [6]) (by kernel_rfl) (by simp) ?_; refine AllReadyH.cons rfl (fun K hK => ?_) AllReadyH.nil); go_simp
        refine (hfr _).mono ?_
        rintro e w4 ⟨rfl, rfl⟩
        refine hK.out _ _ hHeld (fun hHeld2 => ?_)
        clear hK
        (refine wpAnyH_take (i := 7) (oi := ⟨some 30, _, _, _, _, _⟩) (v := ?_) rfl (by kernel_rfl) (by kernel_rfl) (by kernel_rfl) (fun _ _ _ h => h) (Or.inl ⟨by rfl, ?_⟩) (by assumption) ?_); rotate_left; focus (intro w hSw; (try dsimp only at hSw); go_split_ands; go_simp; try with_reducible rfl); (try simp only [Act.put, List.setIfInBounds_toArray, List.set_cons_zero, List.set_cons_succ])
        (refine wpAnyH_take (i := 8) (oi := ⟨some 38, _, _, _, _, _⟩) (v := ?_) rfl (by kernel_rfl) (by kernel_rfl) (by kernel_rfl) (fun _ _ _ h => h) (Or.inl ⟨by rfl, ?_⟩) (by assumption) ?_); rotate_left; focus (intro w hSw; (try dsimp only at hSw); go_split_ands; go_simp; try with_reducible rfl); (try simp only [Act.put, List.setIfInBounds_toArray, List.set_cons_zero, List.set_cons_succ])
        (refine wpAnyH_take (i := 9) (oi := ⟨some 39, _, _, _, _, _⟩) (v := ?_) rfl (by kernel_rfl) (by kernel_rfl) (by kernel_rfl) (fun _ _ _ h => h) (Or.inl ⟨by rfl, ?_⟩) (by assumption) ?_); rotate_left; focus (intro w hSw; (try dsimp only at hSw); go_split_ands; go_simp; try with_reducible rfl); (try simp only [Act.put, List.setIfInBounds_toArray, List.set_cons_zero, List.set_cons_succ])
        (refine wpAnyH_ready (rs := [10]) (by kernel_rfl) (by simp) ?_; refine AllReadyH.cons rfl (fun K hK => ?_) AllReadyH.nil); go_simp
        refine hK.out _ _ c4 (fun hHeld3 => ?_)
        clear hK
        refine wpAnyH_done (by kernel_rfl) (Norm.mk ?_) _
        obtain ⟨z, hz⟩ : ∃ z, z = o.2.2.length := ⟨_, rfl⟩
        have hz2 : z ≤ 65536 := by
          obtain ⟨k', -, -, h3⟩ := (lookP_ge HLK.out).2
          have h4 : endOf os = 1 + (flatW os).length := rfl
          have := HL.out
          omega
        rw [← hz] at hsz HQ
        clear hHeld hHeld2 hHeld3 hrun3 c4 c1 hc c0' hz
        go_wp2_with (go_at_call 54; refine hsz.mono ?_; rintro e w5 ⟨rfl, hF5⟩; have HC5 := Lib.hid (HCW.out.still hF5); have HW5 : Hid (WordsAt w5 (some ⟨g, off, none⟩) (refsO os)) := HWW.out.fr0 hF5; clear hF5)
        go_roundw
        case rel => exact ⟨k + 1, by omega, by go_num, q + 3 + z, by go_num, HQ, HC5, HW5⟩
        case measure => simp [intOf]; omega
    · have hkN : k = N := by omega
      subst hkN
      have hkd : decide (k < k) = false := by simp
      go_wp2
      go_end0
      exact ⟨rfl, hCk.out⟩
end
end Go.Proofs.YtjjkbdkalnhcbaaGreatDoor
namespace Go.Proofs.YtjjkbdkalnhcbaaGreatDoor
open Go.RowKit

structure Kept (w : World) (keep : Int → Bool) (f : Int → Int) (os : List Ob) (k : Nat) (its : List It) (v : Value) (W : World) : Prop where
  grows : Grows w 80 3 its.length (flat3 its) v W
  own : ∀ o ∈ its, ItOwn W o
  fresh : ∀ o ∈ its, ∀ b, o.fv.ownBlock = some b → w.heap.size ≤ b
  keys : obsOf its = (keepL keep 1 (os.take k)).map (moveOb f)
theorem ItOwn.keep {W W1 w1 : World} {o : It} {size n : Nat} {v : Value} {xs : List Value} (h : ItOwn W o) (hW : Fr [] W W1) (hr : W1.ownsRow 0 80 size v n xs) (hg : W1.grownBy w1 v.ownBlock) : ItOwn w1 o := by
  have h1 : W1.ownsRow 0 24 1 o.fv o.fs.length (o.fs.map (Value.int .u64)) := hW.row h.1 (fun _ _ => by simp)
  refine ⟨h1.kept hg ?_, h.2⟩
  cases hb : o.fv.ownBlock with
  | none => exact .inl rfl
  | some q =>
    right
    intro e
    obtain ⟨c1, k1⟩ := row_heap h1 hb
    obtain ⟨c2, k2⟩ := row_cells hr e.symm
    rw [k1] at k2
    simp at k2
theorem Kept.push {w W W1 w1 : World} {keep : Int → Bool} {f : Int → Int} {os : List Ob} {k : Nat} {its : List It} {v v' : Value} {it : It} (h : Kept w keep f os k its v W) (hW : Fr [] W W1) (ho : w1.ownsRow 0 80 3 v' (its.length + 1) (flat3 its ++ [.int .u64 it.cls, .int .i64 it.hash, it.fv])) (hg : W1.grownBy w1 v.ownBlock)
    (hf : v'.ownBlock = v.ownBlock ∨ v'.ownBlock = some W1.heap.size) (hit : ItOwn W1 it) (hn : ∀ b, it.fv.ownBlock = some b → w.heap.size ≤ b) (hk : (keepL keep 1 (os.take (k + 1))).map (moveOb f) = (keepL keep 1 (os.take k)).map (moveOb f) ++ [it.key]) : Kept w keep f os (k + 1) (its ++ [it]) v' w1 := by
  have hr1 : W1.ownsRow 0 80 3 v its.length (flat3 its) := hW.row h.grows.row (fun _ _ => by simp)
  refine ⟨?_, fun o hom => ?_, fun o hom q hq => ?_, ?_⟩
  · rw [List.length_append, flat3_snoc]
    exact h.grows.step hW ho hg hf
  · rcases List.mem_append.1 hom with hom | hom
    · exact (h.own o hom).keep hW hr1 hg
    · rw [List.mem_singleton] at hom
      rw [hom]
      exact hit.keep (Fr.refl _ _) hr1 hg
  · rcases List.mem_append.1 hom with hom | hom
    · exact h.fresh o hom q hq
    · rw [List.mem_singleton] at hom
      rw [hom] at hq
      exact hn q hq
  · rw [hk, ← h.keys]
    simp [obsOf]
set_option maxRecDepth 100000 in
set_option maxHeartbeats 4000000 in
theorem kept_at {W : World} {hb mb cb b n : Nat} {lim root hashes : Int} {os : List Ob} {wv sv pv : Value} {val : Int → Option Int} {keep : Int → Bool} {f : Int → Int} (hI : OInv lim os hashes) (hH : HeapAt W hb mb (absMem lim os root hashes) wv sv)
    (hbox : W.heap[cb]? = some (.cells #[.pointer (some ⟨hb, 0, none⟩), .map (some b), pv] 64 (0, 0))) (hm : ∃ D, MapV W b n val D) (hv : ∀ x, WB x → (val x).getD x = f x ∧ (val x).isSome = keep x) :
    Calls Tryz.prog 30 #[.pointer (some ⟨cb, 0, none⟩)] W (DumpsTo ((keepL keep 1 os).map (moveOb f)) W) := by
  have hl : endOf os ≤ 65536 := by have := hI.fit; have := hI.l2; omega
  have hlos : os.length ≤ 65536 := by have := len_end os; omega
  have c0 := cell_of_heap (o := 0) hbox rfl
  have hd := dump_lists (memory_at hH) hl (fun o ho => ⟨(hI.each o ho).1, by have := (hI.each o ho).2; have := hI.h1; omega⟩)
  obtain ⟨N, hN⟩ : ∃ N, N = os.length := ⟨_, rfl⟩
  have HN := Lib.hid hN
  rw [← hN] at hlos
  have HI := Lib.hid hI
  have HH := Lib.hid hH
  have HB := Lib.hid hbox
  have HM := Lib.hid hm
  have HV := Lib.hid hv
  have HL := Lib.hid hl
  clear hI hH hbox hm hv hl hN
  obtain ⟨i0, hi, hz0, hz1, hz2⟩ := info_parts infoHO
  go_enter Tryz.func30, Tryz.ntmps30
  go_wp2_with (first
    | (go_at_call 15; refine hd.mono ?_; rintro e w1 ⟨v, its0, rfl, hrow, hob0, hown, hF1, hnew, hfr⟩; obtain ⟨da, dc, rfl⟩ := row_shape' hrow; have hobj := objects_of HI.out (HH.out.fr hF1 (by simp) (fun _ _ => by simp)); have hln : its0.length = N := (by have := congrArg List.length hob0; simp [obsOf] at this; rw [this, HN.out]); rw [hln] at hrow; rw [hln]; have HROW := Lib.hid hrow; have HOB := Lib.hid hob0; have HOWN := Lib.hid hown; have HF1 := Lib.hid hF1; have HLN := Lib.hid hln; rw [refsO_len, ← HN.out] at hobj; have c01 := hF1.cell (by simp) c0; clear hrow hob0 hown hF1 hnew hfr hln)
    | (go_at_call 23; refine hobj.mono ?_; rintro e w2 ⟨lo, lc, rfl, hwd, hF2, -⟩; have HWD := Lib.hid hwd; have HF2 := Lib.hid hF2; clear hwd hF2))
  have HFW : Hid (Fr [] W w2) := HF1.out.trans HF2.out
  have HRA : Hid (RowAt w2 da (flat3 its0)) := RowAt.fr' (row_rowAt HROW.out) HF2.out (fun _ _ _ => by simp)
  have HIW : Hid (∀ o ∈ its0, ItOwn w2 o) := Lib.hid fun o ho => ⟨HF2.out.row (HOWN.out o ho).1 (fun _ _ => by simp), (HOWN.out o ho).2⟩
  clear HROW HOWN HF1 HF2 hd hobj c0 c01
  go_loopw [3, 21] (fun v i wr => ∃ (k : Nat) (its : List It), k ≤ N ∧ i = .int .i64 k ∧ Hid (Kept w2 keep f os k its v wr)) (fun _ i _ => N - (intOf i).toNat)
  case atStart => exact ⟨0, [], Nat.zero_le _, rfl, ⟨⟨World.ownsRow_nil _ _ _ _, Fr.refl _ _, fun _ h => by cases h⟩, by simp, by simp, by simp [keepL, obsOf]⟩⟩
  case round =>
    obtain ⟨k, its, hk, rfl, hKt⟩ := hrel
    obtain ⟨vo, vc, rfl⟩ := row_shape' hKt.out.grows.row
    by_cases hlt : k < N
    · have hkl : k < os.length := by rw [← HN.out]; exact hlt
      obtain ⟨o, ho⟩ : ∃ o, os[k]? = some o := ⟨_, List.getElem?_eq_getElem hkl⟩
      have hFr := hKt.out.grows.fr
      have hFWr := HFW.out.trans hFr
      obtain ⟨g, off, rfl, hc⟩ := HWD.out k _ (refsO_at hkl)
      have hc' := hFr.cell (by simp) hc
      obtain ⟨it, hit, hkey0⟩ : ∃ it, its0[k]? = some it ∧ it.key = o := by
        have h1 := HOB.out
        have h2 : (obsOf its0)[k]? = some o := by rw [h1]; exact ho
        unfold obsOf at h2
        rw [List.getElem?_map] at h2
        cases h3 : its0[k]? with
        | none => rw [h3] at h2; cases h2
        | some it => rw [h3] at h2; cases h2; exact ⟨it, rfl, rfl⟩
      obtain ⟨f1, f2, f3⟩ := flat3_at hit
      obtain ⟨dg, doff, rfl, q1⟩ := HRA.out _ _ f1
      obtain ⟨_, _, eq2, q2⟩ := HRA.out _ _ f2
      cases eq2
      obtain ⟨_, _, eq3, q3⟩ := HRA.out _ _ f3
      cases eq3
      have hio := HIW.out it (List.mem_of_getElem? hit)
      obtain ⟨fa, fc, hfv, hfw, -⟩ := hio.ok
      have hfl := hio.2
      rw [hfv] at q3
      have d1 := hFr.cell (by simp) q1
      have d2 := hFr.cell (by simp) q2
      have d3 := hFr.cell (by simp) q3
      rw [← Nat.add_assoc] at d2 d3
      have hfs : it.fs = o.2.2 := by rw [← hkey0]; rfl
      have hcl : it.cls = o.1 := by rw [← hkey0]; rfl
      have hha : it.hash = o.2.1 := by rw [← hkey0]; rfl
      rw [hfs] at d3 hfw hfl
      rw [hcl] at d1
      rw [hha] at d2
      have hend : endOf (os.take k) ≤ endOf os := end_take os k
      obtain ⟨x, hx⟩ : ∃ x, x = 2 * (endOf (os.take k) : Int) := ⟨_, rfl⟩
      have hxb : WB x := ⟨by omega, by have := HL.out; omega⟩
      rw [← hx] at hc'
      have hkey := keyWord hxb
      obtain ⟨D, hD⟩ := HM.out
      have hD' := hD.fr hFWr (by simp)
      have hv := (hD'.2 x hxb).1
      rw [(HV.out x hxb).2] at hv
      have c1 : wr.cell? ⟨cb, 1, none⟩ = some (.map (some b)) := hFWr.cell (by simp) (cell_of_heap HB.out rfl)
      have HD := Lib.hid hD'
      have HKN := Lib.hid (keepL_next (keep := keep) ho)
      have HXE := Lib.hid hx
      have k0 : (0 : Int) ≤ (k : Int) := by omega
      have k1 : (k : Int) < (N : Int) := by omega
      have hbo := HI.out.bd o (List.mem_of_getElem? ho)
      have HBO := Lib.hid hbo
      have HFWR := Lib.hid hFWr
      have HFR := Lib.hid hFr
      have HFWD := Lib.hid hfw
      clear hkl ho hFr hFWr hc hit hkey0 f1 f2 f3 q1 q2 q3 hio hfv hfs hcl hha hend hxb hx hD hD' hbo hfw
      cases hkx : keep x
      · rw [hkx] at hv
        have HNX : Hid (Kept w2 keep f os (k + 1) its (.slice vo its.length vc) wr) := by
          refine ⟨hKt.out.grows, hKt.out.own, hKt.out.fresh, ?_⟩
          rw [HKN.out, ← HXE.out, hkx]
          simpa using hKt.out.keys
        clear HKN
        go_wp2_with (at_lookup; refine wpList_lookup_own_ok_int _ rfl _ _ 62 rfl 24 24 .u64 keyedWord Tryz.underlying62 Tryz.underlying24 (zeroWord _) b n D rfl HD.out.1 _ _ rfl hkey ?_; intro c hat hwc; rw [hv]; clear hat hwc)
        go_roundw
        case rel => exact ⟨k + 1, its, by omega, by go_num, HNX⟩
        case measure => simp [intOf]; omega
      · rw [hkx] at hv
        go_wp2_with (first
          | (at_lookup; refine wpList_lookup_own_ok_int _ rfl _ _ 62 rfl 24 24 .u64 keyedWord Tryz.underlying62 Tryz.underlying24 (zeroWord _) b n D rfl HD.out.1 _ _ rfl hkey ?_; intro c hat hwc; rw [hv]; clear hat hwc)
          | fail)
        have hmx : Tryz.prog.follows .mixedOrders = true := by kernel_rfl
        obtain ⟨W1, hW1⟩ : ∃ W1, W1 = wr.alloc (.cells #[.int .u64 o.1, .int .i64 o.2.1, .slice fa o.2.2.length fc] 80) := ⟨_, rfl⟩
        have HFR1 : Hid (Fr [] wr W1) := by rw [hW1]; exact (Fr.refl _ _).alloc _
        have hob1 : W1.heap[wr.heap.size]? = some (.cells #[.int .u64 o.1, .int .i64 o.2.1, .slice fa o.2.2.length fc] 80 (0, 0)) := by rw [hW1]; exact heap_new _ _
        have e0 : W1.cell? ⟨wr.heap.size, 0, none⟩ = some (.int .u64 o.1) := cell_of_heap hob1 rfl
        have e1 : W1.cell? ⟨wr.heap.size, 1, none⟩ = some (.int .i64 o.2.1) := cell_of_heap hob1 rfl
        have e2 : W1.cell? ⟨wr.heap.size, 2, none⟩ = some (.slice fa o.2.2.length fc) := cell_of_heap hob1 rfl
        have HFW1 : Hid (Fr [] W W1.drew) := (HFWR.out.trans HFR1.out).drew
        have hpl : Places cb b n val W1.drew := Places.fr ⟨⟨_, _, HB.out⟩, HM.out⟩ HFW1.out
        have hmv := moved_gives hpl o.1 HBO.out.1
        rw [(HV.out o.1 HBO.out.1).1] at hmv
        have hma := movedAll_at (rc := fc) hpl f (fun y hy => (HV.out y hy).1) o.2.2 (HFWD.out.fr0 ((HFR.out.trans HFR1.out).drew)) (fun y hy => HBO.out.2 y hy) (by omega)
        have HKN2 : Hid ((keepL keep 1 (os.take (k + 1))).map (moveOb f) = (keepL keep 1 (os.take k)).map (moveOb f) ++ [(f o.1, o.2.1, o.2.2.map f)]) := by
          rw [HKN.out, ← HXE.out, hkx, if_pos rfl, List.map_append]
          exact rfl
        rw [← hW1]
        have HW1 := Lib.hid hW1
        have hkl2 : its.length ≤ 65536 := by
          have h1 := congrArg List.length hKt.out.keys
          simp only [obsOf, List.length_map] at h1
          have h2 := (keepL_sub keep 1 (os.take k)).length_le
          rw [List.length_take] at h2
          omega
        clear hW1 hob1 HKN d1 d2 d3 hc' c1 hv hpl
        refine walk_plain (fun w' => w'.cell? ⟨wr.heap.size, 0, none⟩ = some (.int .u64 o.1) ∧ w'.cell? ⟨wr.heap.size, 1, none⟩ = some (.int .i64 o.2.1) ∧ w'.cell? ⟨wr.heap.size, 2, none⟩ = some (.slice fa o.2.2.length fc)) 14 hmx ⟨e0, e1, e2⟩ (fun hHeld => ?_)
        (refine Walk.take (i := 0) (oi := ⟨some 41, _, _, _, _, _⟩) (v := ?_) rfl (by kernel_rfl) (by kernel_rfl) (by kernel_rfl) (by kernel_rfl) (fun _ _ _ h => h) (Or.inl ⟨by rfl, ?_⟩) (by assumption) ?_); rotate_left; focus (intro w hSw; (try dsimp only at hSw); go_split_ands; go_simp; try with_reducible rfl); (try simp only [Act.put, List.setIfInBounds_toArray, List.set_cons_zero, List.set_cons_succ])
        (refine Walk.take (i := 1) (oi := ⟨some 42, _, _, _, _, _⟩) (v := ?_) rfl (by kernel_rfl) (by kernel_rfl) (by kernel_rfl) (by kernel_rfl) (fun _ _ _ h => h) (Or.inl ⟨by rfl, ?_⟩) (by assumption) ?_); rotate_left; focus (intro w hSw; (try dsimp only at hSw); go_split_ands; go_simp; try with_reducible rfl); (try simp only [Act.put, List.setIfInBounds_toArray, List.set_cons_zero, List.set_cons_succ])
        (refine Walk.take (i := 2) (oi := ⟨some 43, _, _, _, _, _⟩) (v := ?_) rfl (by kernel_rfl) (by kernel_rfl) (by kernel_rfl) (by kernel_rfl) (fun _ _ _ h => h) (Or.inl ⟨by rfl, ?_⟩) (by assumption) ?_); rotate_left; focus (intro w hSw; (try dsimp only at hSw); go_split_ands; go_simp; try with_reducible rfl); (try simp only [Act.put, List.setIfInBounds_toArray, List.set_cons_zero, List.set_cons_succ])
        (refine Walk.take (i := 3) (oi := ⟨some 44, _, _, _, _, _⟩) (v := ?_) rfl (by kernel_rfl) (by kernel_rfl) (by kernel_rfl) (by kernel_rfl) (fun _ _ _ h => h) (Or.inl ⟨by rfl, ?_⟩) (by assumption) ?_); rotate_left; focus (intro w hSw; (try dsimp only at hSw); go_split_ands; go_simp; try with_reducible rfl); (try simp only [Act.put, List.setIfInBounds_toArray, List.set_cons_zero, List.set_cons_succ])
        (refine Walk.take (i := 5) (oi := ⟨some 46, _, _, _, _, _⟩) (v := ?_) rfl (by kernel_rfl) (by kernel_rfl) (by kernel_rfl) (by kernel_rfl) (fun _ _ _ h => h) (Or.inl ⟨by rfl, ?_⟩) (by assumption) ?_); rotate_left; focus (intro w hSw; (try dsimp only at hSw); go_split_ands; go_simp; try with_reducible rfl); (try simp only [Act.put, List.setIfInBounds_toArray, List.set_cons_zero, List.set_cons_succ])
        (refine Walk.take (i := 6) (oi := ⟨some 47, _, _, _, _, _⟩) (v := ?_) rfl (by kernel_rfl) (by kernel_rfl) (by kernel_rfl) (by kernel_rfl) (fun _ _ _ h => h) (Or.inl ⟨by rfl, ?_⟩) (by assumption) ?_); rotate_left; focus (intro w hSw; (try dsimp only at hSw); go_split_ands; go_simp; try with_reducible rfl); (try simp only [Act.put, List.setIfInBounds_toArray, List.set_cons_zero, List.set_cons_succ])
        (refine Walk.take (i := 7) (oi := ⟨some 48, _, _, _, _, _⟩) (v := ?_) rfl (by kernel_rfl) (by kernel_rfl) (by kernel_rfl) (by kernel_rfl) (fun _ _ _ h => h) (Or.inl ⟨by rfl, ?_⟩) (by assumption) ?_); rotate_left; focus (intro w hSw; (try dsimp only at hSw); go_split_ands; go_simp; try with_reducible rfl); (try simp only [Act.put, List.setIfInBounds_toArray, List.set_cons_zero, List.set_cons_succ])
        (refine Walk.take (i := 8) (oi := ⟨some 49, _, _, _, _, _⟩) (v := ?_) rfl (by kernel_rfl) (by kernel_rfl) (by kernel_rfl) (by kernel_rfl) (fun _ _ _ h => h) (Or.inl ⟨by rfl, ?_⟩) (by assumption) ?_); rotate_left; focus (intro w hSw; (try dsimp only at hSw); go_split_ands; go_simp; try with_reducible rfl); (try simp only [Act.put, List.setIfInBounds_toArray, List.set_cons_zero, List.set_cons_succ])
        (refine Walk.take (i := 9) (oi := ⟨some 50, _, _, _, _, _⟩) (v := ?_) rfl (by kernel_rfl) (by kernel_rfl) (by kernel_rfl) (by kernel_rfl) (fun _ _ _ h => h) (Or.inl ⟨by rfl, ?_⟩) (by assumption) ?_); rotate_left; focus (intro w hSw; (try dsimp only at hSw); go_split_ands; go_simp; try with_reducible rfl); (try simp only [Act.put, List.setIfInBounds_toArray, List.set_cons_zero, List.set_cons_succ])
        (refine Walk.one (i := 4) rfl (by kernel_rfl) rfl (fun K hK => ?_)); go_simp
        refine hmv.mono ?_
        rintro e w3 ⟨rfl, rfl⟩
        refine hK.out _ _ (fun _ => ⟨e0, e1, e2⟩) (fun _ => ?_)
        clear hK
        (refine Walk.one (i := 10) rfl (by kernel_rfl) rfl (fun K hK => ?_)); go_simp
        refine hma.mono ?_
        rintro e w3 ⟨fv, rfl, hfr, hF3, hfn⟩
        have HF3 : Hid (Fr [] wr w3) := (HFR1.out.drew).trans hF3
        have e03 := hF3.cell (by simp) e0
        have e13 := hF3.cell (by simp) e1
        have e23 := hF3.cell (by simp) e2
        have HFNN : Hid (∀ q, fv.ownBlock = some q → wr.heap.size ≤ q) := Lib.hid fun q hq => Nat.le_trans HFR1.out.size (hfn q hq)
        have HFRR := Lib.hid hfr
        refine hK.out _ _ (fun _ => ⟨e03, e13, e23⟩) (fun hHeld3 => ?_)
        have hHeld4 := hHeld3 (by decide)
        clear hK hHeld hHeld3 hfr hF3 hfn hmv hma e0 e1 e2
        obtain ⟨fa2, fc2, rfl⟩ := row_shape HFRR.out
        (refine Walk.take (i := 11) (oi := ⟨some 52, _, _, _, _, _⟩) (v := ?_) rfl (by kernel_rfl) (by kernel_rfl) (by kernel_rfl) (by kernel_rfl) (fun _ _ _ h => h) (Or.inl ⟨by rfl, ?_⟩) (by assumption) ?_); rotate_left; focus (intro w hSw; (try dsimp only at hSw); go_split_ands; go_simp; try with_reducible rfl); (try simp only [Act.put, List.setIfInBounds_toArray, List.set_cons_zero, List.set_cons_succ])
        (refine Walk.one (i := 12) rfl (by kernel_rfl) rfl (fun K hK => ?_)); go_simp
        have HX : Hid (Fr [] wr (w3.alloc (.cells #[.int .u64 (f o.1), .int .i64 o.2.1, .slice fa2 o.2.2.length fc2] 80))) := HF3.out.alloc _
        have HOW : Hid (ItOwn (w3.alloc (.cells #[.int .u64 (f o.1), .int .i64 o.2.1, .slice fa2 o.2.2.length fc2] 80)) ⟨f o.1, o.2.1, .slice fa2 o.2.2.length fc2, o.2.2.map f⟩) := by
          refine ⟨?_, by simp only [List.length_map]; exact hfl⟩
          simp only [List.length_map]
          exact ((Fr.refl [] w3).alloc _).row HFRR.out (fun _ _ => by simp)
        have HRX : Hid ((w3.alloc (.cells #[.int .u64 (f o.1), .int .i64 o.2.1, .slice fa2 o.2.2.length fc2] 80)).ownsRow 0 80 3 (.slice vo its.length vc) its.length (flat3 its)) := HX.out.row hKt.out.grows.row (fun _ _ => by simp)
        have HNE : Hid (wr.heap.size ∉ (Value.slice vo its.length vc).ownBlock.toList) := by
          refine Lib.hid fun hm => ?_
          obtain ⟨cur, hcur⟩ := row_cells hKt.out.grows.row (by simpa using hm)
          have := lt_of_heap hcur
          omega
        have hFa : Fr [] w3 (w3.alloc (.cells #[.int .u64 (f o.1), .int .i64 o.2.1, .slice fa2 o.2.2.length fc2] 80)) := (Fr.refl _ _).alloc _
        have e04 := hFa.cell (by simp) e03
        have e14 := hFa.cell (by simp) e13
        have e24 := hFa.cell (by simp) e23
        refine hK.out _ _ (fun _ => ⟨e04, e14, e24⟩) (fun _ => ?_)
        clear hK hFa
        refine Walk.one (i := 13) (o := ⟨some 54, _, _, _, _, _⟩) rfl (by kernel_rfl) rfl (fun K hK => ?_)
        refine wp_append_lies _ (.tmp 41) (.tmp 53) 37 (by rfl) 0 80 i0 _ 3 40 Tryz.underlying37 hi hz0 hz1 hz2 rfl (by omega) (.slice vo its.length vc) its.length (flat3 its) (by rfl) HRX.out ⟨w3.heap.size, 0, none⟩ 1 1 [.int .u64 (f o.1), .int .i64 o.2.1, .slice fa2 o.2.2.length fc2] (by rfl) (by rfl) (World.news_of_block (cs := #[.int .u64 (f o.1), .int .i64 o.2.1, .slice fa2 o.2.2.length fc2]) (t := 80) (fr := (0, 0)) (heap_alloc_new w3 _)) (by simp [Value.oneCell']) (by omega) (by unfold maxLen; omega) (by omega) (Nat.zero_le _) (w3.heap.size + 1) (by simp) ?_
        intro gg cq w4 hown1 hgrow hat hlt1
        have HST : Hid (Kept w2 keep f os (k + 1) (its ++ [⟨f o.1, o.2.1, .slice fa2 o.2.2.length fc2, o.2.2.map f⟩]) (.slice (some ⟨gg, 0, none⟩) (its.length + 1) cq) w4) :=
          hKt.out.push HX.out hown1 hgrow (hat.imp (fun h => h.symm) (fun h => by rw [h]; simp [Value.ownBlock])) HOW.out (fun q hq => Nat.le_trans HFR.out.size (HFNN.out q hq)) HKN2.out
        have hFg : Fr (Value.slice vo its.length vc).ownBlock.toList (w3.alloc (.cells #[.int .u64 (f o.1), .int .i64 o.2.1, .slice fa2 o.2.2.length fc2] 80)) w4 := (Fr.refl _ _).grown hgrow (fun q hq _ => by simp [hq])
        have e05 := hFg.cell (p := ⟨wr.heap.size, 0, none⟩) HNE.out e04
        have e15 := hFg.cell (p := ⟨wr.heap.size, 1, none⟩) HNE.out e14
        have e25 := hFg.cell (p := ⟨wr.heap.size, 2, none⟩) HNE.out e24
        clear hown1 hat hlt1 hgrow hFg e04 e14 e24 e03 e13 e23 hHeld4
        simp only [Act.put, List.setIfInBounds_toArray, List.set_cons_zero, List.set_cons_succ]
        refine hK.out _ _ (fun _ => ⟨e05, e15, e25⟩) (fun _ => ?_)
        clear hK
        (refine Walk.one (i := 14) rfl (by kernel_rfl) rfl (fun K hK => ?_)); go_simp
        refine hK.out _ _ (fun h => absurd rfl h) (fun _ => ?_)
        clear hK e05 e15 e25
        refine Walk.done (by kernel_rfl) (Norm.mk ?_) _
        go_wp2
        go_roundw
        case rel => exact ⟨k + 1, _, by omega, by go_num, HST⟩
        case measure => simp [intOf]; omega
    · have hkN : k = N := by omega
      subst hkN
      have hkd : decide (k < k) = false := by simp
      go_wp2
      go_ret
      have h := hKt.out
      refine ⟨_, its, rfl, h.grows.row, ?_, h.own, HFW.out.trans h.grows.fr, fun q hq => Nat.le_trans HFW.out.size (h.grows.new q hq), fun o ho q hq => Nat.le_trans HFW.out.size (h.fresh o ho q hq)⟩
      rw [h.keys, HN.out, List.take_length]
end Go.Proofs.YtjjkbdkalnhcbaaGreatDoor
namespace Go.Proofs.YtjjkbdkalnhcbaaGreatDoor
open Go.RowKit

/-- what a run answers, and what it leaves -/
def Ran (hb mb : Nat) (lim : Int) (os : List Ob) (root hashes : Int) (wv sv : Value) (roots : List Int) (W : World) (e : Ending) (W' : World) : Prop :=
  ∃ v, e = .returned (.tuple #[v, .int .i64 ((endOf os : Int) - (endOf (leftObs (keepR os (root :: roots)) os) : Int)), .int .i64 0]) ∧
    W'.ownsRow 0 24 1 v roots.length ((roots.map (moveW (keepR os (root :: roots)) os)).map (Value.int .u64)) ∧ (∀ q, v.ownBlock = some q → W.heap.size ≤ q) ∧
    ∃ wv' sv', HeapAt W' hb mb (absMem lim (leftObs (keepR os (root :: roots)) os) (moveW (keepR os (root :: roots)) os root) hashes) wv' sv' ∧ Fr (foot mb wv sv) W W' ∧ (∀ k ∈ foot mb wv' sv', k ∈ foot mb wv sv ∨ W.heap.size ≤ k) ∧ ∀ q, v.ownBlock = some q → q ∉ foot mb wv' sv'
section
variable {W : World} {hb mb : Nat} {lim root hashes : Int} {os : List Ob} {wv sv : Value}
theorem coll_new {W0 W1 : World} (hF : Fr [] W0 W1) : Coll W0 hb (W1.heap.size + 1) W1.heap.size (.slice none 0 0) (val0 []) 0 [] ((W1.alloc (.map #[] 0)).alloc (.cells #[.pointer (some ⟨hb, 0, none⟩), .map (some W1.heap.size), .slice none 0 0] 64)) := by
  have hsz := hF.size
  refine ⟨?_, ⟨.map [], ⟨(World.ownsMap_made _ _ _ _).alloc _, fun x _ => ⟨by simp [Maps.has, val0], by simp [val0, DataW.atKey]⟩⟩⟩, World.ownsRow_nil _ _ _ _, (hF.alloc _).alloc _, by omega, hsz, fun k hk => by cases hk⟩
  have := heap_new (W1.alloc (.map #[] 0)) (.cells #[.pointer (some ⟨hb, 0, none⟩), .map (some W1.heap.size), .slice none 0 0] 64)
  simpa using this
theorem Coll.far {W0 : World} {cb b : Nat} {pv : Value} {val : Int → Option Int} {n : Nat} {pend : List Int} (h : Coll W0 hb cb b pv val n pend W) {q : Nat} (hq : q < W0.heap.size) : q ∉ cfoot cb b pv := by
  intro hm
  have h1 := h.cn
  have h2 := h.bn
  simp only [cfoot, List.mem_cons, Option.mem_toList] at hm
  rcases hm with rfl | rfl | hm
  · omega
  · omega
  · have := h.pn _ hm
    omega
theorem settled_start {W0 : World} {cb b : Nat} {a rts : List Int} (hRI : RI os rts (a, [])) (hC : CollAt W0 hb cb b (a, []) W) : Settled W0 hb cb b (keepR os rts) os a.length 0 W := by
  obtain ⟨pv, h⟩ := hC
  obtain ⟨D, hD⟩ := h.map
  refine ⟨pv, h.box, ⟨D, hD.congr fun x => ?_⟩, h.row, h.fr, h.cn, h.bn, h.pn⟩
  rw [placeV_zero (fun x hx => (keepR_iff.1 hx).obj)]
  unfold val0
  by_cases hx : x ∈ a
  · rw [if_pos hx, if_pos (keepR_iff.2 ((hRI.done x).1 hx))]
  · rw [if_neg hx, if_neg (fun h => hx ((hRI.done x).2 (keepR_iff.1 h)))]
theorem Settled.places {W0 : World} {cb b : Nat} {keep : Int → Bool} {n k : Nat} (h : Settled W0 hb cb b keep os n k W) : Places cb b (n + k) (placeV keep os k) W := by
  obtain ⟨pv, h⟩ := h
  exact ⟨⟨_, _, h.box⟩, h.map⟩
theorem Settled.after {W0 W' : World} {cb b : Nat} {keep : Int → Bool} {n k : Nat} {S : List Nat} (h : Settled W0 hb cb b keep os n k W) (hF : Fr S W W') (hS : ∀ k ∈ S, k < W0.heap.size) : Places cb b (n + k) (placeV keep os k) W' := by
  obtain ⟨pv, h⟩ := h
  obtain ⟨D, hD⟩ := h.map
  have h1 := h.cn
  have h2 := h.bn
  exact ⟨⟨_, _, hF.heap (fun hm => by have := hS _ hm; omega) h.box⟩, D, hD.fr hF (fun hm => by have := hS _ hm; omega)⟩
theorem words_far {W' : World} {S : List Nat} {ra : Option Addr} {xs : List Int} (h : WordsAt W ra xs) (hF : Fr S W W') (hS : xs ≠ [] → ∀ a, ra = some a → a.block ∉ S) : WordsAt W' ra xs := by
  intro i x hx
  obtain ⟨g, o, rfl, hc⟩ := h i x hx
  exact ⟨g, o, rfl, hF.cell (p := ⟨g, o + i, none⟩) (hS (fun e => by rw [e] at hx; simp at hx) ⟨g, o, none⟩ rfl) hc⟩
theorem load_left {keep : Int → Bool} {ka : Option Addr} {kc : Nat} {its : List It} {r : Int} (hI : OInv lim os hashes) (hg : Glob W) (hH : HeapAt W hb mb (absMem lim os root hashes) wv sv) (hrow : W.ownsRow 0 80 3 (.slice ka its.length kc) its.length (flat3 its)) (hown : ∀ o ∈ its, ItOwn W o)
    (hob : obsOf its = leftObs keep os) (hr : WB r) (hload : loadE lim (leftObs keep os) r hashes = 0) :
    Calls Tryz.prog 8 #[.pointer (some ⟨hb, 0, none⟩), .slice ka its.length kc, .int .u64 r, .int .i64 hashes] W (Turns (.int .i64 0) mb (absMem lim (leftObs keep os) r hashes) (foot mb wv sv) W) := by
  have hsrc : ∀ o ∈ its, ∃ a ∈ os, o.key = moveOb (moveW keep os) a := fun o ho => by
    have h1 : o.key ∈ obsOf its := List.mem_map_of_mem ho
    rw [hob] at h1
    obtain ⟨a, ha, e⟩ := List.mem_map.1 h1
    exact ⟨a, (keepL_sub keep 1 os).subset ha, e.symm⟩
  have hlen : its.length ≤ 65536 := by
    have h1 := congrArg List.length hob
    simp only [obsOf, List.length_map, leftObs] at h1
    have h2 := (keepL_sub keep 1 os).length_le
    have h3 := len_end os
    have h4 := hI.fit
    have h5 := hI.l2
    omega
  have := load_turns (cap := kc) hH hg hI.l1 hI.l2 its ⟨row_rowAt hrow, fun o ho => (hown o ho).inn, by omega, fun o ho => by have := (hown o ho).2; omega, fun o ho => ?_, fun o ho => ?_⟩ r hashes hr (by have := hI.h0; omega) (by have := hI.h1; omega)
  · rw [hob, hload, memLoad_ok hload] at this
    exact this
  · obtain ⟨a, ha, e⟩ := hsrc o ho
    have h1 : o.hash = a.2.1 := congrArg (fun q : Ob => q.2.1) e
    have h2 := hI.each a ha
    have h3 := hI.h1
    rw [h1]
    omega
  · obtain ⟨a, ha, e⟩ := hsrc o ho
    rw [e]
    have h2 := hI.bd a ha
    refine ⟨move_WB h2.1, fun y hy => ?_⟩
    obtain ⟨z, hz, rfl⟩ := List.mem_map.1 hy
    exact move_WB (h2.2 z hz)
set_option maxRecDepth 100000 in
set_option maxHeartbeats 8000000 in
theorem gcRun (hg : Glob W) (hI : OInv lim os hashes) (hwo : wordsOk os root = true) (hs5 : ∀ o ∈ os, o.2.2.length ≤ 512) (hH : HeapAt W hb mb (absMem lim os root hashes) wv sv) (hroot : WB root) {ra : Option Addr} {rc : Nat} (roots : List Int) (hx : WordsAt W ra roots) (hB : ∀ x ∈ roots, WB x)
    (hl : roots.length ≤ 17592186044416) (hall : roots.all (okB (marksOf os)) = true) (hra : roots ≠ [] → ∀ a, ra = some a → a.block ∉ foot mb wv sv) :
    Calls Tryz.prog 7 #[.pointer (some ⟨hb, 0, none⟩), .slice ra roots.length rc] W (Ran hb mb lim os root hashes wv sv roots W) := by
  have he : endOf os ≤ 65536 := by have := hI.fit; have := hI.l2; omega
  have hO : ∀ W', Fr [] W W' → HeapAt W' hb mb (absMem lim os root hashes) wv sv := fun W' hF => hH.fr hF (by simp) (fun _ _ => by simp)
  have hlim : 64 ≤ lim := hI.l1
  have hw : Calls Tryz.prog 25 #[.pointer (some ⟨hb, 0, none⟩)] W (Still (.int .i64 lim) W) := words_still (memory_at hH)
  obtain ⟨keep, hkeep⟩ : ∃ keep, keep = keepR os (root :: roots) := ⟨_, rfl⟩
  obtain ⟨f, hf⟩ : ∃ f, f = moveW keep os := ⟨_, rfl⟩
  obtain ⟨ol, hol⟩ : ∃ ol, ol = leftObs keep os := ⟨_, rfl⟩
  have hclosed : Closed keep os := by rw [hkeep]; exact keepR_closed _ _
  have hkobj : ∀ x, keep x = true → (lookP 1 os x).isSome = true := fun x hx => by rw [hkeep] at hx; exact keepR_obj hx
  have hkroot : (lookP 1 os root).isSome = true → keep root = true := fun h => by rw [hkeep]; exact keepR_iff.2 (.root (by simp) h)
  have hload : loadE lim ol (f root) hashes = 0 := by
    rw [hol, hf]
    exact loadE_ok (size_left hs5) (by have := end_left keep os; have := hI.fit; omega) (hash_left hI.uq) (words_left he hwo hclosed hkroot)
  have hval : ∀ W', Fr [] W W' → Calls Tryz.prog 26 #[.pointer (some ⟨hb, 0, none⟩), .slice ra roots.length rc] W' (Still (.bool true) W') := fun W' hF => by
    have := valid_still (W := W') (rc := rc) (fun W'' hF' => memory_at (hO W'' (hF.trans hF'))) roots (hx.fr0 hF) hB hl
    rw [show (absMem lim os root hashes).M = marksOf os from rfl, hall] at this
    exact this
  have hvals : ∀ x, WB x → (placeV keep os os.length x).getD x = f x ∧ (placeV keep os os.length x).isSome = keep x := fun x _ => by
    refine ⟨by rw [placeV_end hkobj, hf, moveW_val], ?_⟩
    unfold placeV
    cases hk : keep x with
    | false => rfl
    | true =>
      rw [if_pos rfl]
      split
      · obtain ⟨o, ho⟩ := Option.isSome_iff_exists.1 (hkobj x hk)
        obtain ⟨r, hr⟩ := newP_some (q := 1) ho hk
        rw [hr]
        rfl
      · rfl
  have hfw : ∀ x, WB x → WB (f x) := fun x h => by rw [hf]; exact move_WB h
  have hel : endOf ol ≤ endOf os := by rw [hol]; exact end_left keep os
  have hrlt : roots ≠ [] → ∀ a, ra = some a → a.block < W.heap.size := fun hne a ha => by
    obtain ⟨y, hy⟩ : ∃ y, roots[0]? = some y := ⟨_, List.getElem?_eq_getElem (List.length_pos_iff.2 hne)⟩
    obtain ⟨g, o, e, hc⟩ := hx 0 y hy
    rw [ha] at e
    cases e
    exact World.block_lt_of_cell? W _ hc
  have HLOAD := Lib.hid hload
  have HVAL := Lib.hid hval
  have HVS := Lib.hid hvals
  have HFWB := Lib.hid hfw
  have HKO := Lib.hid hkobj
  have HKE := Lib.hid hkeep
  have HFE := Lib.hid hf
  have HOLE := Lib.hid hol
  have HG := Lib.hid hg
  have HI := Lib.hid hI
  have HS5 := Lib.hid hs5
  have HH := Lib.hid hH
  have HOO := Lib.hid hO
  have HX := Lib.hid hx
  have HB := Lib.hid hB
  have HRA := Lib.hid hra
  have HRLT := Lib.hid hrlt
  have HE := Lib.hid he
  have HROOT := Lib.hid hroot
  have HUSED : Hid (∀ W', HeapAt W' hb mb (absMem lim os root hashes) wv sv → Calls Tryz.prog 19 #[.pointer (some ⟨hb, 0, none⟩)] W' (Still (.int .i64 (endOf os)) W')) := Lib.hid fun W' h => by
    have := used_still (memory_at h)
    rw [(absMem_len lim os root hashes).1] at this
    exact this
  obtain ⟨n, hn⟩ : ∃ n, n = roots.length := ⟨_, rfl⟩
  have HN := Lib.hid hn
  have HVAL2 : Hid (∀ W', Fr [] W W' → Calls Tryz.prog 26 #[.pointer (some ⟨hb, 0, none⟩), .slice ra n rc] W' (Still (.bool true) W')) := by rw [HN.out]; exact HVAL
  have hl0 : (lim == 0) = false := by simp; omega
  unfold Ran
  rw [← hkeep, ← hf, ← hol, ← hn]
  rw [← hn] at hl
  obtain ⟨eo, heo⟩ : ∃ eo, eo = endOf os := ⟨_, rfl⟩
  obtain ⟨el, hela⟩ : ∃ el, el = endOf ol := ⟨_, rfl⟩
  rw [← heo] at hel he HUSED
  rw [← hela] at hel
  rw [← heo, ← hela]
  have HEO := Lib.hid heo
  have HEL := Lib.hid hela
  have hmm := @run_makeMap Tryz.prog
  clear hg hI hwo hs5 hH hO hx hB hra hn hall hroot hload hval hvals hfw hkobj hkeep hf hol hclosed hkroot hrlt HVAL heo hela
  go_enter Tryz.func7, Tryz.ntmps7
  go_wp2_with (first
    | (go_at_call 25; refine hw.mono ?_; rintro e w1 ⟨rfl, hF1⟩; have hval1 := HVAL2.out w1 hF1; have HF1 := Lib.hid hF1; clear hF1)
    | (go_at_call 26; refine hval1.mono ?_; rintro e w2 ⟨rfl, hF2⟩; have HF2 : Hid (Fr [] W w2) := HF1.out.trans hF2; have HC2 := Lib.hid (coll_new (hb := hb) HF2.out); have hrt := root_still (memory_at (HOO.out _ HC2.out.fr)); clear hF2)
    | (go_at_call 17; refine hrt.mono ?_; rintro e w4 ⟨rfl, hF4⟩; have HC4 : Hid (CollAt W hb (w2.heap.size + 1) w2.heap.size ([], []) w4) := ⟨_, HC2.out.still hF4⟩; have hr4 := reach_one HE.out HH.out (RW.nil _) HC4.out root HROOT.out; clear hF4 hrt)
    | (go_at_call 27; refine hr4.mono ?_; rintro e w5 ⟨rfl, hC5⟩; have HC5 := Lib.hid hC5; have hr5 : ∃ pv5, Coll W hb (w2.heap.size + 1) w2.heap.size pv5 (val0 (reach1 (marksOf os) ([], []) root).1) (reach1 (marksOf os) ([], []) root).1.length (reach1 (marksOf os) ([], []) root).2 w5 := hC5; obtain ⟨pv5, hC5'⟩ := hr5; have hr6 := reach_at (rc := rc) HH.out hC5' (((RW.nil _).one root).lens HE.out) roots (HX.out.fr0 hC5'.fr) (fun hne a ha => hC5'.far (HRLT.out hne a ha)) HB.out (by rw [← HN.out]; exact hl); rw [← HN.out] at hr6; clear hC5 hC5' hr4)
    | (go_at_call 27; refine hr6.mono ?_; rintro e w6 ⟨rfl, pv6, hC6, -⟩; have hC6' : CollAt W hb (w2.heap.size + 1) w2.heap.size (reachL (marksOf os) ([], []) (root :: roots)) w6 := ⟨pv6, hC6⟩; have hex := examine_at HI.out HH.out (RI.start HE.out (root :: roots)) hC6'; clear hC6 hC6' hr6)
    | (go_at_call 28; refine hex.mono ?_; rintro e w7 ⟨rfl, a, hRI, hC7⟩; have hst7 := settled_start hRI hC7; rw [← HKE.out] at hst7; have hse := settle_at HI.out HH.out (n := a.length) (by have h1 : a.length ≤ os.length := hRI.rw'.len HE.out; have h2 := len_end os; have h3 := HE.out; omega) HKO.out hst7; clear hRI hC7 hst7 hex)
    | (go_at_call 29; refine hse.mono ?_; rintro e w8 ⟨rfl, hS8⟩; have HS8 := Lib.hid hS8; have hus := HUSED.out w8 (HOO.out _ hS8.fr); clear hS8 hse)
    | (go_at_call 19; refine hus.mono ?_; rintro e w9 ⟨rfl, hF9⟩; have hS9 := HS8.out.still hF9; have HS9 := Lib.hid hS9; obtain ⟨pv9, hC9⟩ := hS9; have hkp := kept_at HI.out (HOO.out _ hC9.fr) hC9.box hC9.map HVS.out; have e9 : (keepL keep 1 os).map (moveOb f) = ol := (by rw [HOLE.out, HFE.out]; rfl); rw [e9] at hkp; clear hF9 hC9 hus e9)
    | (go_at_call 30; refine hkp.mono ?_; rintro e w10 ⟨v, its, rfl, hrow, hob, hown, hF10, hnew, hfr⟩; obtain ⟨ka, kc, rfl⟩ := row_shape' hrow; have HROW := Lib.hid hrow; have HOB := Lib.hid hob; have HOWN := Lib.hid hown; have HS10 := Lib.hid (HS9.out.still hF10); have hrt2 := root_still (memory_at (HOO.out _ HS10.out.fr)); clear hrow hob hown hF10 hnew hfr hkp)
    | (go_at_call 17; refine hrt2.mono ?_; rintro e w11 ⟨rfl, hF11⟩; have HS11 := Lib.hid (HS10.out.still hF11); have HF11 := Lib.hid hF11; have hmv := moved_gives HS11.out.places root HROOT.out; rw [(HVS.out root HROOT.out).1] at hmv; have hhs := hashes_still (memory_at (HOO.out _ HS11.out.fr)); clear hF11 hrt2)
    | (go_at_call 31; refine hmv.mono ?_; rintro e w' ⟨rfl, rfl⟩)
    | (go_at_call 18; refine hhs.mono ?_; rintro e w12 ⟨rfl, hF12⟩; have HS12 := Lib.hid (HS11.out.still hF12); have hF102 := HF11.out.trans hF12; have hld := load_left (kc := kc) HI.out (HG.out.fr HS12.out.fr) (HOO.out _ HS12.out.fr) (hF102.row HROW.out (fun _ _ => by simp)) (fun o ho => ⟨hF102.row (HOWN.out o ho).1 (fun _ _ => by simp), (HOWN.out o ho).2⟩) (HOB.out.trans HOLE.out) (HFWB.out _ HROOT.out) (by rw [← HOLE.out]; exact HLOAD.out); rw [← HOLE.out] at hld; clear hF12 hF102 hhs hmv)
    | (go_at_call 8; refine hld.mono ?_; rintro e w13 ⟨rfl, wv', sv', hM13, hF13, hft⟩; have HF13 := Lib.hid hF13; have HFT := Lib.hid hft; have HH13 : Hid (HeapAt w13 hb mb (absMem lim ol (f root) hashes) wv' sv') := ⟨hF13.heap HH.out.apart ((HOO.out _ HS12.out.fr).heap), hM13⟩; have hma := movedAll_at (rc := rc) (HS12.out.after hF13 (fun k hk => HH.out.mem.lt k hk)) f (fun y hy => (HVS.out y hy).1) roots (words_far (HX.out.fr0 HS12.out.fr) hF13 HRA.out) HB.out (by rw [← HN.out]; exact hl); rw [← HN.out] at hma; clear hM13 hF13 hft hld)
    | (go_at_call 32; refine hma.mono ?_; rintro e w14 ⟨v14, rfl, hrow14, hF14, hnew14⟩; obtain ⟨va, vc, rfl⟩ := row_shape hrow14; have HR14 := Lib.hid hrow14; have HN14 := Lib.hid hnew14; have HF14 := Lib.hid hF14; have hus2 := used_still (memory_at (HH13.out.fr hF14 (by simp) (fun _ _ => by simp))); rw [(absMem_len lim ol (f root) hashes).1, ← HEL.out] at hus2; clear hrow14 hF14 hnew14 hma)
    | (go_at_call 19; refine hus2.mono ?_; rintro e w15 ⟨rfl, hF15⟩; have HF15 := Lib.hid hF15; clear hF15))
  go_ret3
  have h12 := HS12.out.fr.size
  have h13 := HF13.out.size
  refine ⟨_, rfl, HF15.out.row HR14.out (fun _ _ => by simp), fun q hq => by have := HN14.out q hq; omega, wv', sv', HH13.out.fr (HF14.out.trans HF15.out) (by simp) (fun _ _ => by simp), (HS12.out.fr.cons HF13.out).trans (HF14.out.trans HF15.out).weak, fun k hk => (HFT.out k hk).imp id (fun h => by omega), fun q hq hk => by have h1 := HN14.out q hq; have h2 := HH13.out.mem.lt q hk; omega⟩
end
end Go.Proofs.YtjjkbdkalnhcbaaGreatDoor
namespace Go.Proofs.YtjjkbdkalnhcbaaGreatDoor
open Go.RowKit

section
variable {W : World} {hb mb : Nat} {lim root hashes : Int} {os : List Ob} {wv sv : Value}
/-- a run with a root that may not be -/
theorem gcRun_no (hI : OInv lim os hashes) (hH : HeapAt W hb mb (absMem lim os root hashes) wv sv) {ra : Option Addr} {rc : Nat} (roots : List Int) (hx : WordsAt W ra roots) (hB : ∀ x ∈ roots, WB x) (hl : roots.length ≤ 17592186044416) (hall : roots.all (okB (marksOf os)) = false) :
    Calls Tryz.prog 7 #[.pointer (some ⟨hb, 0, none⟩), .slice ra roots.length rc] W (Still (.tuple #[.slice none 0 0, .int .i64 0, .int .i64 1]) W) := by
  have hO : ∀ W', Fr [] W W' → HeapAt W' hb mb (absMem lim os root hashes) wv sv := fun W' hF => hH.fr hF (by simp) (fun _ _ => by simp)
  have hlim : 64 ≤ lim := hI.l1
  have hw : Calls Tryz.prog 25 #[.pointer (some ⟨hb, 0, none⟩)] W (Still (.int .i64 lim) W) := words_still (memory_at hH)
  have hval : ∀ W', Fr [] W W' → Calls Tryz.prog 26 #[.pointer (some ⟨hb, 0, none⟩), .slice ra roots.length rc] W' (Still (.bool false) W') := fun W' hF => by
    have := valid_still (W := W') (rc := rc) (fun W'' hF' => memory_at (hO W'' (hF.trans hF'))) roots (hx.fr0 hF) hB hl
    rw [show (absMem lim os root hashes).M = marksOf os from rfl, hall] at this
    exact this
  have HVAL := Lib.hid hval
  have hl0 : (lim == 0) = false := by simp; omega
  clear hI hH hO hx hB hall hval
  generalize roots.length = n at *
  go_enter Tryz.func7, Tryz.ntmps7
  go_wp2_with (first
    | (go_at_call 25; refine hw.mono ?_; rintro e w1 ⟨rfl, hF1⟩; have hval1 := HVAL.out w1 hF1; have HF1 := Lib.hid hF1; clear hF1)
    | (go_at_call 26; refine hval1.mono ?_; rintro e w2 ⟨rfl, hF2⟩; have HF2 : Hid (Fr [] W w2) := HF1.out.trans hF2; clear hF2))
  go_ret3
  exact ⟨rfl, HF2.out⟩
end
theorem live_mk {w W W' : World} {hb mb : Nat} {m' : Mem} {wv sv wv' sv' : Value} (hF0 : Fr [] w W) (h1 : w.heap.size ≤ hb) (h2 : ∀ k ∈ foot mb wv sv, w.heap.size ≤ k) (hH' : HeapAt W' hb mb m' wv' sv') (hF : Fr (foot mb wv sv) W W') (h3 : ∀ k ∈ foot mb wv' sv', k ∈ foot mb wv sv ∨ W.heap.size ≤ k) : Live w hb mb m' W' :=
  ⟨wv', sv', hH', hF0.join hF h2, h1, fun k hk => (h3 k hk).elim (h2 k) (fun h => Nat.le_trans hF0.size h)⟩
def ga : List Ob := [(0, 0, []), (0, 0, []), (2, 0, [])]
theorem ga_reach {x : Int} (h : Rch ga [14, 14, 7] x) : x = 2 ∨ x = 14 := by
  induction h with
  | root h1 h2 =>
    simp only [List.mem_cons, List.not_mem_nil, or_false] at h1
    rcases h1 with rfl | rfl | rfl
    · exact .inr rfl
    · exact .inr rfl
    · revert h2; decide
  | step h1 h2 h3 h4 ih =>
    rcases ih with rfl | rfl
    · have e : lookP 1 ga 2 = some (0, 0, []) := by decide
      rw [e] at h2
      cases h2
      simp only [List.not_mem_nil, or_false] at h3
      subst h3
      revert h4; decide
    · have e : lookP 1 ga 14 = some (2, 0, []) := by decide
      rw [e] at h2
      cases h2
      simp only [List.not_mem_nil, or_false] at h3
      exact .inl h3
theorem ga_keep : keepR ga [14, 14, 7] 2 = true ∧ keepR ga [14, 14, 7] 8 = false ∧ keepR ga [14, 14, 7] 14 = true := by
  have r14 : Rch ga [14, 14, 7] 14 := .root (by simp) (by decide)
  have r2 : Rch ga [14, 14, 7] 2 := .step r14 (o := (2, 0, [])) (by decide) (.inl rfl) (by decide)
  refine ⟨keepR_iff.2 r2, ?_, keepR_iff.2 r14⟩
  cases h : keepR ga [14, 14, 7] 8 with
  | false => rfl
  | true => have := ga_reach (keepR_iff.1 h); omega
theorem ga_moves' {keep : Int → Bool} (h1 : keep 2 = true) (h2 : keep 8 = false) (h3 : keep 14 = true) : moveW keep ga 14 = 8 ∧ moveW keep ga 7 = 7 ∧ moveW keep ga 2 = 2 ∧ leftObs keep ga = [(0, 0, []), (2, 0, [])] := by
  have m2 : moveW keep ga 2 = 2 := by simp [moveW, newP, ga, h1]
  have m0 : moveW keep ga 0 = 0 := move_word (by decide)
  refine ⟨?_, ?_, m2, ?_⟩
  · simp [moveW, newP, ga, h1, h2, h3]
  · simp [moveW, newP, ga]
  · have e : keepL keep 1 ga = [(0, 0, []), (2, 0, [])] := by simp [keepL, ga, h1, h2, h3]
    unfold leftObs
    rw [e]
    simp [moveOb, m0, m2]
theorem ga_moves : moveW (keepR ga [14, 14, 7]) ga 14 = 8 ∧ moveW (keepR ga [14, 14, 7]) ga 7 = 7 ∧ moveW (keepR ga [14, 14, 7]) ga 2 = 2 ∧ leftObs (keepR ga [14, 14, 7]) ga = [(0, 0, []), (2, 0, [])] :=
  ga_moves' ga_keep.1 ga_keep.2.1 ga_keep.2.2
theorem ga_inv : OInv 64 ga 0 := ⟨by decide, by decide, by decide, by decide, by decide, by decide, fun o ho => by
  simp only [ga, List.mem_cons, List.not_mem_nil, or_false] at ho
  rcases ho with rfl | rfl | rfl <;> exact ⟨⟨by decide, by decide⟩, by simp⟩, ⟨by decide, by decide, fun i x hx => by
  have hx0 : x = 0 := by
    have := List.mem_of_getElem? hx
    simp [ga] at this
    exact this
  subst hx0
  exact ⟨by decide, by decide, fun k _ hp => by omega⟩⟩⟩
theorem ga_ok : wordsOk ga 14 = true := by decide
theorem gl_inv : OInv 64 [(0, 0, []), (2, 0, [])] 0 := ⟨by decide, by decide, by decide, by decide, by decide, by decide, fun o ho => by
  simp only [List.mem_cons, List.not_mem_nil, or_false] at ho
  rcases ho with rfl | rfl <;> exact ⟨⟨by decide, by decide⟩, by simp⟩, ⟨by decide, by decide, fun i x hx => by
  have hx0 : x = 0 := by
    have := List.mem_of_getElem? hx
    simp at this
    exact this
  subst hx0
  exact ⟨by decide, by decide, fun k _ hp => by omega⟩⟩⟩
set_option maxRecDepth 100000 in
set_option maxHeartbeats 4000000 in
theorem awake3 (w : World) (hg : Glob w) : Calls Tryz.prog 4 #[] w (Still (.bool true) w) := by
  have cNew := live_new 64 w (by omega) (by omega)
  have cA1 : Hid (∀ hb mb w', Live w hb mb (Mem.fresh 64) w' → Calls Tryz.prog 21 #[.pointer (some ⟨hb, 0, none⟩), .int .u64 0, .int .i64 0, .int .u64 0] w' (LStill (.tuple #[.int .u64 2, .int .i64 0]) w hb mb (absMem 64 [(0, 0, [])] 0 0))) := fun _ _ _ h =>
    live_alloc_ok h 0 0 0 (by decide) (by decide) (by decide) (by decide) (by decide) (by decide) (by decide) (by decide) (by decide) (by decide) (by decide) (by decide)
  have cA2 : Hid (∀ hb mb w', Live w hb mb (absMem 64 [(0, 0, [])] 0 0) w' → Calls Tryz.prog 21 #[.pointer (some ⟨hb, 0, none⟩), .int .u64 0, .int .i64 0, .int .u64 0] w' (LStill (.tuple #[.int .u64 8, .int .i64 0]) w hb mb (absMem 64 [(0, 0, []), (0, 0, [])] 0 0))) := fun _ _ _ h =>
    live_alloc_ok h 0 0 0 (by decide) (by decide) (by decide) (by decide) (by decide) (by decide) (by decide) (by decide) (by decide) (by decide) (by decide) (by decide)
  have cA3 : Hid (∀ hb mb w', Live w hb mb (absMem 64 [(0, 0, []), (0, 0, [])] 0 0) w' → Calls Tryz.prog 21 #[.pointer (some ⟨hb, 0, none⟩), .int .u64 2, .int .i64 0, .int .u64 0] w' (LStill (.tuple #[.int .u64 14, .int .i64 0]) w hb mb (absMem 64 ga 0 0))) := fun _ _ _ h =>
    live_alloc_ok h 2 0 0 (by decide) (by decide) (by decide) (by decide) (by decide) (by decide) (by decide) (by decide) (by decide) (by decide) (by decide) (by decide)
  have cS : Hid (∀ hb mb w', Live w hb mb (absMem 64 ga 0 0) w' → Calls Tryz.prog 22 #[.pointer (some ⟨hb, 0, none⟩), .int .u64 14] w' (LStill (.int .i64 0) w hb mb (absMem 64 ga 14 0))) := fun _ _ _ h =>
    live_of_turns h fun _ _ hO => setRoot_ok hO 7 (by decide) (by decide) (by decide)
  go_enter Tryz.func4, Tryz.ntmps4
  go_wp2_with fail
  refine cNew.mono ?_
  rintro e w1 ⟨hb, mb, rfl, hL⟩
  have c1 := cA1.out hb mb w1 hL
  clear hL cNew
  go_wp2_with fail
  refine c1.mono ?_
  rintro e w2 ⟨rfl, hL⟩
  have c2 := cA2.out hb mb w2 hL
  clear hL c1
  go_wp2_with fail
  refine c2.mono ?_
  rintro e w3 ⟨rfl, hL⟩
  have c3 := cA3.out hb mb w3 hL
  clear hL c2
  go_wp2_with fail
  refine c3.mono ?_
  rintro e w4 ⟨rfl, hL⟩
  have c4 := cS.out hb mb w4 hL
  clear hL c3
  go_wp2_with fail
  refine c4.mono ?_
  rintro e w5 ⟨rfl, hL⟩
  obtain ⟨wv, sv, hH, hF0, h1, h2⟩ := hL
  have hFa : Fr [] w5 (w5.alloc (.cells #[.int .u64 14, .int .u64 7] 24)) := (Fr.refl _ _).alloc _
  have hrun := gcRun (W := w5.alloc (.cells #[.int .u64 14, .int .u64 7] 24)) (rc := 2) ((hg.fr hF0).fr hFa) ga_inv ga_ok (by decide) (hH.fr hFa (by simp) (fun _ _ => by simp)) ⟨by decide, by decide⟩ [14, 7] (ra := some ⟨w5.heap.size, 0, none⟩)
    (fun i x hx => ⟨w5.heap.size, 0, rfl, by rw [Nat.zero_add, World.cell?_alloc_new]; match i, hx with | 0, hx => (cases hx; rfl) | 1, hx => (cases hx; rfl)⟩) (by intro x hx; simp only [List.mem_cons, List.not_mem_nil, or_false] at hx; rcases hx with rfl | rfl <;> exact ⟨by decide, by decide⟩) (by decide) (by decide) (fun _ a ha hk => by cases ha; have := hH.mem.lt _ hk; simp at this)
  unfold Ran at hrun
  rw [ga_moves.2.2.2] at hrun
  simp only [List.map_cons, List.map_nil, ga_moves.1, ga_moves.2.1] at hrun
  have e3 : ((endOf ga : Int) - (endOf [((0 : Int), (0 : Int), ([] : List Int)), (2, 0, [])] : Int)) = 3 := by decide
  rw [e3] at hrun
  have HH := Lib.hid hH
  have HF0 := Lib.hid hF0
  have HFA := Lib.hid hFa
  have H2 := Lib.hid h2
  clear c4 hH hF0 h1 h2 hFa e3
  go_wp2_with fail
  refine hrun.mono ?_
  rintro e w6 ⟨v, rfl, hrow, -, wv', sv', hH6, hF6, -⟩
  obtain ⟨g, cap, rfl, d0, -, -⟩ := row_at hrow (i := 0) (by decide)
  obtain ⟨g', cap', hv', d1, -, -⟩ := row_at hrow (i := 1) (by decide)
  cases hv'
  simp only [List.getElem?_cons_zero, List.getElem?_cons_succ] at d0 d1
  have hroot := root_still (memory_at hH6)
  have HE6 : Hid (Fr [] w w6) := (HF0.out.trans HFA.out).join hF6 H2.out
  have HH6 := Lib.hid hH6
  have hob := fun w7 (hF : Fr [] w6 w7) => objects_of gl_inv (HH6.out.fr hF (by simp) (fun _ _ => by simp))
  have HOB := Lib.hid hob
  clear hrun hrow hH6 hF6 hob
  simp only [List.length_cons, List.length_nil, Nat.reduceAdd]
  go_wp2_with (first
    | (go_at_call 17; refine hroot.mono ?_; rintro e w7 ⟨rfl, hF7⟩; have hob7 := HOB.out w7 hF7; have HE7 := Lib.hid (HE6.out.trans hF7); clear hF7)
    | (go_at_call 23; refine hob7.mono ?_; rintro e w8 ⟨oa, oc, rfl, -, hF8, -⟩; have HE8 := Lib.hid (HE7.out.trans hF8); clear hF8))
  go_ret
  exact ⟨rfl, HE8.out⟩
theorem load3 {w W : World} {hb mb : Nat} (hg : Glob w) (hL : Live w hb mb (Mem.fresh 4096) W) {ao ka : Option Addr} {kc : Nat} {its : List (It × Int)} (hG : G4 W ao its) (hB : B4 its) (hrow : W.ownsRow 0 80 3 (.slice ka its.length kc) its.length (flat3 (its.map Prod.fst))) (root n : Int) (hr : WB root) (n1 : -9223372036854775808 ≤ n) (n2 : n ≤ 9223372036854775807) :
    Calls Tryz.prog 8 #[.pointer (some ⟨hb, 0, none⟩), .slice ka its.length kc, .int .u64 root, .int .i64 n] W fun e W' => e = .returned (.int .i64 (loadE 4096 (obsOf (its.map Prod.fst)) root n)) ∧ Fr [] w W' ∧ (loadE 4096 (obsOf (its.map Prod.fst)) root n = 0 → Live w hb mb (absMem 4096 (obsOf (its.map Prod.fst)) root n) W') := by
  obtain ⟨wv, sv, hH, hF0, h1, h2⟩ := hL
  have hm : ∀ o ∈ its.map Prod.fst, ∃ p ∈ its, p.1 = o := fun o ho => by obtain ⟨p, hp, e⟩ := List.mem_map.1 ho; exact ⟨p, hp, e⟩
  have hl : (its.map Prod.fst).length = its.length := by simp
  have := load_turns (os0 := []) (r0 := 0) (h0 := 0) (ao := ka) (cap := kc) hH (hg.fr hF0) (lim := 4096) (by decide) (by decide) (its.map Prod.fst) ⟨row_rowAt hrow, fun o ho => by obtain ⟨p, hp, rfl⟩ := hm o ho; exact hG.inn p hp, by rw [hl]; exact hB.len, fun o ho => by obtain ⟨p, hp, rfl⟩ := hm o ho; exact hB.sizes p hp, fun o ho => by obtain ⟨p, hp, rfl⟩ := hm o ho; exact hB.hash p hp, fun o ho => by obtain ⟨p, hp, rfl⟩ := hm o ho; exact hB.words p hp⟩ root n hr n1 n2
  rw [hl] at this
  refine this.mono ?_
  rintro e W' ⟨rfl, wv', sv', hM, hF, hft⟩
  refine ⟨rfl, hF0.join hF h2, fun h0 => ?_⟩
  rw [memLoad_ok h0] at hM
  exact live_mk hF0 h1 h2 ⟨hF.heap hH.apart hH.heap, hM⟩ hF hft
/-- a heap of 4096 words with the objects that came in, or that they may not be -/
def LoadedTo (its : List (It × Int)) (root n : Int) (w : World) (e : Ending) (w' : World) : Prop :=
  ∃ hb mb, (loadE 4096 (obsOf (its.map Prod.fst)) root n = 0 ∧ e = .returned (.tuple #[.pointer (some ⟨hb, 0, none⟩), .bool true]) ∧ Live w hb mb (absMem 4096 (obsOf (its.map Prod.fst)) root n) w') ∨
    (e = .returned (.tuple #[.pointer (some ⟨hb, 0, none⟩), .bool false]) ∧ Fr [] w w')
end Go.Proofs.YtjjkbdkalnhcbaaGreatDoor
