/- Both runs of gc, one after the other, on both heaps. -/
import Derived.Test.YtjjkbdkalnhcbaaGreatDoorMGcRefB
import Derived.Test.YtjjkbdkalnhcbaaGreatDoorMGcTwiceWalk
namespace Go.Proofs.YtjjkbdkalnhcbaaGreatDoor
open Go.RowKit

/-- what a run comes to: the words, how many are free by it, the error; the objects and the root then -/
def RunTo (os : List Ob) (root : Int) (xs ys : List Int) (d g : Int) (os' : List Ob) (root' : Int) : Prop :=
  (xs.all (okB (marksOf os)) = false ∧ ys = [] ∧ d = 0 ∧ g = 1 ∧ os' = os ∧ root' = root) ∨
  (xs.all (okB (marksOf os)) = true ∧ ys = xs.map (moveW (keepR os (root :: xs)) os) ∧ d = (endOf os : Int) - (endOf (leftObs (keepR os (root :: xs)) os) : Int) ∧ g = 0 ∧ os' = leftObs (keepR os (root :: xs)) os ∧ root' = moveW (keepR os (root :: xs)) os root)
theorem RunTo.ex (os : List Ob) (root : Int) (xs : List Int) : ∃ ys d g os' root', RunTo os root xs ys d g os' root' := by
  cases h : xs.all (okB (marksOf os))
  · exact ⟨_, _, _, _, _, .inl ⟨h, rfl, rfl, rfl, rfl, rfl⟩⟩
  · exact ⟨_, _, _, _, _, .inr ⟨h, rfl, rfl, rfl, rfl, rfl⟩⟩
theorem RunTo.len {os os' : List Ob} {root root' d g : Int} {xs ys : List Int} (h : RunTo os root xs ys d g os' root') : ys.length ≤ xs.length := by
  rcases h with ⟨-, rfl, -⟩ | ⟨-, rfl, -⟩
  · simp
  · simp
theorem RunTo.inv {os os' : List Ob} {root root' d g lim hashes : Int} {xs ys : List Int} (h : RunTo os root xs ys d g os' root') (hI : OInv lim os hashes) (hwo : wordsOk os root = true) (hs5 : ∀ o ∈ os, o.2.2.length ≤ 512) : OInv lim os' hashes := by
  rcases h with ⟨-, -, -, -, rfl, -⟩ | ⟨-, -, -, -, rfl, -⟩
  · exact hI
  · exact (left_inv hI hwo hs5).1
set_option maxRecDepth 100000 in
set_option maxHeartbeats 4000000 in
theorem run3_no {w : World} {rb : Nat} {r : RH} {lv : Value} (h : RefAt w rb r lv) {ra : Option Addr} {rc : Nat} (roots : List Int) (hx : WordsAt w ra roots) (hB : ∀ x ∈ roots, WB x) (hl : roots.length ≤ 17592186044416) (hall : roots.all (mayR r.l) = false) :
    Calls Tryz.prog 11 #[.pointer (some ⟨rb, 0, none⟩), .slice ra roots.length rc] w (Still (.tuple #[.slice none 0 0, .int .i64 0, .int .i64 1]) w) := by
  have HX := Lib.hid hx
  have HB := Lib.hid hB
  have HAL := Lib.hid hall
  have HMY : Hid (∀ W x, Fr [] w W → WB x → Calls Tryz.prog 39 #[.pointer (some ⟨rb, 0, none⟩), .int .u64 x] W (Gives (.bool (mayR r.l x)) W)) := Lib.hid fun W x hF hx => rmay (h.fr hF (fun _ _ => by simp)) x hx.1 hx.2
  obtain ⟨R, hRR⟩ : ∃ R, R = roots.length := ⟨_, rfl⟩
  have HR := Lib.hid hRR
  rw [← hRR] at hl ⊢
  clear h hx hB hall hRR
  go_enter Tryz.func11, Tryz.ntmps11
  go_wp2_with fail
  go_loopw [7] (fun iv wr => ∃ k : Nat, k ≤ R ∧ iv = .int .i64 k ∧ Hid (∀ x ∈ roots.take k, mayR r.l x = true) ∧ Hid (Fr [] w wr)) (fun iv _ => R - (intOf iv).toNat)
  case atStart => exact ⟨0, Nat.zero_le _, rfl, Lib.hid (by simp), Fr.refl _ _⟩
  case round =>
    obtain ⟨k, hk, rfl, hM, hF⟩ := hrel
    by_cases hlt : k < R
    · obtain ⟨x, hx⟩ : ∃ x, roots[k]? = some x := ⟨_, List.getElem?_eq_getElem (by rw [← HR.out]; exact hlt)⟩
      obtain ⟨g, o, rfl, hc⟩ := HX.out k x hx
      have hc' := hF.out.cell (by simp) hc
      have k0 : (0 : Int) ≤ (k : Int) := by omega
      have k1 : (k : Int) < (R : Int) := by omega
      have hmy := HMY.out wr x hF.out (HB.out x (List.mem_of_getElem? hx))
      have HXK := Lib.hid hx
      clear hc hx
      cases hm : mayR r.l x
      · rw [hm] at hmy
        clear hm
        go_wp2_with (go_at_call 39; refine hmy.mono ?_; rintro e w' ⟨rfl, rfl⟩)
        go_ret3
        exact ⟨rfl, hF.out⟩
      · rw [hm] at hmy
        have HM1 : Hid (∀ y ∈ roots.take (k + 1), mayR r.l y = true) := Lib.hid (fun y hy => by
          rw [List.take_add_one, HXK.out] at hy
          rcases List.mem_append.1 hy with hy | hy
          · exact hM.out y hy
          · simp at hy
            rw [hy]
            exact hm)
        clear hm
        go_wp2_with (go_at_call 39; refine hmy.mono ?_; rintro e w' ⟨rfl, rfl⟩)
        go_roundw
        case rel => exact ⟨k + 1, by omega, by go_num, HM1, hF⟩
        case measure => simp [intOf]; omega
    · exfalso
      have h1 : roots.take k = roots := List.take_of_length_le (by rw [← HR.out]; omega)
      have h2 := hM.out
      rw [h1] at h2
      have h3 : roots.all (mayR r.l) = true := List.all_eq_true.2 h2
      rw [HAL.out] at h3
      cases h3
section
variable {w0 W : World} {hb mb rb : Nat} {lim root hs : Int} {os : List Ob} {l : List RO}
theorem two_gcrun (hg : Glob w0) (hI : OInv lim os hs) (hwo : wordsOk os root = true) (hs5 : ∀ o ∈ os, o.2.2.length ≤ 512) (hroot : WB root) (hT : Two w0 [] hb mb rb (absMem lim os root hs) ⟨lim, l, root, hs⟩ W) {ra : Option Addr} {rc : Nat} (xs : List Int) (hx : WordsAt W ra xs) (hB : ∀ x ∈ xs, WB x) (hl : xs.length ≤ 17592186044416) (hxn : xs ≠ [] → ∀ a, ra = some a → a.block < w0.heap.size) {ys : List Int} {d g root' : Int} {os' : List Ob} (hR : RunTo os root xs ys d g os' root') :
    Calls Tryz.prog 7 #[.pointer (some ⟨hb, 0, none⟩), .slice ra xs.length rc] W fun e W' => ∃ va vc, e = .returned (.tuple #[.slice va ys.length vc, .int .i64 d, .int .i64 g]) ∧ WordsAt W' va ys ∧ (∀ a, va = some a → a.block ≠ rb) ∧ Two w0 [] hb mb rb (absMem lim os' root' hs) ⟨lim, l, root, hs⟩ W' := by
  obtain ⟨wv, sv, lv, hX, hH, hRf, hF0, h1, h2, h3, h4, h5⟩ := hT
  rcases hR with ⟨hall, rfl, rfl, rfl, rfl, rfl⟩ | ⟨hall, rfl, rfl, rfl, rfl, rfl⟩
  · refine (gcRun_no hI hH xs hx hB hl hall).mono ?_
    rintro e W' ⟨rfl, hF⟩
    exact ⟨none, 0, rfl, (fun i x hi => by simp at hi), (fun a ha => by cases ha), wv, sv, lv, (fun p hp => by cases hp), hH.fr hF (by simp) (fun _ _ => by simp), hRf.fr hF (fun _ _ => by simp), hF0.trans hF, h1, h2, h3, h4, h5⟩
  · have hrun := gcRun (rc := rc) (hg.fr hF0) hI hwo hs5 hH hroot xs hx hB hl hall (fun hne a ha hk => by have := hxn hne a ha; have := h2 _ hk; omega)
    unfold Ran at hrun
    refine hrun.mono ?_
    rintro e W' ⟨v, rfl, hrow, hvn, wv', sv', hH', hF, hft, hvf⟩
    obtain ⟨va, vc, rfl, hV⟩ := move_words hrow
    have hrb : rb < W.heap.size := lt_of_heap hRf.heap
    refine ⟨va, vc, by simp, hV, (fun a ha e => ?_), wv', sv', lv, (fun p hp => by cases hp), hH', hRf.fr hF h5, hF0.join hF h2, h1, fun k hk => ?_, h3, h4, fun k hk hk' => ?_⟩
    · have := hvn a.block (by rw [ha]; rfl)
      omega
    · rcases hft k hk with h | h
      · exact h2 k h
      · exact Nat.le_trans hF0.size h
    · rcases hft k hk' with h | h
      · exact h5 k hk h
      · have := hRf.lt k hk; omega
theorem two_run3 (hI : OInv lim os hs) (ha : RAgree 1 l os) (hroot : WB root) {os' : List Ob} {root' : Int} (hT : Two w0 [] hb mb rb (absMem lim os' root' hs) ⟨lim, l, root, hs⟩ W) {ra : Option Addr} {rc : Nat} (xs : List Int) (hx : WordsAt W ra xs) (hB : ∀ x ∈ xs, WB x) (hl : xs.length ≤ 17592186044416) {ys : List Int} {d g : Int} (hR : RunTo os root xs ys d g os' root') :
    Calls Tryz.prog 11 #[.pointer (some ⟨rb, 0, none⟩), .slice ra xs.length rc] W fun e W' => ∃ va vc, e = .returned (.tuple #[.slice va ys.length vc, .int .i64 d, .int .i64 g]) ∧ WordsAt W' va ys ∧ Fr [rb] W W' ∧ ∃ l', RAgree 1 l' os' ∧ Two w0 [] hb mb rb (absMem lim os' root' hs) ⟨lim, l', root', hs⟩ W' := by
  obtain ⟨wv, sv, lv, hX, hH, hRf, hF0, h1, h2, h3, h4, h5⟩ := hT
  have he : endOf os ≤ 65536 := by have := hI.fit; have := hI.l2; omega
  have hrf : rb ∈ rfoot rb ⟨lim, l, root, hs⟩ lv := by simp [rfoot]
  have hrbs : ∀ W', Fr [rb] W W' → HeapAt W' hb mb (absMem lim os' root' hs) wv sv := fun W' hF => hH.fr hF (by simp; exact fun e => h4 (e ▸ hrf)) (fun k hk => by simp; exact fun e => h5 _ hrf (e ▸ hk))
  have hmay : ∀ x, mayR l x = okB (marksOf os) x := fun x => agree_may ha lim root hs x
  have hjoin : ∀ W', Fr [rb] W W' → Fr [] w0 W' := fun W' hF => hF0.join hF (fun k hk => by simp at hk; rw [hk]; exact h3 _ hrf)
  rcases hR with ⟨hall, rfl, rfl, rfl, rfl, rfl⟩ | ⟨hall, rfl, rfl, rfl, rfl, rfl⟩
  · refine (run3_no hRf xs hx hB hl (by show xs.all (mayR l) = false; rw [← hall]; congr 1; funext x; exact hmay x)).mono ?_
    rintro e W' ⟨rfl, hF⟩
    exact ⟨none, 0, rfl, (fun i x hi => by simp at hi), hF.trans' (Fr.refl _ _) (fun _ _ h => by cases h) (fun _ _ h => h), l, ha, wv, sv, lv, (fun p hp => by cases hp), hH.fr hF (by simp) (fun _ _ => by simp), hRf.fr hF (fun _ _ => by simp), hF0.trans hF, h1, h2, h3, h4, h5⟩
  · have hrun := run3_at (rc := rc) hRf ha hroot hI.bd xs hx hB hl he (fun x hx => by show mayR l x = true; rw [hmay]; exact List.all_eq_true.1 hall x hx)
    unfold Ran3 at hrun
    refine hrun.mono ?_
    rintro e W' ⟨va, vc, ls, v, rfl, hrow, hRf', hA', hft, hF⟩
    obtain ⟨va', vc', e2, hV⟩ := move_words hrow
    cases e2
    refine ⟨va, vc, by simp, hV, hF, ls, hA', wv, sv, v, (fun p hp => by cases hp), hrbs W' hF, hRf', hjoin W' hF, h1, h2, fun k hk => ?_, fun hk => ?_, fun k hk hk' => ?_⟩
    · rcases hft k hk with rfl | h
      · exact h3 _ hrf
      · exact Nat.le_trans hF0.size h
    · rcases hft hb hk with h | h
      · exact h4 (h ▸ hrf)
      · have := lt_of_heap hH.heap; omega
    · rcases hft k hk with rfl | h
      · exact h5 _ hrf hk'
      · have := hH.mem.lt _ hk'; omega
end
end Go.Proofs.YtjjkbdkalnhcbaaGreatDoor
