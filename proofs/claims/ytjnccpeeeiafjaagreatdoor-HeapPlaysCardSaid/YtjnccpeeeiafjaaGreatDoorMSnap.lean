/- A heap's objects, dumped and turned into the document's; Alloc, whatever comes of it. -/
import Derived.Test.YtjnccpeeeiafjaaGreatDoorMHash3
import Derived.Test.YtjnccpeeeiafjaaGreatDoorMDump
namespace Go.Proofs.YtjnccpeeeiafjaaGreatDoor
open Go.RowKit

theorem snap_at {W : World} {hb mb : Nat} {lim root hashes : Int} {os : List Ob} {wv sv : Value} (hI : OInv lim os hashes) (hH : HeapAt W hb mb (absMem lim os root hashes) wv sv) :
    Calls Tryz.prog 16 #[.pointer (some ⟨hb, 0, none⟩)] W fun e W1 => ∃ va vc its, e = .returned (.slice va its.length vc) ∧ RowAt W1 va (flat3 its) ∧ obsOf its = os ∧ (∀ o ∈ its, ItOwn W1 o) ∧ Fr [] W W1 ∧ ∀ o ∈ its, ∀ b, o.fv.ownBlock = some b → W.heap.size ≤ b := by
  refine (dump_lists (memory_at hH) (by have := hI.fit; have := hI.l2; omega) (fun o ho => by have := hI.each o ho; have := hI.h1; omega)).mono ?_
  rintro e W1 ⟨v, its, rfl, hr, ho, hown, hF, -, hfr⟩
  obtain ⟨va, vc, rfl⟩ := row_shape' hr
  exact ⟨va, vc, its, rfl, row_rowAt hr, ho, hown, hF, hfr⟩
theorem noPlace_len (its : List It) : (noPlace its).length = its.length := by simp [noPlace]
theorem noPlace_keys (its : List It) : (noPlace its).map (fun o => o.1.key) = obsOf its := by simp [noPlace, obsOf]
theorem own_block {W : World} {o : It} (h : ItOwn W o) {fa : Addr} {n fc : Nat} (hv : o.fv = .slice (some fa) n fc) : o.fv.ownBlock = some fa.block := by
  rcases h.1.2 with ⟨h0, -⟩ | ⟨g, cap, cur, h0, -⟩
  · rw [hv] at h0; cases h0
  · rw [hv] at h0
    cases h0
    rw [hv]
    rfl
theorem theirs_at {W : World} {va : Option Addr} {vc : Nat} {its : List It} (hr : RowAt W va (flat3 its)) (hown : ∀ o ∈ its, ItOwn W o) (hlen : its.length ≤ 65536) :
    Calls Tryz.prog 21 #[.slice va its.length vc] W fun e W2 => ∃ ba bc, e = .returned (.slice ba its.length bc) ∧ its.length ≤ bc ∧ G4 W2 ba (noPlace its) ∧ Fr [] W W2 ∧ ∀ a, ba = some a → W.heap.size ≤ a.block := by
  refine (theirs its hr (fun o ho => by obtain ⟨fa, fc, h⟩ := row_shape (hown o ho).1; exact ⟨fa, _, fc, h⟩) (by omega)).mono ?_
  rintro e W2 ⟨v, rfl, hr2, hF, hn⟩
  obtain ⟨ba, bc, rfl⟩ := row_shape' hr2
  have own2 : ∀ o ∈ its, ItOwn W2 o := fun o ho => (hown o ho).fr hF (fun _ _ => by simp)
  refine ⟨ba, bc, rfl, ?_, ⟨row_rowAt hr2, fun o ho => ?_, fun o ho => ?_⟩, hF, fun a ha => ?_⟩
  · rcases hr2.2 with ⟨h0, h1⟩ | ⟨g, cap, cur, h0, -, -, h3, -⟩
    · omega
    · cases h0; exact h3
  · obtain ⟨p, hp, rfl⟩ := List.mem_map.1 ho; exact (own2 p hp).ok
  · obtain ⟨p, hp, rfl⟩ := List.mem_map.1 ho; exact (own2 p hp).inn
  · subst ha
    refine hn a.block ?_
    rcases hr2.2 with ⟨h0, -⟩ | ⟨g, cap, cur, h0, -⟩
    · cases h0
    · cases h0; rfl
/-- what Alloc does -/
def AL (lim : Int) (os : List Ob) (x n y : Int) (rw' re : Int) (os' : List Ob) : Prop :=
  (re = 0 ∧ rw' = 2 * (endOf os : Int) ∧ 0 ≤ n ∧ n ≤ 512 ∧ (endOf os : Int) + 3 + n ≤ lim ∧ os' = os ++ [(x, 0, List.replicate n.toNat y)]) ∨ ((re = 1 ∨ re = 2) ∧ rw' = 0 ∧ os' = os)
theorem alloc_any {W : World} {hb mb : Nat} {lim root hashes : Int} {os : List Ob} {wv sv : Value} (hg : Glob W) (hI : OInv lim os hashes) (hH : HeapAt W hb mb (absMem lim os root hashes) wv sv) (x n y : Int) (hx : WB x) (hy : WB y) (n1 : -9223372036854775808 ≤ n) (n2 : n ≤ 9223372036854775807) (ox : okB (marksOf os) x = true) (oy : okB (marksOf os) y = true) :
    ∃ rw' re os', AL lim os x n y rw' re os' ∧ OInv lim os' hashes ∧ Calls Tryz.prog 22 #[.pointer (some ⟨hb, 0, none⟩), .int .u64 x, .int .i64 n, .int .u64 y] W (Turns (.tuple #[.int .u64 rw', .int .i64 re]) mb (absMem lim os' root hashes) (foot mb wv sv) W) := by
  have hl1 := hI.l1
  have hl2 := hI.l2
  have hfit := hI.fit
  have hW := (absMem_len lim os root hashes).1
  have hO := memory_at hH
  by_cases hn : n < 0 ∨ 512 < n
  · exact ⟨0, 1, os, .inr ⟨.inl rfl, rfl, rfl⟩, hI, (alloc_fail hO hg x n y 1 (fun _ hM hG => admit_size hM hG x n y (by show 1 ≤ lim; omega) hn n1 n2)).mono fun _ _ h => h.turns hH.mem⟩
  · obtain ⟨N, rfl⟩ : ∃ N : Nat, n = N := ⟨n.toNat, by omega⟩
    by_cases hf : (endOf os : Int) + 3 + N ≤ lim
    · refine ⟨2 * (endOf os : Int), 0, os ++ [(x, 0, List.replicate N y)], .inl ⟨rfl, rfl, by omega, by omega, hf, by simp⟩, ?_, ?_⟩
      · refine ⟨hI.l1, hI.l2, by rw [endOf_snoc]; simp; omega, hI.h0, hI.h1, fun p hp => ?_, fun p hp => ?_, by have := hI.uq.snoc0; simpa using this⟩
        · rcases List.mem_append.1 hp with hp | hp
          · exact hI.each p hp
          · simp at hp; subst hp; exact ⟨Int.le_refl _, hI.h0⟩
        · rcases List.mem_append.1 hp with hp | hp
          · exact hI.bd p hp
          · simp at hp; subst hp; exact ⟨hx, fun z hz => by obtain ⟨-, rfl⟩ := List.mem_replicate.1 hz; exact hy⟩
      · have := alloc_ok hO x N y (by rw [hW]; unfold endOf; omega) (by show 1 ≤ lim; omega) (by show lim ≤ _; omega) (by omega) (by omega) hx.1 hx.2 hy.1 hy.2 ox oy (by rw [hW]; show _ ≤ lim; omega)
        rw [hW, Int.toNat_natCast] at this
        have hp := absMem_push lim os root hashes (x, 0, List.replicate N y)
        simp only at hp
        rw [hp] at this
        exact this
    · exact ⟨0, 2, os, .inr ⟨.inr rfl, rfl, rfl⟩, hI, (alloc_fail hO hg x N y 2 (fun _ hM hG => admit_mem hM hG x N y (by show 1 ≤ lim; omega) (by show lim ≤ _; omega) (by omega) (by omega) hx.1 hx.2 hy.1 hy.2 ox oy (by rw [hW]; show lim < _; omega))).mono fun _ _ h => h.turns hH.mem⟩
/-- a reference to an object may be -/
theorem ok_ref {lim : Int} {os : List Ob} {hashes : Int} (hI : OInv lim os hashes) {i : Nat} (hi : i < os.length) : okB (marksOf os) (2 * (endOf (os.take i) : Int)) = true ∧ WB (2 * (endOf (os.take i) : Int)) := by
  obtain ⟨o, ho⟩ : ∃ o, os[i]? = some o := ⟨_, List.getElem?_eq_getElem hi⟩
  have hs := take_split ho
  have h1 := endOf_lt (os.take i) (os.drop (i + 1)) o
  rw [← hs] at h1
  have h2 := hI.fit
  have h3 := hI.l2
  have h4 := endOf_pos (os.take i)
  have hm := abs_mark (lim := lim) (root := 0) (hashes := hashes) (pre := os.take i) (post := os.drop (i + 1)) (o := o)
  rw [← hs] at hm
  have := stB_mk (M := marksOf os) h4 (by omega) hm
  refine ⟨by unfold okB; rw [this]; rfl, ?_⟩
  unfold WB
  omega
end Go.Proofs.YtjnccpeeeiafjaaGreatDoor
