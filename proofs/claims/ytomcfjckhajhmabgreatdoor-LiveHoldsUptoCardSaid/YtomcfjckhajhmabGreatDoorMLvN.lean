/- live: the document's Same at the same intervals; intervals in memory. live: the statements' look for a register's interval. -/
import Derived.Test.YtomcfjckhajhmabGreatDoorMLvB
import Derived.Test.YtomcfjckhajhmabGreatDoorMLvK
import Derived.Deep.QuietTactic
import Derived.BigQuiet
import Derived.Laws.ResultCell
namespace Go.Proofs.YtomcfjckhajhmabGreatDoor
open Go.RowKit

def IvAt (w : World) (a : Option Addr) (l : List (Int × Nat × Nat)) : Prop := ∀ (k : Nat) (v : Int) (f t : Nat), l[k]? = some (v, f, t) → ∃ g o, a = some ⟨g, o, none⟩ ∧ w.cell? ⟨g, o + k * 3, none⟩ = some (.int .i64 v) ∧ w.cell? ⟨g, o + k * 3 + 1, none⟩ = some (.int .i64 f) ∧ w.cell? ⟨g, o + k * 3 + 2, none⟩ = some (.int .i64 t)
theorem IvAt.fr {w w' : World} {a : Option Addr} {l : List (Int × Nat × Nat)} (h : IvAt w a l) (hF : Fr [] w w') : IvAt w' a l := fun k v f t hk =>
  let ⟨g, o, e, c0, c1, c2⟩ := h k v f t hk
  ⟨g, o, e, hF.cell (by simp) c0, hF.cell (by simp) c1, hF.cell (by simp) c2⟩
theorem flatIv_at {l : List (Int × Nat × Nat)} {k : Nat} {v : Int} {f t : Nat} (h : l[k]? = some (v, f, t)) : (flatIv l)[k * 3]? = some (.int .i64 v) ∧ (flatIv l)[k * 3 + 1]? = some (.int .i64 f) ∧ (flatIv l)[k * 3 + 2]? = some (.int .i64 t) := by
  induction l generalizing k with
  | nil => cases h
  | cons a l ih =>
    have e : flatIv (a :: l) = .int .i64 a.1 :: .int .i64 a.2.1 :: .int .i64 a.2.2 :: flatIv l := rfl
    rw [e]
    cases k with
    | zero => cases h; exact ⟨rfl, rfl, rfl⟩
    | succ k =>
      have := ih (by simpa using h)
      rw [show (k + 1) * 3 = k * 3 + 1 + 1 + 1 by omega]
      simpa [Nat.add_assoc] using this
theorem ivs_of_row {w : World} {a : Option Addr} {n c : Nat} {l : List (Int × Nat × Nat)} (h : w.ownsRow 0 63 3 (.slice a n c) n (flatIv l)) : IvAt w a l := by
  intro k v f t hk
  obtain ⟨f0, f1, f2⟩ := flatIv_at hk
  rcases h.2 with ⟨hv, hn⟩ | ⟨g, cap, cur, hv, -⟩
  · have h1 := h.1
    rw [hn, flatIv_len] at h1
    have h2 := (List.getElem?_eq_some_iff.1 hk).1
    omega
  · have e := (Value.slice.inj hv).1
    subst e
    have hc := h.cells (g := g) rfl
    have d0 := hc _ _ f0
    have d1 := hc _ _ f1
    have d2 := hc _ _ f2
    rw [Lib.add_plain] at d0 d1 d2
    refine ⟨g, 0, rfl, d0, ?_, ?_⟩
    · rw [Nat.add_assoc]; exact d1
    · rw [Nat.add_assoc]; exact d2
end Go.Proofs.YtomcfjckhajhmabGreatDoor
namespace Go.Proofs.YtomcfjckhajhmabGreatDoor
open Go.RowKit

def ofL (l : List (Int × Nat × Nat)) (v : Int) : Option (Int × Nat × Nat) := l.find? fun p => decide (p.1 = v)
def ofV (o : Option (Int × Nat × Nat)) : Value := match o with
  | some p => .tuple #[ivA p.1 p.2.1 p.2.2, .bool true]
  | none => .tuple #[ivA 0 0 0, .bool false]
theorem ofL_ivs {E : List (Int × Nat)} {R : Nat} {v : Int} (h0 : 0 ≤ v) (hR : v < R) {f t : Nat} (h : ivV E v = some (f, t)) : ofL (ivs E R) v = some (v, f, t) := by
  have hm : (v, f, t) ∈ ivs E R := mem_ivs.2 ⟨h0, hR, h⟩
  unfold ofL
  cases hx : (ivs E R).find? (fun p => decide (p.1 = v)) with
  | none => exact absurd (by simp) (List.find?_eq_none.1 hx _ hm)
  | some p =>
    have h1 : p.1 = v := by simpa using List.find?_some hx
    have h2 := List.mem_of_find?_eq_some hx
    obtain ⟨a, b, c⟩ := p
    simp only at h1
    subst h1
    have h3 := (mem_ivs.1 h2).2.2
    rw [h] at h3
    cases h3
    rfl
theorem ofL_mem {l : List (Int × Nat × Nat)} {v : Int} {p : Int × Nat × Nat} (h : ofL l v = some p) : p ∈ l ∧ p.1 = v := ⟨List.mem_of_find?_eq_some h, by simpa using List.find?_some h⟩
set_option maxRecDepth 100000 in
set_option maxHeartbeats 4000000 in
theorem l13_of (l : List (Int × Nat × Nat)) (a : Option Addr) (c : Nat) (v : Int) (w : World) (ha : IvAt w a l) (hl : l.length ≤ 4096) : Calls Tryz.prog 15 #[.slice a l.length c, .int .i64 v] w (Still (ofV (ofL l v)) w) := by
  obtain ⟨n, hn⟩ : ∃ n, n = l.length := ⟨_, rfl⟩
  rw [← hn] at hl ⊢
  have HA := Lib.hid ha
  have HN := Lib.hid hn
  have HR : Hid (∀ k p, l[k]? = some p → p.1 = v → (∀ q ∈ l.take k, q.1 ≠ v) → ofV (ofL l v) = .tuple #[ivA p.1 p.2.1 p.2.2, .bool true]) := Lib.hid fun k p hp he hq => by
    have h9 : ofL l v = some p := by
      unfold ofL
      have hs : l = l.take k ++ p :: l.drop (k + 1) := by
        have hk := (List.getElem?_eq_some_iff.1 hp).1
        have e := List.drop_eq_getElem_cons hk
        rw [(List.getElem?_eq_some_iff.1 hp).2] at e
        rw [← e, List.take_append_drop]
      rw [hs, List.find?_append, List.find?_eq_none.2 (fun q hm => by simpa using hq q hm)]
      simp [he]
    rw [h9]
    rfl
  have HZ : Hid ((∀ q ∈ l, q.1 ≠ v) → ofV (ofL l v) = .tuple #[ivA 0 0 0, .bool false]) := Lib.hid fun hq => by
    have h9 : ofL l v = none := List.find?_eq_none.2 (fun q hm => by simpa using hq q hm)
    rw [h9]
    rfl
  generalize ofV (ofL l v) = r at *
  unfold ivA at *
  clear ha hn
  go_enter Tryz.func15, Tryz.ntmps15
  go_wp2
  go_loopw [6] (fun i wr => ∃ k : Nat, k ≤ n ∧ i = .int .i64 k ∧ Hid (Fr [] w wr) ∧ Hid (wr.heap[w.heap.size]? = some (.cells #[.int .i64 0, .int .i64 0, .int .i64 0] 63 (0, 0))) ∧ Hid (∀ q ∈ l.take k, q.1 ≠ v)) (fun i _ => n - (RowKit.intOf i).toNat)
  case atStart => exact ⟨0, Nat.zero_le _, rfl, Lib.hid (by (repeat (first | (with_reducible refine Fr.setCell ?_ (fun h => absurd h (Nat.lt_irrefl _)) _) | (with_reducible refine Fr.setCell ?_ (fun h => absurd h (by first | omega | (simp; done) | (simp; omega) | (dsimp only; omega))) _) | (with_reducible refine Fr.alloc ?_ _) | (with_reducible refine Fr.drew ?_) | (with_reducible refine Fr.drewN ?_ _) | (with_reducible exact Fr.refl _ _)))), Lib.hid (heap_new _ _), Lib.hid (by simp)⟩
  case round =>
    obtain ⟨k, hk, rfl, HF, HB, HT⟩ := hrel
    have hl2 := lt_of_heap HB.out
    have t0 := cell_of_heap (o := 0) HB.out rfl; have t1 := cell_of_heap (o := 1) HB.out rfl; have t2 := cell_of_heap (o := 2) HB.out rfl
    have z0 := frozen_of_heap (o := 0) HB.out; have z1 := frozen_of_heap (o := 1) HB.out; have z2 := frozen_of_heap (o := 2) HB.out
    by_cases hlt : k < n
    · obtain ⟨⟨x, f, t⟩, hs⟩ : ∃ s, l[k]? = some s := ⟨_, List.getElem?_eq_getElem (by rw [← HN.out]; exact hlt)⟩
      obtain ⟨g, o, rfl, c0, c1, c2⟩ := (HA.out.fr HF.out) k x f t hs
      have hk1 : (k : Int) < (n : Int) := by omega
      have hk0 : (0 : Int) ≤ (k : Int) := Int.natCast_nonneg _
      have hg1 : g < wr.heap.size := World.block_lt_of_cell? wr _ c0
      by_cases hx : x = v
      · have HX := Lib.hid (HR.out k (x, f, t) hs hx HT.out)
        have hx2 : (x == v) = true := by simp [hx]
        clear hs hx
        go_wp2_with fail
        (try simp only [Exit.inBlock, Exit.then])
        refine bodyPost_ret (v := .tuple #[.agg #[.int .i64 x, .int .i64 f, .int .i64 t], .bool true]) ?_ rfl ⟨ret1 HX.out.symm, ?_⟩
        · rw [results_cell_tmp rfl]
          go_simp
        · (repeat (first | (with_reducible refine Fr.setCell ?_ (fun h => absurd h (Nat.lt_irrefl _)) _) | (with_reducible refine Fr.setCell ?_ (fun h => absurd h (by first | omega | (simp; done) | (simp; omega) | (dsimp only; omega))) _) | (with_reducible refine Fr.alloc ?_ _) | (with_reducible refine Fr.drew ?_) | (with_reducible refine Fr.drewN ?_ _) | (with_reducible exact HF.out)))
      · have HT2 : Hid (∀ q ∈ l.take (k + 1), q.1 ≠ v) := Lib.hid fun q hq => by
          rw [take_snoc hs, List.mem_append] at hq
          rcases hq with hq | hq
          · exact HT.out q hq
          · simp only [List.mem_singleton] at hq; subst hq; exact hx
        have hx2 : (x == v) = false := by simp [hx]
        clear hs hx
        go_wp2_with fail
        go_roundw
        case rel => exact ⟨k + 1, by omega, by go_num, HF, HB, HT2⟩
        case measure => simp [RowKit.intOf]; omega
    · have hke : k = n := by omega
      have HX : Hid (r = .tuple #[.agg #[.int .i64 0, .int .i64 0, .int .i64 0], .bool false]) := Lib.hid (HZ.out (by have h9 := HT.out; rw [hke, HN.out, List.take_length] at h9; exact h9))
      have hkd : ¬ (k : Int) < (n : Int) := by omega
      clear hke
      go_wp2
      (try simp only [Exit.inBlock, Exit.then])
      refine bodyPost_ret (v := .tuple #[.agg #[.int .i64 0, .int .i64 0, .int .i64 0], .bool false]) ?_ rfl ⟨ret1 HX.out.symm, ?_⟩
      · rw [results_cell_tmp rfl]
        go_simp
      · (repeat (first | (with_reducible refine Fr.setCell ?_ (fun h => absurd h (Nat.lt_irrefl _)) _) | (with_reducible refine Fr.setCell ?_ (fun h => absurd h (by first | omega | (simp; done) | (simp; omega) | (dsimp only; omega))) _) | (with_reducible refine Fr.alloc ?_ _) | (with_reducible refine Fr.drew ?_) | (with_reducible refine Fr.drewN ?_ _) | (with_reducible exact HF.out)))
end Go.Proofs.YtomcfjckhajhmabGreatDoor
