/- Two graphs side by side: what holds of them, of the queue of pairs and of what was met. -/
import Derived.Test.YtninigdcpeijhaaGreatDoorMQueue
import Derived.Laws.StructEq
namespace Go.Proofs.YtninigdcpeijhaaGreatDoor
open Go.RowKit

theorem Que.tail {w : World} {g off cap : Nat} {p : Int × Int} {ps : List (Int × Int)} (h : Que w g off cap (p :: ps)) : Que w g (off + 2) (cap - 1) ps := by
  obtain ⟨cur, h1, h2⟩ := h.row
  have hl := h.len
  simp only [List.length_cons] at hl
  refine ⟨⟨cur, h1, by omega⟩, by omega, fun j u hj => ?_⟩
  have := h.cells (j + 2) u (by show (Value.int .u64 p.1 :: Value.int .u64 p.2 :: flat2 ps)[j + 2]? = some u; simpa using hj)
  rw [show off + 2 + j = off + (j + 2) by omega]
  exact this
theorem Que.none {w : World} {g off cap : Nat} {ps : List (Int × Int)} (h : Que w g off cap ps) : Que w g off 0 [] := by
  obtain ⟨cur, h1, h2⟩ := h.row
  exact ⟨⟨cur, h1, by omega⟩, by simp, fun j u hj => by simp [flat2] at hj⟩
/-- was a word met among the first i -/
def dn (v : Int) (ms : List (Int × Int)) (i : Nat) : Bool := (ms.take i).any fun m => decide (m.1 = v)
theorem dn_next {v : Int} {ms : List (Int × Int)} {i : Nat} {m : Int × Int} (h : ms[i]? = some m) : dn v ms (i + 1) = (dn v ms i || decide (m.1 = v)) := by
  unfold dn
  rw [List.take_add_one, h, List.any_append]
  simp
/-- two heaps hold the same graph where f leads from one to the other -/
structure Sim (og oh : List Ob) (f : Int → Int) (K : Int → Prop) : Prop where
  obj : ∀ v, K v → ∃ o o', lookP 1 og v = some o ∧ lookP 1 oh (f v) = some o' ∧ o'.1 = f o.1 ∧ o'.2.2 = o.2.2.map f ∧ ∀ y, (y = o.1 ∨ y ∈ o.2.2) → K y ∨ (f y = y ∧ (y = 0 ∨ y % 2 = 1))
  inj : ∀ v v', K v → K v' → f v = f v' → v = v'
/-- a row of pairs, grown since W; but for tg only new blocks changed -/
structure Grows2 (w : World) (tg : Nat) (ms : List (Int × Int)) (v : Value) (W : World) : Prop where
  row : W.ownsRow 0 59 2 v ms.length (flat2 ms)
  fr : Fr [tg] w W
  new : ∀ b, v.ownBlock = some b → w.heap.size ≤ b
/-- what was met -/
structure Met (og : List Ob) (f : Int → Int) (K : Int → Prop) (ms : List (Int × Int)) : Prop where
  nd : (ms.map Prod.fst).Nodup
  ok : ∀ m ∈ ms, K m.1 ∧ m.2 = f m.1
theorem Met.len {og oh : List Ob} {f : Int → Int} {K : Int → Prop} {ms : List (Int × Int)} (h : Met og f K ms) (hS : Sim og oh f K) : ms.length ≤ og.length := by
  have := nodup_le h.nd (m := refsO og) (fun x hx => by
    obtain ⟨m, hm, rfl⟩ := List.mem_map.1 hx
    obtain ⟨o, _, ho, _⟩ := hS.obj m.1 (h.ok m hm).1
    exact look_mem (by rw [ho]; rfl))
  rw [List.length_map, refsO_len] at this
  exact this
theorem Met.snoc {og : List Ob} {f : Int → Int} {K : Int → Prop} {ms : List (Int × Int)} {v v' : Int} (h : Met og f K ms) (hd : dn v ms ms.length = false) (hK : K v) (hv : v' = f v) : Met og f K (ms ++ [(v, v')]) := by
  refine ⟨?_, fun m hm => ?_⟩
  · rw [List.map_append, List.nodup_append]
    refine ⟨h.nd, by simp, fun a ha b hb e => ?_⟩
    simp only [List.map_cons, List.map_nil, List.mem_singleton] at hb
    subst hb
    subst e
    obtain ⟨m, hm, rfl⟩ := List.mem_map.1 ha
    unfold dn at hd
    rw [List.take_length, List.any_eq_false] at hd
    exact hd m hm (by simp)
  · rcases List.mem_append.1 hm with hm | hm
    · exact h.ok m hm
    · rw [List.mem_singleton] at hm
      rw [hm]
      exact ⟨hK, hv⟩
theorem two_cells (w : World) (x y : Int) : ∀ j u, [Value.int .u64 x, .int .u64 y][j]? = some u → (w.alloc (.cells #[.int .u64 x, .int .u64 y] 59)).cell? ((⟨w.heap.size, 0, none⟩ : Addr).add j) = some u := by
  intro j u hj
  rw [Lib.add_plain, Nat.zero_add, World.cell?_alloc_new]
  simpa using hj
theorem own_any {a : Option Addr} {n c m d : Nat} : (Value.slice a n c).ownBlock = (Value.slice a m d).ownBlock := by cases a <;> rfl
/-- behind an append to what was met -/
theorem met_push {W w w6 : World} {tg g off cap : Nat} {ms ps : List (Int × Int)} {ma : Option Addr} {mc i a6c : Nat} {a6 : Option Addr} {v v' : Int} (h : Grows2 W tg ms (.slice ma i mc) w) (hi : i = ms.length) (hQ : Que w g off cap ps) (hne : ∀ q, (Value.slice ma ms.length mc).ownBlock = some q → q ≠ g)
    (ho : w6.ownsRow 0 59 2 (.slice a6 (i + 1) a6c) (i + 1) (flat2 ms ++ [.int .u64 v, .int .u64 v'])) (hg : (w.alloc (.cells #[.int .u64 v, .int .u64 v'] 59)).grownBy w6 (Value.slice ma i mc).ownBlock) (hf : (Value.slice a6 (i + 1) a6c).ownBlock = (Value.slice ma i mc).ownBlock ∨ (Value.slice a6 (i + 1) a6c).ownBlock = some (w.alloc (.cells #[.int .u64 v, .int .u64 v'] 59)).heap.size) :
    Grows2 W tg (ms ++ [(v, v')]) (.slice a6 (i + 1) a6c) w6 ∧ Que w6 g off cap ps ∧ (∀ q, (Value.slice a6 (i + 1) a6c).ownBlock = some q → q ≠ g) ∧ Fr (Value.slice ma i mc).ownBlock.toList w w6 := by
  have hgl : g < w.heap.size := by obtain ⟨cur, h1, -⟩ := hQ.row; exact lt_of_heap h1
  have hne' : ∀ q, (Value.slice ma i mc).ownBlock = some q → q ≠ g := fun q hq => hne q (by cases ma with | none => cases hq | some a => cases hq; rfl)
  have hFg : Fr (Value.slice ma i mc).ownBlock.toList (w.alloc (.cells #[.int .u64 v, .int .u64 v'] 59)) w6 := (Fr.refl _ _).grown hg (fun q hq _ => by simp [hq])
  refine ⟨⟨?_, ?_, fun b hb => ?_⟩, ?_, fun q hq => ?_, ((Fr.refl [] w).alloc _).cons hFg⟩
  · rw [List.length_append, flat2_app, ← hi]
    exact ho
  · refine ((h.fr.trans ((Fr.refl [] w).alloc _).weak).trans' hFg (fun _ _ e => e) (fun j hj e => ?_))
    have := h.new j (by simpa using e)
    omega
  · rcases hf with hf | hf
    · exact h.new b (hf ▸ hb)
    · rw [hf] at hb
      cases hb
      have := h.fr.size
      simp
      omega
  · exact (hQ.fr ((Fr.refl [] w).alloc _) (by simp)).fr hFg (fun hm => hne' g (by simpa using hm) rfl)
  · rcases hf with hf | hf
    · exact hne' q (hf ▸ hq)
    · rw [hf] at hq
      cases hq
      simp
      omega
/-- a word that may stand in a pair -/
def Fits (f : Int → Int) (K : Int → Prop) (p : Int × Int) : Prop := p.2 = f p.1 ∧ WB p.1 ∧ WB p.2 ∧ (K p.1 ∨ (f p.1 = p.1 ∧ (p.1 = 0 ∨ p.1 % 2 = 1)))
theorem fits_of {og oh : List Ob} {f : Int → Int} {K : Int → Prop} {lim nh : Int} (hS : Sim og oh f K) (hI : OInv lim oh nh) {y : Int} (hy : WB y) (h : K y ∨ (f y = y ∧ (y = 0 ∨ y % 2 = 1))) : Fits f K (y, f y) := by
  refine ⟨rfl, hy, ?_, h⟩
  rcases h with h | h
  · obtain ⟨o, o', -, ho', -⟩ := hS.obj y h
    obtain ⟨k, hk, -, h3⟩ := (lookP_ge ho').2
    have h4 : endOf oh = 1 + (flatW oh).length := rfl
    have h5 := hI.fit
    have h6 := hI.l2
    exact ⟨by show (0 : Int) ≤ f y; omega, by show f y ≤ _; omega⟩
  · show WB (f y)
    rw [h.1]
    exact hy
/-- the queue, what was met, and the pair at hand -/
structure FLoop (W : World) (tg pb g off cap : Nat) (v v' : Int) (ps ms : List (Int × Int)) (mv : Value) (wz : World) : Prop where
  que : Que wz g off cap ps
  met : Grows2 W tg ms mv wz
  gw : g = tg ∨ W.heap.size ≤ g
  ne : ∀ q, mv.ownBlock = some q → q ≠ g
  pbl : wz.heap[pb]? = some (.cells #[.int .u64 v, .int .u64 v'] 59 (0, 0))
  pg : g ≠ pb
theorem FLoop.still {W : World} {tg pb g off cap : Nat} {v v' : Int} {ps ms : List (Int × Int)} {mv : Value} {wz w' : World} (h : FLoop W tg pb g off cap v v' ps ms mv wz) (hF : Fr [] wz w') : FLoop W tg pb g off cap v v' ps ms mv w' :=
  ⟨h.que.fr hF (by simp), ⟨hF.row h.met.row (fun _ _ => by simp), h.met.fr.trans hF.weak, h.met.new⟩, h.gw, h.ne, hF.heap (by simp) h.pbl, h.pg⟩
theorem FLoop.push {W : World} {tg pb g off cap : Nat} {v v' : Int} {ps ms : List (Int × Int)} {mv : Value} {wz : World} (h : FLoop W tg pb g off cap v v' ps ms mv wz) (x y : Int) (hn : ps.length < 1000000000) :
    ∃ g' off' cap' w', (Builtin.append_ #[60, 60] 60 #[.slice (some ⟨g, off, none⟩) ps.length cap, .slice (some ⟨wz.heap.size, 0, none⟩) 1 1]).run Tryz.prog (wz.alloc (.cells #[.int .u64 x, .int .u64 y] 59)) = .ok (.slice (some ⟨g', off', none⟩) (ps.length + 1) cap') w' ∧ FLoop W tg pb g' off' cap' v v' (ps ++ [(x, y)]) ms mv w' := by
  have h1 := h.still ((Fr.refl [] wz).alloc (.cells #[.int .u64 x, .int .u64 y] 59))
  obtain ⟨g', o', c', w', hr, hQ, hF, hg⟩ := h1.que.append (x, y) (ad := ⟨wz.heap.size, 0, none⟩) (c := 1) (two_cells wz x y) hn 60
  refine ⟨g', o', c', w', hr, hQ, ⟨hF.row h1.met.row (fun q hq => by simpa using h1.ne q hq), h1.met.fr.trans' hF (fun _ _ e => e) (fun j hj e => ?_), h1.met.new⟩, ?_, fun q hq => ?_, hF.heap (by simpa using Ne.symm h1.pg) h1.pbl, ?_⟩
  · rw [List.mem_singleton] at e
    subst e
    rcases h1.gw with e | e
    · simp [e]
    · omega
  · rcases hg with rfl | hg
    · exact h1.gw
    · right
      have := h1.met.fr.size
      omega
  · rcases hg with rfl | hg
    · exact h1.ne q hq
    · obtain ⟨cur, hc⟩ := row_cells h1.met.row hq
      have := lt_of_heap hc
      omega
  · rcases hg with rfl | hg
    · exact h1.pg
    · have := lt_of_heap h1.pbl
      omega
/-- todo[1:] -/
theorem que_pop {w : World} {g off cap : Nat} {p : Int × Int} {ps : List (Int × Int)} (h : Que w g off cap (p :: ps)) : ∃ off2 cap2, Que w g off2 cap2 ps ∧ ∀ W : World, (Instr.sliceAt 60 (.slice (some ⟨g, off, none⟩) (ps.length + 1) cap) (some (.int .i64 1)) none none).run Tryz.prog W = .ok (.slice (some ⟨g, off2, none⟩) ps.length cap2) W := by
  have hl := h.len
  simp only [List.length_cons] at hl
  obtain ⟨i0, hi0, hz0, hz1, hz2⟩ := info_parts infoPair
  have hsz : ∀ W : World, (sizeOf (Tryz.prog.elem 60)).run Tryz.prog W = .ok 2 W := fun W => by
    rw [show Tryz.prog.elem 60 = 59 by kernel_rfl]
    simp [sizeOf, typeInfo, hi0, hz1]
  have hu : Tryz.prog.underlying 60 = some (.slice (Tryz.prog.elem 60)) := by kernel_rfl
  have hr : ∀ W : World, (Instr.sliceAt 60 (.slice (some ⟨g, off, none⟩) (ps.length + 1) cap) (some (.int .i64 1)) none none).run Tryz.prog W = .ok (sliced (some ⟨g, off, none⟩) 1 (ps.length + 1) cap 2) W := fun W => by
    rw [run_sliceAt_slice W 60 _ _ _ _ hu, run_slice_l W 60 _ _ _ hu .i64 1 (by omega) (by omega), hsz]
    rfl
  by_cases hc : cap = 1
  · have hps : ps = [] := List.eq_nil_of_length_eq_zero (by omega)
    refine ⟨off, 0, by rw [hps]; exact h.none, fun W => ?_⟩
    rw [hr]
    simp [sliced, hc]
  · refine ⟨off + 2, cap - 1, h.tail, fun W => ?_⟩
    rw [hr]
    simp [sliced, hc, Addr.add]
end Go.Proofs.YtninigdcpeijhaaGreatDoor
