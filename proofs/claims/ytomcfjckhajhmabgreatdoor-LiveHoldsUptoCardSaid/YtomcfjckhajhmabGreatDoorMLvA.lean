/- live: which registers a unit uses at which instruction of the bytecode, and the intervals of that: plain. live: the map of the intervals in memory. live: a register is noted. live: several sources are noted, and what an instruction of the code uses. live: what an instruction of the code uses is noted. -/
import Derived.Test.YtomcfjckhajhmabGreatDoorMIrD
import Derived.Test.YtomcfjckhajhmabGreatDoorMIrA
import Derived.Test.YtomcfjckhajhmabGreatDoorMIrB
import Derived.Lib.SlKeysI
import Derived.Maps.OwnOps
import Derived.Maps.OwnSet
import Derived.Maps.Views
import Derived.WalkSmall
namespace Go.Proofs.YtomcfjckhajhmabGreatDoor
open Go.RowKit

/-- the registers that sources name -/
def regL (l : List Sr) : List Int := (l.filter fun s => decide (s.kind = 0)).map Sr.n
theorem regL_append (a b : List Sr) : regL (a ++ b) = regL a ++ regL b := by simp [regL]
theorem regL_cons (s : Sr) (l : List Sr) : regL (s :: l) = (if s.kind = 0 then [s.n] else []) ++ regL l := by
  unfold regL
  by_cases h : s.kind = 0 <;> simp [h]
/-- .. that an instruction uses -/
def insRegs (i : Ii) : List Int := regL (i.l.filter plc) ++ (if lvs i.op = true then regL [i.d] else [])
/-- the code of an instruction of the bytecode, and its map -/
def partU (u : Un) (k : Nat) : List Ii := (u.code.drop (u.starts.getD k 0).toNat).take ((u.starts.getD (k + 1) 0).toNat - (u.starts.getD k 0).toNat)
def mapU (u : Un) (k : Nat) : List Sr := match u.maps[k]? with
  | some m => m.l
  | none => []
def usesAt (u : Un) (k : Nat) : List Int := regL (mapU u k) ++ (partU u k).flatMap insRegs
def stamp (k : Nat) (l : List Int) : List (Int × Nat) := l.map fun v => (v, k)
theorem stamp_append (k : Nat) (a b : List Int) : stamp k (a ++ b) = stamp k a ++ stamp k b := by simp [stamp]
/-- what was used ahead of an instruction, one by one -/
def evs (u : Un) (k : Nat) : List (Int × Nat) := (List.range k).flatMap fun j => stamp j (usesAt u j)
theorem evs_succ (u : Un) (k : Nat) : evs u (k + 1) = evs u k ++ stamp k (usesAt u k) := by simp [evs, List.range_succ]
theorem mem_evs {u : Un} {n : Nat} {v : Int} {k : Nat} : (v, k) ∈ evs u n ↔ k < n ∧ v ∈ usesAt u k := by
  simp only [evs, stamp, List.mem_flatMap, List.mem_range, List.mem_map, Prod.mk.injEq]
  constructor
  · rintro ⟨j, hj, x, hx, rfl, rfl⟩; exact ⟨hj, hx⟩
  · rintro ⟨hk, hv⟩; exact ⟨k, hk, v, hv, rfl, rfl⟩
/-- the first and the last time of a register -/
def ivV (E : List (Int × Nat)) (v : Int) : Option (Nat × Nat) := match E.filter fun e => decide (e.1 = v) with
  | [] => none
  | e :: r => some (e.2, (r.getLastD e).2)
theorem ivV_snoc (E : List (Int × Nat)) (v : Int) (k : Nat) (x : Int) : ivV (E ++ [(v, k)]) x = if x = v then some (((ivV E v).map Prod.fst).getD k, k) else ivV E x := by
  unfold ivV
  rw [List.filter_append]
  by_cases h : x = v
  · subst h
    rw [if_pos rfl]
    have e1 : [(x, k)].filter (fun e : Int × Nat => decide (e.1 = x)) = [(x, k)] := by simp
    rw [e1]
    cases hE : E.filter (fun e => decide (e.1 = x)) with
    | nil => simp
    | cons a r => simp
  · rw [if_neg h]
    have e1 : [(v, k)].filter (fun e : Int × Nat => decide (e.1 = x)) = [] := by simp; exact fun h2 => h h2.symm
    rw [e1, List.append_nil]
def Rise (E : List (Int × Nat)) : Prop := E.Pairwise fun a b => a.2 ≤ b.2
theorem rise_evs (u : Un) : ∀ n, Rise (evs u n)
  | 0 => List.Pairwise.nil
  | n + 1 => by
    rw [evs_succ]
    refine List.pairwise_append.2 ⟨rise_evs u n, ?_, ?_⟩
    · unfold stamp
      rw [List.pairwise_map]
      exact List.pairwise_of_forall fun _ _ => Nat.le_refl _
    · rintro ⟨a, j⟩ ha ⟨b, k⟩ hb
      have h1 := (mem_evs.1 ha).1
      unfold stamp at hb
      obtain ⟨x, -, e⟩ := List.mem_map.1 hb
      cases e
      exact Nat.le_of_lt h1
/-- an interval holds all that is, and both its ends are -/
theorem ivV_some {E : List (Int × Nat)} (hE : Rise E) {v : Int} {f t : Nat} (h : ivV E v = some (f, t)) : (v, f) ∈ E ∧ (v, t) ∈ E ∧ f ≤ t ∧ ∀ k, (v, k) ∈ E → f ≤ k ∧ k ≤ t := by
  unfold ivV at h
  have hp : Rise (E.filter fun e => decide (e.1 = v)) := hE.sublist List.filter_sublist
  have hm : ∀ e, e ∈ E.filter (fun e => decide (e.1 = v)) ↔ e ∈ E ∧ e.1 = v := fun e => by simp
  cases hF : E.filter (fun e => decide (e.1 = v)) with
  | nil => rw [hF] at h; cases h
  | cons a r =>
    rw [hF] at h hm hp
    simp only [Option.some.injEq, Prod.mk.injEq] at h
    obtain ⟨rfl, rfl⟩ := h
    obtain ⟨a1, a2⟩ := a
    have ha := (hm (a1, a2)).1 (by simp)
    obtain rfl : a1 = v := ha.2
    have hlast : r.getLastD (a1, a2) ∈ (a1, a2) :: r := by
      cases r with
      | nil => simp
      | cons b s =>
        rw [List.getLastD_cons]
        refine List.mem_cons_of_mem _ ?_
        have h9 : (b :: s).getLast (by simp) ∈ b :: s := List.getLast_mem _
        rwa [List.getLast_eq_getLastD] at h9
    have hl := (hm _).1 hlast
    have hpa := List.pairwise_cons.1 hp
    have hle : ∀ e ∈ (a1, a2) :: r, a2 ≤ e.2 := fun e he => by
      rcases List.mem_cons.1 he with rfl | he
      · exact Nat.le_refl _
      · exact hpa.1 e he
    have hge : ∀ e ∈ (a1, a2) :: r, e.2 ≤ (r.getLastD (a1, a2)).2 := by
      have gen : ∀ (r : List (Int × Nat)) (a : Int × Nat), Rise (a :: r) → ∀ e ∈ a :: r, e.2 ≤ (r.getLastD a).2 := by
        intro r
        induction r with
        | nil => intro a _ e he; simp at he; subst he; exact Nat.le_refl _
        | cons b s ih =>
          intro a h e he
          rw [List.getLastD_cons]
          have h2 := List.pairwise_cons.1 h
          rcases List.mem_cons.1 he with rfl | he
          · exact Nat.le_trans (h2.1 b (by simp)) (ih b h2.2 b (by simp))
          · exact ih b h2.2 e he
      exact gen r _ hp
    refine ⟨ha.1, ?_, hle _ hlast, fun k hk => ?_⟩
    · have h8 := hl.1
      have h9 : r.getLastD (a1, a2) = (a1, (r.getLastD (a1, a2)).2) := Prod.ext hl.2 rfl
      rwa [h9] at h8
    · have hk2 := (hm (a1, k)).2 ⟨hk, rfl⟩
      exact ⟨hle _ hk2, hge _ hk2⟩
theorem ivV_none {E : List (Int × Nat)} {v : Int} (h : ivV E v = none) (k : Nat) : (v, k) ∉ E := by
  unfold ivV at h
  cases hF : E.filter (fun e => decide (e.1 = v)) with
  | nil =>
    intro hk
    have : (v, k) ∈ E.filter (fun e => decide (e.1 = v)) := by simp [hk]
    rw [hF] at this
    cases this
  | cons a r => rw [hF] at h; cases h
theorem ivV_is {E : List (Int × Nat)} {v : Int} : (ivV E v).isSome = true ↔ ∃ k, (v, k) ∈ E := by
  cases h : ivV E v with
  | none => simp; exact ivV_none h
  | some p =>
    simp
    unfold ivV at h
    cases hF : E.filter (fun e => decide (e.1 = v)) with
    | nil => rw [hF] at h; cases h
    | cons a r =>
      have this : a ∈ E ∧ decide (a.1 = v) = true := by
        have h9 : a ∈ E.filter (fun e => decide (e.1 = v)) := by rw [hF]; simp
        exact List.mem_filter.1 h9
      obtain ⟨a1, a2⟩ := a
      obtain rfl : a1 = v := by simpa using this.2
      exact ⟨a2, this.1⟩
/-- the intervals of so many registers -/
def ivs (E : List (Int × Nat)) (R : Nat) : List (Int × Nat × Nat) := (List.range R).filterMap fun v : Nat => (ivV E v).map fun p => ((v : Int), p.1, p.2)
theorem ivs_succ (E : List (Int × Nat)) (R : Nat) : ivs E (R + 1) = ivs E R ++ (match ivV E R with | some p => [((R : Int), p.1, p.2)] | none => []) := by
  unfold ivs
  rw [List.range_succ, List.filterMap_append]
  cases h : ivV E R <;> simp [h]
theorem ivs_len (E : List (Int × Nat)) (R : Nat) : (ivs E R).length ≤ R := by
  have := List.length_filterMap_le (fun v : Nat => (ivV E v).map fun p => ((v : Int), p.1, p.2)) (List.range R)
  simpa [ivs] using this
theorem mem_ivs {E : List (Int × Nat)} {R : Nat} {v : Int} {f t : Nat} : (v, f, t) ∈ ivs E R ↔ 0 ≤ v ∧ v < R ∧ ivV E v = some (f, t) := by
  unfold ivs
  simp only [List.mem_filterMap, List.mem_range, Option.map_eq_some_iff, Prod.mk.injEq]
  constructor
  · rintro ⟨n, hn, ⟨p1, p2⟩, hp, rfl, rfl, rfl⟩; exact ⟨by omega, by omega, hp⟩
  · rintro ⟨h0, h1, h2⟩
    obtain ⟨n, rfl⟩ : ∃ n : Nat, v = n := ⟨v.toNat, by omega⟩
    exact ⟨n, by omega, (f, t), h2, rfl, rfl, rfl⟩
/-- their registers, rising -/
def ivKeys (val : Int → Option (Nat × Nat)) (R : Nat) : List Int := ((List.range R).filter fun v : Nat => (val v).isSome).map fun v : Nat => (v : Int)
theorem ivs_keys (E : List (Int × Nat)) (R : Nat) : (ivs E R).map Prod.fst = ivKeys (ivV E) R := by
  unfold ivs ivKeys
  induction List.range R with
  | nil => rfl
  | cons a l ih =>
    cases h : ivV E a with
    | none => simp [h, ih]
    | some p => simp [h, ih]
theorem ivs_at {E : List (Int × Nat)} {R k : Nat} {x : Int} (h : (ivKeys (ivV E) R)[k]? = some x) : ∃ f t, (ivs E R)[k]? = some (x, f, t) ∧ ivV E x = some (f, t) := by
  rw [← ivs_keys, List.getElem?_map, Option.map_eq_some_iff] at h
  obtain ⟨⟨v, f, t⟩, h1, rfl⟩ := h
  exact ⟨f, t, h1, (mem_ivs.1 (List.mem_of_getElem? h1)).2.2⟩
theorem ivKeys_rise (val : Int → Option (Nat × Nat)) (R : Nat) : (ivKeys val R).Pairwise (· < ·) := by
  unfold ivKeys
  rw [List.pairwise_map]
  refine List.Pairwise.sublist List.filter_sublist ?_
  exact List.pairwise_lt_range.imp fun h => by omega
theorem mem_ivKeys {val : Int → Option (Nat × Nat)} {R : Nat} {x : Int} : x ∈ ivKeys val R ↔ 0 ≤ x ∧ x < R ∧ (val x).isSome = true := by
  unfold ivKeys
  simp only [List.mem_map, List.mem_filter, List.mem_range]
  constructor
  · rintro ⟨n, ⟨h1, h2⟩, rfl⟩; exact ⟨by omega, by omega, h2⟩
  · rintro ⟨h0, h1, h2⟩
    obtain ⟨n, rfl⟩ : ∃ n : Nat, x = n := ⟨x.toNat, by omega⟩
    exact ⟨n, ⟨by omega, h2⟩, rfl⟩
theorem ivKeys_len (val : Int → Option (Nat × Nat)) (R : Nat) : (ivKeys val R).length ≤ R := by
  have := List.length_filter_le (fun v : Nat => (val v).isSome) (List.range R)
  simpa [ivKeys] using this
theorem ivKeys_nodup (val : Int → Option (Nat × Nat)) (R : Nat) : (ivKeys val R).Nodup := (ivKeys_rise val R).imp fun h => by omega
theorem ivKeys_sorted (val : Int → Option (Nat × Nat)) (R : Nat) : (ivKeys val R).mergeSort (fun x y => decide (x ≤ y)) = ivKeys val R := by
  refine List.mergeSort_of_pairwise ((ivKeys_rise val R).imp fun h => ?_)
  simp; omega
end Go.Proofs.YtomcfjckhajhmabGreatDoor
namespace Go.Proofs.YtomcfjckhajhmabGreatDoor
open Go.RowKit

theorem keyedLv : Maps.Keyed Tryz.prog 3 := Maps.int_keyed Tryz.underlying3
def ivA (v f t : Int) : Value := .agg #[.int .i64 v, .int .i64 f, .int .i64 t]
theorem zeroIv (w : World) : (zeroValue 63).run Tryz.prog w = .ok (ivA 0 0 0) w := by kernel_rfl
theorem wfLv {x : Int} (h : -9223372036854775808 ≤ x ∧ x ≤ 9223372036854775807) : (Lit.int .i64 x).wf = true := WalkArith.wf_i64 ⟨h.1, h.2⟩
theorem keyLv {x : Int} (h : -9223372036854775808 ≤ x ∧ x ≤ 9223372036854775807) : keyOf Tryz.prog 3 (.int .i64 x) = some (.int .i64 x) := Maps.keyOf_int_mk Tryz.underlying3 (wfLv h)
def ivDt (v f t : Int) : DataW Unit := .agg [.lit (.int .i64 v), .lit (.int .i64 f), .lit (.int .i64 t)]
def iI : Value → Option Int
  | .int .i64 n => some n
  | _ => none
theorem iI_inv {x : Value} {n : Int} (h : iI x = some n) : x = .int .i64 n := by
  unfold iI at h
  split at h
  · cases h; rfl
  · cases h
def ivL : List Value → Option (DataW Unit × List MemPlace)
  | [a, b, c] => (iI a).bind fun v => (iI b).bind fun f => (iI c).bind fun t => some (ivDt v f t, [])
  | _ => none
def ivE : Value → Option (DataW Unit × List MemPlace)
  | .agg c => ivL c.toList
  | _ => none
theorem ivE_mk (v f t : Int) : ivE (ivA v f t) = some (ivDt v f t, []) := rfl
theorem ivE_inv {x : Value} {z : DataW Unit × List MemPlace} (h : ivE x = some z) : ∃ v f t, x = ivA v f t ∧ z = (ivDt v f t, []) := by
  unfold ivE at h
  split at h
  · next c =>
    unfold ivL at h
    split at h
    · next a b d e =>
      obtain ⟨v, hv, h⟩ := Option.bind_eq_some_iff.1 h
      obtain ⟨f, hf, h⟩ := Option.bind_eq_some_iff.1 h
      obtain ⟨t, ht, h⟩ := Option.bind_eq_some_iff.1 h
      cases h
      refine ⟨v, f, t, ?_, rfl⟩
      rw [iI_inv hv, iI_inv hf, iI_inv ht] at e
      unfold ivA
      rw [← e]
    · cases h
  · cases h
theorem ivE_val {x : Value} {v f t : Int} {ps : List MemPlace} (h : ivE x = some (ivDt v f t, ps)) : x = ivA v f t := by
  obtain ⟨a, b, c, rfl, h2⟩ := ivE_inv h
  simp only [Prod.mk.injEq, ivDt, DataW.agg.injEq, List.cons.injEq, DataW.lit.injEq, Lit.int.injEq, true_and, and_true] at h2
  obtain ⟨⟨rfl, rfl, rfl⟩, -⟩ := h2
  rfl
/-- the map holds just what val says -/
structure MI (W : World) (b : Nat) (val : Int → Option (Nat × Nat)) : Prop where
  map : ∃ D : DataW Unit, W.ownsMap Tryz.prog 3 ivE b 4096 D ∧ ∀ x, Maps.has D (.int .i64 x) = (val x).isSome ∧ ∀ f t, val x = some (f, t) → ∀ z, D.atKey (.int .i64 x) z = ivDt x f t
  dom : ∀ x, (val x).isSome = true → 0 ≤ x ∧ x < 4096
theorem MI.fr {W W' : World} {b : Nat} {val : Int → Option (Nat × Nat)} {S : List Nat} (h : MI W b val) (hF : Fr S W W') (hb : b ∉ S) : MI W' b val := by
  obtain ⟨⟨D, ⟨es, clock, h1, h2⟩, h3⟩, h4⟩ := h
  exact ⟨⟨D, ⟨es, clock, hF.heap hb h1, h2⟩, h3⟩, h4⟩
theorem MI.congr {W : World} {b : Nat} {val val' : Int → Option (Nat × Nat)} (h : MI W b val) (he : ∀ x, val x = val' x) : MI W b val' := by
  obtain rfl : val = val' := funext he
  exact h
theorem MI.not_cells {W : World} {b : Nat} {val : Int → Option (Nat × Nat)} (h : MI W b val) {k : Nat} {c : Array Value} {t : TypeId} {f : Nat × Nat} (hk : W.heap[k]? = some (.cells c t f)) : k ≠ b := by
  rintro rfl
  obtain ⟨D, ⟨es, clock, h1, -⟩, -⟩ := h.map
  rw [hk] at h1
  cases h1
theorem MI.lt {W : World} {b : Nat} {val : Int → Option (Nat × Nat)} (h : MI W b val) : b < W.heap.size := by
  obtain ⟨D, hD, -⟩ := h.map
  exact hD.lt
theorem MI.made (w : World) : MI (w.alloc (.map #[] 0)) w.heap.size fun _ => none :=
  ⟨⟨.map [], (World.ownsMap_made w _ _ _).mono (Nat.zero_le _), fun x => ⟨rfl, fun f t h => by cases h⟩⟩, fun x h => by cases h⟩
/-- the keys of the map are the registers that have intervals -/
theorem ivD_keys {W : World} {b n : Nat} {val : Int → Option (Nat × Nat)} {D : DataW Unit} (hD : W.ownsMap Tryz.prog 3 ivE b n D) (hh : ∀ x, Maps.has D (.int .i64 x) = (val x).isSome) {R : Nat} (hd : ∀ x, (val x).isSome = true → 0 ≤ x ∧ x < R) : (ivKeys val R).Perm (intKeys D) := by
  obtain ⟨es, rfl, hk⟩ := hD.keysOf
  obtain ⟨es', e, hp⟩ := hD.tidy keyedLv
  cases e
  refine perm_intKeys hp (fun p hp => ?_) (ivKeys_nodup val R) fun x => ?_
  · obtain ⟨key, hk2⟩ := hk p hp
    obtain ⟨x, -, h3, -⟩ := Maps.keyOf_i64 Tryz.underlying3 hk2
    exact ⟨x, h3⟩
  · rw [mem_ivKeys, hh x]
    exact ⟨fun h => h.2.2, fun h => ⟨(hd x h).1, (hd x h).2, h⟩⟩
theorem ivD_size {D : DataW Unit} : (Maps.IsMap D) → Maps.size D = (intKeys D).length := by
  rintro ⟨es, rfl⟩
  simp [Maps.size_eq, intKeys]
theorem ownsMap_le {W : World} {b n m : Nat} {D : DataW Unit} (hD : W.ownsMap Tryz.prog 3 ivE b n D) (hm : Maps.size D ≤ m) : W.ownsMap Tryz.prog 3 ivE b m D := by
  obtain ⟨es, clock, h1, h2, h3, rfl⟩ := hD
  refine ⟨es, clock, h1, h2, ?_, rfl⟩
  simpa [Maps.size, length_sorted] using hm
theorem MI.put {W W' : World} {b : Nat} {val : Int → Option (Nat × Nat)} {D : DataW Unit} (hd : ∀ x, (val x).isSome = true → 0 ≤ x ∧ x < 4096) (hD : W.ownsMap Tryz.prog 3 ivE b 4096 D) (hh : ∀ x, Maps.has D (.int .i64 x) = (val x).isSome ∧ ∀ f t, val x = some (f, t) → ∀ z, D.atKey (.int .i64 x) z = ivDt x f t) {x : Int} (f t : Nat) (hx : 0 ≤ x ∧ x < 4096) (ho : W'.ownsMap Tryz.prog 3 ivE b (4096 + 1) (D.put (.int .i64 x) (ivDt x f t))) :
    MI W' b (fun y => if y = x then some (f, t) else val y) := by
  have hm := hD.isMap
  have hk := keyedLv.key (keyLv (x := x) ⟨by omega, by omega⟩)
  have hdom : ∀ y, ((fun y => if y = x then some (f, t) else val y) y).isSome = true → 0 ≤ y ∧ y < 4096 := fun y hy => by
    dsimp only at hy
    by_cases e : y = x
    · rw [e]; exact hx
    · rw [if_neg e] at hy; exact hd y hy
  have hall : ∀ y, Maps.has (D.put (.int .i64 x) (ivDt x f t)) (.int .i64 y) = ((fun y => if y = x then some (f, t) else val y) y).isSome ∧ ∀ f' t', (fun y => if y = x then some (f, t) else val y) y = some (f', t') → ∀ z, (D.put (.int .i64 x) (ivDt x f t)).atKey (.int .i64 y) z = ivDt y f' t' := fun y => by
    dsimp only
    by_cases e : y = x
    · subst e
      rw [if_pos rfl, Maps.has_put_same hm hk]
      refine ⟨rfl, fun f' t' h z => ?_⟩
      cases h
      exact Maps.atKey_put_same hm hk _ _
    · rw [if_neg e, Maps.has_put_other (fun e' => e (by cases e'; rfl))]
      refine ⟨(hh y).1, fun f' t' h z => ?_⟩
      rw [Maps.atKey_put_other (fun e' => e (by cases e'; rfl))]
      exact (hh y).2 f' t' h z
  refine ⟨⟨_, ownsMap_le ho ?_, hall⟩, hdom⟩
  rw [ivD_size ho.isMap, ← (ivD_keys ho (fun y => (hall y).1) (R := 4096) hdom).length_eq]
  exact ivKeys_len _ _
theorem Fr.joinL {S : List Nat} {a b c : World} (h : Fr [] a b) (k : Fr S b c) (hS : ∀ j ∈ S, a.heap.size ≤ j) : Fr [] a c :=
  h.trans' k (fun _ _ e => e) (fun j hj hm => absurd (hS j hm) (by omega))
theorem owns_fr {W W' : World} {b n : Nat} {D : DataW Unit} {S : List Nat} (h : W.ownsMap Tryz.prog 3 ivE b n D) (hF : Fr S W W') (hb : b ∉ S) : W'.ownsMap Tryz.prog 3 ivE b n D := by
  obtain ⟨es, clock, h1, h2⟩ := h
  exact ⟨es, clock, hF.heap hb h1, h2⟩
/-- what a register's place in the map holds -/
theorem lv_look {W : World} {b n : Nat} {D : DataW Unit} (h : W.ownsMap Tryz.prog 3 ivE b n D) {x : Int} (hx : 0 ≤ x ∧ x < 4096) {v f t : Int} (hv : D.atKey (.int .i64 x) (ivDt 0 0 0) = ivDt v f t) {c : Bool} (hc : Maps.has D (.int .i64 x) = c) :
    (Instr.lookup 85 (.map (some b)) (.int .i64 x) true).run Tryz.prog W = .ok (.tuple #[ivA v f t, .bool c]) W := by
  obtain ⟨u, ps, hrun, hu⟩ := h.look_ok keyedLv Tryz.underlying85 (zeroIv W) (ivE_mk 0 0 0) (keyLv (x := x) (by omega))
  rw [hv] at hu
  rw [hrun, ivE_val hu, hc]
theorem lv_fetch {W : World} {b n : Nat} {D : DataW Unit} (h : W.ownsMap Tryz.prog 3 ivE b n D) {x : Int} (hx : 0 ≤ x ∧ x < 4096) {v f t : Int} (hv : D.atKey (.int .i64 x) (ivDt 0 0 0) = ivDt v f t) :
    (Instr.lookup 85 (.map (some b)) (.int .i64 x) false).run Tryz.prog W = .ok (ivA v f t) W := by
  obtain ⟨u, ps, hrun, hu⟩ := h.lookup keyedLv Tryz.underlying85 (zeroIv W) (ivE_mk 0 0 0) (keyLv (x := x) (by omega))
  rw [hv] at hu
  rw [hrun, ivE_val hu]
theorem IntsAt.frL {w w' : World} {S : List Nat} {a : Option Addr} {l : List Int} (h : IntsAt w a l) (hn : ∀ g o, a = some ⟨g, o, none⟩ → g ∉ S) (hF : Fr S w w') : IntsAt w' a l := fun k x hk =>
  let ⟨g, o, e, c⟩ := h k x hk
  ⟨g, o, e, hF.cell (hn g o e) c⟩
/-- the map since a world, all in new memory -/
structure LM (w0 : World) (b : Nat) (val : Int → Option (Nat × Nat)) (W : World) : Prop where
  fr : Fr [] w0 W
  new : w0.heap.size ≤ b
  map : MI W b val
theorem LM.still {w0 W W' : World} {b : Nat} {val : Int → Option (Nat × Nat)} (h : LM w0 b val W) (hF : Fr [] W W') : LM w0 b val W' := ⟨h.fr.trans hF, h.new, h.map.fr hF (by simp)⟩
theorem LM.turned {w0 W W' : World} {b : Nat} {val val' : Int → Option (Nat × Nat)} (h : LM w0 b val W) (hg : W.grownBy W' (some b)) (hM : MI W' b val') : LM w0 b val' W' := by
  refine ⟨h.fr.joinL ((Fr.refl [b] W).grown hg (fun k hk _ => by cases hk; simp)) (fun j hj => ?_), h.new, hM⟩
  simp only [List.mem_singleton] at hj
  rw [hj]; exact h.new
end Go.Proofs.YtomcfjckhajhmabGreatDoor
namespace Go.Proofs.YtomcfjckhajhmabGreatDoor
open Go.RowKit

/-- what is known when a source was noted -/
def noteV (val : Int → Option (Nat × Nat)) (s : Sr) (k : Nat) : Int → Option (Nat × Nat) := if s.kind = 0 then fun y => if y = s.n then some (((val s.n).map Prod.fst).getD k, k) else val y else val
theorem noteV_reg {val : Int → Option (Nat × Nat)} {s : Sr} (k : Nat) (h : s.kind = 0) : noteV val s k = fun y => if y = s.n then some (((val s.n).map Prod.fst).getD k, k) else val y := by unfold noteV; rw [if_pos h]
theorem noteV_no {val : Int → Option (Nat × Nat)} {s : Sr} (k : Nat) (h : ¬ s.kind = 0) : noteV val s k = val := by unfold noteV; rw [if_neg h]
def VB (val : Int → Option (Nat × Nat)) : Prop := ∀ x f t, val x = some (f, t) → f ≤ 1000 ∧ t ≤ 1000
/-- Returned; the map says so. -/
def LvNoteTo (w0 : World) (b : Nat) (val : Int → Option (Nat × Nat)) (w : World) (e : Ending) (w' : World) : Prop := e = .returned (.tuple #[]) ∧ LM w0 b val w' ∧ Fr [b] w w'
set_option maxRecDepth 100000 in
set_option maxHeartbeats 4000000 in
theorem lv_note (w0 : World) (b : Nat) (val : Int → Option (Nat × Nat)) (s : Sr) (k : Nat) (w : World) (h : LM w0 b val w) (hs : s.kind = 0 → 0 ≤ s.n ∧ s.n < 4096) (hk : k ≤ 1000) (hv : VB val) : Calls Tryz.prog 48 #[.map (some b), s.v, .int .i64 k] w (LvNoteTo w0 b (noteV val s k) w) := by
  have HM := Lib.hid h
  obtain ⟨sk, sn, sw⟩ := s
  unfold Sr.v
  simp only at hs ⊢
  by_cases h0 : sk = 0
  · subst h0
    have hn := hs rfl
    obtain ⟨D, hD, hh⟩ := h.map.map
    have hkey := keyLv (x := sn) (by omega)
    have hhas := (hh sn).1
    have HD := Lib.hid hD
    have HH := Lib.hid hh
    have HN := Lib.hid hn
    have HV := Lib.hid hv
    have HDM := Lib.hid h.map.dom
    have HNV : Hid (noteV val ⟨0, sn, sw⟩ k = fun y => if y = sn then some (((val sn).map Prod.fst).getD k, k) else val y) := Lib.hid (noteV_reg (val := val) (s := ⟨0, sn, sw⟩) k rfl)
    clear h hs hn hD hh hv
    have HF1 : Hid (Fr [] w (w.alloc (.cells #[.int .i64 0, .int .i64 sn, .int .u64 sw] 57))) := Lib.hid ((Fr.refl _ _).alloc _)
    have HD1 := Lib.hid (owns_fr HD.out HF1.out (by simp))
    have HBN : Hid (b < w.heap.size) := Lib.hid HM.out.map.lt
    cases hvs : val sn with
    | none =>
      rw [hvs] at hhas
      have hlk := lv_look HD1.out HN.out (Maps.atKey_of_not_has hhas _) hhas
      have HNW : Hid (noteV val ⟨0, sn, sw⟩ k = fun y => if y = sn then some (k, k) else val y) := Lib.hid (by rw [HNV.out, hvs]; rfl)
      generalize noteV val ⟨0, sn, sw⟩ k = nv at *
      unfold ivA at hlk
      clear HNV hvs
      go_enter Tryz.func48, Tryz.ntmps48
      go_wp2_with (at_mapUpdate; refine wpList_mapUpdate_own _ rfl _ _ _ 85 rfl 3 63 keyedLv Tryz.underlying85 ivE b 4096 D rfl (owns_fr HD.out (S := []) (by (repeat (first | (with_reducible refine Fr.setCell ?_ (fun h => absurd h (Nat.lt_irrefl _)) _) | (with_reducible refine Fr.setCell ?_ (fun h => absurd h (by first | omega | (simp; done) | (simp; omega) | (dsimp only; omega))) _) | (with_reducible refine Fr.alloc ?_ _) | (with_reducible refine Fr.drew ?_) | (with_reducible refine Fr.drewN ?_ _) | (with_reducible exact Fr.refl _ _)))) (by simp)) (by unfold maxLen; omega) _ _ (.int .i64 sn) rfl rfl hkey (ivDt sn (k : Nat) (k : Nat)) [] (ivE_mk _ _ _) ?_; intro w3 hown3 hgrow3; have HO3 := Lib.hid hown3; have HT3 : Hid (LM w0 b nv w3) := Lib.hid (by have h9 := (HM.out.still (W' := _) (by (repeat (first | (with_reducible refine Fr.setCell ?_ (fun h => absurd h (Nat.lt_irrefl _)) _) | (with_reducible refine Fr.setCell ?_ (fun h => absurd h (by first | omega | (simp; done) | (simp; omega) | (dsimp only; omega))) _) | (with_reducible refine Fr.alloc ?_ _) | (with_reducible refine Fr.drew ?_) | (with_reducible refine Fr.drewN ?_ _) | (with_reducible exact Fr.refl _ _))))).turned hgrow3 (MI.put HDM.out HD.out HH.out k k HN.out hown3); rw [HNW.out]; exact h9); have HF3 : Hid (Fr [b] w w3) := Lib.hid (Fr.grown (w := _) (by (repeat (first | (with_reducible refine Fr.setCell ?_ (fun h => absurd h (Nat.lt_irrefl _)) _) | (with_reducible refine Fr.setCell ?_ (fun h => absurd h (by first | omega | (simp; done) | (simp; omega) | (dsimp only; omega))) _) | (with_reducible refine Fr.alloc ?_ _) | (with_reducible refine Fr.drew ?_) | (with_reducible refine Fr.drewN ?_ _) | (with_reducible exact Fr.refl _ _)))) hgrow3 (fun j hj _ => by cases hj; simp)); clear hown3 hgrow3)
      go_end0
      exact ⟨rfl, HT3.out, HF3.out⟩
    | some p =>
      obtain ⟨f, t⟩ := p
      rw [hvs] at hhas
      have hlk := lv_look HD1.out HN.out ((HH.out sn).2 f t hvs _) hhas
      have HNW : Hid (noteV val ⟨0, sn, sw⟩ k = fun y => if y = sn then some (f, k) else val y) := Lib.hid (by rw [HNV.out, hvs]; rfl)
      generalize noteV val ⟨0, sn, sw⟩ k = nv at *
      unfold ivA at hlk
      clear HNV hvs
      go_enter Tryz.func48, Tryz.ntmps48
      go_wp2_with (at_mapUpdate; refine wpList_mapUpdate_own _ rfl _ _ _ 85 rfl 3 63 keyedLv Tryz.underlying85 ivE b 4096 D rfl (owns_fr HD.out (S := []) (by (repeat (first | (with_reducible refine Fr.setCell ?_ (fun h => absurd h (Nat.lt_irrefl _)) _) | (with_reducible refine Fr.setCell ?_ (fun h => absurd h (by first | omega | (simp; done) | (simp; omega) | (dsimp only; omega))) _) | (with_reducible refine Fr.alloc ?_ _) | (with_reducible refine Fr.drew ?_) | (with_reducible refine Fr.drewN ?_ _) | (with_reducible exact Fr.refl _ _)))) (by simp)) (by unfold maxLen; omega) _ _ (.int .i64 sn) rfl rfl hkey (ivDt sn (f : Nat) (k : Nat)) [] (ivE_mk _ _ _) ?_; intro w3 hown3 hgrow3; have HO3 := Lib.hid hown3; have HT3 : Hid (LM w0 b nv w3) := Lib.hid (by have h9 := (HM.out.still (W' := _) (by (repeat (first | (with_reducible refine Fr.setCell ?_ (fun h => absurd h (Nat.lt_irrefl _)) _) | (with_reducible refine Fr.setCell ?_ (fun h => absurd h (by first | omega | (simp; done) | (simp; omega) | (dsimp only; omega))) _) | (with_reducible refine Fr.alloc ?_ _) | (with_reducible refine Fr.drew ?_) | (with_reducible refine Fr.drewN ?_ _) | (with_reducible exact Fr.refl _ _))))).turned hgrow3 (MI.put HDM.out HD.out HH.out f k HN.out hown3); rw [HNW.out]; exact h9); have HF3 : Hid (Fr [b] w w3) := Lib.hid (Fr.grown (w := _) (by (repeat (first | (with_reducible refine Fr.setCell ?_ (fun h => absurd h (Nat.lt_irrefl _)) _) | (with_reducible refine Fr.setCell ?_ (fun h => absurd h (by first | omega | (simp; done) | (simp; omega) | (dsimp only; omega))) _) | (with_reducible refine Fr.alloc ?_ _) | (with_reducible refine Fr.drew ?_) | (with_reducible refine Fr.drewN ?_ _) | (with_reducible exact Fr.refl _ _)))) hgrow3 (fun j hj _ => by cases hj; simp)); clear hown3 hgrow3)
      go_end0
      exact ⟨rfl, HT3.out, HF3.out⟩
  · rw [noteV_no k h0]
    clear hs hv
    go_enter Tryz.func48, Tryz.ntmps48
    go_wp2_with fail
    exact bodyPost_ret (results_none rfl _ _ _) rfl ⟨rfl, HM.out.still ((Fr.refl _ _).alloc _), (Fr.refl _ _).alloc _⟩
end Go.Proofs.YtomcfjckhajhmabGreatDoor
namespace Go.Proofs.YtomcfjckhajhmabGreatDoor
open Go.RowKit

/-- what is known when sources were noted, one by one -/
def notesV (val : Int → Option (Nat × Nat)) (l : List Sr) (k : Nat) : Int → Option (Nat × Nat) := l.foldl (fun v s => noteV v s k) val
theorem notesV_snoc (val : Int → Option (Nat × Nat)) (l : List Sr) (s : Sr) (k : Nat) : notesV val (l ++ [s]) k = noteV (notesV val l k) s k := by simp [notesV]
theorem VB.note {val : Int → Option (Nat × Nat)} (h : VB val) (s : Sr) {k : Nat} (hk : k ≤ 1000) : VB (noteV val s k) := fun x f t hx => by
  by_cases h0 : s.kind = 0
  · rw [noteV_reg k h0] at hx
    dsimp only at hx
    by_cases e : x = s.n
    · rw [if_pos e] at hx
      cases hx
      refine ⟨?_, hk⟩
      cases hv : val s.n with
      | none => exact hk
      | some p => exact (h s.n p.1 p.2 hv).1
    · rw [if_neg e] at hx; exact h x f t hx
  · rw [noteV_no k h0] at hx; exact h x f t hx
theorem VB.notes {k : Nat} (hk : k ≤ 1000) : ∀ (l : List Sr) {val : Int → Option (Nat × Nat)}, VB val → VB (notesV val l k)
  | [], _, h => h
  | s :: l, _, h => VB.notes hk l (h.note s hk)
/-- sources in whose place a register of so many stands -/
def RegsIn (l : List Sr) : Prop := ∀ s ∈ l, s.kind = 0 → 0 ≤ s.n ∧ s.n < 4096
theorem ivV_note (E : List (Int × Nat)) (s : Sr) (k : Nat) : noteV (ivV E) s k = ivV (E ++ stamp k (regL [s])) := by
  funext x
  by_cases h0 : s.kind = 0
  · rw [noteV_reg k h0, show stamp k (regL [s]) = [(s.n, k)] by simp [regL, stamp, h0], ivV_snoc]
  · rw [noteV_no k h0, show stamp k (regL [s]) = [] by simp [regL, stamp, h0], List.append_nil]
theorem ivV_notes (k : Nat) : ∀ (l : List Sr) (E : List (Int × Nat)), notesV (ivV E) l k = ivV (E ++ stamp k (regL l))
  | [], E => by simp [notesV, regL, stamp]
  | s :: l, E => by
    show notesV (noteV (ivV E) s k) l k = _
    rw [ivV_note, ivV_notes k l, List.append_assoc, ← stamp_append, ← regL_append]
    rfl
set_option maxRecDepth 100000 in
set_option maxHeartbeats 4000000 in
theorem lv_noteAll (w0 : World) (b : Nat) (val : Int → Option (Nat × Nat)) (l : List Sr) (a : Option Addr) (c k : Nat) (w : World) (h : LM w0 b val w) (hA : SrcsAt w a l) (hl : l.length ≤ 5864062014805) (hs : RegsIn l) (hk : k ≤ 1000) (hv : VB val) (hab : l = [] ∨ ∀ g o, a = some ⟨g, o, none⟩ → g ≠ b) : Calls Tryz.prog 33 #[.map (some b), .slice a l.length c, .int .i64 k] w (LvNoteTo w0 b (notesV val l k) w) := by
  have HN := Lib.hid (fun (s : Sr) (j : Nat) (hj : l[j]? = some s) W (hW : LM w0 b (notesV val (l.take j) k) W) => lv_note w0 b (notesV val (l.take j) k) s k W hW (hs s (List.mem_of_getElem? hj)) hk (VB.notes hk _ hv))
  obtain ⟨ll, hlen⟩ : ∃ n, n = l.length := ⟨_, rfl⟩
  rw [← hlen] at hl ⊢
  have HL := Lib.hid hlen
  have HM := Lib.hid h
  have HA : Hid (∀ W, Fr [b] w W → ∀ j s, l[j]? = some s → ∃ g o, a = some ⟨g, o, none⟩ ∧ W.cell? ⟨g, o + j * 3, none⟩ = some (.int .i64 s.kind) ∧ W.cell? ⟨g, o + j * 3 + 1, none⟩ = some (.int .i64 s.n) ∧ W.cell? ⟨g, o + j * 3 + 2, none⟩ = some (.int .u64 s.w)) := Lib.hid fun W hF j s hj => by
    obtain ⟨g, o, e, c0, c1, c2⟩ := hA j s hj
    have hg : g ∉ [b] := by
      rcases hab with h9 | h9
      · rw [h9] at hj; simp at hj
      · simpa using h9 g o e
    exact ⟨g, o, e, hF.cell hg c0, hF.cell hg c1, hF.cell hg c2⟩
  clear hlen h hA hs hk hv hab
  go_enter Tryz.func33, Tryz.ntmps33
  go_wp2_with fail
  go_loopw [10] (fun i wr => ∃ j : Nat, j ≤ ll ∧ i = .int .i64 j ∧ Hid (LM w0 b (notesV val (l.take j) k) wr) ∧ Hid (Fr [b] w wr)) (fun i _ => ll - (RowKit.intOf i).toNat)
  case atStart => exact ⟨0, Nat.zero_le _, rfl, Lib.hid (by exact HM.out), Fr.refl _ _⟩
  case round =>
    obtain ⟨j, hj, rfl, HR, HFR⟩ := hrel
    by_cases hlt : j < ll
    · obtain ⟨s, hs⟩ : ∃ s, l[j]? = some s := ⟨_, List.getElem?_eq_getElem (by rw [← HL.out]; exact hlt)⟩
      obtain ⟨g, o, rfl, c0, c1, c2⟩ := HA.out _ HFR.out j s hs
      have hg : g < wr.heap.size := World.block_lt_of_cell? wr _ c0
      have k0 : (0 : Int) ≤ (j : Int) := by omega
      have k1 : (j : Int) < (ll : Int) := by omega
      have hn := HN.out s j hs
      unfold Sr.v at hn
      have HTk : Hid (notesV val (l.take (j + 1)) k = noteV (notesV val (l.take j) k) s k) := Lib.hid (by rw [take_snoc hs, notesV_snoc])
      clear hs
      go_wp2_with (go_at_call 48; refine (hn _ (HR.out.still (by (repeat (first | (with_reducible refine Fr.setCell ?_ (fun h => absurd h (Nat.lt_irrefl _)) _) | (with_reducible refine Fr.setCell ?_ (fun h => absurd h (by first | omega | (simp; done) | (simp; omega) | (dsimp only; omega))) _) | (with_reducible refine Fr.alloc ?_ _) | (with_reducible refine Fr.drew ?_) | (with_reducible refine Fr.drewN ?_ _) | (with_reducible exact Fr.refl _ _)))))).mono ?_; rintro e w1 ⟨rfl, hM1, hF1⟩; have HM1 := Lib.hid hM1; have HF1 : Hid (Fr [b] w w1) := Lib.hid ((HFR.out.trans (by (repeat (first | (with_reducible refine Fr.setCell ?_ (fun h => absurd h (Nat.lt_irrefl _)) _) | (with_reducible refine Fr.setCell ?_ (fun h => absurd h (by first | omega | (simp; done) | (simp; omega) | (dsimp only; omega))) _) | (with_reducible refine Fr.alloc ?_ _) | (with_reducible refine Fr.drew ?_) | (with_reducible refine Fr.drewN ?_ _) | (with_reducible exact Fr.refl _ _))))).trans hF1); clear hM1 hF1)
      go_roundw
      case rel => exact ⟨j + 1, by omega, by go_num, Lib.hid (by rw [HTk.out]; exact HM1.out), HF1⟩
      case measure => simp [RowKit.intOf]; omega
    · have hkn : j = ll := by omega
      have HTq : Hid (l.take j = l) := Lib.hid (by rw [hkn, HL.out, List.take_length])
      have hkd : ¬ (j : Int) < (ll : Int) := by omega
      clear hkn hlt
      go_wp2_with fail
      go_end0
      exact ⟨rfl, by have h9 := HR.out; rw [HTq.out] at h9; exact h9, HFR.out⟩
end Go.Proofs.YtomcfjckhajhmabGreatDoor
namespace Go.Proofs.YtomcfjckhajhmabGreatDoor
open Go.RowKit

/-- the sources that an instruction of the code reads and writes -/
def insSrcs (i : Ii) : List Sr := i.l.filter plc ++ (if lvs i.op = true then [i.d] else [])
theorem insSrcs_regs (i : Ii) : regL (insSrcs i) = insRegs i := by
  unfold insSrcs insRegs
  rw [regL_append]
  split <;> rfl
theorem notesV_append (val : Int → Option (Nat × Nat)) (l m : List Sr) (k : Nat) : notesV val (l ++ m) k = notesV (notesV val l k) m k := by simp [notesV]
set_option maxRecDepth 100000 in
set_option maxHeartbeats 4000000 in
theorem lv_noteIns (w0 : World) (b : Nat) (val : Int → Option (Nat × Nat)) (i : Ii) (k : Nat) (w : World) (h : LM w0 b val w) (hI : IB i) (hA : SrcsAt w i.la i.l) (hs : RegsIn (insSrcs i)) (hk : k ≤ 1000) (hv : VB val) : Calls Tryz.prog 34 #[.map (some b), i.v, .int .i64 k] w (LvNoteTo w0 b (notesV val (insSrcs i) k) w) := by
  have HRD : Hid (∀ W, Fr [] w W → Calls Tryz.prog 13 #[i.v] W (ReadsTo (i.l.filter plc) W)) := Lib.hid fun W hF => ir_Reads i W hI (hA.fr hF)
  have HWR : Hid (∀ W, Calls Tryz.prog 14 #[i.v] W (Still (.tuple #[(wrS i).v, .bool (lvs i.op)]) W)) := Lib.hid fun W => ir_Writes i W
  have hsr : RegsIn (i.l.filter plc) := fun s hm => hs s (by unfold insSrcs; simp only [List.mem_append]; exact .inl hm)
  have hfl : (i.l.filter plc).length ≤ 5864062014805 := Nat.le_trans (List.length_filter_le _ _) hI.n
  have HNA : Hid (∀ W, LM w0 b val W → ∀ a c, SrcsAt W a (i.l.filter plc) → (∀ g o, a = some ⟨g, o, none⟩ → g ≠ b) → Calls Tryz.prog 33 #[.map (some b), .slice a (i.l.filter plc).length c, .int .i64 k] W (LvNoteTo w0 b (notesV val (i.l.filter plc) k) W)) := Lib.hid fun W hW a c hSA hab => lv_noteAll w0 b val _ a c k W hW hSA hfl hsr hk hv (.inr hab)
  have HB := Lib.hid (VB.notes hk (i.l.filter plc) hv)
  have HM := Lib.hid h
  have HBL := Lib.hid h.map.lt
  have hcs : lvs i.op = true ∨ lvs i.op = false := by cases lvs i.op <;> simp
  rcases hcs with hl | hl
  · have HNT : Hid (∀ W, LM w0 b (notesV val (i.l.filter plc) k) W → Calls Tryz.prog 48 #[.map (some b), i.d.v, .int .i64 k] W (LvNoteTo w0 b (noteV (notesV val (i.l.filter plc) k) i.d k) W)) := Lib.hid fun W hW => lv_note w0 b _ i.d k W hW (hs i.d (by unfold insSrcs; rw [if_pos hl]; simp)) hk HB.out
    have HE : Hid (notesV val (insSrcs i) k = noteV (notesV val (i.l.filter plc) k) i.d k) := Lib.hid (by unfold insSrcs; rw [if_pos hl, notesV_append]; rfl)
    have HW2 : Hid (∀ W, Calls Tryz.prog 14 #[i.v] W (Still (.tuple #[i.d.v, .bool true]) W)) := Lib.hid fun W => by
      have h9 := HWR.out W
      rw [show wrS i = i.d by unfold wrS; rw [if_pos hl], hl] at h9
      exact h9
    generalize notesV val (insSrcs i) k = nv at *
    generalize i.l.filter plc = fl at *
    obtain ⟨op, n, ⟨dk, dn, dw⟩, la, l, lc, x⟩ := i
    unfold Ii.v at HRD HW2 ⊢
    unfold Sr.v at HW2 HNT
    dsimp only at HRD HW2 HNT ⊢
    generalize l.length = ll at *
    obtain ⟨fll, hfll⟩ : ∃ z, z = fl.length := ⟨_, rfl⟩
    rw [← hfll] at HNA
    have HFLL := Lib.hid hfll
    clear h hI hA hs hv hsr hfl HWR hl hfll
    go_enter Tryz.func34, Tryz.ntmps34
    go_wp2_with (first
      | (go_at_call 13; refine (HRD.out _ (by (repeat (first | (with_reducible refine Fr.setCell ?_ (fun h => absurd h (Nat.lt_irrefl _)) _) | (with_reducible refine Fr.setCell ?_ (fun h => absurd h (by first | omega | (simp; done) | (simp; omega) | (dsimp only; omega))) _) | (with_reducible refine Fr.alloc ?_ _) | (with_reducible refine Fr.drew ?_) | (with_reducible refine Fr.drewN ?_ _) | (with_reducible exact Fr.refl _ _))))).mono ?_; rintro e w1 ⟨v1, rfl, hG⟩; rw [← HFLL.out] at hG; obtain ⟨a1, c1, rfl⟩ := irow_shape hG.row; have HS1 : Hid (SrcsAt w1 a1 fl) := Lib.hid (srcs_of_row hG.row); have HN1 : Hid (∀ g o, a1 = some ⟨g, o, none⟩ → g ≠ b) := Lib.hid (fun g o e => by cases e; have h8 := hG.new g rfl; have h7 := HBL.out; simp at h8; omega); have HF1 : Hid (Fr [] w w1) := Lib.hid (Fr.trans (by (repeat (first | (with_reducible refine Fr.setCell ?_ (fun h => absurd h (Nat.lt_irrefl _)) _) | (with_reducible refine Fr.setCell ?_ (fun h => absurd h (by first | omega | (simp; done) | (simp; omega) | (dsimp only; omega))) _) | (with_reducible refine Fr.alloc ?_ _) | (with_reducible refine Fr.drew ?_) | (with_reducible refine Fr.drewN ?_ _) | (with_reducible exact Fr.refl _ _)))) hG.fr); have HI1 := Lib.hid (hG.fr.heap (by simp) (heap_new w _)); clear hG)
      | (go_at_call 33; (with_reducible refine (HNA.out _ (HM.out.still HF1.out) _ _ HS1.out HN1.out).mono ?_); rintro e w2 ⟨rfl, hM2, hF2⟩; have HM2 := Lib.hid hM2; have HF2 : Hid (Fr [b] w w2) := Lib.hid (HF1.out.weak.trans hF2); have hi2 := hF2.heap (by have := HBL.out; simp; omega) HI1.out; have i0 := cell_of_heap (o := 0) hi2 rfl; have i1 := cell_of_heap (o := 1) hi2 rfl; have i2 := cell_of_heap (o := 2) hi2 rfl; have i3 := cell_of_heap (o := 3) hi2 rfl; have i4 := cell_of_heap (o := 4) hi2 rfl; have i5 := cell_of_heap (o := 5) hi2 rfl; have i6 := cell_of_heap (o := 6) hi2 rfl; have hl2 := lt_of_heap hi2; clear hM2 hF2 hi2)
      | (go_at_call 14; refine (HW2.out _).mono ?_; rintro e w3 ⟨rfl, hF3⟩; have HF3 : Hid (Fr [] w2 w3) := Lib.hid (Fr.trans (by (repeat (first | (with_reducible refine Fr.setCell ?_ (fun h => absurd h (Nat.lt_irrefl _)) _) | (with_reducible refine Fr.setCell ?_ (fun h => absurd h (by first | omega | (simp; done) | (simp; omega) | (dsimp only; omega))) _) | (with_reducible refine Fr.alloc ?_ _) | (with_reducible refine Fr.drew ?_) | (with_reducible refine Fr.drewN ?_ _) | (with_reducible exact Fr.refl _ _)))) hF3); clear hF3)
      | (go_at_call 48; refine (HNT.out _ (HM2.out.still (by (repeat (first | (with_reducible refine Fr.setCell ?_ (fun h => absurd h (Nat.lt_irrefl _)) _) | (with_reducible refine Fr.setCell ?_ (fun h => absurd h (by first | omega | (simp; done) | (simp; omega) | (dsimp only; omega))) _) | (with_reducible refine Fr.alloc ?_ _) | (with_reducible refine Fr.drew ?_) | (with_reducible refine Fr.drewN ?_ _) | (with_reducible exact HF3.out)))))).mono ?_; rintro e w4 ⟨rfl, hM4, hF4⟩; have HM4 := Lib.hid hM4; have HF4 : Hid (Fr [b] w w4) := Lib.hid ((HF2.out.trans (Fr.weak (by (repeat (first | (with_reducible refine Fr.setCell ?_ (fun h => absurd h (Nat.lt_irrefl _)) _) | (with_reducible refine Fr.setCell ?_ (fun h => absurd h (by first | omega | (simp; done) | (simp; omega) | (dsimp only; omega))) _) | (with_reducible refine Fr.alloc ?_ _) | (with_reducible refine Fr.drew ?_) | (with_reducible refine Fr.drewN ?_ _) | (with_reducible exact HF3.out)))))).trans hF4); clear hM4 hF4))
    go_end0
    exact ⟨rfl, by rw [HE.out]; exact HM4.out, HF4.out⟩
  · have HE : Hid (notesV val (insSrcs i) k = notesV val (i.l.filter plc) k) := Lib.hid (by unfold insSrcs; rw [if_neg (by simp [hl]), List.append_nil])
    have HW2 : Hid (∀ W, Calls Tryz.prog 14 #[i.v] W (Still (.tuple #[zeroS.v, .bool false]) W)) := Lib.hid fun W => by
      have h9 := HWR.out W
      rw [show wrS i = zeroS by unfold wrS; rw [if_neg (by simp [hl])], hl] at h9
      exact h9
    generalize notesV val (insSrcs i) k = nv at *
    generalize i.l.filter plc = fl at *
    obtain ⟨op, n, ⟨dk, dn, dw⟩, la, l, lc, x⟩ := i
    unfold Ii.v at HRD HW2 ⊢
    unfold Sr.v zeroS at HW2
    dsimp only at HRD HW2 ⊢
    generalize l.length = ll at *
    obtain ⟨fll, hfll⟩ : ∃ z, z = fl.length := ⟨_, rfl⟩
    rw [← hfll] at HNA
    have HFLL := Lib.hid hfll
    clear h hI hA hs hv hsr hfl HWR hl hfll
    go_enter Tryz.func34, Tryz.ntmps34
    go_wp2_with (first
      | (go_at_call 13; refine (HRD.out _ (by (repeat (first | (with_reducible refine Fr.setCell ?_ (fun h => absurd h (Nat.lt_irrefl _)) _) | (with_reducible refine Fr.setCell ?_ (fun h => absurd h (by first | omega | (simp; done) | (simp; omega) | (dsimp only; omega))) _) | (with_reducible refine Fr.alloc ?_ _) | (with_reducible refine Fr.drew ?_) | (with_reducible refine Fr.drewN ?_ _) | (with_reducible exact Fr.refl _ _))))).mono ?_; rintro e w1 ⟨v1, rfl, hG⟩; rw [← HFLL.out] at hG; obtain ⟨a1, c1, rfl⟩ := irow_shape hG.row; have HS1 : Hid (SrcsAt w1 a1 fl) := Lib.hid (srcs_of_row hG.row); have HN1 : Hid (∀ g o, a1 = some ⟨g, o, none⟩ → g ≠ b) := Lib.hid (fun g o e => by cases e; have h8 := hG.new g rfl; have h7 := HBL.out; simp at h8; omega); have HF1 : Hid (Fr [] w w1) := Lib.hid (Fr.trans (by (repeat (first | (with_reducible refine Fr.setCell ?_ (fun h => absurd h (Nat.lt_irrefl _)) _) | (with_reducible refine Fr.setCell ?_ (fun h => absurd h (by first | omega | (simp; done) | (simp; omega) | (dsimp only; omega))) _) | (with_reducible refine Fr.alloc ?_ _) | (with_reducible refine Fr.drew ?_) | (with_reducible refine Fr.drewN ?_ _) | (with_reducible exact Fr.refl _ _)))) hG.fr); have HI1 := Lib.hid (hG.fr.heap (by simp) (heap_new w _)); clear hG)
      | (go_at_call 33; (with_reducible refine (HNA.out _ (HM.out.still HF1.out) _ _ HS1.out HN1.out).mono ?_); rintro e w2 ⟨rfl, hM2, hF2⟩; have HM2 := Lib.hid hM2; have HF2 : Hid (Fr [b] w w2) := Lib.hid (HF1.out.weak.trans hF2); have hi2 := hF2.heap (by have := HBL.out; simp; omega) HI1.out; have i0 := cell_of_heap (o := 0) hi2 rfl; have i1 := cell_of_heap (o := 1) hi2 rfl; have i2 := cell_of_heap (o := 2) hi2 rfl; have i3 := cell_of_heap (o := 3) hi2 rfl; have i4 := cell_of_heap (o := 4) hi2 rfl; have i5 := cell_of_heap (o := 5) hi2 rfl; have i6 := cell_of_heap (o := 6) hi2 rfl; have hl2 := lt_of_heap hi2; clear hM2 hF2 hi2)
      | (go_at_call 14; refine (HW2.out _).mono ?_; rintro e w3 ⟨rfl, hF3⟩; have HF3 : Hid (Fr [] w2 w3) := Lib.hid (Fr.trans (by (repeat (first | (with_reducible refine Fr.setCell ?_ (fun h => absurd h (Nat.lt_irrefl _)) _) | (with_reducible refine Fr.setCell ?_ (fun h => absurd h (by first | omega | (simp; done) | (simp; omega) | (dsimp only; omega))) _) | (with_reducible refine Fr.alloc ?_ _) | (with_reducible refine Fr.drew ?_) | (with_reducible refine Fr.drewN ?_ _) | (with_reducible exact Fr.refl _ _)))) hF3); clear hF3))
    go_end0
    exact ⟨rfl, by rw [HE.out]; exact HM2.out.still (by (repeat (first | (with_reducible refine Fr.setCell ?_ (fun h => absurd h (Nat.lt_irrefl _)) _) | (with_reducible refine Fr.setCell ?_ (fun h => absurd h (by first | omega | (simp; done) | (simp; omega) | (dsimp only; omega))) _) | (with_reducible refine Fr.alloc ?_ _) | (with_reducible refine Fr.drew ?_) | (with_reducible refine Fr.drewN ?_ _) | (with_reducible exact HF3.out)))), HF2.out.trans (Fr.weak (by (repeat (first | (with_reducible refine Fr.setCell ?_ (fun h => absurd h (Nat.lt_irrefl _)) _) | (with_reducible refine Fr.setCell ?_ (fun h => absurd h (by first | omega | (simp; done) | (simp; omega) | (dsimp only; omega))) _) | (with_reducible refine Fr.alloc ?_ _) | (with_reducible refine Fr.drew ?_) | (with_reducible refine Fr.drewN ?_ _) | (with_reducible exact HF3.out)))))⟩
end Go.Proofs.YtomcfjckhajhmabGreatDoor
