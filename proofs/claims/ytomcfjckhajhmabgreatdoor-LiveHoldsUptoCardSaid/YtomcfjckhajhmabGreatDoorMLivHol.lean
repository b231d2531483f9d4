/- live: what a unit uses at an instruction, as a list of sources; lists that are put together. -/
import Derived.Test.YtomcfjckhajhmabGreatDoorMLvK
import Derived.Test.YtomcfjckhajhmabGreatDoorMLvN
import Derived.Test.YtomcfjckhajhmabGreatDoorMLvB
import Derived.Test.YtomcfjckhajhmabGreatDoorMIrB
import Derived.Laws.OwnMore
namespace Go.Proofs.YtomcfjckhajhmabGreatDoor
open Go.RowKit

def allP (u : Un) (pc : Nat) : List Sr := mapU u pc ++ (partU u pc).flatMap insSrcs
theorem regL_flat (l : List Ii) : regL (l.flatMap insSrcs) = l.flatMap insRegs := by
  induction l with
  | nil => rfl
  | cons a r ih => rw [List.flatMap_cons, List.flatMap_cons, regL_append, ih, insSrcs_regs]
theorem regL_all (u : Un) (pc : Nat) : regL (allP u pc) = usesAt u pc := by
  unfold allP usesAt
  rw [regL_append, regL_flat]
theorem all_in {u : Un} (hU : UOk u) {pc : Nat} (hpc : pc < u.maps.length) {s : Sr} (hs : s ∈ allP u pc) (h0 : s.kind = 0) : ∃ f t, ofL (ivsU u) s.n = some (s.n, f, t) ∧ f ≤ pc ∧ pc ≤ t := by
  have h1 : s.n ∈ usesAt u pc := by
    rw [← regL_all]
    exact List.mem_map.2 ⟨s, List.mem_filter.2 ⟨hs, by simp [h0]⟩, rfl⟩
  have hm : (s.n, pc) ∈ evs u u.maps.length := mem_evs.2 ⟨hpc, h1⟩
  have hr := uses_in hU h1
  cases hv : ivV (evs u u.maps.length) s.n with
  | none => exact absurd hm (ivV_none hv pc)
  | some p =>
    obtain ⟨f, t⟩ := p
    have h2 := (ivV_some (rise_evs u _) hv).2.2.2 pc hm
    refine ⟨f, t, ?_, h2.1, h2.2⟩
    unfold ivsU
    exact ofL_ivs hr.1 (by omega) hv
theorem meet_at {f1 t1 f2 t2 pc : Nat} (h1 : f1 ≤ pc) (h2 : pc ≤ t1) (h3 : f2 ≤ pc) (h4 : pc ≤ t2) : meetB f1 t1 f2 t2 = true := by unfold meetB; simp; omega
/-- what the statement asks of each interval -/
theorem ivs_ok {u : Un} (hU : UOk u) {i : Nat} {v : Int} {f t : Nat} (h : (ivsU u)[i]? = some (v, f, t)) : f ≤ t ∧ t < u.maps.length := by
  have h1 := mem_ivs.1 (List.mem_of_getElem? h)
  have h2 := ivV_some (rise_evs u _) h1.2.2
  exact ⟨h2.2.2.1, (mem_evs.1 h2.2.1).1⟩
theorem ivs_up {u : Un} {i : Nat} {v v' : Int} {f t f' t' : Nat} (h : (ivsU u)[i]? = some (v, f, t)) (h' : (ivsU u)[i + 1]? = some (v', f', t')) : v < v' := by
  have hp := ivKeys_rise (ivV (evs u u.maps.length)) u.regs.toNat
  rw [← ivs_keys] at hp
  have hl := (List.getElem?_eq_some_iff.1 h').1
  have e1 : ((ivsU u).map Prod.fst)[i]? = some v := by rw [List.getElem?_map, h]; rfl
  have e2 : ((ivsU u).map Prod.fst)[i + 1]? = some v' := by rw [List.getElem?_map, h']; rfl
  have h9 := List.pairwise_iff_getElem.1 hp i (i + 1) (by simpa [ivsU] using (Nat.lt_of_succ_lt hl)) (by simpa [ivsU] using hl) (by omega)
  rw [List.getElem?_eq_some_iff] at e1 e2
  obtain ⟨b1, e1⟩ := e1
  obtain ⟨b2, e2⟩ := e2
  have : ((ivsU u).map Prod.fst)[i] < ((ivsU u).map Prod.fst)[i + 1] := h9
  rw [e1, e2] at this
  exact this
theorem map_small {u : Un} (h : okU u = true) {m : Mp} (hm : m ∈ u.maps) : m.l.length ≤ 32 := by
  unfold okU at h
  simp only [Bool.and_eq_true] at h
  have hn := (numsOk_iff u).1 h.1.1.1
  have h9 := List.all_eq_true.1 h.1.2 m hm
  unfold mapOk wtn at h9
  simp only [Bool.and_eq_true, Bool.or_eq_true, decide_eq_true_eq] at h9
  omega
theorem ins_small {R P S M : Int} {i : Ii} (h : insOkU R P S M i = true) : (insSrcs i).length ≤ 6 := by
  unfold insOkU at h
  simp only [Bool.and_eq_true] at h
  have h1 := h.1.1.1.1
  unfold wtn mst at h1
  simp only [decide_eq_true_eq] at h1
  have h2 := List.length_filter_le plc i.l
  unfold insSrcs
  rw [List.length_append]
  have h3 : (if lvs i.op = true then [i.d] else []).length ≤ 1 := by split <;> simp
  have h4 : (i.l.length : Int) ≤ 5 := by
    have := h1.2
    split at this
    · omega
    · split at this
      · omega
      · split at this
        · omega
        · split at this <;> omega
  omega
theorem flat_small {R P S M : Int} : ∀ (l : List Ii), (∀ i ∈ l, insOkU R P S M i = true) → (l.flatMap insSrcs).length ≤ 6 * l.length
  | [], _ => by simp
  | i :: l, h => by
    have h1 := ins_small (h i (by simp))
    have h2 := flat_small l (fun j hj => h j (by simp [hj]))
    rw [List.flatMap_cons, List.length_append, List.length_cons]
    omega
set_option maxRecDepth 100000 in
/-- a list of sources is put behind another -/
theorem app_srcs {w0 w : World} {l news : List Sr} {v : Value} (h : IGrows w0 57 3 l.length (flatS l) v w) (xa : Option Addr) (c : Nat) (hn : SrcsAt w xa news) (hk : SlOk xa news.length c) (hb : l.length + news.length ≤ 5864062014805) (ty : TypeId) :
    ∃ v' w', (Builtin.append_ #[54, 54] ty #[v, .slice xa news.length c]).run Tryz.prog w = .ok v' w' ∧ IGrows w0 57 3 (l ++ news).length (flatS (l ++ news)) v' w' := by
  obtain ⟨i0, hi, hz0, hz1, hz2⟩ := info_parts infoSrc
  have hfl : flatS (l ++ news) = flatS l ++ flatS news := by simp [flatS]
  rw [hfl, List.length_append]
  cases xa with
  | some ad =>
    obtain ⟨v', w', hr, ho, hg, hf⟩ := run_append_at (P := Tryz.prog) w 54 ty 57 i0 _ 3 24 Tryz.underlying54 hi hz0 hz1 hz2 rfl (by decide) v l.length (flatS l) h.row ad news.length c (flatS news) (flatS_len news) (srcs_news hn) (flatS_one news) (by unfold maxLen; omega) (by omega)
    exact ⟨v', w', hr, h.step (Fr.refl _ _) ho hg hf⟩
  | none =>
    obtain ⟨h1, rfl⟩ := hk.nil0 rfl
    have h2 : news = [] := List.eq_nil_of_length_eq_zero h1
    subst h2
    refine ⟨v, w, run_append_owned_none (P := Tryz.prog) w 0 54 ty 57 i0 3 Tryz.underlying54 hi v l.length (flatS l) h.row, ?_⟩
    simpa [flatS] using h
theorem grows_empty9 (w : World) : IGrows w 57 3 ([] : List Sr).length (flatS []) (.slice (some ⟨w.heap.size, 0, none⟩) 0 0) (w.alloc (.cells #[] 57)) := ⟨owns_empty w 57 3, (Fr.refl _ _).alloc _, fun b hb => by cases hb; exact Nat.le_refl _⟩
theorem slok_row {w w' : World} {a : Option Addr} {c : Nat} {l : List Sr} (h : IGrows w 57 3 l.length (flatS l) (.slice a l.length c) w') : SlOk a l.length c := slok_of h
theorem srcs_one {w : World} (s : Sr) : SrcsAt (w.alloc (.cells #[.int .i64 s.kind, .int .i64 s.n, .int .u64 s.w] 57)) (some ⟨w.heap.size, 0, none⟩) [s] := by
  intro k x hk
  have hl := (List.getElem?_eq_some_iff.1 hk).1
  obtain rfl : k = 0 := by simpa using hl
  cases hk
  have hb := heap_new w (.cells #[.int .i64 s.kind, .int .i64 s.n, .int .u64 s.w] 57)
  exact ⟨_, 0, rfl, cell_of_heap hb rfl, cell_of_heap hb rfl, cell_of_heap hb rfl⟩
theorem srcs_one2 (w : World) (o : Obj) (s : Sr) : SrcsAt ((w.alloc o).alloc (.cells #[.int .i64 s.kind, .int .i64 s.n, .int .u64 s.w] 57)) (some ⟨w.heap.size + 1, 0, none⟩) [s] := by
  have h := srcs_one (w := w.alloc o) s
  rwa [show (w.alloc o).heap.size = w.heap.size + 1 by simp] at h
theorem slok_one (g : Nat) : SlOk (some ⟨g, 0, none⟩) ([zeroS] : List Sr).length 1 := ⟨(fun h => by cases h), Nat.le_refl _, (by unfold maxLen; omega)⟩
end Go.Proofs.YtomcfjckhajhmabGreatDoor
