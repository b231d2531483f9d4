/- ir: a unit in other places may be if and only if it may be. -/
import Derived.Test.YtcdpgchkdjjfgaaIrCopy
import Derived.Test.YtcdpgchkdjjfgaaIrCheck
namespace Go.Proofs.Ytcdpgchkdjjfgaa
open Go.RowKit

theorem er_at {l m : List Ii} (h : l.map Ii.er = m.map Ii.er) {k : Nat} {a : Ii} (hk : m[k]? = some a) : ∃ b, l[k]? = some b ∧ b.er = a.er := by
  have h1 : (l.map Ii.er)[k]? = (m.map Ii.er)[k]? := by rw [h]
  rw [List.getElem?_map, List.getElem?_map, hk] at h1
  cases hl : l[k]? with
  | none => rw [hl] at h1; cases h1
  | some b => rw [hl] at h1; exact ⟨b, rfl, by simpa using h1⟩
theorem er_len {l m : List Ii} (h : l.map Ii.er = m.map Ii.er) : l.length = m.length := by
  have := congrArg List.length h
  simpa using this
theorem er_fields {a b : Ii} (h : b.er = a.er) : b.op = a.op ∧ b.n = a.n ∧ b.d = a.d ∧ b.l = a.l ∧ b.w = a.w := by
  simp only [Ii.er, Ii.mk.injEq] at h
  exact ⟨h.1, h.2.1, h.2.2.1, h.2.2.2.2.1, h.2.2.2.2.2.2⟩
theorem er_mem {l m : List Ii} (h : l.map Ii.er = m.map Ii.er) {a : Ii} (ha : a ∈ m) : ∃ b ∈ l, b.er = a.er := by
  obtain ⟨k, hk⟩ := List.getElem?_of_mem ha
  obtain ⟨b, hb, he⟩ := er_at h hk
  exact ⟨b, List.mem_of_getElem? hb, he⟩
theorem insOk_er (R P S M : Int) (i : Ii) : insOk R P S M i.er = insOk R P S M i := rfl
theorem all_er {l m : List Ii} (h : l.map Ii.er = m.map Ii.er) (R P S M : Int) : l.all (insOk R P S M) = m.all (insOk R P S M) := by
  have e (l : List Ii) : l.all (insOk R P S M) = (l.map Ii.er).all (insOk R P S M) := by rw [List.all_map]; rfl
  rw [e l, e m, h]
theorem apart_er {l m : List Ii} (h : l.map Ii.er = m.map Ii.er) (ha : apart l) : apart m := by
  intro i j a b hij hi hj h7 h8
  obtain ⟨a', h1, e1⟩ := er_at h hi
  obtain ⟨b', h2, e2⟩ := er_at h hj
  have f1 := er_fields e1
  have f2 := er_fields e2
  rw [← f1.2.1, ← f2.2.1]
  exact ha i j a' b' hij h1 h2 (f1.1.trans h7) (f2.1.trans h8)
theorem ones_er {l m : List Ii} (h : l.map Ii.er = m.map Ii.er) (ha : ∀ i ∈ l, i.op = 1) : ∀ i ∈ m, i.op = 1 := by
  intro i hi
  obtain ⟨b, hb, he⟩ := er_mem h hi
  rw [← (er_fields he).1]
  exact ha b hb
theorem maps_len {u v : Un} (h : SameU u v) : v.maps.length = u.maps.length := by
  have := congrArg List.length h.maps
  simpa using this
theorem errU_same {u v : Un} (h : SameU u v) : errU v = errU u := by
  have hm := maps_len h
  have h1 : numsOk v = numsOk u := by unfold numsOk; rw [h.method, h.args, h.temps, h.regs, h.spills, h.sites]
  have h2 : startsOk v = startsOk u := by
    rw [Bool.eq_iff_iff, startsOk_iff, startsOk_iff, h.starts, hm, er_len h.code]
  have h3 : v.maps.all (mapOk v.regs v.spills v.temps) = u.maps.all (mapOk u.regs u.spills u.temps) := by
    rw [h.regs, h.spills, h.temps]
    have e (l : List Mp) : l.all (mapOk u.regs u.spills u.temps) = (l.map Mp.l).all (fun q => (decide (q.length = 0) || wtn q.length u.temps (u.temps + 16)) && q.all (srcOk u.regs u.spills)) := by rw [List.all_map]; rfl
    rw [e, e, h.maps]
  have h4 : codeOk v = codeOk u := by
    rw [Bool.eq_iff_iff, codeOk_iff, codeOk_iff, h.regs, h.spills, h.sites, hm, all_er h.enter, all_er h.code]
    constructor
    · rintro ⟨a, b, c, d⟩; exact ⟨ones_er h.enter a, b, c, apart_er h.code d⟩
    · rintro ⟨a, b, c, d⟩; exact ⟨ones_er h.enter.symm a, b, c, apart_er h.code.symm d⟩
  unfold errU okU
  rw [h1, h2, h3, h4]
theorem IB_er {a b : Ii} (h : b.er = a.er) (ha : IB a) (hs : SlOk b.la b.l.length b.lc) : IB b := by
  obtain ⟨-, -, hd, hl, hw⟩ := er_fields h
  exact ⟨hs, by rw [hw]; exact ha.w, by rw [hd]; exact ha.d, by rw [hl]; exact ha.l, by rw [hl]; exact ha.n⟩
theorem UB_same {u v : Un} {lo : Nat} {w : World} (h : SameU u v) (hB : UB u) (hO : OwnU lo w v) : UB v := by
  refine ⟨fun i hi => ?_, fun i hi => ?_, fun m hm => ?_, hO.enter.1, hO.code.1, hO.starts.1, hO.maps.1, by rw [er_len h.enter]; exact hB.en, by rw [er_len h.code]; exact hB.cn, by rw [h.starts]; exact hB.sn, by rw [maps_len h]; exact hB.mn, by rw [h.method]; exact hB.method, by rw [h.starts]; exact hB.sb, by rw [h.args]; exact hB.args, by rw [h.temps]; exact hB.temps, by rw [h.regs]; exact hB.regs, by rw [h.spills]; exact hB.spills, by rw [h.sites]; exact hB.sites⟩
  · obtain ⟨b, hb, he⟩ := er_mem h.enter.symm hi
    exact IB_er he.symm (hB.enter b hb) (hO.enter.2.2 i hi).1
  · obtain ⟨b, hb, he⟩ := er_mem h.code.symm hi
    exact IB_er he.symm (hB.code b hb) (hO.code.2.2 i hi).1
  · have h1 : m.l ∈ u.maps.map Mp.l := by rw [← h.maps]; exact List.mem_map.2 ⟨m, hm, rfl⟩
    obtain ⟨b, hb, he⟩ := List.mem_map.1 h1
    have h2 := hB.maps b hb
    exact ⟨by rw [← he]; exact h2.1, by rw [← he]; exact h2.2.1, (hO.maps.2.2 m hm).1⟩
end Go.Proofs.Ytcdpgchkdjjfgaa
