/- gen: what has no code in a unit that Gen answers. -/
import Derived.Test.YtcbplibbfoajgaaDoorMGlA
namespace Go.Proofs.YtcbplibbfoajgaaDoor
open Go.RowKit

/-- what jumps go to, and where they stand, is marked -/
def Goals (code : List Ins) (k : Nat) (L : List Bool) : Prop := ∀ (j : Nat) (i : Ins), j < k → code[j]? = some i → (i.op = 14 ∨ i.op = 15 ∨ i.op = 16) → ∀ p : Nat, (i.a = (p : Int) ∨ j = p) → L[p]? = some true
theorem setb_true {L : List Bool} {p : Nat} (h : L[p]? = some true) (q : Nat) : (L.set q true)[p]? = some true := by
  rw [List.getElem?_set]
  have hl := (List.getElem?_eq_some_iff.1 h).1
  split
  · rename_i e
    subst e
    rw [if_pos hl]
  · exact h
theorem setb_same {L : List Bool} {q : Nat} (h : q < L.length) : (L.set q true)[q]? = some true := by
  rw [List.getElem?_set, if_pos rfl, if_pos h]
theorem Goals.start (code : List Ins) (L : List Bool) : Goals code 0 L := fun j i h => absurd h (by omega)
theorem Goals.jump {code : List Ins} {k : Nat} {L : List Bool} {i : Ins} {ja : Nat} (h : Goals code k L) (hi : code[k]? = some i) (ha : i.a = (ja : Int)) (h1 : ja < L.length) (h2 : k < L.length) : Goals code (k + 1) ((L.set ja true).set k true) := fun j x hj hx hop p hp => by
  by_cases e : j = k
  · subst e
    rw [hi] at hx
    cases hx
    rcases hp with hp | hp
    · obtain rfl : ja = p := by omega
      exact setb_true (setb_same h1) _
    · subst hp
      exact setb_same (by rw [List.length_set]; exact h2)
  · exact setb_true (setb_true (h j x (by omega) hx hop p hp) _) _
theorem Goals.pass {code : List Ins} {k : Nat} {L : List Bool} {i : Ins} (h : Goals code k L) (hi : code[k]? = some i) (hn : ¬ (i.op = 14 ∨ i.op = 15 ∨ i.op = 16)) : Goals code (k + 1) L := fun j x hj hx hop p hp => by
  by_cases e : j = k
  · subst e
    rw [hi] at hx
    cases hx
    exact absurd hop hn
  · exact h j x (by omega) hx hop p hp
/-- what is only pushed, or dropped: as much code as there is none -/
theorem short_at {m : Mth} {method : Int} {v : Un} {w : World} (hs : SameU ((gmOf m).unit method) v) (hA : UAt w v) {L : List Bool} (hG : Goals m.code m.code.length L) {p : Nat} {i : Ins} (hi : m.code[p]? = some i) (hl : light i.op) (hb : L[p + 1]? = some false) : ∃ b, StAt w v p b 0 := by
  obtain ⟨b, hst, -⟩ := starts_of hs hA hi
  have h9 := GM.short (g := gmOf m) (p := p) (gm_at hi) hl (fun j x hx hj => by
    obtain ⟨y, hy, rfl⟩ := gm_code hx
    have hjl := (List.getElem?_eq_some_iff.1 hy).1
    unfold GI.jumps at hj
    refine ⟨fun e => ?_, fun e => ?_⟩
    · have := hG j y hjl hy hj (p + 1) (.inl e)
      rw [hb] at this
      cases this
    · have := hG j y hjl hy hj (p + 1) (.inr e)
      rw [hb] at this
      cases this)
  rw [h9] at hst
  refine ⟨b, ?_⟩
  have e : (if (gmOf m).on p then ([] : List Ii) else []).length = 0 := by split <;> rfl
  rw [e] at hst
  exact hst
theorem off_at {m : Mth} {method : Int} {v : Un} {w : World} (hs : SameU ((gmOf m).unit method) v) (hA : UAt w v) {p : Nat} {i : Ins} (hi : m.code[p]? = some i) (ho : ¬ (gmOf m).on p) : ∃ b, StAt w v p b 0 := by
  obtain ⟨b, hst, -⟩ := starts_of hs hA hi
  rw [if_neg ho] at hst
  exact ⟨b, hst⟩
theorem jump_in {m : Mth} (g : m.good) {p : Nat} {i : Ins} (hi : m.code[p]? = some i) (hop : i.op = 14 ∨ i.op = 15 ∨ i.op = 16) : 0 ≤ i.a ∧ i.a < m.code.length := by
  have h1 := (Ins.ok_iff i).1 ((m.ok_iff.1 g.ok).2 i (List.mem_of_getElem? hi))
  have h2 := g.op i (List.mem_of_getElem? hi)
  unfold Mth.opOk at h2
  rw [if_neg (by omega), if_neg (by omega), if_neg (by omega), if_neg (by omega), if_pos hop] at h2
  have h3 := of_decide_eq_true h2
  omega
def oneM : Mth := ⟨0, 0, 0, 0, [], [⟨18, 0, 0⟩]⟩
theorem oneM_good : oneM.good := Mth.good_of (t := [0]) (by decide) (by decide) rfl (by decide) (by decide)
theorem oneM_depths : oneM.depths = [0] := by
  have h0 : Way oneM 0 0 := .start
  refine Mth.depths_of (t := [0]) oneM_good rfl fun pc d h => ?_
  match pc with
  | 0 => cases h; exact h0
  | n + 1 => simp at h
theorem oneM_is : gmOf oneM = ⟨0, 0, 0, [], [⟨18, 0, 0⟩], [0]⟩ := by unfold gmOf; rw [oneM_depths]; rfl
theorem oneM_ok : GenOk oneM 4 := by
  refine ⟨oneM_good, by decide, by decide, Mth.lack_no fun j i _ hi h => ?_⟩
  have hm := List.mem_of_getElem? hi
  have h2 : ∀ i ∈ oneM.code, ¬ (i.op = 3 ∨ i.op = 11) := by decide
  exact h2 i hm h.2.1
theorem oneG_at {W : World} (hg : VG W) (b : Nat) (hb : W.heap[b]? = some (.cells #[.int .i64 18, .int .i64 0, .int .i64 0] 40 (0, 0))) :
    Calls Tryd.prog 7 #[.agg #[.int .i64 0, .int .i64 0, .int .i64 0, .int .i64 0, .slice none 0 0, .slice (some ⟨b, 0, none⟩) 1 1], .int .u64 4] W fun e w' => Fr [] W w' ∧ ∃ v : Un, e = .returned (.tuple #[v.v, .int .i64 0]) ∧ v.code.length = 1 := by
  have hr : RowAt W (some ⟨b, 0, none⟩) (flatI oneM.code) := fun j u hj => ⟨b, 0, rfl, by rw [Nat.zero_add]; exact cell_of_heap hb (by have h9 := hj; simpa [oneM, flatI] using h9)⟩
  have h := gn_Gen oneM 4 none (some ⟨b, 0, none⟩) 0 1 W hr (fun j u hj => by simp [oneM] at hj) hg
  refine h.mono ?_
  rintro e w' ⟨hF, ⟨-, v, lo, he, hs, hO⟩ | ⟨hn, -⟩⟩
  · refine ⟨hF, v, he, ?_⟩
    rw [er_len hs.code, oneM_is, unit_one]
    rfl
  · exact absurd oneM_ok hn
end Go.Proofs.YtcbplibbfoajgaaDoor
