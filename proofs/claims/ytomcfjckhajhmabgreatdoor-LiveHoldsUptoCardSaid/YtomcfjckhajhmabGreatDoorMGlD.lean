/- gen: the words of a unit are words: plain; and a unit that Gen answers may be. -/
import Derived.Test.YtomcfjckhajhmabGreatDoorMGlC
import Derived.Test.YtomcfjckhajhmabGreatDoorMGenA
namespace Go.Proofs.YtomcfjckhajhmabGreatDoor
open Go.RowKit

def AllSB (N : List Sr) : Prop := ∀ s ∈ N, SB s
theorem SB.z {k n : Int} : SB ⟨k, n, 0⟩ := ⟨Int.le_refl _, by simp⟩
theorem AllSB.push {N : List Sr} (h : AllSB N) {s : Sr} (hs : SB s) : AllSB (N ++ [s]) := fun x hx => by
  rcases List.mem_append.1 hx with h1 | h1
  · exact h x h1
  · simp only [List.mem_singleton] at h1; subst h1; exact hs
theorem AllSB.homes (T : Int) (n : Nat) : AllSB (homes T n) := fun s hs => by
  simp only [Go.Proofs.YtomcfjckhajhmabGreatDoor.homes, List.mem_map] at hs
  obtain ⟨d, -, rfl⟩ := hs
  exact SB.z
theorem AllSB.dropLast {N : List Sr} (h : AllSB N) : AllSB N.dropLast := fun s hs => h s ((List.dropLast_sublist N).mem hs)
theorem AllSB.top {N : List Sr} (h : AllSB N) : SB (top N) := by
  unfold Go.Proofs.YtomcfjckhajhmabGreatDoor.top
  rw [List.getLastD_eq_getLast?]
  cases hg : N.getLast? with
  | none => exact SB.z
  | some s => exact h s (List.mem_of_getLast? hg)
theorem AllSB.flush {N : List Sr} (T a : Int) : ∀ (d : Nat) (N : List Sr), AllSB N → AllSB (flushN T a d N)
  | _, [], _ => fun s hs => by simp [flushN] at hs
  | d, x :: l, h => fun s hs => by
    rw [flushN, List.mem_cons] at hs
    rcases hs with rfl | hs
    · split
      · exact SB.z
      · exact h x (List.mem_cons_self ..)
    · exact AllSB.flush (N := N) T a (d + 1) l (fun y hy => h y (List.mem_cons_of_mem _ hy)) s hs
/-- the words of an instruction are words -/
structure IW (i : Ii) : Prop where
  w : WU i.w
  d : SB i.d
  l : AllSB i.l
  n : i.l.length ≤ 5864062014805
theorem WU.z : WU 0 := ⟨Int.le_refl _, by simp⟩
theorem IW.mv {d s : Sr} (hd : SB d) (hs : SB s) : IW (mvI d s) := ⟨WU.z, hd, fun x hx => by simp [mvI, mkI] at hx; subst hx; exact hs, by simp [mvI, mkI]⟩
theorem bring_IW (T : Int) : ∀ (d : Nat) (N : List Sr), AllSB N → ∀ x ∈ bringC T d N, IW x
  | _, [], _, x, hx => by simp [bringC] at hx
  | d, s :: l, h, x, hx => by
    rw [bringC, List.mem_append] at hx
    rcases hx with hx | hx
    · split at hx
      · simp at hx
      · simp only [List.mem_singleton] at hx
        rw [hx]
        exact IW.mv SB.z (h s (List.mem_cons_self ..))
    · exact bring_IW T (d + 1) l (fun y hy => h y (List.mem_cons_of_mem _ hy)) x hx
theorem flush_IW (T a : Int) : ∀ (d : Nat) (N : List Sr), AllSB N → ∀ x ∈ flushC T a d N, IW x
  | _, [], _, x, hx => by simp [flushC] at hx
  | d, s :: l, h, x, hx => by
    rw [flushC, List.mem_append] at hx
    rcases hx with hx | hx
    · split at hx
      · simp only [List.mem_singleton] at hx
        rw [hx]
        exact IW.mv SB.z (h s (List.mem_cons_self ..))
      · simp at hx
    · exact flush_IW T a (d + 1) l (fun y hy => h y (List.mem_cons_of_mem _ hy)) x hx
theorem numW_WU (n : Int) : WU (numW n) := by unfold numW WU; omega
theorem GM.lit_WU {g : GM} (h : ∀ x ∈ g.lits, WU x) (a : Int) : WU (g.lit a) := by
  unfold GM.lit
  rw [List.getD_eq_getElem?_getD]
  cases hx : g.lits[a.toNat]? with
  | none => exact WU.z
  | some x => exact h x (List.mem_of_getElem? hx)
theorem one_mk {op n : Int} {d : Sr} {l : List Sr} {w : Int} (hd : SB d) (hl : AllSB l) (hn : l.length ≤ 1000) (hw : WU w) : IW (mkI op n d l w) := ⟨hw, hd, hl, by show l.length ≤ _; omega⟩
theorem AllSB.nil : AllSB [] := fun s hs => by simp at hs
theorem AllSB.one {s : Sr} (h : SB s) : AllSB [s] := fun x hx => by simp only [List.mem_singleton] at hx; subst hx; exact h
theorem plain_IW {g : GM} (hg : ∀ x ∈ g.lits, WU x) (i : GI) {N : List Sr} (h : AllSB N) : (∀ x ∈ (plain g i N).1, IW x) ∧ AllSB (plain g i N).2 := by
  have no : ∀ x ∈ ([] : List Ii), IW x := fun x hx => by simp at hx
  have yes : ∀ y : Ii, IW y → ∀ x ∈ [y], IW x := fun y hy x hx => by simp only [List.mem_singleton] at hx; subst hx; exact hy
  unfold plain
  split
  · exact ⟨no, h.push SB.z⟩
  split
  · exact ⟨no, h.push (g.lit_WU hg i.a)⟩
  split
  · exact ⟨no, h.push (numW_WU _)⟩
  split
  · exact ⟨no, h.push SB.z⟩
  split
  · exact ⟨no, h.push h.top⟩
  split
  · exact ⟨no, h.dropLast⟩
  split
  · split
    · exact ⟨no, h.dropLast⟩
    · refine ⟨fun x hx => ?_, AllSB.flush (N := N) _ _ _ _ h.dropLast⟩
      rcases List.mem_append.1 hx with h1 | h1
      · exact flush_IW _ _ _ _ h.dropLast x h1
      · exact yes _ (IW.mv SB.z h.top) x h1
  split
  · exact ⟨yes _ (one_mk SB.z AllSB.nil (by simp) WU.z), h.push SB.z⟩
  split
  · exact ⟨yes _ (one_mk SB.z (AllSB.one h.top) (by simp) WU.z), h.dropLast⟩
  · exact ⟨no, h⟩
theorem AllSB.take {N : List Sr} (h : AllSB N) (n : Nat) : AllSB (N.take n) := fun s hs => h s (List.mem_of_mem_take hs)
theorem AllSB.drop {N : List Sr} (h : AllSB N) (n : Nat) : AllSB (N.drop n) := fun s hs => h s (List.mem_of_mem_drop hs)
theorem one_IW {g : GM} (hg : ∀ x ∈ g.lits, WU x) (nx : Bool) (i : GI) {N : List Sr} (h : AllSB N) (hl : N.length ≤ 1000) (k : Int) : (∀ x ∈ (one g nx i N k).1, IW x) ∧ AllSB (one g nx i N k).2 := by
  have no : ∀ x ∈ ([] : List Ii), IW x := fun x hx => by simp at hx
  have yes : ∀ y : Ii, IW y → ∀ x ∈ [y], IW x := fun y hy x hx => by simp only [List.mem_singleton] at hx; subst hx; exact hy
  have app : ∀ a b : List Ii, (∀ x ∈ a, IW x) → (∀ x ∈ b, IW x) → ∀ x ∈ a ++ b, IW x := fun a b ha hb x hx => (List.mem_append.1 hx).elim (ha x) (hb x)
  have hdl : (N.drop (N.length - i.takes)).length ≤ 1000 := by rw [List.length_drop]; omega
  unfold one
  split
  · refine ⟨app _ _ ?_ (yes _ ?_), ?_⟩
    · split
      · exact bring_IW _ _ _ (h.take _)
      · exact no
    · split
      · exact one_mk SB.z (h.drop _) hdl WU.z
      · exact one_mk SB.z (h.drop _) hdl (g.lit_WU hg i.a)
    · refine AllSB.push ?_ SB.z
      split
      · exact AllSB.homes _ _
      · exact h.take _
  split
  · exact ⟨app _ _ (bring_IW _ _ _ h) (yes _ (one_mk SB.z AllSB.nil (by simp) WU.z)), AllSB.homes _ _⟩
  split
  · exact ⟨yes _ (one_mk SB.z (AllSB.one h.top) (by simp) (numW_WU _)), h.dropLast⟩
  split
  · exact ⟨yes _ (one_mk SB.z (AllSB.one h.top) (by simp) WU.z), h.dropLast⟩
  split
  · exact ⟨yes _ (one_mk SB.z (AllSB.one SB.z) (by simp) WU.z), h⟩
  split
  · exact ⟨yes _ (one_mk SB.z AllSB.nil (by simp) WU.z), h⟩
  · have hp := plain_IW hg i h
    refine ⟨app _ _ hp.1 ?_, ?_⟩
    · split
      · exact bring_IW _ _ _ hp.2
      · exact no
    · split
      · exact AllSB.homes _ _
      · exact hp.2
theorem GM.N_SB {g : GM} (W : g.wf) (hg : ∀ x ∈ g.lits, WU x) : ∀ p : Nat, AllSB (g.nk p).1 ∧ (g.on p → AllSB (g.N p))
  | 0 => by
    refine ⟨AllSB.nil, fun _ => ?_⟩
    rw [GM.N_lead (by simp [GM.lead])]
    exact AllSB.homes _ _
  | p + 1 => by
    have ih := GM.N_SB W hg p
    have h1 : AllSB (g.nk (p + 1)).1 := by
      by_cases ho : g.on p
      · have hl : p < g.code.length := GM.on_lt W ho
        rw [g.nk_on (List.getElem?_eq_getElem hl) ho]
        have hN := g.N_len W ho
        have hf := W.fits p ho
        have hs := W.stack
        exact (one_IW hg _ _ (ih.2 ho) (by omega) _).2
      · rw [g.nk_off ho]
        exact ih.1
    refine ⟨h1, fun _ => ?_⟩
    unfold GM.N GM.noted
    split
    · exact AllSB.homes _ _
    · exact h1
theorem mem_parts {g : GM} {q : List Ii × List Sr} (h : q ∈ g.parts) : ∃ (p : Nat) (i : GI), g.code[p]? = some i ∧ q = (if g.on p then ((g.cd p i).1, tregs g.temps ++ g.N p) else ([], [])) := by
  obtain ⟨p, hp⟩ := List.getElem?_of_mem h
  have hl := (List.getElem?_eq_some_iff.1 hp).1
  rw [g.parts_length] at hl
  refine ⟨p, g.code[p], List.getElem?_eq_getElem hl, ?_⟩
  have h9 := g.parts_at (List.getElem?_eq_getElem hl)
  rw [hp] at h9
  exact Option.some.inj h9
theorem unit_words {g : GM} (W : g.wf) (hg : ∀ x ∈ g.lits, WU x) (method : Int) : (∀ i ∈ (g.unit method).code, IW i) ∧ (∀ m ∈ (g.unit method).maps, AllSB m.l ∧ m.l.length ≤ 1000) := by
  refine ⟨fun x hx => ?_, fun m hm => ?_⟩
  · simp only [GM.unit, List.mem_flatMap] at hx
    obtain ⟨q, hq, hx⟩ := hx
    obtain ⟨p, i, hi, rfl⟩ := mem_parts hq
    by_cases ho : g.on p
    · rw [if_pos ho] at hx
      have hN := g.N_len W ho
      have hf := W.fits p ho
      have hs := W.stack
      exact (one_IW hg _ _ ((GM.N_SB W hg p).2 ho) (by omega) _).1 x hx
    · rw [if_neg ho] at hx
      simp at hx
  · simp only [GM.unit, List.mem_map] at hm
    obtain ⟨q, hq, rfl⟩ := hm
    obtain ⟨p, i, hi, rfl⟩ := mem_parts hq
    by_cases ho : g.on p
    · rw [if_pos ho]
      have hN := g.N_len W ho
      have hf := W.fits p ho
      have hs := W.stack
      have ht := W.temps
      have ha := W.args
      refine ⟨fun s hs => ?_, ?_⟩
      · rcases List.mem_append.1 hs with h1 | h1
        · simp only [tregs, List.mem_map] at h1
          obtain ⟨t, -, rfl⟩ := h1
          exact SB.z
        · exact (GM.N_SB W hg p).2 ho s h1
      · simp only [List.length_append]
        have := tregs_len (T := g.temps) (by omega)
        omega
    · rw [if_neg ho]
      exact ⟨AllSB.nil, by simp⟩
/-- the bounds of a unit that Gen answers -/
theorem unit_UB {m : Mth} {method : Int} (H : GenOk m method) (hl : ∀ x ∈ m.lits, WU x) (hm : WU method) {v : Un} (h : SameU ((gmOf m).unit method) v) {lo : Nat} {w : World} (hO : OwnU lo w v) : UB v := by
  have W := H.wf
  obtain ⟨h1, h2⟩ := unit_words W (g := gmOf m) hl method
  have hlen := W.len
  have hcl : ((gmOf m).unit method).code.length ≤ 10000 := by
    have h9 := GM.code_le W (gmOf m).code.length (Nat.le_refl _)
    rw [← (gmOf m).parts_length, List.take_length] at h9
    rw [(gmOf m).parts_length] at h9
    show ((gmOf m).parts.flatMap (·.1)).length ≤ _
    omega
  have hsl : ((gmOf m).unit method).starts.length ≤ 200 := by
    show (startsL 0 _).length ≤ _
    rw [starts_lenG, List.length_map, (gmOf m).parts_length]
    omega
  have hml : ((gmOf m).unit method).maps.length ≤ 200 := by
    show ((gmOf m).parts.map _).length ≤ _
    rw [List.length_map, (gmOf m).parts_length]
    omega
  have htm := W.temps
  have hag := W.args
  have hst := W.stack
  have hen : v.enter = [] := by
    have := h.enter
    simp only [GM.unit, List.map_nil, List.map_eq_nil_iff] at this
    exact this
  refine ⟨fun i hi => by rw [hen] at hi; simp at hi, fun i hi => ?_, fun q hq => ?_, hO.enter.1, hO.code.1, hO.starts.1, hO.maps.1, by rw [hen]; simp, by rw [er_len h.code]; omega, by rw [h.starts]; omega, by rw [maps_len h]; omega, by rw [h.method]; exact hm, fun n hn => ?_, ?_, ?_, ?_, ?_, ?_⟩
  · obtain ⟨b, hb, he⟩ := er_mem h.code.symm hi
    obtain ⟨k1, k2, k3, k4⟩ := h1 b hb
    obtain ⟨e1, e2, e3, e4, e5⟩ := er_fields he
    exact ⟨(hO.code.2.2 i hi).1, by first | (rw [e5]; exact k1) | (rw [← e5]; exact k1), by first | (rw [e3]; exact k2) | (rw [← e3]; exact k2), by first | (rw [e4]; exact k3) | (rw [← e4]; exact k3), by first | (rw [e4]; exact k4) | (rw [← e4]; exact k4)⟩
  · have h9 : q.l ∈ ((gmOf m).unit method).maps.map Mp.l := by rw [← h.maps]; exact List.mem_map.2 ⟨q, hq, rfl⟩
    obtain ⟨b, hb, he⟩ := List.mem_map.1 h9
    have h8 := h2 b hb
    rw [he] at h8
    exact ⟨by omega, h8.1, (hO.maps.2.2 q hq).1⟩
  · rw [h.starts] at hn
    obtain ⟨p, hp⟩ := List.getElem?_of_mem hn
    have hpl := (List.getElem?_eq_some_iff.1 hp).1
    have hpl2 : p ≤ ((gmOf m).parts.map (·.1)).length := by
      have h7 : ((gmOf m).unit method).starts.length = ((gmOf m).parts.map (·.1)).length + 1 := starts_lenG _ _
      omega
    have h9 := startsL_at2 ((gmOf m).parts.map (fun q => q.1)) 0 p hpl2
    change ((gmOf m).unit method).starts[p]? = _ at h9
    rw [hp] at h9
    have h10 := Option.some.inj h9
    have h11 : ((((gmOf m).parts.map (·.1)).take p).flatten.length) ≤ ((gmOf m).unit method).code.length := by
      show _ ≤ ((gmOf m).parts.flatMap (·.1)).length
      rw [List.flatMap_def]
      have h12 := List.take_append_drop p ((gmOf m).parts.map (·.1))
      have h13 := congrArg (fun l => l.flatten.length) h12
      simp only [List.flatten_append, List.length_append] at h13
      omega
    rw [h10]
    omega
  · rw [h.args]; show _ ≤ (gmOf m).args ∧ (gmOf m).args ≤ _; omega
  · rw [h.temps]; show _ ≤ (gmOf m).temps ∧ (gmOf m).temps ≤ _; omega
  · rw [h.regs]; show _ ≤ (gmOf m).temps + (gmOf m).stack ∧ (gmOf m).temps + (gmOf m).stack ≤ _; omega
  · rw [h.spills]; show _ ≤ (0 : Int) ∧ (0 : Int) ≤ _; omega
  · rw [h.sites]
    have h9 := nk_sends (gmOf m) (gmOf m).code 0 (by simp)
    have h8 := GM.nk_le (gmOf m) (gmOf m).code.length
    rw [Nat.zero_add] at h9
    show _ ≤ sends (gmOf m) 0 (gmOf m).code ∧ sends (gmOf m) 0 (gmOf m).code ≤ _
    have h7 : ((gmOf m).nk 0).2 = 0 := rfl
    omega
theorem unit_errU {m : Mth} {method : Int} (H : GenOk m method) {v : Un} (h : SameU ((gmOf m).unit method) v) : errU v = 0 := by
  rw [errU_same h]
  unfold errU
  rw [unit_ok H.wf H.method]
  rfl
end Go.Proofs.YtomcfjckhajhmabGreatDoor
