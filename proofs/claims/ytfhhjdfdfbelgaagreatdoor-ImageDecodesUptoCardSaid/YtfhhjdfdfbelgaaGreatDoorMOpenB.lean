/- Bytes that came in; what a bound on the whole of what came in says of them. -/
import Derived.Test.YtfhhjdfdfbelgaaGreatDoorMMade
import Derived.Test.YtfhhjdfdfbelgaaGreatDoorMImgB
namespace Go.Proofs.YtfhhjdfdfbelgaaGreatDoor
open Go.ChangeShapes Go.WideShapes Go.RowKit Go.Deep
section
variable {H : Type} {enc : TypeId × Value → H} {w : World} {base : Nat} {spare : Nat → Bool} {held : Bool}

theorem bulk_pos (d : DataW H) : 1 ≤ Rows.uptoBulk d := by
  cases d with
  | lit l => cases l <;> simp [Rows.uptoBulk]
  | _ => simp [Rows.uptoBulk]
theorem bulk_len : ∀ (l : List (DataW H)), l.length ≤ Rows.uptoBulkAll l
  | [] => by simp [Rows.uptoBulkAll]
  | x :: r => by
    have h1 := bulk_pos x
    have h2 := bulk_len r
    simp only [Rows.uptoBulkAll, List.length_cons]
    omega
theorem bulk_slice (es rs : List (DataW H)) : es.length + rs.length ≤ Rows.uptoBulk (.slice es rs) := by
  have h1 := bulk_len es
  have h2 := bulk_len rs
  simp only [Rows.uptoBulk]
  omega
theorem bulk_first (d : DataW H) (l : List (DataW H)) : Rows.uptoBulk d ≤ Rows.uptoBulkAll (d :: l) := by
  simp only [Rows.uptoBulkAll]
  omega
theorem bulk_bound {l : List (DataW H)} (h : Rows.uptoSmall H l = true) : Rows.uptoBulkAll l ≤ 1048576 := by
  have := of_decide_eq_true h
  exact this
theorem cells_b8 : Tryz.prog.cellsOf 5 = 1 := by kernel_rfl
set_option maxRecDepth 100000 in
theorem read_bytes {n : Nat} {v : Value} {y : DataW H × List MemPlace} (h : DataW.trod enc Tryz.prog w base spare held n 22 [v] = some y) :
    ∃ (fa : Option Addr) (fc : Nat) (bs : List Int), v = .slice fa bs.length fc ∧ BytesAt w fa bs ∧ (∀ x ∈ bs, B x) ∧ bs.length ≤ fc ∧ bs.length ≤ Rows.uptoBulk y.1 := by
  rcases open_slice Tryz.underlying22 h with ⟨hcs, hx⟩ | ⟨a, len, cap, m, k, D, Pl, hcs, -, hlc, -, hm, hx, hi⟩
  · simp only [List.cons.injEq, and_true] at hcs
    subst hcs
    exact ⟨none, 0, [], rfl, fun i x hx => by simp at hx, (fun _ h => by cases h), Nat.le_refl _, Nat.zero_le _⟩
  · simp only [List.cons.injEq, and_true] at hcs
    subst hcs
    have hml : len ≤ m := by rw [hm]; split <;> omega
    obtain ⟨xs, hxl, hxs⟩ := list_of (p := fun i (z : Int) => w.cell? (a.add i) = some (.int .u8 z) ∧ B z) len (fun i hil => by
      obtain ⟨cs', hc, ht⟩ := hi i (by omega)
      rw [cells_b8, Nat.mul_one] at hc
      obtain ⟨-, hcl, hat⟩ := World.cells?_some hc
      obtain ⟨z, rfl, -, hwf⟩ := DataW.trod_int Tryz.underlying5 ht
      have h0 := hat 0 (by omega)
      rw [add_add, Nat.add_zero] at h0
      simp only [Lit.wf, Bool.and_eq_true, decide_eq_true_eq] at hwf
      exact ⟨z, h0, hwf⟩)
    refine ⟨some a, cap, xs, by rw [hxl], fun i x hxi => ?_, fun x hx => ?_, by omega, ?_⟩
    · have h0 := (hxs 0 _ (List.getElem?_eq_getElem (Nat.lt_of_le_of_lt (Nat.zero_le i) (List.getElem?_eq_some_iff.1 hxi).1))).1
      obtain ⟨b, o, hab⟩ := spot_of (by simpa [Addr.add] using h0)
      subst hab
      refine ⟨b, o, rfl, ?_⟩
      have := (hxs i x hxi).1
      rwa [Lib.add_plain] at this
    · obtain ⟨i, hi⟩ := List.getElem?_of_mem hx
      exact (hxs i x hi).2
    · rw [hx]
      refine Nat.le_trans ?_ (bulk_slice _ _)
      simp only [List.length_map, List.length_range]
      omega
end
end Go.Proofs.YtfhhjdfdfbelgaaGreatDoor
