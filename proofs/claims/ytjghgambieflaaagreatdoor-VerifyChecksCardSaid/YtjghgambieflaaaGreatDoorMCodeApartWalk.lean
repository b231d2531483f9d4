/- CodeApart: two instructions that may be have two words, one has one. -/
import Derived.Test.YtjghgambieflaaaGreatDoorMCodeD
namespace Go.Proofs.YtjghgambieflaaaGreatDoor
open Go.RowKit

theorem eql_instr (i j : Ins) (W : World) : (binOp BinOp.eql 42 (.agg #[.int .i64 i.op, .int .i64 i.a, .int .i64 i.b]) (.agg #[.int .i64 j.op, .int .i64 j.a, .int .i64 j.b])).run Tryz.prog W = .ok (.bool (decide (i = j))) W := by
  obtain ⟨a, b, c⟩ := i
  obtain ⟨d, e, f⟩ := j
  by_cases h1 : a = d
  · subst h1
    by_cases h2 : b = e
    · subst h2
      by_cases h3 : c = f
      · subst h3
        go_simp
      · have h3' : (c == f) = false := by simp [h3]
        go_simp
    · have h2' : (b == e) = false := by simp [h2]
      go_simp
  · have h1' : (a == d) = false := by simp [h1]
    go_simp
theorem word_inj (i j : Ins) (hi : i.ok = true) (hj : j.ok = true) (h : wordOf i.num = wordOf j.num) : i = j := by
  have h1 := congrArg intOfW h
  rw [int_wordOf _ (i.fit hi), int_wordOf _ (j.fit hj)] at h1
  have h2 := congrArg insOf h1
  rwa [insOf_num i hi, insOf_num j hj] at h2
end Go.Proofs.YtjghgambieflaaaGreatDoor
