/- ir: the starts of a unit. ir: may all of some sources be? ir: the maps of a unit. ir: operationOf: the table of the operations, and what a number's row says. ir: Takes, Leaves, Writes, and the document's Writes. -/
import Derived.Test.YtcbplibbfoajgaaDoorMIrB
import Derived.Test.YtcbplibbfoajgaaDoorMIrA
import Derived.Deep.QuietTactic
import Derived.BigQuiet
import Derived.IntWalk
import Derived.Deep.Cut
import Derived.Great.BuildSlice
import Derived.Tactics
import Derived.Laws.ResultCell
namespace Go.Proofs.YtcbplibbfoajgaaDoor
open Go.RowKit

/-- no start is behind the next one -/
def rising (l : List Int) : Prop := ∀ (k : Nat) (a b : Int), l[k]? = some a → l[k + 1]? = some b → a ≤ b
open Classical in
noncomputable def startsOk (u : Un) : Bool := decide (2 ≤ u.starts.length ∧ u.starts.length ≤ 129 ∧ u.maps.length + 1 = u.starts.length ∧ u.starts[0]? = some 0 ∧ u.starts[u.starts.length - 1]? = some (u.code.length : Int) ∧ rising u.starts)
theorem startsOk_iff (u : Un) : startsOk u = true ↔ (2 ≤ u.starts.length ∧ u.starts.length ≤ 129 ∧ u.maps.length + 1 = u.starts.length ∧ u.starts[0]? = some 0 ∧ u.starts[u.starts.length - 1]? = some (u.code.length : Int) ∧ rising u.starts) := by
  unfold startsOk
  simp
end Go.Proofs.YtcbplibbfoajgaaDoor
namespace Go.Proofs.YtcbplibbfoajgaaDoor
open Go.RowKit

end Go.Proofs.YtcbplibbfoajgaaDoor
namespace Go.Proofs.YtcbplibbfoajgaaDoor
open Go.RowKit

def mapOk (R P T : Int) (m : Mp) : Bool := (decide (m.l.length = 0) || wtn m.l.length T (T + 16)) && m.l.all (srcOk R P)
end Go.Proofs.YtcbplibbfoajgaaDoor
namespace Go.Proofs.YtcbplibbfoajgaaDoor
open Go.RowKit Go.Great

/-- an operation that makes one block, by what it comes to -/
theorem op_alloc_at {P : Program} {ops : Array Oper} {rest : List Oper} {o : Oper} {a : Act} {w : World} {Q : Exit → Act → World → Prop} (hg : o.guard = none) (d : Option Tmp) (hd : o.dst = d) (v : Value) (b : Obj) (hr : (execOp a.eval o).run P w = .ok (.value v) (w.alloc b)) (h : wpList P ops Q rest (a.put d v) (w.alloc b)) : wpList P ops Q (o :: rest) a w :=
  wpList_plain hg fun K hK => by subst hd; unfold Oper.wp; rw [hr, Oper.upon_value]; exact hK _ _ h
def opTbl : Array Value := #[.int .i64 0, .int .i64 (-1), .bool false, .int .i64 1, .int .i64 1, .bool true, .int .i64 2, .int .i64 2, .bool true, .int .i64 0, .int .i64 0, .bool true, .int .i64 1, .int .i64 1, .bool false, .int .i64 0, .int .i64 0, .bool false, .int .i64 1, .int .i64 1, .bool false, .int .i64 1, .int .i64 5, .bool true, .int .i64 1, .int .i64 1, .bool false, .int .i64 0, .int .i64 0, .bool false]
def opZero : Array Value := #[.int .i64 0, .int .i64 0, .bool false, .int .i64 0, .int .i64 0, .bool false, .int .i64 0, .int .i64 0, .bool false, .int .i64 0, .int .i64 0, .bool false, .int .i64 0, .int .i64 0, .bool false, .int .i64 0, .int .i64 0, .bool false, .int .i64 0, .int .i64 0, .bool false, .int .i64 0, .int .i64 0, .bool false, .int .i64 0, .int .i64 0, .bool false, .int .i64 0, .int .i64 0, .bool false]
def opV (op : Int) : Value := .agg #[.int .i64 (lst op), .int .i64 (mst op), .bool (lvs op)]
end Go.Proofs.YtcbplibbfoajgaaDoor
namespace Go.Proofs.YtcbplibbfoajgaaDoor
open Go.RowKit

/-- the place of a result -/
def wrS (i : Ii) : Sr := if lvs i.op = true then i.d else zeroS
end Go.Proofs.YtcbplibbfoajgaaDoor
