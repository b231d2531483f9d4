/- ir: sources, instructions and units as plain data, and what may be: plain. -/
import Derived.Test.YtcdpgchkdjjfgaaFrame
namespace Go.Proofs.Ytcdpgchkdjjfgaa
open Go.RowKit

/-- a source -/
structure Sr where
  kind : Int
  n : Int
  w : Int
deriving DecidableEq
def Sr.v (s : Sr) : Value := .agg #[.int .i64 s.kind, .int .i64 s.n, .int .u64 s.w]
/-- an instruction, with the place where its operands lie -/
structure Ii where
  op : Int
  n : Int
  d : Sr
  la : Option Addr
  l : List Sr
  lc : Nat
  w : Int
def Ii.v (i : Ii) : Value := .agg #[.int .i64 i.op, .int .i64 i.n, .int .i64 i.d.kind, .int .i64 i.d.n, .int .u64 i.d.w, .slice i.la i.l.length i.lc, .int .u64 i.w]
/-- is a source a place? -/
def plc (s : Sr) : Bool := decide ((s.kind = 0 ∨ s.kind = 3) ∧ 0 ≤ s.n ∧ s.w = 0)
/-- how many operands there are at least, and at most; is there a result? -/
def lst (op : Int) : Int := if op = 1 ∨ op = 4 ∨ op = 6 ∨ op = 8 ∨ op = 7 then 1 else if op = 2 then 2 else 0
def mst (op : Int) : Int := if op = 1 ∨ op = 4 ∨ op = 6 ∨ op = 8 then 1 else if op = 2 then 2 else if op = 3 ∨ op = 5 ∨ op = 9 then 0 else if op = 7 then 5 else -1
def lvs (op : Int) : Bool := decide (op = 1 ∨ op = 2 ∨ op = 3 ∨ op = 7)
def zeroS : Sr := ⟨0, 0, 0⟩
/-- may a source be, with so many registers and cells? -/
def srcOk (R P : Int) (s : Sr) : Bool := decide ((s.kind = 0 ∧ 0 ≤ s.n ∧ s.n < R ∧ s.w = 0) ∨ (s.kind = 1 ∧ s.n = 0 ∧ s.w ≠ 0) ∨ (s.kind = 2 ∧ s.n = 0 ∧ s.w = 0) ∨ (s.kind = 3 ∧ 0 ≤ s.n ∧ s.n < P ∧ s.w = 0))
/-- is a number within bounds? -/
def wtn (a lo hi : Int) : Bool := decide (lo ≤ a ∧ a ≤ hi)
/-- the greatest N, with so many sites and maps -/
def grt (S M op : Int) : Int := if op = 2 then 7 else if op = 3 ∨ op = 4 then 4095 else if op = 5 ∨ op = 6 then M - 1 else if op = 7 then S - 1 else 0
def resOk (R P : Int) (i : Ii) : Bool := if lvs i.op = true then plc i.d && srcOk R P i.d else decide (i.d = zeroS)
def wrdOk (i : Ii) : Bool := if i.op = 6 then decide (i.w = 1 ∨ i.w = 3) else if i.op = 7 then decide (i.w ≠ 0) else decide (i.w = 0)
def insOk (R P S M : Int) (i : Ii) : Bool := wtn i.l.length (lst i.op) (mst i.op) && i.l.all (srcOk R P) && resOk R P i && wtn i.n 0 (grt S M i.op) && wrdOk i
/-- a map, with the place where it lies -/
structure Mp where
  a : Option Addr
  l : List Sr
  c : Nat
/-- a unit -/
structure Un where
  method : Int
  args : Int
  temps : Int
  regs : Int
  spills : Int
  sites : Int
  ea : Option Addr
  enter : List Ii
  ec : Nat
  ca : Option Addr
  code : List Ii
  cc : Nat
  sa : Option Addr
  starts : List Int
  sc : Nat
  ma : Option Addr
  maps : List Mp
  mc : Nat
def Un.v (u : Un) : Value := .agg #[.int .u64 u.method, .int .i64 u.args, .int .i64 u.temps, .int .i64 u.regs, .int .i64 u.spills, .int .i64 u.sites, .slice u.ea u.enter.length u.ec, .slice u.ca u.code.length u.cc, .slice u.sa u.starts.length u.sc, .slice u.ma u.maps.length u.mc]
/-- may its numbers be? -/
def numsOk (u : Un) : Bool := decide (u.method ≠ 0) && wtn u.args 0 4 && wtn u.temps u.args 16 && wtn u.regs 0 4096 && wtn u.spills 0 4096 && wtn u.sites 0 128
end Go.Proofs.Ytcdpgchkdjjfgaa
