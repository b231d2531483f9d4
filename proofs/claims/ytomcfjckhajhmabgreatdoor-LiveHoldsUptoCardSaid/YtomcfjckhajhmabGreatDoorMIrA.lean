/- ir: sources, instructions and units as plain data, and what may be: plain. word.Int and the document's, as far as register code asks. ir: sources, instructions, maps and units in memory. ir: operations and sources. -/
import Derived.Test.YtomcfjckhajhmabGreatDoorMBase
import Derived.Test.YtomcfjckhajhmabGreatDoorMMask
import Derived.IntWalk
import Derived.Laws.BitsAllLaws
import Derived.Laws.ResultCell
namespace Go.Proofs.YtomcfjckhajhmabGreatDoor
open Go.RowKit

/-- a source -/
structure Sr where
  kind : Int
  n : Int
  w : Int
deriving DecidableEq
def Sr.v (s : Sr) : Value := .agg #[.int .i64 s.kind, .int .i64 s.n, .int .u64 s.w]
/-- an instruction, with the place where its operands lie -/
structure Ii where
  op : Int
  n : Int
  d : Sr
  la : Option Addr
  l : List Sr
  lc : Nat
  w : Int
def Ii.v (i : Ii) : Value := .agg #[.int .i64 i.op, .int .i64 i.n, .int .i64 i.d.kind, .int .i64 i.d.n, .int .u64 i.d.w, .slice i.la i.l.length i.lc, .int .u64 i.w]
/-- is a source a place? -/
def plc (s : Sr) : Bool := decide ((s.kind = 0 ∨ s.kind = 3) ∧ 0 ≤ s.n ∧ s.w = 0)
/-- how many operands there are at least, and at most; is there a result? -/
def lst (op : Int) : Int := if op = 1 ∨ op = 4 ∨ op = 6 ∨ op = 8 ∨ op = 7 then 1 else if op = 2 then 2 else 0
def mst (op : Int) : Int := if op = 1 ∨ op = 4 ∨ op = 6 ∨ op = 8 then 1 else if op = 2 then 2 else if op = 3 ∨ op = 5 ∨ op = 9 then 0 else if op = 7 then 5 else -1
def lvs (op : Int) : Bool := decide (op = 1 ∨ op = 2 ∨ op = 3 ∨ op = 7)
def zeroS : Sr := ⟨0, 0, 0⟩
/-- may a source be, with so many registers and cells? -/
def srcOk (R P : Int) (s : Sr) : Bool := decide ((s.kind = 0 ∧ 0 ≤ s.n ∧ s.n < R ∧ s.w = 0) ∨ (s.kind = 1 ∧ s.n = 0 ∧ s.w ≠ 0) ∨ (s.kind = 2 ∧ s.n = 0 ∧ s.w = 0) ∨ (s.kind = 3 ∧ 0 ≤ s.n ∧ s.n < P ∧ s.w = 0))
/-- is a number within bounds? -/
def wtn (a lo hi : Int) : Bool := decide (lo ≤ a ∧ a ≤ hi)
/-- the greatest N, with so many sites and maps -/
def grt (S M op : Int) : Int := if op = 2 then 7 else if op = 3 ∨ op = 4 then 4095 else if op = 5 ∨ op = 6 then M - 1 else if op = 7 then S - 1 else 0
def resOk (R P : Int) (i : Ii) : Bool := if lvs i.op = true then plc i.d && srcOk R P i.d else decide (i.d = zeroS)
def wrdOk (i : Ii) : Bool := if i.op = 6 then decide (i.w = 1 ∨ i.w = 3) else if i.op = 7 then decide (i.w ≠ 0) else decide (i.w = 0)
def insOkU (R P S M : Int) (i : Ii) : Bool := wtn i.l.length (lst i.op) (mst i.op) && i.l.all (srcOk R P) && resOk R P i && wtn i.n 0 (grt S M i.op) && wrdOk i
/-- a map, with the place where it lies -/
structure Mp where
  a : Option Addr
  l : List Sr
  c : Nat
/-- a unit -/
structure Un where
  method : Int
  args : Int
  temps : Int
  regs : Int
  spills : Int
  sites : Int
  ea : Option Addr
  enter : List Ii
  ec : Nat
  ca : Option Addr
  code : List Ii
  cc : Nat
  sa : Option Addr
  starts : List Int
  sc : Nat
  ma : Option Addr
  maps : List Mp
  mc : Nat
def Un.v (u : Un) : Value := .agg #[.int .u64 u.method, .int .i64 u.args, .int .i64 u.temps, .int .i64 u.regs, .int .i64 u.spills, .int .i64 u.sites, .slice u.ea u.enter.length u.ec, .slice u.ca u.code.length u.cc, .slice u.sa u.starts.length u.sc, .slice u.ma u.maps.length u.mc]
/-- may its numbers be? -/
def numsOk (u : Un) : Bool := decide (u.method ≠ 0) && wtn u.args 0 4 && wtn u.temps u.args 16 && wtn u.regs 0 4096 && wtn u.spills 0 4096 && wtn u.sites 0 128
end Go.Proofs.YtomcfjckhajhmabGreatDoor
namespace Go.Proofs.YtomcfjckhajhmabGreatDoor
open Go.RowKit

/-- a word's bounds -/
def WU (x : Int) : Prop := 0 ≤ x ∧ x ≤ 18446744073709551615
/-- is a word a number's? which? -/
def iodd (x : Int) : Bool := decide (x % 2 = 1)
def inum (x : Int) : Int := wrap64 x / 2
theorem iIsInt (n : Int) (w : World) (h1 : 0 ≤ n) (h2 : n ≤ 18446744073709551615) : Calls Tryz.prog 109 #[.int .u64 n] w (Gives (.bool (iodd n)) w) := by
  go_enter Tryz.func109, Tryz.ntmps109
  go_wp2
  go_ret
  refine ⟨ret1 (vb ?_), rfl⟩
  rw [u64_and n 1 h1 (by omega) (by omega) (by omega)]
  have e : (1 : Int).toNat = 1 := rfl
  rw [e, nat_mask1]
  unfold iodd
  rw [Bool.eq_iff_iff]
  simp
  omega
theorem iInt_no (x : Int) (w : World) (hx : WU x) (h : iodd x = false) : Calls Tryz.prog 96 #[.int .u64 x] w (Gives (.tuple #[.int .i64 0, .int .i64 1]) w) := by
  have hi := iIsInt x w hx.1 hx.2
  rw [h] at hi
  clear h
  go_enter Tryz.func96, Tryz.ntmps96
  go_wp2_with (go_at_call 109; refine hi.mono ?_; rintro e w' ⟨rfl, rfl⟩)
  go_ret2
  exact ⟨rfl, rfl⟩
theorem iInt_yes (x : Int) (w : World) (hx : WU x) (h : iodd x = true) : Calls Tryz.prog 96 #[.int .u64 x] w (Gives (.tuple #[.int .i64 (inum x), .int .i64 0]) w) := by
  have hi := iIsInt x w hx.1 hx.2
  rw [h] at hi
  clear h
  go_enter Tryz.func96, Tryz.ntmps96
  go_wp2_with (go_at_call 109; refine hi.mono ?_; rintro e w' ⟨rfl, rfl⟩)
  go_ret2
  exact ⟨rfl, rfl⟩
theorem iand1 (a : Int) : bits .and .i64 a 1 = a % 2 := by
  rw [and_i64]
  have e : uns 1 = 2 ^ 1 - 1 := by decide
  rw [e, Nat.and_two_pow_sub_one_eq_mod]
  unfold uns wrap64
  omega
theorem iref (n : Int) (h : n % 2 = 1) : wrap64 ((wrap64 (wrap64 n - bits .and .i64 (wrap64 n) 1)).tdiv 2) = wrap64 n / 2 := by
  rw [iand1]
  have hb : -9223372036854775808 ≤ wrap64 n ∧ wrap64 n ≤ 9223372036854775807 := by unfold wrap64; omega
  have hp : wrap64 n % 2 = 1 := by unfold wrap64; omega
  generalize wrap64 n = x at *
  rw [IntWalk.wrap64_in (x - x % 2) (by omega)]
  have e : x - x % 2 = 2 * (x / 2) := by omega
  rw [e, Int.mul_tdiv_cancel_left _ (by decide)]
  exact IntWalk.wrap64_in _ (by omega)
/-- it is 0 or 1 -/
theorem inum01 {x : Int} (hx : WU x) (h : iodd x = true) : (0 ≤ inum x ∧ inum x ≤ 1) ↔ (x = 1 ∨ x = 3) := by
  have h : x % 2 = 1 := by simpa [iodd] using h
  obtain ⟨h1, h2⟩ := hx
  unfold inum wrap64
  omega
end Go.Proofs.YtomcfjckhajhmabGreatDoor
namespace Go.Proofs.YtomcfjckhajhmabGreatDoor
open Go.RowKit

def SrcsAt (w : World) (a : Option Addr) (l : List Sr) : Prop := ∀ k s, l[k]? = some s → ∃ g o, a = some ⟨g, o, none⟩ ∧ w.cell? ⟨g, o + k * 3, none⟩ = some (.int .i64 s.kind) ∧ w.cell? ⟨g, o + k * 3 + 1, none⟩ = some (.int .i64 s.n) ∧ w.cell? ⟨g, o + k * 3 + 2, none⟩ = some (.int .u64 s.w)
def InsAt (w : World) (a : Option Addr) (l : List Ii) : Prop := ∀ k i, l[k]? = some i → (∃ g o, a = some ⟨g, o, none⟩ ∧ w.cell? ⟨g, o + k * 7, none⟩ = some (.int .i64 i.op) ∧ w.cell? ⟨g, o + k * 7 + 1, none⟩ = some (.int .i64 i.n) ∧ w.cell? ⟨g, o + k * 7 + 2, none⟩ = some (.int .i64 i.d.kind) ∧ w.cell? ⟨g, o + k * 7 + 3, none⟩ = some (.int .i64 i.d.n) ∧ w.cell? ⟨g, o + k * 7 + 4, none⟩ = some (.int .u64 i.d.w) ∧ w.cell? ⟨g, o + k * 7 + 5, none⟩ = some (.slice i.la i.l.length i.lc) ∧ w.cell? ⟨g, o + k * 7 + 6, none⟩ = some (.int .u64 i.w)) ∧ SrcsAt w i.la i.l
def MapsAt (w : World) (a : Option Addr) (l : List Mp) : Prop := ∀ k m, l[k]? = some m → (∃ g o, a = some ⟨g, o, none⟩ ∧ w.cell? ⟨g, o + k, none⟩ = some (.slice m.a m.l.length m.c)) ∧ SrcsAt w m.a m.l
def IntsAt (w : World) (a : Option Addr) (l : List Int) : Prop := ∀ k n, l[k]? = some n → ∃ g o, a = some ⟨g, o, none⟩ ∧ w.cell? ⟨g, o + k, none⟩ = some (.int .i64 n)
theorem SrcsAt.fr {w w' : World} {a : Option Addr} {l : List Sr} (h : SrcsAt w a l) (hF : Fr [] w w') : SrcsAt w' a l := fun k s hk =>
  let ⟨g, o, e, c0, c1, c2⟩ := h k s hk
  ⟨g, o, e, hF.cell (by simp) c0, hF.cell (by simp) c1, hF.cell (by simp) c2⟩
theorem InsAt.fr {w w' : World} {a : Option Addr} {l : List Ii} (h : InsAt w a l) (hF : Fr [] w w') : InsAt w' a l := fun k i hk =>
  let ⟨⟨g, o, e, c0, c1, c2, c3, c4, c5, c6⟩, hs⟩ := h k i hk
  ⟨⟨g, o, e, hF.cell (by simp) c0, hF.cell (by simp) c1, hF.cell (by simp) c2, hF.cell (by simp) c3, hF.cell (by simp) c4, hF.cell (by simp) c5, hF.cell (by simp) c6⟩, hs.fr hF⟩
theorem MapsAt.fr {w w' : World} {a : Option Addr} {l : List Mp} (h : MapsAt w a l) (hF : Fr [] w w') : MapsAt w' a l := fun k i hk =>
  let ⟨⟨g, o, e, c0⟩, hs⟩ := h k i hk
  ⟨⟨g, o, e, hF.cell (by simp) c0⟩, hs.fr hF⟩
theorem IntsAt.fr {w w' : World} {a : Option Addr} {l : List Int} (h : IntsAt w a l) (hF : Fr [] w w') : IntsAt w' a l := fun k i hk =>
  let ⟨g, o, e, c0⟩ := h k i hk
  ⟨g, o, e, hF.cell (by simp) c0⟩
/-- the words of sources and instructions are words, the numbers are numbers, and no list is longer than there is room -/
def SB (s : Sr) : Prop := WU s.w
structure SlOk (a : Option Addr) (n c : Nat) : Prop where
  nil0 : a = .none → n = 0 ∧ c = 0
  le : n ≤ c
  max : c ≤ maxLen
theorem SlOk.nil : SlOk .none 0 0 := ⟨fun _ => ⟨rfl, rfl⟩, Nat.le_refl _, Nat.zero_le _⟩
structure IB (i : Ii) : Prop where
  sl : SlOk i.la i.l.length i.lc
  w : WU i.w
  d : SB i.d
  l : ∀ s ∈ i.l, SB s
  n : i.l.length ≤ 5864062014805
/-- a unit in memory -/
structure UAt (w : World) (u : Un) : Prop where
  enter : InsAt w u.ea u.enter
  code : InsAt w u.ca u.code
  starts : IntsAt w u.sa u.starts
  maps : MapsAt w u.ma u.maps
theorem UAt.fr {w w' : World} {u : Un} (h : UAt w u) (hF : Fr [] w w') : UAt w' u := ⟨h.enter.fr hF, h.code.fr hF, h.starts.fr hF, h.maps.fr hF⟩
structure UB (u : Un) : Prop where
  enter : ∀ i ∈ u.enter, IB i
  code : ∀ i ∈ u.code, IB i
  maps : ∀ m ∈ u.maps, m.l.length ≤ 5864062014805 ∧ (∀ s ∈ m.l, SB s) ∧ SlOk m.a m.l.length m.c
  es : SlOk u.ea u.enter.length u.ec
  cs : SlOk u.ca u.code.length u.cc
  ss : SlOk u.sa u.starts.length u.sc
  ms : SlOk u.ma u.maps.length u.mc
  en : u.enter.length ≤ 5864062014805
  cn : u.code.length ≤ 5864062014805
  sn : u.starts.length ≤ 17592186043904
  mn : u.maps.length ≤ 5864062014805
  method : WU u.method
  sb : ∀ n ∈ u.starts, -9223372036854775808 ≤ n ∧ n ≤ 9223372036854775807
  args : -9223372036854775808 ≤ u.args ∧ u.args ≤ 9223372036854775807
  temps : -9223372036854775808 ≤ u.temps ∧ u.temps ≤ 9223372036854775807
  regs : -9223372036854775808 ≤ u.regs ∧ u.regs ≤ 9223372036854775807
  spills : -9223372036854775808 ≤ u.spills ∧ u.spills ≤ 9223372036854775807
  sites : -9223372036854775808 ≤ u.sites ∧ u.sites ≤ 9223372036854775807
/-- a list of which so many were looked at -/
theorem take_snoc {α : Type} {l : List α} {k : Nat} {s : α} (h : l[k]? = some s) : l.take (k + 1) = l.take k ++ [s] := by rw [List.take_add_one, h]; rfl
theorem all_snoc {α : Type} {p : α → Bool} {l : List α} {k : Nat} {s : α} (h : l[k]? = some s) (ha : (l.take k).all p = true) (hp : p s = true) : (l.take (k + 1)).all p = true := by
  rw [take_snoc h, List.all_append, ha]; simp [hp]
theorem all_no {α : Type} {p : α → Bool} {l : List α} {k : Nat} {s : α} (h : l[k]? = some s) (hp : p s = false) : l.all p = false := by
  rw [List.all_eq_false]; exact ⟨s, List.mem_of_getElem? h, by simp [hp]⟩
theorem all_end {α : Type} {p : α → Bool} {l : List α} {k : Nat} (ha : (l.take k).all p = true) (h : k = l.length) : l.all p = true := by
  rw [h, List.take_length] at ha; exact ha
end Go.Proofs.YtomcfjckhajhmabGreatDoor
namespace Go.Proofs.YtomcfjckhajhmabGreatDoor
open Go.RowKit

theorem hp2 (w : World) (o1 o2 : Obj) : ((w.alloc o1).alloc o2).heap[w.heap.size + 1]? = some o2 := by
  have := heap_new (w.alloc o1) o2
  simpa using this
theorem hp1 (w : World) (o1 o2 : Obj) : ((w.alloc o1).alloc o2).heap[w.heap.size]? = some o1 := ((Fr.refl [] _).alloc o2).heap (by simp) (heap_new w o1)
theorem hp3 (w : World) (o1 o2 o3 : Obj) : (((w.alloc o1).alloc o2).alloc o3).heap[w.heap.size + 1 + 1]? = some o3 := by
  have := heap_new ((w.alloc o1).alloc o2) o3
  simpa using this
theorem hp3a (w : World) (o1 o2 o3 : Obj) : (((w.alloc o1).alloc o2).alloc o3).heap[w.heap.size]? = some o1 := ((Fr.refl [] _).alloc o3).heap (by simp) (hp1 w o1 o2)
theorem hp3b (w : World) (o1 o2 o3 : Obj) : (((w.alloc o1).alloc o2).alloc o3).heap[w.heap.size + 1]? = some o2 := ((Fr.refl [] _).alloc o3).heap (by simp) (hp2 w o1 o2)
theorem ir_within (a b c : Int) (w : World) : Calls Tryz.prog 44 #[.int .i64 a, .int .i64 b, .int .i64 c] w (Gives (.bool (wtn a b c)) w) := by
  go_enter Tryz.func44, Tryz.ntmps44
  go_wp2
  all_goals (go_ret; exact ⟨ret1 (vb (by unfold wtn; simp; try omega)), rfl⟩)
theorem ir_Place (s : Sr) (w : World) : Calls Tryz.prog 36 #[s.v] w (Still (.bool (plc s)) w) := by
  obtain ⟨k, n, x⟩ := s
  unfold Sr.v
  simp only
  go_enter Tryz.func36, Tryz.ntmps36
  go_wp2
  all_goals (go_ret; exact ⟨ret1 (vb (by unfold plc; rw [Bool.eq_iff_iff]; simp; try omega)), (Fr.refl _ _).alloc _⟩)
/-- one of the numbers of operations, or none -/
theorem op_casesU (op : Int) : (op < 1 ∨ 9 < op) ∨ op = 1 ∨ op = 2 ∨ op = 3 ∨ op = 4 ∨ op = 5 ∨ op = 6 ∨ op = 7 ∨ op = 8 ∨ op = 9 := by omega
theorem op_none {op : Int} (h : op < 1 ∨ 9 < op) : lst op = 0 ∧ mst op = -1 ∧ lvs op = false := by
  unfold lst mst lvs
  refine ⟨?_, ?_, ?_⟩
  · rw [if_neg (by omega), if_neg (by omega)]
  · rw [if_neg (by omega), if_neg (by omega), if_neg (by omega), if_neg (by omega)]
  · simp; omega
end Go.Proofs.YtomcfjckhajhmabGreatDoor
