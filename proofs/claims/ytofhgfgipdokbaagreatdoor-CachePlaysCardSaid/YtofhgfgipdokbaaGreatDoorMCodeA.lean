/- code.within: the fault of the first number that is beyond its bounds. errors.Is, asked whether an error is code's. code: numbers and instructions as words. code: words read as numbers and instructions. code.Unpack. code.checkMethod. code.Check. -/
import Derived.Test.YtofhgfgipdokbaaGreatDoorMLists
import Derived.Test.YtofhgfgipdokbaaGreatDoorMWords
import Derived.Test.YtofhgfgipdokbaaGreatDoorMMask
import Derived.Test.YtofhgfgipdokbaaGreatDoorMRanges
import Derived.Test.YtofhgfgipdokbaaGreatDoorMLoading
import Derived.LaidEql
import Derived.Stop.Asserts
import Derived.RowKitTokens
import Derived.Laws.ResultCell
namespace Go.Proofs.YtofhgfgipdokbaaGreatDoor
open Go.RowKit

/-- a number with its bounds -/
structure Bd where
  s : ByteArray
  n : Int
  lo : Int
  hi : Int
def Bd.out (b : Bd) : Bool := decide (b.n < b.lo) || decide (b.hi < b.n)
def flatB (l : List Bd) : List Value := l.flatMap fun b => [.string b.s, .int .i64 b.n, .int .i64 b.lo, .int .i64 b.hi]
theorem flatB_at {l : List Bd} {i : Nat} {b : Bd} (h : l[i]? = some b) : (flatB l)[i * 4]? = some (.string b.s) ∧ (flatB l)[i * 4 + 1]? = some (.int .i64 b.n) ∧ (flatB l)[i * 4 + 2]? = some (.int .i64 b.lo) ∧ (flatB l)[i * 4 + 3]? = some (.int .i64 b.hi) := by
  induction l generalizing i with
  | nil => cases h
  | cons a l ih =>
    have e : flatB (a :: l) = .string a.s :: .int .i64 a.n :: .int .i64 a.lo :: .int .i64 a.hi :: flatB l := rfl
    rw [e]
    cases i with
    | zero => cases h; exact ⟨rfl, rfl, rfl, rfl⟩
    | succ i =>
      have := ih (by simpa using h)
      rw [show (i + 1) * 4 = i * 4 + 1 + 1 + 1 + 1 by omega]
      simpa [Nat.add_assoc] using this
theorem find_take {bs : List Bd} {k : Nat} (h : ∀ b ∈ bs.take k, Bd.out b = false) {b : Bd} (hb : bs[k]? = some b) (ho : b.out = true) : bs.find? Bd.out = some b := by
  rw [← List.take_append_drop k bs, List.find?_append, List.find?_eq_none.2 (fun x hx => by rw [h x hx]; simp)]
  have : bs.drop k = b :: bs.drop (k + 1) := by
    obtain ⟨hk, e⟩ := List.getElem?_eq_some_iff.1 hb
    rw [List.drop_eq_getElem_cons hk, e]
  rw [this]
  simp [ho]
end Go.Proofs.YtofhgfgipdokbaaGreatDoor
namespace Go.Proofs.YtofhgfgipdokbaaGreatDoor
open Go.RowKit Go.Extern.Stop Go.Stop Go.Extern

theorem is_methodComparable (v : Value) (w : World) : (Go.method 338 175 v "Comparable").run Tryz.prog w = .ok (147, v) w := by kernel_rfl
end Go.Proofs.YtofhgfgipdokbaaGreatDoor
namespace Go.Proofs.YtofhgfgipdokbaaGreatDoor
open Go.RowKit

def fit (n : Int) : Bool := decide (-4611686018427387904 ≤ n ∧ n ≤ 4611686018427387903)
theorem fit_iff (n : Int) : fit n = true ↔ (-4611686018427387904 ≤ n ∧ n ≤ 4611686018427387903) := by unfold fit; simp
/-- the word of a number -/
def wordOf (n : Int) : Int := (2 * n + 1) % 18446744073709551616
theorem bits_or1_u64 (n : Int) (h1 : 0 ≤ n) (h2 : n ≤ 18446744073709551615) (h3 : n % 2 = 0) : bits .or .u64 n 1 = n + 1 := by
  have h := bits_or_u64_nat n.toNat 1 (by omega) (by omega)
  rw [Int.toNat_of_nonneg h1] at h
  refine h.trans ?_
  obtain ⟨k, hk⟩ : ∃ k : Nat, n = 2 * (k : Int) := ⟨(n / 2).toNat, by omega⟩
  have e : n.toNat = k <<< 1 := by rw [Nat.shiftLeft_eq]; omega
  rw [e, ← Nat.shiftLeft_add_eq_or_of_lt (by decide), Nat.shiftLeft_eq]
  omega
theorem word_or (n : Int) : bits .or .u64 (IntKind.u64.wrap (IntKind.u64.wrap n * 2)) 1 = wordOf n := by
  simp only [wrap_u64_eq]
  rw [bits_or1_u64 _ (by omega) (by omega) (by omega)]
  unfold wordOf
  omega
theorem wordOf_WB (n : Int) : WB (wordOf n) ∧ odd (wordOf n) = true := by
  unfold wordOf WB odd
  refine ⟨⟨by omega, by omega⟩, ?_⟩
  simp only [decide_eq_true_eq]
  omega
/-- the number of a word -/
def intOfW (x : Int) : Int := wrap64 x / 2
theorem intOfW_fit (x : Int) : fit (intOfW x) = true := by rw [fit_iff]; unfold intOfW wrap64; omega
theorem wordOf_int (x : Int) (h : WB x) (ho : odd x = true) : wordOf (intOfW x) = x := by
  rw [odd_iff] at ho
  obtain ⟨h1, h2⟩ := h
  unfold wordOf intOfW wrap64
  omega
theorem int_wordOf (n : Int) (h : fit n = true) : intOfW (wordOf n) = n := by
  rw [fit_iff] at h
  unfold wordOf intOfW wrap64
  omega
theorem wordInt (x : Int) (w : World) (hx : WB x) : Calls Tryz.prog 102 #[.int .u64 x] w (Gives (.tuple #[.int .i64 (if odd x = true then intOfW x else 0), .int .i64 (if odd x = true then 0 else 1)]) w) := by
  have hi := wordIsInt x w hx.1 hx.2
  cases h : odd x
  · rw [h] at hi
    simp only [Bool.false_eq_true, if_false]
    clear h
    go_enter Tryz.func102, Tryz.ntmps102
    go_wp2_with (go_at_call 91; refine hi.mono ?_; rintro e w' ⟨rfl, rfl⟩)
    go_ret2
    exact ⟨rfl, rfl⟩
  · rw [h] at hi
    simp only [if_true]
    clear h
    go_enter Tryz.func102, Tryz.ntmps102
    go_wp2_with (go_at_call 91; refine hi.mono ?_; rintro e w' ⟨rfl, rfl⟩)
    go_ret2
    exact ⟨rfl, rfl⟩
/-- an instruction -/
structure Ins where
  op : Int
  a : Int
  b : Int
def Ins.ok (i : Ins) : Bool := decide (1 ≤ i.op ∧ i.op ≤ 23 ∧ 0 ≤ i.a ∧ i.a ≤ 4095 ∧ 0 ≤ i.b ∧ i.b ≤ 4095)
def Ins.num (i : Ins) : Int := i.op + 64 * i.a + 262144 * i.b
def Ins.v (i : Ins) : Value := .agg #[.int .i64 i.op, .int .i64 i.a, .int .i64 i.b]
theorem or_shift (a b : Nat) (k : Nat) (h : b < 2 ^ k) : b ||| (a * 2 ^ k) = a * 2 ^ k + b := by
  rw [Nat.or_comm, ← Nat.shiftLeft_eq, ← Nat.shiftLeft_add_eq_or_of_lt h]
theorem row_cells_at (w : World) (cs : Array Value) (t : TypeId) : RowAt (w.alloc (.cells cs t)) (some ⟨w.heap.size, 0, none⟩) cs.toList := by
  intro j u hj
  refine ⟨w.heap.size, 0, rfl, ?_⟩
  rw [Nat.zero_add, World.cell?_alloc_new]
  simpa using hj
theorem or_i64_nat (a b : Nat) (ha : a < 4611686018427387904) (hb : b < 4611686018427387904) : bits .or .i64 (a : Int) (b : Int) = ((a ||| b : Nat) : Int) := by
  show IntKind.i64.wrap ((BitVec.ofInt 64 a ||| BitVec.ofInt 64 b).toNat : Int) = _
  rw [BitVec.toNat_or, uns_toNat, uns_toNat]
  have e1 : uns (a : Int) = a := by unfold uns; omega
  have e2 : uns (b : Int) = b := by unfold uns; omega
  rw [e1, e2]
  have hlt : a ||| b < 2 ^ 62 := Nat.or_lt_two_pow (by simpa using ha) (by simpa using hb)
  rw [IntKind.wrap_i64]
  omega
theorem num_or (i : Ins) (h : i.ok = true) : bits .or .i64 (bits .or .i64 i.op (i.a * 64)) (i.b * 262144) = i.num ∧ 0 ≤ i.num ∧ i.num < 2147483648 := by
  unfold Ins.ok at h
  simp only [decide_eq_true_eq] at h
  obtain ⟨h1, h2, h3, h4, h5, h6⟩ := h
  obtain ⟨op, hop⟩ : ∃ op : Nat, i.op = op := ⟨i.op.toNat, by omega⟩
  obtain ⟨a, ha⟩ : ∃ a : Nat, i.a = a := ⟨i.a.toNat, by omega⟩
  obtain ⟨b, hb⟩ : ∃ b : Nat, i.b = b := ⟨i.b.toNat, by omega⟩
  unfold Ins.num
  rw [hop] at h1 h2 ⊢
  rw [ha] at h3 h4 ⊢
  rw [hb] at h5 h6 ⊢
  clear hop ha hb
  have e1 : ((a : Int) * 64) = ((a * 2 ^ 6 : Nat) : Int) := by omega
  have e2 : ((b : Int) * 262144) = ((b * 2 ^ 18 : Nat) : Int) := by omega
  rw [e1, e2, or_i64_nat _ _ (by omega) (by omega), or_shift a op 6 (by omega), or_i64_nat _ _ (by omega) (by omega), or_shift b _ 18 (by omega)]
  refine ⟨by omega, by omega, by omega⟩
theorem region_own' {P : Program} {ops : List Oper} {Q : Exit → Act → World → Prop} {S : World → Prop} {id : Nat} {a : Act} {w : World} (hm : P.follows .mixedOrders = true) (hS : S w.drew)
    (h : S w.drew → wpAnyH P .any ops.toArray (Norm Q) S ops.toArray.size (Array.replicate ops.toArray.size false) a w.drew) : (Code.region id ops.toArray true).wp P Q a w :=
  Code.wp_mono Norm.imp (wp_region_held_drew hm hS h)
end Go.Proofs.YtofhgfgipdokbaaGreatDoor
namespace Go.Proofs.YtofhgfgipdokbaaGreatDoor
open Go.RowKit

def insOf (n : Int) : Ins := ⟨n % 64, n / 64 % 4096, n / 262144⟩
theorem and63 (n : Int) : bits .and .i64 n 63 = n % 64 := by
  rw [and_i64]
  have e : uns 63 = 2 ^ 6 - 1 := by decide
  rw [e, Nat.and_two_pow_sub_one_eq_mod]
  unfold uns wrap64
  omega
theorem and4095 (n : Int) : bits .and .i64 n 4095 = n % 4096 := by
  rw [and_i64]
  have e : uns 4095 = 2 ^ 12 - 1 := by decide
  rw [e, Nat.and_two_pow_sub_one_eq_mod]
  unfold uns wrap64
  omega
end Go.Proofs.YtofhgfgipdokbaaGreatDoor
namespace Go.Proofs.YtofhgfgipdokbaaGreatDoor
open Go.RowKit

end Go.Proofs.YtofhgfgipdokbaaGreatDoor
namespace Go.Proofs.YtofhgfgipdokbaaGreatDoor
open Go.RowKit

/-- a method -/
structure Mth where
  args : Int
  temps : Int
  stack : Int
  prim : Int
  lits : List Int
  code : List Ins
def Mth.bds (m : Mth) (s1 s2 s3 s4 s5 s6 : ByteArray) : List Bd := [⟨s1, m.args, 0, 4⟩, ⟨s2, m.temps, m.args, 16⟩, ⟨s3, m.stack, 0, 16⟩, ⟨s4, m.prim, 0, 255⟩, ⟨s5, m.lits.length, 0, 32⟩, ⟨s6, m.code.length, 1, 128⟩]
def Mth.head (m : Mth) : Bool := decide (0 ≤ m.args ∧ m.args ≤ 4 ∧ m.args ≤ m.temps ∧ m.temps ≤ 16 ∧ 0 ≤ m.stack ∧ m.stack ≤ 16 ∧ 0 ≤ m.prim ∧ m.prim ≤ 255 ∧ m.lits.length ≤ 32 ∧ 1 ≤ m.code.length ∧ m.code.length ≤ 128)
def Mth.ok (m : Mth) : Bool := m.head && m.code.all Ins.ok
def Mth.v (m : Mth) (la : Option Addr) (lc : Nat) (ca : Option Addr) (cc : Nat) : Value := .agg #[.int .i64 m.args, .int .i64 m.temps, .int .i64 m.stack, .int .i64 m.prim, .slice la m.lits.length lc, .slice ca m.code.length cc]
def flatI (l : List Ins) : List Value := l.flatMap fun i => [.int .i64 i.op, .int .i64 i.a, .int .i64 i.b]
theorem flatI_at {l : List Ins} {k : Nat} {i : Ins} (h : l[k]? = some i) : (flatI l)[k * 3]? = some (.int .i64 i.op) ∧ (flatI l)[k * 3 + 1]? = some (.int .i64 i.a) ∧ (flatI l)[k * 3 + 2]? = some (.int .i64 i.b) := by
  induction l generalizing k with
  | nil => cases h
  | cons a l ih =>
    have e : flatI (a :: l) = .int .i64 a.op :: .int .i64 a.a :: .int .i64 a.b :: flatI l := rfl
    rw [e]
    cases k with
    | zero => cases h; exact ⟨rfl, rfl, rfl⟩
    | succ k =>
      have := ih (by simpa using h)
      rw [show (k + 1) * 3 = k * 3 + 1 + 1 + 1 by omega]
      simpa [Nat.add_assoc] using this
set_option maxRecDepth 100000 in
theorem bds_ok (m : Mth) (s1 s2 s3 s4 s5 s6 : ByteArray) : (m.bds s1 s2 s3 s4 s5 s6).all (fun b => !b.out) = m.head := by
  rw [Bool.eq_iff_iff]
  simp [Mth.bds, Bd.out, Mth.head]
  omega
end Go.Proofs.YtofhgfgipdokbaaGreatDoor
namespace Go.Proofs.YtofhgfgipdokbaaGreatDoor
open Go.RowKit

theorem row_fr {w w' : World} {ba : Option Addr} {xs : List Value} (h : RowAt w ba xs) (hF : Fr [] w w') : RowAt w' ba xs := by
  intro j u hj
  obtain ⟨g, o, e, hc⟩ := h j u hj
  exact ⟨g, o, e, hF.cell (by simp) hc⟩
theorem Mth.head_iff (m : Mth) : m.head = true ↔ (0 ≤ m.args ∧ m.args ≤ 4 ∧ m.args ≤ m.temps ∧ m.temps ≤ 16 ∧ 0 ≤ m.stack ∧ m.stack ≤ 16 ∧ 0 ≤ m.prim ∧ m.prim ≤ 255 ∧ m.lits.length ≤ 32 ∧ 1 ≤ m.code.length ∧ m.code.length ≤ 128) := by unfold Mth.head; simp
theorem Mth.ok_iff (m : Mth) : m.ok = true ↔ (m.head = true ∧ ∀ i ∈ m.code, i.ok = true) := by unfold Mth.ok; simp [List.all_eq_true]
theorem Ins.ok_iff (i : Ins) : i.ok = true ↔ (1 ≤ i.op ∧ i.op ≤ 23 ∧ 0 ≤ i.a ∧ i.a ≤ 4095 ∧ 0 ≤ i.b ∧ i.b ≤ 4095) := by unfold Ins.ok; simp
end Go.Proofs.YtofhgfgipdokbaaGreatDoor
