/- code.within: the fault of the first number that is beyond its bounds. errors.Is, asked whether an error is code's. code: numbers and instructions as words. -/
import Derived.Test.YtfhhjdfdfbelgaaGreatDoorMLists
import Derived.Test.YtfhhjdfdfbelgaaGreatDoorMWords
import Derived.Test.YtfhhjdfdfbelgaaGreatDoorMMask
import Derived.Test.YtfhhjdfdfbelgaaGreatDoorMRanges
import Derived.Test.YtfhhjdfdfbelgaaGreatDoorMLoading
import Derived.LaidEql
import Derived.Stop.Asserts
import Derived.RowKitTokens
namespace Go.Proofs.YtfhhjdfdfbelgaaGreatDoor
open Go.RowKit

/-- a number with its bounds -/
structure Bd where
  s : ByteArray
  n : Int
  lo : Int
  hi : Int
def Bd.out (b : Bd) : Bool := decide (b.n < b.lo) || decide (b.hi < b.n)
def flatB (l : List Bd) : List Value := l.flatMap fun b => [.string b.s, .int .i64 b.n, .int .i64 b.lo, .int .i64 b.hi]
theorem flatB_at {l : List Bd} {i : Nat} {b : Bd} (h : l[i]? = some b) : (flatB l)[i * 4]? = some (.string b.s) ∧ (flatB l)[i * 4 + 1]? = some (.int .i64 b.n) ∧ (flatB l)[i * 4 + 2]? = some (.int .i64 b.lo) ∧ (flatB l)[i * 4 + 3]? = some (.int .i64 b.hi) := by
  induction l generalizing i with
  | nil => cases h
  | cons a l ih =>
    have e : flatB (a :: l) = .string a.s :: .int .i64 a.n :: .int .i64 a.lo :: .int .i64 a.hi :: flatB l := rfl
    rw [e]
    cases i with
    | zero => cases h; exact ⟨rfl, rfl, rfl, rfl⟩
    | succ i =>
      have := ih (by simpa using h)
      rw [show (i + 1) * 4 = i * 4 + 1 + 1 + 1 + 1 by omega]
      simpa [Nat.add_assoc] using this
theorem find_take {bs : List Bd} {k : Nat} (h : ∀ b ∈ bs.take k, Bd.out b = false) {b : Bd} (hb : bs[k]? = some b) (ho : b.out = true) : bs.find? Bd.out = some b := by
  rw [← List.take_append_drop k bs, List.find?_append, List.find?_eq_none.2 (fun x hx => by rw [h x hx]; simp)]
  have : bs.drop k = b :: bs.drop (k + 1) := by
    obtain ⟨hk, e⟩ := List.getElem?_eq_some_iff.1 hb
    rw [List.drop_eq_getElem_cons hk, e]
  rw [this]
  simp [ho]
end Go.Proofs.YtfhhjdfdfbelgaaGreatDoor
namespace Go.Proofs.YtfhhjdfdfbelgaaGreatDoor
open Go.RowKit Go.Extern.Stop Go.Stop Go.Extern

theorem is_typeOf (v : Value) (w : World) : (Extern.ReflectliteType.typeOf #[.iface 185 v]).run Tryz.prog w = .ok (.iface 121 (.agg #[.pointer (some ⟨6, 185, none⟩)])) w := by kernel_rfl
theorem is_comparable (w : World) : ((Extern.ReflectliteType.method fun t => do Rtype.noPackHeld "Comparable" t; pure (.bool (← typeInfo t).comparable)) #[.agg #[.pointer (some ⟨6, 185, none⟩)]]).run Tryz.prog w = .ok (.bool true) w := by kernel_rfl
theorem is_comparable2 (w : World) : ((Extern.ReflectliteType.method fun t => do Rtype.noPackHeld "Comparable" t; (fun a => Value.bool a.comparable) <$> typeInfo t) #[.agg #[.pointer (some ⟨6, 185, none⟩)]]).run Tryz.prog w = .ok (.bool true) w := by kernel_rfl
theorem is_methodComparable (v : Value) (w : World) : (Go.method 317 121 v "Comparable").run Tryz.prog w = .ok (121, v) w := by kernel_rfl
theorem is_comp : (Tryz.prog.info? 185).map (·.comparable) = some true := by kernel_rfl
theorem is_size : (Tryz.prog.info? 205).map (·.size) = some 1 := by kernel_rfl
theorem is_nil (b : Addr) (w : World) : Calls Tryz.prog 24 #[.nilIface, .iface 185 (.pointer (some b))] w (Still (.bool false) w) := by
  have hn := fun w => run_eql_iface_nil_left (P := Tryz.prog) w 185 (.pointer (some b)) Tryz.underlying54
  go_enter Tryz.func24, Tryz.ntmps24
  go_wp2
  refine bodyPost_ret (w := w) (results_tmp rfl _ _ _) rfl ?_
  exact ⟨rfl, Fr.refl _ _⟩
end Go.Proofs.YtfhhjdfdfbelgaaGreatDoor
namespace Go.Proofs.YtfhhjdfdfbelgaaGreatDoor
open Go.RowKit

def fit (n : Int) : Bool := decide (-4611686018427387904 ≤ n ∧ n ≤ 4611686018427387903)
theorem fit_iff (n : Int) : fit n = true ↔ (-4611686018427387904 ≤ n ∧ n ≤ 4611686018427387903) := by unfold fit; simp
/-- the word of a number -/
def wordOf (n : Int) : Int := (2 * n + 1) % 18446744073709551616
theorem bits_or1_u64 (n : Int) (h1 : 0 ≤ n) (h2 : n ≤ 18446744073709551615) (h3 : n % 2 = 0) : bits .or .u64 n 1 = n + 1 := by
  have h := bits_or_u64_nat n.toNat 1 (by omega) (by omega)
  rw [Int.toNat_of_nonneg h1] at h
  refine h.trans ?_
  obtain ⟨k, hk⟩ : ∃ k : Nat, n = 2 * (k : Int) := ⟨(n / 2).toNat, by omega⟩
  have e : n.toNat = k <<< 1 := by rw [Nat.shiftLeft_eq]; omega
  rw [e, ← Nat.shiftLeft_add_eq_or_of_lt (by decide), Nat.shiftLeft_eq]
  omega
theorem word_or (n : Int) : bits .or .u64 (IntKind.u64.wrap (IntKind.u64.wrap n * 2)) 1 = wordOf n := by
  simp only [wrap_u64_eq]
  rw [bits_or1_u64 _ (by omega) (by omega) (by omega)]
  unfold wordOf
  omega
theorem wordOf_WB (n : Int) : WB (wordOf n) ∧ odd (wordOf n) = true := by
  unfold wordOf WB odd
  refine ⟨⟨by omega, by omega⟩, ?_⟩
  simp only [decide_eq_true_eq]
  omega
/-- the number of a word -/
def intOfW (x : Int) : Int := wrap64 x / 2
theorem intOfW_fit (x : Int) : fit (intOfW x) = true := by rw [fit_iff]; unfold intOfW wrap64; omega
theorem wordOf_int (x : Int) (h : WB x) (ho : odd x = true) : wordOf (intOfW x) = x := by
  rw [odd_iff] at ho
  obtain ⟨h1, h2⟩ := h
  unfold wordOf intOfW wrap64
  omega
theorem int_wordOf (n : Int) (h : fit n = true) : intOfW (wordOf n) = n := by
  rw [fit_iff] at h
  unfold wordOf intOfW wrap64
  omega
/-- an instruction -/
structure Ins where
  op : Int
  a : Int
  b : Int
def Ins.ok (i : Ins) : Bool := decide (1 ≤ i.op ∧ i.op ≤ 23 ∧ 0 ≤ i.a ∧ i.a ≤ 4095 ∧ 0 ≤ i.b ∧ i.b ≤ 4095)
def Ins.num (i : Ins) : Int := i.op + 64 * i.a + 262144 * i.b
def Ins.v (i : Ins) : Value := .agg #[.int .i64 i.op, .int .i64 i.a, .int .i64 i.b]
theorem or_shift (a b : Nat) (k : Nat) (h : b < 2 ^ k) : b ||| (a * 2 ^ k) = a * 2 ^ k + b := by
  rw [Nat.or_comm, ← Nat.shiftLeft_eq, ← Nat.shiftLeft_add_eq_or_of_lt h]
theorem row_cells_at (w : World) (cs : Array Value) (t : TypeId) : RowAt (w.alloc (.cells cs t)) (some ⟨w.heap.size, 0, none⟩) cs.toList := by
  intro j u hj
  refine ⟨w.heap.size, 0, rfl, ?_⟩
  rw [Nat.zero_add, World.cell?_alloc_new]
  simpa using hj
theorem or_i64_nat (a b : Nat) (ha : a < 4611686018427387904) (hb : b < 4611686018427387904) : bits .or .i64 (a : Int) (b : Int) = ((a ||| b : Nat) : Int) := by
  show IntKind.i64.wrap ((BitVec.ofInt 64 a ||| BitVec.ofInt 64 b).toNat : Int) = _
  rw [BitVec.toNat_or, uns_toNat, uns_toNat]
  have e1 : uns (a : Int) = a := by unfold uns; omega
  have e2 : uns (b : Int) = b := by unfold uns; omega
  rw [e1, e2]
  have hlt : a ||| b < 2 ^ 62 := Nat.or_lt_two_pow (by simpa using ha) (by simpa using hb)
  rw [IntKind.wrap_i64]
  omega
theorem num_or (i : Ins) (h : i.ok = true) : bits .or .i64 (bits .or .i64 i.op (i.a * 64)) (i.b * 262144) = i.num ∧ 0 ≤ i.num ∧ i.num < 2147483648 := by
  unfold Ins.ok at h
  simp only [decide_eq_true_eq] at h
  obtain ⟨h1, h2, h3, h4, h5, h6⟩ := h
  obtain ⟨op, hop⟩ : ∃ op : Nat, i.op = op := ⟨i.op.toNat, by omega⟩
  obtain ⟨a, ha⟩ : ∃ a : Nat, i.a = a := ⟨i.a.toNat, by omega⟩
  obtain ⟨b, hb⟩ : ∃ b : Nat, i.b = b := ⟨i.b.toNat, by omega⟩
  unfold Ins.num
  rw [hop] at h1 h2 ⊢
  rw [ha] at h3 h4 ⊢
  rw [hb] at h5 h6 ⊢
  clear hop ha hb
  have e1 : ((a : Int) * 64) = ((a * 2 ^ 6 : Nat) : Int) := by omega
  have e2 : ((b : Int) * 262144) = ((b * 2 ^ 18 : Nat) : Int) := by omega
  rw [e1, e2, or_i64_nat _ _ (by omega) (by omega), or_shift a op 6 (by omega), or_i64_nat _ _ (by omega) (by omega), or_shift b _ 18 (by omega)]
  refine ⟨by omega, by omega, by omega⟩
theorem region_own' {P : Program} {ops : List Oper} {Q : Exit → Act → World → Prop} {S : World → Prop} {id : Nat} {a : Act} {w : World} (hm : P.follows .mixedOrders = true) (hS : S w.drew)
    (h : S w.drew → wpAnyH P .any ops.toArray (Norm Q) S ops.toArray.size (Array.replicate ops.toArray.size false) a w.drew) : (Code.region id ops.toArray true).wp P Q a w :=
  Code.wp_mono Norm.imp (wp_region_held_drew hm hS h)
end Go.Proofs.YtfhhjdfdfbelgaaGreatDoor
