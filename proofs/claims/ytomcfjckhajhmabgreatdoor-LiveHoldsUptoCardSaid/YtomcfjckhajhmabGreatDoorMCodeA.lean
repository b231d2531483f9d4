/- code.within: the fault of the first number that is beyond its bounds. errors.Is, asked whether an error is code's. code: numbers and instructions as words. code: words read as numbers and instructions. code.Unpack. code.checkMethod. code.Check. -/
import Derived.Test.YtomcfjckhajhmabGreatDoorMLists
import Derived.Test.YtomcfjckhajhmabGreatDoorMWords
import Derived.Test.YtomcfjckhajhmabGreatDoorMMask
import Derived.Test.YtomcfjckhajhmabGreatDoorMRanges
import Derived.Test.YtomcfjckhajhmabGreatDoorMLoading
import Derived.LaidEql
import Derived.Stop.Asserts
import Derived.RowKitTokens
import Derived.Laws.ResultCell
namespace Go.Proofs.YtomcfjckhajhmabGreatDoor
open Go.RowKit

/-- a number with its bounds -/
structure Bd where
  s : ByteArray
  n : Int
  lo : Int
  hi : Int
def Bd.out (b : Bd) : Bool := decide (b.n < b.lo) || decide (b.hi < b.n)
def flatB (l : List Bd) : List Value := l.flatMap fun b => [.string b.s, .int .i64 b.n, .int .i64 b.lo, .int .i64 b.hi]
theorem flatB_at {l : List Bd} {i : Nat} {b : Bd} (h : l[i]? = some b) : (flatB l)[i * 4]? = some (.string b.s) ∧ (flatB l)[i * 4 + 1]? = some (.int .i64 b.n) ∧ (flatB l)[i * 4 + 2]? = some (.int .i64 b.lo) ∧ (flatB l)[i * 4 + 3]? = some (.int .i64 b.hi) := by
  induction l generalizing i with
  | nil => cases h
  | cons a l ih =>
    have e : flatB (a :: l) = .string a.s :: .int .i64 a.n :: .int .i64 a.lo :: .int .i64 a.hi :: flatB l := rfl
    rw [e]
    cases i with
    | zero => cases h; exact ⟨rfl, rfl, rfl, rfl⟩
    | succ i =>
      have := ih (by simpa using h)
      rw [show (i + 1) * 4 = i * 4 + 1 + 1 + 1 + 1 by omega]
      simpa [Nat.add_assoc] using this
/-- what within returns -/
def faultOf (bs : List Bd) : Value := match bs.find? Bd.out with | none => .nilIface | some b => .iface 209 (.agg #[.string b.s, .int .i64 b.n])
theorem find_take {bs : List Bd} {k : Nat} (h : ∀ b ∈ bs.take k, Bd.out b = false) {b : Bd} (hb : bs[k]? = some b) (ho : b.out = true) : bs.find? Bd.out = some b := by
  rw [← List.take_append_drop k bs, List.find?_append, List.find?_eq_none.2 (fun x hx => by rw [h x hx]; simp)]
  have : bs.drop k = b :: bs.drop (k + 1) := by
    obtain ⟨hk, e⟩ := List.getElem?_eq_some_iff.1 hb
    rw [List.drop_eq_getElem_cons hk, e]
  rw [this]
  simp [ho]
set_option maxRecDepth 100000 in
set_option maxHeartbeats 1600000 in
theorem within_at {w : World} {ba : Option Addr} {bc : Nat} (bs : List Bd) (hr : RowAt w ba (flatB bs)) (hl : bs.length ≤ 1000) :
    Calls Tryz.prog 102 #[.slice ba bs.length bc] w (Still (faultOf bs) w) := by
  obtain ⟨n, hn⟩ : ∃ n, n = bs.length := ⟨_, rfl⟩
  rw [← hn] at hl ⊢
  have HN := Lib.hid hn
  have HR := Lib.hid hr
  clear hn hr
  go_enter Tryz.func102, Tryz.ntmps102
  go_wp2
  go_loopw [7] (fun i wr => ∃ k : Nat, k ≤ n ∧ i = .int .i64 k ∧ Hid (Fr [] w wr) ∧ Hid (∀ b ∈ bs.take k, Bd.out b = false)) (fun i _ => n - (intOf i).toNat)
  case atStart => exact ⟨0, Nat.zero_le _, rfl, Fr.refl _ _, fun b hb => by simp at hb⟩
  case round =>
    obtain ⟨k, hk, rfl, hF, hno⟩ := hrel
    by_cases hlt : k < n
    · have hkl : k < bs.length := by rw [← HN.out]; exact hlt
      obtain ⟨b, hb⟩ : ∃ b, bs[k]? = some b := ⟨_, List.getElem?_eq_getElem hkl⟩
      obtain ⟨f1, f2, f3, f4⟩ := flatB_at hb
      obtain ⟨g, off, rfl, c1⟩ := HR.out _ _ f1
      obtain ⟨_, _, e2, c2⟩ := HR.out _ _ f2
      cases e2
      obtain ⟨_, _, e3, c3⟩ := HR.out _ _ f3
      cases e3
      obtain ⟨_, _, e4, c4⟩ := HR.out _ _ f4
      cases e4
      have d1 := hF.out.cell (by simp) c1
      have d2 := hF.out.cell (by simp) c2
      have d3 := hF.out.cell (by simp) c3
      have d4 := hF.out.cell (by simp) c4
      rw [← Nat.add_assoc] at d2 d3 d4
      have HYES : Hid (b.out = true → faultOf bs = .iface 209 (.agg #[.string b.s, .int .i64 b.n])) := Lib.hid fun h => by unfold faultOf; rw [find_take hno.out hb h]
      have HNO : Hid (b.out = false → ∀ c ∈ bs.take (k + 1), Bd.out c = false) := Lib.hid fun h c hc => by
        rw [List.take_add_one, hb] at hc
        rcases List.mem_append.1 hc with hc | hc
        · exact hno.out c hc
        · simp at hc
          rw [hc]
          exact h
      have k0 : (0 : Int) ≤ (k : Int) := by omega
      have k1 : (k : Int) < (n : Int) := by omega
      obtain ⟨s, m, lo, hi⟩ := b
      simp only [Bd.out] at d1 d2 d3 d4 HYES HNO
      clear hkl hb f1 f2 f3 f4 c1 c2 c3 c4
      have HX : Hid (Fr [] w (wr.alloc (.cells #[.string s, .int .i64 m, .int .i64 lo, .int .i64 hi] 174))) := hF.out.alloc _
      by_cases h1 : m < lo
      · have HV := Lib.hid (HYES.out (by simp [h1]))
        go_wp2
        go_ret
        exact ⟨ret1 HV.out.symm, HX.out⟩
      · by_cases h2 : hi < m
        · have HV := Lib.hid (HYES.out (by simp [h2]))
          go_wp2
          go_ret
          exact ⟨ret1 HV.out.symm, HX.out⟩
        · have HV := Lib.hid (HNO.out (by simp [h1, h2]))
          go_wp2
          go_roundw
          case rel => exact ⟨k + 1, by omega, by go_num, HX, HV⟩
          case measure => simp [intOf]; omega
    · have hkn : k = n := by omega
      subst hkn
      have hkd : decide (k < k) = false := by simp
      have HV : Hid (faultOf bs = .nilIface) := by
        have h := hno.out
        rw [List.take_of_length_le (by rw [← HN.out]; omega)] at h
        unfold faultOf
        rw [List.find?_eq_none.2 (fun x hx => by rw [h x hx]; simp)]
        exact Lib.hid rfl
      go_wp2
      go_ret
      exact ⟨ret1 HV.out.symm, hF.out⟩
end Go.Proofs.YtomcfjckhajhmabGreatDoor
namespace Go.Proofs.YtomcfjckhajhmabGreatDoor
open Go.RowKit Go.Extern.Stop Go.Stop Go.Extern

theorem is_typeOf (v : Value) (w : World) : (Extern.ReflectliteType.typeOf #[.iface 218 v]).run Tryz.prog w = .ok (.iface 179 (.agg #[.pointer (some ⟨9, 218, none⟩)])) w := by kernel_rfl
theorem is_comparable (w : World) : ((Extern.ReflectliteType.method fun t => do Rtype.noPackHeld "Comparable" t; pure (.bool (← typeInfo t).comparable)) #[.agg #[.pointer (some ⟨9, 218, none⟩)]]).run Tryz.prog w = .ok (.bool true) w := by kernel_rfl
theorem is_comparable2 (w : World) : ((Extern.ReflectliteType.method fun t => do Rtype.noPackHeld "Comparable" t; (fun a => Value.bool a.comparable) <$> typeInfo t) #[.agg #[.pointer (some ⟨9, 218, none⟩)]]).run Tryz.prog w = .ok (.bool true) w := by kernel_rfl
theorem is_methodComparable (v : Value) (w : World) : (Go.method 350 179 v "Comparable").run Tryz.prog w = .ok (153, v) w := by kernel_rfl
theorem is_comp : (Tryz.prog.info? 218).map (·.comparable) = some true := by kernel_rfl
theorem is_size : (Tryz.prog.info? 238).map (·.size) = some 1 := by kernel_rfl
theorem no_isF (v : Value) (xT : TypeId) (w : World) : (Instr.typeAssert (.iface 209 v) xT 204 true).run Tryz.prog w = .ok (.tuple #[.nilIface, .bool false]) w := run_typeAssert_lacksB Tryz.underlying204 (by kernel_rfl) (by kernel_rfl) v xT w
theorem has_unwrapF (v : Value) (xT : TypeId) (w : World) : (Instr.typeAssert (.iface 209 v) xT 186 true).run Tryz.prog w = .ok (.tuple #[.iface 209 v, .bool true]) w := run_typeAssert_hasB Tryz.underlying186 (by kernel_rfl) v xT w
theorem method_unwrapF (v : Value) (w : World) : (Go.method 350 209 v "Unwrap").run Tryz.prog w = .ok (163, v) w := by kernel_rfl
theorem is_nil (b : Addr) (w : World) : Calls Tryz.prog 74 #[.nilIface, .iface 218 (.pointer (some b))] w (Still (.bool false) w) := by
  have hn := fun w => run_eql_iface_nil_left (P := Tryz.prog) w 218 (.pointer (some b)) Tryz.underlying92
  go_enter Tryz.func74, Tryz.ntmps74
  go_wp2
  refine bodyPost_ret (w := w) (results_tmp rfl _ _ _) rfl ?_
  exact ⟨rfl, Fr.refl _ _⟩
set_option maxHeartbeats 1600000 in
theorem unwrapF (s : ByteArray) (n : Int) (b : Addr) (w : World) (h : w.cell? ⟨1, 0, none⟩ = some (.iface 218 (.pointer (some b)))) :
    Calls Tryz.prog 163 #[.agg #[.string s, .int .i64 n]] w (Still (.iface 218 (.pointer (some b))) w) := by
  have h1 : (w.alloc (.cells #[.string s, .int .i64 n] 209)).cell? ⟨1, 0, none⟩ = some (.iface 218 (.pointer (some b))) := ((Fr.refl [] w).alloc _).cell (by simp) h
  go_enter Tryz.func163, Tryz.ntmps163
  go_wp2
  go_ret
  exact ⟨rfl, by first | exact Fr.refl _ _ | exact (Fr.refl _ _).alloc _⟩
set_option maxRecDepth 100000 in
set_option maxHeartbeats 3200000 in
theorem is_fault (s : ByteArray) (n : Int) (b : Addr) (w : World) (h : w.cell? ⟨1, 0, none⟩ = some (.iface 218 (.pointer (some b)))) :
    Calls Tryz.prog 74 #[.iface 209 (.agg #[.string s, .int .i64 n]), .iface 218 (.pointer (some b))] w (Still (.bool true) w) := by
  obtain ⟨i, hi, hcmp⟩ := Option.map_eq_some_iff.1 is_comp
  obtain ⟨j, hj, hjs⟩ := Option.map_eq_some_iff.1 is_size
  have h8 := @run_callFunc_extern Tryz.prog 100 _ Extern.ReflectliteType.typeOf Tryz.func100 (by kernel_rfl) (by kernel_rfl) (by kernel_rfl) (by kernel_rfl)
  have h32 := @run_callFunc_extern Tryz.prog 153 _ (Extern.ReflectliteType.method fun t => do Rtype.noPackHeld "Comparable" t; pure (.bool (← typeInfo t).comparable)) Tryz.func153 (by kernel_rfl) (by kernel_rfl) (by kernel_rfl) (by kernel_rfl)
  have tT := is_typeOf
  have cT := is_comparable
  have cT2 := is_comparable2
  have mR := is_methodComparable
  have nW := no_isF
  have uW := has_unwrapF
  have mU := method_unwrapF
  have hu := unwrapF s n b w h
  have heq := fun w => run_eql_iface_ptr_same (P := Tryz.prog) w b Tryz.underlying92 Tryz.underlying218 hi hcmp hj
  have hty := run_eql_iface_types (P := Tryz.prog) 209 218 (.agg #[.string s, .int .i64 n]) (.pointer (some b)) Tryz.underlying92 (by decide)
  go_enter Tryz.func74, Tryz.ntmps74
  go_wp2_with (first | (go_at_call 163; refine hu.mono ?_; rintro e w' ⟨rfl, hF⟩) | go_in)
  refine wp_loop_rounds 2 ?_
  rw [rounds_succ]
  go_wp2_with (first | (go_at_call 163; refine hu.mono ?_; rintro e w' ⟨rfl, hF⟩) | go_in)
  rw [rounds_succ]
  go_wp2_with (first | (go_at_call 163; refine hu.mono ?_; rintro e w' ⟨rfl, hF⟩) | go_in)
  go_ret
  exact ⟨rfl, hF⟩
end Go.Proofs.YtomcfjckhajhmabGreatDoor
namespace Go.Proofs.YtomcfjckhajhmabGreatDoor
open Go.RowKit

def fit (n : Int) : Bool := decide (-4611686018427387904 ≤ n ∧ n ≤ 4611686018427387903)
theorem fit_iff (n : Int) : fit n = true ↔ (-4611686018427387904 ≤ n ∧ n ≤ 4611686018427387903) := by unfold fit; simp
/-- the word of a number -/
def wordOf (n : Int) : Int := (2 * n + 1) % 18446744073709551616
theorem bits_or1_u64 (n : Int) (h1 : 0 ≤ n) (h2 : n ≤ 18446744073709551615) (h3 : n % 2 = 0) : bits .or .u64 n 1 = n + 1 := by
  have h := bits_or_u64_nat n.toNat 1 (by omega) (by omega)
  rw [Int.toNat_of_nonneg h1] at h
  refine h.trans ?_
  obtain ⟨k, hk⟩ : ∃ k : Nat, n = 2 * (k : Int) := ⟨(n / 2).toNat, by omega⟩
  have e : n.toNat = k <<< 1 := by rw [Nat.shiftLeft_eq]; omega
  rw [e, ← Nat.shiftLeft_add_eq_or_of_lt (by decide), Nat.shiftLeft_eq]
  omega
theorem word_or (n : Int) : bits .or .u64 (IntKind.u64.wrap (IntKind.u64.wrap n * 2)) 1 = wordOf n := by
  simp only [wrap_u64_eq]
  rw [bits_or1_u64 _ (by omega) (by omega) (by omega)]
  unfold wordOf
  omega
theorem wordOf_WB (n : Int) : WB (wordOf n) ∧ odd (wordOf n) = true := by
  unfold wordOf WB odd
  refine ⟨⟨by omega, by omega⟩, ?_⟩
  simp only [decide_eq_true_eq]
  omega
theorem wordFromInt (n : Int) (w : World) (h : fit n = true) : Calls Tryz.prog 108 #[.int .i64 n] w (Gives (.tuple #[.int .u64 (wordOf n), .int .i64 0]) w) := by
  rw [fit_iff] at h
  obtain ⟨h1, h2⟩ := h
  go_enter Tryz.func108, Tryz.ntmps108
  go_wp2
  go_ret2
  exact ⟨tup2 (vi (word_or n)) rfl, rfl⟩
/-- the number of a word -/
def intOfW (x : Int) : Int := wrap64 x / 2
theorem intOfW_fit (x : Int) : fit (intOfW x) = true := by rw [fit_iff]; unfold intOfW wrap64; omega
theorem wordOf_int (x : Int) (h : WB x) (ho : odd x = true) : wordOf (intOfW x) = x := by
  rw [odd_iff] at ho
  obtain ⟨h1, h2⟩ := h
  unfold wordOf intOfW wrap64
  omega
theorem int_wordOf (n : Int) (h : fit n = true) : intOfW (wordOf n) = n := by
  rw [fit_iff] at h
  unfold wordOf intOfW wrap64
  omega
theorem wordInt (x : Int) (w : World) (hx : WB x) : Calls Tryz.prog 96 #[.int .u64 x] w (Gives (.tuple #[.int .i64 (if odd x = true then intOfW x else 0), .int .i64 (if odd x = true then 0 else 1)]) w) := by
  have hi := wordIsInt x w hx.1 hx.2
  cases h : odd x
  · rw [h] at hi
    simp only [Bool.false_eq_true, if_false]
    clear h
    go_enter Tryz.func96, Tryz.ntmps96
    go_wp2_with (go_at_call 109; refine hi.mono ?_; rintro e w' ⟨rfl, rfl⟩)
    go_ret2
    exact ⟨rfl, rfl⟩
  · rw [h] at hi
    simp only [if_true]
    clear h
    go_enter Tryz.func96, Tryz.ntmps96
    go_wp2_with (go_at_call 109; refine hi.mono ?_; rintro e w' ⟨rfl, rfl⟩)
    go_ret2
    exact ⟨rfl, rfl⟩
/-- an instruction -/
structure Ins where
  op : Int
  a : Int
  b : Int
def Ins.ok (i : Ins) : Bool := decide (1 ≤ i.op ∧ i.op ≤ 23 ∧ 0 ≤ i.a ∧ i.a ≤ 4095 ∧ 0 ≤ i.b ∧ i.b ≤ 4095)
def Ins.num (i : Ins) : Int := i.op + 64 * i.a + 262144 * i.b
def Ins.v (i : Ins) : Value := .agg #[.int .i64 i.op, .int .i64 i.a, .int .i64 i.b]
theorem or_shift (a b : Nat) (k : Nat) (h : b < 2 ^ k) : b ||| (a * 2 ^ k) = a * 2 ^ k + b := by
  rw [Nat.or_comm, ← Nat.shiftLeft_eq, ← Nat.shiftLeft_add_eq_or_of_lt h]
theorem row_cells_at (w : World) (cs : Array Value) (t : TypeId) : RowAt (w.alloc (.cells cs t)) (some ⟨w.heap.size, 0, none⟩) cs.toList := by
  intro j u hj
  refine ⟨w.heap.size, 0, rfl, ?_⟩
  rw [Nat.zero_add, World.cell?_alloc_new]
  simpa using hj
/-- no error, or a fault -/
def Faulty (ok : Bool) (w : World) (e : Ending) (w' : World) : Prop := Fr [] w w' ∧ ((ok = true ∧ e = .returned .nilIface) ∨ (ok = false ∧ ∃ s n, e = .returned (.iface 209 (.agg #[.string s, .int .i64 n]))))
theorem faultOf_case (bs : List Bd) : (bs.all (fun b => !b.out) = true ∧ faultOf bs = .nilIface) ∨ (bs.all (fun b => !b.out) = false ∧ ∃ s n, faultOf bs = .iface 209 (.agg #[.string s, .int .i64 n])) := by
  unfold faultOf
  cases h : bs.find? Bd.out with
  | none =>
    left
    refine ⟨List.all_eq_true.2 fun b hb => ?_, rfl⟩
    have := List.find?_eq_none.1 h b hb
    simpa using this
  | some b =>
    right
    refine ⟨List.all_eq_false.2 ⟨b, List.mem_of_find?_eq_some h, ?_⟩, b.s, b.n, rfl⟩
    have := List.find?_some h
    simp [this]
set_option maxRecDepth 100000 in
set_option maxHeartbeats 1600000 in
theorem checkInstr_at (i : Ins) (w : World) : Calls Tryz.prog 103 #[i.v] w (Faulty i.ok w) := by
  obtain ⟨op, a, b⟩ := i
  unfold Ins.v
  have hw : ∀ (s1 s2 s3 : ByteArray) (W : World), Calls Tryz.prog 102 #[.slice (some ⟨W.heap.size, 0, none⟩) 3 3] (W.alloc (.cells #[.string s1, .int .i64 op, .int .i64 1, .int .i64 23, .string s2, .int .i64 a, .int .i64 0, .int .i64 4095, .string s3, .int .i64 b, .int .i64 0, .int .i64 4095] 174)) (Still (faultOf [⟨s1, op, 1, 23⟩, ⟨s2, a, 0, 4095⟩, ⟨s3, b, 0, 4095⟩]) (W.alloc (.cells #[.string s1, .int .i64 op, .int .i64 1, .int .i64 23, .string s2, .int .i64 a, .int .i64 0, .int .i64 4095, .string s3, .int .i64 b, .int .i64 0, .int .i64 4095] 174))) := fun s1 s2 s3 W => within_at [⟨s1, op, 1, 23⟩, ⟨s2, a, 0, 4095⟩, ⟨s3, b, 0, 4095⟩] (row_cells_at W _ _) (by simp)
  go_enter Tryz.func103, Tryz.ntmps103
  go_wp2_with fail
  have hsz : (w.alloc (.cells #[.int .i64 op, .int .i64 a, .int .i64 b] 69)).heap.size = w.heap.size + 1 := by simp
  have hw' := fun s1 s2 s3 => hw s1 s2 s3 (w.alloc (.cells #[.int .i64 op, .int .i64 a, .int .i64 b] 69))
  simp only [hsz] at hw'
  have HOK : Hid (∀ s1 s2 s3 : ByteArray, ([⟨s1, op, 1, 23⟩, ⟨s2, a, 0, 4095⟩, ⟨s3, b, 0, 4095⟩] : List Bd).all (fun b => !b.out) = Ins.ok ⟨op, a, b⟩) := Lib.hid fun s1 s2 s3 => by
    rw [Bool.eq_iff_iff]
    simp [Bd.out, Ins.ok]
    omega
  refine (hw' _ _ _).mono ?_
  rintro e w2 ⟨rfl, hF⟩
  have HF : Hid (Fr [] w w2) := (((Fr.refl [] w).alloc _).alloc _).trans hF
  clear hF hw hw' hsz
  rcases faultOf_case _ with ⟨h1, h2⟩ | ⟨h1, s, n, h2⟩
  · rw [h2]
    rw [HOK.out] at h1
    have H1 := Lib.hid h1
    clear h1 h2
    go_wp2_with fail
    go_ret
    exact ⟨HF.out, .inl ⟨H1.out, rfl⟩⟩
  · rw [h2]
    rw [HOK.out] at h1
    have H1 := Lib.hid h1
    clear h1 h2
    go_wp2_with fail
    go_ret
    exact ⟨HF.out, .inr ⟨H1.out, s, n, rfl⟩⟩
theorem or_i64_nat (a b : Nat) (ha : a < 4611686018427387904) (hb : b < 4611686018427387904) : bits .or .i64 (a : Int) (b : Int) = ((a ||| b : Nat) : Int) := by
  show IntKind.i64.wrap ((BitVec.ofInt 64 a ||| BitVec.ofInt 64 b).toNat : Int) = _
  rw [BitVec.toNat_or, uns_toNat, uns_toNat]
  have e1 : uns (a : Int) = a := by unfold uns; omega
  have e2 : uns (b : Int) = b := by unfold uns; omega
  rw [e1, e2]
  have hlt : a ||| b < 2 ^ 62 := Nat.or_lt_two_pow (by simpa using ha) (by simpa using hb)
  rw [IntKind.wrap_i64]
  omega
theorem num_or (i : Ins) (h : i.ok = true) : bits .or .i64 (bits .or .i64 i.op (i.a * 64)) (i.b * 262144) = i.num ∧ 0 ≤ i.num ∧ i.num < 2147483648 := by
  unfold Ins.ok at h
  simp only [decide_eq_true_eq] at h
  obtain ⟨h1, h2, h3, h4, h5, h6⟩ := h
  obtain ⟨op, hop⟩ : ∃ op : Nat, i.op = op := ⟨i.op.toNat, by omega⟩
  obtain ⟨a, ha⟩ : ∃ a : Nat, i.a = a := ⟨i.a.toNat, by omega⟩
  obtain ⟨b, hb⟩ : ∃ b : Nat, i.b = b := ⟨i.b.toNat, by omega⟩
  unfold Ins.num
  rw [hop] at h1 h2 ⊢
  rw [ha] at h3 h4 ⊢
  rw [hb] at h5 h6 ⊢
  clear hop ha hb
  have e1 : ((a : Int) * 64) = ((a * 2 ^ 6 : Nat) : Int) := by omega
  have e2 : ((b : Int) * 262144) = ((b * 2 ^ 18 : Nat) : Int) := by omega
  rw [e1, e2, or_i64_nat _ _ (by omega) (by omega), or_shift a op 6 (by omega), or_i64_nat _ _ (by omega) (by omega), or_shift b _ 18 (by omega)]
  refine ⟨by omega, by omega, by omega⟩
theorem region_own' {P : Program} {ops : List Oper} {Q : Exit → Act → World → Prop} {S : World → Prop} {id : Nat} {a : Act} {w : World} (hm : P.follows .mixedOrders = true) (hS : S w.drew)
    (h : S w.drew → wpAnyH P .any ops.toArray (Norm Q) S ops.toArray.size (Array.replicate ops.toArray.size false) a w.drew) : (Code.region id ops.toArray true).wp P Q a w :=
  Code.wp_mono Norm.imp (wp_region_held_drew hm hS h)
/-- code's own error is laid -/
def Field (w : World) : Prop := ∃ b, w.cell? ⟨1, 0, none⟩ = some (.iface 218 (.pointer (some b)))
theorem Field.fr {w w' : World} (h : Field w) (hF : Fr [] w w') : Field w' := by obtain ⟨b, h⟩ := h; exact ⟨b, hF.cell (by simp) h⟩
end Go.Proofs.YtomcfjckhajhmabGreatDoor
namespace Go.Proofs.YtomcfjckhajhmabGreatDoor
open Go.RowKit

/-- a number and no error, or zero and a fault -/
def Numbered (ok : Bool) (n : Int) (w : World) (e : Ending) (w' : World) : Prop := Fr [] w w' ∧ ((ok = true ∧ e = .returned (.tuple #[.int .i64 n, .nilIface])) ∨ (ok = false ∧ ∃ s m, e = .returned (.tuple #[.int .i64 0, .iface 209 (.agg #[.string s, .int .i64 m])])))
/-- an instruction and no error, or the zero instruction and a fault -/
def Unpacked (ok : Bool) (i : Ins) (w : World) (e : Ending) (w' : World) : Prop := Fr [] w w' ∧ ((ok = true ∧ e = .returned (.tuple #[i.v, .nilIface])) ∨ (ok = false ∧ ∃ s m, e = .returned (.tuple #[.agg #[.int .i64 0, .int .i64 0, .int .i64 0], .iface 209 (.agg #[.string s, .int .i64 m])])))
def insOf (n : Int) : Ins := ⟨n % 64, n / 64 % 4096, n / 262144⟩
theorem and63 (n : Int) : bits .and .i64 n 63 = n % 64 := by
  rw [and_i64]
  have e : uns 63 = 2 ^ 6 - 1 := by decide
  rw [e, Nat.and_two_pow_sub_one_eq_mod]
  unfold uns wrap64
  omega
theorem and4095 (n : Int) : bits .and .i64 n 4095 = n % 4096 := by
  rw [and_i64]
  have e : uns 4095 = 2 ^ 12 - 1 := by decide
  rw [e, Nat.and_two_pow_sub_one_eq_mod]
  unfold uns wrap64
  omega
end Go.Proofs.YtomcfjckhajhmabGreatDoor
namespace Go.Proofs.YtomcfjckhajhmabGreatDoor
open Go.RowKit

end Go.Proofs.YtomcfjckhajhmabGreatDoor
namespace Go.Proofs.YtomcfjckhajhmabGreatDoor
open Go.RowKit

/-- a method -/
structure Mth where
  args : Int
  temps : Int
  stack : Int
  prim : Int
  lits : List Int
  code : List Ins
def Mth.bds (m : Mth) (s1 s2 s3 s4 s5 s6 : ByteArray) : List Bd := [⟨s1, m.args, 0, 4⟩, ⟨s2, m.temps, m.args, 16⟩, ⟨s3, m.stack, 0, 16⟩, ⟨s4, m.prim, 0, 255⟩, ⟨s5, m.lits.length, 0, 32⟩, ⟨s6, m.code.length, 1, 128⟩]
def Mth.head (m : Mth) : Bool := decide (0 ≤ m.args ∧ m.args ≤ 4 ∧ m.args ≤ m.temps ∧ m.temps ≤ 16 ∧ 0 ≤ m.stack ∧ m.stack ≤ 16 ∧ 0 ≤ m.prim ∧ m.prim ≤ 255 ∧ m.lits.length ≤ 32 ∧ 1 ≤ m.code.length ∧ m.code.length ≤ 128)
def Mth.ok (m : Mth) : Bool := m.head && m.code.all Ins.ok
def Mth.v (m : Mth) (la : Option Addr) (lc : Nat) (ca : Option Addr) (cc : Nat) : Value := .agg #[.int .i64 m.args, .int .i64 m.temps, .int .i64 m.stack, .int .i64 m.prim, .slice la m.lits.length lc, .slice ca m.code.length cc]
def flatI (l : List Ins) : List Value := l.flatMap fun i => [.int .i64 i.op, .int .i64 i.a, .int .i64 i.b]
theorem flatI_at {l : List Ins} {k : Nat} {i : Ins} (h : l[k]? = some i) : (flatI l)[k * 3]? = some (.int .i64 i.op) ∧ (flatI l)[k * 3 + 1]? = some (.int .i64 i.a) ∧ (flatI l)[k * 3 + 2]? = some (.int .i64 i.b) := by
  induction l generalizing k with
  | nil => cases h
  | cons a l ih =>
    have e : flatI (a :: l) = .int .i64 a.op :: .int .i64 a.a :: .int .i64 a.b :: flatI l := rfl
    rw [e]
    cases k with
    | zero => cases h; exact ⟨rfl, rfl, rfl⟩
    | succ k =>
      have := ih (by simpa using h)
      rw [show (k + 1) * 3 = k * 3 + 1 + 1 + 1 by omega]
      simpa [Nat.add_assoc] using this
set_option maxRecDepth 100000 in
theorem bds_ok (m : Mth) (s1 s2 s3 s4 s5 s6 : ByteArray) : (m.bds s1 s2 s3 s4 s5 s6).all (fun b => !b.out) = m.head := by
  rw [Bool.eq_iff_iff]
  simp [Mth.bds, Bd.out, Mth.head]
  omega
set_option maxRecDepth 100000 in
set_option maxHeartbeats 3200000 in
theorem checkMethod_at (m : Mth) (la ca : Option Addr) (lc cc : Nat) (w : World) (hr : RowAt w ca (flatI m.code)) : Calls Tryz.prog 75 #[m.v la lc ca cc] w (Faulty m.ok w) := by
  have HR := Lib.hid hr
  clear hr
  have HOK := Lib.hid (fun s1 s2 s3 s4 s5 s6 => bds_ok m s1 s2 s3 s4 s5 s6)
  have hcell : ∀ (s1 s2 s3 s4 s5 s6 : ByteArray) (W : World), Calls Tryz.prog 102 #[.slice (some ⟨W.heap.size, 0, none⟩) 6 6] (W.alloc (.cells (flatB (m.bds s1 s2 s3 s4 s5 s6)).toArray 174)) (Still (faultOf (m.bds s1 s2 s3 s4 s5 s6)) (W.alloc (.cells (flatB (m.bds s1 s2 s3 s4 s5 s6)).toArray 174))) := fun s1 s2 s3 s4 s5 s6 W => within_at (m.bds s1 s2 s3 s4 s5 s6) (row_cells_at W _ _) (by show 6 ≤ 1000; omega)
  have HT : Hid (m.head = true → m.code.length ≤ 128) := Lib.hid fun h => by unfold Mth.head at h; simp at h; omega
  have HM : Hid (∀ c, m.head = c → m.ok = (c && m.code.all Ins.ok)) := Lib.hid fun c h => by unfold Mth.ok; rw [h]
  obtain ⟨ok, hok⟩ : ∃ ok, ok = m.ok := ⟨_, rfl⟩
  obtain ⟨hd, hhd⟩ : ∃ hd, hd = m.head := ⟨_, rfl⟩
  rw [← hok]
  rw [← hok] at HM
  rw [← hhd] at HM HT HOK
  obtain ⟨args, temps, stack, prim, lits, code⟩ := m
  unfold Mth.v
  simp only [Mth.bds] at HR HOK hcell HM HT ⊢
  clear hok hhd
  obtain ⟨ll, hll⟩ : ∃ n, n = lits.length := ⟨_, rfl⟩
  obtain ⟨n, hn⟩ : ∃ n, n = code.length := ⟨_, rfl⟩
  rw [← hn] at HT
  rw [← hll, ← hn]
  simp only [← hll, ← hn] at HOK hcell
  have HNN := Lib.hid hn
  clear hll hn
  have HC := Lib.hid hcell
  clear hcell
  go_enter Tryz.func75, Tryz.ntmps75
  go_wp2_with fail
  have hw := fun s1 s2 s3 s4 s5 s6 => HC.out s1 s2 s3 s4 s5 s6 (w.alloc (.cells #[.int .i64 args, .int .i64 temps, .int .i64 stack, .int .i64 prim, .slice la ll lc, .slice ca n cc] 25))
  have hsz : (w.alloc (.cells #[.int .i64 args, .int .i64 temps, .int .i64 stack, .int .i64 prim, .slice la ll lc, .slice ca n cc] 25)).heap.size = w.heap.size + 1 := by simp
  simp only [hsz] at hw
  refine (hw _ _ _ _ _ _).mono ?_
  rintro e w2 ⟨rfl, hF⟩
  have HF : Hid (Fr [] w w2) := (((Fr.refl [] w).alloc _).alloc _).trans hF
  have HB := Lib.hid (hF.heap (by simp) (((Fr.refl [] _).alloc _).heap (by simp) (heap_new _ _)))
  clear hF hw hsz HC
  rcases faultOf_case _ with ⟨h1, h2⟩ | ⟨h1, s, m, h2⟩
  · rw [h2]
    rw [HOK.out] at h1
    have H1 := Lib.hid h1
    clear h1 h2
    have k5 := cell_of_heap (o := 5) HB.out rfl
    have HN := Lib.hid (HT.out H1.out)
    have HK := Lib.hid (HM.out _ H1.out)
    clear HOK HM HT H1
    go_wp2_with fail
    go_loopw [37] (fun i wr => ∃ k : Nat, k ≤ n ∧ i = .int .i64 k ∧ Hid (Fr [] w wr) ∧ Hid (∀ b ∈ code.take k, Ins.ok b = true)) (fun i _ => n - (intOf i).toNat)
    case atStart => exact ⟨0, Nat.zero_le _, rfl, HF, fun b hb => by simp at hb⟩
    case round =>
      obtain ⟨k, hk, rfl, hF, hno⟩ := hrel
      have hn128 := HN.out
      by_cases hlt : k < n
      · have hkl : k < code.length := by rw [← HNN.out]; exact hlt
        obtain ⟨b, hb⟩ : ∃ b, code[k]? = some b := ⟨_, List.getElem?_eq_getElem hkl⟩
        obtain ⟨f1, f2, f3⟩ := flatI_at hb
        obtain ⟨g, off, rfl, c1⟩ := HR.out _ _ f1
        obtain ⟨_, _, e2, c2⟩ := HR.out _ _ f2
        cases e2
        obtain ⟨_, _, e3, c3⟩ := HR.out _ _ f3
        cases e3
        have d1 := hF.out.cell (by simp) c1
        have d2 := hF.out.cell (by simp) c2
        have d3 := hF.out.cell (by simp) c3
        rw [← Nat.add_assoc] at d2 d3
        have HYES : Hid (b.ok = false → ok = false) := Lib.hid fun h => by
          rw [HK.out, Bool.true_and]
          exact List.all_eq_false.2 ⟨b, List.mem_of_getElem? hb, by rw [h]; simp⟩
        have HNO : Hid (b.ok = true → ∀ c ∈ code.take (k + 1), Ins.ok c = true) := Lib.hid fun h c hc => by
          rw [List.take_add_one, hb] at hc
          rcases List.mem_append.1 hc with hc | hc
          · exact hno.out c hc
          · simp at hc
            rw [hc]
            exact h
        have k0 : (0 : Int) ≤ (k : Int) := by omega
        have k1 : (k : Int) < (n : Int) := by omega
        have HCK := Lib.hid (checkInstr_at b)
        obtain ⟨bo, hbo⟩ : ∃ o, o = b.ok := ⟨_, rfl⟩
        rw [← hbo] at HYES HNO HCK
        clear hbo
        obtain ⟨op, a, b⟩ := b
        unfold Ins.v at HCK
        simp only at d1 d2 d3 HCK
        clear hkl hb f1 f2 f3 c1 c2 c3
        go_wp2_with fail
        refine (HCK.out _).mono ?_
        rintro e w3 ⟨hF3, ⟨ho, rfl⟩ | ⟨ho, s, m, rfl⟩⟩
        · have HX : Hid (Fr [] w w3) := (hF.out.alloc _).trans hF3
          have HV := Lib.hid (HNO.out ho)
          clear hF3 ho d1 d2 d3
          go_wp2_with fail
          go_roundw
          case rel => exact ⟨k + 1, by omega, by go_num, HX, HV⟩
          case measure => simp [intOf]; omega
        · have HX : Hid (Fr [] w w3) := (hF.out.alloc _).trans hF3
          have HV := Lib.hid (HYES.out ho)
          clear hF3 ho d1 d2 d3
          go_wp2_with fail
          go_ret
          exact ⟨HX.out, .inr ⟨HV.out, s, m, rfl⟩⟩
      · have hkn : k = n := by omega
        subst hkn
        have hkd : decide (k < k) = false := by simp
        have HV : Hid (ok = true) := by
          have h := hno.out
          rw [List.take_of_length_le (by rw [← HNN.out]; omega)] at h
          rw [HK.out, Bool.true_and]
          exact Lib.hid (List.all_eq_true.2 h)
        go_wp2_with fail
        go_ret
        exact ⟨hF.out, .inl ⟨HV.out, rfl⟩⟩
  · rw [h2]
    rw [HOK.out] at h1
    have H1 := Lib.hid h1
    clear h1 h2
    go_wp2_with fail
    go_ret
    exact ⟨HF.out, .inr ⟨by rw [HM.out _ H1.out]; rfl, s, m, rfl⟩⟩
end Go.Proofs.YtomcfjckhajhmabGreatDoor
namespace Go.Proofs.YtomcfjckhajhmabGreatDoor
open Go.RowKit

theorem row_fr {w w' : World} {ba : Option Addr} {xs : List Value} (h : RowAt w ba xs) (hF : Fr [] w w') : RowAt w' ba xs := by
  intro j u hj
  obtain ⟨g, o, e, hc⟩ := h j u hj
  exact ⟨g, o, e, hF.cell (by simp) hc⟩
set_option maxRecDepth 100000 in
set_option maxHeartbeats 1600000 in
theorem check_at (m : Mth) (la ca : Option Addr) (lc cc : Nat) (w : World) (hr : RowAt w ca (flatI m.code)) (hE : Field w) : Calls Tryz.prog 52 #[m.v la lc ca cc] w (Still (.int .i64 (if m.ok = true then 0 else 4)) w) := by
  have HCK := Lib.hid (fun W (hF : Fr [] w W) => checkMethod_at m la ca lc cc W (row_fr hr hF))
  clear hr
  obtain ⟨ok, hok⟩ : ∃ ok, ok = m.ok := ⟨_, rfl⟩
  rw [← hok] at HCK ⊢
  clear hok
  obtain ⟨args, temps, stack, prim, lits, code⟩ := m
  unfold Mth.v at HCK ⊢
  simp only at HCK ⊢
  obtain ⟨ll, hll⟩ : ∃ n, n = lits.length := ⟨_, rfl⟩
  obtain ⟨n, hn⟩ : ∃ n, n = code.length := ⟨_, rfl⟩
  rw [← hll, ← hn] at HCK ⊢
  clear hll hn
  obtain ⟨eb, heb⟩ := hE
  have hmx : Tryz.prog.follows .mixedOrders = true := by kernel_rfl
  obtain ⟨W1, hW1⟩ : ∃ W1, W1 = w.alloc (.cells #[.int .i64 args, .int .i64 temps, .int .i64 stack, .int .i64 prim, .slice la ll lc, .slice ca n cc] 25) := ⟨_, rfl⟩
  have HF1 : Hid (Fr [] w W1) := by rw [hW1]; exact (Fr.refl _ _).alloc _
  have hbl : W1.heap[w.heap.size]? = some (.cells #[.int .i64 args, .int .i64 temps, .int .i64 stack, .int .i64 prim, .slice la ll lc, .slice ca n cc] 25 (0, 0)) := by rw [hW1]; exact heap_new _ _
  have k0 := cell_of_heap (o := 0) hbl rfl
  have k1 := cell_of_heap (o := 1) hbl rfl
  have k2 := cell_of_heap (o := 2) hbl rfl
  have k3 := cell_of_heap (o := 3) hbl rfl
  have k4 := cell_of_heap (o := 4) hbl rfl
  have k5 := cell_of_heap (o := 5) hbl rfl
  have ke := HF1.out.cell (by simp) heb
  have hck := HCK.out W1.drew (HF1.out.drew)
  have HIS := Lib.hid (fun s n (W' : World) (hF : Fr [] W1 W') => is_fault s n eb W' (hF.cell (by simp) ke))
  have HNL := Lib.hid (fun (W' : World) => is_nil eb W')
  clear hbl heb HCK
  go_enter Tryz.func52, Tryz.ntmps52
  cases ok
  · simp only [Bool.false_eq_true, if_false]
    go_wp2_with fail
    rw [← hW1]
    clear hW1
    refine region_own' (S := fun w' => w'.cell? ⟨w.heap.size, 0, none⟩ = some (.int .i64 args) ∧ w'.cell? ⟨w.heap.size, 1, none⟩ = some (.int .i64 temps) ∧ w'.cell? ⟨w.heap.size, 2, none⟩ = some (.int .i64 stack) ∧ w'.cell? ⟨w.heap.size, 3, none⟩ = some (.int .i64 prim) ∧ w'.cell? ⟨w.heap.size, 4, none⟩ = some (.slice la ll lc) ∧ w'.cell? ⟨w.heap.size, 5, none⟩ = some (.slice ca n cc) ∧ w'.cell? ⟨1, 0, none⟩ = some (.iface 218 (.pointer (some eb)))) hmx ⟨k0, k1, k2, k3, k4, k5, ke⟩ (fun hHeld => ?_)
    (refine wpAnyH_take (i := 0) (oi := ⟨some 3, _, _, _, _, _⟩) (v := ?_) rfl (by kernel_rfl) (by kernel_rfl) (by kernel_rfl) (fun _ _ _ h => h) (Or.inl ⟨by rfl, ?_⟩) (by assumption) ?_); rotate_left; focus (intro w hSw; (try dsimp only at hSw); go_split_ands; go_simp; try with_reducible rfl); (try simp only [Act.put, List.setIfInBounds_toArray, List.set_cons_zero, List.set_cons_succ])
    (refine wpAnyH_take (i := 2) (oi := ⟨some 5, _, _, _, _, _⟩) (v := ?_) rfl (by kernel_rfl) (by kernel_rfl) (by kernel_rfl) (fun _ _ _ h => h) (Or.inl ⟨by rfl, ?_⟩) (by assumption) ?_); rotate_left; focus (intro w hSw; (try dsimp only at hSw); go_split_ands; go_simp; try with_reducible rfl); (try simp only [Act.put, List.setIfInBounds_toArray, List.set_cons_zero, List.set_cons_succ])
    (refine wpAnyH_ready (rs := [1]) (by kernel_rfl) (by simp) ?_; refine AllReadyH.cons rfl (fun K hK => ?_) AllReadyH.nil); go_simp
    refine hck.mono ?_
    rintro e w2 ⟨hF2, ⟨hx, -⟩ | ⟨-, s, m, rfl⟩⟩
    · cases hx
    have HF2 : Hid (Fr [] W1 w2) := ((Fr.refl [] W1).drew).trans hF2
    have his := HIS.out s m w2 HF2.out
    refine hK.out _ _ ⟨HF2.out.cell (by simp) k0, HF2.out.cell (by simp) k1, HF2.out.cell (by simp) k2, HF2.out.cell (by simp) k3, HF2.out.cell (by simp) k4, HF2.out.cell (by simp) k5, HF2.out.cell (by simp) ke⟩ (fun hHeld2 => ?_)
    clear hK hck hF2
    (refine wpAnyH_ready (rs := [3]) (by kernel_rfl) (by simp) ?_; refine AllReadyH.cons rfl (fun K hK => ?_) AllReadyH.nil); go_simp
    refine his.mono ?_
    rintro e w3 ⟨rfl, hF3⟩
    have HF3 := Lib.hid (HF2.out.trans hF3)
    refine hK.out _ _ ⟨HF3.out.cell (by simp) k0, HF3.out.cell (by simp) k1, HF3.out.cell (by simp) k2, HF3.out.cell (by simp) k3, HF3.out.cell (by simp) k4, HF3.out.cell (by simp) k5, HF3.out.cell (by simp) ke⟩ (fun hHeld3 => ?_)
    clear hK his hF3
    refine wpAnyH_done (by kernel_rfl) (Norm.mk ?_) _
    go_wp2_with fail
    go_ret
    exact ⟨rfl, HF1.out.trans HF3.out⟩
  · simp only [if_true]
    go_wp2_with fail
    rw [← hW1]
    clear hW1
    refine region_own' (S := fun w' => w'.cell? ⟨w.heap.size, 0, none⟩ = some (.int .i64 args) ∧ w'.cell? ⟨w.heap.size, 1, none⟩ = some (.int .i64 temps) ∧ w'.cell? ⟨w.heap.size, 2, none⟩ = some (.int .i64 stack) ∧ w'.cell? ⟨w.heap.size, 3, none⟩ = some (.int .i64 prim) ∧ w'.cell? ⟨w.heap.size, 4, none⟩ = some (.slice la ll lc) ∧ w'.cell? ⟨w.heap.size, 5, none⟩ = some (.slice ca n cc) ∧ w'.cell? ⟨1, 0, none⟩ = some (.iface 218 (.pointer (some eb)))) hmx ⟨k0, k1, k2, k3, k4, k5, ke⟩ (fun hHeld => ?_)
    (refine wpAnyH_take (i := 0) (oi := ⟨some 3, _, _, _, _, _⟩) (v := ?_) rfl (by kernel_rfl) (by kernel_rfl) (by kernel_rfl) (fun _ _ _ h => h) (Or.inl ⟨by rfl, ?_⟩) (by assumption) ?_); rotate_left; focus (intro w hSw; (try dsimp only at hSw); go_split_ands; go_simp; try with_reducible rfl); (try simp only [Act.put, List.setIfInBounds_toArray, List.set_cons_zero, List.set_cons_succ])
    (refine wpAnyH_take (i := 2) (oi := ⟨some 5, _, _, _, _, _⟩) (v := ?_) rfl (by kernel_rfl) (by kernel_rfl) (by kernel_rfl) (fun _ _ _ h => h) (Or.inl ⟨by rfl, ?_⟩) (by assumption) ?_); rotate_left; focus (intro w hSw; (try dsimp only at hSw); go_split_ands; go_simp; try with_reducible rfl); (try simp only [Act.put, List.setIfInBounds_toArray, List.set_cons_zero, List.set_cons_succ])
    (refine wpAnyH_ready (rs := [1]) (by kernel_rfl) (by simp) ?_; refine AllReadyH.cons rfl (fun K hK => ?_) AllReadyH.nil); go_simp
    refine hck.mono ?_
    rintro e w2 ⟨hF2, ⟨-, rfl⟩ | ⟨hx, -⟩⟩
    rotate_left
    · cases hx
    have HF2 : Hid (Fr [] W1 w2) := ((Fr.refl [] W1).drew).trans hF2
    have his := HNL.out w2
    refine hK.out _ _ ⟨HF2.out.cell (by simp) k0, HF2.out.cell (by simp) k1, HF2.out.cell (by simp) k2, HF2.out.cell (by simp) k3, HF2.out.cell (by simp) k4, HF2.out.cell (by simp) k5, HF2.out.cell (by simp) ke⟩ (fun hHeld2 => ?_)
    clear hK hck hF2
    (refine wpAnyH_ready (rs := [3]) (by kernel_rfl) (by simp) ?_; refine AllReadyH.cons rfl (fun K hK => ?_) AllReadyH.nil); go_simp
    refine his.mono ?_
    rintro e w3 ⟨rfl, hF3⟩
    have HF3 := Lib.hid (HF2.out.trans hF3)
    refine hK.out _ _ ⟨HF3.out.cell (by simp) k0, HF3.out.cell (by simp) k1, HF3.out.cell (by simp) k2, HF3.out.cell (by simp) k3, HF3.out.cell (by simp) k4, HF3.out.cell (by simp) k5, HF3.out.cell (by simp) ke⟩ (fun hHeld3 => ?_)
    clear hK his hF3
    refine wpAnyH_done (by kernel_rfl) (Norm.mk ?_) _
    go_wp2_with fail
    go_ret
    exact ⟨rfl, HF1.out.trans HF3.out⟩
theorem Mth.head_iff (m : Mth) : m.head = true ↔ (0 ≤ m.args ∧ m.args ≤ 4 ∧ m.args ≤ m.temps ∧ m.temps ≤ 16 ∧ 0 ≤ m.stack ∧ m.stack ≤ 16 ∧ 0 ≤ m.prim ∧ m.prim ≤ 255 ∧ m.lits.length ≤ 32 ∧ 1 ≤ m.code.length ∧ m.code.length ≤ 128) := by unfold Mth.head; simp
theorem Mth.ok_iff (m : Mth) : m.ok = true ↔ (m.head = true ∧ ∀ i ∈ m.code, i.ok = true) := by unfold Mth.ok; simp [List.all_eq_true]
theorem Ins.ok_iff (i : Ins) : i.ok = true ↔ (1 ≤ i.op ∧ i.op ≤ 23 ∧ 0 ≤ i.a ∧ i.a ≤ 4095 ∧ 0 ≤ i.b ∧ i.b ≤ 4095) := by unfold Ins.ok; simp
end Go.Proofs.YtomcfjckhajhmabGreatDoor
