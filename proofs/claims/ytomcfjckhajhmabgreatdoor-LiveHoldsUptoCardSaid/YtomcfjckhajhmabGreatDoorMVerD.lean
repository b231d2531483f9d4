/- verify.verdict: what callers are told of an error (errors.As walked, at a violation and at a plain error). verify.verdict: what callers are told of an error. verify.Depths. -/
import Derived.Test.YtomcfjckhajhmabGreatDoorMBase
import Derived.Test.YtomcfjckhajhmabGreatDoorMVerC
import Derived.LaidEql
import Derived.Stop.Asserts
import Derived.RowKitTokens
import Derived.Lib.ReflectliteSlice
import Derived.Laws.Tables
import Derived.Stop.IfaceNil
namespace Go.Proofs.YtomcfjckhajhmabGreatDoor
open Go.RowKit Go.Extern.Stop Go.Stop Go.Extern

theorem vl_valueOfP (t : Addr) (w : World) : (ReflectliteValue.unpack (.iface 128 (.pointer (some t)))).run Tryz.prog w
    = .ok (.agg #[.pointer (some ⟨9, 128, none⟩), .pointer (some ⟨w.heap.size, 0, none⟩), .int .u64 150]) (w.alloc (.cells #[.pointer (some t)] 128)) := by kernel_rfl
theorem vl_valueOfE (a b : Value) (w : World) : (ReflectliteValue.unpack (.iface 119 (.agg #[a, b]))).run Tryz.prog w
    = .ok (.agg #[.pointer (some ⟨9, 119, none⟩), .pointer (some ⟨w.heap.size, 0, none⟩), .int .u64 153]) (w.alloc (.cells #[a, b] 119)) := by kernel_rfl
theorem vl_typeP (a : Addr) (w : World) : (ReflectliteValue.methodAny (ReflectliteValue.valueError "reflectlite.Value.Type" 0) (fun t _ _ _ => ReflectliteType.toType t) #[.agg #[.pointer (some ⟨9, 128, none⟩), .pointer (some a), .int .u64 150]]).run Tryz.prog w
    = .ok (.iface 179 (.agg #[.pointer (some ⟨9, 128, none⟩)])) w := by kernel_rfl
theorem vl_kindP (w : World) : ((ReflectliteType.abiMethod fun t => (fun a : Nat => Value.int IntKind.u8 (a : Int)) <$> Rtype.kind t) #[.pointer (some ⟨9, 128, none⟩)]).run Tryz.prog w = .ok (.int .u8 22) w := by kernel_rfl
theorem vl_kindE (w : World) : ((ReflectliteType.abiMethod fun t => (fun a : Nat => Value.int IntKind.u8 (a : Int)) <$> Rtype.kind t) #[.pointer (some ⟨9, 119, none⟩)]).run Tryz.prog w = .ok (.int .u8 25) w := by kernel_rfl
theorem vl_elemP (w : World) : (ReflectliteType.method ReflectliteType.elem #[.agg #[.pointer (some ⟨9, 128, none⟩)]]).run Tryz.prog w = .ok (.iface 179 (.agg #[.pointer (some ⟨9, 119, none⟩)])) w := by kernel_rfl
theorem vl_implE (w : World) : (ReflectliteType.relation "Implements" ReflectliteType.implements_ #[.agg #[.pointer (some ⟨9, 119, none⟩)], .iface 179 (.agg #[.pointer (some ⟨9, 92, none⟩)])]).run Tryz.prog w = .ok (.bool true) w := by kernel_rfl
theorem vl_typeOfE (v : Value) (w : World) : (ReflectliteType.typeOf #[.iface 119 v]).run Tryz.prog w = .ok (.iface 179 (.agg #[.pointer (some ⟨9, 119, none⟩)])) w := by kernel_rfl
theorem vl_typeOfS (v : Value) (w : World) : (ReflectliteType.typeOf #[.iface 218 v]).run Tryz.prog w = .ok (.iface 179 (.agg #[.pointer (some ⟨9, 218, none⟩)])) w := by kernel_rfl
theorem vl_assE (w : World) : (ReflectliteType.relation "AssignableTo" ReflectliteType.assignableTo #[.agg #[.pointer (some ⟨9, 119, none⟩)], .iface 179 (.agg #[.pointer (some ⟨9, 119, none⟩)])]).run Tryz.prog w = .ok (.bool true) w := by kernel_rfl
theorem vl_assS (w : World) : (ReflectliteType.relation "AssignableTo" ReflectliteType.assignableTo #[.agg #[.pointer (some ⟨9, 218, none⟩)], .iface 179 (.agg #[.pointer (some ⟨9, 119, none⟩)])]).run Tryz.prog w = .ok (.bool false) w := by kernel_rfl
theorem vm_kind (h : Value) (w : World) : (Go.method 350 179 (.agg #[h]) "Kind").run Tryz.prog w = .ok (142, h) w := by kernel_rfl
theorem vm_elem (h : Value) (w : World) : (Go.method 350 179 (.agg #[h]) "Elem").run Tryz.prog w = .ok (154, .agg #[h]) w := by kernel_rfl
theorem vm_impl (h : Value) (w : World) : (Go.method 350 179 (.agg #[h]) "Implements").run Tryz.prog w = .ok (155, .agg #[h]) w := by kernel_rfl
theorem vm_ass (h : Value) (w : World) : (Go.method 350 179 (.agg #[h]) "AssignableTo").run Tryz.prog w = .ok (152, .agg #[h]) w := by kernel_rfl
theorem vt_noAs (v : Value) (xT : TypeId) (w : World) : (Instr.typeAssert (.iface 218 v) xT 183 true).run Tryz.prog w = .ok (.tuple #[.nilIface, .bool false]) w := run_typeAssert_lacksB Tryz.underlying183 (by kernel_rfl) (by kernel_rfl) v xT w
theorem vt_noUnwrap (v : Value) (xT : TypeId) (w : World) : (Instr.typeAssert (.iface 218 v) xT 186 true).run Tryz.prog w = .ok (.tuple #[.nilIface, .bool false]) w := run_typeAssert_lacksB Tryz.underlying186 (by kernel_rfl) (by kernel_rfl) v xT w
theorem vt_noUnwraps (v : Value) (xT : TypeId) (w : World) : (Instr.typeAssert (.iface 218 v) xT 188 true).run Tryz.prog w = .ok (.tuple #[.nilIface, .bool false]) w := run_typeAssert_lacksB Tryz.underlying188 (by kernel_rfl) (by kernel_rfl) v xT w
theorem vl_partsP (a : Addr) (w : World) : (ReflectliteValue.parts (.agg #[.pointer (some ⟨9, 128, none⟩), .pointer (some a), .int .u64 150])).run Tryz.prog w = .ok (some (128, a, 150)) w := by kernel_rfl
theorem vl_isNilP (a p : Addr) (W : World) (ha : W.cell? a = some (.pointer (some p))) :
    (ReflectliteValue.method (ReflectliteValue.valueError "reflectlite.Value.IsNil" 0) ReflectliteValue.isNil #[.agg #[.pointer (some ⟨9, 128, none⟩), .pointer (some a), .int .u64 150]]).run Tryz.prog W = .ok (.bool false) W := by
  rw [Go.Lib.rl_method]
  simp only [Sem.run_bind, vl_partsP, Result.andThen]
  simp [ReflectliteValue.isNil, loadVar, isAgg, underlying, Tryz.underlying128, ha, Result.andThen]
theorem vl_elemOfP (w : World) : (Rtype.elem? 128).run Tryz.prog w = .ok (some 119) w := by kernel_rfl
theorem vl_mkE (p : Addr) (w : World) : (ReflectliteValue.mk 119 p ReflectliteValue.flagAddr).run Tryz.prog w = .ok (.agg #[.pointer (some ⟨9, 119, none⟩), .pointer (some p), .int .u64 409]) w := by kernel_rfl
theorem vl_elemVP (a p : Addr) (W : World) (ha : W.cell? a = some (.pointer (some p))) :
    (ReflectliteValue.method (ReflectliteValue.valueError "reflectlite.Value.Elem" 0) ReflectliteValue.elem #[.agg #[.pointer (some ⟨9, 128, none⟩), .pointer (some a), .int .u64 150]]).run Tryz.prog W
      = .ok (.agg #[.pointer (some ⟨9, 119, none⟩), .pointer (some p), .int .u64 409]) W := by
  rw [Go.Lib.rl_method]
  simp only [Sem.run_bind, vl_partsP, Result.andThen]
  simp [ReflectliteValue.elem, loadVar, isAgg, underlying, Tryz.underlying128, ha, Result.andThen, vl_elemOfP, vl_mkE]
theorem vl_partsEa (a : Addr) (w : World) : (ReflectliteValue.parts (.agg #[.pointer (some ⟨9, 119, none⟩), .pointer (some a), .int .u64 409])).run Tryz.prog w = .ok (some (119, a, 409)) w := by kernel_rfl
theorem vl_partsE (a : Addr) (w : World) : (ReflectliteValue.parts (.agg #[.pointer (some ⟨9, 119, none⟩), .pointer (some a), .int .u64 153])).run Tryz.prog w = .ok (some (119, a, 153)) w := by kernel_rfl
theorem vl_directE (w : World) : (Rtype.directlyAssignable 119 119).run Tryz.prog w = .ok true w := by kernel_rfl
theorem vl_sizeE : (Tryz.prog.info? 119).map (·.size) = some 2 := by kernel_rfl
end Go.Proofs.YtomcfjckhajhmabGreatDoor
namespace Go.Proofs.YtomcfjckhajhmabGreatDoor
open Go.RowKit Go.Extern.Stop Go.Stop Go.Extern

theorem vl_setE (tb b : Nat) (x y u v : Value) (W : World) (hx : x.oneCell' = true) (hy : y.oneCell' = true) (hb : W.heap[b]? = some (.cells #[x, y] 119 (0, 0))) (ht : W.heap[tb]? = some (.cells #[u, v] 119 (0, 0))) :
    (ReflectliteValue.set #[.agg #[.pointer (some ⟨9, 119, none⟩), .pointer (some ⟨tb, 0, none⟩), .int .u64 409], .agg #[.pointer (some ⟨9, 119, none⟩), .pointer (some ⟨b, 0, none⟩), .int .u64 153]]).run Tryz.prog W
      = .ok (.tuple #[]) (W.setRow tb #[x, y]) := by
  have hl := run_loadVar_row (P := Tryz.prog) W b 119 119 #[x, y] (0, 0) _ hb Tryz.underlying119 rfl vl_sizeE
  have hs := run_storeVar_row (P := Tryz.prog) W tb 119 119 #[u, v] #[x, y] ht vl_sizeE rfl (by simp [hx, hy])
  change (ReflectliteValue.parts (.agg #[.pointer (some ⟨9, 119, none⟩), .pointer (some ⟨tb, 0, none⟩), .int .u64 409]) >>= fun p => ReflectliteValue.parts (.agg #[.pointer (some ⟨9, 119, none⟩), .pointer (some ⟨b, 0, none⟩), .int .u64 153]) >>= fun q => _).run Tryz.prog W = _
  simp only [Sem.run_bind, vl_partsEa, vl_partsE, Result.andThen]
  simp [ReflectliteValue.flagAddr, hl, Result.andThen, vl_directE, hs]
theorem Fr.joinN {S : List Nat} {a b c : World} (h : Fr [] a b) (k : Fr S b c) (hS : ∀ j ∈ S, a.heap.size ≤ j) : Fr [] a c :=
  h.trans' k (fun _ _ e => e) (fun j hj hm => absurd (hS j hm) (by omega))
theorem setRow_fr {w : World} {g : Nat} (cs : Array Value) : Fr [g] w (w.setRow g cs) := by
  refine ⟨rfl, rfl, rfl, by simp [World.setRow], fun k hk hn => ?_⟩
  have : g ≠ k := fun e => hn (by simp [e])
  simp [World.setRow, Array.getElem?_modify, this]
theorem setRow_at {w : World} {g : Nat} {c : Array Value} {t : TypeId} (cs : Array Value) (h : w.heap[g]? = some (.cells c t (0, 0))) : (w.setRow g cs).heap[g]? = some (.cells cs t (0, 0)) := by
  simp [World.setRow, Array.getElem?_modify, h]
def AsTo (tb : Nat) (x y : Value) (w : World) (e : Ending) (w' : World) : Prop := e = .returned (.bool true) ∧ Fr [tb] w w' ∧ w'.heap[tb]? = some (.cells #[x, y] 119 (0, 0))
set_option maxRecDepth 100000 in
set_option maxHeartbeats 4000000 in
theorem as_viol (tb : Nat) (x y u v : Value) (w : World) (hx : x.oneCell' = true) (hy : y.oneCell' = true) (hg : w.cell? ⟨5, 0, none⟩ = some (.iface 179 (.agg #[.pointer (some ⟨9, 92, none⟩)]))) (ht : w.heap[tb]? = some (.cells #[u, v] 119 (0, 0))) :
    Calls Tryz.prog 56 #[.iface 119 (.agg #[x, y]), .iface 128 (.pointer (some ⟨tb, 0, none⟩))] w (AsTo tb x y w) := by
  have h6 := @run_callFunc_extern Tryz.prog 84 _ (fun args => ReflectliteValue.unpack (args.getD 0 (.tuple #[]))) Tryz.func84 (by kernel_rfl) (by kernel_rfl) (by kernel_rfl) (by kernel_rfl)
  have h7 := @run_callFunc_extern Tryz.prog 85 _ (ReflectliteValue.methodAny (ReflectliteValue.valueError "reflectlite.Value.Type" 0) (fun t _ _ _ => ReflectliteType.toType t)) Tryz.func85 (by kernel_rfl) (by kernel_rfl) (by kernel_rfl) (by kernel_rfl)
  have h8 := @run_callFunc_extern Tryz.prog 86 _ (ReflectliteValue.method (ReflectliteValue.valueError "reflectlite.Value.IsNil" 0) ReflectliteValue.isNil) Tryz.func86 (by kernel_rfl) (by kernel_rfl) (by kernel_rfl) (by kernel_rfl)
  have h27 := @run_callFunc_extern Tryz.prog 142 _ (ReflectliteType.abiMethod fun t => do pure (.int .u8 (← Rtype.kind t))) Tryz.func142 (by kernel_rfl) (by kernel_rfl) (by kernel_rfl) (by kernel_rfl)
  have h37 := @run_callFunc_extern Tryz.prog 154 _ (ReflectliteType.method ReflectliteType.elem) Tryz.func154 (by kernel_rfl) (by kernel_rfl) (by kernel_rfl) (by kernel_rfl)
  have h38 := @run_callFunc_extern Tryz.prog 155 _ (ReflectliteType.relation "Implements" ReflectliteType.implements_) Tryz.func155 (by kernel_rfl) (by kernel_rfl) (by kernel_rfl) (by kernel_rfl)
  have h10 := @run_callFunc_extern Tryz.prog 100 _ ReflectliteType.typeOf Tryz.func100 (by kernel_rfl) (by kernel_rfl) (by kernel_rfl) (by kernel_rfl)
  have h35 := @run_callFunc_extern Tryz.prog 152 _ (ReflectliteType.relation "AssignableTo" ReflectliteType.assignableTo) Tryz.func152 (by kernel_rfl) (by kernel_rfl) (by kernel_rfl) (by kernel_rfl)
  have h11 := @run_callFunc_extern Tryz.prog 106 _ (ReflectliteValue.method (ReflectliteValue.valueError "reflectlite.Value.Elem" 0) ReflectliteValue.elem) Tryz.func106 (by kernel_rfl) (by kernel_rfl) (by kernel_rfl) (by kernel_rfl)
  have h12 := @run_callFunc_extern Tryz.prog 107 _ ReflectliteValue.set Tryz.func107 (by kernel_rfl) (by kernel_rfl) (by kernel_rfl) (by kernel_rfl)
  have tOE := vl_typeOfE
  have tOS := vl_typeOfS
  have mA := vm_ass
  have aE := vl_assE
  have aS := vl_assS
  have vE := vl_valueOfE
  have vP := vl_valueOfP
  have tP := vl_typeP
  have mK := vm_kind
  have mE := vm_elem
  have mI := vm_impl
  have taA := vt_noAs
  have taU := vt_noUnwrap
  have taUs := vt_noUnwraps
  have kP := vl_kindP
  have kE := vl_kindE
  have eP := vl_elemP
  have iE := vl_implE
  obtain ⟨w1, hw1⟩ : ∃ w1, w1 = w.alloc (.cells #[.pointer (some ⟨tb, 0, none⟩)] 128) := ⟨_, rfl⟩
  have n8 := vl_isNilP ⟨w.heap.size, 0, none⟩ ⟨tb, 0, none⟩ ((w.alloc (.cells #[.pointer (some ⟨tb, 0, none⟩)] 128)).alloc (.cells #[.pointer (some ⟨9, 128, none⟩), .pointer (some ⟨w.heap.size, 0, none⟩), .int .u64 150] 152)) (by simp)
  have hlt : 5 < w.heap.size := World.block_lt_of_cell? w _ hg
  have hg2 : ((w.alloc (.cells #[.pointer (some ⟨tb, 0, none⟩)] 128)).alloc (.cells #[.pointer (some ⟨9, 128, none⟩), .pointer (some ⟨w.heap.size, 0, none⟩), .int .u64 150] 152)).cell? ⟨5, 0, none⟩ = some (.iface 179 (.agg #[.pointer (some ⟨9, 92, none⟩)])) :=
    (((Fr.refl [] w).alloc _).alloc _).cell (by simp) hg
  have el := vl_elemVP ⟨w.heap.size, 0, none⟩ ⟨tb, 0, none⟩ (((w.alloc (.cells #[.pointer (some ⟨tb, 0, none⟩)] 128)).alloc (.cells #[.pointer (some ⟨9, 128, none⟩), .pointer (some ⟨w.heap.size, 0, none⟩), .int .u64 150] 152)).alloc (.cells #[.pointer (some ⟨9, 128, none⟩), .pointer (some ⟨w.heap.size, 0, none⟩), .int .u64 150] 152)) (((Fr.refl [] _).alloc _).alloc _ |>.cell (by simp) (cell_of_heap (o := 0) (heap_new w _) rfl))
  clear hw1 w1
  have HF4 := Lib.hid ((((((Fr.refl [] w).alloc (.cells #[.pointer (some ⟨tb, 0, none⟩)] 128)).alloc (.cells #[.pointer (some ⟨9, 128, none⟩), .pointer (some ⟨w.heap.size, 0, none⟩), .int .u64 150] 152)).alloc (.cells #[.pointer (some ⟨9, 128, none⟩), .pointer (some ⟨w.heap.size, 0, none⟩), .int .u64 150] 152)).alloc (.cells #[x, y] 119)))
  have ht4 := HF4.out.heap (by simp) ht
  have st := vl_setE tb (w.heap.size + 1 + 1 + 1) x y u v _ hx hy (by simpa using heap_new (((w.alloc (.cells #[.pointer (some ⟨tb, 0, none⟩)] 128)).alloc (.cells #[.pointer (some ⟨9, 128, none⟩), .pointer (some ⟨w.heap.size, 0, none⟩), .int .u64 150] 152)).alloc (.cells #[.pointer (some ⟨9, 128, none⟩), .pointer (some ⟨w.heap.size, 0, none⟩), .int .u64 150] 152)) (.cells #[x, y] 119)) ht4
  have HT4 := Lib.hid ht4
  clear ht4 ht hx hy
  go_enter Tryz.func56, Tryz.ntmps56
  go_wp2_with go_in
  refine wp_loop_rounds 1 ?_
  rw [rounds_succ]
  go_wp2_with go_in
  go_ret
  exact ⟨rfl, (HF4.out.weak).trans (setRow_fr _), setRow_at _ HT4.out⟩
set_option maxRecDepth 100000 in
set_option maxHeartbeats 4000000 in
theorem as_plain (tb : Nat) (b : Value) (w : World) (hg : w.cell? ⟨5, 0, none⟩ = some (.iface 179 (.agg #[.pointer (some ⟨9, 92, none⟩)]))) :
    Calls Tryz.prog 56 #[.iface 218 b, .iface 128 (.pointer (some ⟨tb, 0, none⟩))] w (Still (.bool false) w) := by
  have h6 := @run_callFunc_extern Tryz.prog 84 _ (fun args => ReflectliteValue.unpack (args.getD 0 (.tuple #[]))) Tryz.func84 (by kernel_rfl) (by kernel_rfl) (by kernel_rfl) (by kernel_rfl)
  have h7 := @run_callFunc_extern Tryz.prog 85 _ (ReflectliteValue.methodAny (ReflectliteValue.valueError "reflectlite.Value.Type" 0) (fun t _ _ _ => ReflectliteType.toType t)) Tryz.func85 (by kernel_rfl) (by kernel_rfl) (by kernel_rfl) (by kernel_rfl)
  have h8 := @run_callFunc_extern Tryz.prog 86 _ (ReflectliteValue.method (ReflectliteValue.valueError "reflectlite.Value.IsNil" 0) ReflectliteValue.isNil) Tryz.func86 (by kernel_rfl) (by kernel_rfl) (by kernel_rfl) (by kernel_rfl)
  have h27 := @run_callFunc_extern Tryz.prog 142 _ (ReflectliteType.abiMethod fun t => do pure (.int .u8 (← Rtype.kind t))) Tryz.func142 (by kernel_rfl) (by kernel_rfl) (by kernel_rfl) (by kernel_rfl)
  have h37 := @run_callFunc_extern Tryz.prog 154 _ (ReflectliteType.method ReflectliteType.elem) Tryz.func154 (by kernel_rfl) (by kernel_rfl) (by kernel_rfl) (by kernel_rfl)
  have h38 := @run_callFunc_extern Tryz.prog 155 _ (ReflectliteType.relation "Implements" ReflectliteType.implements_) Tryz.func155 (by kernel_rfl) (by kernel_rfl) (by kernel_rfl) (by kernel_rfl)
  have h10 := @run_callFunc_extern Tryz.prog 100 _ ReflectliteType.typeOf Tryz.func100 (by kernel_rfl) (by kernel_rfl) (by kernel_rfl) (by kernel_rfl)
  have h35 := @run_callFunc_extern Tryz.prog 152 _ (ReflectliteType.relation "AssignableTo" ReflectliteType.assignableTo) Tryz.func152 (by kernel_rfl) (by kernel_rfl) (by kernel_rfl) (by kernel_rfl)
  have h11 := @run_callFunc_extern Tryz.prog 106 _ (ReflectliteValue.method (ReflectliteValue.valueError "reflectlite.Value.Elem" 0) ReflectliteValue.elem) Tryz.func106 (by kernel_rfl) (by kernel_rfl) (by kernel_rfl) (by kernel_rfl)
  have h12 := @run_callFunc_extern Tryz.prog 107 _ ReflectliteValue.set Tryz.func107 (by kernel_rfl) (by kernel_rfl) (by kernel_rfl) (by kernel_rfl)
  have tOE := vl_typeOfE
  have tOS := vl_typeOfS
  have mA := vm_ass
  have aE := vl_assE
  have aS := vl_assS
  have vE := vl_valueOfE
  have vP := vl_valueOfP
  have tP := vl_typeP
  have mK := vm_kind
  have mE := vm_elem
  have mI := vm_impl
  have taA := vt_noAs
  have taU := vt_noUnwrap
  have taUs := vt_noUnwraps
  have kP := vl_kindP
  have kE := vl_kindE
  have eP := vl_elemP
  have iE := vl_implE
  obtain ⟨w1, hw1⟩ : ∃ w1, w1 = w.alloc (.cells #[.pointer (some ⟨tb, 0, none⟩)] 128) := ⟨_, rfl⟩
  have n8 := vl_isNilP ⟨w.heap.size, 0, none⟩ ⟨tb, 0, none⟩ ((w.alloc (.cells #[.pointer (some ⟨tb, 0, none⟩)] 128)).alloc (.cells #[.pointer (some ⟨9, 128, none⟩), .pointer (some ⟨w.heap.size, 0, none⟩), .int .u64 150] 152)) (by simp)
  have hlt : 5 < w.heap.size := World.block_lt_of_cell? w _ hg
  have hg2 : ((w.alloc (.cells #[.pointer (some ⟨tb, 0, none⟩)] 128)).alloc (.cells #[.pointer (some ⟨9, 128, none⟩), .pointer (some ⟨w.heap.size, 0, none⟩), .int .u64 150] 152)).cell? ⟨5, 0, none⟩ = some (.iface 179 (.agg #[.pointer (some ⟨9, 92, none⟩)])) :=
    (((Fr.refl [] w).alloc _).alloc _).cell (by simp) hg
  clear hw1 w1
  go_enter Tryz.func56, Tryz.ntmps56
  go_wp2_with go_in
  refine wp_loop_rounds 1 ?_
  rw [rounds_succ]
  go_wp2_with go_in
  go_ret
  exact ⟨rfl, ((((Fr.refl [] w).alloc _).alloc _).alloc _)⟩
/-- errors' own variable -/
def EType (w : World) : Prop := w.cell? ⟨5, 0, none⟩ = some (.iface 179 (.agg #[.pointer (some ⟨9, 92, none⟩)]))
theorem EType.fr {w w' : World} (h : EType w) (hF : Fr [] w w') : EType w' := hF.cell (by simp) h
theorem eq_nil (u : TypeId) (x : Value) (w : World) : (binOp .eql 92 (.iface u x) .nilIface).run Tryz.prog w = .ok (.bool false) w := by go_simp
theorem verdict_nil (w : World) : Calls Tryz.prog 39 #[.nilIface] w (Gives (.tuple #[.int .i64 (-1), .int .i64 0]) w) := by
  go_enter Tryz.func39, Tryz.ntmps39
  go_wp2
  go_ret2
  exact ⟨rfl, rfl⟩
set_option maxHeartbeats 1600000 in
theorem verdict_viol (k : Int) (a : Addr) (w : World) (hg : EType w) : Calls Tryz.prog 39 #[.iface 119 (.agg #[.int .i64 k, .iface 218 (.pointer (some a))])] w (Still (.tuple #[.int .i64 k, .int .i64 4]) w) := by
  have hnl := eq_nil
  have has := as_viol w.heap.size (.int .i64 k) (.iface 218 (.pointer (some a))) (.int .i64 0) .nilIface (w.alloc (.cells #[.int .i64 0, .nilIface] 119)) rfl rfl (hg.fr ((Fr.refl _ _).alloc _)) (heap_new _ _)
  clear hg
  go_enter Tryz.func39, Tryz.ntmps39
  go_wp2_with fail
  refine has.mono ?_
  rintro e w2 ⟨rfl, hF2, hb⟩
  have k0 := cell_of_heap (o := 0) hb rfl
  have HF2 := Lib.hid (((Fr.refl [] w).alloc (.cells #[.int .i64 0, .nilIface] 119)).joinN hF2 (fun j hj => by simp at hj; omega))
  clear hF2 hb has
  go_wp2_with fail
  go_ret2
  exact ⟨rfl, HF2.out⟩
set_option maxHeartbeats 1600000 in
theorem verdict_plain (b : Value) (w : World) (hg : EType w) : Calls Tryz.prog 39 #[.iface 218 b] w (Still (.tuple #[.int .i64 (-1), .int .i64 4]) w) := by
  have hnl := eq_nil
  have has := as_plain w.heap.size b (w.alloc (.cells #[.int .i64 0, .nilIface] 119)) (hg.fr ((Fr.refl _ _).alloc _))
  clear hg
  go_enter Tryz.func39, Tryz.ntmps39
  go_wp2_with fail
  refine has.mono ?_
  rintro e w2 ⟨rfl, hF2⟩
  have HF2 := Lib.hid (((Fr.refl [] w).alloc (.cells #[.int .i64 0, .nilIface] 119)).trans hF2)
  clear hF2 has
  go_wp2_with fail
  go_ret2
  exact ⟨rfl, HF2.out⟩
end Go.Proofs.YtomcfjckhajhmabGreatDoor
namespace Go.Proofs.YtomcfjckhajhmabGreatDoor
open Go.RowKit

/-- what Depths answers: the depths in a new row, the place, the error -/
def DepOut (m : Mth) (w : World) (e : Ending) (w' : World) : Prop := ∃ (l : List Int) (p en : Int) (la : Option Addr) (lc : Nat), DepthsTo m l p en ∧ e = .returned (.tuple #[.slice la l.length lc, .int .i64 p, .int .i64 en]) ∧ Fr [] w w' ∧ RowAt w' la (l.map (Value.int .i64)) ∧ ∀ a, la = some a → w.heap.size ≤ a.block
set_option maxRecDepth 100000 in
set_option maxHeartbeats 1600000 in
theorem Depths_at (m : Mth) (la ca : Option Addr) (lc cc : Nat) (w : World) (hcode : RowAt w ca (flatI m.code)) (hE : VErrs w) (hFd : Field w) (hT : DbAt w) (hg : EType w) : Calls Tryz.prog 17 #[m.v la lc ca cc] w (DepOut m w) := by
  obtain ⟨W1, hW1⟩ : ∃ W1, W1 = w.alloc (.cells #[.int .i64 m.args, .int .i64 m.temps, .int .i64 m.stack, .int .i64 m.prim, .slice la m.lits.length lc, .slice ca m.code.length cc] 25) := ⟨_, rfl⟩
  have hF1 : Fr [] w W1 := by rw [hW1]; exact (Fr.refl _ _).alloc _
  have hde := depths_at m la ca lc cc W1 (row_fr hcode hF1) (hE.fr hF1) (by obtain ⟨b, hb⟩ := hFd; exact ⟨b, hF1.cell (by simp) hb⟩) (hT.fr hF1)
  have HF1 := Lib.hid hF1
  have HG := Lib.hid (hg.fr hF1)
  unfold Mth.v at hde
  unfold Mth.v
  obtain ⟨ll, hll⟩ : ∃ n, n = m.lits.length := ⟨_, rfl⟩
  obtain ⟨n, hN⟩ : ∃ n, n = m.code.length := ⟨_, rfl⟩
  rw [← hll, ← hN] at hde hW1 ⊢
  have HNN := Lib.hid hN
  have HW1 := Lib.hid hW1
  clear hcode hE hFd hT hg hF1 hll hN hW1
  go_enter Tryz.func17, Tryz.ntmps17
  go_wp2_with fail
  rw [← HW1.out]
  refine hde.mono ?_
  rintro e w2 ⟨hF2, ⟨hok, a, rfl⟩ | ⟨k, hto, a, rfl⟩ | ⟨hgd, g, cap, rfl, hb, hge⟩⟩
  · have HTO : Hid (DepthsTo m [] (-1) 4) := Lib.hid (.no hok)
    have hv := verdict_plain (.pointer (some a)) w2 (HG.out.fr hF2)
    have HF2 := Lib.hid (HF1.out.trans hF2)
    clear hF2 hok hde
    go_wp2_with (go_at_call 39; (with_reducible refine hv.mono ?_); rintro e w3 ⟨rfl, hF3⟩; have HF3 := Lib.hid (HF2.out.trans hF3); clear hF3)
    go_ret3
    exact ⟨[], -1, 4, none, 0, HTO.out, rfl, HF3.out, fun j u hu => by simp at hu, fun _ h => by cases h⟩
  · have HTO := Lib.hid hto
    have hv := verdict_viol k a w2 (HG.out.fr hF2)
    have HF2 := Lib.hid (HF1.out.trans hF2)
    clear hF2 hto hde
    go_wp2_with (go_at_call 39; (with_reducible refine hv.mono ?_); rintro e w3 ⟨rfl, hF3⟩; have HF3 := Lib.hid (HF2.out.trans hF3); clear hF3)
    go_ret3
    exact ⟨[], k, 4, none, 0, HTO.out, rfl, HF3.out, fun j u hu => by simp at hu, fun _ h => by cases h⟩
  · have HGD := Lib.hid hgd
    have hv := verdict_nil w2
    have HF2 := Lib.hid (HF1.out.trans hF2)
    have HB := Lib.hid hb
    have HGE : Hid (w.heap.size ≤ g) := Lib.hid (Nat.le_trans HF1.out.size hge)
    rw [← HNN.out]
    clear hF2 hgd hde hb hge
    go_wp2_with (go_at_call 39; (with_reducible refine hv.mono ?_); rintro e w3 ⟨rfl, rfl⟩)
    go_ret3
    refine ⟨m.depths, -1, 0, some ⟨g, 0, none⟩, cap, .good HGD.out.ok HGD.out.op HGD.out.nb, by rw [m.depths_len, ← HNN.out]; rfl, HF2.out, fun j u hu => ⟨g, 0, rfl, ?_⟩, fun a ha => by cases ha; exact HGE.out⟩
    rw [Nat.zero_add]
    exact cell_of_heap HB.out (by simpa using hu)
end Go.Proofs.YtomcfjckhajhmabGreatDoor
