/- VerifyFields: more fields never harm; by what laid hands over. -/
import Derived.Test.YtjghgambieflaaaGreatDoorMVerReads
import Derived.Test.YtjghgambieflaaaGreatDoorMVerE
import Derived.Test.YtjghgambieflaaaGreatDoorMVerN
import Derived.Test.YtjghgambieflaaaGreatDoorMMask
namespace Go.Proofs.YtjghgambieflaaaGreatDoor
open Go.RowKit

/-- what laid hands over: both heaps, the same in both, and a word -/
def LaidPost (w : World) (e : Ending) (W : World) : Prop := ∃ (hb mb rb : Nat) (root : Int) (os : List Ob) (l : List RO) (wv sv lv : Value) (x : Int), e = .returned (.tuple #[.pointer (some ⟨hb, 0, none⟩), .pointer (some ⟨rb, 0, none⟩), .int .u64 x]) ∧ Fr [] w W ∧ WB x ∧ OInv 8192 os 0 ∧ RAgree 1 l os ∧ HeapAt W hb mb (absMem 8192 os root 0) wv sv ∧ RefAt W rb ⟨8192, l, root, 0⟩ lv
theorem fields_pure {rd : Int → Mth × Int} {n k x : Int} {outers : List Int} {t : Nat} (hk : 0 ≤ k) {a e b f : Int} (h : CheckTo rd n (SubOk rd n t) x outers a e) (h' : CheckTo rd (n + k) (SubOk rd (n + k) t) x outers b f) : (e = 0 ∧ a = -1 ∧ b = -1 ∧ f = 0) ∨ (e = 4 ∧ f = 0) ∨ (e = 4 ∧ f = 4 ∧ a ≤ b) := by
  have hle : n ≤ n + k := by omega
  rcases h.err with ⟨rfl, rfl⟩ | rfl
  · obtain ⟨e1, e2⟩ := (h.more hle (SubOk.more hle t)).one h'
    exact .inl ⟨rfl, rfl, e1.symm, e2.symm⟩
  · rcases h.less hle (SubOk.more hle t) h' with rfl | hab
    · exact .inr (.inl ⟨rfl, rfl⟩)
    · rcases h'.err with ⟨rfl, -⟩ | rfl
      · exact .inr (.inl ⟨rfl, rfl⟩)
      · exact .inr (.inr ⟨rfl, rfl, hab⟩)
set_option maxRecDepth 100000 in
set_option maxHeartbeats 1600000 in
theorem verifyFields_walk {nv : Value} (m : Mth) (la ca : Option Addr) (lc cc : Nat) (fields more : Int) (outers : List Int) (oa : Option Addr) (oc : Nat) (w : World) (hg : VG6 w) (hL : ∀ W, Fr [] w W → Calls Tryz.prog 6 #[m.v la lc ca cc, nv] W (LaidPost W)) (ho : RowAt w oa (outers.map (Value.int .i64))) (hon : oa = none → oc = 0 ∧ outers = []) :
    Calls Tryz.prog 4 #[m.v la lc ca cc, nv, .int .i64 fields, .slice oa outers.length oc, .int .i64 more] w (Still (.bool true) w) := by
  have HAW := Lib.hid (fun W (hF : Fr [] w W) => awake5 W ((VG.mk hg.verrs hg.field hg.db hg.et).fr hF))
  obtain ⟨h0, h1⟩ := and_mask fields 4095 (by omega)
  obtain ⟨n, hn⟩ : ∃ n, n = bits .and .i64 fields 4095 := ⟨_, rfl⟩
  have hn' : bits .and .i64 fields 4095 = n := hn.symm
  change 0 ≤ bits .and .i64 fields 4095 at h0
  change bits .and .i64 fields 4095 ≤ 4095 at h1
  rw [hn'] at h0 h1
  obtain ⟨g0, g1⟩ := and_mask more 4095 (by omega)
  obtain ⟨k, hk⟩ : ∃ k, k = bits .and .i64 more 4095 := ⟨_, rfl⟩
  have hk' : bits .and .i64 more 4095 = k := hk.symm
  change 0 ≤ bits .and .i64 more 4095 at g0
  change bits .and .i64 more 4095 ≤ 4095 at g1
  rw [hk'] at g0 g1
  obtain ⟨S, hS⟩ : ∃ S, S = IntKind.i64.wrap (n + k) := ⟨_, rfl⟩
  have hS' : IntKind.i64.wrap (n + k) = S := hS.symm
  have HSE : Hid (S = n + k) := Lib.hid (by rw [hS, IntKind.wrap_i64]; omega)
  have HK0 := Lib.hid g0
  have HE := Lib.hid (fun W (hF : Fr [] w W) => hg.field.fr hF)
  have HC := Lib.hid (fun W2 (hF2 : Fr [] w W2) fl rd hp (hrd : RdOk W2 39 (.pointer hp) rd) W x (hF : Fr [] W2 W) (hx : WB x) => Check_at (fields := fl) (hg.cerrs.fr hF2) (hg.verrs.fr hF2) (hg.field.fr hF2) (hg.db.fr hF2) (hg.et.fr hF2) hrd outers W x oa oc hF hx (row_fr ho (hF2.trans hF)) hon)
  unfold Mth.v at hL ⊢
  obtain ⟨ll, hll⟩ : ∃ n, n = m.lits.length := ⟨_, rfl⟩
  obtain ⟨cl, hcl⟩ : ∃ n, n = m.code.length := ⟨_, rfl⟩
  rw [← hll, ← hcl] at hL ⊢
  have HL := Lib.hid hL
  obtain ⟨ol, hol⟩ : ∃ v, v = outers.length := ⟨_, rfl⟩
  rw [← hol] at HC ⊢
  clear hL hll hcl hg ho hon hol hn hk hS h0 h1 g0 g1
  go_enter Tryz.func4, Tryz.ntmps4
  go_wp2_with fail
  refine (HAW.out _ ((Fr.refl _ _).alloc _)).mono ?_
  rintro e w1 ⟨rfl, hF1⟩
  have HF1 : Hid (Fr [] w w1) := ((Fr.refl _ _).alloc _).trans hF1
  have HB1 := Lib.hid (hF1.heap (by simp) (heap_new w _))
  have k0 := cell_of_heap (o := 0) HB1.out rfl; have k1 := cell_of_heap (o := 1) HB1.out rfl; have k2 := cell_of_heap (o := 2) HB1.out rfl; have k3 := cell_of_heap (o := 3) HB1.out rfl; have k4 := cell_of_heap (o := 4) HB1.out rfl; have k5 := cell_of_heap (o := 5) HB1.out rfl
  clear hF1
  go_wp2_with fail
  refine (HL.out w1 HF1.out).mono ?_
  rintro e w2 ⟨hb, mb, rb, root, os, l, wv, sv, lv, x, rfl, hF2, hx, hI, ha, hH, hR⟩
  have HF2 := Lib.hid (HF1.out.trans hF2)
  obtain ⟨rd, hrd, -, -⟩ := reads_rd hI ha hH hR (HE.out w2 HF2.out)
  have HC1 := Lib.hid (fun fl W (hF : Fr [] w2 W) => HC.out w2 HF2.out fl rd _ hrd W x hF hx)
  clear hF2 hx hI ha hH hR hrd
  go_wp2_with fail
  refine (HC1.out n w2 (Fr.refl _ _)).mono ?_
  rintro e w3 ⟨hF3, a, e3, hto, rfl⟩
  have HF3 := Lib.hid hF3
  have HTO := Lib.hid hto
  clear hF3 hto
  go_wp2_with fail
  refine (HC1.out S w3 HF3.out).mono ?_
  rintro e w4 ⟨hF4, b, f4, hto, rfl⟩
  have HF4 := Lib.hid (HF2.out.trans (HF3.out.trans hF4))
  rw [HSE.out] at hto
  have hp := fields_pure HK0.out HTO.out hto
  clear hF4 hto
  rcases hp with ⟨rfl, rfl, rfl, rfl⟩ | ⟨rfl, rfl⟩ | ⟨rfl, rfl, hab⟩
  · go_wp2_with fail
    go_ret
    exact ⟨rfl, HF4.out⟩
  · go_wp2_with fail
    go_ret
    exact ⟨rfl, HF4.out⟩
  · go_wp2_with fail
    go_ret
    exact ⟨ret1 (vb (by simp)), HF4.out⟩
end Go.Proofs.YtjghgambieflaaaGreatDoor
