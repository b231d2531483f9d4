/- The document's Load. The same list, loaded into both heaps. -/
import Derived.Test.YtofhgfgipdokbaaGreatDoorMRanges
import Derived.Test.YtofhgfgipdokbaaGreatDoorMBoth
import Derived.Test.YtofhgfgipdokbaaGreatDoorMLoads
import Derived.Test.YtofhgfgipdokbaaGreatDoorMLists
namespace Go.Proofs.YtofhgfgipdokbaaGreatDoor
open Go.RowKit

set_option maxRecDepth 100000 in
set_option maxHeartbeats 4000000 in
theorem rload_size {w : World} {rb : Nat} {r : RH} {lv : Value} (h : RefAt w rb r lv) {ao : Option Addr} {cap : Nat} (its : List (It × Int)) (hr : RowAt w ao (flat4 its)) (hfv : ∀ o ∈ its, ∃ fa fc, o.1.fv = .slice fa o.1.fs.length fc) (hn : its.length ≤ 2932031007402) (hz : ∀ o ∈ its, o.1.fs.length ≤ 17592186044416) (hs : ∃ o ∈ its, 512 < o.1.fs.length) (root n : Int) :
    Calls Tryz.prog 27 #[.pointer (some ⟨rb, 0, none⟩), .slice ao its.length cap, .int .u64 root, .int .i64 n] w (Still (.int .i64 1) w) := by
  have c0 : w.cell? ⟨rb, 0, none⟩ = some (.int .i64 r.n) := cell_of_heap h.heap rfl
  have HR := Lib.hid hr
  have HV := Lib.hid hfv
  have HS := Lib.hid hs
  have HZ := Lib.hid hz
  obtain ⟨N, hN⟩ : ∃ N, N = its.length := ⟨_, rfl⟩
  rw [← hN] at hn ⊢
  have HN := Lib.hid hN
  generalize r.n = rn at *
  clear hr hfv hN hs hz h
  go_enter Tryz.func27, Tryz.ntmps27
  go_wp2
  go_loopw [10] (fun i wr => ∃ k : Nat, k ≤ N ∧ i = .int .i64 k ∧ Hid (∀ o ∈ its.take k, o.1.fs.length ≤ 512) ∧ Hid (Fr [] w wr)) (fun i _ => N - (intOf i).toNat)
  case atStart => exact ⟨0, Nat.zero_le _, rfl, fun _ h => by simp at h, (Fr.refl _ _).alloc _⟩
  case round =>
    obtain ⟨k, hk, rfl, hsm, hF⟩ := hrel
    by_cases hlt : k < N
    · have hkl : k < its.length := by rw [← HN.out]; exact hlt
      obtain ⟨o, ho⟩ : ∃ o, o = its[k] := ⟨_, rfl⟩
      have hik : its[k]? = some o := by rw [List.getElem?_eq_getElem hkl, ho]
      obtain ⟨-, -, f3, -⟩ := flat4_at hik
      obtain ⟨g, off, rfl, c3⟩ := HR.out _ _ f3
      obtain ⟨fa, fc, hov⟩ := HV.out o (List.mem_of_getElem? hik)
      rw [hov] at c3
      have d3 := hF.out.cell (by simp) c3
      rw [← Nat.add_assoc] at d3
      have hzz := HZ.out o (List.mem_of_getElem? hik)
      have hA : Hid (o.1.fs.length ≤ 512 → ∀ p ∈ its.take (k + 1), p.1.fs.length ≤ 512) := by
        refine Lib.hid fun hz p hp => ?_
        rw [List.take_add_one, hik] at hp
        rcases List.mem_append.1 hp with hp | hp
        · exact hsm.out p hp
        · simp at hp; subst hp; exact hz
      clear ho hik f3 c3 hov hkl
      generalize o.1.fs.length = z at *
      by_cases hz5 : z ≤ 512
      · have hA' := Lib.hid (hA.out hz5)
        clear hA
        go_wp2
        go_roundw
        case rel => exact ⟨k + 1, by omega, by go_num, hA', hF⟩
        case measure => simp [intOf]; omega
      · have hz6 : (512 : Int) < (z : Int) := by omega
        clear hA
        go_wp2
        go_ret
        exact ⟨rfl, hF.out⟩
    · obtain ⟨o, hom, hol⟩ := HS.out
      have hke : k = N := by omega
      have := hsm.out o (by rw [hke, HN.out, List.take_length]; exact hom)
      omega
/-- the document's heap under way, with the objects os -/
def Fills (w : World) (gb : Nat) (rn root n : Int) (os : List Ob) (W : World) : Prop := ∃ l lv, RefAt W gb ⟨rn, l, root, n⟩ lv ∧ RAgree 1 l os ∧ (∀ q ∈ rfoot gb ⟨rn, l, root, n⟩ lv, w.heap.size ≤ q) ∧ Fr [] w W
theorem Fills.go {w W W' : World} {gb : Nat} {rn root n : Int} {os : List Ob} (h : Fills w gb rn root n os W) (hF : Fr [] W W') : Fills w gb rn root n os W' := by
  obtain ⟨l, lv, h1, h2, h3, h4⟩ := h
  exact ⟨l, lv, h1.fr0 hF, h2, h3, h4.trans hF⟩
theorem len_end (q : List Ob) : 1 + q.length * 3 ≤ endOf q := by
  unfold endOf
  induction q with
  | nil => simp
  | cons a q ih => rw [flatW_cons, List.length_append, wordsOb_len, List.length_cons]; omega
theorem end_take (os : List Ob) (k : Nat) : endOf (os.take k) ≤ endOf os := by
  have : os = os.take k ++ os.drop k := (List.take_append_drop k os).symm
  unfold endOf
  conv => rhs; rw [this]
  rw [flatW_append, List.length_append]
  omega
/-- what the document's Load leaves -/
def RLoads (rb : Nat) (r : RH) (S : List Nat) (os : List Ob) (root n : Int) (w : World) (e : Ending) (w' : World) : Prop :=
  ∃ r', RTurns (.int .i64 (loadE r.n os root n)) rb r' S w e w' ∧ ((loadE r.n os root n = 0 ∧ ∃ l, r' = ⟨r.n, l, root, n⟩ ∧ RAgree 1 l os) ∨ (loadE r.n os root n ≠ 0 ∧ r' = r))
theorem Still.rloads {w w' : World} {e : Ending} {rb : Nat} {r : RH} {lv : Value} {os : List Ob} {root n k : Int} (hR : RefAt w rb r lv) (hk : loadE r.n os root n = k) (hz : k ≠ 0) (h : Still (.int .i64 k) w e w') : RLoads rb r (rfoot rb r lv) os root n w e w' :=
  ⟨r, ⟨by rw [hk]; exact h.1, lv, hR.fr0 h.2, h.2.weak, fun _ hk => .inl hk⟩, .inr ⟨by rw [hk]; exact hz, rfl⟩⟩
theorem ROB {l : List RO} {os : List Ob} {p : Nat} (h : RAgree p l os) : l.map RO.ob = os := by
  induction l generalizing p os with
  | nil => cases os with | nil => rfl | cons => exact h.elim
  | cons r l ih => cases os with | nil => exact h.elim | cons o os => simp [h.1, ih h.2.2]
/-- the document's heap whose four cells were written over by another's -/
theorem RefAt.over {w W : World} {rb gb : Nat} {r g : RH} {lv gv : Value} (h : RefAt w rb r lv) (hg : RefAt w gb g gv) (hF : Fr [rb] w W) (hW : W.heap[rb]? = some (.cells #[.int .i64 g.n, gv, .int .u64 g.root, .int .i64 g.last] 93 (0, 0))) : RefAt W rb g gv := by
  have hne : ∀ {q : Nat} {c : Array Value} {t : TypeId} {f : Nat × Nat}, w.heap[q]? = some (.cells c t f) → t ≠ 93 → q ∉ [rb] := by
    intro q c t f hq ht
    simpa using tag_ne hq h.heap ht
  exact ⟨hW, hF.row hg.row (fun k hk => by obtain ⟨c, hc⟩ := row_heap hg.row hk; exact hne hc (by decide)), fun o ho => (hg.objs o ho).fr hF (hne (hg.objs o ho).cells (by decide)) (fun k hk => by obtain ⟨c, hc⟩ := row_heap (hg.objs o ho).row hk; exact hne hc (by decide)), hg.apart, hg.most, hg.small⟩
set_option maxRecDepth 100000 in
set_option maxHeartbeats 8000000 in
theorem rload_main {w : World} {rb : Nat} {r : RH} {lv : Value} (h : RefAt w rb r lv) (hrn : 64 ≤ r.n) (hrn2 : r.n ≤ 65536) {ao : Option Addr} {cap : Nat} (its : List (It × Int)) (hr : RowAt w ao (flat4 its)) (hok : ∀ o ∈ its, ItOk w o.1) (hn : its.length ≤ 2932031007402) (hs : ∀ o ∈ its, o.1.fs.length ≤ 512) (hw : ∀ o ∈ its, ObB o.1.key) (root n : Int) (hroot : WB root) (n1 : -9223372036854775808 ≤ n) (n2 : n ≤ 9223372036854775807) :
    Calls Tryz.prog 27 #[.pointer (some ⟨rb, 0, none⟩), .slice ao its.length cap, .int .u64 root, .int .i64 n] w (RLoads rb r (rfoot rb r lv) (obsOf (its.map Prod.fst)) root n w) := by
  obtain ⟨i1, hi1, hy0, hy1, hy2⟩ := info_parts infoPtr
  have HI := Lib.hid hi1
  have HY0 := Lib.hid hy0
  have HY1 := Lib.hid hy1
  have HY2 := Lib.hid hy2
  have c0 : w.cell? ⟨rb, 0, none⟩ = some (.int .i64 r.n) := cell_of_heap h.heap rfl
  obtain ⟨os, hos⟩ : ∃ os, os = obsOf (its.map Prod.fst) := ⟨_, rfl⟩
  rw [← hos]
  have HOS := Lib.hid hos
  have hs' : ∀ o ∈ os, o.2.2.length ≤ 512 := fun o ho => by rw [hos] at ho; obtain ⟨a, ha, rfl⟩ := List.mem_map.1 ho; obtain ⟨b, hb, rfl⟩ := List.mem_map.1 ha; exact hs b hb
  have HS' := Lib.hid hs'
  have HH := Lib.hid h
  have HR := Lib.hid hr
  have HOK := Lib.hid hok
  have HS := Lib.hid hs
  have HW := Lib.hid hw
  have HSH : Hid (∀ W, Fr [] w W → Calls Tryz.prog 45 #[.slice ao its.length cap, .int .i64 n] W (Says (HashOk (os.map fun o => o.2.1) n) W)) := by
    refine Lib.hid fun W hW => ?_
    have := rhashed (w := W) (cap := cap) its (hr.fr hW (fun _ _ => by simp)) hn n n1 n2
    rw [hos]
    have e : (obsOf (its.map Prod.fst)).map (fun o => o.2.1) = its.map (fun o => o.1.hash) := by simp [obsOf, It.key]
    rw [e]
    exact this
  obtain ⟨N, hN⟩ : ∃ N, N = its.length := ⟨_, rfl⟩
  rw [← hN] at hn HSH ⊢
  have HN := Lib.hid hN
  have HLO : Hid (os.length = N) := by rw [hos, hN]; simp [obsOf, Hid]
  obtain ⟨rn, hrne⟩ : ∃ rn, rn = r.n := ⟨_, rfl⟩
  rw [← hrne] at hrn hrn2 c0
  have HRN := Lib.hid hrne
  clear hr hok hN hs h hos hs' hi1 hy0 hy1 hy2 hrne hw
  have HF1 : Hid (Fills w w.heap.size rn root n [] (w.alloc (.cells #[.int .i64 rn, .slice none 0 0, .int .u64 root, .int .i64 n] 93))) := by
    refine ⟨[], .slice none 0 0, ⟨heap_new _ _, World.ownsRow_nil _ _ _ _, (fun _ h => by cases h), List.Pairwise.nil, by simp, (fun _ h => by cases h)⟩, trivial, fun q hq => ?_, (Fr.refl _ _).alloc _⟩
    simp [rfoot, Value.ownBlock] at hq
    omega
  go_enter Tryz.func27, Tryz.ntmps27
  go_wp2
  go_loopw [10] (fun i wr => ∃ k : Nat, k ≤ N ∧ i = .int .i64 k ∧ Hid (Fills w w.heap.size rn root n [] wr)) (fun i _ => N - (intOf i).toNat)
  case atStart => exact ⟨0, Nat.zero_le _, rfl, HF1⟩
  case round =>
    obtain ⟨k, hk, rfl, hFl⟩ := hrel
    by_cases hlt : k < N
    · have hkl : k < its.length := by rw [← HN.out]; exact hlt
      obtain ⟨o, ho⟩ : ∃ o, o = its[k] := ⟨_, rfl⟩
      have hik : its[k]? = some o := by rw [List.getElem?_eq_getElem hkl, ho]
      have hom := List.mem_of_getElem? hik
      obtain ⟨-, -, f3, -⟩ := flat4_at hik
      obtain ⟨g, off, rfl, c3⟩ := HR.out _ _ f3
      obtain ⟨fa, fc, hov, -, -⟩ := HOK.out o hom
      rw [hov] at c3
      obtain ⟨_, _, _, _, _, hF⟩ := hFl.out
      have d3 := hF.cell (by simp) c3
      rw [← Nat.add_assoc] at d3
      have hz5 := HS.out o hom
      clear ho hik f3 c3 hov hkl hom hF
      generalize o.1.fs.length = z at *
      go_wp2
      go_roundw
      case rel => exact ⟨k + 1, by omega, by go_num, hFl⟩
      case measure => simp [intOf]; omega
    · have hke : N ≤ k := by omega
      have hkd : decide (k < N) = false := by simp; omega
      clear HF1 hlt
      go_wp2
      go_loopw [11] (fun i wr => ∃ k : Nat, k ≤ N ∧ i = .int .i64 k ∧ Hid (Fills w w.heap.size rn root n (os.take k) wr) ∧ Hid ((endOf (os.take k) : Int) ≤ rn)) (fun i _ => N - (intOf i).toNat)
      case atStart => exact ⟨0, Nat.zero_le _, rfl, hFl, by show (endOf (os.take 0) : Int) ≤ rn; simp [endOf, flatW]; omega⟩
      case round =>
        clear hFl hk hke hkd
        obtain ⟨k, hk, rfl, hFl, hfit⟩ := hrel
        obtain ⟨l, lv', hR, hA, hnew, hF⟩ := hFl.out
        by_cases hlt : k < N
        · have hkl : k < its.length := by rw [← HN.out]; exact hlt
          obtain ⟨o, ho⟩ : ∃ o, o = its[k] := ⟨_, rfl⟩
          have hik : its[k]? = some o := by rw [List.getElem?_eq_getElem hkl, ho]
          have hom := List.mem_of_getElem? hik
          obtain ⟨f1, f2, f3, -⟩ := flat4_at hik
          obtain ⟨g, off, rfl, c1⟩ := HR.out _ _ f1
          obtain ⟨_, _, eg, c2⟩ := HR.out _ _ f2
          cases eg
          obtain ⟨_, _, eg, c3⟩ := HR.out _ _ f3
          cases eg
          rw [← Nat.add_assoc] at c2 c3
          obtain ⟨fa, fc, hov, hwd, -⟩ := HOK.out o hom
          rw [hov] at c3
          have hz5 := HS.out o hom
          have hik2 : os[k]? = some o.1.key := by rw [HOS.out]; simp [obsOf, hik]
          have hT : os.take (k + 1) = os.take k ++ [o.1.key] := by rw [List.take_add_one, hik2]; rfl
          have hu := rused hR
          rw [show usedR (RH.mk rn l root n).l = endOf (os.take k) from agree_used hA] at hu
          have hE := endOf_snoc (os.take k) o.1.key
          rw [← hT] at hE
          have hel := len_end (os.take k)
          have hall : l.length ≤ (os.take k).length := Nat.le_of_eq hA.len
          have HT := Lib.hid hT
          have HE := Lib.hid hE
          have HTA := Lib.hid (end_take os (k + 1))
          have HCP : Hid (∀ W, Fr [] w W → Calls Tryz.prog 44 #[.pointer (some ⟨g, off + k * 4, none⟩), .int .i64 (endOf (os.take k) : Nat)] W (Copies o.1.cls o.1.hash o.1.fs (endOf (os.take k)) W)) := Lib.hid fun W hW => rcopied (hW.cell (by simp) c1) (hW.cell (by simp) c2) (hW.cell (by simp) c3) (hwd.fr hW (fun _ _ => by simp)) (by omega)
          have c3w := hF.cell (by simp) c3
          have c0w := hF.cell (by simp) c0
          have HA := Lib.hid hA
          have HNW := Lib.hid hnew
          have HRR := Lib.hid hR
          have HFF := Lib.hid hF
          have hfi := hfit.out
          have hkey : Hid (o.1.key.2.2.length = o.1.fs.length) := Lib.hid rfl
          rw [hkey.out] at HE
          obtain ⟨la, lcap, hlv⟩ := row_shape hR.row
          simp only at hlv
          subst hlv
          clear ho hik f1 f2 f3 hov hkl hom hik2 hT hE hwd hA hR hF hnew c1 c2 c3 hFl hfit hkey
          have HUU : Hid (1 + (flatW (os.take k)).length = endOf (os.take k)) := Lib.hid rfl
          generalize endOf (os.take k) = u at *
          obtain ⟨z, hz⟩ : ∃ z, z = o.1.fs.length := ⟨_, rfl⟩
          rw [← hz] at hz5 HE c3w
          have HZ := Lib.hid hz
          clear hz
          have e1 : IntKind.i64.wrap ((u : Int) + 3) = u + 3 := by rw [IntKind.wrap_i64]; omega
          have e2 : IntKind.i64.wrap ((u : Int) + 3 + z) = u + 3 + z := by rw [IntKind.wrap_i64]; omega
          have k0 : (0 : Int) ≤ (k : Int) := by omega
          have k1 : (k : Int) < (N : Int) := by omega
          go_wp2_with (first | (go_at_call 43; refine hu.mono ?_; rintro e w2 ⟨rfl, hw2⟩; have HF2 : Hid (Fr [] wr w2) := (by obtain ⟨m, rfl⟩ := hw2; exact (Fr.refl _ _).drewN _); have c3v := HF2.out.cell (by simp) c3w; have c0v := HF2.out.cell (by simp) c0w; clear hw2))
          go_quiet (fail)
          by_cases hft : (u : Int) + 3 + z ≤ rn
          · have hmx : Tryz.prog.follows .mixedOrders = true := by kernel_rfl
            have HF3 : Hid (Fr [] wr (w2.drewN nq)) := HF2.out.drewN _
            generalize w2.drewN nq = w3 at *
            have HR3 := Lib.hid (HRR.out.fr0 HF3.out)
            have cl3 : w3.cell? ⟨w.heap.size, 1, none⟩ = some (.slice la l.length lcap) := cell_of_heap HR3.out.heap rfl
            clear c3w c0w c3v c0v HF2
            go_wp2_with fail
            refine walk_plain (fun w' => w'.cell? ⟨w.heap.size, 1, none⟩ = some (.slice la l.length lcap)) 14 hmx cl3 (fun hHeld => ?_)
            (refine Walk.take (i := 0) (oi := ⟨some 58, _, _, _, _, _⟩) (v := ?_) rfl (by kernel_rfl) (by kernel_rfl) (by kernel_rfl) (by kernel_rfl) (fun _ _ _ h => h) (Or.inl ⟨by rfl, ?_⟩) (by assumption) ?_); rotate_left; focus (intro w hSw; (try dsimp only at hSw); go_split_ands; go_simp; try with_reducible rfl); (try simp only [Act.put, List.setIfInBounds_toArray, List.set_cons_zero, List.set_cons_succ])
            (refine Walk.take (i := 1) (oi := ⟨some 59, _, _, _, _, _⟩) (v := ?_) rfl (by kernel_rfl) (by kernel_rfl) (by kernel_rfl) (by kernel_rfl) (fun _ _ _ h => h) (Or.inl ⟨by rfl, ?_⟩) (by assumption) ?_); rotate_left; focus (intro w hSw; (try dsimp only at hSw); go_split_ands; go_simp; try with_reducible rfl); (try simp only [Act.put, List.setIfInBounds_toArray, List.set_cons_zero, List.set_cons_succ])
            (refine Walk.take (i := 2) (oi := ⟨some 60, _, _, _, _, _⟩) (v := ?_) rfl (by kernel_rfl) (by kernel_rfl) (by kernel_rfl) (by kernel_rfl) (fun _ _ _ h => h) (Or.inl ⟨by rfl, ?_⟩) (by assumption) ?_); rotate_left; focus (intro w hSw; (try dsimp only at hSw); go_split_ands; go_simp; try with_reducible rfl); (try simp only [Act.put, List.setIfInBounds_toArray, List.set_cons_zero, List.set_cons_succ])
            (refine Walk.take (i := 3) (oi := ⟨some 61, _, _, _, _, _⟩) (v := ?_) rfl (by kernel_rfl) (by kernel_rfl) (by kernel_rfl) (by kernel_rfl) (fun _ _ _ h => h) (Or.inl ⟨by rfl, ?_⟩) (by assumption) ?_); rotate_left; focus (intro w hSw; (try dsimp only at hSw); go_split_ands; go_simp; try with_reducible rfl); (try simp only [Act.put, List.setIfInBounds_toArray, List.set_cons_zero, List.set_cons_succ])
            (refine Walk.take (i := 4) (oi := ⟨some 62, _, _, _, _, _⟩) (v := ?_) rfl (by kernel_rfl) (by kernel_rfl) (by kernel_rfl) (by kernel_rfl) (fun _ _ _ h => h) (Or.inl ⟨by rfl, ?_⟩) (by assumption) ?_); rotate_left; focus (intro w hSw; (try dsimp only at hSw); go_split_ands; go_simp; try with_reducible rfl); (try simp only [Act.put, List.setIfInBounds_toArray, List.set_cons_zero, List.set_cons_succ])
            (refine Walk.take (i := 5) (oi := ⟨some 63, _, _, _, _, _⟩) (v := ?_) rfl (by kernel_rfl) (by kernel_rfl) (by kernel_rfl) (by kernel_rfl) (fun _ _ _ h => h) (Or.inl ⟨by rfl, ?_⟩) (by assumption) ?_); rotate_left; focus (intro w hSw; (try dsimp only at hSw); go_split_ands; go_simp; try with_reducible rfl); (try simp only [Act.put, List.setIfInBounds_toArray, List.set_cons_zero, List.set_cons_succ])
            (refine Walk.take (i := 6) (oi := ⟨some 64, _, _, _, _, _⟩) (v := ?_) rfl (by kernel_rfl) (by kernel_rfl) (by kernel_rfl) (by kernel_rfl) (fun _ _ _ h => h) (Or.inl ⟨by rfl, ?_⟩) (by assumption) ?_); rotate_left; focus (intro w hSw; (try dsimp only at hSw); go_split_ands; go_simp; try with_reducible rfl); (try simp only [Act.put, List.setIfInBounds_toArray, List.set_cons_zero, List.set_cons_succ])
            (refine Walk.take (i := 7) (oi := ⟨some 65, _, _, _, _, _⟩) (v := ?_) rfl (by kernel_rfl) (by kernel_rfl) (by kernel_rfl) (by kernel_rfl) (fun _ _ _ h => h) (Or.inl ⟨by rfl, ?_⟩) (by assumption) ?_); rotate_left; focus (intro w hSw; (try dsimp only at hSw); go_split_ands; go_simp; try with_reducible rfl); (try simp only [Act.put, List.setIfInBounds_toArray, List.set_cons_zero, List.set_cons_succ])
            (refine Walk.take (i := 8) (oi := ⟨some 66, _, _, _, _, _⟩) (v := ?_) rfl (by kernel_rfl) (by kernel_rfl) (by kernel_rfl) (by kernel_rfl) (fun _ _ _ h => h) (Or.inl ⟨by rfl, ?_⟩) (by assumption) ?_); rotate_left; focus (intro w hSw; (try dsimp only at hSw); go_split_ands; go_simp; try with_reducible rfl); (try simp only [Act.put, List.setIfInBounds_toArray, List.set_cons_zero, List.set_cons_succ])
            (refine Walk.one (i := 9) rfl (by kernel_rfl) rfl (fun K hK => ?_)); go_simp
            refine (HCP.out _ (HFF.out.trans HF3.out.drew)).mono ?_
            rintro e w4 ⟨nb, fv, rfl, hN4⟩
            have HN4 := Lib.hid hN4
            have cl4 : w4.cell? ⟨w.heap.size, 1, none⟩ = some (.slice la l.length lcap) := hN4.fr.cell (by simp) cl3
            clear hN4
            refine hK.out _ _ (fun _ => cl4) (fun _ => ?_)
            clear hK
            (refine Walk.one (i := 10) rfl (by kernel_rfl) rfl (fun K hK => ?_)); go_simp
            have HR4 : Hid (RefAt w4 w.heap.size ⟨rn, l, root, n⟩ (.slice la l.length lcap)) := HR3.out.fr0 (((Fr.refl _ _).drew).trans HN4.out.fr)
            have HX4 := Lib.hid (HR4.out.fr0 ((Fr.refl [] w4).alloc (.cells #[.pointer (some ⟨nb, 0, none⟩)] 103)))
            have cl5 : (w4.alloc (.cells #[.pointer (some ⟨nb, 0, none⟩)] 103)).cell? ⟨w.heap.size, 1, none⟩ = some (.slice la l.length lcap) := cell_of_heap HX4.out.heap rfl
            refine hK.out _ _ (fun _ => cl5) (fun _ => ?_)
            clear hK
            refine Walk.one (i := 11) (o := ⟨some 69, _, _, _, _, _⟩) rfl (by kernel_rfl) rfl (fun K hK => ?_)
            refine wp_append_lies _ (.tmp 62) (.tmp 68) 91 (by rfl) 0 103 i1 _ 1 8 Tryz.underlying91 HI.out HY0.out HY1.out HY2.out rfl (by omega) (.slice la l.length lcap) l.length _ (by rfl) HX4.out.row ⟨w4.heap.size, 0, none⟩ 1 1 [.pointer (some ⟨nb, 0, none⟩)] (by rfl) (by rfl) (cell1 (by simp)) (by simp [Value.oneCell']) (by omega) (by unfold maxLen; omega) (by omega) (Nat.zero_le _) (w4.heap.size + 1) (by simp) ?_
            intro gg cq w5 hown1 hgrow hat hlt1
            have hst := HR4.out.push (o := ⟨nb, fv, o.1.cls, o.1.hash, o.1.fs, u⟩) HN4.out (fun q hq => HR3.out.lt q hq) hown1 hgrow (hat.imp (fun h => h.symm) (fun h => by rw [h]; simp [Value.ownBlock])) (by show l.length < 65536; omega) (by simp only; rw [← HZ.out]; omega)
            have hc5 : w5.cell? ⟨w.heap.size, 1, none⟩ = some (.slice la l.length lcap) := hst.1
            have hf5 : w5.frozen? ⟨w.heap.size, 1, none⟩ = false := hst.2.1
            have HST := Lib.hid hst.2.2
            clear hst hown1 hgrow hat hlt1
            simp only [Act.put, List.setIfInBounds_toArray, List.set_cons_zero, List.set_cons_succ]
            refine hK.out _ _ (fun _ => hc5) (fun hHeld5 => ?_)
            have hHeld6 := hHeld5 (by decide)
            clear hK hHeld5 hHeld
            (refine Walk.one (i := 12) rfl (by kernel_rfl) rfl (fun K hK => ?_)); go_simp
            refine hK.out _ _ (fun _ => hc5) (fun _ => ?_)
            clear hK
            (refine Walk.take (i := 13) (oi := ⟨some 71, _, _, _, _, _⟩) (v := ?_) rfl (by kernel_rfl) (by kernel_rfl) (by kernel_rfl) (by kernel_rfl) (fun _ _ _ h => h) (Or.inl ⟨by rfl, ?_⟩) (by assumption) ?_); rotate_left; focus (intro w hSw; (try dsimp only at hSw); go_split_ands; go_simp; try with_reducible rfl); (try simp only [Act.put, List.setIfInBounds_toArray, List.set_cons_zero, List.set_cons_succ])
            (refine Walk.one (i := 14) rfl (by kernel_rfl) rfl (fun K hK => ?_)); go_simp
            refine hK.out _ _ (fun h => absurd rfl h) (fun _ => ?_)
            clear hK
            refine Walk.done (by kernel_rfl) (Norm.mk ?_) _
            have HFn : Hid (Fills w w.heap.size rn root n (os.take (k + 1)) (w5.setCell ⟨w.heap.size, 1, none⟩ (.slice (some ⟨gg, 0, none⟩) (l.length + 1) cq))) := by
              refine ⟨_, _, HST.out.1, ?_, fun q hq => ?_, (HFF.out.trans HF3.out).drew.join HST.out.2.1 HNW.out⟩
              · rw [HT.out]
                exact HA.out.snoc rfl HUU.out.symm
              · rcases HST.out.2.2 q hq with h | h
                · exact HNW.out q h
                · exact Nat.le_trans (HFF.out.trans HF3.out).size h
            have HE2 : Hid ((endOf (os.take (k + 1)) : Int) ≤ rn) := by have := HE.out; show (endOf (os.take (k + 1)) : Int) ≤ rn; omega
            clear HST hc5 hf5 hHeld6
            go_wp2
            go_roundw
            case rel => exact ⟨k + 1, by omega, by go_num, HFn, HE2⟩
            case measure => simp [intOf]; omega
          · have hft2 : rn < (u : Int) + 3 + z := by omega
            clear hft
            go_wp2
            go_ret
            refine Still.rloads HH.out (loadE_full HS'.out ?_) (by decide) ⟨rfl, HFF.out.trans (HF2.out.drewN _)⟩
            rw [← HRN.out]
            have h1 := HTA.out
            have h2 := HE.out
            omega
        · have hke : k = N := by omega
          have hall : os.take k = os := by rw [hke, ← HLO.out, List.take_length]
          rw [hall] at hA hfit
          have hkd : decide (k < N) = false := by simp; omega
          have HA := Lib.hid hA
          have HNW := Lib.hid hnew
          have HRR := Lib.hid hR
          have HFF := Lib.hid hF
          have hsh := HSH.out wr hF
          obtain ⟨la, lcap, hlv⟩ := row_shape hR.row
          simp only at hlv
          subst hlv
          have hge : N ≤ k := by omega
          clear hA hnew hR hF hall hFl HSH hke
          by_cases c3 : HashOk (os.map fun o => o.2.1) n
          · have hsh' : Calls Tryz.prog 45 #[.slice ao N cap, .int .i64 n] wr (fun e w' => e = .returned (.bool true) ∧ Fr [] wr w') := hsh.mono fun e w' ⟨b, he, hb, m, hm⟩ => ⟨by rw [he, hb.2 c3], by rw [hm]; exact (Fr.refl _ _).drewN _⟩
            have HC3 := Lib.hid c3
            clear hsh c3
            have HMAY : Hid (∀ W, RefAt W w.heap.size ⟨rn, l, root, n⟩ (.slice la l.length lcap) → ∀ x, WB x → Calls Tryz.prog 47 #[.pointer (some ⟨w.heap.size, 0, none⟩), .int .u64 x] W (Gives (.bool (okB (marksOf os) x)) W)) := by
              refine Lib.hid fun W hW x hx => ?_
              have := rmay hW x hx.1 hx.2
              rw [show mayR (RH.mk rn l root n).l x = okB (marksOf os) x from agree_may HA.out 0 0 0 x] at this
              exact this
            have HHAS : Hid (∀ W, RefAt W w.heap.size ⟨rn, l, root, n⟩ (.slice la l.length lcap) → Calls Tryz.prog 46 #[.pointer (some ⟨w.heap.size, 0, none⟩), .int .u64 root] W (Gives (.bool (stB (marksOf os) root)) W)) := by
              refine Lib.hid fun W hW => ?_
              have := rhas hW root hroot.1 hroot.2
              rw [show (findR (RH.mk rn l root n).l root).isSome = stB (marksOf os) root from agree_has HA.out 0 0 0 root] at this
              exact this
            have HBAD : Hid (∀ W, Fr [] w W → wordsOk os root = false → RLoads rb r (rfoot rb r lv) os root n w (.returned (.int .i64 1)) W) := Lib.hid fun W hF hbad => Still.rloads HH.out (loadE_bad HS'.out (by rw [← HRN.out]; exact hfit.out) hbad) (by decide) ⟨rfl, hF⟩
            have HBO : Hid (∀ o ∈ os, ObB o) := by
              refine Lib.hid fun o ho => ?_
              rw [HOS.out] at ho
              obtain ⟨a, ha, rfl⟩ := List.mem_map.1 ho
              obtain ⟨b, hb, rfl⟩ := List.mem_map.1 ha
              exact HW.out b hb
            have HLL : Hid (l.length = N) := by rw [← HLO.out]; exact Lib.hid HA.out.len
            by_cases hr0 : root = 0
            · subst hr0
              clear HHAS
              go_wp2_with (first
                | (go_at_call 45; refine hsh'.mono ?_; rintro e w2 ⟨rfl, hF2⟩; have HF2 := Lib.hid hF2; clear hF2))
              have HR2 := Lib.hid (HRR.out.fr0 HF2.out)
              have HF3 := Lib.hid (HFF.out.trans HF2.out)
              have cl : w2.cell? ⟨w.heap.size, 1, none⟩ = some (.slice la N lcap) := by have := cell_of_heap (o := 1) HR2.out.heap rfl; rw [HLL.out] at this; exact this
              clear hsh' HRR HFF HF2
              go_loop [13, 14] (fun i _ => ∃ q : Nat, q ≤ N ∧ i = .int .i64 q ∧ Hid (∀ j p, j < q → os[j]? = some p → okOb (marksOf os) p = true)) (fun i _ => N - (intOf i).toNat)
              case atStart => exact ⟨0, Nat.zero_le _, rfl, fun j p hj => by omega⟩
              case round =>
                clear hkd hge hk
                obtain ⟨q, hq, rfl, hqs⟩ := hrel
                by_cases hlt : q < N
                · have hql : q < l.length := by rw [HLL.out]; exact hlt
                  obtain ⟨p, hp⟩ : ∃ p, p = l[q] := ⟨_, rfl⟩
                  have hpl : l[q]? = some p := by rw [List.getElem?_eq_getElem hql, hp]
                  have hpm := List.mem_of_getElem? hpl
                  have hob : os[q]? = some p.ob := by rw [← ROB HA.out, List.getElem?_map, hpl]; rfl
                  obtain ⟨lg, lc, hlv2, hcp, -, -⟩ := row_at HR2.out.row (i := q) hql
                  cases hlv2
                  rw [List.getElem?_map, hpl] at hcp
                  simp only [Option.map_some, RO.ptr] at hcp
                  have hAt := HR2.out.objs p hpm
                  have c0p : w2.cell? ⟨p.b, 0, none⟩ = some (.int .u64 p.cls) := cell_of_heap hAt.cells rfl
                  obtain ⟨fa, fc, hfv⟩ := row_shape hAt.row
                  have c2p : w2.cell? ⟨p.b, 2, none⟩ = some (.slice fa p.fs.length fc) := by rw [← hfv]; exact cell_of_heap hAt.cells rfl
                  have hsm := HR2.out.small p hpm
                  have hwd : WordsAt w2 fa p.fs := by
                    obtain ⟨fa', fc', e, hw', -⟩ := ItOwn.ok (w := w2) (o := ⟨p.cls, p.hash, p.fv, p.fs⟩) ⟨hAt.row, by simp only; omega⟩
                    rw [hfv] at e
                    cases e
                    exact hw'
                  have hB := HBO.out p.ob (List.mem_of_getElem? hob)
                  have hm0 := HMAY.out w2 HR2.out p.cls hB.1
                  have HMF : Hid (∀ y x, p.fs[y]? = some x → ∃ fb fo, fa = some ⟨fb, fo, none⟩ ∧ w2.cell? ⟨fb, fo + y, none⟩ = some (.int .u64 x) ∧ Calls Tryz.prog 47 #[.pointer (some ⟨w.heap.size, 0, none⟩), .int .u64 x] w2 (Gives (.bool (okB (marksOf os) x)) w2)) := by
                    refine Lib.hid fun y x hx => ?_
                    obtain ⟨fb, fo, e, hc⟩ := hwd y x hx
                    exact ⟨fb, fo, e, hc, HMAY.out w2 HR2.out x (hB.2 x (List.mem_of_getElem? hx))⟩
                  have HNO : Hid (okOb (marksOf os) p.ob = false → wordsOk os 0 = false) := by
                    refine Lib.hid fun hno => Bool.eq_false_iff.2 fun h => ?_
                    obtain ⟨h1, h2⟩ := (wordsOk_of h).1 p.ob (List.mem_of_getElem? hob)
                    simp [okOb, h1] at hno
                    obtain ⟨x, hx, hxn⟩ := hno
                    rw [h2 x hx] at hxn
                    cases hxn
                  have HYES : Hid (okOb (marksOf os) p.ob = true → ∀ j p, j < q + 1 → os[j]? = some p → okOb (marksOf os) p = true) := by
                    refine Lib.hid fun hy j p' hj hjp => ?_
                    by_cases hjq : j < q
                    · exact hqs.out j p' hjq hjp
                    · obtain rfl : j = q := by omega
                      rw [hob] at hjp
                      cases hjp
                      exact hy
                  obtain ⟨z, hz⟩ : ∃ z, z = p.fs.length := ⟨_, rfl⟩
                  rw [← hz] at c2p hsm
                  have HZ := Lib.hid hz
                  have q0 : (0 : Int) ≤ (q : Int) := by omega
                  have q1 : (q : Int) < (N : Int) := by omega
                  clear hql hp hpl hpm hob hAt hfv hwd hB hz
                  cases hc : okB (marksOf os) p.cls
                  · rw [hc] at hm0
                    have HBD := Lib.hid (HNO.out (by simp only [okOb, RO.ob, hc, Bool.false_and]))
                    clear hc c2p
                    go_wp2_with (first | (go_at_call 47; refine hm0.mono ?_; rintro e w' ⟨rfl, rfl⟩))
                    go_ret
                    exact HBAD.out _ HF3.out HBD.out
                  · rw [hc] at hm0
                    have HCC := Lib.hid hc
                    clear hc
                    go_wp2_with (first | (go_at_call 47; refine hm0.mono ?_; rintro e w' ⟨rfl, rfl⟩))
                    go_loop [14] (fun j => ∃ y : Nat, y ≤ z ∧ j = .int .i64 y ∧ Hid (∀ x ∈ p.fs.take y, okB (marksOf os) x = true)) (fun j => z - (intOf j).toNat)
                    case atStart => exact ⟨0, Nat.zero_le _, rfl, fun x hx => by simp at hx⟩
                    case round =>
                      clear hm0 c0p
                      obtain ⟨y, hy, rfl, hys⟩ := hrel
                      by_cases hyz : y < z
                      · have hyl : y < p.fs.length := by rw [← HZ.out]; exact hyz
                        obtain ⟨x, hx⟩ : ∃ x, x = p.fs[y] := ⟨_, rfl⟩
                        have hxy : p.fs[y]? = some x := by rw [List.getElem?_eq_getElem hyl, hx]
                        obtain ⟨fb, fo, rfl, hcf, hm1⟩ := HMF.out y x hxy
                        have HXM := Lib.hid (List.mem_of_getElem? hxy)
                        have HTK : Hid (p.fs.take (y + 1) = p.fs.take y ++ [x]) := by rw [List.take_add_one, hxy]; exact rfl
                        have y0 : (0 : Int) ≤ (y : Int) := by omega
                        have y1 : (y : Int) < (z : Int) := by omega
                        clear hyl hx hxy
                        cases hcx : okB (marksOf os) x
                        · rw [hcx] at hm1
                          have HBD := Lib.hid (HNO.out (by
                            refine Bool.eq_false_iff.2 fun h => ?_
                            simp only [okOb, RO.ob, Bool.and_eq_true, List.all_eq_true] at h
                            rw [h.2 x HXM.out] at hcx
                            cases hcx))
                          clear hcx
                          go_wp2_with (first | (go_at_call 47; refine hm1.mono ?_; rintro e w' ⟨rfl, rfl⟩))
                          go_ret
                          exact HBAD.out _ HF3.out HBD.out
                        · rw [hcx] at hm1
                          have HYS : Hid (∀ x ∈ p.fs.take (y + 1), okB (marksOf os) x = true) := by
                            refine Lib.hid fun x' hx' => ?_
                            rw [HTK.out] at hx'
                            rcases List.mem_append.1 hx' with h | h
                            · exact hys.out x' h
                            · simp at h; subst h; exact hcx
                          clear hcx
                          go_wp2_with (first | (go_at_call 47; refine hm1.mono ?_; rintro e w' ⟨rfl, rfl⟩))
                          go_round
                          case rel => exact ⟨y + 1, by omega, by go_num, HYS⟩
                          case measure => simp [intOf]; omega
                      · have HQS := Lib.hid (HYES.out (by
                          simp only [okOb, RO.ob, Bool.and_eq_true, List.all_eq_true]
                          refine ⟨HCC.out, fun x hx => hys.out x ?_⟩
                          rw [List.take_of_length_le (by rw [← HZ.out]; omega)]
                          exact hx))
                        have hyd : decide (y < z) = false := by simp; omega
                        go_wp2
                        go_round
                        case rel => exact ⟨q + 1, by omega, by go_num, HQS⟩
                        case measure => simp [intOf]; omega
                · have HWK : Hid (wordsOk os 0 = true) := by
                    refine wordsOk_mk (fun o ho => ?_) (.inl rfl)
                    obtain ⟨j, hj⟩ := List.getElem?_of_mem ho
                    have hjl := (List.getElem?_eq_some_iff.1 hj).1
                    have := hqs.out j o (by rw [HLO.out] at hjl; omega) hj
                    simp only [okOb, Bool.and_eq_true, List.all_eq_true] at this
                    exact this
                  have HH2 := Lib.hid (HH.out.fr0 HF3.out)
                  have g0 : w2.cell? ⟨w.heap.size, 0, none⟩ = some (.int .i64 rn) := cell_of_heap HR2.out.heap rfl
                  have g2 : w2.cell? ⟨w.heap.size, 2, none⟩ = some (.int .u64 0) := cell_of_heap HR2.out.heap rfl
                  have g3 : w2.cell? ⟨w.heap.size, 3, none⟩ = some (.int .i64 n) := cell_of_heap HR2.out.heap rfl
                  have r0 := cell_of_heap (o := 0) HH2.out.heap rfl
                  have r1 := cell_of_heap (o := 1) HH2.out.heap rfl
                  have r2 := cell_of_heap (o := 2) HH2.out.heap rfl
                  have r3 := cell_of_heap (o := 3) HH2.out.heap rfl
                  have z0 : w2.frozen? ⟨rb, 0, none⟩ = false := frozen_of_heap HH2.out.heap
                  have z1 : w2.frozen? ⟨rb, 1, none⟩ = false := frozen_of_heap HH2.out.heap
                  have z2 : w2.frozen? ⟨rb, 2, none⟩ = false := frozen_of_heap HH2.out.heap
                  have z3 : w2.frozen? ⟨rb, 3, none⟩ = false := frozen_of_heap HH2.out.heap
                  go_wp2
                  go_ret
                  have hz : loadE r.n os 0 n = 0 := loadE_ok HS'.out (by rw [← HRN.out]; exact hfit.out) HC3.out HWK.out
                  refine ⟨⟨rn, l, 0, n⟩, ⟨ret1 (by rw [hz]; rfl), .slice la l.length lcap, HH2.out.over HR2.out ?_ ?_, ?_, fun j hj => ?_⟩, .inl ⟨hz, l, by rw [HRN.out], HA.out⟩⟩
                  · exact ((((Fr.refl _ _).setCell (fun _ => by simp) _).setCell (fun _ => by simp) _).setCell (fun _ => by simp) _).setCell (fun _ => by simp) _
                  · rw [HLL.out]
                    exact heap_setCell_same (heap_setCell_same (heap_setCell_same (heap_setCell_same HH2.out.heap _) _) _) _
                  · exact ((((HF3.out.weak (S := rfoot rb r lv)).setCell (fun _ => by simp [rfoot]) _).setCell (fun _ => by simp [rfoot]) _).setCell (fun _ => by simp [rfoot]) _).setCell (fun _ => by simp [rfoot]) _
                  · simp only [rfoot, List.mem_cons] at hj
                    rcases hj with rfl | hj
                    · exact .inl (by simp [rfoot])
                    · exact .inr (HNW.out j (by simp only [rfoot, List.mem_cons]; exact .inr hj))
            · cases hst : stB (marksOf os) root
              · have hbad : Hid (wordsOk os root = false) := by
                  refine Lib.hid (Bool.eq_false_iff.2 fun h => ?_)
                  rcases (wordsOk_of h).2 with h | h
                  · exact hr0 h
                  · rw [hst] at h; cases h
                have hne : ((root : Int) != 0) = true := by simpa using hr0
                have HST2 := Lib.hid hst
                clear hst
                go_wp2_with (first
                  | (go_at_call 45; refine hsh'.mono ?_; rintro e w2 ⟨rfl, hF2⟩; have HF2 := Lib.hid hF2; have hhas := HHAS.out w2 (HRR.out.fr0 hF2); rw [HST2.out] at hhas; clear hF2)
                  | (go_at_call 46; refine hhas.mono ?_; rintro e w3 ⟨rfl, rfl⟩))
                go_ret
                exact HBAD.out _ (HFF.out.trans HF2.out) hbad.out
              · have hne : ((root : Int) != 0) = true := by simpa using hr0
                have HST2 := Lib.hid hst
                clear hst
                go_wp2_with (first
                  | (go_at_call 45; refine hsh'.mono ?_; rintro e w2 ⟨rfl, hF2⟩; have HF2 := Lib.hid hF2; have hhas := HHAS.out w2 (HRR.out.fr0 hF2); rw [HST2.out] at hhas; clear hF2)
                  | (go_at_call 46; refine hhas.mono ?_; rintro e w3 ⟨rfl, rfl⟩))
                clear hhas HHAS
                have HR2 := Lib.hid (HRR.out.fr0 HF2.out)
                have HF3 := Lib.hid (HFF.out.trans HF2.out)
                have cl : w2.cell? ⟨w.heap.size, 1, none⟩ = some (.slice la N lcap) := by have := cell_of_heap (o := 1) HR2.out.heap rfl; rw [HLL.out] at this; exact this
                clear hsh' HRR HFF HF2
                go_loop [13, 14] (fun i _ => ∃ q : Nat, q ≤ N ∧ i = .int .i64 q ∧ Hid (∀ j p, j < q → os[j]? = some p → okOb (marksOf os) p = true)) (fun i _ => N - (intOf i).toNat)
                case atStart => exact ⟨0, Nat.zero_le _, rfl, fun j p hj => by omega⟩
                case round =>
                  clear hkd hge hk
                  obtain ⟨q, hq, rfl, hqs⟩ := hrel
                  by_cases hlt : q < N
                  · have hql : q < l.length := by rw [HLL.out]; exact hlt
                    obtain ⟨p, hp⟩ : ∃ p, p = l[q] := ⟨_, rfl⟩
                    have hpl : l[q]? = some p := by rw [List.getElem?_eq_getElem hql, hp]
                    have hpm := List.mem_of_getElem? hpl
                    have hob : os[q]? = some p.ob := by rw [← ROB HA.out, List.getElem?_map, hpl]; rfl
                    obtain ⟨lg, lc, hlv2, hcp, -, -⟩ := row_at HR2.out.row (i := q) hql
                    cases hlv2
                    rw [List.getElem?_map, hpl] at hcp
                    simp only [Option.map_some, RO.ptr] at hcp
                    have hAt := HR2.out.objs p hpm
                    have c0p : w2.cell? ⟨p.b, 0, none⟩ = some (.int .u64 p.cls) := cell_of_heap hAt.cells rfl
                    obtain ⟨fa, fc, hfv⟩ := row_shape hAt.row
                    have c2p : w2.cell? ⟨p.b, 2, none⟩ = some (.slice fa p.fs.length fc) := by rw [← hfv]; exact cell_of_heap hAt.cells rfl
                    have hsm := HR2.out.small p hpm
                    have hwd : WordsAt w2 fa p.fs := by
                      obtain ⟨fa', fc', e, hw', -⟩ := ItOwn.ok (w := w2) (o := ⟨p.cls, p.hash, p.fv, p.fs⟩) ⟨hAt.row, by simp only; omega⟩
                      rw [hfv] at e
                      cases e
                      exact hw'
                    have hB := HBO.out p.ob (List.mem_of_getElem? hob)
                    have hm0 := HMAY.out w2 HR2.out p.cls hB.1
                    have HMF : Hid (∀ y x, p.fs[y]? = some x → ∃ fb fo, fa = some ⟨fb, fo, none⟩ ∧ w2.cell? ⟨fb, fo + y, none⟩ = some (.int .u64 x) ∧ Calls Tryz.prog 47 #[.pointer (some ⟨w.heap.size, 0, none⟩), .int .u64 x] w2 (Gives (.bool (okB (marksOf os) x)) w2)) := by
                      refine Lib.hid fun y x hx => ?_
                      obtain ⟨fb, fo, e, hc⟩ := hwd y x hx
                      exact ⟨fb, fo, e, hc, HMAY.out w2 HR2.out x (hB.2 x (List.mem_of_getElem? hx))⟩
                    have HNO : Hid (okOb (marksOf os) p.ob = false → wordsOk os root = false) := by
                      refine Lib.hid fun hno => Bool.eq_false_iff.2 fun h => ?_
                      obtain ⟨h1, h2⟩ := (wordsOk_of h).1 p.ob (List.mem_of_getElem? hob)
                      simp [okOb, h1] at hno
                      obtain ⟨x, hx, hxn⟩ := hno
                      rw [h2 x hx] at hxn
                      cases hxn
                    have HYES : Hid (okOb (marksOf os) p.ob = true → ∀ j p, j < q + 1 → os[j]? = some p → okOb (marksOf os) p = true) := by
                      refine Lib.hid fun hy j p' hj hjp => ?_
                      by_cases hjq : j < q
                      · exact hqs.out j p' hjq hjp
                      · obtain rfl : j = q := by omega
                        rw [hob] at hjp
                        cases hjp
                        exact hy
                    obtain ⟨z, hz⟩ : ∃ z, z = p.fs.length := ⟨_, rfl⟩
                    rw [← hz] at c2p hsm
                    have HZ := Lib.hid hz
                    have q0 : (0 : Int) ≤ (q : Int) := by omega
                    have q1 : (q : Int) < (N : Int) := by omega
                    clear hql hp hpl hpm hob hAt hfv hwd hB hz
                    cases hc : okB (marksOf os) p.cls
                    · rw [hc] at hm0
                      have HBD := Lib.hid (HNO.out (by simp only [okOb, RO.ob, hc, Bool.false_and]))
                      clear hc c2p
                      go_wp2_with (first | (go_at_call 47; refine hm0.mono ?_; rintro e w' ⟨rfl, rfl⟩))
                      go_ret
                      exact HBAD.out _ HF3.out HBD.out
                    · rw [hc] at hm0
                      have HCC := Lib.hid hc
                      clear hc
                      go_wp2_with (first | (go_at_call 47; refine hm0.mono ?_; rintro e w' ⟨rfl, rfl⟩))
                      go_loop [14] (fun j => ∃ y : Nat, y ≤ z ∧ j = .int .i64 y ∧ Hid (∀ x ∈ p.fs.take y, okB (marksOf os) x = true)) (fun j => z - (intOf j).toNat)
                      case atStart => exact ⟨0, Nat.zero_le _, rfl, fun x hx => by simp at hx⟩
                      case round =>
                        clear hm0 c0p
                        obtain ⟨y, hy, rfl, hys⟩ := hrel
                        by_cases hyz : y < z
                        · have hyl : y < p.fs.length := by rw [← HZ.out]; exact hyz
                          obtain ⟨x, hx⟩ : ∃ x, x = p.fs[y] := ⟨_, rfl⟩
                          have hxy : p.fs[y]? = some x := by rw [List.getElem?_eq_getElem hyl, hx]
                          obtain ⟨fb, fo, rfl, hcf, hm1⟩ := HMF.out y x hxy
                          have HXM := Lib.hid (List.mem_of_getElem? hxy)
                          have HTK : Hid (p.fs.take (y + 1) = p.fs.take y ++ [x]) := by rw [List.take_add_one, hxy]; exact rfl
                          have y0 : (0 : Int) ≤ (y : Int) := by omega
                          have y1 : (y : Int) < (z : Int) := by omega
                          clear hyl hx hxy
                          cases hcx : okB (marksOf os) x
                          · rw [hcx] at hm1
                            have HBD := Lib.hid (HNO.out (by
                              refine Bool.eq_false_iff.2 fun h => ?_
                              simp only [okOb, RO.ob, Bool.and_eq_true, List.all_eq_true] at h
                              rw [h.2 x HXM.out] at hcx
                              cases hcx))
                            clear hcx
                            go_wp2_with (first | (go_at_call 47; refine hm1.mono ?_; rintro e w' ⟨rfl, rfl⟩))
                            go_ret
                            exact HBAD.out _ HF3.out HBD.out
                          · rw [hcx] at hm1
                            have HYS : Hid (∀ x ∈ p.fs.take (y + 1), okB (marksOf os) x = true) := by
                              refine Lib.hid fun x' hx' => ?_
                              rw [HTK.out] at hx'
                              rcases List.mem_append.1 hx' with h | h
                              · exact hys.out x' h
                              · simp at h; subst h; exact hcx
                            clear hcx
                            go_wp2_with (first | (go_at_call 47; refine hm1.mono ?_; rintro e w' ⟨rfl, rfl⟩))
                            go_round
                            case rel => exact ⟨y + 1, by omega, by go_num, HYS⟩
                            case measure => simp [intOf]; omega
                        · have HQS := Lib.hid (HYES.out (by
                            simp only [okOb, RO.ob, Bool.and_eq_true, List.all_eq_true]
                            refine ⟨HCC.out, fun x hx => hys.out x ?_⟩
                            rw [List.take_of_length_le (by rw [← HZ.out]; omega)]
                            exact hx))
                          have hyd : decide (y < z) = false := by simp; omega
                          go_wp2
                          go_round
                          case rel => exact ⟨q + 1, by omega, by go_num, HQS⟩
                          case measure => simp [intOf]; omega
                  · have HWK : Hid (wordsOk os root = true) := by
                      refine wordsOk_mk (fun o ho => ?_) (.inr HST2.out)
                      obtain ⟨j, hj⟩ := List.getElem?_of_mem ho
                      have hjl := (List.getElem?_eq_some_iff.1 hj).1
                      have := hqs.out j o (by rw [HLO.out] at hjl; omega) hj
                      simp only [okOb, Bool.and_eq_true, List.all_eq_true] at this
                      exact this
                    have HH2 := Lib.hid (HH.out.fr0 HF3.out)
                    have g0 : w2.cell? ⟨w.heap.size, 0, none⟩ = some (.int .i64 rn) := cell_of_heap HR2.out.heap rfl
                    have g2 : w2.cell? ⟨w.heap.size, 2, none⟩ = some (.int .u64 root) := cell_of_heap HR2.out.heap rfl
                    have g3 : w2.cell? ⟨w.heap.size, 3, none⟩ = some (.int .i64 n) := cell_of_heap HR2.out.heap rfl
                    have r0 := cell_of_heap (o := 0) HH2.out.heap rfl
                    have r1 := cell_of_heap (o := 1) HH2.out.heap rfl
                    have r2 := cell_of_heap (o := 2) HH2.out.heap rfl
                    have r3 := cell_of_heap (o := 3) HH2.out.heap rfl
                    have z0 : w2.frozen? ⟨rb, 0, none⟩ = false := frozen_of_heap HH2.out.heap
                    have z1 : w2.frozen? ⟨rb, 1, none⟩ = false := frozen_of_heap HH2.out.heap
                    have z2 : w2.frozen? ⟨rb, 2, none⟩ = false := frozen_of_heap HH2.out.heap
                    have z3 : w2.frozen? ⟨rb, 3, none⟩ = false := frozen_of_heap HH2.out.heap
                    go_wp2
                    go_ret
                    have hz : loadE r.n os root n = 0 := loadE_ok HS'.out (by rw [← HRN.out]; exact hfit.out) HC3.out HWK.out
                    refine ⟨⟨rn, l, root, n⟩, ⟨ret1 (by rw [hz]; rfl), .slice la l.length lcap, HH2.out.over HR2.out ?_ ?_, ?_, fun j hj => ?_⟩, .inl ⟨hz, l, by rw [HRN.out], HA.out⟩⟩
                    · exact ((((Fr.refl _ _).setCell (fun _ => by simp) _).setCell (fun _ => by simp) _).setCell (fun _ => by simp) _).setCell (fun _ => by simp) _
                    · rw [HLL.out]
                      exact heap_setCell_same (heap_setCell_same (heap_setCell_same (heap_setCell_same HH2.out.heap _) _) _) _
                    · exact ((((HF3.out.weak (S := rfoot rb r lv)).setCell (fun _ => by simp [rfoot]) _).setCell (fun _ => by simp [rfoot]) _).setCell (fun _ => by simp [rfoot]) _).setCell (fun _ => by simp [rfoot]) _
                    · simp only [rfoot, List.mem_cons] at hj
                      rcases hj with rfl | hj
                      · exact .inl (by simp [rfoot])
                      · exact .inr (HNW.out j (by simp only [rfoot, List.mem_cons]; exact .inr hj))
          · have hsh' : Calls Tryz.prog 45 #[.slice ao N cap, .int .i64 n] wr (fun e w' => e = .returned (.bool false) ∧ Fr [] wr w') := hsh.mono fun e w' ⟨b, he, hb, m, hm⟩ => ⟨by rw [he, Bool.eq_false_iff.2 (fun h => c3 (hb.1 h))], by rw [hm]; exact (Fr.refl _ _).drewN _⟩
            have HC3 := Lib.hid c3
            clear hsh c3
            go_wp2_with (first | (go_at_call 45; refine hsh'.mono ?_; rintro e w2 ⟨rfl, hF2⟩; have HF2 := Lib.hid hF2; clear hF2))
            go_ret
            exact Still.rloads HH.out (loadE_hash HS'.out (by rw [← HRN.out]; exact hfit.out) HC3.out) (by decide) ⟨rfl, HFF.out.trans HF2.out⟩
end Go.Proofs.YtofhgfgipdokbaaGreatDoor
namespace Go.Proofs.YtofhgfgipdokbaaGreatDoor
open Go.RowKit

/-- a list of the document's objects that lies somewhere -/
structure G4 (W : World) (lo : Option Addr) (its : List (It × Int)) : Prop where
  row : RowAt W lo (flat4 its)
  ok : ∀ o ∈ its, ItOk W o.1
  inn : ∀ o ∈ its, ItIn W o.1
structure B4 (its : List (It × Int)) : Prop where
  len : its.length ≤ 2932031007402
  sizes : ∀ o ∈ its, o.1.fs.length ≤ 17592186044416
  hash : ∀ o ∈ its, -9223372036854775808 ≤ o.1.hash ∧ o.1.hash ≤ 9223372036854775807
  words : ∀ o ∈ its, ObB o.1.key
theorem ItOk.fr {S : List Nat} {W W' : World} {o : It} (h : ItOk W o) (hF : Fr S W W') (hS : ∀ fa n fc, o.fv = .slice (some fa) n fc → 0 < n → fa.block ∉ S) : ItOk W' o := by
  obtain ⟨fa, fc, h1, h2, h3⟩ := h
  refine ⟨fa, fc, h1, fun i x hx => ?_, h3⟩
  have hi : 0 < o.fs.length := Nat.lt_of_le_of_lt (Nat.zero_le _) (List.getElem?_eq_some_iff.1 hx).1
  obtain ⟨g, oo, rfl, hc⟩ := h2 i x hx
  exact ⟨g, oo, rfl, hF.cell (hS ⟨g, oo, none⟩ _ _ h1 hi) hc⟩
theorem ItIn.fr' {S : List Nat} {W W' : World} {o : It} (h : ItIn W o) (hF : Fr S W W') (hS : ∀ fa n fc, o.fv = .slice (some fa) n fc → 0 < n → fa.block ∉ S) : ItIn W' o := by
  rcases h with ⟨fb, fo, fc, h1, h2, h3⟩ | h
  · by_cases hn : 0 < o.fs.length
    · exact .inl ⟨fb, fo, fc, h1, Nat.lt_of_lt_of_le h2 hF.size, h3.fr hF (hS _ _ _ h1 hn)⟩
    · have h0 : o.fs = [] := List.length_eq_zero_iff.1 (by omega)
      exact .inr (.inr ⟨_, fc, by rw [h1, h0]; rfl, h0⟩)
  · exact .inr h
theorem RowAt.fr' {S : List Nat} {W W' : World} {ao : Option Addr} {xs : List Value} (h : RowAt W ao xs) (hF : Fr S W W') (hS : xs ≠ [] → ∀ a, ao = some a → a.block ∉ S) : RowAt W' ao xs := by
  intro j u hu
  obtain ⟨g, off, rfl, hc⟩ := h j u hu
  exact ⟨g, off, rfl, hF.cell (hS (fun e => by rw [e] at hu; simp at hu) ⟨g, off, none⟩ rfl) hc⟩
theorem flat4_ne {its : List (It × Int)} (h : flat4 its ≠ []) : its ≠ [] := fun e => h (by rw [e]; rfl)
theorem G4.fr {S : List Nat} {W W' : World} {lo : Option Addr} {its : List (It × Int)} (h : G4 W lo its) (hF : Fr S W W') (h1 : its ≠ [] → ∀ a, lo = some a → a.block ∉ S) (h2 : ∀ o ∈ its, ∀ fa n fc, o.1.fv = .slice (some fa) n fc → 0 < n → fa.block ∉ S) : G4 W' lo its :=
  ⟨h.row.fr' hF (fun hne => h1 (flat4_ne hne)), fun o ho => (h.ok o ho).fr hF (h2 o ho), fun o ho => (h.inn o ho).fr' hF (h2 o ho)⟩
theorem G4.fr0 {W W' : World} {lo : Option Addr} {its : List (It × Int)} (h : G4 W lo its) (hF : Fr [] W W') : G4 W' lo its := h.fr hF (fun _ _ _ => by simp) (fun _ _ _ _ _ _ _ => by simp)
theorem ItOwn.inn {W : World} {o : It} (h : ItOwn W o) : ItIn W o := by
  rcases h.1.2 with ⟨h0, hn⟩ | ⟨g, cap, cur, hv, -, hg, -, -, -⟩
  · exact .inr (.inl ⟨h0, List.length_eq_zero_iff.1 hn⟩)
  · refine .inl ⟨g, 0, cap, hv, lt_of_heap hg, fun j u hu => ?_⟩
    have hj : j < o.fs.length := by have := (List.getElem?_eq_some_iff.1 hu).1; simpa using this
    obtain ⟨g', cap', e, hc, -, -⟩ := row_at h.1 hj
    rw [hv] at e
    cases e
    rw [Lib.add_plain, Nat.zero_add, hc]
    exact hu
theorem rload_any {w : World} {rb : Nat} {r : RH} {lv : Value} (h : RefAt w rb r lv) (hrn : 64 ≤ r.n) (hrn2 : r.n ≤ 65536) {ao : Option Addr} {cap : Nat} (its : List (It × Int)) (hG : G4 w ao its) (hB : B4 its) (root n : Int) (hroot : WB root) (n1 : -9223372036854775808 ≤ n) (n2 : n ≤ 9223372036854775807) :
    Calls Tryz.prog 27 #[.pointer (some ⟨rb, 0, none⟩), .slice ao its.length cap, .int .u64 root, .int .i64 n] w (RLoads rb r (rfoot rb r lv) (obsOf (its.map Prod.fst)) root n w) := by
  by_cases c1 : ∃ o ∈ its, 512 < o.1.fs.length
  · have e : loadE r.n (obsOf (its.map Prod.fst)) root n = 1 := loadE_size (by obtain ⟨o, ho, hl⟩ := c1; exact ⟨o.1.key, List.mem_map_of_mem (List.mem_map_of_mem ho), hl⟩)
    exact (rload_size h its hG.row (fun o ho => by obtain ⟨fa, fc, e, -⟩ := hG.ok o ho; exact ⟨fa, fc, e⟩) hB.len hB.sizes c1 root n).mono fun _ _ hs => Still.rloads h e (by decide) hs
  · exact rload_main h hrn hrn2 its hG.row hG.ok hB.len (fun o ho => by
      by_cases hl : o.1.fs.length ≤ 512
      · exact hl
      · exact absurd ⟨o, ho, by omega⟩ c1) hB.words root n hroot n1 n2
/-- the objects, the root and the hashes behind a Load -/
def OLoad (lim : Int) (os0 : List Ob) (r0 h0 : Int) (os : List Ob) (root n : Int) (os' : List Ob) (root' h' : Int) : Prop := (loadE lim os root n = 0 ∧ os' = os ∧ root' = root ∧ h' = n) ∨ (loadE lim os root n ≠ 0 ∧ os' = os0 ∧ root' = r0 ∧ h' = h0)
theorem OLoad.ex (lim : Int) (os0 : List Ob) (r0 h0 : Int) (os : List Ob) (root n : Int) : ∃ os' root' h', OLoad lim os0 r0 h0 os root n os' root' h' ∧ memLoad lim os0 r0 h0 os root n = absMem lim os' root' h' := by
  by_cases h : loadE lim os root n = 0
  · exact ⟨os, root, n, .inl ⟨h, rfl, rfl, rfl⟩, memLoad_ok h⟩
  · exact ⟨os0, r0, h0, .inr ⟨h, rfl, rfl, rfl⟩, memLoad_no h⟩
theorem OLoad.inv {lim : Int} {os0 : List Ob} {r0 h0 : Int} {os : List Ob} {root n : Int} {os' : List Ob} {root' h' : Int} (h : OLoad lim os0 r0 h0 os root n os' root' h') (hI : OInv lim os0 h0) (hB : ∀ o ∈ os, ObB o) : OInv lim os' h' := by
  rcases h with ⟨h, rfl, rfl, rfl⟩ | ⟨h, rfl, rfl, rfl⟩
  · obtain ⟨a1, a2, a3, a4⟩ := loadE_inv h
    refine ⟨hI.l1, hI.l2, a2, a3.1, by have := a3.2.1; omega, fun o ho => ?_, hB, a3⟩
    obtain ⟨i, hi⟩ := List.getElem?_of_mem ho
    have := a3.2.2 i o.2.1 (by rw [List.getElem?_map, hi]; rfl)
    exact ⟨this.1, this.2.1⟩
  · exact hI
section
variable {w0 W : World} {X : List (Nat × Obj)} {hb mb rb : Nat} {lim r0 h0 : Int} {os0 : List Ob} {l : List RO} {wv sv : Value}
/-- h.Load, where the other list is kept -/
theorem hload2 (hg : Glob w0) (hI : OInv lim os0 h0) (hT : Two w0 X hb mb rb (absMem lim os0 r0 h0) ⟨lim, l, r0, h0⟩ W) {ao lo : Option Addr} {cap : Nat} (its : List It) (hH : Handed W ao its) (jts : List (It × Int))
    (hJ : ∀ wv sv W', HeapAt W hb mb (absMem lim os0 r0 h0) wv sv → (∀ k ∈ foot mb wv sv, w0.heap.size ≤ k) → Fr (foot mb wv sv) W W' → G4 W' lo jts) (root n : Int) (hr : WB root) (n1 : -9223372036854775808 ≤ n) (n2 : n ≤ 9223372036854775807) {os' : List Ob} {root' h' : Int} (hL : memLoad lim os0 r0 h0 (obsOf its) root n = absMem lim os' root' h') :
    Calls Tryz.prog 26 #[.pointer (some ⟨hb, 0, none⟩), .slice ao its.length cap, .int .u64 root, .int .i64 n] W fun e W' => e = .returned (.int .i64 (loadE lim (obsOf its) root n)) ∧ Two w0 X hb mb rb (absMem lim os' root' h') ⟨lim, l, r0, h0⟩ W' ∧ G4 W' lo jts := by
  obtain ⟨wv, sv, lv, hX, hHA, hR, hF0, h1, h2, h3, h4, h5⟩ := hT
  refine (load_turns hHA (hg.fr hF0) hI.l1 hI.l2 its hH root n hr n1 n2).mono ?_
  rintro e W' ⟨rfl, wv', sv', hM, hF, hfr⟩
  rw [hL] at hM
  refine ⟨rfl, ⟨wv', sv', lv, fun p hp => ⟨hF.heap (hX p hp).2.2.1 (hX p hp).1, (hX p hp).2.1, fun hk => (hfr _ hk).elim (hX p hp).2.2.1 (fun hl => by have := lt_of_heap (hX p hp).1; omega), (hX p hp).2.2.2⟩, ⟨hF.heap hHA.apart hHA.heap, hM⟩, hR.fr hF h5, hF0.join hF h2, h1, fun k hk => ?_, h3, h4, fun k hk hk' => ?_⟩, hJ wv sv W' hHA h2 hF⟩
  · rcases hfr k hk with h | h
    · exact h2 k h
    · exact Nat.le_trans hF0.size h
  · rcases hfr k hk' with h | h
    · exact h5 k hk h
    · have := hR.lt k hk; omega
/-- r.Load behind it -/
theorem rload2 (hI : OInv lim os0 h0) (ha : RAgree 1 l os0) (its : List (It × Int)) (hB : B4 its) (root n : Int) (hr : WB root) (n1 : -9223372036854775808 ≤ n) (n2 : n ≤ 9223372036854775807) {os' : List Ob} {root' h' : Int} (hO : OLoad lim os0 r0 h0 (obsOf (its.map Prod.fst)) root n os' root' h')
    (hT : Two w0 X hb mb rb (absMem lim os' root' h') ⟨lim, l, r0, h0⟩ W) {lo : Option Addr} {cap : Nat} (hG : G4 W lo its) :
    Calls Tryz.prog 27 #[.pointer (some ⟨rb, 0, none⟩), .slice lo its.length cap, .int .u64 root, .int .i64 n] W fun e W' => e = .returned (.int .i64 (loadE lim (obsOf (its.map Prod.fst)) root n)) ∧ ∃ l', RAgree 1 l' os' ∧ Two w0 X hb mb rb (absMem lim os' root' h') ⟨lim, l', root', h'⟩ W' := by
  obtain ⟨wv, sv, lv, hX, hHA, hR, hF0, h1, h2, h3, h4, h5⟩ := hT
  refine (rload_any hR hI.l1 hI.l2 its hG hB root n hr n1 n2).mono ?_
  rintro e W' ⟨r', hRT, hc⟩
  obtain ⟨he, hT'⟩ := Two.rturn hX hHA hF0 h1 h2 h3 h4 h5 hRT
  refine ⟨he, ?_⟩
  rcases hc with ⟨hz, l', rfl, hA⟩ | ⟨hz, rfl⟩
  · rcases hO with ⟨-, rfl, rfl, rfl⟩ | ⟨hn, -⟩
    · exact ⟨l', hA, hT'⟩
    · exact absurd hz hn
  · rcases hO with ⟨hn, -⟩ | ⟨-, rfl, rfl, rfl⟩
    · exact absurd hn hz
    · exact ⟨l, ha, hT'⟩
end
theorem row_rowAt {W : World} {b size : Nat} {e : TypeId} {ao : Option Addr} {n cap : Nat} {xs : List Value} (h : W.ownsRow b e size (.slice ao n cap) n xs) : RowAt W ao xs := by
  intro j u hu
  have hj : j < xs.length := (List.getElem?_eq_some_iff.1 hu).1
  rcases h.2 with ⟨h0, hn⟩ | ⟨g, cp, cur, hv, rest⟩
  · have := h.1
    rw [hn] at this
    simp at this
    subst this
    simp at hj
  · cases hv
    have := h.cellAt j (by have := h.1; omega)
    refine ⟨g, 0, rfl, ?_⟩
    rw [Nat.zero_add]
    exact this.trans hu
end Go.Proofs.YtofhgfgipdokbaaGreatDoor
