/- The memory's loaded, by what checkLoaded answers. The memory's loaded, where it refuses before it builds. Objects as a list, and the memory that holds them: plain. The document's heap and the memory that hold the same objects: what a word leads to in both. The memory that a list of objects fills, and which lists may be loaded: plain. -/
import Derived.Test.YtofhgfgipdokbaaGreatDoorMHeaps
import Derived.Test.YtofhgfgipdokbaaGreatDoorMLists
import Derived.Test.YtofhgfgipdokbaaGreatDoorMPlaces
import Derived.Test.YtofhgfgipdokbaaGreatDoorMRanges
import Derived.Test.YtofhgfgipdokbaaGreatDoorMRefs
namespace Go.Proofs.YtofhgfgipdokbaaGreatDoor
open Go.RowKit

/-- an object of a list, whose fields place can read -/
def ItIn (w : World) (o : It) : Prop := (∃ fb fo fc, o.fv = .slice (some ⟨fb, fo, none⟩) o.fs.length fc ∧ fb < w.heap.size ∧ FieldsAt w fb fo o.fs) ∨ (o.fv = .slice none 0 0 ∧ o.fs = []) ∨ ∃ a fc, o.fv = .slice (some a) 0 fc ∧ o.fs = []
theorem ItIn.shape {w : World} {o : It} (h : ItIn w o) : ∃ fa fc, o.fv = .slice fa o.fs.length fc := by
  rcases h with ⟨fb, fo, fc, h, -⟩ | ⟨h, hf⟩ | ⟨a, fc, h, hf⟩
  · exact ⟨_, _, h⟩
  · exact ⟨none, 0, by rw [h, hf]; rfl⟩
  · exact ⟨some a, fc, by rw [h, hf]; rfl⟩
/-- the memory that holds these objects alone -/
def memOf (lim : Int) (l : List It) : Mem := l.foldl (fun m o => m.push o.cls o.hash o.fs) (Mem.fresh lim)
theorem memOf_snoc (lim : Int) (l : List It) (o : It) : memOf lim (l ++ [o]) = (memOf lim l).push o.cls o.hash o.fs := by simp [memOf]
theorem push_len (m : Mem) (x h : Int) (fs : List Int) : (m.push x h fs).W.length = m.W.length + 3 + fs.length := by simp [Mem.push]; omega
theorem memOf_len (lim : Int) (l : List It) : (memOf lim l).W.length = 1 + wordsOf l := by
  have key : ∀ (l : List It) (m : Mem), (l.foldl (fun m o => m.push o.cls o.hash o.fs) m).W.length = m.W.length + wordsOf l := by
    intro l
    induction l with
    | nil => intro m; simp [wordsOf]
    | cons a l ih => intro m; simp only [List.foldl_cons, ih, push_len, wordsOf]; omega
  unfold memOf
  rw [key]
  simp [Mem.fresh]
theorem wordsOf_take (l : List It) (k : Nat) : wordsOf (l.take k) ≤ wordsOf l := by
  induction l generalizing k with
  | nil => simp
  | cons a l ih =>
    cases k with
    | zero => simp [wordsOf]
    | succ k => have := ih k; simp only [List.take_succ_cons, wordsOf]; omega
/-- place, whatever the fields' slice is -/
theorem place_it {w0 w : World} {mb : Nat} {m : Mem} {wv sv : Value} (h : MemAt w mb m wv sv) (hpos : 0 < m.W.length) (o : It) (hF : Fr [] w0 w) (hI : ItIn w0 o) (hnew : ∀ k ∈ foot mb wv sv, w0.heap.size ≤ k) (b1 : 0 ≤ o.hash) (b2 : o.hash ≤ 1099511627775) (hfit : m.W.length + 3 + o.fs.length ≤ 65536) :
    Calls Tryz.prog 61 #[.pointer (some ⟨mb, 0, none⟩), .int .u64 o.cls, .int .i64 o.hash, o.fv] w (Acts (.int .i64 m.W.length) mb (m.push o.cls o.hash o.fs) (foot mb wv sv) w) := by
  rcases hI with ⟨fb, fo, fc, hv, hb, hfs⟩ | ⟨hv, hf⟩ | ⟨a, fc, hv, hf⟩
  · rw [hv]
    exact place_some h hpos o.cls o.hash fb fo fc o.fs (hfs.fr hF (by simp)) (fun hk => by have := hnew fb hk; omega) b1 b2 hfit
  · rw [hv, hf]
    exact place_none h hpos o.cls o.hash b1 b2 (by rw [hf] at hfit; simpa using hfit)
  · rw [hv, hf]
    exact place_at h hpos o.cls o.hash a fc [] (fun W _ j u hu => by simp at hu) b1 b2 (by rw [hf] at hfit; simpa using hfit)
set_option maxRecDepth 100000 in
set_option maxHeartbeats 4000000 in
theorem loaded_build {w : World} {mb : Nat} {m : Mem} {wv sv : Value} (hM : MemAt w mb m wv sv) (hg : Glob w) (l1 : 1 ≤ m.lim) (l2 : m.lim ≤ 65536) {ao : Option Addr} {cap : Nat} (its : List It) (hr : RowAt w ao (flat3 its)) (hin : ∀ o ∈ its, ItIn w o) (hs : ∀ o ∈ its, o.fs.length ≤ 512) (hn : its.length ≤ 2932031007402)
    (hfit : (1 + wordsOf its : Nat) ≤ m.lim) (root n : Int) (n1 : -9223372036854775808 ≤ n) (n2 : n ≤ 9223372036854775807) (hok : HashOk (its.map fun o => o.hash) n) (b : Bool)
    (hCL : ∀ W nb wv' sv', MemAt W nb { memOf m.lim its with root := root, hashes := n } wv' sv' → Fr [] w W → Calls Tryz.prog 62 #[.pointer (some ⟨nb, 0, none⟩)] W (fun e w' => (b = true ∧ Still .nilIface W e w') ∨ (b = false ∧ Fails 1 W e w'))) :
    Calls Tryz.prog 41 #[.pointer (some ⟨mb, 0, none⟩), .slice ao its.length cap, .int .u64 root, .int .i64 n] w
      (fun e w' => (b = true ∧ Builds { memOf m.lim its with root := root, hashes := n } w e w') ∨ (b = false ∧ Refuses 1 w e w')) := by
  have hbd : ∀ o ∈ its, 0 ≤ o.hash ∧ o.hash ≤ 1099511627775 := by
    intro o ho
    obtain ⟨i, hi⟩ := List.getElem?_of_mem ho
    have := hok.2.2 i o.hash (by rw [List.getElem?_map, hi]; rfl)
    have := hok.2.1
    omega
  have hnd := fun W (hF : Fr [] w W) => needed_ok (cap := cap) (w := W) (ao := ao) its (hr.fr hF (fun _ _ => by simp)) (fun o ho => (hin o ho).shape) hs hn
  have hch := fun W (hF : Fr [] w W) => checkHashes_checks (cap := cap) (w := W) (ao := ao) its (hr.fr hF (fun _ _ => by simp)) (fun o ho => by obtain ⟨a, c, e⟩ := (hin o ho).shape; exact ⟨a, _, c, e⟩) hn (fun o ho => by have := hbd o ho; omega) n n1 n2 (hg.fr hF)
  have hem := fun W => empty_made m.lim (1 + wordsOf its) W (by omega) (by omega)
  have HM := Lib.hid hM
  have HC := Lib.hid hCL
  have HR := Lib.hid hr
  have HI := Lib.hid hin
  have HS := Lib.hid hs
  have HB := Lib.hid hbd
  have HOK := Lib.hid hok
  have HND := Lib.hid hnd
  have HCH := Lib.hid hch
  have HEM := Lib.hid hem
  have c0 := hM.cell.1
  have hnd0 := hnd w (Fr.refl _ _)
  obtain ⟨N, hN⟩ : ∃ N, N = its.length := ⟨_, rfl⟩
  rw [← hN] at hn hnd0 HCH ⊢
  have HN := Lib.hid hN
  obtain ⟨U, hU⟩ : ∃ U, U = 1 + wordsOf its := ⟨_, rfl⟩
  rw [← hU] at hfit hnd0 HEM
  have HU := Lib.hid hU
  obtain ⟨lim, hlim⟩ : ∃ lim, lim = m.lim := ⟨_, rfl⟩
  rw [← hlim] at l1 l2 hfit c0 HC HEM ⊢
  have hU1 : 1 ≤ U := by omega
  have HLIM := Lib.hid hlim
  clear hlim hM hCL hr hin hs hbd hok hnd hch hem hN hU hg
  go_enter Tryz.func41, Tryz.ntmps41
  go_wp2_with (first
    | (go_at_call 58; refine hnd0.mono ?_; rintro e w1 ⟨rfl, hF1⟩; have HF1 := Lib.hid hF1; have c1 : w1.cell? ⟨mb, 0, none⟩ = some (.int .i64 lim) := hF1.cell (by simp) c0; have hch1 : Calls Tryz.prog 60 #[.slice ao N cap, .int .i64 n] w1 (Still .nilIface w1) := (HCH.out w1 hF1).mono (fun _ _ h => h.elim (fun h => h.2) (fun h => absurd HOK.out h.1)); clear hF1)
    | (go_at_call 60; refine hch1.mono ?_; rintro e w2 ⟨rfl, hF2⟩; have HF2 := Lib.hid (HF1.out.trans hF2); have c2 : w2.cell? ⟨mb, 0, none⟩ = some (.int .i64 lim) := HF2.out.cell (by simp) c0; have hem2 := HEM.out w2; clear hF2)
    | (go_at_call 40; refine hem2.mono ?_; rintro e w3 ⟨nb, nwv, nsv, rfl, hM3, hF3, hnew3⟩; have HM3 := Lib.hid hM3; have HF3 := Lib.hid (HF2.out.trans hF3); have HW3 := Lib.hid hnew3; clear hM3 hF3 hnew3))
  go_loopw [60] (fun i wr => ∃ k : Nat, k ≤ N ∧ i = .int .i64 k ∧ Hid (∃ wv sv, MemAt wr nb (memOf lim (its.take k)) wv sv ∧ ∀ q ∈ foot nb wv sv, w.heap.size ≤ q) ∧ Hid (Fr [] w wr)) (fun i _ => N - (intOf i).toNat)
  case atStart => exact ⟨0, Nat.zero_le _, rfl, ⟨nwv, nsv, HM3.out, fun q hq => Nat.le_trans HF2.out.size (HW3.out q hq)⟩, HF3⟩
  case round =>
    obtain ⟨k, hk, rfl, hMk, hF⟩ := hrel
    obtain ⟨kwv, ksv, hMm, hkn⟩ := hMk.out
    by_cases hlt : k < N
    · have hkl : k < its.length := by rw [← HN.out]; exact hlt
      obtain ⟨o, ho⟩ : ∃ o, o = its[k] := ⟨_, rfl⟩
      have hik : its[k]? = some o := by rw [List.getElem?_eq_getElem hkl, ho]
      have hom := List.mem_of_getElem? hik
      obtain ⟨f1, f2, f3⟩ := flat3_at hik
      obtain ⟨g, off, rfl, c1'⟩ := HR.out _ _ f1
      obtain ⟨_, _, eg, c2'⟩ := HR.out _ _ f2
      cases eg
      obtain ⟨_, _, eg, c3'⟩ := HR.out _ _ f3
      cases eg
      obtain ⟨fa, fc, hov⟩ := (HI.out o hom).shape
      rw [hov] at c3'
      have d1 := hF.out.cell (by simp) c1'
      have d2 := hF.out.cell (by simp) c2'
      have d3 := hF.out.cell (by simp) c3'
      rw [← Nat.add_assoc] at d2 d3
      have hA : Fr [] wr (wr.alloc (.cells #[.int .u64 o.cls, .int .i64 o.hash, .slice fa o.fs.length fc] 65)) := (Fr.refl _ _).alloc _
      have hT : its.take (k + 1) = its.take k ++ [o] := by rw [List.take_add_one, hik]; rfl
      have hlen := memOf_len lim (its.take k)
      have hlen1 : wordsOf (its.take k) + (3 + o.fs.length) ≤ wordsOf its := by have := wordsOf_take its (k + 1); rw [hT, wordsOf_snoc] at this; exact this
      have hUU := HU.out
      have hpl := place_it (hMm.fr0 hA) (by omega) o (hF.out.trans hA) (HI.out o hom) hkn (HB.out o hom).1 (HB.out o hom).2 (by omega)
      rw [hov] at hpl
      have HT : Hid (memOf lim (its.take (k + 1)) = (memOf lim (its.take k)).push o.cls o.hash o.fs) := by rw [hT, memOf_snoc]; exact rfl
      have HKN := Lib.hid hkn
      have HA2 := Lib.hid (hF.out.trans hA)
      clear ho hik f1 f2 f3 c1' c2' c3' hkl hov hT hlen hlen1 hUU hMm hkn hA hom
      go_wp2_with (first
        | (go_at_call 61; refine hpl.mono ?_; rintro e w4 ⟨rfl, wv4, sv4, hM4, hF4, hfr4⟩; have HM4 : Hid (∃ wv sv, MemAt w4 nb (memOf lim (its.take (k + 1))) wv sv ∧ ∀ q ∈ foot nb wv sv, w.heap.size ≤ q) := ⟨wv4, sv4, HT.out ▸ hM4, fun q hq => (hfr4 q hq).elim (HKN.out q) (fun h => Nat.le_trans HA2.out.size h)⟩; have HF4 : Hid (Fr [] w w4) := HA2.out.trans' hF4 (fun _ _ e => by cases e) (fun j hj e => by have := HKN.out j e; omega); clear hM4 hF4 hfr4))
      go_roundw
      case rel => exact ⟨k + 1, by omega, by go_num, HM4, HF4⟩
      case measure => simp [intOf]; omega
    · have hke : k = N := by omega
      have hall : its.take k = its := by rw [hke, HN.out, List.take_length]
      rw [hall] at hMm
      have p3 := hMm.cell.2.2.2.1
      have z3 := hMm.frozen 3
      have hM5 := hMm.setRoot root
      have p4 := hM5.cell.2.2.2.2
      have z4 := hM5.frozen 4
      have hM6 := hM5.setHashes n
      have hF6 : Fr [] w ((wr.setCell ⟨nb, 3, none⟩ (.int .u64 root)).setCell ⟨nb, 4, none⟩ (.int .i64 n)) :=
        (hF.out.setCell (fun hl => by have := hkn nb foot_mb; simp only at hl; omega) _).setCell (fun hl => by have := hkn nb foot_mb; simp only at hl; omega) _
      have hcl := HC.out _ nb kwv ksv hM6 hF6
      have HM6 := Lib.hid hM6
      have HF6 := Lib.hid hF6
      have HKN := Lib.hid hkn
      clear hM5 hM6 hMm hall hF6 hkn hMk
      cases b
      · have hcl' := hcl.mono (fun _ _ h => h.elim (fun h => absurd h.1 (by decide)) (fun h => h.2))
        clear hcl
        go_wp2_with (first | (go_at_call 62; refine hcl'.mono ?_; rintro e w7 ⟨st, rfl, hF7⟩; have HF7 := Lib.hid (HF6.out.trans hF7); clear hF7))
        go_ret2
        exact ⟨_, rfl, HF7.out⟩
      · have hcl' := hcl.mono (fun _ _ h => h.elim (fun h => h.2) (fun h => absurd h.1 (by decide)))
        clear hcl
        go_wp2_with (first | (go_at_call 62; refine hcl'.mono ?_; rintro e w7 ⟨rfl, hF7⟩; have HM7 := Lib.hid (HM6.out.fr0 hF7); have HF7 := Lib.hid (HF6.out.trans hF7); clear hF7))
        go_ret2
        exact ⟨nb, kwv, ksv, rfl, HM7.out, HF7.out, HKN.out⟩
end Go.Proofs.YtofhgfgipdokbaaGreatDoor
namespace Go.Proofs.YtofhgfgipdokbaaGreatDoor
open Go.RowKit
section
variable {w : World} {mb : Nat} {m : Mem} {wv sv : Value} {ao : Option Addr} {cap : Nat}

theorem loaded_size (hM : MemAt w mb m wv sv) (hg : Glob w) (l1 : 1 ≤ m.lim) (its : List It) (hr : RowAt w ao (flat3 its)) (hin : ∀ o ∈ its, ItIn w o) (hz : ∀ o ∈ its, o.fs.length ≤ 17592186044416) (hs : ∃ o ∈ its, 512 < o.fs.length) (hn : its.length ≤ 2932031007402) (root n : Int) :
    Calls Tryz.prog 41 #[.pointer (some ⟨mb, 0, none⟩), .slice ao its.length cap, .int .u64 root, .int .i64 n] w (Refuses 1 w) := by
  have hnd := needed_bad (cap := cap) its hr (fun o ho => (hin o ho).shape) hg hz hs hn
  have c0 := hM.cell.1
  clear hM hg hr hin hz hs hn
  generalize its.length = N at *
  generalize m.lim = lim at *
  go_enter Tryz.func41, Tryz.ntmps41
  go_wp2_with (first | (go_at_call 58; refine hnd.mono ?_; rintro e w1 ⟨st, rfl, hF1⟩; have HF1 := Lib.hid hF1; clear hF1))
  go_ret2
  exact ⟨_, rfl, HF1.out⟩
theorem loaded_full (hM : MemAt w mb m wv sv) (hg : Glob w) (l1 : 1 ≤ m.lim) (l2 : m.lim ≤ 65536) (its : List It) (hr : RowAt w ao (flat3 its)) (hin : ∀ o ∈ its, ItIn w o) (hs : ∀ o ∈ its, o.fs.length ≤ 512) (hn : its.length ≤ 2932031007402) (hfit : m.lim < (1 + wordsOf its : Nat)) (root n : Int) :
    Calls Tryz.prog 41 #[.pointer (some ⟨mb, 0, none⟩), .slice ao its.length cap, .int .u64 root, .int .i64 n] w (Refuses 2 w) := by
  have hnd := needed_ok (cap := cap) its hr (fun o ho => (hin o ho).shape) hs hn
  have hw := wordsOf_le hs
  have c0 := hM.cell.1
  have HG := Lib.hid hg
  have hU : 1 + wordsOf its ≤ 1600000000000000 := by omega
  clear hM hg hr hin hs hw hn
  generalize its.length = N at *
  generalize 1 + wordsOf its = U at *
  generalize m.lim = lim at *
  go_enter Tryz.func41, Tryz.ntmps41
  go_wp2_with (first
    | (go_at_call 58; refine hnd.mono ?_; rintro e w1 ⟨rfl, hF1⟩; have HF1 := Lib.hid hF1; have c1 : w1.cell? ⟨mb, 0, none⟩ = some (.int .i64 lim) := hF1.cell (by simp) c0; have hfu := fun s hs => full_fails s hs lim w1 (HG.out.fr hF1) (by omega) (by omega); clear hF1)
    | (go_at_call 59; refine (hfu _ (by decide)).mono ?_; rintro e w2 ⟨st, rfl, hF2⟩; have HF2 := Lib.hid (HF1.out.trans hF2); clear hF2))
  go_ret2
  exact ⟨_, rfl, HF2.out⟩
theorem loaded_hash (hM : MemAt w mb m wv sv) (hg : Glob w) (l1 : 1 ≤ m.lim) (l2 : m.lim ≤ 65536) (its : List It) (hr : RowAt w ao (flat3 its)) (hin : ∀ o ∈ its, ItIn w o) (hs : ∀ o ∈ its, o.fs.length ≤ 512) (hn : its.length ≤ 2932031007402) (hfit : (1 + wordsOf its : Nat) ≤ m.lim) (root n : Int) (n1 : -9223372036854775808 ≤ n) (n2 : n ≤ 9223372036854775807)
    (hh : ∀ o ∈ its, -9223372036854775808 ≤ o.hash ∧ o.hash ≤ 9223372036854775807) (hno : ¬ HashOk (its.map fun o => o.hash) n) :
    Calls Tryz.prog 41 #[.pointer (some ⟨mb, 0, none⟩), .slice ao its.length cap, .int .u64 root, .int .i64 n] w (Refuses 1 w) := by
  have hnd := needed_ok (cap := cap) its hr (fun o ho => (hin o ho).shape) hs hn
  have hch := fun W (hF : Fr [] w W) => (checkHashes_checks (cap := cap) (w := W) (ao := ao) its (hr.fr hF (fun _ _ => by simp)) (fun o ho => by obtain ⟨a, c, e⟩ := (hin o ho).shape; exact ⟨a, _, c, e⟩) hn hh n n1 n2 (hg.fr hF)).mono (fun _ _ h => h.elim (fun h => absurd h.1 hno) (fun h => h.2))
  have HCH := Lib.hid hch
  have c0 := hM.cell.1
  clear hM hg hr hin hs hn hh hno hch
  generalize its.length = N at *
  generalize 1 + wordsOf its = U at *
  generalize m.lim = lim at *
  go_enter Tryz.func41, Tryz.ntmps41
  go_wp2_with (first
    | (go_at_call 58; refine hnd.mono ?_; rintro e w1 ⟨rfl, hF1⟩; have HF1 := Lib.hid hF1; have c1 : w1.cell? ⟨mb, 0, none⟩ = some (.int .i64 lim) := hF1.cell (by simp) c0; have hch1 := HCH.out w1 hF1; clear hF1)
    | (go_at_call 60; refine hch1.mono ?_; rintro e w2 ⟨st, rfl, hF2⟩; have HF2 := Lib.hid (HF1.out.trans hF2); clear hF2))
  go_ret2
  exact ⟨_, rfl, HF2.out⟩
end
end Go.Proofs.YtofhgfgipdokbaaGreatDoor
namespace Go.Proofs.YtofhgfgipdokbaaGreatDoor

/-- an object: class, hash, fields -/
abbrev Ob := Int × Int × List Int
def wordsOb (o : Ob) : List Int := [o.1, o.2.1, (o.2.2.length : Int)] ++ o.2.2
def marksOb (o : Ob) : List Bool := true :: List.replicate (2 + o.2.2.length) false
def flatW (l : List Ob) : List Int := l.flatMap wordsOb
def flatM (l : List Ob) : List Bool := l.flatMap marksOb
/-- where the object behind these begins -/
def endOf (l : List Ob) : Nat := 1 + (flatW l).length
/-- the memory that holds these objects -/
def absMem (lim : Int) (l : List Ob) (root hashes : Int) : Mem := ⟨lim, 0 :: flatW l, false :: flatM l, root, hashes⟩
theorem wordsOb_len (o : Ob) : (wordsOb o).length = 3 + o.2.2.length := by simp [wordsOb]; omega
theorem marksOb_len (o : Ob) : (marksOb o).length = 3 + o.2.2.length := by simp [marksOb]; omega
theorem flatW_append (l r : List Ob) : flatW (l ++ r) = flatW l ++ flatW r := by simp [flatW]
theorem flatM_append (l r : List Ob) : flatM (l ++ r) = flatM l ++ flatM r := by simp [flatM]
theorem flatW_cons (o : Ob) (r : List Ob) : flatW (o :: r) = wordsOb o ++ flatW r := by simp [flatW]
theorem flatM_cons (o : Ob) (r : List Ob) : flatM (o :: r) = marksOb o ++ flatM r := by simp [flatM]
theorem flat_len (l : List Ob) : (flatM l).length = (flatW l).length := by
  induction l with
  | nil => rfl
  | cons o l ih => rw [flatM_cons, flatW_cons, List.length_append, List.length_append, wordsOb_len, marksOb_len, ih]
theorem endOf_snoc (l : List Ob) (o : Ob) : endOf (l ++ [o]) = endOf l + 3 + o.2.2.length := by
  unfold endOf
  rw [flatW_append, flatW_cons, List.length_append, List.length_append, wordsOb_len]
  simp [flatW]
  omega
theorem absMem_push (lim : Int) (l : List Ob) (root hashes : Int) (o : Ob) : (absMem lim l root hashes).push o.1 o.2.1 o.2.2 = absMem lim (l ++ [o]) root hashes := by
  simp [absMem, Mem.push, flatW_append, flatM_append, flatW_cons, flatM_cons, wordsOb, marksOb]
  exact ⟨by simp [flatW], by simp [flatM]⟩
theorem absMem_len (lim : Int) (l : List Ob) (root hashes : Int) : (absMem lim l root hashes).W.length = endOf l ∧ (absMem lim l root hashes).M.length = endOf l := by
  simp only [absMem, List.length_cons, endOf, flat_len]
  omega
section
variable {lim root hashes : Int} {pre post : List Ob} {o : Ob}
theorem abs_W : (absMem lim (pre ++ o :: post) root hashes).W = (0 :: flatW pre) ++ (wordsOb o ++ flatW post) := by simp [absMem, flatW_append, flatW_cons]
theorem abs_M : (absMem lim (pre ++ o :: post) root hashes).M = (false :: flatM pre) ++ (marksOb o ++ flatM post) := by simp [absMem, flatM_append, flatM_cons]
theorem abs_at (j : Nat) (hj : j < 3 + o.2.2.length) : (absMem lim (pre ++ o :: post) root hashes).W[endOf pre + j]? = (wordsOb o)[j]? := by
  rw [abs_W, List.getElem?_append_right (by simp [endOf]; omega), List.getElem?_append_left (by rw [wordsOb_len]; simp [endOf]; omega)]
  congr 1
  simp [endOf]
  omega
theorem abs_mark : (absMem lim (pre ++ o :: post) root hashes).M[endOf pre]? = some true := by
  rw [abs_M, List.getElem?_append_right (by simp [endOf, flat_len]; omega)]
  simp [endOf, flat_len, marksOb, Nat.add_comm]
  rfl
theorem abs_cls : (absMem lim (pre ++ o :: post) root hashes).W[endOf pre]? = some o.1 := by have := abs_at (lim := lim) (root := root) (hashes := hashes) (pre := pre) (post := post) (o := o) 0 (by omega); simpa [wordsOb] using this
theorem abs_hash : (absMem lim (pre ++ o :: post) root hashes).W[endOf pre + 1]? = some o.2.1 := by rw [abs_at 1 (by omega)]; simp [wordsOb]
theorem abs_size : (absMem lim (pre ++ o :: post) root hashes).W[endOf pre + 2]? = some (o.2.2.length : Int) := by rw [abs_at 2 (by omega)]; simp [wordsOb]
theorem abs_field (j : Nat) (hj : j < o.2.2.length) : (absMem lim (pre ++ o :: post) root hashes).W[endOf pre + 3 + j]? = o.2.2[j]? := by
  rw [Nat.add_assoc, abs_at (3 + j) (by omega)]
  unfold wordsOb
  rw [List.getElem?_append_right (by simp)]
  congr 1
  simp
/-- a word of an object is written -/
theorem abs_set (j : Nat) (x : Int) (o' : Ob) (hl : o'.2.2.length = o.2.2.length) (hj : j < 3 + o.2.2.length) (h : (wordsOb o).set j x = wordsOb o') :
    { absMem lim (pre ++ o :: post) root hashes with W := (absMem lim (pre ++ o :: post) root hashes).W.set (endOf pre + j) x } = absMem lim (pre ++ o' :: post) root hashes := by
  have e1 : (absMem lim (pre ++ o :: post) root hashes).W.set (endOf pre + j) x = (absMem lim (pre ++ o' :: post) root hashes).W := by
    rw [abs_W, abs_W, List.set_append_right _ _ (by simp [endOf]; omega), List.set_append_left _ _ (by rw [wordsOb_len]; simp [endOf]; omega), ← h]
    congr 3
    simp [endOf]
    omega
  have e2 : (absMem lim (pre ++ o :: post) root hashes).M = (absMem lim (pre ++ o' :: post) root hashes).M := by rw [abs_M, abs_M]; simp [marksOb, hl]
  have key : ∀ (W W' : List Int) (M M' : List Bool), W = W' → M = M' → (⟨lim, W, M, root, hashes⟩ : Mem) = ⟨lim, W', M', root, hashes⟩ := fun _ _ _ _ a b => by rw [a, b]
  exact key _ _ _ _ e1 e2
end
/-- a mark stands where an object begins, and nowhere else -/
theorem mark_at {l : List Ob} {k : Nat} : (flatM l)[k]? = some true → ∃ pre o post, l = pre ++ o :: post ∧ k = (flatW pre).length := by
  induction l generalizing k with
  | nil => intro h; simp [flatM] at h
  | cons a l ih =>
    intro h
    rw [flatM_cons] at h
    by_cases hk : k < 3 + a.2.2.length
    · rw [List.getElem?_append_left (by rw [marksOb_len]; exact hk)] at h
      cases k with
      | zero => exact ⟨[], a, l, rfl, by simp [flatW]⟩
      | succ k =>
        simp only [marksOb, List.getElem?_cons_succ, List.getElem?_replicate] at h
        split at h <;> cases h
    · rw [List.getElem?_append_right (by rw [marksOb_len]; omega), marksOb_len] at h
      obtain ⟨pre, o, post, rfl, hp⟩ := ih h
      exact ⟨a :: pre, o, post, rfl, by rw [flatW_cons, List.length_append, wordsOb_len]; omega⟩
theorem abs_start {lim root hashes : Int} {l : List Ob} {k : Nat} (h : (absMem lim l root hashes).M[k]? = some true) : ∃ pre o post, l = pre ++ o :: post ∧ k = endOf pre := by
  cases k with
  | zero => simp [absMem] at h
  | succ k =>
    obtain ⟨pre, o, post, rfl, hp⟩ := mark_at (l := l) (k := k) (by simpa [absMem] using h)
    exact ⟨pre, o, post, rfl, by unfold endOf; omega⟩
/-- the places where objects begin -/
def startsOf : Nat → List Ob → List Nat
  | _, [] => []
  | p, o :: l => p :: startsOf (p + 3 + o.2.2.length) l
theorem abs_chain {lim root hashes : Int} (pre l : List Ob) (hs : ∀ o ∈ l, o.2.2.length ≤ 65536) : Chain (absMem lim (pre ++ l) root hashes).W (endOf pre) (startsOf (endOf pre) l) := by
  induction l generalizing pre with
  | nil => simp only [startsOf, Chain]; rw [(absMem_len lim (pre ++ []) root hashes).1]; simp
  | cons o l ih =>
    show _ ∧ _ ∧ _
    refine ⟨rfl, ?_, o.2.2.length, abs_size, hs o (by simp), ?_⟩
    · rw [(absMem_len _ _ _ _).1]
      unfold endOf
      rw [flatW_append, flatW_cons, List.length_append, List.length_append, wordsOb_len]
      omega
    · have := ih (pre ++ [o]) (fun p hp => hs p (by simp [hp]))
      rw [endOf_snoc, List.append_assoc] at this
      exact this
end Go.Proofs.YtofhgfgipdokbaaGreatDoor
namespace Go.Proofs.YtofhgfgipdokbaaGreatDoor
open Go.RowKit

def RO.ob (r : RO) : Ob := (r.cls, r.hash, r.fs)
/-- the document's objects are these, from a place on -/
def RAgree : Nat → List RO → List Ob → Prop
  | _, [], [] => True
  | p, r :: l, o :: os => r.ob = o ∧ r.pos = p ∧ RAgree (p + 3 + o.2.2.length) l os
  | _, _, _ => False
theorem RAgree.len {p : Nat} {l : List RO} {os : List Ob} (h : RAgree p l os) : l.length = os.length := by
  induction l generalizing p os with
  | nil => cases os with | nil => rfl | cons => exact h.elim
  | cons r l ih => cases os with | nil => exact h.elim | cons o os => simp [ih h.2.2]
theorem RAgree.ge {p : Nat} {l : List RO} {os : List Ob} (h : RAgree p l os) : ∀ r ∈ l, p ≤ r.pos := by
  induction l generalizing p os with
  | nil => intro r hr; cases hr
  | cons r l ih =>
    cases os with
    | nil => exact h.elim
    | cons o os =>
      intro q hq
      rcases List.mem_cons.1 hq with rfl | hq
      · exact Nat.le_of_eq h.2.1.symm
      · have := ih h.2.2 q hq; omega
/-- at an object's place the document's heap finds that object -/
theorem RAgree.find {p : Nat} {l : List RO} {pre post : List Ob} {o : Ob} (h : RAgree p l (pre ++ o :: post)) : ∃ r, l[pre.length]? = some r ∧ r.ob = o ∧ r.pos = p + (flatW pre).length ∧ l.find? (fun q => decide ((q.pos : Int) = ((p + (flatW pre).length : Nat) : Int))) = some r := by
  induction pre generalizing p l with
  | nil =>
    cases l with
    | nil => exact h.elim
    | cons r l =>
      obtain ⟨h1, h2, h3⟩ := h
      refine ⟨r, rfl, h1, by simp [flatW, h2], ?_⟩
      rw [List.find?_cons]
      have e : decide ((r.pos : Int) = ((p + (flatW []).length : Nat) : Int)) = true := by simp [flatW, h2]
      rw [e]
  | cons a pre ih =>
    cases l with
    | nil => exact h.elim
    | cons r l =>
      obtain ⟨h1, h2, h3⟩ := h
      obtain ⟨q, hq1, hq2, hq3, hq4⟩ := ih h3
      have el : p + (flatW (a :: pre)).length = p + 3 + a.2.2.length + (flatW pre).length := by rw [flatW_cons, List.length_append, wordsOb_len]; omega
      refine ⟨q, by simpa using hq1, hq2, by rw [el]; exact hq3, ?_⟩
      rw [el, List.find?_cons]
      have e : decide ((r.pos : Int) = ((p + 3 + a.2.2.length + (flatW pre).length : Nat) : Int)) = false := by simp only [decide_eq_false_iff_not]; omega
      rw [e]
      exact hq4
/-- where it finds one, an object begins -/
theorem RAgree.found {p : Nat} {l : List RO} {os : List Ob} (h : RAgree p l os) {k : Nat} {r : RO} (hr : l.find? (fun q => decide ((q.pos : Int) = (k : Int))) = some r) : ∃ pre post, os = pre ++ r.ob :: post ∧ k = p + (flatW pre).length := by
  induction l generalizing p os with
  | nil => cases hr
  | cons a l ih =>
    cases os with
    | nil => exact h.elim
    | cons o os =>
      obtain ⟨h1, h2, h3⟩ := h
      rw [List.find?_cons] at hr
      split at hr
      · rename_i hd
        cases hr
        have : (r.pos : Int) = k := by simpa using hd
        exact ⟨[], os, by rw [h1]; rfl, by simp [flatW]; omega⟩
      · obtain ⟨pre, post, e1, e2⟩ := ih h3 hr
        exact ⟨o :: pre, post, by rw [e1]; rfl, by rw [flatW_cons, List.length_append, wordsOb_len]; omega⟩
/-- a word leads to an object in both, or in neither -/
theorem agree_has {l : List RO} {os : List Ob} (h : RAgree 1 l os) (lim root hashes x : Int) : (findR l x).isSome = stB (absMem lim os root hashes).M x := by
  unfold findR stB
  cases hx : rfOk x
  · rfl
  · simp only [if_true, Bool.true_and]
    rw [rfOk_iff] at hx
    obtain ⟨k, hk⟩ : ∃ k : Nat, x / 2 = k := ⟨(x / 2).toNat, by omega⟩
    rw [hk, Int.toNat_natCast]
    cases hf : l.find? (fun q => decide ((q.pos : Int) = (k : Int))) with
    | some r =>
      obtain ⟨pre, post, e1, e2⟩ := h.found hf
      have := abs_mark (lim := lim) (root := root) (hashes := hashes) (pre := pre) (post := post) (o := r.ob)
      rw [← e1] at this
      have e3 : endOf pre = k := by unfold endOf; omega
      rw [e3] at this
      rw [this]
      rfl
    | none =>
      cases hm : (absMem lim os root hashes).M[k]? with
      | none => rfl
      | some b =>
        cases b
        · rfl
        · obtain ⟨pre, o, post, rfl, e2⟩ := abs_start hm
          obtain ⟨r, -, -, -, hr⟩ := h.find
          have e3 : 1 + (flatW pre).length = k := by unfold endOf at e2; omega
          rw [e3, hf] at hr
          cases hr
/-- a word that leads to an object: where it lies in both -/
theorem agree_at {l : List RO} {os : List Ob} (h : RAgree 1 l os) (lim root hashes : Int) {x : Int} (hx : stB (absMem lim os root hashes).M x = true) :
    ∃ pre o post r, os = pre ++ o :: post ∧ x = 2 * (endOf pre : Int) ∧ findR l x = some r ∧ l[pre.length]? = some r ∧ r.ob = o := by
  obtain ⟨k, rfl, k1, k2, hk⟩ := stB_at hx
  obtain ⟨pre, o, post, rfl, rfl⟩ := abs_start hk
  obtain ⟨r, h1, h2, h3, h4⟩ := h.find
  refine ⟨pre, o, post, r, rfl, rfl, ?_, h1, h2⟩
  unfold findR
  rw [if_pos (by rw [rfOk_iff]; omega), show (2 * (endOf pre : Int)) / 2 = ((1 + (flatW pre).length : Nat) : Int) by unfold endOf; omega]
  exact h4
theorem agree_used {l : List RO} {os : List Ob} (h : RAgree 1 l os) : usedR l = endOf os := by
  have key : ∀ (l : List RO) (os : List Ob) (p : Nat), RAgree p l os → (match l.getLast? with | none => p | some o => o.pos + 3 + o.fs.length) = p + (flatW os).length := by
    intro l
    induction l with
    | nil => intro os p h; cases os with | nil => simp [flatW] | cons => exact h.elim
    | cons r l ih =>
      intro os p h
      cases os with
      | nil => exact h.elim
      | cons o os =>
        obtain ⟨h1, h2, h3⟩ := h
        have hl : r.fs.length = o.2.2.length := by rw [← h1]; rfl
        have := ih os _ h3
        rw [flatW_cons, List.length_append, wordsOb_len]
        cases hg : l.getLast? with
        | none =>
          have he : l = [] := List.getLast?_eq_none_iff.1 hg
          subst he
          cases os with
          | nil => simp [flatW]; omega
          | cons => exact h3.elim
        | some q =>
          rw [hg] at this
          have e : (r :: l).getLast? = some q := by rw [List.getLast?_cons, hg]; rfl
          rw [e]
          simp only at this ⊢
          omega
  exact key l os 1 h
end Go.Proofs.YtofhgfgipdokbaaGreatDoor
namespace Go.Proofs.YtofhgfgipdokbaaGreatDoor

/-- a word's number fits -/
def WB (x : Int) : Prop := 0 ≤ x ∧ x ≤ 18446744073709551615
/-- all words of an object do -/
def ObB (o : Ob) : Prop := WB o.1 ∧ ∀ x ∈ o.2.2, WB x
def obsOf (its : List It) : List Ob := its.map It.key
/-- the marks of a memory with these objects -/
def marksOf (os : List Ob) : List Bool := false :: flatM os
theorem absMem_M (lim root hashes : Int) (os : List Ob) : (absMem lim os root hashes).M = marksOf os := rfl
theorem memOf_abs (lim : Int) (its : List It) : memOf lim its = absMem lim (obsOf its) 0 0 := by
  have key : ∀ (l : List It) (os : List Ob), l.foldl (fun m o => m.push o.cls o.hash o.fs) (absMem lim os 0 0) = absMem lim (os ++ l.map It.key) 0 0 := by
    intro l
    induction l with
    | nil => intro os; simp
    | cons a l ih =>
      intro os
      have := absMem_push lim os 0 0 a.key
      simp only [It.key] at this
      simp only [List.foldl_cons, List.map_cons, this, ih]
      simp [It.key]
  have := key its []
  simpa [memOf, obsOf, Mem.fresh, absMem, flatW, flatM] using this
theorem memOf_with (lim : Int) (its : List It) (root n : Int) : { memOf lim its with root := root, hashes := n } = absMem lim (obsOf its) root n := by rw [memOf_abs]; rfl
theorem endOf_obs (its : List It) : endOf (obsOf its) = 1 + wordsOf its := by
  unfold endOf obsOf
  induction its with
  | nil => simp [flatW, wordsOf]
  | cons a l ih =>
    simp only [List.map_cons, flatW_cons, List.length_append, wordsOb_len, wordsOf, It.key] at ih ⊢
    omega
theorem hashes_obs (its : List It) : (obsOf its).map (fun o => o.2.1) = its.map (fun o => o.hash) := by simp [obsOf, It.key]

/-- every class and field may be, and the root -/
def wordsOk (os : List Ob) (root : Int) : Bool := os.all (fun o => okB (marksOf os) o.1 && o.2.2.all (okB (marksOf os))) && (decide (root = 0) || stB (marksOf os) root)
open Classical in
/-- the number that Load answers -/
noncomputable def loadE (lim : Int) (os : List Ob) (root n : Int) : Int :=
  if ∃ o ∈ os, 512 < o.2.2.length then 1 else if lim < (endOf os : Int) then 2 else if ¬ HashOk (os.map fun o => o.2.1) n then 1 else if wordsOk os root = true then 0 else 1
theorem loadE_size {lim : Int} {os : List Ob} {root n : Int} (h : ∃ o ∈ os, 512 < o.2.2.length) : loadE lim os root n = 1 := by unfold loadE; rw [if_pos h]
theorem loadE_full {lim : Int} {os : List Ob} {root n : Int} (h : ∀ o ∈ os, o.2.2.length ≤ 512) (h2 : lim < (endOf os : Int)) : loadE lim os root n = 2 := by
  unfold loadE
  rw [if_neg (fun ⟨o, ho, hl⟩ => by have := h o ho; omega), if_pos h2]
theorem loadE_hash {lim : Int} {os : List Ob} {root n : Int} (h : ∀ o ∈ os, o.2.2.length ≤ 512) (h2 : (endOf os : Int) ≤ lim) (h3 : ¬ HashOk (os.map fun o => o.2.1) n) : loadE lim os root n = 1 := by
  unfold loadE
  rw [if_neg (fun ⟨o, ho, hl⟩ => by have := h o ho; omega), if_neg (by omega), if_pos h3]
theorem loadE_bad {lim : Int} {os : List Ob} {root n : Int} (h : ∀ o ∈ os, o.2.2.length ≤ 512) (h2 : (endOf os : Int) ≤ lim) (h3 : wordsOk os root = false) : loadE lim os root n = 1 := by
  unfold loadE
  rw [if_neg (fun ⟨o, ho, hl⟩ => by have := h o ho; omega), if_neg (by omega)]
  split
  · rfl
  · rw [if_neg (by rw [h3]; simp)]
theorem loadE_ok {lim : Int} {os : List Ob} {root n : Int} (h : ∀ o ∈ os, o.2.2.length ≤ 512) (h2 : (endOf os : Int) ≤ lim) (h3 : HashOk (os.map fun o => o.2.1) n) (h4 : wordsOk os root = true) : loadE lim os root n = 0 := by
  unfold loadE
  rw [if_neg (fun ⟨o, ho, hl⟩ => by have := h o ho; omega), if_neg (by omega), if_neg (by simpa using h3), if_pos h4]
theorem loadE_inv {lim : Int} {os : List Ob} {root n : Int} (h : loadE lim os root n = 0) : (∀ o ∈ os, o.2.2.length ≤ 512) ∧ (endOf os : Int) ≤ lim ∧ HashOk (os.map fun o => o.2.1) n ∧ wordsOk os root = true := by
  by_cases h1 : ∃ o ∈ os, 512 < o.2.2.length
  · rw [loadE_size h1] at h; omega
  · have h1' : ∀ o ∈ os, o.2.2.length ≤ 512 := fun o ho => by
      by_cases hl : o.2.2.length ≤ 512
      · exact hl
      · exact absurd ⟨o, ho, by omega⟩ h1
    by_cases h2 : lim < (endOf os : Int)
    · rw [loadE_full h1' h2] at h; omega
    · have h2' : (endOf os : Int) ≤ lim := by omega
      by_cases h3 : HashOk (os.map fun o => o.2.1) n
      · cases h4 : wordsOk os root
        · rw [loadE_bad h1' h2' h4] at h; omega
        · exact ⟨h1', h2', h3, rfl⟩
      · rw [loadE_hash h1' h2' h3] at h; omega
theorem wordsOk_of {os : List Ob} {root : Int} (h : wordsOk os root = true) : (∀ o ∈ os, okB (marksOf os) o.1 = true ∧ ∀ x ∈ o.2.2, okB (marksOf os) x = true) ∧ (root = 0 ∨ stB (marksOf os) root = true) := by
  simp only [wordsOk, Bool.and_eq_true, List.all_eq_true, Bool.or_eq_true, decide_eq_true_eq] at h
  exact ⟨h.1, h.2⟩
theorem wordsOk_mk {os : List Ob} {root : Int} (h : ∀ o ∈ os, okB (marksOf os) o.1 = true ∧ ∀ x ∈ o.2.2, okB (marksOf os) x = true) (hr : root = 0 ∨ stB (marksOf os) root = true) : wordsOk os root = true := by
  simp only [wordsOk, Bool.and_eq_true, List.all_eq_true, Bool.or_eq_true, decide_eq_true_eq]
  exact ⟨h, hr⟩
/-- hashes, where one object more has none -/
theorem HashOk.snoc0 {l : List Int} {n : Int} (h : HashOk l n) : HashOk (l ++ [0]) n := by
  refine ⟨h.1, h.2.1, fun i x hx => ?_⟩
  by_cases hi : i < l.length
  · rw [List.getElem?_append_left hi] at hx
    obtain ⟨h1, h2, h3⟩ := h.2.2 i x hx
    exact ⟨h1, h2, fun k hk hp => by rw [List.getElem?_append_left (by omega)]; exact h3 k hk hp⟩
  · rw [List.getElem?_append_right (by omega)] at hx
    obtain rfl : x = 0 := by
      cases hj : i - l.length with
      | zero => rw [hj] at hx; simpa using hx.symm
      | succ j => rw [hj] at hx; simp at hx
    exact ⟨Int.le_refl _, h.1, fun k hk hp => absurd hp (by omega)⟩
/-- hashes, where one more was given -/
theorem HashOk.give {l : List Int} {n : Int} (h : HashOk l n) (hn : n + 1 < 1099511627776) (j : Nat) : HashOk (l.set j (n + 1)) (n + 1) := by
  refine ⟨by have := h.1; omega, hn, fun i x hx => ?_⟩
  have old : ∀ k, ∀ y, l[k]? = some y → y ≤ n := fun k y hy => (h.2.2 k y hy).2.1
  by_cases hij : j = i
  · subst hij
    by_cases hl : j < l.length
    · rw [List.getElem?_set_self hl] at hx
      cases hx
      refine ⟨by have := h.1; omega, Int.le_refl _, fun k hk _ hk2 => ?_⟩
      rw [List.getElem?_set_ne (by omega)] at hk2
      have := old k _ hk2
      omega
    · rw [List.getElem?_eq_none_iff.2 (by simp; omega)] at hx
      cases hx
  · rw [List.getElem?_set_ne hij] at hx
    obtain ⟨h1, h2, h3⟩ := h.2.2 i x hx
    refine ⟨h1, by omega, fun k hk hp hk2 => ?_⟩
    by_cases hjk : j = k
    · subst hjk
      by_cases hl : j < l.length
      · rw [List.getElem?_set_self hl] at hk2
        cases hk2
        omega
      · rw [List.getElem?_eq_none_iff.2 (by simp; omega)] at hk2
        cases hk2
    · rw [List.getElem?_set_ne hjk] at hk2
      exact h3 k hk hp hk2
/-- two objects with the same hash are one -/
theorem HashOk.one {l : List Int} {n : Int} (h : HashOk l n) {i j : Nat} {x : Int} (hi : l[i]? = some x) (hj : l[j]? = some x) (hx : x ≠ 0) : i = j := by
  obtain ⟨a1, a2, a3⟩ := h.2.2 i x hi
  obtain ⟨b1, b2, b3⟩ := h.2.2 j x hj
  rcases Nat.lt_trichotomy i j with hl | hl | hl
  · exact absurd hi (b3 i hl (by omega))
  · exact hl
  · exact absurd hj (a3 j hl (by omega))
end Go.Proofs.YtofhgfgipdokbaaGreatDoor
