/- both: a heap, and the document's, with the same objects. Instructions and methods that came in. -/
import Derived.Test.YtgpcidmlogbjbaaGreatDoorMCodeD
import Derived.Test.YtgpcidmlogbjbaaGreatDoorMRLoads
import Derived.Test.YtgpcidmlogbjbaaGreatDoorMMade
import Derived.Test.YtgpcidmlogbjbaaGreatDoorMCodeB
import Derived.Lib.SmallJoins
namespace Go.Proofs.YtgpcidmlogbjbaaGreatDoor
open Go.RowKit

/-- two heaps that hold the same -/
def Both4 (lim : Int) (os0 : List Ob) (w : World) (e : Ending) (W : World) : Prop := ∃ hb mb rb os root hs l, e = .returned (.tuple #[.pointer (some ⟨hb, 0, none⟩), .pointer (some ⟨rb, 0, none⟩)]) ∧ OInv lim os hs ∧ RAgree 1 l os ∧ Two w [] hb mb rb (absMem lim os root hs) ⟨lim, l, root, hs⟩ W ∧ OLoad lim [] 0 0 os0 0 1000 os root hs
set_option maxRecDepth 100000 in
set_option maxHeartbeats 1600000 in
theorem both_no (n : Int) (lv : Value) (w : World) (h : n < 64 ∨ 65536 < n) (b1 : -9223372036854775808 ≤ n) (b2 : n ≤ 9223372036854775807) : Calls Tryz.prog 34 #[.int .i64 n, lv] w (Still (.tuple #[.pointer none, .pointer none]) w) := by
  have hn := new_no n
  have hr := rnew_no n
  go_enter Tryz.func34, Tryz.ntmps34
  go_wp2_with (first | (go_at_call 13; refine (hn _ h).mono ?_; rintro e w' ⟨rfl, rfl⟩) | (go_at_call 14; refine (hr _ h b1 b2).mono ?_; rintro e w' ⟨rfl, rfl⟩))
  go_ret2
  exact ⟨rfl, Fr.refl _ _⟩
set_option maxRecDepth 100000 in
set_option maxHeartbeats 3200000 in
theorem both_at (n : Int) (h1 : 64 ≤ n) (h2 : n ≤ 65536) {w : World} (hg : Glob w) {ao : Option Addr} {cap : Nat} (its : List (It × Int)) (hG : G4 w ao its) (hB : B4 its) : Calls Tryz.prog 34 #[.int .i64 n, .slice ao its.length cap] w (Both4 n (obsOf (its.map Prod.fst)) w) := by
  obtain ⟨i0, hi, hz0, hz1, hz2⟩ := info_parts infoHO
  have HGL := Lib.hid hg
  have HG := Lib.hid hG
  have HB := Lib.hid hB
  obtain ⟨os', root', hs', hOL, hML⟩ := OLoad.ex n [] 0 0 (obsOf (its.map Prod.fst)) 0 1000
  have HML := Lib.hid hML
  have HOL := Lib.hid hOL
  have HNI := Lib.hid (hOL.inv (inv_fresh n h1 h2) (fun o ho => by obtain ⟨a, ha, rfl⟩ := List.mem_map.1 ho; obtain ⟨b, hb, rfl⟩ := List.mem_map.1 ha; exact hB.words b hb))
  have hlen := hB.len
  obtain ⟨N, hN⟩ : ∃ N, N = its.length := ⟨_, rfl⟩
  rw [← hN] at hlen ⊢
  have HN := Lib.hid hN
  clear hg hG hB hOL hML hN
  go_enter Tryz.func34, Tryz.ntmps34
  go_wp2_with fail
  refine (live_new n _ h1 h2).mono ?_
  rintro e w1 ⟨hb, mb, rfl, hL⟩
  have HL := Lib.hid hL
  clear hL
  go_wp2_with fail
  refine (rnew n _ h1 h2).mono ?_
  rintro e w2 ⟨rfl, hR, hF2⟩
  have HT2 : Hid (Two w [] hb mb w1.heap.size (absMem n [] 0 0) ⟨n, [], 0, 0⟩ w2) := two_new HL.out hF2 hR (fun k hk => by simp [rfoot, Value.ownBlock] at hk; omega)
  have HF2 : Hid (Fr [] w w2) := HL.out.fr.trans hF2
  obtain ⟨rb, hrb⟩ : ∃ rb, rb = w1.heap.size := ⟨_, rfl⟩
  rw [← hrb] at HT2
  rw [← hrb]
  clear hR hF2 hrb HL
  go_wp2_with fail
  go_loopw [10, 11] (fun v i wr => ∃ k : Nat, k ≤ N ∧ i = .int .i64 k ∧ Hid (Grows w2 116 3 k (flat3 ((its.take k).map Prod.fst)) v wr)) (fun _ i _ => N - (intOf i).toNat)
  case atStart => exact ⟨0, Nat.zero_le _, rfl, World.ownsRow_nil _ _ _ _, Fr.refl _ _, fun _ h => by cases h⟩
  case round =>
    obtain ⟨k, hk, rfl, hG⟩ := hrel
    obtain ⟨vo, vc, rfl⟩ := row_shape' hG.out.row
    by_cases hlt : k < N
    · have hkl : k < its.length := by rw [← HN.out]; exact hlt
      obtain ⟨o, ho⟩ : ∃ o, o = its[k] := ⟨_, rfl⟩
      have hik : its[k]? = some o := by rw [List.getElem?_eq_getElem hkl, ho]
      obtain ⟨f1, f2, f3, -⟩ := flat4_at hik
      obtain ⟨g, off, rfl, c1⟩ := HG.out.row _ _ f1
      obtain ⟨g2, off2, e2, c2⟩ := HG.out.row _ _ f2
      cases e2
      obtain ⟨g3, off3, e3, c3⟩ := HG.out.row _ _ f3
      cases e3
      have hgw : g < w.heap.size := World.block_lt_of_cell? w _ c1
      obtain ⟨fa, fc, hov, -⟩ := HG.out.ok o (List.mem_of_getElem? hik)
      obtain ⟨z, hz⟩ : ∃ z, z = o.1.fs.length := ⟨_, rfl⟩
      rw [← hz] at hov
      rw [hov] at c3
      have HFW := Lib.hid (HF2.out.trans hG.out.fr)
      have d1 := HFW.out.cell (by simp) c1
      have d2 := HFW.out.cell (by simp) c2
      have d3 := HFW.out.cell (by simp) c3
      rw [← Nat.add_assoc] at d2 d3
      have hs2 := HF2.out.size
      have hov1 : (Value.slice vo k vc).ownBlock ≠ some g := fun e => by have := hG.out.new g e; omega
      have HT : Hid (its.take (k + 1) = its.take k ++ [o]) := by rw [List.take_add_one, hik]; rfl
      have HO := Lib.hid hov
      have hgr : g < wr.heap.size := Nat.lt_of_lt_of_le hgw HFW.out.size
      have hk0 : (0 : Int) ≤ (k : Int) := Int.natCast_nonneg _
      have hk1 : (k : Int) < (N : Int) := by omega
      have HROW : Hid (wr.ownsRow 0 116 3 (.slice vo k vc) k (flat3 ((its.take k).map Prod.fst))) := hG.out.row
      have hmx : k + 1 ≤ maxLen := by unfold maxLen; omega
      clear ho hik f1 f2 f3 c1 c2 c3 hkl hov hz
      go_wp2_with fail
      go_region_held3 (fun w' => w'.cell? ⟨g, off + k * 4, none⟩ = some (.int .u64 o.1.cls) ∧ w'.cell? ⟨g, off + k * 4 + 1, none⟩ = some (.int .i64 o.1.hash) ∧ w'.cell? ⟨g, off + k * 4 + 2, none⟩ = some (.slice fa z fc))
        (first
          | go_keep
          | (go_split_ands
             refine ⟨?_, ?_, ?_⟩
             · (rw [hgrow.cell_far _ (by simp; omega) (Ne.symm hov1)]; assumption)
             · (rw [hgrow.cell_far _ (by simp; omega) (Ne.symm hov1)]; assumption)
             · (rw [hgrow.cell_far _ (by simp; omega) (Ne.symm hov1)]; assumption)))
        ((refine step_append_lies _ (by rfl) _ _ _ (by rfl) 0 116 i0 _ 3 40 Tryz.underlying37 hi hz0 hz1 hz2 rfl (by omega) (.slice vo k vc) k (flat3 ((its.take k).map Prod.fst)) (by rfl) ((HROW.out.alloc _).drew) ⟨wr.heap.size, 0, none⟩ 1 1 [.int .u64 o.1.cls, .int .i64 o.1.hash, .slice fa z fc] (by rfl) (by rfl) (World.news_of_block (cs := #[.int .u64 o.1.cls, .int .i64 o.1.hash, .slice fa z fc]) (t := 116) (fr := (0, 0)) (heap_alloc_new wr _)) (by simp [Value.oneCell']) (by omega) hmx (by omega) (by simp) (wr.heap.size + 1) (by simp) ?_; intro gg cp w1 hown1 hgrow hat hlt1))
      have HGn : Hid (Grows w2 116 3 (k + 1) (flat3 ((its.take (k + 1)).map Prod.fst)) (.slice (some ⟨gg, 0, none⟩) (k + 1) cp) w1) := by
        rw [HT.out, List.map_append, List.map_singleton, flat3_snoc]
        rw [HO.out]
        exact hG.out.step (W1 := (wr.alloc _).drew) (((Fr.refl _ _).alloc _).drew) hown1 hgrow (hat.imp (fun h => h.symm) (fun h => by rw [h]; simp [Value.ownBlock]))
      clear hown1 hgrow hat hlt1 HROW hG
      go_wp2_with fail
      go_roundw
      case rel => exact ⟨k + 1, by omega, by go_num, HGn⟩
      case measure => simp [intOf]; omega
    · have hke : k = N := by omega
      subst hke
      have hkd : decide (k < k) = false := by simp
      have HR : Hid (wr.ownsRow 0 116 3 (.slice vo k vc) k (flat3 (its.map Prod.fst))) := by
        have := hG.out.row
        rw [HN.out, List.take_length, ← HN.out] at this
        exact this
      have HF := Lib.hid hG.out.fr
      have HT3 := Lib.hid (HT2.out.still HF.out)
      have HH3 : Hid (Handed wr vo (its.map Prod.fst)) := by
        have hg := HG.out.fr0 (HF2.out.trans HF.out)
        have hB := HB.out
        exact ⟨row_rowAt HR.out, fun o ho => by obtain ⟨b, hb, rfl⟩ := List.mem_map.1 ho; exact hg.inn b hb, by simpa using hB.len, fun o ho => by obtain ⟨b, hb, rfl⟩ := List.mem_map.1 ho; exact hB.sizes b hb, fun o ho => by obtain ⟨b, hb, rfl⟩ := List.mem_map.1 ho; exact hB.hash b hb, fun o ho => by obtain ⟨b, hb, rfl⟩ := List.mem_map.1 ho; exact hB.words b hb⟩
      have hhl := hload2 (cap := vc) (lo := ao) HGL.out (inv_fresh n h1 h2) HT3.out (its.map Prod.fst) HH3.out its (fun wv sv W' hHA h2' hF' => HG.out.fr (HF2.out.trans HF.out |>.join hF' h2') (fun _ a _ => by simp) (fun _ _ fa _ _ _ _ => by simp)) 0 1000 (by unfold WB; omega) (by omega) (by omega) HML.out
      rw [List.length_map, ← HN.out] at hhl
      have HHL := Lib.hid hhl
      clear hG hhl
      go_wp2_with fail
      refine HHL.out.mono ?_
      rintro e w4 ⟨rfl, hT4, hG4⟩
      have hrl := rload2 (cap := cap) (l := []) (inv_fresh n h1 h2) (show RAgree 1 [] [] from trivial) its HB.out 0 1000 (by unfold WB; omega) (by omega) (by omega) HOL.out hT4 hG4
      rw [← HN.out] at hrl
      have HRL := Lib.hid hrl
      clear hT4 hG4 hrl
      go_wp2_with fail
      refine HRL.out.mono ?_
      rintro e w5 ⟨rfl, l', ha', hT5⟩
      have HT5 := Lib.hid hT5
      have HA5 := Lib.hid ha'
      clear hT5 ha'
      go_wp2_with fail
      go_ret2
      exact ⟨hb, mb, rb, os', root', hs', l', rfl, HNI.out, HA5.out, HT5.out, HOL.out⟩
end Go.Proofs.YtgpcidmlogbjbaaGreatDoor
namespace Go.Proofs.YtgpcidmlogbjbaaGreatDoor
open Go.ChangeShapes Go.WideShapes Go.RowKit Go.Deep
section
variable {H : Type} {enc : TypeId × Value → H} {w : World} {base : Nat} {spare : Nat → Bool} {held : Bool}

theorem arr3 {cs : Array Value} {a b c : Value} (h : cs.toList.length = 3) (h0 : cs.toList[0]? = some a) (h1 : cs.toList[1]? = some b) (h2 : cs.toList[2]? = some c) : cs = #[a, b, c] := by
  obtain ⟨l⟩ := cs
  match l, h with
  | [x, y, z], _ => simp at h0 h1 h2; rw [h0, h1, h2]
theorem arr6 {cs : Array Value} {a b c d e f : Value} (h : cs.toList.length = 6) (h0 : cs.toList[0]? = some a) (h1 : cs.toList[1]? = some b) (h2 : cs.toList[2]? = some c) (h3 : cs.toList[3]? = some d) (h4 : cs.toList[4]? = some e) (h5 : cs.toList[5]? = some f) : cs = #[a, b, c, d, e, f] := by
  obtain ⟨l⟩ := cs
  match l, h with
  | [x, y, z, u, v, t], _ => simp at h0 h1 h2 h3 h4 h5; rw [h0, h1, h2, h3, h4, h5]
set_option maxRecDepth 100000 in
theorem read_instr {r : Reach} {b0 : Nat} {v : Value} {d : DataW H} {p : List MemPlace} (hv : Value.okWide Tryz.prog w r b0 53 v) (h : DataW.Trod enc Tryz.prog w base spare held 53 v d p) : ∃ i : Ins, v = i.v := by
  obtain ⟨cs, rfl, hsz⟩ := okWide_struct Tryz.underlying53 hv
  obtain ⟨fuel, hf⟩ := h
  obtain ⟨ys, k, -, hlen, hF⟩ := fields_of Tryz.underlying53 (by kernel_rfl) (by kernel_rfl) (show DataW.trod enc Tryz.prog w base spare held fuel 53 cs.toList = some (d, p) from hf)
  obtain ⟨v0, y0, c0, -, t0⟩ := hF 0 _ rfl
  obtain ⟨v1, y1, c1, -, t1⟩ := hF 1 _ rfl
  obtain ⟨v2, y2, c2, -, t2⟩ := hF 2 _ rfl
  obtain ⟨z0, e0, -, -⟩ := DataW.trod_int Tryz.underlying3 t0
  obtain ⟨z1, e1, -, -⟩ := DataW.trod_int Tryz.underlying3 t1
  obtain ⟨z2, e2, -, -⟩ := DataW.trod_int Tryz.underlying3 t2
  simp only [List.cons.injEq, and_true] at e0 e1 e2
  subst e0
  subst e1
  subst e2
  exact ⟨⟨z0, z1, z2⟩, by rw [arr3 hlen c0 c1 c2]; rfl⟩
theorem cells_Instr : Tryz.prog.cellsOf 53 = 3 := by kernel_rfl
theorem bytes_Instr : Tryz.prog.bytesOf 53 = 24 := by kernel_rfl
theorem flatI_get {l : List Ins} {j : Nat} {u : Value} (h : (flatI l)[j]? = some u) : ∃ i o, l[i]? = some o ∧ ((j = i * 3 ∧ u = .int .i64 o.op) ∨ (j = i * 3 + 1 ∧ u = .int .i64 o.a) ∨ (j = i * 3 + 2 ∧ u = .int .i64 o.b)) := by
  have hj := (List.getElem?_eq_some_iff.1 h).1
  have hfl : (flatI l).length = l.length * 3 := by
    clear h hj
    induction l with
    | nil => rfl
    | cons a l ih => rw [show flatI (a :: l) = .int .i64 a.op :: .int .i64 a.a :: .int .i64 a.b :: flatI l from rfl]; simp [ih]; omega
  rw [hfl] at hj
  have hi : j / 3 < l.length := by omega
  have hio := List.getElem?_eq_getElem hi
  obtain ⟨f0, f1, f2⟩ := flatI_at hio
  refine ⟨j / 3, l[j / 3], hio, ?_⟩
  have hr : j = j / 3 * 3 + j % 3 := by omega
  have h4 : j % 3 = 0 ∨ j % 3 = 1 ∨ j % 3 = 2 := by omega
  rcases h4 with h4 | h4 | h4
  · rw [h4] at hr; rw [hr, Nat.add_zero] at h; left; exact ⟨by omega, Option.some.inj (h.symm.trans f0)⟩
  · rw [h4] at hr; rw [hr] at h; right; left; exact ⟨by omega, Option.some.inj (h.symm.trans f1)⟩
  · rw [h4] at hr; rw [hr] at h; right; right; exact ⟨by omega, Option.some.inj (h.symm.trans f2)⟩
def Ins3 (w : World) (a : Addr) (i : Nat) (o : Ins) : Prop := w.cell? (a.add (i * 3)) = some (.int .i64 o.op) ∧ w.cell? (a.add (i * 3 + 1)) = some (.int .i64 o.a) ∧ w.cell? (a.add (i * 3 + 2)) = some (.int .i64 o.b)
set_option maxRecDepth 100000 in
theorem read_instrs {n : Nat} {v : Value} {y : DataW H × List MemPlace} (h : DataW.trod enc Tryz.prog w base spare held n 59 [v] = some y) (hl : Light 59 y.1) :
    ∃ lo lc is, v = .slice lo is.length lc ∧ RowAt w lo (flatI is) ∧ is.length ≤ 5864062014805 ∧ (is ≠ [] → ∀ a, lo = some a → a.block < w.heap.size) := by
  rcases open_slice Tryz.underlying59 h with ⟨hcs, hx⟩ | ⟨a, len, cap, m, k, D, Pl, hcs, -, hlc, -, hm, hx, hi⟩
  · simp only [List.cons.injEq, and_true] at hcs
    subst hcs
    exact ⟨none, 0, [], rfl, fun i x hx => by simp [flatI] at hx, by simp, fun h => absurd rfl h⟩
  · simp only [List.cons.injEq, and_true] at hcs
    subst hcs
    have hml : len ≤ m := by rw [hm]; split <;> omega
    rw [hx] at hl
    obtain ⟨hb, -⟩ := hl.slice Tryz.underlying59
    rw [bytes_Instr] at hb
    simp only [List.length_map, List.length_range] at hb
    have hlen : len ≤ 5864062014805 := by unfold reachBytes at hb; omega
    obtain ⟨its, hil, hits⟩ := list_of (p := Ins3 w a) len (fun i hil => by
      obtain ⟨cs', hc, ht⟩ := hi i (by omega)
      rw [cells_Instr] at hc
      obtain ⟨-, hcl, hat⟩ := World.cells?_some hc
      obtain ⟨ys, k', -, hsz, hf⟩ := fields_of Tryz.underlying53 (by kernel_rfl) (by kernel_rfl) ht
      obtain ⟨v0, y0, c0, -, t0⟩ := hf 0 _ rfl
      obtain ⟨v1, y1, c1, -, t1⟩ := hf 1 _ rfl
      obtain ⟨v2, y2, c2, -, t2⟩ := hf 2 _ rfl
      obtain ⟨z0, e0, -, -⟩ := DataW.trod_int Tryz.underlying3 t0
      obtain ⟨z1, e1, -, -⟩ := DataW.trod_int Tryz.underlying3 t1
      obtain ⟨z2, e2, -, -⟩ := DataW.trod_int Tryz.underlying3 t2
      simp only [List.cons.injEq, and_true] at e0 e1 e2
      subst e0
      subst e1
      subst e2
      have a0 := (hat 0 (by omega)).trans c0
      have a1 := (hat 1 (by omega)).trans c1
      have a2 := (hat 2 (by omega)).trans c2
      rw [add_add] at a0 a1 a2
      exact ⟨⟨z0, z1, z2⟩, by simpa using a0, a1, a2⟩)
    refine ⟨some a, cap, its, by rw [hil], fun j u hu => ?_, by omega, fun hne a' ha' => ?_⟩
    · obtain ⟨i, o, hio, hc⟩ := flatI_get hu
      have ho := hits i o hio
      have h0 : 0 < its.length := Nat.lt_of_le_of_lt (Nat.zero_le _) (List.getElem?_eq_some_iff.1 hio).1
      have hz := (hits 0 _ (List.getElem?_eq_getElem h0)).1
      obtain ⟨b, oo, hab⟩ := spot_of (by simpa [Addr.add] using hz)
      subst hab
      refine ⟨b, oo, rfl, ?_⟩
      rw [← Lib.add_plain]
      rcases hc with ⟨rfl, rfl⟩ | ⟨rfl, rfl⟩ | ⟨rfl, rfl⟩
      · exact ho.1
      · exact ho.2.1
      · exact ho.2.2
    · cases ha'
      have hz := (hits 0 _ (List.getElem?_eq_getElem (List.length_pos_iff.2 hne))).1
      exact World.block_lt_of_cell? w _ (by simpa [Addr.add] using hz)
/-- what is known of a method that came in -/
structure MIn (w : World) (m : Mth) (la : Option Addr) (lc : Nat) (ca : Option Addr) : Prop where
  at_ : MAt w m la lc ca
  wb : ∀ x ∈ m.lits, WB x
  ll : m.lits.length ≤ 17592186043904
  cl : m.code.length ≤ 5864062014805
  args : -9223372036854775808 ≤ m.args ∧ m.args ≤ 9223372036854775807
  temps : -9223372036854775808 ≤ m.temps ∧ m.temps ≤ 9223372036854775807
  stack : -9223372036854775808 ≤ m.stack ∧ m.stack ≤ 9223372036854775807
  prim : -9223372036854775808 ≤ m.prim ∧ m.prim ≤ 9223372036854775807
  lb : m.lits ≠ [] → ∀ a, la = some a → a.block < w.heap.size
  cb : m.code ≠ [] → ∀ a, ca = some a → a.block < w.heap.size
set_option maxRecDepth 100000 in
theorem read_method {r : Reach} {b0 : Nat} {v : Value} {d : DataW H} {p : List MemPlace} (hv : Value.okWide Tryz.prog w r b0 61 v) (h : DataW.Trod enc Tryz.prog w base spare held 61 v d p) (hl : Light 61 d) : ∃ m la lc ca cc, v = Mth.v m la lc ca cc ∧ MIn w m la lc ca := by
  obtain ⟨cs, rfl, hsz⟩ := okWide_struct Tryz.underlying61 hv
  obtain ⟨fuel, hf⟩ := h
  obtain ⟨ys, k, hx, hlen, hF⟩ := fields_of Tryz.underlying61 (by kernel_rfl) (by kernel_rfl) (show DataW.trod enc Tryz.prog w base spare held fuel 61 cs.toList = some (d, p) from hf)
  simp only at hx
  rw [hx] at hl
  obtain ⟨v0, y0, c0, -, t0⟩ := hF 0 _ rfl
  obtain ⟨v1, y1, c1, -, t1⟩ := hF 1 _ rfl
  obtain ⟨v2, y2, c2, -, t2⟩ := hF 2 _ rfl
  obtain ⟨v3, y3, c3, -, t3⟩ := hF 3 _ rfl
  obtain ⟨v4, y4, c4, hy4, t4⟩ := hF 4 _ rfl
  obtain ⟨v5, y5, c5, hy5, t5⟩ := hF 5 _ rfl
  have l4 := hl.field Tryz.underlying61 (j := 4) rfl hy4
  have l5 := hl.field Tryz.underlying61 (j := 5) rfl hy5
  obtain ⟨z0, e0, -, g0⟩ := DataW.trod_int Tryz.underlying3 t0
  obtain ⟨z1, e1, -, g1⟩ := DataW.trod_int Tryz.underlying3 t1
  obtain ⟨z2, e2, -, g2⟩ := DataW.trod_int Tryz.underlying3 t2
  obtain ⟨z3, e3, -, g3⟩ := DataW.trod_int Tryz.underlying3 t3
  obtain ⟨la, lc, xs, rfl, hwd, hwb, hxl, hnil, hpos⟩ := read_words2 t4 l4
  obtain ⟨ca, cc, is, rfl, hro, hil, hcb⟩ := read_instrs t5 l5
  simp only [List.cons.injEq, and_true] at e0 e1 e2 e3
  subst e0
  subst e1
  subst e2
  subst e3
  refine ⟨⟨z0, z1, z2, z3, xs, is⟩, la, lc, ca, cc, by rw [arr6 hlen c0 c1 c2 c3 c4 c5]; rfl, ⟨hwd, fun h => hnil h, hro⟩, hwb, hxl, hil, wf_i64' g0, wf_i64' g1, wf_i64' g2, wf_i64' g3, fun hne a ha => ?_, hcb⟩
  obtain ⟨b, o, e, hbl⟩ := hpos (List.length_pos_iff.2 hne)
  rw [e] at ha
  cases ha
  exact hbl
end
end Go.Proofs.YtgpcidmlogbjbaaGreatDoor
