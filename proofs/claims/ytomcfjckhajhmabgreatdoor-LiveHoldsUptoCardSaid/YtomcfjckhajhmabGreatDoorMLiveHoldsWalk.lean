/- LiveHolds: the walk. -/
import Derived.Test.YtomcfjckhajhmabGreatDoorMLivHol
namespace Go.Proofs.YtomcfjckhajhmabGreatDoor
open Go.RowKit

set_option maxRecDepth 100000 in
set_option maxHeartbeats 16000000 in
theorem liveHolds_walk (u : Un) (w : World) (hA : UAt w u) (hB : UB u) (hN : u.code.length ≤ 1048576) (hg : VG w) : Calls Tryz.prog 4 #[u.v] w (Still (.bool true) w) := by
  have HAW := Lib.hid (fun W (hF : Fr [] w W) => awake13 W (hg.fr hF))
  have HL := Lib.hid (fun W (hF : Fr [] w W) => lv_Intervals u W (hA.fr hF) hB)
  have HC := Lib.hid (fun W (hF : Fr [] w W) => ir_Check u W (hA.fr hF) hB)
  have hcs : okU u = true ∨ okU u = false := by cases okU u <;> simp
  rcases hcs with hok | hok
  · have hU := uok_of hok
    have HL2 : Hid (∀ W, Fr [] w W → Calls Tryz.prog 12 #[u.v] W fun e w' => ∃ a c, e = .returned (.tuple #[.slice a (ivsU u).length c, .int .i64 0]) ∧ Fr [] W w' ∧ IvAt w' a (ivsU u)) := Lib.hid fun W hF => (HL.out W hF).mono (by
      rintro e w' ⟨h1, ⟨-, a, c, he, hG⟩ | ⟨hn, -⟩⟩
      · exact ⟨a, c, he, h1, ivs_of_row hG.row⟩
      · rw [hok] at hn; cases hn)
    have hil : (ivsU u).length ≤ 4096 := by
      have h1 := hU.regs
      have h2 := ivs_len (evs u u.maps.length) u.regs.toNat
      unfold ivsU
      omega
    have HOF : Hid (∀ W a c v, IvAt W a (ivsU u) → Calls Tryz.prog 15 #[.slice a (ivsU u).length c, .int .i64 v] W (Still (ofV (ofL (ivsU u) v)) W)) := Lib.hid fun W a c v hI => l13_of (ivsU u) a c v W hI hil
    have HIN : Hid (∀ pc, pc < u.maps.length → ∀ s ∈ allP u pc, s.kind = 0 → ∃ f t, ofL (ivsU u) s.n = some (s.n, f, t) ∧ f ≤ pc ∧ pc ≤ t) := Lib.hid fun pc hpc s hs h0 => all_in hU hpc hs h0
    have HIO : Hid (∀ (i : Nat) (v : Int) (f t : Nat), (ivsU u)[i]? = some (v, f, t) → f ≤ t ∧ t < u.maps.length) := Lib.hid fun i v f t h => ivs_ok hU h
    have HIU : Hid (∀ (i : Nat) (v : Int) (f t : Nat) (v' : Int) (f' t' : Nat), (ivsU u)[i]? = some (v, f, t) → (ivsU u)[i + 1]? = some (v', f', t') → v < v') := Lib.hid fun i v f t v' f' t' h h' => ivs_up h h'
    have HAM : Hid (∀ (W : World), Fr [] w W → ∀ (pc : Nat) (m : Mp), u.maps[pc]? = some m → ∃ g o, u.ma = some ⟨g, o, none⟩ ∧ W.cell? ⟨g, o + pc, none⟩ = some (.slice m.a m.l.length m.c)) := Lib.hid fun W hF pc m hm => ((hA.maps.fr hF) pc m hm).1
    have HSM : Hid (∀ (W : World), Fr [] w W → ∀ (pc : Nat) (m : Mp), u.maps[pc]? = some m → SrcsAt W m.a m.l ∧ SlOk m.a m.l.length m.c ∧ m.l.length ≤ 32) := Lib.hid fun W hF pc m hm => ⟨((hA.maps.fr hF) pc m hm).2, (hB.maps m (List.mem_of_getElem? hm)).2.2, map_small hok (List.mem_of_getElem? hm)⟩
    have HAS := Lib.hid hA.starts
    have HAC := Lib.hid hA.code
    have HST := Lib.hid hU.st
    have HRD : Hid (∀ W, Fr [] w W → ∀ (j : Nat) (i : Ii), u.code[j]? = some i → Calls Tryz.prog 13 #[i.v] W (ReadsTo (i.l.filter plc) W)) := Lib.hid fun W hF j i hi => ir_Reads i W (hB.code i (List.mem_of_getElem? hi)) ((hA.code.fr hF) j i hi).2
    have HCO := Lib.hid hU.code
    have hml : u.maps.length ≤ 128 := by have := hU.starts; omega
    have hsl : u.starts.length = u.maps.length + 1 := by have := hU.starts; omega
    have HAL : Hid (∀ (pc : Nat) (m : Mp) (a b : Nat), u.maps[pc]? = some m → u.starts[pc]? = some (a : Int) → u.starts[pc + 1]? = some (b : Int) → allP u pc = m.l ++ ((u.code.drop a).take (b - a)).flatMap insSrcs) := Lib.hid fun pc m a b hm ha hb => by
      unfold allP
      rw [part_at ha hb, show mapU u pc = m.l by unfold mapU; rw [hm]]
    clear HL HC hB hA hg hU hok
    generalize ivsU u = iv at *
    generalize allP u = al at *
    obtain ⟨method, args, T, R, P, S, ea, en, ec, ca, co, cc, sa, st, sc, ma, mp, mc⟩ := u
    unfold Un.v at HL2 ⊢
    simp only at HL2 HIN HIO HAM HSM HAS HAC HST HRD HCO hml hsl HAL hN ⊢
    generalize en.length = el at *
    obtain ⟨cl, hcl⟩ : ∃ z, z = co.length := ⟨_, rfl⟩
    obtain ⟨sl, hsle⟩ : ∃ z, z = st.length := ⟨_, rfl⟩
    obtain ⟨ml, hmle⟩ : ∃ z, z = mp.length := ⟨_, rfl⟩
    obtain ⟨il, hile⟩ : ∃ z, z = iv.length := ⟨_, rfl⟩
    rw [← hsle, ← hmle] at hsl
    rw [← hcl] at hN
    rw [← hile] at hil
    simp only [← hcl, ← hsle, ← hmle, ← hile] at HL2 HIN HIO HST HOF hml ⊢
    have HCL := Lib.hid hcl
    have HML := Lib.hid hmle
    have HIL := Lib.hid hile
    have HSL := Lib.hid hsl
    have HNC := Lib.hid hN
    have HM8 := Lib.hid hml
    have HI8 := Lib.hid hil
    clear hcl hsle hmle hile hsl hN hml hil
    go_enter Tryz.func4, Tryz.ntmps4
    go_wp2_with (first
      | (go_at_call 11; refine (HAW.out _ (by (repeat (first | (with_reducible refine Fr.setCell ?_ (fun h => absurd h (Nat.lt_irrefl _)) _) | (with_reducible refine Fr.setCell ?_ (fun h => absurd h (by first | omega | (simp; done) | (simp; omega) | (dsimp only; omega))) _) | (with_reducible refine Fr.alloc ?_ _) | (with_reducible refine Fr.drew ?_) | (with_reducible refine Fr.drewN ?_ _) | (with_reducible exact Fr.refl _ _))))).mono ?_; rintro e w2 ⟨rfl, hF⟩; have HF2 : Hid (Fr [] w w2) := Lib.hid (Fr.trans (by (repeat (first | (with_reducible refine Fr.setCell ?_ (fun h => absurd h (Nat.lt_irrefl _)) _) | (with_reducible refine Fr.setCell ?_ (fun h => absurd h (by first | omega | (simp; done) | (simp; omega) | (dsimp only; omega))) _) | (with_reducible refine Fr.alloc ?_ _) | (with_reducible refine Fr.drew ?_) | (with_reducible refine Fr.drewN ?_ _) | (with_reducible exact Fr.refl _ _)))) hF); have HB2 := Lib.hid (hF.heap (by simp) (heap_new w _)); have b0 := cell_of_heap (o := 0) HB2.out rfl; have b1 := cell_of_heap (o := 1) HB2.out rfl; have b2 := cell_of_heap (o := 2) HB2.out rfl; have b3 := cell_of_heap (o := 3) HB2.out rfl; have b4 := cell_of_heap (o := 4) HB2.out rfl; have b5 := cell_of_heap (o := 5) HB2.out rfl; have b6 := cell_of_heap (o := 6) HB2.out rfl; have b7 := cell_of_heap (o := 7) HB2.out rfl; have b8 := cell_of_heap (o := 8) HB2.out rfl; have b9 := cell_of_heap (o := 9) HB2.out rfl; have hl2 := lt_of_heap HB2.out; clear hF)
      | (go_at_call 12; refine (HL2.out _ (by (repeat (first | (with_reducible refine Fr.setCell ?_ (fun h => absurd h (Nat.lt_irrefl _)) _) | (with_reducible refine Fr.setCell ?_ (fun h => absurd h (by first | omega | (simp; done) | (simp; omega) | (dsimp only; omega))) _) | (with_reducible refine Fr.alloc ?_ _) | (with_reducible refine Fr.drew ?_) | (with_reducible refine Fr.drewN ?_ _) | (with_reducible exact HF2.out))))).mono ?_; rintro e w3 ⟨a3, c3, rfl, hF, hI⟩; have HF3 : Hid (Fr [] w w3) := Lib.hid (HF2.out.trans hF); have HI3 := Lib.hid hI; have HB3 := Lib.hid (hF.heap (by simp) HB2.out); clear b0 b1 b2 b3 b4 b5 b6 b7 b8 b9 hl2; have b0 := cell_of_heap (o := 0) HB3.out rfl; have b1 := cell_of_heap (o := 1) HB3.out rfl; have b2 := cell_of_heap (o := 2) HB3.out rfl; have b3 := cell_of_heap (o := 3) HB3.out rfl; have b4 := cell_of_heap (o := 4) HB3.out rfl; have b5 := cell_of_heap (o := 5) HB3.out rfl; have b6 := cell_of_heap (o := 6) HB3.out rfl; have b7 := cell_of_heap (o := 7) HB3.out rfl; have b8 := cell_of_heap (o := 8) HB3.out rfl; have b9 := cell_of_heap (o := 9) HB3.out rfl; have hl2 := lt_of_heap HB3.out; clear hF hI))
    clear b0 b1 b2 b3 b4 b5 b6 b7 b8 b9 hl2 HAW HL2
    go_loopw [6] (fun i wr => ∃ pc : Nat, pc ≤ ml ∧ i = .int .i64 pc ∧ Hid (Fr [] w3 wr)) (fun i _ => ml - (RowKit.intOf i).toNat)
    case atStart => exact ⟨0, Nat.zero_le _, rfl, Lib.hid (by (repeat (first | (with_reducible refine Fr.setCell ?_ (fun h => absurd h (Nat.lt_irrefl _)) _) | (with_reducible refine Fr.setCell ?_ (fun h => absurd h (by first | omega | (simp; done) | (simp; omega) | (dsimp only; omega))) _) | (with_reducible refine Fr.alloc ?_ _) | (with_reducible refine Fr.drew ?_) | (with_reducible refine Fr.drewN ?_ _) | (with_reducible exact Fr.refl _ _))))⟩
    case round =>
      obtain ⟨pc, hpc, rfl, HF⟩ := hrel
      have hbx := HF.out.heap (by simp) HB3.out
      have b0 := cell_of_heap (o := 0) hbx rfl; have b1 := cell_of_heap (o := 1) hbx rfl; have b2 := cell_of_heap (o := 2) hbx rfl; have b3 := cell_of_heap (o := 3) hbx rfl; have b4 := cell_of_heap (o := 4) hbx rfl; have b5 := cell_of_heap (o := 5) hbx rfl; have b6 := cell_of_heap (o := 6) hbx rfl; have b7 := cell_of_heap (o := 7) hbx rfl; have b8 := cell_of_heap (o := 8) hbx rfl; have b9 := cell_of_heap (o := 9) hbx rfl
      have hl2 := lt_of_heap hbx
      clear hbx
      have hm8 := HM8.out
      by_cases hlt : pc < ml
      · obtain ⟨m, hm⟩ : ∃ m, mp[pc]? = some m := ⟨_, List.getElem?_eq_getElem (by have := HML.out; omega)⟩
        have HF03 : Hid (Fr [] w wr) := Lib.hid (HF3.out.trans HF.out)
        obtain ⟨gm, om, hma, c0⟩ := HAM.out wr HF03.out pc m hm
        obtain ⟨hS1, hS2, hS3⟩ := HSM.out wr HF03.out pc m hm
        obtain ⟨a, bb, ha, hb, hab, hbc⟩ := HST.out pc hlt
        obtain ⟨gs, os, hsa, d0⟩ := (HAS.out.fr HF03.out) pc (a : Int) ha
        have HD : Hid (∀ W, Fr [] w W → W.cell? ⟨gs, os + pc, none⟩ = some (.int .i64 (a : Int)) ∧ W.cell? ⟨gs, os + (pc + 1), none⟩ = some (.int .i64 (bb : Int))) := Lib.hid fun W hF => by
          obtain ⟨g9, o9, e9, x9⟩ := (HAS.out.fr hF) pc (a : Int) ha
          rw [hsa] at e9
          cases e9
          obtain ⟨g9, o9, e9, y9⟩ := (HAS.out.fr hF) (pc + 1) (bb : Int) hb
          rw [hsa] at e9
          cases e9
          exact ⟨x9, y9⟩
        have HALP := Lib.hid (HAL.out pc m a bb hm ha hb)
        have HINP := Lib.hid (HIN.out pc hlt)
        have HAB : Hid (a ≤ bb ∧ bb ≤ cl) := Lib.hid ⟨hab, hbc⟩
        have hgm : gm < wr.heap.size := World.block_lt_of_cell? wr _ c0
        have q0 : (0 : Int) ≤ (pc : Int) := by omega
        have q1 : (pc : Int) < (ml : Int) := by omega
        have s1 : (pc : Int) < (sl : Int) := by have := HSL.out; omega
        have s0 : (0 : Int) ≤ (pc : Int) + 1 := by omega
        have s2 : (pc : Int) + 1 < (sl : Int) := by have := HSL.out; omega
        have e1 : IntKind.i64.wrap ((pc : Int) + 1) = (pc : Int) + 1 := IntWalk.i64_in _ (by omega)
        have hgs : gs < wr.heap.size := World.block_lt_of_cell? wr _ d0
        obtain ⟨W0, hW0⟩ : ∃ W0, W0 = wr := ⟨_, rfl⟩
        have HW0 := Lib.hid hW0
        have HF0 : Hid (Fr [] w3 W0) := Lib.hid (by rw [hW0]; exact HF.out)
        obtain ⟨ml', hml'⟩ : ∃ x, x = m.l := ⟨_, rfl⟩
        have HMLL := Lib.hid hml'
        rw [← hml'] at hS1 hS2 hS3 c0
        obtain ⟨v5, w5, hr5, hG5⟩ := app_srcs (l := []) (grows_empty9 wr) m.a m.c (hS1.fr ((Fr.refl _ _).alloc _)) hS2 (by simp; omega) 54
        rw [List.nil_append, ← hW0] at hG5
        have HG5 := Lib.hid hG5
        have HF5 : Hid (Fr [] W0 w5) := Lib.hid hG5.fr
        have hbx := hG5.fr.heap (by simp) (HF0.out.heap (by simp) HB3.out)
        subst hma hsa
        obtain ⟨v5a, v5c, hv5⟩ := irow_shape hG5.row
        subst hv5
        clear hW0 hml' hS1 hS2 hm ha hb hab hbc hG5 hlt
        go_wp2_with (at_builtin; refine Lib.wpList_append_run _ rfl (.tmp 44) (.tmp 49) 54 54 rfl _ _ rfl rfl _ w5 hr5 ?_; clear b0 b1 b2 b3 b4 b5 b6 b7 b8 b9 hl2; have b0 := cell_of_heap (o := 0) hbx rfl; have b1 := cell_of_heap (o := 1) hbx rfl; have b2 := cell_of_heap (o := 2) hbx rfl; have b3 := cell_of_heap (o := 3) hbx rfl; have b4 := cell_of_heap (o := 4) hbx rfl; have b5 := cell_of_heap (o := 5) hbx rfl; have b6 := cell_of_heap (o := 6) hbx rfl; have b7 := cell_of_heap (o := 7) hbx rfl; have b8 := cell_of_heap (o := 8) hbx rfl; have b9 := cell_of_heap (o := 9) hbx rfl; have hl2 := lt_of_heap hbx; obtain ⟨x0, x1⟩ := HD.out w5 (HF3.out.trans (HF0.out.trans HF5.out)); have hgs5 := World.block_lt_of_cell? w5 _ x0)
        clear x0 x1 hgs5 b0 b1 b2 b3 b4 b5 b6 b7 b8 b9 hl2 hr5 hbx c0 d0 hgm hgs HF
        go_loopw [7, 8] (fun v i wr => ∃ j : Nat, a ≤ j ∧ j ≤ bb ∧ i = .int .i64 j ∧ Hid (IGrows W0 57 3 (ml' ++ ((co.drop a).take (j - a)).flatMap insSrcs).length (flatS (ml' ++ ((co.drop a).take (j - a)).flatMap insSrcs)) v wr)) (fun _ i _ => bb - (RowKit.intOf i).toNat)
        case atStart => exact ⟨a, Nat.le_refl _, HAB.out.1, rfl, Lib.hid (by rw [Nat.sub_self, List.take_zero, List.flatMap_nil, List.append_nil]; exact HG5.out)⟩
        case round =>
          obtain ⟨j, haj, hjb, rfl, HG⟩ := hrel
          obtain ⟨va, vc, hv⟩ := irow_shape HG.out.row
          subst hv
          have HFw : Hid (Fr [] w wr) := Lib.hid (HF3.out.trans (HF0.out.trans HG.out.fr))
          have hbx := (HF0.out.trans HG.out.fr).heap (by simp) HB3.out
          have b0 := cell_of_heap (o := 0) hbx rfl; have b1 := cell_of_heap (o := 1) hbx rfl; have b2 := cell_of_heap (o := 2) hbx rfl; have b3 := cell_of_heap (o := 3) hbx rfl; have b4 := cell_of_heap (o := 4) hbx rfl; have b5 := cell_of_heap (o := 5) hbx rfl; have b6 := cell_of_heap (o := 6) hbx rfl; have b7 := cell_of_heap (o := 7) hbx rfl; have b8 := cell_of_heap (o := 8) hbx rfl; have b9 := cell_of_heap (o := 9) hbx rfl
          have hl2 := lt_of_heap hbx
          have HBX := Lib.hid hbx
          clear hbx
          obtain ⟨x0, x1⟩ := HD.out wr HFw.out
          have hgs5 := World.block_lt_of_cell? wr _ x0
          by_cases hlt : j < bb
          · obtain ⟨i, hi⟩ : ∃ i, co[j]? = some i := ⟨_, List.getElem?_eq_getElem (by have h1 := HAB.out; have h2 := HCL.out; omega)⟩
            obtain ⟨⟨g, o, hca, c0, c1, c2, c3, c4, c5, c6⟩, -⟩ := (HAC.out.fr HFw.out) j i hi
            have hrd := fun W (hF : Fr [] wr W) => HRD.out W (HFw.out.trans hF) j i hi
            have hL : ml' ++ ((co.drop a).take (j + 1 - a)).flatMap insSrcs = (ml' ++ ((co.drop a).take (j - a)).flatMap insSrcs) ++ insSrcs i := by
              rw [show j + 1 - a = (j - a) + 1 by omega, take_snoc (l := co.drop a) (k := j - a) (s := i) (by rw [List.getElem?_drop, show a + (j - a) = j by omega]; exact hi), List.flatMap_append]
              simp
            have hsm := flat_small ((co.drop a).take (j - a)) (fun x hx => HCO.out x ((List.drop_sublist _ _).mem ((List.take_sublist _ _).mem hx)))
            have hsm1 := ins_small (HCO.out i (List.mem_of_getElem? hi))
            have hjs : ((co.drop a).take (j - a)).length ≤ 1048576 := by
              have h1 := List.length_take_le (j - a) (co.drop a)
              have h2 := HNC.out
              have h3 := HAB.out
              omega
            obtain ⟨L, hLL⟩ : ∃ L, L = ml' ++ ((co.drop a).take (j - a)).flatMap insSrcs := ⟨_, rfl⟩
            have hLs : L.length ≤ 6291500 := by rw [hLL, List.length_append]; omega
            rw [← hLL] at HG hL ⊢
            have HL := Lib.hid hL
            have HWR := Lib.hid (fun W => ir_Writes i W)
            have hq0 : (0 : Int) ≤ (j : Int) := by omega
            have hq1 : (j : Int) < (cl : Int) := by have h1 := HAB.out; omega
            have hq2 : (j : Int) < (bb : Int) := by omega
            have hbb : bb ≤ 1048576 := by have h1 := HAB.out; have h2 := HNC.out; omega
            have HLS := Lib.hid hLs
            have HS1 := Lib.hid hsm1
            have hij := Lib.hid hi
            clear hL hLL hsm hjs hLs hsm1 hi hlt
            subst hca
            have hg : g < wr.heap.size := World.block_lt_of_cell? wr _ c0
            cases hlv : lvs i.op
            · have hins : insSrcs i = i.l.filter plc := by unfold insSrcs; rw [if_neg (by simp [hlv]), List.append_nil]
              have hws : wrS i = zeroS := by unfold wrS; rw [if_neg (by simp [hlv])]
              rw [hins] at HL HS1
              rw [hlv, hws] at HWR
              have HBD : Hid (L.length + (i.l.filter plc).length ≤ 5864062014805) := Lib.hid (by have h1 := HLS.out; have h2 := HS1.out; omega)
              generalize i.l.filter plc = fl at *
              obtain ⟨op, nn, ⟨dk, dn, dw⟩, la, l, lc, xx⟩ := i
              unfold Ii.v at hrd HWR
              unfold Sr.v zeroS at HWR
              dsimp only at hrd HWR c0 c1 c2 c3 c4 c5 c6
              clear hlv hins hws HS1
              go_wp2_with (first
                | (go_at_call 13; refine (hrd _ (by (repeat (first | (with_reducible refine Fr.setCell ?_ (fun h => absurd h (Nat.lt_irrefl _)) _) | (with_reducible refine Fr.setCell ?_ (fun h => absurd h (by first | omega | (simp; done) | (simp; omega) | (dsimp only; omega))) _) | (with_reducible refine Fr.alloc ?_ _) | (with_reducible refine Fr.drew ?_) | (with_reducible refine Fr.drewN ?_ _) | (with_reducible exact Fr.refl _ _))))).mono ?_; rintro e w6 ⟨v6, rfl, hG6⟩; have hF6 := hG6.fr; obtain ⟨ra, rc, hra⟩ := irow_shape hG6.row; subst hra; have hap := app_srcs (HG.out.fr' hF6) ra rc (srcs_of_row hG6.row) (slok_of hG6) HBD.out 54; obtain ⟨v7, w7, hr7, hG7⟩ := hap; obtain ⟨v7a, v7c, hv7⟩ := irow_shape hG7.row; subst hv7; have HG7 := Lib.hid hG7; have HF7 : Hid (Fr [] w w7) := Lib.hid (HF3.out.trans (HF0.out.trans hG7.fr)); have hb7 := (HF0.out.trans hG7.fr).heap (by simp) HB3.out; have hi7 := (HAC.out.fr HF7.out) j _ hij.out; obtain ⟨⟨g7, o7, hca7, d0, d1, d2, d3, d4, d5, d6⟩, -⟩ := hi7; cases hca7; clear hG6 hG7)
                | (at_builtin; refine Lib.wpList_append_run _ rfl (.tmp 66) (.tmp 72) 54 54 rfl _ _ rfl rfl _ w7 hr7 ?_; clear b0 b1 b2 b3 b4 b5 b6 b7 b8 b9 hl2 hr7; have b0 := cell_of_heap (o := 0) hb7 rfl; have b1 := cell_of_heap (o := 1) hb7 rfl; have b2 := cell_of_heap (o := 2) hb7 rfl; have b3 := cell_of_heap (o := 3) hb7 rfl; have b4 := cell_of_heap (o := 4) hb7 rfl; have b5 := cell_of_heap (o := 5) hb7 rfl; have b6 := cell_of_heap (o := 6) hb7 rfl; have b7 := cell_of_heap (o := 7) hb7 rfl; have b8 := cell_of_heap (o := 8) hb7 rfl; have b9 := cell_of_heap (o := 9) hb7 rfl; have hl2 := lt_of_heap hb7; have hg7 := World.block_lt_of_cell? w7 _ d0; (try dsimp only at d0 d1 d2 d3 d4 d5 d6); clear hb7)
                | (go_at_call 14; refine (HWR.out _).mono ?_; rintro e w8 ⟨rfl, hF⟩; have HF8 : Hid (Fr [] w7 w8) := Lib.hid (Fr.trans (by (repeat (first | (with_reducible refine Fr.setCell ?_ (fun h => absurd h (Nat.lt_irrefl _)) _) | (with_reducible refine Fr.setCell ?_ (fun h => absurd h (by first | omega | (simp; done) | (simp; omega) | (dsimp only; omega))) _) | (with_reducible refine Fr.alloc ?_ _) | (with_reducible refine Fr.drew ?_) | (with_reducible refine Fr.drewN ?_ _) | (with_reducible exact Fr.refl _ _)))) hF); clear hF))
              go_roundw
              case rel => exact ⟨j + 1, by omega, by omega, by go_num, Lib.hid (by rw [HL.out]; have h9 := HG7.out.fr' (HF8.out.alloc (.cells #[.int .i64 0, .int .i64 0, .int .u64 0] 57)); rw [List.length_append] at h9 ⊢; exact h9)⟩
              case measure => simp [RowKit.intOf]; omega
            · have hins : insSrcs i = i.l.filter plc ++ [i.d] := by unfold insSrcs; rw [if_pos hlv]
              have hws : wrS i = i.d := by unfold wrS; rw [if_pos hlv]
              rw [hins] at HL HS1
              rw [hlv, hws] at HWR
              have HBD : Hid (L.length + (i.l.filter plc).length ≤ 5864062014805) := Lib.hid (by have h1 := HLS.out; have h2 := HS1.out; rw [List.length_append] at h2; omega)
              have HBE : Hid ((L ++ i.l.filter plc).length + ([i.d] : List Sr).length ≤ 5864062014805) := Lib.hid (by have h1 := HLS.out; have h2 := HS1.out; rw [List.length_append] at h2 ⊢; omega)
              generalize i.l.filter plc = fl at *
              obtain ⟨op, nn, ⟨dk, dn, dw⟩, la, l, lc, xx⟩ := i
              unfold Ii.v at hrd HWR
              unfold Sr.v at HWR
              dsimp only at hrd HWR HL HBE c0 c1 c2 c3 c4 c5 c6
              clear hlv hins hws HS1
              go_wp2_with (first
                | (go_at_call 13; refine (hrd _ (by (repeat (first | (with_reducible refine Fr.setCell ?_ (fun h => absurd h (Nat.lt_irrefl _)) _) | (with_reducible refine Fr.setCell ?_ (fun h => absurd h (by first | omega | (simp; done) | (simp; omega) | (dsimp only; omega))) _) | (with_reducible refine Fr.alloc ?_ _) | (with_reducible refine Fr.drew ?_) | (with_reducible refine Fr.drewN ?_ _) | (with_reducible exact Fr.refl _ _))))).mono ?_; rintro e w6 ⟨v6, rfl, hG6⟩; have hF6 := hG6.fr; obtain ⟨ra, rc, hra⟩ := irow_shape hG6.row; subst hra; have hap := app_srcs (HG.out.fr' hF6) ra rc (srcs_of_row hG6.row) (slok_of hG6) HBD.out 54; obtain ⟨v7, w7, hr7, hG7⟩ := hap; obtain ⟨v7a, v7c, hv7⟩ := irow_shape hG7.row; subst hv7; have HG7 := Lib.hid hG7; have HF7 : Hid (Fr [] w w7) := Lib.hid (HF3.out.trans (HF0.out.trans hG7.fr)); have hb7 := (HF0.out.trans hG7.fr).heap (by simp) HB3.out; have hi7 := (HAC.out.fr HF7.out) j _ hij.out; obtain ⟨⟨g7, o7, hca7, d0, d1, d2, d3, d4, d5, d6⟩, -⟩ := hi7; cases hca7; clear hG6 hG7)
                | (at_builtin; refine Lib.wpList_append_run _ rfl (.tmp 66) (.tmp 72) 54 54 rfl _ _ rfl rfl _ w7 hr7 ?_; clear b0 b1 b2 b3 b4 b5 b6 b7 b8 b9 hl2 hr7; have b0 := cell_of_heap (o := 0) hb7 rfl; have b1 := cell_of_heap (o := 1) hb7 rfl; have b2 := cell_of_heap (o := 2) hb7 rfl; have b3 := cell_of_heap (o := 3) hb7 rfl; have b4 := cell_of_heap (o := 4) hb7 rfl; have b5 := cell_of_heap (o := 5) hb7 rfl; have b6 := cell_of_heap (o := 6) hb7 rfl; have b7 := cell_of_heap (o := 7) hb7 rfl; have b8 := cell_of_heap (o := 8) hb7 rfl; have b9 := cell_of_heap (o := 9) hb7 rfl; have hl2 := lt_of_heap hb7; have hg7 := World.block_lt_of_cell? w7 _ d0; (try dsimp only at d0 d1 d2 d3 d4 d5 d6); clear hb7)
                | (go_at_call 14; refine (HWR.out _).mono ?_; rintro e w8 ⟨rfl, hF⟩; have HF8 : Hid (Fr [] w7 w8) := Lib.hid (Fr.trans (by (repeat (first | (with_reducible refine Fr.setCell ?_ (fun h => absurd h (Nat.lt_irrefl _)) _) | (with_reducible refine Fr.setCell ?_ (fun h => absurd h (by first | omega | (simp; done) | (simp; omega) | (dsimp only; omega))) _) | (with_reducible refine Fr.alloc ?_ _) | (with_reducible refine Fr.drew ?_) | (with_reducible refine Fr.drewN ?_ _) | (with_reducible exact Fr.refl _ _)))) hF); have hap9 := app_srcs (HG7.out.fr' ((HF8.out.alloc (.cells #[.int .i64 dk, .int .i64 dn, .int .u64 dw] 57)).alloc (.cells #[.int .i64 dk, .int .i64 dn, .int .u64 dw] 57))) (some ⟨w8.heap.size + 1, 0, none⟩) 1 (srcs_one2 w8 (.cells #[.int .i64 dk, .int .i64 dn, .int .u64 dw] 57) ⟨dk, dn, dw⟩) (slok_one _) HBE.out 54; obtain ⟨v9, w9, hr9, hG9⟩ := hap9; rw [List.length_append] at hr9; obtain ⟨v9a, v9c, hv9⟩ := irow_shape hG9.row; subst hv9; have HG9 := Lib.hid hG9; clear hF hG9)
                | (at_builtin; refine Lib.wpList_append_run _ rfl (.tmp 84) (.tmp 86) 54 54 rfl _ _ rfl rfl _ w9 hr9 ?_; clear hr9))
              go_roundw
              case rel => exact ⟨j + 1, by omega, by omega, by go_num, Lib.hid (by rw [HL.out, ← List.append_assoc]; have h9 := HG9.out; simp only [List.length_append, List.length_cons, List.length_nil, Nat.add_assoc, Nat.zero_add] at h9 ⊢; exact h9)⟩
              case measure => simp [RowKit.intOf]; omega
          · have hke : j = bb := by omega
            have hkd : ¬ (j : Int) < (bb : Int) := by omega
            have HAG : Hid (IGrows W0 57 3 (al pc).length (flatS (al pc)) (.slice va (al pc).length vc) wr) := Lib.hid (by rw [HALP.out, ← HMLL.out, ← hke]; exact HG.out)
            have hnn : (ml' ++ ((co.drop a).take (j - a)).flatMap insSrcs).length = (al pc).length := by rw [HALP.out, ← HMLL.out, ← hke]
            rw [hnn]
            obtain ⟨n, hn⟩ : ∃ n, n = (al pc).length := ⟨_, rfl⟩
            rw [← hn] at HAG ⊢
            have HN9 := Lib.hid hn
            have HSA : Hid (SrcsAt wr va (al pc)) := Lib.hid (by have h9 := HAG.out.row; exact srcs_of_row (n := n) h9)
            have hn8 : n ≤ 5864062014805 := by
              have h1 := List.length_take_le (j - a) (co.drop a)
              have h3 := flat_small ((co.drop a).take (j - a)) (fun x hx => HCO.out x ((List.drop_sublist _ _).mem ((List.take_sublist _ _).mem hx)))
              have h4 := HAB.out
              have h5 := HNC.out
              rw [hn, ← hnn, List.length_append]
              omega
            obtain ⟨W1, hW1⟩ : ∃ W1, W1 = wr := ⟨_, rfl⟩
            have HW1 := Lib.hid hW1
            have HF1 : Hid (Fr [] w3 W1) := Lib.hid (by rw [hW1]; exact HF0.out.trans HG.out.fr)
            rw [← hW1] at HSA
            clear hW1 hn hnn hke hlt HAG
            go_wp2_with fail
            clear b0 b1 b2 b3 b4 b5 b6 b7 b8 b9 hl2 x0 x1 hgs5 HBX
            go_loopw [11] (fun z wr => ∃ i : Nat, i ≤ n ∧ z = .int .i64 i ∧ Hid (Fr [] W1 wr)) (fun z _ => n - (RowKit.intOf z).toNat)
            case atStart => exact ⟨0, Nat.zero_le _, rfl, Lib.hid (by rw [HW1.out]; exact Fr.refl _ _)⟩
            case round =>
              obtain ⟨i, hi, rfl, HFi⟩ := hrel
              by_cases hlt : i < n
              · obtain ⟨s, hs⟩ : ∃ s, (al pc)[i]? = some s := ⟨_, List.getElem?_eq_getElem (by rw [← HN9.out]; exact hlt)⟩
                obtain ⟨g, o, hva, c0, c1, c2⟩ := (HSA.out.fr HFi.out) i s hs
                have hg : g < wr.heap.size := World.block_lt_of_cell? wr _ c0
                have r0 : (0 : Int) ≤ (i : Int) := by omega
                have r1 : (i : Int) < (n : Int) := by omega
                have hix := fun h0 => HINP.out s (List.mem_of_getElem? hs) h0
                have hof := HOF.out wr a3 c3 s.n (HI3.out.fr (HF1.out.trans HFi.out))
                obtain ⟨sk, sn, sw⟩ := s
                dsimp only at hix hof c0 c1 c2
                have HVA := Lib.hid hva
                by_cases h0 : sk = 0
                · subst h0
                  obtain ⟨f, t, hfl, hfp, hpt⟩ := hix rfl
                  rw [hfl] at hof
                  unfold ofV ivA at hof
                  dsimp only at hof
                  have z1 : ¬ (pc : Int) < (f : Int) := by omega
                  have z2 : ¬ (pc : Int) > (t : Int) := by omega
                  have HPT : Hid (f ≤ pc ∧ pc ≤ t) := Lib.hid ⟨hfp, hpt⟩
                  clear hix hs hfl hlt
                  subst hva
                  go_wp2_with (go_at_call 15; refine hof.mono ?_; rintro e w6 ⟨rfl, hF⟩; have HF6 : Hid (Fr [] wr w6) := Lib.hid hF; clear hF)
                  have z3 : decide (pc < f) = false := by simp; omega
                  have z4 : decide (t < pc) = false := by simp; omega
                  simp only [z3, z4, Bool.or_self]
                  obtain ⟨W2, hW2⟩ : ∃ W2, W2 = w6.alloc (.cells #[.int .i64 sn, .int .i64 f, .int .i64 t] 63) := ⟨_, rfl⟩
                  rw [← hW2]
                  have HBX2 : Hid (W2.heap[w6.heap.size]? = some (.cells #[.int .i64 sn, .int .i64 f, .int .i64 t] 63 (0, 0))) := Lib.hid (by rw [hW2]; exact heap_new _ _)
                  have HF2w : Hid (Fr [] w3 W2) := Lib.hid (by rw [hW2]; exact (HF1.out.trans (HFi.out.trans HF6.out)).alloc _)
                  have HF1w : Hid (Fr [] W1 W2) := Lib.hid (by rw [hW2]; exact (HFi.out.trans HF6.out).alloc _)
                  clear hW2
                  go_loopw [14] (fun z wr => ∃ k : Nat, k ≤ i ∧ z = .int .i64 k ∧ Hid (Fr [] W2 wr)) (fun z _ => i - (RowKit.intOf z).toNat)
                  case atStart => exact ⟨0, Nat.zero_le _, rfl, Lib.hid (Fr.refl _ _)⟩
                  case round =>
                    obtain ⟨k, hk, rfl, HFk⟩ := hrel
                    by_cases hlt : k < i
                    · obtain ⟨s2, hs2⟩ : ∃ s, (al pc)[k]? = some s := ⟨_, List.getElem?_eq_getElem (by rw [← HN9.out]; exact Nat.lt_of_lt_of_le hlt hi)⟩
                      have HF1k : Hid (Fr [] W1 wr) := Lib.hid (HF1w.out.trans HFk.out)
                      obtain ⟨g2, o2, hva2, d0, d1, d2⟩ := (HSA.out.fr HF1k.out) k s2 hs2
                      cases hva2
                      have hg2 : g < wr.heap.size := World.block_lt_of_cell? wr _ d0
                      have r0 : (0 : Int) ≤ (k : Int) := by omega
                      have r1 : (k : Int) < (n : Int) := by omega
                      have r2 : (k : Int) < (i : Int) := by omega
                      have hix2 := fun h0 => HINP.out s2 (List.mem_of_getElem? hs2) h0
                      have hof2 := HOF.out wr a3 c3 s2.n (HI3.out.fr (HF2w.out.trans HFk.out))
                      have b0 := HFk.out.heap (by simp) HBX2.out
                      have hl2 := lt_of_heap b0
                      obtain ⟨sk2, sn2, sw2⟩ := s2
                      dsimp only at hix2 hof2 d0 d1 d2
                      by_cases h02 : sk2 = 0
                      · subst h02
                        obtain ⟨f2, t2, hfl2, hfp2, hpt2⟩ := hix2 rfl
                        rw [hfl2] at hof2
                        unfold ofV ivA at hof2
                        dsimp only at hof2
                        have hmt := meet_at HPT.out.1 HPT.out.2 hfp2 hpt2
                        have hme := fun W => lv_Meet sn f t sn2 f2 t2 W
                        unfold ivA at hme
                        rw [hmt] at hme
                        clear hix2 hfl2 hlt hmt
                        go_wp2_with (first
                          | (go_at_call 15; refine hof2.mono ?_; rintro e w8 ⟨rfl, hF⟩; have HF8 : Hid (Fr [] wr w8) := Lib.hid hF; have b8 := hF.heap (by simp) b0; have hl8 := lt_of_heap b8; clear b0; have b0 := cell_of_heap (o := 0) b8 rfl; have b1 := cell_of_heap (o := 1) b8 rfl; have b2 := cell_of_heap (o := 2) b8 rfl; clear b8; obtain ⟨g9, o9, e9, x0, x1, x2⟩ := (HSA.out.fr (HF1k.out.trans hF)) k _ hs2; (try dsimp only at x0 x1 x2); cases e9; have hg8 : g < w8.heap.size := World.block_lt_of_cell? w8 _ x0; clear hl2 hF d0 d1 d2 hg2)
                          | (go_at_call 16; refine (hme _).mono ?_; rintro e w9 ⟨rfl, hF⟩; have HF9 := Lib.hid hF; clear hF))
                        go_roundw
                        case rel => exact ⟨k + 1, by omega, by go_num, Lib.hid (HFk.out.trans (HF8.out.trans (((Fr.refl _ _).alloc _).trans HF9.out)))⟩
                        case measure => simp [RowKit.intOf]; omega
                      · have z2 : (sk2 == 0) = false := by simp [h02]
                        clear hix2 hlt
                        cases ofL iv sn2 with
                        | none =>
                          unfold ofV ivA at hof2
                          (try dsimp only at hof2)
                          go_wp2_with (first
                            | (go_at_call 15; refine hof2.mono ?_; rintro e w8 ⟨rfl, hF⟩; have HF8 : Hid (Fr [] wr w8) := Lib.hid hF; have b8 := hF.heap (by simp) b0; have hl8 := lt_of_heap b8; clear b0; obtain ⟨g9, o9, e9, x0, x1, x2⟩ := (HSA.out.fr (HF1k.out.trans hF)) k _ hs2; (try dsimp only at x0 x1 x2); cases e9; have hg8 : g < w8.heap.size := World.block_lt_of_cell? w8 _ x0; clear hl2 hF d0 d1 d2 hg2))
                          all_goals first
                            | (refine ⟨⟨k + 1, by omega, by go_num, Lib.hid (by (repeat (first | (with_reducible refine Fr.setCell ?_ (fun h => absurd h (Nat.lt_irrefl _)) _) | (with_reducible refine Fr.setCell ?_ (fun h => absurd h (by first | omega | (simp; done) | (simp; omega) | (dsimp only; omega))) _) | (with_reducible refine Fr.alloc ?_ _) | (with_reducible refine Fr.drew ?_) | (with_reducible refine Fr.drewN ?_ _) | (with_reducible exact (HFk.out.trans HF8.out)))))⟩, ?_⟩; simp [RowKit.intOf]; omega)
                            | (go_roundw; (case rel => exact ⟨k + 1, by omega, by go_num, Lib.hid (by (repeat (first | (with_reducible refine Fr.setCell ?_ (fun h => absurd h (Nat.lt_irrefl _)) _) | (with_reducible refine Fr.setCell ?_ (fun h => absurd h (by first | omega | (simp; done) | (simp; omega) | (dsimp only; omega))) _) | (with_reducible refine Fr.alloc ?_ _) | (with_reducible refine Fr.drew ?_) | (with_reducible refine Fr.drewN ?_ _) | (with_reducible exact (HFk.out.trans HF8.out)))))⟩); (case measure => simp [RowKit.intOf]; omega))
                        | some p2 =>
                          obtain ⟨p2v, p2f, p2t⟩ := p2
                          unfold ofV ivA at hof2
                          (try dsimp only at hof2)
                          go_wp2_with (first
                            | (go_at_call 15; refine hof2.mono ?_; rintro e w8 ⟨rfl, hF⟩; have HF8 : Hid (Fr [] wr w8) := Lib.hid hF; have b8 := hF.heap (by simp) b0; have hl8 := lt_of_heap b8; clear b0; obtain ⟨g9, o9, e9, x0, x1, x2⟩ := (HSA.out.fr (HF1k.out.trans hF)) k _ hs2; (try dsimp only at x0 x1 x2); cases e9; have hg8 : g < w8.heap.size := World.block_lt_of_cell? w8 _ x0; clear hl2 hF d0 d1 d2 hg2))
                          all_goals first
                            | (refine ⟨⟨k + 1, by omega, by go_num, Lib.hid (by (repeat (first | (with_reducible refine Fr.setCell ?_ (fun h => absurd h (Nat.lt_irrefl _)) _) | (with_reducible refine Fr.setCell ?_ (fun h => absurd h (by first | omega | (simp; done) | (simp; omega) | (dsimp only; omega))) _) | (with_reducible refine Fr.alloc ?_ _) | (with_reducible refine Fr.drew ?_) | (with_reducible refine Fr.drewN ?_ _) | (with_reducible exact (HFk.out.trans HF8.out)))))⟩, ?_⟩; simp [RowKit.intOf]; omega)
                            | (go_roundw; (case rel => exact ⟨k + 1, by omega, by go_num, Lib.hid (by (repeat (first | (with_reducible refine Fr.setCell ?_ (fun h => absurd h (Nat.lt_irrefl _)) _) | (with_reducible refine Fr.setCell ?_ (fun h => absurd h (by first | omega | (simp; done) | (simp; omega) | (dsimp only; omega))) _) | (with_reducible refine Fr.alloc ?_ _) | (with_reducible refine Fr.drew ?_) | (with_reducible refine Fr.drewN ?_ _) | (with_reducible exact (HFk.out.trans HF8.out)))))⟩); (case measure => simp [RowKit.intOf]; omega))
                    · have hke : k = i := by omega
                      have hkd : ¬ (k : Int) < (i : Int) := by omega
                      go_wp2_with fail
                      go_roundw
                      case rel => exact ⟨i + 1, by omega, by go_num, Lib.hid (HF1w.out.trans HFk.out)⟩
                      case measure => simp [RowKit.intOf]; omega
                · have z1 : (sk != 0) = true := by simp [h0]
                  clear hix hs hof hlt
                  subst hva
                  go_wp2_with fail
                  go_roundw
                  case rel => exact ⟨i + 1, by omega, by go_num, Lib.hid (by (repeat (first | (with_reducible refine Fr.setCell ?_ (fun h => absurd h (Nat.lt_irrefl _)) _) | (with_reducible refine Fr.setCell ?_ (fun h => absurd h (by first | omega | (simp; done) | (simp; omega) | (dsimp only; omega))) _) | (with_reducible refine Fr.alloc ?_ _) | (with_reducible refine Fr.drew ?_) | (with_reducible refine Fr.drewN ?_ _) | (with_reducible exact HFi.out))))⟩
                  case measure => simp [RowKit.intOf]; omega
              · have hie : i = n := by omega
                have hkd : ¬ (i : Int) < (n : Int) := by omega
                go_wp2_with fail
                go_roundw
                case rel => exact ⟨pc + 1, by omega, by go_num, Lib.hid (HF1.out.trans HFi.out)⟩
                case measure => simp [RowKit.intOf]; omega
      · have hpe : pc = ml := by omega
        have hkd : ¬ (pc : Int) < (ml : Int) := by omega
        have hi8 := HI8.out
        go_wp2_with fail
        clear b0 b1 b2 b3 b4 b5 b6 b7 b8 b9 hl2
        go_loopw [17] (fun z wr => ∃ k : Nat, k ≤ il ∧ z = .int .i64 k ∧ Hid (Fr [] w3 wr)) (fun z _ => il - (RowKit.intOf z).toNat)
        case atStart => exact ⟨0, Nat.zero_le _, rfl, HF⟩
        case round =>
          obtain ⟨k, hk, rfl, HFk⟩ := hrel
          have hbx := HFk.out.heap (by simp) HB3.out
          have b0 := cell_of_heap (o := 0) hbx rfl; have b1 := cell_of_heap (o := 1) hbx rfl; have b2 := cell_of_heap (o := 2) hbx rfl; have b3 := cell_of_heap (o := 3) hbx rfl; have b4 := cell_of_heap (o := 4) hbx rfl; have b5 := cell_of_heap (o := 5) hbx rfl; have b6 := cell_of_heap (o := 6) hbx rfl; have b7 := cell_of_heap (o := 7) hbx rfl; have b8 := cell_of_heap (o := 8) hbx rfl; have b9 := cell_of_heap (o := 9) hbx rfl
          have hl2 := lt_of_heap hbx
          clear hbx
          by_cases hlt : k < il
          · obtain ⟨⟨v, f, t⟩, hv⟩ : ∃ p, iv[k]? = some p := ⟨_, List.getElem?_eq_getElem (by rw [← HIL.out]; exact hlt)⟩
            obtain ⟨hft, htm⟩ := HIO.out k v f t hv
            obtain ⟨g, o, ha3, c0, c1, c2⟩ := (HI3.out.fr HFk.out) k v f t hv
            have hg := World.block_lt_of_cell? wr _ c0
            have r0 : (0 : Int) ≤ (k : Int) := by omega
            have r1 : (k : Int) < (il : Int) := by omega
            have z1 : decide (t < f) = false := by simp; omega
            have z2 : decide ((f : Int) < 0) = false := by simp
            have z3 : decide (ml ≤ t) = false := by simp; omega
            have y1 : decide ((f : Int) > (t : Int)) = false := by simp; omega
            have y3 : decide ((t : Int) ≥ (ml : Int)) = false := by simp; omega
            cases k with
            | zero =>
              subst ha3
              clear hv
              go_wp2_with fail
              go_quiet (fail)
              go_wp2_with fail
              go_roundw
              case rel => exact ⟨1, by omega, by go_num, Lib.hid (by (repeat (first | (with_reducible refine Fr.setCell ?_ (fun h => absurd h (Nat.lt_irrefl _)) _) | (with_reducible refine Fr.setCell ?_ (fun h => absurd h (by first | omega | (simp; done) | (simp; omega) | (dsimp only; omega))) _) | (with_reducible refine Fr.alloc ?_ _) | (with_reducible refine Fr.drew ?_) | (with_reducible refine Fr.drewN ?_ _) | (with_reducible exact HFk.out))))⟩
              case measure => simp [RowKit.intOf]; omega
            | succ k' =>
              obtain ⟨⟨v', f', t'⟩, hv'⟩ : ∃ p, iv[k']? = some p := ⟨_, List.getElem?_eq_getElem (by rw [← HIL.out]; omega)⟩
              have hvv := HIU.out k' v' f' t' v f t hv' hv
              obtain ⟨g', o', ha4, d0, d1, d2⟩ := (HI3.out.fr HFk.out) k' v' f' t' hv'
              subst ha3
              cases ha4
              have e1 : IntKind.i64.wrap (((k' + 1 : Nat) : Int) - 1) = (k' : Int) := by rw [show ((k' + 1 : Nat) : Int) - 1 = (k' : Int) by omega]; exact IntWalk.i64_in _ (by omega)
              have p0 : (0 : Int) ≤ (k' : Int) := by omega
              have p1 : (k' : Int) < (il : Int) := by omega
              have y4 : decide (v ≤ v') = false := by simp; omega
              have y5 : decide (((k' + 1 : Nat) : Int) > 0) = true := by simp
              have y6 : decide (0 < k' + 1) = true := by simp
              have y7 : decide (v' ≥ v) = false := by simp; omega
              clear hv hv'
              go_wp2_with fail
              go_quiet (fail)
              go_wp2_with fail
              go_roundw
              case rel => exact ⟨k' + 1 + 1, by omega, by go_num, Lib.hid (by (repeat (first | (with_reducible refine Fr.setCell ?_ (fun h => absurd h (Nat.lt_irrefl _)) _) | (with_reducible refine Fr.setCell ?_ (fun h => absurd h (by first | omega | (simp; done) | (simp; omega) | (dsimp only; omega))) _) | (with_reducible refine Fr.alloc ?_ _) | (with_reducible refine Fr.drew ?_) | (with_reducible refine Fr.drewN ?_ _) | (with_reducible exact HFk.out))))⟩
              case measure => simp [RowKit.intOf]; omega
          · have hke : k = il := by omega
            have hkd : ¬ (k : Int) < (il : Int) := by omega
            go_wp2_with fail
            go_ret
            exact ⟨rfl, HF3.out.trans HFk.out⟩
  · have HL2 : Hid (∀ W, Fr [] w W → Calls Tryz.prog 12 #[u.v] W (Still (.tuple #[.slice none 0 0, .int .i64 1]) W)) := Lib.hid fun W hF => (HL.out W hF).mono (by
      rintro e w' ⟨h1, ⟨hn, -⟩ | ⟨-, he⟩⟩
      · rw [hok] at hn; cases hn
      · exact ⟨he, h1⟩)
    have HC2 : Hid (∀ W, Fr [] w W → Calls Tryz.prog 7 #[u.v] W (Still (.int .i64 1) W)) := Lib.hid fun W hF => by
      have h := HC.out W hF
      unfold errU at h
      rw [if_neg (by rw [hok]; simp)] at h
      exact h
    clear HL HC hA hB hg hok hN
    obtain ⟨method, args, T, R, P, S, ea, en, ec, ca, co, cc, sa, st, sc, ma, mp, mc⟩ := u
    unfold Un.v at HL2 HC2 ⊢
    simp only at HL2 HC2 ⊢
    generalize en.length = el at *
    generalize co.length = cl at *
    generalize st.length = sl at *
    generalize mp.length = ml at *
    go_enter Tryz.func4, Tryz.ntmps4
    go_wp2_with (first
      | (go_at_call 11; refine (HAW.out _ (by (repeat (first | (with_reducible refine Fr.setCell ?_ (fun h => absurd h (Nat.lt_irrefl _)) _) | (with_reducible refine Fr.setCell ?_ (fun h => absurd h (by first | omega | (simp; done) | (simp; omega) | (dsimp only; omega))) _) | (with_reducible refine Fr.alloc ?_ _) | (with_reducible refine Fr.drew ?_) | (with_reducible refine Fr.drewN ?_ _) | (with_reducible exact Fr.refl _ _))))).mono ?_; rintro e w2 ⟨rfl, hF⟩; have HF2 : Hid (Fr [] w w2) := Lib.hid (Fr.trans (by (repeat (first | (with_reducible refine Fr.setCell ?_ (fun h => absurd h (Nat.lt_irrefl _)) _) | (with_reducible refine Fr.setCell ?_ (fun h => absurd h (by first | omega | (simp; done) | (simp; omega) | (dsimp only; omega))) _) | (with_reducible refine Fr.alloc ?_ _) | (with_reducible refine Fr.drew ?_) | (with_reducible refine Fr.drewN ?_ _) | (with_reducible exact Fr.refl _ _)))) hF); have HB2 := Lib.hid (hF.heap (by simp) (heap_new w _)); have b0 := cell_of_heap (o := 0) HB2.out rfl; have b1 := cell_of_heap (o := 1) HB2.out rfl; have b2 := cell_of_heap (o := 2) HB2.out rfl; have b3 := cell_of_heap (o := 3) HB2.out rfl; have b4 := cell_of_heap (o := 4) HB2.out rfl; have b5 := cell_of_heap (o := 5) HB2.out rfl; have b6 := cell_of_heap (o := 6) HB2.out rfl; have b7 := cell_of_heap (o := 7) HB2.out rfl; have b8 := cell_of_heap (o := 8) HB2.out rfl; have b9 := cell_of_heap (o := 9) HB2.out rfl; have hl2 := lt_of_heap HB2.out; clear hF)
      | (go_at_call 12; refine (HL2.out _ (by (repeat (first | (with_reducible refine Fr.setCell ?_ (fun h => absurd h (Nat.lt_irrefl _)) _) | (with_reducible refine Fr.setCell ?_ (fun h => absurd h (by first | omega | (simp; done) | (simp; omega) | (dsimp only; omega))) _) | (with_reducible refine Fr.alloc ?_ _) | (with_reducible refine Fr.drew ?_) | (with_reducible refine Fr.drewN ?_ _) | (with_reducible exact HF2.out))))).mono ?_; rintro e w3 ⟨rfl, hF⟩; have HF3 : Hid (Fr [] w w3) := Lib.hid (HF2.out.trans hF); have HB3 := Lib.hid (hF.heap (by simp) HB2.out); clear b0 b1 b2 b3 b4 b5 b6 b7 b8 b9 hl2; have b0 := cell_of_heap (o := 0) HB3.out rfl; have b1 := cell_of_heap (o := 1) HB3.out rfl; have b2 := cell_of_heap (o := 2) HB3.out rfl; have b3 := cell_of_heap (o := 3) HB3.out rfl; have b4 := cell_of_heap (o := 4) HB3.out rfl; have b5 := cell_of_heap (o := 5) HB3.out rfl; have b6 := cell_of_heap (o := 6) HB3.out rfl; have b7 := cell_of_heap (o := 7) HB3.out rfl; have b8 := cell_of_heap (o := 8) HB3.out rfl; have b9 := cell_of_heap (o := 9) HB3.out rfl; have hl2 := lt_of_heap HB3.out; clear hF)
      | (go_at_call 7; refine (HC2.out _ (by (repeat (first | (with_reducible refine Fr.setCell ?_ (fun h => absurd h (Nat.lt_irrefl _)) _) | (with_reducible refine Fr.setCell ?_ (fun h => absurd h (by first | omega | (simp; done) | (simp; omega) | (dsimp only; omega))) _) | (with_reducible refine Fr.alloc ?_ _) | (with_reducible refine Fr.drew ?_) | (with_reducible refine Fr.drewN ?_ _) | (with_reducible exact HF3.out))))).mono ?_; rintro e w4 ⟨rfl, hF⟩; have HF4 : Hid (Fr [] w w4) := Lib.hid (HF3.out.trans (Fr.trans (by (repeat (first | (with_reducible refine Fr.setCell ?_ (fun h => absurd h (Nat.lt_irrefl _)) _) | (with_reducible refine Fr.setCell ?_ (fun h => absurd h (by first | omega | (simp; done) | (simp; omega) | (dsimp only; omega))) _) | (with_reducible refine Fr.alloc ?_ _) | (with_reducible refine Fr.drew ?_) | (with_reducible refine Fr.drewN ?_ _) | (with_reducible exact Fr.refl _ _)))) hF)); clear hF))
    go_ret
    exact ⟨rfl, by (repeat (first | (with_reducible refine Fr.setCell ?_ (fun h => absurd h (Nat.lt_irrefl _)) _) | (with_reducible refine Fr.setCell ?_ (fun h => absurd h (by first | omega | (simp; done) | (simp; omega) | (dsimp only; omega))) _) | (with_reducible refine Fr.alloc ?_ _) | (with_reducible refine Fr.drew ?_) | (with_reducible refine Fr.drewN ?_ _) | (with_reducible exact HF4.out)))⟩
end Go.Proofs.YtomcfjckhajhmabGreatDoor
