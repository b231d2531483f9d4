/- bits.OnesCount32 and bits.TrailingZeros32, at depths. verify's depth: the one with which all paths reach an instruction. verify's checkOperands: whether A and B may be. verify.depths: how deep the stack is ahead of each instruction. -/
import Derived.Test.YtomcfjckhajhmabGreatDoorMVerB
import Derived.Laws.Strings
namespace Go.Proofs.YtomcfjckhajhmabGreatDoor
open Go.RowKit

/-- how many bits each byte has -/
def popTab : ByteArray := { data := ((([0, 1, 1, 2, 1, 2, 2, 3, 1, 2, 2, 3, 2, 3, 3, 4, 1, 2, 2, 3, 2, 3, 3, 4, 2, 3, 3, 4, 3, 4, 4, 5, 1, 2, 2, 3, 2, 3, 3, 4, 2, 3, 3, 4, 3, 4, 4, 5, 2, 3, 3, 4, 3, 4, 4, 5, 3, 4, 4, 5, 4, 5, 5, 6].append [1, 2, 2, 3, 2, 3, 3, 4, 2, 3, 3, 4, 3, 4, 4, 5, 2, 3, 3, 4, 3, 4, 4, 5, 3, 4, 4, 5, 4, 5, 5, 6, 2, 3, 3, 4, 3, 4, 4, 5, 3, 4, 4, 5, 4, 5, 5, 6, 3, 4, 4, 5, 4, 5, 5, 6, 4, 5, 5, 6, 5, 6, 6, 7]).append ([1, 2, 2, 3, 2, 3, 3, 4, 2, 3, 3, 4, 3, 4, 4, 5, 2, 3, 3, 4, 3, 4, 4, 5, 3, 4, 4, 5, 4, 5, 5, 6, 2, 3, 3, 4, 3, 4, 4, 5, 3, 4, 4, 5, 4, 5, 5, 6, 3, 4, 4, 5, 4, 5, 5, 6, 4, 5, 5, 6, 5, 6, 6, 7].append [2, 3, 3, 4, 3, 4, 4, 5, 3, 4, 4, 5, 4, 5, 5, 6, 3, 4, 4, 5, 4, 5, 5, 6, 4, 5, 5, 6, 5, 6, 6, 7, 3, 4, 4, 5, 4, 5, 5, 6, 4, 5, 5, 6, 5, 6, 6, 7, 4, 5, 5, 6, 5, 6, 6, 7, 5, 6, 6, 7, 6, 7, 7, 8]))).toArray }
set_option maxRecDepth 100000 in
theorem popTab_get : ∀ k, k < 256 → popTab.data.toList[k]? = some (UInt8.ofNat (pop8 k)) := by decide +kernel
theorem pop8_le (k : Nat) : pop8 k ≤ 8 := by unfold pop8; omega
set_option maxRecDepth 100000 in
theorem popTab_size : popTab.size = 256 := by decide +kernel
theorem popTab_index (k : Nat) (h : k < 256) (w : World) : (Instr.index 9 (.string popTab) (.int .u32 (k : Int))).run Tryz.prog w = .ok (.int .u8 (pop8 k : Int)) w := by
  have h1 : k < popTab.size := by rw [popTab_size]; exact h
  rw [run_index_string w 9 popTab .u32 k Tryz.underlying9, dif_pos ⟨by omega, by rw [popTab_size]; omega⟩]
  have h2 := popTab_get k h
  have h3 : popTab.data.toList[k]? = some popTab[k] := by rw [List.getElem?_eq_getElem (by simpa using h1)]; rfl
  have h4 : popTab[k] = UInt8.ofNat (pop8 k) := Option.some.inj (h3.symm.trans h2)
  have h5 : (popTab[((k : Int)).toNat]'(by simpa using h1)) = popTab[k] := by congr 1
  rw [h5, h4]
  have := pop8_le k
  simp [UInt8.toNat_ofNat']
  omega
set_option maxRecDepth 100000 in
set_option maxHeartbeats 1600000 in
theorem ones_at (v : Nat) (hv : v < 131072) (w : World) : Calls Tryz.prog 79 #[.int .u32 (v : Int)] w (Still (.int .i64 (pop17 v : Int)) w) := by
  obtain ⟨b2, h2⟩ : ∃ b, b = v / 65536 % 256 := ⟨_, rfl⟩
  obtain ⟨b1, h1⟩ : ∃ b, b = v / 256 % 256 := ⟨_, rfl⟩
  obtain ⟨b0, h0⟩ : ∃ b, b = v % 256 := ⟨_, rfl⟩
  have e24 : (v : Int) / 16777216 = 0 := by omega
  have a16 : bits .and .u32 ((v : Int) / 65536) 255 = (b2 : Int) := by
    rw [show (v : Int) / 65536 = ((v / 65536 : Nat) : Int) by omega, show (255 : Int) = ((255 : Nat) : Int) from rfl, u32_and_nat _ _ (by omega) (by omega), nat_mask8, h2]
  have a8 : bits .and .u32 ((v : Int) / 256) 255 = (b1 : Int) := by
    rw [show (v : Int) / 256 = ((v / 256 : Nat) : Int) by omega, show (255 : Int) = ((255 : Nat) : Int) from rfl, u32_and_nat _ _ (by omega) (by omega), nat_mask8, h1]
  have a0 : bits .and .u32 (v : Int) 255 = (b0 : Int) := by
    rw [show (255 : Int) = ((255 : Nat) : Int) from rfl, u32_and_nat _ _ (by omega) (by omega), nat_mask8, h0]
  have i0 : ∀ w, (Instr.index 9 (.string popTab) (.int .u32 0)).run Tryz.prog w = .ok (.int .u8 0) w := popTab_index 0 (by omega)
  have i2 := popTab_index b2 (by omega)
  have i1 := popTab_index b1 (by omega)
  have i3 := popTab_index b0 (by omega)
  have HR : Hid (pop17 v = pop8 b2 + pop8 b1 + pop8 b0) := Lib.hid (by unfold pop17; rw [h2, h1, h0])
  have p2 := pop8_le b2
  have p1 := pop8_le b1
  have p0 := pop8_le b0
  obtain ⟨x2, hx2⟩ : ∃ x, x = pop8 b2 := ⟨_, rfl⟩
  obtain ⟨x1, hx1⟩ : ∃ x, x = pop8 b1 := ⟨_, rfl⟩
  obtain ⟨x0, hx0⟩ : ∃ x, x = pop8 b0 := ⟨_, rfl⟩
  rw [← hx2] at i2 p2 HR
  rw [← hx1] at i1 p1 HR
  rw [← hx0] at i3 p0 HR
  clear h2 h1 h0 hx2 hx1 hx0
  go_enter Tryz.func79, Tryz.ntmps79
  rw [show ({ data := ((([0, 1, 1, 2, 1, 2, 2, 3, 1, 2, 2, 3, 2, 3, 3, 4, 1, 2, 2, 3, 2, 3, 3, 4, 2, 3, 3, 4, 3, 4, 4, 5, 1, 2, 2, 3, 2, 3, 3, 4, 2, 3, 3, 4, 3, 4, 4, 5, 2, 3, 3, 4, 3, 4, 4, 5, 3, 4, 4, 5, 4, 5, 5, 6].append [1, 2, 2, 3, 2, 3, 3, 4, 2, 3, 3, 4, 3, 4, 4, 5, 2, 3, 3, 4, 3, 4, 4, 5, 3, 4, 4, 5, 4, 5, 5, 6, 2, 3, 3, 4, 3, 4, 4, 5, 3, 4, 4, 5, 4, 5, 5, 6, 3, 4, 4, 5, 4, 5, 5, 6, 4, 5, 5, 6, 5, 6, 6, 7]).append ([1, 2, 2, 3, 2, 3, 3, 4, 2, 3, 3, 4, 3, 4, 4, 5, 2, 3, 3, 4, 3, 4, 4, 5, 3, 4, 4, 5, 4, 5, 5, 6, 2, 3, 3, 4, 3, 4, 4, 5, 3, 4, 4, 5, 4, 5, 5, 6, 3, 4, 4, 5, 4, 5, 5, 6, 4, 5, 5, 6, 5, 6, 6, 7].append [2, 3, 3, 4, 3, 4, 4, 5, 3, 4, 4, 5, 4, 5, 5, 6, 3, 4, 4, 5, 4, 5, 5, 6, 4, 5, 5, 6, 5, 6, 6, 7, 3, 4, 4, 5, 4, 5, 5, 6, 4, 5, 5, 6, 5, 6, 6, 7, 4, 5, 5, 6, 5, 6, 6, 7, 5, 6, 6, 7, 6, 7, 7, 8]))).toArray } : ByteArray) = popTab from rfl]
  go_wp2_with fail
  go_quiet (fail)
  go_wp2_with fail
  go_ret
  exact ⟨ret1 (vi (by rw [HR.out]; omega)), (Fr.refl _ _).drewN _⟩
def dbTab : List Int := [0, 1, 28, 2, 29, 14, 24, 3, 30, 22, 20, 15, 25, 17, 4, 8, 31, 27, 13, 23, 21, 19, 16, 7, 26, 12, 18, 6, 11, 5, 10, 9]
def DbAt (w : World) : Prop := ∀ j x, dbTab[j]? = some x → w.cell? ⟨6, j, none⟩ = some (.int .u8 x)
theorem db_pow : ∀ d : Nat, d < 17 → (2 ^ d &&& (4294967296 - 2 ^ d) = 2 ^ d) ∧ 2 ^ d * 125613361 % 4294967296 / 134217728 < 32 ∧ dbTab[2 ^ d * 125613361 % 4294967296 / 134217728]? = some (d : Int) := by decide +kernel
set_option maxRecDepth 100000 in
set_option maxHeartbeats 1600000 in
theorem zeros_at (d : Nat) (hd : d ≤ 16) (w : World) (hT : DbAt w) : Calls Tryz.prog 80 #[.int .u32 ((2 ^ d : Nat) : Int)] w (Gives (.int .i64 (d : Int)) w) := by
  obtain ⟨h1, h2, h3⟩ := db_pow d (by omega)
  have hp := pow17 hd
  have hp0 : 0 < 2 ^ d := Nat.two_pow_pos d
  obtain ⟨b, hb⟩ : ∃ b, b = 2 ^ d := ⟨_, rfl⟩
  rw [← hb] at h1 h2 h3 hp hp0 ⊢
  obtain ⟨idx, hidx⟩ : ∃ x, x = b * 125613361 % 4294967296 / 134217728 := ⟨_, rfl⟩
  rw [← hidx] at h2 h3
  have hc := hT idx d h3
  have e0 : ((b : Int) == 0) = false := by simp; omega
  have e1 : IntKind.u32.wrap (-(b : Int)) = ((4294967296 - b : Nat) : Int) := by rw [IntKind.wrap_u32']; omega
  obtain ⟨nb, hnb⟩ : ∃ x, x = 4294967296 - b := ⟨_, rfl⟩
  rw [← hnb] at e1
  have e2 : bits .and .u32 (b : Int) (nb : Int) = (b : Int) := by rw [u32_and_nat _ _ (by omega) (by omega), hnb, h1]
  have e3 : IntKind.u32.wrap ((b : Int) * 125613361) = ((b * 125613361 % 4294967296 : Nat) : Int) := by rw [IntKind.wrap_u32']; omega
  obtain ⟨p, hpp⟩ : ∃ x, x = b * 125613361 % 4294967296 := ⟨_, rfl⟩
  rw [← hpp] at e3 hidx
  have e4 : (p : Int) / 134217728 = (idx : Int) := by omega
  have i0 : (0 : Int) ≤ (idx : Int) := by omega
  have i1 : (idx : Int) < 32 := by omega
  have hpb : p < 4294967296 := by omega
  clear hT h1 h3 hb hidx hnb hpp
  go_enter Tryz.func80, Tryz.ntmps80
  go_wp2_with fail
  go_ret
  exact ⟨rfl, rfl⟩
end Go.Proofs.YtomcfjckhajhmabGreatDoor
namespace Go.Proofs.YtomcfjckhajhmabGreatDoor
open Go.RowKit

section
variable {X : List (Nat × Obj)} {w0 W : World} {m : Mth} {la ca : Option Addr} {lc cc pb rb : Nat} {M : List (Nat × Nat)}
def DepthTo (m : Mth) (pc : Nat) (W : World) (e : Ending) (W' : World) : Prop := Fr [] W W' ∧ ((¬ m.bad pc ∧ e = .returned (.tuple #[.int .i64 (m.depthAt pc), .nilIface])) ∨ (m.bad pc ∧ ∃ a, e = .returned (.tuple #[.int .i64 0, .iface 218 (.pointer (some a))])))
theorem DbAt.fr {w w' : World} (h : DbAt w) (hF : Fr [] w w') : DbAt w' := fun j x hj => hF.cell (by simp) (h j x hj)
set_option maxRecDepth 100000 in
set_option maxHeartbeats 3200000 in
theorem depth_at (hok : m.ok = true) (_hop : ∀ i ∈ m.code, m.opOk i = true) (hP : PAt X w0 m la lc ca cc pb rb (M, []) W) (hMW : ∀ pc d, (pc, d) ∈ M ↔ Way m pc d) (hcode : RowAt w0 ca (flatI m.code)) (hE : VErrs w0) (hT : DbAt w0) {pc : Nat} (hpc : pc < m.code.length) :
    Calls Tryz.prog 55 #[.pointer (some ⟨pb, 0, none⟩), .int .i64 (pc : Int)] W (DepthTo m pc W) := by
  have hhd := m.head_iff.1 (m.ok_iff.1 hok).1
  have hn : m.code.length ≤ 128 := by omega
  obtain ⟨i, hi⟩ : ∃ i, m.code[pc]? = some i := ⟨_, List.getElem?_eq_getElem hpc⟩
  have hio := (m.ok_iff.1 hok).2 i (List.mem_of_getElem? hi)
  obtain ⟨pv, R, hMk, hpl, hp⟩ := id hP
  have hR : R[pc]? = some (R.getD pc 0) := by rw [List.getD_eq_getElem?_getD, List.getElem?_eq_getElem (by rw [hMk.len]; exact hpc)]; rfl
  have hway : ∀ d, (R.getD pc 0).testBit d = true ↔ Way m pc d := fun d => (hMk.iff pc d).trans (hMW pc d)
  obtain ⟨v, hv⟩ : ∃ v, v = R.getD pc 0 := ⟨_, rfl⟩
  rw [← hv] at hR hway
  have hvb : v < 131072 := hMk.bd pc v hR
  have c6 : W.cell? ⟨pb, 6, none⟩ = some (.slice (some ⟨rb, 0, none⟩) m.code.length m.code.length) := cell_of_heap hp.box rfl
  have cr : W.cell? ⟨rb, pc, none⟩ = some (.int .u32 (v : Int)) := cell_of_heap hp.marks (by rw [List.getElem?_toArray, List.getElem?_map, hR]; rfl)
  obtain ⟨n, hN⟩ : ∃ n, n = m.code.length := ⟨_, rfl⟩
  rw [← hN] at c6
  have x0 : (0 : Int) ≤ (pc : Int) := by omega
  have x1 : (pc : Int) < (n : Int) := by omega
  have HP := Lib.hid hP
  have HE := Lib.hid hE
  have HNN := Lib.hid hN
  clear hp hMk hpl hv hR hMW hP hE hN
  by_cases hv0 : v = 0
  · subst hv0
    have hno : ¬ ∃ d, Way m pc d := fun ⟨d, h⟩ => by have := (hway d).2 h; simp at this
    have HOUT : Hid (¬ m.bad pc ∧ m.depthAt pc = -1) := Lib.hid ⟨fun hb => by
      rcases hb with ⟨d, e, h, -⟩ | ⟨d, _, h, -⟩
      · exact hno ⟨d, h⟩
      · exact hno ⟨d, h⟩, Mth.depthAt_none hno⟩
    have cr' : W.cell? ⟨rb, pc, none⟩ = some (.int .u32 0) := cr
    clear hway hno cr HP HE hcode hT hok _hop hio hi hhd hn hpc
    go_enter Tryz.func55, Tryz.ntmps55
    go_wp2_with fail
    go_ret2
    exact ⟨Fr.refl _ _, .inl ⟨HOUT.out.1, tup2 (vi HOUT.out.2.symm) rfl⟩⟩
  · have hve : ((v : Int) == 0) = false := by simp [hv0]
    have hon := ones_at v hvb W
    by_cases htwo : 1 < pop17 v
    · obtain ⟨d, e, -, -, hne, t1, t2⟩ := two_pop hvb htwo
      have HBAD : Hid (m.bad pc) := Lib.hid (.inl ⟨d, e, (hway d).1 t1, (hway e).1 t2, hne⟩)
      obtain ⟨ea, hea⟩ := (HE.out.fr HP.out.fr).depths
      obtain ⟨q, hq⟩ : ∃ q, q = pop17 v := ⟨_, rfl⟩
      rw [← hq] at hon htwo
      have hgt : (1 : Int) < (q : Int) := by omega
      clear hway HP HE hcode hT hok _hop hio hi hhd hn hpc hq t1 t2 hne hv0
      go_enter Tryz.func55, Tryz.ntmps55
      go_wp2_with (go_at_call 79; (with_reducible refine hon.mono ?_); rintro e1 w1 ⟨rfl, hF1⟩; have kd := hF1.cell (by simp) hea; have HF1 := Lib.hid hF1; clear hF1)
      go_quiet (fail)
      go_wp2_with fail
      go_ret2
      exact ⟨HF1.out.drewN _, .inr ⟨HBAD.out, ea, rfl⟩⟩
    · obtain ⟨d, hd⟩ := ex_bit hv0
      have hd16 := testBit_lt hvb hd
      have hpow := one_pop hvb htwo hd
      have hw : Way m pc d := (hway d).1 hd
      have huniq : ∀ e, Way m pc e → e = d := fun e he => by
        have h1 := (hway e).2 he
        rw [hpow, Nat.testBit_two_pow] at h1
        exact (by simpa using h1 : d = e).symm
      have hbad : m.bad pc ↔ (m.fine i d = false ∨ (i.goesOn = true ∧ pc + 1 = m.code.length)) := by
        constructor
        · rintro (⟨a, b, ha, hb, hne⟩ | ⟨a, i', ha, hi', h⟩)
          · exact absurd ((huniq a ha).trans (huniq b hb).symm) hne
          · rw [hi] at hi'
            cases hi'
            rw [huniq a ha] at h
            exact h
        · exact fun h => .inr ⟨d, i, hw, hi, h⟩
      have HBAD := Lib.hid hbad
      have HDA : Hid (¬ m.bad pc → m.depthAt pc = d) := Lib.hid fun h => Mth.depthAt_way h hw
      obtain ⟨q, hq⟩ : ∃ q, q = pop17 v := ⟨_, rfl⟩
      rw [← hq] at hon htwo
      have hgt : ¬ (1 : Int) < (q : Int) := by omega
      have HZ := Lib.hid (fun W1 (hF : Fr [] W W1) => zeros_at d hd16 W1 (hT.fr (HP.out.fr.trans hF)))
      rw [← hpow] at HZ
      have HAF := Lib.hid (fun W1 (hF : Fr [] W W1) => after_at (HP.out.still hF) hcode HE.out ⟨show 0 ≤ m.stack by omega, show m.stack ≤ 16 by omega⟩ hi hio hd16)
      have HGO := Lib.hid (fun W => goesOn_at i hio W)
      have HLA := Lib.hid (fun W1 (hF : Fr [] W W1) => isLast_at (HP.out.still hF) hn (by omega) pc)
      have HCO := Lib.hid (fun W1 (hF : Fr [] W W1) => code_at (HP.out.still hF) hcode hi)
      have HBX := Lib.hid (fun W1 (hF : Fr [] W W1) => (HP.out.still hF).box)
      have HEB := Lib.hid (fun W1 (hF : Fr [] W W1) => (HE.out.fr (HP.out.still hF).fr).beyond)
      unfold Ins.v at HGO
      clear hway hbad hq hpow hw huniq hd hcode hT hok _hop hio hi hhd hn hv0 HE
      go_enter Tryz.func55, Tryz.ntmps55
      go_wp2_with (go_at_call 79; (with_reducible refine hon.mono ?_); rintro e1 w1 ⟨rfl, hF1⟩; have HF1 := Lib.hid hF1; have hz := HZ.out w1 hF1; have haf := HAF.out w1 hF1; clear hF1)
      refine hz.mono ?_
      rintro e2 w2 ⟨rfl, rfl⟩
      go_wp2_with fail
      refine haf.mono ?_
      rintro e3 w3 ⟨hF3, ⟨hfi, rfl⟩ | ⟨hfi, ea, rfl⟩⟩
      · have HFI := Lib.hid hfi
        have HF3 := Lib.hid (HF1.out.trans hF3)
        obtain ⟨g, off, hca, q1, q2, q3⟩ := HCO.out w3 HF3.out
        obtain ⟨pv3, hbox⟩ := HBX.out w3 HF3.out
        have k5 : w3.cell? ⟨pb, 5, none⟩ = some (.slice ca m.code.length cc) := cell_of_heap hbox rfl
        rw [hca, ← HNN.out] at k5
        have hgo := HGO.out w3
        clear hF3 hfi hbox hca hz haf
        go_wp2_with fail
        refine hgo.mono ?_
        rintro e4 w4 ⟨rfl, hF4⟩
        have HF4 := Lib.hid (HF3.out.trans hF4)
        have hla := HLA.out w4 HF4.out
        obtain ⟨eb, heb⟩ := HEB.out w4 HF4.out
        obtain ⟨G, hG⟩ : ∃ G, G = i.goesOn := ⟨_, rfl⟩
        rw [← hG]
        have HG := Lib.hid hG
        clear hF4 hgo hG k5 q1 q2 q3
        cases G
        · have HNB : Hid (¬ m.bad pc) := Lib.hid (by rw [HBAD.out, HFI.out, ← HG.out]; simp)
          go_wp2_with fail
          go_ret2
          exact ⟨HF4.out, .inl ⟨HNB.out, tup2 (vi (HDA.out HNB.out).symm) rfl⟩⟩
        · by_cases hlast : pc + 1 = m.code.length
          · have HB : Hid (m.bad pc) := Lib.hid (HBAD.out.2 (.inr ⟨HG.out.symm, hlast⟩))
            rw [decide_eq_true hlast] at hla
            clear hlast
            go_wp2_with (go_at_call 83; (with_reducible refine hla.mono ?_); rintro e5 w5 ⟨rfl, rfl⟩)
            go_quiet (fail)
            go_wp2_with fail
            go_ret2
            exact ⟨HF4.out.drewN _, .inr ⟨HB.out, eb, rfl⟩⟩
          · have HNB : Hid (¬ m.bad pc) := Lib.hid (by rw [HBAD.out, HFI.out, ← HG.out]; simp [hlast])
            rw [decide_eq_false hlast] at hla
            clear hlast
            go_wp2_with (go_at_call 83; (with_reducible refine hla.mono ?_); rintro e5 w5 ⟨rfl, rfl⟩)
            go_ret2
            exact ⟨HF4.out, .inl ⟨HNB.out, tup2 (vi (HDA.out HNB.out).symm) rfl⟩⟩
      · have HB : Hid (m.bad pc) := Lib.hid (HBAD.out.2 (.inl hfi))
        have HF3 := Lib.hid (HF1.out.trans hF3)
        have hnn := ne_nil
        clear hF3 hfi hz haf
        go_wp2_with fail
        go_ret2
        exact ⟨HF3.out, .inr ⟨HB.out, ea, rfl⟩⟩
end
end Go.Proofs.YtomcfjckhajhmabGreatDoor
namespace Go.Proofs.YtomcfjckhajhmabGreatDoor
open Go.RowKit

def BelowTo (n b : Int) (ea : Addr) (w : World) (e : Ending) (w' : World) : Prop := w = w' ∧ ((n < b ∧ e = .returned .nilIface) ∨ (b ≤ n ∧ e = .returned (.iface 218 (.pointer (some ea)))))
theorem below_at (n b : Int) (ea : Addr) (w : World) (h : w.cell? ⟨2, 0, none⟩ = some (.iface 218 (.pointer (some ea)))) : Calls Tryz.prog 76 #[.int .i64 n, .int .i64 b] w (BelowTo n b ea w) := by
  by_cases hlt : n < b
  · have hd : ¬ b ≤ n := by omega
    go_enter Tryz.func76, Tryz.ntmps76
    go_wp2_with fail
    go_ret
    exact ⟨rfl, .inl ⟨hlt, rfl⟩⟩
  · have hd : b ≤ n := by omega
    go_enter Tryz.func76, Tryz.ntmps76
    go_wp2_with fail
    go_ret
    exact ⟨rfl, .inr ⟨hd, rfl⟩⟩
def OpTo (ok : Bool) (ea : Addr) (w : World) (e : Ending) (w' : World) : Prop := Fr [] w w' ∧ ((ok = true ∧ e = .returned .nilIface) ∨ (ok = false ∧ e = .returned (.iface 218 (.pointer (some ea)))))
set_option maxRecDepth 100000 in
set_option maxHeartbeats 6400000 in
theorem checkOperands_at (m : Mth) (i : Ins) (la ca : Option Addr) (lc cc : Nat) (h : i.ok = true) (ea : Addr) (w : World) (he : w.cell? ⟨2, 0, none⟩ = some (.iface 218 (.pointer (some ea)))) : Calls Tryz.prog 53 #[m.v la lc ca cc, i.v] w (OpTo (m.opOk i) ea w) := by
  rw [Ins.ok_iff] at h
  obtain ⟨op, a, b⟩ := i
  obtain ⟨B, hB⟩ : ∃ B, B = m.opOk ⟨op, a, b⟩ := ⟨_, rfl⟩
  rw [← hB]
  unfold Mth.opOk at hB
  unfold Ins.v Mth.v
  simp only at h hB ⊢
  obtain ⟨args, temps, stack, prim, lits, code⟩ := m
  simp only at hB ⊢
  obtain ⟨ll, hll⟩ : ∃ n, n = lits.length := ⟨_, rfl⟩
  obtain ⟨n, hn⟩ : ∃ n, n = code.length := ⟨_, rfl⟩
  rw [← hll, ← hn] at hB
  rw [← hll, ← hn]
  clear hll hn
  have hop := op_cases (n := op) (by omega) (by omega)
  have HBL := Lib.hid (fun n b W (hF : Fr [] w W) => below_at n b ea W (hF.cell (by simp) he))
  have HB := Lib.hid hB
  have hF1 := fun x y => ((Fr.refl [] w).alloc x).alloc y
  have HF1 := Lib.hid hF1
  have he2 := fun x y => (hF1 x y).cell (by simp) he
  clear h hB hF1
  by_cases hb4 : b ≤ 4
  all_goals
    rcases hop with rfl | rfl | rfl | rfl | rfl | rfl | rfl | rfl | rfl | rfl | rfl | rfl | rfl | rfl | rfl | rfl | rfl | rfl | rfl | rfl | rfl | rfl | rfl
    all_goals
      go_enter Tryz.func53, Tryz.ntmps53
      go_wp2_with fail
      first
      | (go_ret; exact ⟨HF1.out _ _, .inl ⟨HB.out.trans rfl, rfl⟩⟩)
      | (go_ret; exact ⟨HF1.out _ _, .inr ⟨HB.out.trans (by simp [hb4]), rfl⟩⟩)
      | (refine (HBL.out _ _ _ (HF1.out _ _)).mono ?_
         rintro e w2 ⟨rfl, ⟨hlt, rfl⟩ | ⟨hlt, rfl⟩⟩
         · go_wp2_with fail
           go_ret
           exact ⟨HF1.out _ _, .inl ⟨HB.out.trans (by simp [hb4] <;> omega), rfl⟩⟩
         · go_wp2_with fail
           go_ret
           exact ⟨HF1.out _ _, .inr ⟨HB.out.trans (by simp [hb4] <;> omega), rfl⟩⟩)
end Go.Proofs.YtomcfjckhajhmabGreatDoor
namespace Go.Proofs.YtomcfjckhajhmabGreatDoor
open Go.RowKit

section
variable {w0 W : World} {m : Mth} {la ca : Option Addr} {lc cc pb rb : Nat} {s : List (Nat × Nat) × List (Nat × Nat)}
theorem PAt.put {b : Nat} {c : Array Value} {t : TypeId} (h : PAt [(b, .cells c t (0, 0))] w0 m la lc ca cc pb rb s W) (hb : w0.heap.size ≤ b) (k : Nat) (v : Value) : PAt [(b, .cells (c.setIfInBounds k v) t (0, 0))] w0 m la lc ca cc pb rb s (W.setCell ⟨b, k, none⟩ v) := by
  obtain ⟨pv, R, h1, h2, h3⟩ := h
  obtain ⟨k1, k2, k3, k4⟩ := h3.keep _ (List.mem_cons_self ..)
  have hF : Fr [b] W (W.setCell ⟨b, k, none⟩ v) := (Fr.refl _ _).setCell (fun _ => by simp) _
  refine ⟨pv, R, h1, h2, hF.heap (by simpa using Ne.symm k2) h3.box, hF.heap (by simpa using Ne.symm k3) h3.marks, hF.row h3.row (fun j hj => by simp only [List.mem_singleton]; intro e; exact k4 (e ▸ hj)), h3.fr.join' hF (fun j hj => ?_), h3.pn, h3.rn, h3.vn, fun p hp => ?_⟩
  · simp only [List.mem_singleton] at hj
    rw [hj]
    exact hb
  · simp only [List.mem_singleton] at hp
    subst hp
    exact ⟨heap_setCell_same k1 v, k2, k3, k4⟩
theorem PAt.begin (hF : Fr [] w0 W) (hr : w0.heap.size ≤ rb) (_hrb : rb < W.heap.size) (hk : W.heap[rb]? = some (.cells (List.replicate m.code.length (Value.int .u32 0)).toArray 145 (0, 0))) :
    PAt [] w0 m la lc ca cc W.heap.size rb ([], []) (W.alloc (.cells (pcells m la lc ca cc rb (.slice none 0 0)) 124)) := by
  have hF2 := (Fr.refl [] W).alloc (.cells (pcells m la lc ca cc rb (.slice none 0 0)) 124)
  refine ⟨.slice none 0 0, List.replicate m.code.length 0, Mk.start _, Nat.le_refl _, heap_new _ _, ?_, World.ownsRow_nil _ _ _ _, hF.trans hF2, hF.size, hr, fun k hk => (by cases hk), fun p hp => (by cases hp)⟩
  have := hF2.heap (by simp) hk
  rw [this]
  simp
/-- the first k depths, and zeros -/
noncomputable def lstK (m : Mth) (k : Nat) : Array Value := (((List.range k).map m.depthAt ++ List.replicate (m.code.length - k) 0).map (Value.int .i64)).toArray
theorem lstK_zero (m : Mth) : lstK m 0 = (List.replicate m.code.length (Value.int .i64 0)).toArray := by simp [lstK]
theorem lstK_next {m : Mth} {k : Nat} (h : k < m.code.length) : (lstK m k).setIfInBounds k (.int .i64 (m.depthAt k)) = lstK m (k + 1) := by
  unfold lstK
  simp only [List.setIfInBounds_toArray]
  congr 1
  rw [← List.map_set]
  congr 1
  rw [List.set_append_right _ _ (by simp), List.range_succ, List.map_append]
  simp only [List.length_map, List.length_range, Nat.sub_self]
  rw [show m.code.length - k = (m.code.length - (k + 1)) + 1 by omega, List.replicate_succ]
  simp
theorem lstK_done (m : Mth) : lstK m m.code.length = (m.depths.map (Value.int .i64)).toArray := by simp [lstK, Mth.depths]
end
theorem info32 : (Tryz.prog.info? 145).map (fun i => (i.zero, i.size, i.bytes)) = some (some (.int .u32 0), 1, 4) := by kernel_rfl
theorem infoI : (Tryz.prog.info? 3).map (fun i => (i.zero, i.size, i.bytes)) = some (some (.int .i64 0), 1, 8) := by kernel_rfl
theorem made_one (z : Value) (n : Nat) (h : z.cells = #[z]) : madeCells z.cells n = (List.replicate n z).toArray := by
  apply Array.ext'
  rw [h, toList_madeCells_one]
theorem make32 (n : Nat) (h2 : n ≤ 65536) (W : World) : (Instr.makeSlice 121 (.int .i64 (n : Int)) (.int .i64 (n : Int))).run Tryz.prog W = .ok (.slice (some ⟨W.heap.size, 0, none⟩) n n) (W.alloc (.cells (List.replicate n (Value.int .u32 0)).toArray 145)) := by
  obtain ⟨i0, hi, hz0, hz1, hz2⟩ := info_parts info32
  have hr := run_make (P := Tryz.prog) W 121 145 i0 (.int .u32 0) Tryz.underlying121 hi hz0 .i64 .i64 n n (by omega) (by omega) (by rw [hz2]; omega) (by omega)
  simp only [Int.toNat_natCast, hz1, Nat.mul_one] at hr
  rw [made_one _ _ rfl] at hr
  exact hr
theorem makeI (n : Nat) (h2 : n ≤ 65536) (W : World) : (Instr.makeSlice 31 (.int .i64 (n : Int)) (.int .i64 (n : Int))).run Tryz.prog W = .ok (.slice (some ⟨W.heap.size, 0, none⟩) n n) (W.alloc (.cells (List.replicate n (Value.int .i64 0)).toArray 3)) := by
  obtain ⟨i0, hi, hz0, hz1, hz2⟩ := info_parts infoI
  have hr := run_make (P := Tryz.prog) W 31 3 i0 (.int .i64 0) Tryz.underlying31 hi hz0 .i64 .i64 n n (by omega) (by omega) (by rw [hz2]; omega) (by omega)
  simp only [Int.toNat_natCast, hz1, Nat.mul_one] at hr
  rw [made_one _ _ rfl] at hr
  exact hr
def DepsTo (m : Mth) (w : World) (e : Ending) (w' : World) : Prop := Fr [] w w' ∧
  ((m.ok = false ∧ ∃ a, e = .returned (.tuple #[.slice none 0 0, .iface 218 (.pointer (some a))])) ∨
  (∃ k : Nat, DepthsTo m [] k 4 ∧ ∃ a, e = .returned (.tuple #[.slice none 0 0, .iface 119 (.agg #[.int .i64 (k : Int), .iface 218 (.pointer (some a))])])) ∨
  (m.good ∧ ∃ g cap, e = .returned (.tuple #[.slice (some ⟨g, 0, none⟩) m.code.length cap, .nilIface]) ∧ w'.heap[g]? = some (.cells (m.depths.map (Value.int .i64)).toArray 3 (0, 0)) ∧ w.heap.size ≤ g))
set_option maxRecDepth 100000 in
set_option maxHeartbeats 3200000 in
theorem depths_at (m : Mth) (la ca : Option Addr) (lc cc : Nat) (w : World) (hcode : RowAt w ca (flatI m.code)) (hE : VErrs w) (hFd : Field w) (hT : DbAt w) : Calls Tryz.prog 38 #[m.v la lc ca cc] w (DepsTo m w) := by
  obtain ⟨W1, hW1⟩ : ∃ W1, W1 = w.alloc (.cells #[.int .i64 m.args, .int .i64 m.temps, .int .i64 m.stack, .int .i64 m.prim, .slice la m.lits.length lc, .slice ca m.code.length cc] 25) := ⟨_, rfl⟩
  have hF1 : Fr [] w W1 := by rw [hW1]; exact (Fr.refl _ _).alloc _
  have hb1 : W1.heap[w.heap.size]? = some (.cells #[.int .i64 m.args, .int .i64 m.temps, .int .i64 m.stack, .int .i64 m.prim, .slice la m.lits.length lc, .slice ca m.code.length cc] 25 (0, 0)) := by rw [hW1]; exact heap_new _ _
  have hck := check_at m la ca lc cc W1 (row_fr hcode hF1) (by obtain ⟨b, hb⟩ := hFd; exact ⟨b, hF1.cell (by simp) hb⟩)
  obtain ⟨em, hem⟩ := (hE.fr hF1).method
  obtain ⟨eo, heo⟩ := (hE.fr hF1).operand
  have HCODE := Lib.hid hcode
  have HE := Lib.hid hE
  have HTB := Lib.hid hT
  have HF1 := Lib.hid hF1
  have HB1 := Lib.hid hb1
  unfold Mth.v at hck
  unfold Mth.v
  obtain ⟨ll, hll⟩ : ∃ n, n = m.lits.length := ⟨_, rfl⟩
  obtain ⟨n, hN⟩ : ∃ n, n = m.code.length := ⟨_, rfl⟩
  rw [← hll, ← hN] at hck hW1 HB1 ⊢
  have HLL := Lib.hid hll
  have HNN := Lib.hid hN
  obtain ⟨ok, hok⟩ : ∃ ok, ok = m.ok := ⟨_, rfl⟩
  rw [← hok] at hck
  have HOK := Lib.hid hok
  have HW1 := Lib.hid hW1
  have k0 := cell_of_heap (o := 0) HB1.out rfl; have k1 := cell_of_heap (o := 1) HB1.out rfl; have k2 := cell_of_heap (o := 2) HB1.out rfl; have k3 := cell_of_heap (o := 3) HB1.out rfl; have k4 := cell_of_heap (o := 4) HB1.out rfl; have k5 := cell_of_heap (o := 5) HB1.out rfl
  clear hcode hE hT hF1 hb1 hll hN hok hW1 hFd
  go_enter Tryz.func38, Tryz.ntmps38
  cases ok
  · simp only [Bool.false_eq_true, if_false] at hck
    go_wp2_with fail
    rw [← HW1.out]
    refine hck.mono ?_
    rintro e w2 ⟨rfl, hF2⟩
    have ke := hF2.cell (by simp) hem
    have HF2 := Lib.hid (HF1.out.trans hF2)
    clear hF2 hck
    go_wp2_with fail
    go_quiet (fail)
    go_wp2_with fail
    go_ret2
    exact ⟨HF2.out.drewN _, .inl ⟨HOK.out.symm, em, rfl⟩⟩
  · simp only [if_true] at hck
    go_wp2_with fail
    rw [← HW1.out]
    refine hck.mono ?_
    rintro e w2 ⟨rfl, hF2⟩
    have HF2 := Lib.hid hF2
    have HB2 := Lib.hid (hF2.heap (by simp) HB1.out)
    have k5' := cell_of_heap (o := 5) HB2.out rfl
    have hmok : m.ok = true := HOK.out.symm
    have hn1 : 1 ≤ n := by rw [HNN.out]; have := m.head_iff.1 (m.ok_iff.1 hmok).1; omega
    have hn2 : n ≤ 128 := by rw [HNN.out]; have := m.head_iff.1 (m.ok_iff.1 hmok).1; omega
    have HMOK := Lib.hid hmok
    clear hF2 hck k0 k1 k2 k3 k4 k5 hmok
    go_wp2_with fail
    go_loopw [19] (fun i wr => ∃ k : Nat, k ≤ n ∧ i = .int .i64 k ∧ Hid (Fr [] W1 wr) ∧ Hid (∀ j, j < k → ∀ i, m.code[j]? = some i → m.opOk i = true)) (fun i _ => n - (intOf i).toNat)
    case atStart => exact ⟨0, Nat.zero_le _, rfl, HF2, Lib.hid fun j hj => absurd hj (Nat.not_lt_zero _)⟩
    case round =>
      obtain ⟨k, hk, rfl, hFk, hall⟩ := hrel
      by_cases hlt : k < n
      · have hkl : k < m.code.length := by rw [← HNN.out]; exact hlt
        obtain ⟨i, hi⟩ : ∃ i, m.code[k]? = some i := ⟨_, List.getElem?_eq_getElem hkl⟩
        have hio := (m.ok_iff.1 HMOK.out).2 i (List.mem_of_getElem? hi)
        obtain ⟨f1, f2, f3⟩ := flatI_at hi
        obtain ⟨g, off, rfl, c1⟩ := HCODE.out _ _ f1
        obtain ⟨_, _, e2, c2⟩ := HCODE.out _ _ f2
        cases e2
        obtain ⟨_, _, e3, c3⟩ := HCODE.out _ _ f3
        cases e3
        have hFw := HF1.out.trans hFk.out
        have d1 := hFw.cell (by simp) c1
        have d2 := hFw.cell (by simp) c2
        have d3 := hFw.cell (by simp) c3
        rw [← Nat.add_assoc] at d2 d3
        obtain ⟨W3, hW3⟩ : ∃ W3, W3 = wr.alloc (.cells #[.int .i64 i.op, .int .i64 i.a, .int .i64 i.b] 69) := ⟨_, rfl⟩
        have hF3 : Fr [] wr W3 := by rw [hW3]; exact (Fr.refl _ _).alloc _
        have hbk := hF3.heap (by simp) (hFk.out.heap (by simp) HB1.out)
        have m0 := cell_of_heap (o := 0) hbk rfl; have m1 := cell_of_heap (o := 1) hbk rfl; have m2 := cell_of_heap (o := 2) hbk rfl; have m3 := cell_of_heap (o := 3) hbk rfl; have m4 := cell_of_heap (o := 4) hbk rfl; have m5 := cell_of_heap (o := 5) hbk rfl
        have heo3 := (hFk.out.trans hF3).cell (by simp) heo
        have hco := checkOperands_at m i la (some ⟨g, off, none⟩) lc cc hio eo W3 heo3
        unfold Mth.v Ins.v at hco
        rw [← HLL.out, ← HNN.out] at hco
        have HI := Lib.hid hi
        have HW3 := Lib.hid hW3
        have HF3 := Lib.hid (hFk.out.trans hF3)
        have hnn := ne_nil
        have z0 : (0 : Int) ≤ (k : Int) := by omega
        have z1 : (k : Int) < (n : Int) := by omega
        clear hkl hi hio f1 f2 f3 c1 c2 c3 hFw hW3 hF3 hbk k5'
        go_upto_region 6 with (fail)
        rw [← HW3.out]
        obtain ⟨B, hB⟩ : ∃ B, B = m.opOk i := ⟨_, rfl⟩
        rw [← hB] at hco
        have HB := Lib.hid hB
        have hbi : W3.heap[wr.heap.size]? = some (.cells #[.int .i64 i.op, .int .i64 i.a, .int .i64 i.b] 69 (0, 0)) := by rw [HW3.out]; exact heap_new _ _
        have y0 := cell_of_heap (o := 0) hbi rfl; have y1 := cell_of_heap (o := 1) hbi rfl; have y2 := cell_of_heap (o := 2) hbi rfl
        clear hB hbi
        go_wp2_with fail
        refine hco.mono ?_
        rintro e w4 ⟨hF4, ⟨hb, rfl⟩ | ⟨hb, rfl⟩⟩
        · have HNX : Hid (∀ j, j < k + 1 → ∀ i, m.code[j]? = some i → m.opOk i = true) := Lib.hid fun j hj i' hi' => by
            by_cases e : j = k
            · subst e
              rw [HI.out] at hi'
              cases hi'
              rw [← HB.out]
              exact hb
            · exact hall.out j (by omega) i' hi'
          have HF4 := Lib.hid (HF3.out.trans hF4)
          clear hF4 hb hco y0 y1 y2 m0 m1 m2 m3 m4 m5 d1 d2 d3
          go_wp2_with fail
          go_roundw
          case rel => exact ⟨k + 1, by omega, by go_num, HF4, HNX⟩
          case measure => simp [intOf]; omega
        · have HTO : Hid (DepthsTo m [] k 4) := Lib.hid (.operand HMOK.out HI.out (by rw [← HB.out]; exact hb) hall.out)
          have HF4 := Lib.hid (HF1.out.trans (HF3.out.trans hF4))
          clear hF4 hb hco y0 y1 y2 m0 m1 m2 m3 m4 m5 d1 d2 d3
          go_wp2_with fail
          go_ret2
          exact ⟨HF4.out, .inr (.inl ⟨k, HTO.out, eo, rfl⟩)⟩
      · have hkn : k = n := by omega
        subst hkn
        have hkd : decide (k < k) = false := by simp
        have HOP : Hid (∀ i ∈ m.code, m.opOk i = true) := Lib.hid fun i hi => by
          obtain ⟨j, hj⟩ := List.getElem?_of_mem hi
          exact hall.out j (by rw [HNN.out]; exact (List.getElem?_eq_some_iff.1 hj).1) i hj
        have hbk := hFk.out.heap (by simp) HB1.out
        have m0 := cell_of_heap (o := 0) hbk rfl; have m1 := cell_of_heap (o := 1) hbk rfl; have m2 := cell_of_heap (o := 2) hbk rfl; have m3 := cell_of_heap (o := 3) hbk rfl; have m4 := cell_of_heap (o := 4) hbk rfl; have m5 := cell_of_heap (o := 5) hbk rfl
        have HFK := Lib.hid hFk.out
        have hmx : Tryz.prog.follows .mixedOrders = true := by kernel_rfl
        have h0k : (0 : Int) ≤ (k : Int) := by omega
        clear hbk k5' hall
        go_wp2_with fail
        refine region_own' (S := fun w' => w'.cell? ⟨w.heap.size, 0, none⟩ = some (.int .i64 m.args) ∧ w'.cell? ⟨w.heap.size, 1, none⟩ = some (.int .i64 m.temps) ∧ w'.cell? ⟨w.heap.size, 2, none⟩ = some (.int .i64 m.stack) ∧ w'.cell? ⟨w.heap.size, 3, none⟩ = some (.int .i64 m.prim) ∧ w'.cell? ⟨w.heap.size, 4, none⟩ = some (.slice la ll lc) ∧ w'.cell? ⟨w.heap.size, 5, none⟩ = some (.slice ca k cc)) hmx ⟨m0, m1, m2, m3, m4, m5⟩ (fun hHeld => ?_)
        (refine wpAnyH_take (i := 0) (oi := ⟨some 34, _, _, _, _, _⟩) (v := ?_) rfl (by kernel_rfl) (by kernel_rfl) (by kernel_rfl) (fun _ _ _ h => h) (Or.inl ⟨by rfl, ?_⟩) (by assumption) ?_); rotate_left; focus (intro w hSw; (try dsimp only at hSw); go_split_ands; go_simp; try with_reducible rfl); (try simp only [Act.put, List.setIfInBounds_toArray, List.set_cons_zero, List.set_cons_succ])
        (refine wpAnyH_take (i := 1) (oi := ⟨some 35, _, _, _, _, _⟩) (v := ?_) rfl (by kernel_rfl) (by kernel_rfl) (by kernel_rfl) (fun _ _ _ h => h) (Or.inl ⟨by rfl, ?_⟩) (by assumption) ?_); rotate_left; focus (intro w hSw; (try dsimp only at hSw); go_split_ands; go_simp; try with_reducible rfl); (try simp only [Act.put, List.setIfInBounds_toArray, List.set_cons_zero, List.set_cons_succ])
        (refine wpAnyH_take (i := 2) (oi := ⟨some 36, _, _, _, _, _⟩) (v := ?_) rfl (by kernel_rfl) (by kernel_rfl) (by kernel_rfl) (fun _ _ _ h => h) (Or.inl ⟨by rfl, ?_⟩) (by assumption) ?_); rotate_left; focus (intro w hSw; (try dsimp only at hSw); go_split_ands; go_simp; try with_reducible rfl); (try simp only [Act.put, List.setIfInBounds_toArray, List.set_cons_zero, List.set_cons_succ])
        (refine wpAnyH_take (i := 3) (oi := ⟨some 37, _, _, _, _, _⟩) (v := ?_) rfl (by kernel_rfl) (by kernel_rfl) (by kernel_rfl) (fun _ _ _ h => h) (Or.inl ⟨by rfl, ?_⟩) (by assumption) ?_); rotate_left; focus (intro w hSw; (try dsimp only at hSw); go_split_ands; go_simp; try with_reducible rfl); (try simp only [Act.put, List.setIfInBounds_toArray, List.set_cons_zero, List.set_cons_succ])
        have hm32 := make32 k (by omega)
        obtain ⟨Z, hZ⟩ : ∃ Z, Z = (List.replicate k (Value.int .u32 0)).toArray := ⟨_, rfl⟩
        rw [← hZ] at hm32
        have HZ := Lib.hid hZ
        clear hZ
        (refine wpAnyH_ready (rs := [4]) (by kernel_rfl) (by simp) ?_; refine AllReadyH.cons rfl (fun K hK => ?_) AllReadyH.nil); go_simp
        have hF3 : Fr [] wr (wr.alloc (.cells Z 145)).drew := ((Fr.refl _ _).alloc _).drew
        refine hK.out _ _ ⟨hF3.cell (by simp) m0, hF3.cell (by simp) m1, hF3.cell (by simp) m2, hF3.cell (by simp) m3, hF3.cell (by simp) m4, hF3.cell (by simp) m5⟩ (fun hHeld2 => ?_)
        clear hK
        (refine wpAnyH_take (i := 5) (oi := ⟨some 39, _, _, _, _, _⟩) (v := ?_) rfl (by kernel_rfl) (by kernel_rfl) (by kernel_rfl) (fun _ _ _ h => h) (Or.inl ⟨by rfl, ?_⟩) (by assumption) ?_); rotate_left; focus (intro w hSw; (try dsimp only at hSw); go_split_ands; go_simp; try with_reducible rfl); (try simp only [Act.put, List.setIfInBounds_toArray, List.set_cons_zero, List.set_cons_succ])
        (refine wpAnyH_ready (rs := [6]) (by kernel_rfl) (by simp) ?_; refine AllReadyH.cons rfl (fun K hK => ?_) AllReadyH.nil); go_simp
        obtain ⟨W3, hW3⟩ : ∃ W3, W3 = ((wr.alloc (.cells Z 145)).alloc (.cells #[.int .i64 m.args, .int .i64 m.temps, .int .i64 m.stack, .int .i64 m.prim, .slice la ll lc, .slice ca k cc, .slice (some ⟨wr.heap.size, 0, none⟩) k k, .slice none 0 0] 124)).drew := ⟨_, rfl⟩
        rw [← hW3]
        have hF4 : Fr [] wr W3 := by rw [hW3]; exact (((Fr.refl _ _).alloc _).alloc _).drew
        have hPA : PAt [] wr m la lc ca cc (wr.heap.size + 1) wr.heap.size ([], []) W3 := by
          have h := PAt.begin (w0 := wr) (W := wr.alloc (.cells Z 145)) (m := m) (la := la) (ca := ca) (lc := lc) (cc := cc) (rb := wr.heap.size) ((Fr.refl _ _).alloc _) (Nat.le_refl _) (by simp) (by rw [heap_new, HZ.out, HNN.out])
          have e : (wr.alloc (.cells Z 145)).heap.size = wr.heap.size + 1 := by simp
          rw [e] at h
          unfold pcells at h
          rw [← HLL.out, ← HNN.out] at h
          rw [hW3]
          exact h.still ((Fr.refl _ _).drew)
        refine hK.out _ _ ⟨hF4.cell (by simp) m0, hF4.cell (by simp) m1, hF4.cell (by simp) m2, hF4.cell (by simp) m3, hF4.cell (by simp) m4, hF4.cell (by simp) m5⟩ (fun hHeld3 => ?_)
        (refine wpAnyH_take (i := 7) (oi := ⟨some 7, _, _, _, _, _⟩) (v := ?_) rfl (by kernel_rfl) (by kernel_rfl) (by kernel_rfl) (fun _ _ _ h => h) (Or.inl ⟨by rfl, ?_⟩) (by assumption) ?_); rotate_left; focus (intro w hSw; (try dsimp only at hSw); go_split_ands; go_simp; try with_reducible rfl); (try simp only [Act.put, List.setIfInBounds_toArray, List.set_cons_zero, List.set_cons_succ])
        refine wpAnyH_done (by kernel_rfl) (Norm.mk ?_) _
        have HFW := Lib.hid (HF1.out.trans HFK.out)
        have hfo := pfollow_at HMOK.out HOP.out hPA (row_fr HCODE.out HFW.out) (HE.out.fr HFW.out)
        have HF4 := Lib.hid hF4
        have HBK := Lib.hid (HFK.out.heap (by simp) HB1.out)
        have hmI := makeI k (by omega)
        clear hK hHeld hHeld2 hHeld3 hF3 hF4 hPA hW3 hm32
        go_wp2_with fail
        refine hfo.mono ?_
        rintro e w5 ⟨rfl, M, hP5, hMW⟩
        have HMW := Lib.hid hMW
        have hb5 := hP5.fr.heap (by simp) HBK.out
        have n5 := cell_of_heap (o := 5) hb5 rfl
        have HP5 := Lib.hid hP5
        obtain ⟨Y, hY⟩ : ∃ Y, Y = (List.replicate k (Value.int .i64 0)).toArray := ⟨_, rfl⟩
        rw [← hY] at hmI
        have HY := Lib.hid hY
        clear hfo hMW hP5 hb5 hY m0 m1 m2 m3 m4 m5
        go_wp2_with fail
        have HLB : Hid (wr.heap.size ≤ w5.heap.size) := Lib.hid HP5.out.fr.size
        have HP6 : Hid (PAt [(w5.heap.size, .cells (lstK m 0) 3)] wr m la lc ca cc (wr.heap.size + 1) wr.heap.size (M, []) (w5.alloc (.cells Y 3))) := Lib.hid (by rw [HY.out, HNN.out, ← lstK_zero]; exact HP5.out.hold _)
        obtain ⟨w6, hw6⟩ : ∃ w6, w6 = w5.alloc (.cells Y 3) := ⟨_, rfl⟩
        rw [← hw6] at HP6
        rw [← hw6]
        obtain ⟨lb, hlb⟩ : ∃ lb, lb = w5.heap.size := ⟨_, rfl⟩
        rw [← hlb] at HP6 HLB
        rw [← hlb]
        clear hw6 hlb HP5 n5
        go_loopw [49] (fun i wq => ∃ q : Nat, q ≤ k ∧ i = .int .i64 q ∧ Hid (PAt [(lb, .cells (lstK m q) 3)] wr m la lc ca cc (wr.heap.size + 1) wr.heap.size (M, []) wq) ∧ Hid (∀ j, j < q → ¬ m.bad j)) (fun i _ => k - (intOf i).toNat)
        case atStart => exact ⟨0, Nat.zero_le _, rfl, HP6, Lib.hid fun j hj => absurd hj (Nat.not_lt_zero _)⟩
        case round =>
          obtain ⟨q, hq, rfl, hPq, hnb⟩ := hrel
          by_cases hlt : q < k
          · have hql : q < m.code.length := by rw [← HNN.out]; exact hlt
            have hde := depth_at HMOK.out HOP.out hPq.out HMW.out (row_fr HCODE.out HFW.out) (HE.out.fr HFW.out) (HTB.out.fr HFW.out) hql
            have HQL := Lib.hid hql
            have z0 : (0 : Int) ≤ (q : Int) := by omega
            have z1 : (q : Int) < (k : Int) := by omega
            clear hql
            go_wp2_with fail
            refine hde.mono ?_
            rintro e w7 ⟨hF7, ⟨hb, rfl⟩ | ⟨hb, ea, rfl⟩⟩
            · have hP7 := hPq.out.still hF7
              have hb7 := hP7.kept (List.mem_cons_self ..)
              have hz : w7.frozen? ⟨lb, q, none⟩ = false := frozen_of_heap hb7
              have hc : ∃ v, w7.cell? ⟨lb, q, none⟩ = some v := by
                have hl : q < (lstK m q).size := by unfold lstK; simp; have := HQL.out; omega
                exact ⟨_, cell_of_heap hb7 (Array.getElem?_eq_getElem hl)⟩
              obtain ⟨ov, hov⟩ := hc
              have hpu := hP7.put (by have := HLB.out; exact this) q (.int .i64 (m.depthAt q))
              rw [lstK_next HQL.out] at hpu
              have HPU := Lib.hid hpu
              have HNB : Hid (∀ j, j < q + 1 → ¬ m.bad j) := Lib.hid fun j hj => by
                by_cases e : j = q
                · subst e; exact hb
                · exact hnb.out j (by omega)
              clear hde hF7 hb hP7 hb7 hpu
              go_wp2_with fail
              go_roundw
              case rel => exact ⟨q + 1, by omega, by go_num, HPU, HNB⟩
              case measure => simp [intOf]; omega
            · have HTO : Hid (DepthsTo m [] q 4) := Lib.hid (.bad HMOK.out HOP.out HQL.out hb hnb.out)
              have HF8 := Lib.hid (HFW.out.trans (hPq.out.still hF7).fr)
              have hnn := ne_nil
              clear hde hF7 hb
              go_wp2_with fail
              go_ret2
              exact ⟨HF8.out, .inr (.inl ⟨q, HTO.out, ea, rfl⟩)⟩
          · have hqk : q = k := by omega
            subst hqk
            have hqd : decide (q < q) = false := by simp
            have HGD : Hid m.good := Lib.hid ⟨HMOK.out, HOP.out, fun j hj => hnb.out j (by rw [HNN.out]; exact hj)⟩
            have HFE := Lib.hid (HFW.out.trans hPq.out.fr)
            have HBE : Hid (wr.heap[lb]? = some (.cells (m.depths.map (Value.int .i64)).toArray 3 (0, 0))) := Lib.hid (by
              have h := hPq.out.kept (List.mem_cons_self ..)
              rw [show lstK m q = lstK m m.code.length by rw [HNN.out], lstK_done] at h
              exact h)
            have HLE : Hid (w.heap.size ≤ lb) := Lib.hid (Nat.le_trans HFW.out.size HLB.out)
            clear hnb
            go_wp2_with fail
            go_ret2
            exact ⟨HFE.out, .inr (.inr ⟨HGD.out, lb, q, by rw [← HNN.out]; rfl, HBE.out, HLE.out⟩)⟩
end Go.Proofs.YtomcfjckhajhmabGreatDoor
