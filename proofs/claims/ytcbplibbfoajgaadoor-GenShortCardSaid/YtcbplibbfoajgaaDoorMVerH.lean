/- The document's list of ways: flow. The document's Depths. -/
import Derived.Test.YtcbplibbfoajgaaDoorMVerG
import Derived.Test.YtcbplibbfoajgaaDoorMVerF
import Derived.Test.YtcbplibbfoajgaaDoorMVerD
import Derived.Test.YtcbplibbfoajgaaDoorMCodeF
import Derived.Deep.RegionHeld3
namespace Go.Proofs.YtcbplibbfoajgaaDoor
open Go.RowKit

theorem size4 (w : World) (o0 o1 o2 o3 : Obj) : ((((w.alloc o0).alloc o1).alloc o2).alloc o3).heap.size = w.heap.size + 1 + 1 + 1 + 1 := by simp
theorem cell5 (w : World) (o0 o1 o2 o3 : Obj) (x : Value) (t : TypeId) : (((((w.alloc o0).alloc o1).alloc o2).alloc o3).alloc (.cells #[x] t)).cell? ⟨w.heap.size + 1 + 1 + 1 + 1, 0, none⟩ = some x := by
  rw [← size4 w o0 o1 o2 o3]
  exact cell_of_heap (heap_new _ _) rfl
theorem fr5 (w : World) (o0 o1 o2 o3 o4 : Obj) : Fr [] w (((((w.alloc o0).alloc o1).alloc o2).alloc o3).alloc o4) := (((((Fr.refl _ _).alloc _).alloc _).alloc _).alloc _).alloc _
theorem size5 (w : World) (o0 o1 o2 o3 o4 : Obj) : (((((w.alloc o0).alloc o1).alloc o2).alloc o3).alloc o4).heap.size = w.heap.size + 5 := by simp
theorem begin5 (w : World) (n : Nat) (c0 : Array Value) (t0 : TypeId) (ZI ZB : Array Value) (hI : ZI = (List.replicate n (Value.slice none 0 0)).toArray) (hB : ZB = (List.replicate n (Value.bool false)).toArray) {W v5 w5} (hW : W = ((((w.alloc (.cells c0 t0)).alloc (.cells ZI 30)).alloc (.cells ZB 4)).alloc (.cells #[.int .i64 0, .int .i64 0] 3)).alloc (.cells #[.slice (some ⟨w.heap.size + 1 + 1 + 1, 0, none⟩) 2 2] 30))
    (ho : w5.ownsRow w.heap.size 30 1 v5 1 [.slice (some ⟨w.heap.size + 1 + 1 + 1, 0, none⟩) 2 2]) (hg : W.grownBy w5 none) (hf : v5.ownBlock = none ∨ v5.ownBlock = some W.heap.size) :
    ∃ qg cap ρ, v5 = .slice (some ⟨qg, 0, none⟩) 1 cap ∧ FMem w n (w.heap.size + 1) (w.heap.size + 1 + 1) (fun _ => []) (fun _ => false) qg 0 cap [(0, 0)] (List.replicate n (.slice none 0 0)) [(w.heap.size, .cells c0 t0 (0, 0))] ρ w5 := by
  have s1 : (w.alloc (.cells c0 t0)).heap.size = w.heap.size + 1 := by simp
  have s2 : ((w.alloc (.cells c0 t0)).alloc (.cells ZI 30)).heap.size = w.heap.size + 1 + 1 := by simp
  have s3 : (((w.alloc (.cells c0 t0)).alloc (.cells ZI 30)).alloc (.cells ZB 4)).heap.size = w.heap.size + 1 + 1 + 1 := by simp
  have h0 : W.heap[w.heap.size]? = some (.cells c0 t0 (0, 0)) := by
    rw [hW]
    exact (((((Fr.refl [] _).alloc _).alloc _).alloc _).alloc _).heap (by simp) (heap_new w _)
  have h1 : W.heap[w.heap.size + 1]? = some (.cells (List.replicate n (Value.slice none 0 0)).toArray 30 (0, 0)) := by
    rw [hW, ← hI, ← s1]
    exact ((((Fr.refl [] _).alloc _).alloc _).alloc _).heap (by simp) (heap_new (w.alloc (.cells c0 t0)) _)
  have h2 : W.heap[w.heap.size + 1 + 1]? = some (.cells (List.replicate n (Value.bool false)).toArray 4 (0, 0)) := by
    rw [hW, ← hB, ← s2]
    exact (((Fr.refl [] _).alloc _).alloc _).heap (by simp) (heap_new ((w.alloc (.cells c0 t0)).alloc (.cells ZI 30)) _)
  have h3 : W.heap[w.heap.size + 1 + 1 + 1]? = some (.cells #[.int .i64 0, .int .i64 0] 3 (0, 0)) := by
    have h := ((Fr.refl [] ((((w.alloc (.cells c0 t0)).alloc (.cells ZI 30)).alloc (.cells ZB 4)).alloc (.cells #[.int .i64 0, .int .i64 0] 3))).alloc (.cells #[.slice (some ⟨w.heap.size + 1 + 1 + 1, 0, none⟩) 2 2] 30)).heap (by simp) (heap_new (((w.alloc (.cells c0 t0)).alloc (.cells ZI 30)).alloc (.cells ZB 4)) _)
    rw [s3] at h
    rw [hW]
    exact h
  have hF : Fr [] w W := by rw [hW]; exact fr5 _ _ _ _ _ _
  clear hW
  obtain ⟨cap, ρ, hv, hM⟩ := FMem.begin (X := [(w.heap.size, .cells c0 t0 (0, 0))]) hF h1 h2 h3 (fun p h => by simp only [List.mem_singleton] at h; subst h; exact ⟨h0, by simp⟩) (by omega) (by omega) (by omega) ho hg hf
  exact ⟨_, cap, ρ, hv, hM⟩
theorem roomOf_begin (s : Nat) : ∀ n, roomOf s (fun _ => []) n = n * (s + 1)
  | 0 => by simp [roomOf]
  | n + 1 => by
    unfold roomOf
    rw [roomOf_begin s n, Nat.add_mul]
    simp
theorem one_cellV (w : World) (v : Value) (t : TypeId) : ∀ j u, [v][j]? = some u → (w.alloc (.cells #[v] t)).cell? ((⟨w.heap.size, 0, none⟩ : Addr).add j) = some u := by
  intro j u hj
  rw [Lib.add_plain, Nat.zero_add, World.cell?_alloc_new]
  simpa using hj
/-- what the document's list of ways is in memory: the depths of each place, and from where a way goes beyond the end -/
def FlowTo (m : Mth) (w : World) (e : Ending) (w' : World) : Prop := ∃ (A : Nat → List Nat) (B : Nat → Bool) (atB byB : Nat) (hdr : List Value),
  Flow m A [] ∧ (∀ k, k < m.code.length → (B k = true ↔ m.beyond A k)) ∧ e = .returned (.tuple #[.slice (some ⟨atB, 0, none⟩) m.code.length m.code.length, .slice (some ⟨byB, 0, none⟩) m.code.length m.code.length]) ∧ Fr [] w w' ∧
  hdr.length = m.code.length ∧ w'.heap[atB]? = some (.cells hdr.toArray 30 (0, 0)) ∧ w'.heap[byB]? = some (.cells ((List.range m.code.length).map (fun k => Value.bool (B k))).toArray 4 (0, 0)) ∧
  ∀ (k : Nat) (v : Value), hdr[k]? = some v → w'.ownsRow w.heap.size 3 1 v (A k).length (dInts (A k))
set_option maxRecDepth 100000 in
set_option maxHeartbeats 1600000 in
theorem flow_at (m : Mth) (hok : m.ok = true) (hop : ∀ i ∈ m.code, m.opOk i = true) (la ca : Option Addr) (lc cc : Nat) (w : World) (hcode : RowAt w ca (flatI m.code)) : Calls Tryd.prog 16 #[m.v la lc ca cc] w (FlowTo m w) := by
  have hd := m.head_iff.1 (m.ok_iff.1 hok).1
  unfold Mth.v
  obtain ⟨ll, hll⟩ : ∃ n, n = m.lits.length := ⟨_, rfl⟩
  obtain ⟨n, hN⟩ : ∃ n, n = m.code.length := ⟨_, rfl⟩
  rw [← hll, ← hN]
  have hn1 : 1 ≤ n := by omega
  have hn128 : n ≤ 128 := by omega
  have HNN := Lib.hid hN
  have HCODE := Lib.hid hcode
  have HOK := Lib.hid hok
  have HOP := Lib.hid hop
  have HS : Hid (m.stack ≤ 16) := Lib.hid (by omega)
  have hmI := makeIs n (by omega)
  have hmB := makeBs n (by omega)
  obtain ⟨ZI, hZI⟩ : ∃ Z, Z = (List.replicate n (Value.slice none 0 0)).toArray := ⟨_, rfl⟩
  obtain ⟨ZB, hZB⟩ : ∃ Z, Z = (List.replicate n (Value.bool false)).toArray := ⟨_, rfl⟩
  rw [← hZI] at hmI
  rw [← hZB] at hmB
  have HZI := Lib.hid hZI
  have HZB := Lib.hid hZB
  clear hZI hZB
  clear hok hop hcode hll hN hd
  go_enter Tryd.func16, Tryd.ntmps16
  obtain ⟨i0, hi0, hz0, hz1, hz2⟩ := info_parts infoInts
  go_wp2_with (at_builtin; go_loud (refine wpList_append_own_at _ rfl (.tmp 22) (.tmp 24) 54 rfl w.heap.size 30 i0 (.slice none 0 0) 1 24 Tryd.underlying54 hi0 hz0 hz1 hz2 rfl (by decide) (.slice none 0 0) 0 [] rfl (World.ownsRow_nil _ _ _ _) ⟨w.heap.size + 1 + 1 + 1 + 1, 0, none⟩ 1 1 [.slice (some ⟨w.heap.size + 1 + 1 + 1, 0, none⟩) 2 2] rfl rfl (cell1 (cell5 _ _ _ _ _ _ _)) (by simp [Value.oneCell']) (by unfold maxLen; omega) (by omega) (fr5 _ _ _ _ _ _).size ?_; intro v5 w5 ho5 hg5 hn5 hf5; have hbg := begin5 w n _ _ ZI ZB HZI.out HZB.out rfl ho5 hg5 hf5; obtain ⟨qg, cap, ρ, rfl, hM⟩ := hbg; have HM := Lib.hid hM; clear hM ho5 hg5 hn5 hf5))
  have HR0 : Hid (3 * roomOf m.stack.toNat (fun _ => []) n + 1 ≤ 6529) := Lib.hid (by
    rw [roomOf_begin]
    have h1 : m.stack.toNat + 1 ≤ 17 := by have := HS.out; omega
    have := Nat.mul_le_mul hn128 h1
    omega)
  clear hmI hmB
  go_loopg [7] 6529 (fun k tv wr => ∃ (A : Nat → List Nat) (B : Nat → Bool) (T : List (Nat × Nat)) (qg off cap : Nat) (hdr : List Value) (ρ : Nat → Nat), tv = .slice (some ⟨qg, off, none⟩) T.length cap ∧ Hid (Flow m A T) ∧ Hid (FMem w n (w.heap.size + 1) (w.heap.size + 1 + 1) A B qg off cap T hdr [(w.heap.size, .cells #[.int .i64 m.args, .int .i64 m.temps, .int .i64 m.stack, .int .i64 m.prim, .slice la ll lc, .slice ca n cc] 25 (0, 0))] ρ wr) ∧ Hid (∀ k, k < n → (B k = true ↔ m.beyond A k)) ∧ 3 * roomOf m.stack.toNat A n + T.length ≤ k ∧ k ≤ 6529)
  case atStart => exact ⟨_, _, [(0, 0)], qg, 0, cap, _, ρ, rfl, Lib.hid (Flow.begin m), HM, Lib.hid (fun k _ => by simp [Mth.beyond]), HR0.out, Nat.le_refl _⟩
  case round =>
    obtain ⟨A, B, T, qg, off, cap, hdr, ρ, rfl, hFl, hM, hB, hle, hk⟩ := hrel
    rcases T with _ | ⟨⟨pc, d⟩, T⟩
    · simp only [List.length_nil]
      go_wp2_with fail
      go_ret2
      have hb := hB.out
      rw [HNN.out] at hb
      have h := hM.out
      have h1 := h.hl
      have h2 := h.by_
      rw [HNN.out] at h1 h2
      exact ⟨A, B, _, _, hdr, hFl.out, hb, by rw [← HNN.out]; rfl, h.fr, h1, h.at_, h2, fun k v hv => (h.rows k v hv).1⟩
    · have hpp := hFl.out.pend (pc, d) (by simp)
      obtain ⟨hpc, hdl⟩ := hpp.lt HOK.out HOP.out
      rw [← HNN.out] at hpc
      obtain ⟨b, t1, t2, t3⟩ := hM.out.first
      obtain ⟨off2, cap2, hM2, hsl⟩ := hM.out.pop
      have HM2 := Lib.hid hM2
      obtain ⟨xa, xc, hv, t4, ho, hrow⟩ := hM2.atAt hpc
      have HV := Lib.hid hv
      have HO := Lib.hid ho
      have t5 := hM2.atFree pc
      have hb1 := (hM2.kept _ (List.mem_cons_self ..)).1
      have HAL : Hid ((A pc).length ≤ 17) := Lib.hid (by
        have := nodup_bound 17 (A pc) (hFl.out.nodup pc) (fun x hx => by have := ((hFl.out.sound pc x hx).lt HOK.out HOP.out).2; have := HS.out; omega)
        exact this)
      have hhas := rhas_at ((A pc).map fun (e : Nat) => (e : Int)) xa xc d wr (by rw [List.map_map]; exact hrow) (by simpa using Nat.le_trans HAL.out (by omega))
      rw [List.length_map] at hhas
      obtain ⟨al, hal⟩ : ∃ x, x = (A pc).length := ⟨_, rfl⟩
      obtain ⟨tl, htl⟩ : ∃ x, x = T.length := ⟨_, rfl⟩
      obtain ⟨hb, hhb⟩ : ∃ x, x = decide ((d : Int) ∈ (A pc).map fun (e : Nat) => (e : Int)) := ⟨_, rfl⟩
      rw [← hal] at t4 hhas
      rw [← htl] at hsl
      rw [← hhb] at hhas
      rw [List.length_cons] at hle ⊢
      rw [← htl] at hle ⊢
      have HTL := Lib.hid htl
      have HAE := Lib.hid hal
      have HHB : Hid (hb = true ↔ d ∈ A pc) := Lib.hid (by
        rw [hhb, decide_eq_true_eq, List.mem_map]
        constructor
        · rintro ⟨x, hx, e⟩
          have : x = d := by omega
          exact this ▸ hx
        · exact fun h => ⟨d, h, rfl⟩)
      have z0 : (0 : Int) ≤ (pc : Int) := by omega
      have z1 : (pc : Int) < (n : Int) := by omega
      have z2 : (0 : Int) < (tl : Int) + 1 := by omega
      have HLE := Lib.hid hle
      have HDL := Lib.hid hdl
      have k0 := cell_of_heap (o := 0) hb1 rfl; have k1 := cell_of_heap (o := 1) hb1 rfl; have k2 := cell_of_heap (o := 2) hb1 rfl; have k3 := cell_of_heap (o := 3) hb1 rfl; have k4 := cell_of_heap (o := 4) hb1 rfl; have k5 := cell_of_heap (o := 5) hb1 rfl
      clear hpp hM2 hv ho hrow hal htl hhb hdl hle hb1
      go_wp2_with fail
      refine hhas.mono ?_
      rintro e w4 ⟨rfl, hF4⟩
      have HM4 := Lib.hid (HM2.out.still hF4)
      clear hF4 hhas hsl t1 t2 t3 t4 t5 k0 k1 k2 k3 k4 k5
      cases hb
      rotate_left
      · have HFS := Lib.hid (hFl.out.skip (HHB.out.1 rfl))
        go_wp2_with fail
        go_roundg (3 * roomOf m.stack.toNat A n + tl)
        case rel => exact ⟨A, B, T, qg, off2, cap2, hdr, ρ, by rw [← HTL.out], HFS, HM4, hB, by rw [← HTL.out]; exact Nat.le_refl _, by have := HLE.out; omega⟩
        case measure => have := HLE.out; omega
      · have HND : Hid (d ∉ A pc) := Lib.hid (fun h => by have := HHB.out.2 h; cases this)
        obtain ⟨xa', xc', hv', t4, ho, -⟩ := HM4.out.atAt (by omega : pc < n)
        rw [HV.out] at hv'
        cases hv'
        have HMW : Hid (FMem w n (w.heap.size + 1) (w.heap.size + 1 + 1) A B qg off2 cap2 T hdr _ ρ (w4.alloc (.cells #[.int .i64 (d : Int)] 3))) := Lib.hid (HM4.out.still ((Fr.refl _ _).alloc _))
        obtain ⟨_, _, hv'', -, ho, -⟩ := HMW.out.atAt (by omega : pc < n)
        rw [HV.out] at hv''
        cases hv''
        rw [← HAE.out] at t4 ho
        have HO4 := Lib.hid ho
        have HV2 : Hid (hdr[pc]? = some (.slice xa al xc)) := Lib.hid (by rw [HAE.out]; exact HV.out)
        obtain ⟨i1, hi1, hy0, hy1, hy2⟩ := info_parts infoI
        clear ho
        go_upto_region 12 with (at_builtin; go_loud (refine wpList_append_own_at _ rfl (.tmp 52) (.tmp 54) 30 rfl w.heap.size 3 i1 (.int .i64 0) 1 8 Tryd.underlying30 hi1 hy0 hy1 hy2 rfl (by decide) (.slice xa al xc) al _ rfl HO4.out ⟨w4.heap.size, 0, none⟩ 1 1 [.int .i64 (d : Int)] rfl rfl (one_cellV _ _ _) (by simp [Value.oneCell']) (by have := HAL.out; rw [← HAE.out] at this; unfold maxLen; omega) (by have := HAL.out; rw [← HAE.out] at this; omega) HMW.out.fr.size ?_; intro v5 w5 ho5 hg5 hn5 hf5; have hrd := HMW.out.ready HV2.out hg5; obtain ⟨t6, t7⟩ := hrd; obtain ⟨a5, p5, rfl⟩ := row_shape' ho5; have hadd := HMW.out.add (d := d) HV2.out (by rw [← HAE.out]; exact ho5) hg5 hf5; obtain ⟨ρ', hM5⟩ := hadd; have HM5 := Lib.hid hM5; clear hM5 ho5 hg5 hn5 hf5))
        obtain ⟨W6, hW6⟩ : ∃ W6, W6 = w5.setCell ⟨w.heap.size + 1, pc, none⟩ (.slice a5 (al + 1) p5) := ⟨_, rfl⟩
        rw [← hW6] at HM5
        rw [← hW6]
        have hpl : pc < m.code.length := by rw [← HNN.out]; omega
        obtain ⟨i, hi⟩ : ∃ i, m.code[pc]? = some i := ⟨_, List.getElem?_eq_getElem hpl⟩
        have hio := (m.ok_iff.1 HOK.out).2 i (List.mem_of_getElem? hi)
        have hopi := HOP.out i (List.mem_of_getElem? hi)
        obtain ⟨f1, f2, f3⟩ := flatI_at hi
        obtain ⟨g, co, rfl, c1⟩ := HCODE.out _ _ f1
        obtain ⟨_, _, e2, c2⟩ := HCODE.out _ _ f2
        cases e2
        obtain ⟨_, _, e3, c3⟩ := HCODE.out _ _ f3
        cases e3
        have HC1 := Lib.hid c1
        have HC2 := Lib.hid c2
        have HC3 := Lib.hid c3
        rw [← Nat.add_assoc] at HC2 HC3
        have d1 := HM5.out.fr.cell (by simp) HC1.out
        have d2 := HM5.out.fr.cell (by simp) HC2.out
        have d3 := HM5.out.fr.cell (by simp) HC3.out
        have hb6 := (HM5.out.kept _ (List.mem_cons_self ..)).1
        have hne := rneeds_at i hio W6
        have hnx := Lib.hid (fun W => rnext_at i hio pc (by omega) W)
        unfold Ins.v at hne hnx
        obtain ⟨nd, hnd⟩ : ∃ x, x = i.need := ⟨_, rfl⟩
        obtain ⟨lv, hlv⟩ : ∃ x, x = i.leave := ⟨_, rfl⟩
        obtain ⟨E, hE⟩ : ∃ x, x = i.ends := ⟨_, rfl⟩
        have hn1 := i.need_nn hio
        rw [← hnd, ← hlv, ← hE] at hne
        rw [← hnd, ← hlv] at hn1
        have HFI : Hid (m.fine i d = true ↔ (nd ≤ d ∧ (d : Int) - nd + lv ≤ m.stack)) := Lib.hid (by unfold Mth.fine; rw [hnd, hlv]; simp)
        have HAF : Hid (nd ≤ d → (d : Int) - nd + lv ≤ m.stack → ((i.after d : Nat) : Int) = (d : Int) - nd + lv) := Lib.hid (fun h1 h2 => by
          have := (Ins.after_int hio (HFI.out.2 ⟨h1, h2⟩)).1
          rw [this, hnd, hlv])
        have HTK := Lib.hid (hFl.out.take HND.out hi)
        have HLS := Lib.hid (hFl.out.less HOK.out HOP.out HND.out)
        rw [← HNN.out] at HLS
        have HBA := Lib.hid (fun k => @Mth.beyond_add m A pc d k i hi)
        have HI := Lib.hid hi
        have HIO := Lib.hid hio
        have HOPI := Lib.hid hopi
        have hst := HS.out
        have hd16 : (d : Int) ≤ 16 := by have := HDL.out; omega
        have hsl : (0 : Int) ≤ m.stack := by have := m.head_iff.1 (m.ok_iff.1 HOK.out).1; omega
        clear hW6 hpl hi hio hopi f1 f2 f3 c1 c2 c3 hnd hlv hE t4 t6 t7
        have k0 := cell_of_heap (o := 0) hb6 rfl; have k1 := cell_of_heap (o := 1) hb6 rfl; have k2 := cell_of_heap (o := 2) hb6 rfl; have k3 := cell_of_heap (o := 3) hb6 rfl; have k4 := cell_of_heap (o := 4) hb6 rfl; have k5 := cell_of_heap (o := 5) hb6 rfl
        go_wp2_with fail
        refine hne.mono ?_
        rintro e w7 ⟨rfl, hF7⟩
        have HM7 := Lib.hid (HM5.out.still hF7)
        have hb7 := (HM7.out.kept _ (List.mem_cons_self ..)).1
        clear hF7 hne hb6 k0 k1 k2 k3 k4 k5 d1 d2 d3
        have d1 := HM7.out.fr.cell (by simp) HC1.out
        have d2 := HM7.out.fr.cell (by simp) HC2.out
        have d3 := HM7.out.fr.cell (by simp) HC3.out
        have k0 := cell_of_heap (o := 0) hb7 rfl; have k1 := cell_of_heap (o := 1) hb7 rfl; have k2 := cell_of_heap (o := 2) hb7 rfl; have k3 := cell_of_heap (o := 3) hb7 rfl; have k4 := cell_of_heap (o := 4) hb7 rfl; have k5 := cell_of_heap (o := 5) hb7 rfl
        by_cases hf : nd ≤ d ∧ (d : Int) - nd + lv ≤ m.stack
        · obtain ⟨hlo, hhi⟩ := hf
          have haf := HAF.out hlo hhi
          obtain ⟨af, hafe⟩ : ∃ x, x = i.after d := ⟨_, rfl⟩
          rw [← hafe] at haf
          have HAE2 := Lib.hid hafe
          have HFT : Hid (m.fine i d = true) := Lib.hid (HFI.out.2 ⟨hlo, hhi⟩)
          have HTK2 := Lib.hid (by have h := HTK.out; rw [if_pos HFT.out] at h; exact h)
          have HNS := Lib.hid (next_succ (pc := pc) HIO.out HOPI.out d)
          have HNL := Lib.hid (next_le (i := i) pc)
          have HNN0 := Lib.hid (fun x hx => @next_nn i HIO.out pc x hx)
          rw [← hafe, ← HNN.out] at HNS
          clear hafe hb7
          go_wp2_with fail
          refine (hnx.out w7).mono ?_
          rintro e w8 ⟨na, nc, rfl, hR8, hF8, hna⟩
          obtain ⟨X8, ρ8, hM8, hXX, hkeep⟩ := HM7.out.holdRow hF8 hR8 hna
          have HM8 := Lib.hid hM8
          have HKP := Lib.hid hkeep
          have HX8 := Lib.hid (hXX _ (List.mem_cons_self ..))
          obtain ⟨N, hNe⟩ : ∃ N, N = i.next pc := ⟨_, rfl⟩
          rw [← hNe] at HNS HNL HNN0 HKP
          rw [← hNe]
          obtain ⟨nl, hnl⟩ : ∃ x, x = N.length := ⟨_, rfl⟩
          rw [← hnl] at HNL
          rw [← hnl]
          have HNLE := Lib.hid hnl
          have hnl2 := HNL.out
          clear hnx hR8 hF8 hna hM8 hXX hkeep hNe hnl k0 k1 k2 k3 k4 k5 d1 d2 d3
          have HJ0 : Hid (T = T ++ goTo n af (N.take 0)) := Lib.hid (by simp [goTo])
          have HB0 : Hid (∀ k, B k = true ↔ B k = true ∨ (k = pc ∧ ∃ q ∈ N.take 0, (n : Int) ≤ q)) := Lib.hid (fun k => by simp)
          obtain ⟨hdr5, hh5⟩ : ∃ x, x = hdr.set pc (Value.slice a5 (al + 1) p5) := ⟨_, rfl⟩
          rw [← hh5] at HM8
          clear hh5
          have HTL2 : Hid (tl ≤ 6529) := Lib.hid (by have := HLE.out; omega)
          go_wp2_with fail
          go_loopw [7, 14] (fun tv kv wq => ∃ (j : Nat) (B' : Nat → Bool) (T' : List (Nat × Nat)) (qg off cap : Nat) (ρ : Nat → Nat), j ≤ nl ∧ tv = .slice (some ⟨qg, off, none⟩) T'.length cap ∧ kv = .int .i64 j ∧ Hid (T' = T ++ goTo n af (N.take j)) ∧ Hid (∀ k, B' k = true ↔ B k = true ∨ (k = pc ∧ ∃ q ∈ N.take j, (n : Int) ≤ q)) ∧ Hid (FMem w n (w.heap.size + 1) (w.heap.size + 1 + 1) (addAt A pc d) B' qg off cap T' hdr5 X8 ρ wq) ∧ T'.length ≤ tl + j) (fun _ kv _ => nl - (intOf kv).toNat)
          case atStart => exact ⟨0, B, T, qg, off2, cap2, ρ8, Nat.zero_le _, by rw [HTL.out], by trivial, HJ0, HB0, HM8, by rw [HTL.out]; omega⟩
          case round =>
            obtain ⟨j, B', T', qg', off', cap', ρ', hj, rfl, rfl, hT', hB', hM', htl'⟩ := hrel
            by_cases hjl : j < nl
            · have hjn : j < N.length := by rw [← HNLE.out]; exact hjl
              obtain ⟨x, hx⟩ : ∃ x, N[j]? = some x := ⟨_, List.getElem?_eq_getElem hjn⟩
              have hx0 := HNN0.out x (List.mem_of_getElem? hx)
              obtain ⟨xn, rfl⟩ : ∃ xn : Nat, x = xn := ⟨x.toNat, by omega⟩
              obtain ⟨g6, o6, rfl, c6⟩ := HKP.out _ _ _ _ _ _ _ _ _ hM'.out j (.int .i64 (xn : Int)) (by rw [List.getElem?_map, hx]; rfl)
              have htk : N.take (j + 1) = N.take j ++ [(xn : Int)] := by rw [List.take_add_one, hx]; rfl
              have HTKN := Lib.hid htk
              have z5 : (0 : Int) ≤ (j : Int) := by omega
              have z6 : (j : Int) < (nl : Int) := by omega
              obtain ⟨t8, t9⟩ := hM'.out.byAt (by omega : pc < n)
              clear hjn hx hx0 htk
              by_cases hxn : (n : Int) ≤ (xn : Int)
              · have HMK := Lib.hid (hM'.out.mark (pc := pc) (by omega))
                have HB3 : Hid (∀ k, (fun k => if k = pc then true else B' k) k = true ↔ B k = true ∨ (k = pc ∧ ∃ q ∈ N.take (j + 1), (n : Int) ≤ q)) := Lib.hid (fun k => by
                  have h := hB'.out k
                  rw [HTKN.out]
                  by_cases e : k = pc
                  · subst e
                    show (if k = k then true else B' k) = true ↔ _
                    rw [if_pos rfl]
                    exact ⟨fun _ => .inr ⟨rfl, _, List.mem_append_right _ (List.mem_singleton.2 rfl), hxn⟩, fun _ => rfl⟩
                  · simp only [if_neg e]
                    rw [h]
                    simp [e])
                have HT3 : Hid (T' = T ++ goTo n af (N.take (j + 1))) := Lib.hid (by rw [hT'.out, HTKN.out, goTo_app, goTo_one, if_neg (by omega), List.append_nil])
                go_wp2_with fail
                go_roundw
                case rel => exact ⟨j + 1, _, T', qg', off', cap', ρ', by omega, by trivial, by go_num, HT3, HB3, HMK, by omega⟩
                case measure => simp [intOf]; omega
              · have HT3 : Hid (T' ++ [(xn, af)] = T ++ goTo n af (N.take (j + 1))) := Lib.hid (by rw [hT'.out, HTKN.out, goTo_app, goTo_one, if_pos (by omega), List.append_assoc, Int.toNat_natCast])
                have HB3 : Hid (∀ k, B' k = true ↔ B k = true ∨ (k = pc ∧ ∃ q ∈ N.take (j + 1), (n : Int) ≤ q)) := Lib.hid (fun k => by
                  rw [hB'.out k, HTKN.out]
                  constructor
                  · rintro (h | ⟨e, q, hq, h⟩)
                    · exact .inl h
                    · exact .inr ⟨e, q, List.mem_append_left _ hq, h⟩
                  · rintro (h | ⟨e, q, hq, h⟩)
                    · exact .inl h
                    · rcases List.mem_append.1 hq with hq | hq
                      · exact .inr ⟨e, q, hq, h⟩
                      · simp only [List.mem_singleton] at hq
                        omega)
                have hTl : T'.length < 1000000 := by have := HTL2.out; have := HNL.out; omega
                obtain ⟨tl', htle⟩ : ∃ x, x = T'.length := ⟨_, rfl⟩
                rw [← htle]
                have HTLE := Lib.hid htle
                have HPU := Lib.hid (FMem.pushed wr hM'.out (xn, af) ((d : Int) - nd + lv) (by rw [← haf]) (by rw [← htle] at hTl; rw [← htle]; exact hTl))
                clear htle
                go_wp2_with (at_builtin; go_loud (obtain ⟨g7, off7, cap7, w9, ρ9, hrun, hM9⟩ := HPU.out 54; rw [← HTLE.out] at hrun; refine Lib.wpList_append_run _ rfl (.tmp 102) (.tmp 113) 54 54 rfl _ _ rfl rfl _ _ hrun ?_; have HM9 := Lib.hid hM9; clear hM9 hrun))
                go_roundw
                case rel => exact ⟨j + 1, B', T' ++ [(xn, af)], g7, off7, cap7, ρ9, by omega, by rw [List.length_append, List.length_singleton, ← HTLE.out], by go_num, HT3, HB3, HM9, by rw [List.length_append, List.length_singleton]; omega⟩
                case measure => simp [intOf]; omega
            · have hjn : j = nl := by omega
              subst hjn
              have hjd : decide ((j : Int) < (j : Int)) = false := by simp
              have hall : N.take j = N := by rw [HNLE.out]; exact List.take_length
              have HT3 : Hid (T' = T ++ m.succ i pc d) := Lib.hid (by rw [hT'.out, hall, HNS.out.1])
              have HFL : Hid (Flow m (addAt A pc d) T') := Lib.hid (by rw [HT3.out]; exact HTK2.out)
              have HB3 : Hid (∀ k, k < n → (B' k = true ↔ m.beyond (addAt A pc d) k)) := Lib.hid (fun k hk => by
                rw [hB'.out k, hall, HBA.out k, hB.out k hk]
                constructor
                · rintro (h | ⟨e, q, hq, h⟩)
                  · exact .inl h
                  · have := HNS.out.2.1 ⟨q, hq, h⟩
                    exact .inr ⟨e, HFT.out, this.1, by rw [← HNN.out]; omega⟩
                · rintro (h | ⟨e, -, hg, h⟩)
                  · exact .inl h
                  · obtain ⟨q, hq, h2⟩ := HNS.out.2.2 ⟨hg, by rw [HNN.out]; omega⟩
                    exact .inr ⟨e, q, hq, h2⟩)
              have HSL : Hid (T'.length ≤ tl + 2) := Lib.hid (by
                rw [HT3.out, List.length_append, ← HTL.out]
                have := m.succ_len i pc d
                omega)
              clear hall
              go_wp2_with fail
              go_roundg (3 * roomOf m.stack.toNat (addAt A pc d) n + T'.length)
              case rel => exact ⟨addAt A pc d, B', T', qg', off', cap', hdr5, ρ', by trivial, HFL, Lib.hid (hM'.out.fewer (fun p hp => by simp only [List.mem_singleton] at hp; subst hp; exact HX8.out)), HB3, Nat.le_refl _, by have := HLE.out; have := HLS.out; have := HSL.out; omega⟩
              case measure => have := HLE.out; have := HLS.out; have := HSL.out; omega
        · have HTK2 : Hid (Flow m (addAt A pc d) T) := Lib.hid (by
            have h := HTK.out
            rw [if_neg (by rw [HFI.out]; exact hf), List.append_nil] at h
            exact h)
          have HB2 : Hid (∀ k, k < n → (B k = true ↔ m.beyond (addAt A pc d) k)) := Lib.hid (fun k hk => by
            rw [HBA.out, hB.out k hk]
            constructor
            · exact .inl
            · rintro (h | ⟨-, h, -⟩)
              · exact h
              · exact absurd (HFI.out.1 h) hf)
          by_cases hlo : (d : Int) < nd
          · go_wp2_with fail
            go_roundg (3 * roomOf m.stack.toNat (addAt A pc d) n + tl)
            case rel => exact ⟨addAt A pc d, B, T, qg, off2, cap2, _, ρ', by rw [← HTL.out], HTK2, HM7, HB2, by rw [← HTL.out]; exact Nat.le_refl _, by have := HLE.out; have := HLS.out; omega⟩
            case measure => have := HLE.out; have := HLS.out; omega
          · have hhi : ¬ (d : Int) - nd + lv ≤ m.stack := fun h => hf ⟨by omega, h⟩
            clear hf
            go_wp2_with fail
            go_roundg (3 * roomOf m.stack.toNat (addAt A pc d) n + tl)
            case rel => exact ⟨addAt A pc d, B, T, qg, off2, cap2, _, ρ', by rw [← HTL.out], HTK2, HM7, HB2, by rw [← HTL.out]; exact Nat.le_refl _, by have := HLE.out; have := HLS.out; omega⟩
            case measure => have := HLE.out; have := HLS.out; omega
end Go.Proofs.YtcbplibbfoajgaaDoor
namespace Go.Proofs.YtcbplibbfoajgaaDoor
open Go.RowKit

theorem row_get {m : Mth} {k : Nat} : (List.range (k + 1)).map m.depthAt = (List.range k).map m.depthAt ++ [m.depthAt k] := by rw [List.range_succ, List.map_append]; rfl
set_option maxRecDepth 100000 in
set_option maxHeartbeats 1600000 in
theorem rDepths_at (m : Mth) (la ca : Option Addr) (lc cc : Nat) (w : World) (hcode : RowAt w ca (flatI m.code)) (hcl : m.code.length ≤ 5864062014805) : Calls Tryd.prog 8 #[m.v la lc ca cc] w (DepOut m w) := by
  obtain ⟨W1, hW1⟩ : ∃ W1, W1 = w.alloc (.cells #[.int .i64 m.args, .int .i64 m.temps, .int .i64 m.stack, .int .i64 m.prim, .slice la m.lits.length lc, .slice ca m.code.length cc] 25) := ⟨_, rfl⟩
  have hF1 : Fr [] w W1 := by rw [hW1]; exact (Fr.refl _ _).alloc _
  have hb1 : W1.heap[w.heap.size]? = some (.cells #[.int .i64 m.args, .int .i64 m.temps, .int .i64 m.stack, .int .i64 m.prim, .slice la m.lits.length lc, .slice ca m.code.length cc] 25 (0, 0)) := by rw [hW1]; exact heap_new _ _
  have hck := rcheck_at m la ca lc cc W1 (row_fr hcode hF1) (by omega)
  have HFO := Lib.hid (fun (hok : m.ok = true) (hop : ∀ i ∈ m.code, m.opOk i = true) W (hF : Fr [] w W) => flow_at m hok hop la ca lc cc W (row_fr hcode hF))
  have HOPS := Lib.hid (fun i (h : Ins.ok i = true) W => roperands_at m i la ca lc cc h W)
  have HCODE := Lib.hid hcode
  have HF1 := Lib.hid hF1
  have HB1 := Lib.hid hb1
  unfold Mth.v at hck HFO HOPS
  unfold Ins.v at HOPS
  unfold Mth.v
  obtain ⟨ll, hll⟩ : ∃ n, n = m.lits.length := ⟨_, rfl⟩
  obtain ⟨n, hN⟩ : ∃ n, n = m.code.length := ⟨_, rfl⟩
  rw [← hll, ← hN] at hck hW1 HB1 HFO HOPS ⊢
  have HNN := Lib.hid hN
  obtain ⟨en, hen⟩ : ∃ en : Int, en = if m.ok = true then 0 else 4 := ⟨_, rfl⟩
  rw [← hen] at hck
  have HW1 := Lib.hid hW1
  have k0 := cell_of_heap (o := 0) HB1.out rfl; have k1 := cell_of_heap (o := 1) HB1.out rfl; have k2 := cell_of_heap (o := 2) HB1.out rfl; have k3 := cell_of_heap (o := 3) HB1.out rfl; have k4 := cell_of_heap (o := 4) HB1.out rfl; have k5 := cell_of_heap (o := 5) HB1.out rfl
  go_enter Tryd.func8, Tryd.ntmps8
  by_cases hok : m.ok = true
  rotate_left
  · rw [if_neg hok] at hen
    subst hen
    have HTO : Hid (DepthsTo m [] (-1) 4) := Lib.hid (.no (by simpa using hok))
    clear hcode hF1 hb1 hll hN hok hW1 hcl
    go_wp2_with fail
    rw [← HW1.out]
    refine hck.mono ?_
    rintro e w2 ⟨rfl, hF2⟩
    have HF2 := Lib.hid (HF1.out.trans hF2)
    clear hF2 hck
    go_wp2_with fail
    go_ret3
    exact ⟨[], -1, 4, none, 0, HTO.out, rfl, HF2.out, fun j u hu => by simp at hu, fun _ h => by cases h⟩
  · rw [if_pos hok] at hen
    subst hen
    have HOK := Lib.hid hok
    have hn128 : n ≤ 128 := by rw [hN]; have := m.head_iff.1 (m.ok_iff.1 hok).1; omega
    have hn1 : 1 ≤ n := by rw [hN]; have := m.head_iff.1 (m.ok_iff.1 hok).1; omega
    clear hcode hF1 hb1 hll hN hok hW1 hcl
    go_wp2_with fail
    rw [← HW1.out]
    refine hck.mono ?_
    rintro e w2 ⟨rfl, hF2⟩
    have HF2 := Lib.hid hF2
    have HB2 := Lib.hid (hF2.heap (by simp) HB1.out)
    clear hF2 hck k0 k1 k2 k3 k4 k5
    go_wp2_with fail
    go_loopw [5] (fun i wr => ∃ k : Nat, k ≤ n ∧ i = .int .i64 k ∧ Hid (Fr [] W1 wr) ∧ Hid (∀ j, j < k → ∀ i, m.code[j]? = some i → m.opOk i = true)) (fun i _ => n - (intOf i).toNat)
    case atStart => exact ⟨0, Nat.zero_le _, rfl, HF2, Lib.hid fun j hj => absurd hj (Nat.not_lt_zero _)⟩
    case round =>
      obtain ⟨k, hk, rfl, hFk, hall⟩ := hrel
      have hbk := hFk.out.heap (by simp) HB1.out
      have k0 := cell_of_heap (o := 0) hbk rfl; have k1 := cell_of_heap (o := 1) hbk rfl; have k2 := cell_of_heap (o := 2) hbk rfl; have k3 := cell_of_heap (o := 3) hbk rfl; have k4 := cell_of_heap (o := 4) hbk rfl; have k5 := cell_of_heap (o := 5) hbk rfl
      by_cases hlt : k < n
      · have hkl : k < m.code.length := by rw [← HNN.out]; exact hlt
        obtain ⟨i, hi⟩ : ∃ i, m.code[k]? = some i := ⟨_, List.getElem?_eq_getElem hkl⟩
        have hio := (m.ok_iff.1 HOK.out).2 i (List.mem_of_getElem? hi)
        obtain ⟨f1, f2, f3⟩ := flatI_at hi
        obtain ⟨g, off, rfl, c1⟩ := HCODE.out _ _ f1
        obtain ⟨_, _, e2, c2⟩ := HCODE.out _ _ f2
        cases e2
        obtain ⟨_, _, e3, c3⟩ := HCODE.out _ _ f3
        cases e3
        have hFw := HF1.out.trans hFk.out
        have d1 := hFw.cell (by simp) c1
        have d2 := hFw.cell (by simp) c2
        have d3 := hFw.cell (by simp) c3
        rw [← Nat.add_assoc] at d2 d3
        have hco := HOPS.out i hio
        obtain ⟨B, hB⟩ : ∃ B, B = m.opOk i := ⟨_, rfl⟩
        rw [← hB] at hco
        have HCO := Lib.hid hco
        have HB := Lib.hid hB
        have HI := Lib.hid hi
        have z0 : (0 : Int) ≤ (k : Int) := by omega
        have z1 : (k : Int) < (n : Int) := by omega
        clear hkl hi hio f1 f2 f3 c1 c2 c3 hFw hB hbk hco
        cases B
        · have HTO : Hid (DepthsTo m [] k 4) := Lib.hid (.operand HOK.out HI.out HB.out.symm hall.out)
          go_wp2_with fail
          go_region_held3 (fun w' => w'.cell? ⟨w.heap.size, 0, none⟩ = some (.int .i64 m.args) ∧ w'.cell? ⟨w.heap.size, 1, none⟩ = some (.int .i64 m.temps) ∧ w'.cell? ⟨w.heap.size, 2, none⟩ = some (.int .i64 m.stack) ∧ w'.cell? ⟨w.heap.size, 3, none⟩ = some (.int .i64 m.prim) ∧ w'.cell? ⟨w.heap.size, 4, none⟩ = some (.slice la ll lc) ∧ w'.cell? ⟨w.heap.size, 5, none⟩ = some (.slice (some ⟨g, off, none⟩) n cc) ∧ w'.cell? ⟨g, off + k * 3, none⟩ = some (.int .i64 i.op) ∧ w'.cell? ⟨g, off + k * 3 + 1, none⟩ = some (.int .i64 i.a) ∧ w'.cell? ⟨g, off + k * 3 + 2, none⟩ = some (.int .i64 i.b))
            (first | exact ⟨HF4.out.cell (by simp) k0, HF4.out.cell (by simp) k1, HF4.out.cell (by simp) k2, HF4.out.cell (by simp) k3, HF4.out.cell (by simp) k4, HF4.out.cell (by simp) k5, HF4.out.cell (by simp) d1, HF4.out.cell (by simp) d2, HF4.out.cell (by simp) d3⟩ | go_keep)
            (first | (go_at_call 15; refine (HCO.out _).mono ?_; rintro e w4 ⟨rfl, hF4⟩; have HF4 : Hid (Fr [] wr w4) := (Fr.refl [] wr).drew.trans hF4; clear hF4))
          have HF5 := Lib.hid (HF1.out.trans (hFk.out.trans HF4.out))
          clear k0 k1 k2 k3 k4 k5 d1 d2 d3
          go_wp2_with fail
          go_ret3
          exact ⟨[], k, 4, none, 0, HTO.out, rfl, HF5.out, fun j u hu => by simp at hu, fun _ h => by cases h⟩
        · have HNX : Hid (∀ j, j < k + 1 → ∀ i, m.code[j]? = some i → m.opOk i = true) := Lib.hid fun j hj i' hi' => by
            by_cases e : j = k
            · subst e
              rw [HI.out] at hi'
              cases hi'
              exact HB.out.symm
            · exact hall.out j (by omega) i' hi'
          go_wp2_with fail
          go_region_held3 (fun w' => w'.cell? ⟨w.heap.size, 0, none⟩ = some (.int .i64 m.args) ∧ w'.cell? ⟨w.heap.size, 1, none⟩ = some (.int .i64 m.temps) ∧ w'.cell? ⟨w.heap.size, 2, none⟩ = some (.int .i64 m.stack) ∧ w'.cell? ⟨w.heap.size, 3, none⟩ = some (.int .i64 m.prim) ∧ w'.cell? ⟨w.heap.size, 4, none⟩ = some (.slice la ll lc) ∧ w'.cell? ⟨w.heap.size, 5, none⟩ = some (.slice (some ⟨g, off, none⟩) n cc) ∧ w'.cell? ⟨g, off + k * 3, none⟩ = some (.int .i64 i.op) ∧ w'.cell? ⟨g, off + k * 3 + 1, none⟩ = some (.int .i64 i.a) ∧ w'.cell? ⟨g, off + k * 3 + 2, none⟩ = some (.int .i64 i.b))
            (first | exact ⟨HF4.out.cell (by simp) k0, HF4.out.cell (by simp) k1, HF4.out.cell (by simp) k2, HF4.out.cell (by simp) k3, HF4.out.cell (by simp) k4, HF4.out.cell (by simp) k5, HF4.out.cell (by simp) d1, HF4.out.cell (by simp) d2, HF4.out.cell (by simp) d3⟩ | go_keep)
            (first | (go_at_call 15; refine (HCO.out _).mono ?_; rintro e w4 ⟨rfl, hF4⟩; have HF4 : Hid (Fr [] wr w4) := (Fr.refl [] wr).drew.trans hF4; clear hF4))
          have HF5 := Lib.hid (hFk.out.trans HF4.out)
          clear k0 k1 k2 k3 k4 k5 d1 d2 d3
          go_wp2_with fail
          go_roundw
          case rel => exact ⟨k + 1, by omega, by go_num, HF5, HNX⟩
          case measure => simp [intOf]; omega
      · have hkn : k = n := by omega
        subst hkn
        have hkd : decide ((k : Int) < (k : Int)) = false := by simp
        have HOP : Hid (∀ i ∈ m.code, m.opOk i = true) := Lib.hid fun i hi => by
          obtain ⟨j, hj⟩ := List.getElem?_of_mem hi
          exact hall.out j (by rw [HNN.out]; exact (List.getElem?_eq_some_iff.1 hj).1) i hj
        have hfo := HFO.out HOK.out HOP.out wr (HF1.out.trans hFk.out)
        have HFK := Lib.hid hFk.out
        clear hall hbk
        go_wp2_with fail
        refine hfo.mono ?_
        rintro e w5 ⟨A, B, atB, byB, hdr, hFl, hB, rfl, hF5, hhl, hat, hby, hrows⟩
        rw [← HNN.out]
        have HFL := Lib.hid hFl
        have HBE := Lib.hid hB
        have HF5 := Lib.hid hF5
        have HBM := Lib.hid (hF5.heap (by simp) (HFK.out.heap (by simp) HB1.out))
        have HAT := Lib.hid hat
        have HBY := Lib.hid hby
        have HRW := Lib.hid hrows
        have HHL := Lib.hid hhl
        have HFW := Lib.hid (HF1.out.trans (HFK.out.trans hF5))
        have HG0 : Hid (Grows w5 3 1 0 (((List.range 0).map m.depthAt).map (Value.int .i64)) (.slice none 0 0) w5) := Lib.hid ⟨World.ownsRow_nil _ _ _ _, Fr.refl _ _, fun b hb => by cases hb⟩
        obtain ⟨i1, hi1, hy0, hy1, hy2⟩ := info_parts infoI
        have hst : m.stack ≤ 16 := by have := m.head_iff.1 (m.ok_iff.1 HOK.out).1; omega
        have hst0 : 0 ≤ m.stack := by have := m.head_iff.1 (m.ok_iff.1 HOK.out).1; omega
        clear hFl hB hF5 hhl hat hby hrows hfo k0 k1 k2 k3 k4 k5
        go_wp2_with fail
        go_loopw [8, 9] (fun v i wq => ∃ q : Nat, q ≤ k ∧ i = .int .i64 q ∧ Hid (Grows w5 3 1 q (((List.range q).map m.depthAt).map (Value.int .i64)) v wq) ∧ Hid (∀ j, j < q → ¬ m.bad j)) (fun _ i _ => k - (intOf i).toNat)
        case atStart => exact ⟨0, Nat.zero_le _, rfl, HG0, Lib.hid fun j hj => absurd hj (Nat.not_lt_zero _)⟩
        case round =>
          obtain ⟨q, hq, rfl, hG, hnb⟩ := hrel
          obtain ⟨vo, vc, rfl⟩ := row_shape' hG.out.row
          have hbm := hG.out.fr.heap (by simp) HBM.out
          have y0 := cell_of_heap (o := 0) hbm rfl; have y1 := cell_of_heap (o := 1) hbm rfl; have y2 := cell_of_heap (o := 2) hbm rfl; have y3 := cell_of_heap (o := 3) hbm rfl; have y4 := cell_of_heap (o := 4) hbm rfl; have y5 := cell_of_heap (o := 5) hbm rfl
          by_cases hlt : q < k
          · have hql : q < m.code.length := by rw [← HNN.out]; exact hlt
            obtain ⟨i, hi⟩ : ∃ i, m.code[q]? = some i := ⟨_, List.getElem?_eq_getElem hql⟩
            have hio := (m.ok_iff.1 HOK.out).2 i (List.mem_of_getElem? hi)
            obtain ⟨f1, f2, f3⟩ := flatI_at hi
            obtain ⟨g, off, rfl, c1⟩ := HCODE.out _ _ f1
            obtain ⟨_, _, e2, c2⟩ := HCODE.out _ _ f2
            cases e2
            obtain ⟨_, _, e3, c3⟩ := HCODE.out _ _ f3
            cases e3
            have hFq := HFW.out.trans hG.out.fr
            have d1 := hFq.cell (by simp) c1
            have d2 := hFq.cell (by simp) c2
            have d3 := hFq.cell (by simp) c3
            rw [← Nat.add_assoc] at d2 d3
            have hhq : q < hdr.length := by rw [HHL.out]; exact hql
            have hv := List.getElem?_eq_getElem hhq
            have ho := HRW.out q _ hv
            obtain ⟨xa, xc, ev⟩ := row_shape' ho
            rw [ev] at hv ho
            have t1 := hG.out.fr.cell (p := ⟨atB, q, none⟩) (by simp) (cell_of_heap HAT.out (by simpa using hv))
            have t2 := hG.out.fr.cell (p := ⟨byB, q, none⟩) (by simp) (cell_of_heap HBY.out (v := .bool (B q)) (by simp [hql]))
            have HRO := Lib.hid (row_fr (row_rowAt ho) hG.out.fr)
            have HBI := Lib.hid (HFL.out.bad_iff hi)
            have HBQ := Lib.hid (HBE.out q hql)
            have HIO := Lib.hid hio
            have HI := Lib.hid hi
            have HQL := Lib.hid hql
            obtain ⟨al, hal⟩ : ∃ x, x = (A q).length := ⟨_, rfl⟩
            rw [← hal] at t1
            have HAL := Lib.hid hal
            have HBD : Hid (m.bad q → DepthsTo m [] q 4) := Lib.hid (fun hb => .bad HOK.out HOP.out hql hb hnb.out)
            have HFE := Lib.hid hFq
            have z0 : (0 : Int) ≤ (q : Int) := by omega
            have z1 : (q : Int) < (k : Int) := by omega
            clear hi hio f1 f2 f3 c1 c2 c3 hFq hhq hv ho ev hal hql hbm
            cases hBq : B q
            rotate_left
            · rw [hBq] at t2
              have HTO := Lib.hid (HBD.out (HBI.out.2 (.inl (HBQ.out.1 hBq))))
              go_wp2_with fail
              go_ret3
              exact ⟨[], q, 4, none, 0, HTO.out, rfl, HFE.out, fun j u hu => by simp at hu, fun _ h => by cases h⟩
            · rw [hBq] at t2
              have HNB : Hid (¬ m.beyond A q) := Lib.hid (fun h => by have := HBQ.out.2 h; rw [hBq] at this; cases this)
              by_cases h1 : 1 < al
              · have HTO := Lib.hid (HBD.out (HBI.out.2 (.inr (.inl (by rw [← HAL.out]; exact h1)))))
                have h1d : decide ((al : Int) > 1) = true := by simp; omega
                go_wp2_with fail
                go_ret3
                exact ⟨[], q, 4, none, 0, HTO.out, rfl, HFE.out, fun j u hu => by simp at hu, fun _ h => by cases h⟩
              · have h1d : decide ((al : Int) > 1) = false := by simp; omega
                have h1e : (al : Int) ≤ 1 := by omega
                by_cases h0 : al = 0
                · subst h0
                  have HA0 : Hid (A q = []) := Lib.hid (List.length_eq_zero_iff.1 HAL.out.symm)
                  have HNQ : Hid (¬ m.bad q) := Lib.hid (fun hb => by
                    rcases HBI.out.1 hb with h | h | ⟨d, h, -⟩
                    · exact HNB.out h
                    · rw [HA0.out] at h; simp at h
                    · rw [HA0.out] at h; cases h)
                  have HDN := Lib.hid (HFL.out.depth_none HA0.out)
                  have HR1 : Hid ((wr.alloc (.cells #[.int .i64 (-1)] 3)).ownsRow 0 3 1 (.slice vo q vc) q _) := ((Fr.refl [] _).alloc _).row hG.out.row (fun _ _ => by simp)
                  go_wp2_with (at_builtin; go_loud (refine wpList_append_at _ rfl (.tmp 64) (.tmp 65) 30 rfl 3 i1 (.int .i64 0) 1 8 Tryd.underlying30 hi1 hy0 hy1 hy2 rfl (by decide) (.slice vo q vc) q _ rfl HR1.out ⟨wr.heap.size, 0, none⟩ 1 1 [.int .i64 (-1)] rfl rfl (one_cellV _ _ _) (by simp [Value.oneCell']) (by unfold maxLen; omega) (by omega) ?_; intro v5 w5' ho5 hg5 hf5; obtain ⟨a5, p5, rfl⟩ := row_shape' ho5; have HGn := Lib.hid (hG.out.step ((Fr.refl _ _).alloc _) ho5 hg5 hf5); clear ho5 hg5 hf5))
                  have HGN : Hid (Grows w5 3 1 (q + 1) (((List.range (q + 1)).map m.depthAt).map (Value.int .i64)) (.slice a5 (q + 1) p5) w5') := Lib.hid (by rw [row_get, HDN.out, List.map_append]; exact HGn.out)
                  have HNB2 : Hid (∀ j, j < q + 1 → ¬ m.bad j) := Lib.hid (fun j hj => by
                    by_cases e : j = q
                    · subst e; exact HNQ.out
                    · exact hnb.out j (by omega))
                  go_roundw
                  case rel => exact ⟨q + 1, by omega, by go_num, HGN, HNB2⟩
                  case measure => simp [intOf]; omega
                · obtain rfl : al = 1 := by omega
                  obtain ⟨e, HA1⟩ : ∃ e, Hid (A q = [e]) := by
                    have h := HAL.out
                    match hA : A q with
                    | [] => rw [hA] at h; simp at h
                    | [e] => exact ⟨e, Lib.hid rfl⟩
                    | _ :: _ :: _ => rw [hA] at h; simp at h
                  have hro := HRO.out
                  rw [HA1.out] at hro
                  obtain ⟨g3, o3, rfl, c5⟩ := hro 0 (.int .i64 (e : Int)) rfl
                  rw [Nat.add_zero] at c5
                  clear hro
                  have hne := rneeds_at i HIO.out wr
                  unfold Ins.v at hne
                  obtain ⟨nd, hnd⟩ : ∃ x, x = i.need := ⟨_, rfl⟩
                  obtain ⟨lv, hlv⟩ : ∃ x, x = i.leave := ⟨_, rfl⟩
                  have hn1 := i.need_nn HIO.out
                  rw [← hnd, ← hlv] at hne
                  rw [← hnd, ← hlv] at hn1
                  have HWE : Hid (Way m q e) := Lib.hid (HFL.out.done.1 (by rw [HA1.out]; simp))
                  have he16 : (e : Int) ≤ 16 := by have := (HWE.out.lt HOK.out HOP.out).2; omega
                  have HFI : Hid (m.fine i e = true ↔ (nd ≤ e ∧ (e : Int) - nd + lv ≤ m.stack)) := Lib.hid (by unfold Mth.fine; rw [hnd, hlv]; simp)
                  have HC5 := Lib.hid c5
                  clear hnd hlv
                  go_wp2_with fail
                  refine hne.mono ?_
                  rintro e' w7 ⟨rfl, hF7⟩
                  have HF7 := Lib.hid hF7
                  have HBM7 := Lib.hid ((hG.out.fr.trans hF7).heap (by simp) HBM.out)
                  have s1 := hF7.cell (by simp) t1
                  have s2 := hF7.cell (by simp) HC5.out
                  clear hne d1 d2 d3 t1 t2 c5 y0 y1 y2 y3 y4 y5 hF7
                  have y0 := cell_of_heap (o := 0) HBM7.out rfl; have y1 := cell_of_heap (o := 1) HBM7.out rfl; have y2 := cell_of_heap (o := 2) HBM7.out rfl; have y3 := cell_of_heap (o := 3) HBM7.out rfl; have y4 := cell_of_heap (o := 4) HBM7.out rfl; have y5 := cell_of_heap (o := 5) HBM7.out rfl
                  by_cases hf : nd ≤ e ∧ (e : Int) - nd + lv ≤ m.stack
                  · have HNQ : Hid (¬ m.bad q) := Lib.hid (fun hb => by
                      rcases HBI.out.1 hb with h | h | ⟨d, h, h2⟩
                      · exact HNB.out h
                      · rw [HA1.out] at h; simp at h
                      · rw [HA1.out] at h
                        cases h
                        rw [HFI.out.2 hf] at h2
                        cases h2)
                    have HDN := Lib.hid (HFL.out.depth_one HNQ.out HA1.out)
                    obtain ⟨hlo, hhi⟩ := hf
                    have HR1 : Hid ((w7.alloc (.cells #[.int .i64 (e : Int)] 3)).ownsRow 0 3 1 (.slice vo q vc) q _) := (HF7.out.alloc _).row hG.out.row (fun _ _ => by simp)
                    go_wp2_with (at_builtin; go_loud (refine wpList_append_at _ rfl (.tmp 97) (.tmp 99) 30 rfl 3 i1 (.int .i64 0) 1 8 Tryd.underlying30 hi1 hy0 hy1 hy2 rfl (by decide) (.slice vo q vc) q _ rfl HR1.out ⟨w7.heap.size, 0, none⟩ 1 1 [.int .i64 (e : Int)] rfl rfl (one_cellV _ _ _) (by simp [Value.oneCell']) (by unfold maxLen; omega) (by omega) ?_; intro v5 w5' ho5 hg5 hf5; obtain ⟨a5, p5, rfl⟩ := row_shape' ho5; have HGn := Lib.hid (hG.out.step (HF7.out.alloc _) ho5 hg5 hf5); clear ho5 hg5 hf5))
                    have HGN : Hid (Grows w5 3 1 (q + 1) (((List.range (q + 1)).map m.depthAt).map (Value.int .i64)) (.slice a5 (q + 1) p5) w5') := Lib.hid (by rw [row_get, HDN.out, List.map_append]; exact HGn.out)
                    have HNB2 : Hid (∀ j, j < q + 1 → ¬ m.bad j) := Lib.hid (fun j hj => by
                      by_cases e : j = q
                      · subst e; exact HNQ.out
                      · exact hnb.out j (by omega))
                    go_roundw
                    case rel => exact ⟨q + 1, by omega, by go_num, HGN, HNB2⟩
                    case measure => simp [intOf]; omega
                  · have HTO := Lib.hid (HBD.out (HBI.out.2 (.inr (.inr ⟨e, HA1.out, by
                      cases hx : m.fine i e with
                      | false => rfl
                      | true => exact absurd (HFI.out.1 hx) hf⟩))))
                    have HFE7 := Lib.hid (HFE.out.trans HF7.out)
                    by_cases hlo : (e : Int) < nd
                    · go_wp2_with fail
                      go_ret3
                      exact ⟨[], q, 4, none, 0, HTO.out, rfl, HFE7.out, fun j u hu => by simp at hu, fun _ h => by cases h⟩
                    · have hhi : ¬ (e : Int) - nd + lv ≤ m.stack := fun h => hf ⟨by omega, h⟩
                      clear hf
                      go_wp2_with fail
                      go_ret3
                      exact ⟨[], q, 4, none, 0, HTO.out, rfl, HFE7.out, fun j u hu => by simp at hu, fun _ h => by cases h⟩
          · have hqe : q = k := by omega
            subst hqe
            have hqd : decide ((q : Int) < (q : Int)) = false := by simp
            have HGD : Hid (DepthsTo m m.depths (-1) 0) := Lib.hid (.good HOK.out HOP.out fun j hj => hnb.out j (by rw [HNN.out]; exact hj))
            have HFE := Lib.hid (HFW.out.trans hG.out.fr)
            have HRE : Hid (RowAt wr vo (m.depths.map (Value.int .i64))) := Lib.hid (by
              have h := row_rowAt hG.out.row
              unfold Mth.depths
              rw [← HNN.out]
              exact h)
            have HNE : Hid (∀ a, vo = some a → w.heap.size ≤ a.block) := Lib.hid (fun a ha => by
              rcases hG.out.row.2 with ⟨h0, -⟩ | ⟨g', cp, cur, e, -⟩
              · cases h0
                cases ha
              · cases e
                cases ha
                exact Nat.le_trans HFW.out.size (hG.out.new g' rfl))
            go_wp2_with fail
            go_ret3
            exact ⟨m.depths, -1, 0, vo, vc, HGD.out, by rw [m.depths_len, ← HNN.out]; rfl, HFE.out, HRE.out, HNE.out⟩
end Go.Proofs.YtcbplibbfoajgaaDoor
