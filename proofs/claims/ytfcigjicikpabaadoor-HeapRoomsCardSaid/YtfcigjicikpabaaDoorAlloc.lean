/- What the heap's Alloc does. -/
import Derived.Test.YtfcigjicikpabaaDoorHeap
import Derived.Test.YtfcigjicikpabaaDoorPlace2
namespace Go.Proofs.YtfcigjicikpabaaDoor
open Go.RowKit

theorem repeat_any (g : Nat) (N : Int) (x : Int) (w : World) (hc : w.cell? ⟨g, 0, none⟩ = some (.int .u64 x)) (h1 : 0 ≤ N) (h2 : N ≤ 512) :
    Calls Tryd.prog 28 #[.slice (some ⟨g, 0, none⟩) 1 1, .int .i64 N] w (Repeats N.toNat (.int .u64 x) w) := by
  by_cases h0 : N = 0
  · subst h0; exact repeat_none g x w
  · exact repeat_some g N x w hc (by omega) h2
section
variable {w : World} {hv : Value} {mb : Nat} {m : Mem} {wv sv : Value}
theorem alloc_fail (hO : Opens hv mb m wv sv w) (hg : Glob w) (x n y k : Int) (hA : ∀ w', MemAt w' mb m wv sv → Glob w' → Calls Tryd.prog 24 #[.pointer (some ⟨mb, 0, none⟩), .int .u64 x, .int .i64 n, .int .u64 y] w' (Fails k w')) :
    Calls Tryd.prog 6 #[hv, .int .u64 x, .int .i64 n, .int .u64 y] w (Still (.tuple #[.int .u64 0, .int .i64 k]) w) := by
  unfold Opens at hO
  have HG := Lib.hid hg
  have HA := Lib.hid hA
  clear hg hA
  go_enter Tryd.func6, Tryd.ntmps6
  go_wp2_with (first
    | (go_at_call 23; refine hO.mono ?_; rintro e w' ⟨rfl, hM, hF⟩; have hc := HA.out w' hM (HG.out.fr hF); have HF := Lib.hid hF; clear hM hF)
    | (go_at_call 24; refine hc.mono ?_; rintro e w'' ⟨s, rfl, hF2⟩; have HF2 := Lib.hid (HF.out.trans hF2); have he := errno_still s k w'' (HG.out.fr HF2.out); clear hF2)
    | (go_at_call 25; refine he.mono ?_; rintro e w3 ⟨rfl, hF3⟩))
  go_ret2
  exact ⟨rfl, HF2.out.trans hF3⟩
/-- Returned v; the heap's memory is m' now; nothing but the blocks of S has changed; its blocks are of S, or new. -/
def Turns (v : Value) (mb : Nat) (m' : Mem) (S : List Nat) (w : World) (e : Ending) (w' : World) : Prop :=
  e = .returned v ∧ ∃ wv' sv', MemAt w' mb m' wv' sv' ∧ Fr S w w' ∧ ∀ k ∈ foot mb wv' sv', k ∈ S ∨ w.heap.size ≤ k
theorem Fr.cons {S : List Nat} {a b c : World} (h : Fr [] a b) (k : Fr S b c) : Fr S a c := h.trans' k (fun _ _ e => by cases e) (fun _ _ e => e)
set_option maxHeartbeats 1000000 in
theorem alloc_ok (hO : Opens hv mb m wv sv w) (x n y : Int) (hpos : 0 < m.W.length) (hl : 1 ≤ m.lim) (hl2 : m.lim ≤ 65536) (n1 : 0 ≤ n) (n2 : n ≤ 512) (b1 : 0 ≤ x) (b2 : x ≤ 18446744073709551615) (b3 : 0 ≤ y) (b4 : y ≤ 18446744073709551615) (hok : okB m.M x = true) (hok2 : okB m.M y = true) (hf : m.W.length + 3 + n ≤ m.lim) :
    Calls Tryd.prog 6 #[hv, .int .u64 x, .int .i64 n, .int .u64 y] w (Turns (.tuple #[.int .u64 (2 * m.W.length), .int .i64 0]) mb (m.push x 0 (List.replicate n.toNat y)) (foot mb wv sv) w) := by
  unfold Opens at hO
  obtain ⟨L, hL⟩ : ∃ L : Nat, L = m.W.length := ⟨_, rfl⟩
  have L1 : 1 ≤ L := by omega
  have L2 : L ≤ 65536 := by omega
  have HL := Lib.hid hL
  rw [← hL]
  obtain ⟨S, hS⟩ : ∃ S, S = foot mb wv sv := ⟨_, rfl⟩
  have HS := Lib.hid hS
  rw [← hS]
  obtain ⟨fs, hfs⟩ : ∃ fs, fs = List.replicate n.toNat y := ⟨_, rfl⟩
  have HFS := Lib.hid hfs
  rw [← hfs]
  have HA : Hid (∀ w', MemAt w' mb m wv sv → Calls Tryd.prog 24 #[.pointer (some ⟨mb, 0, none⟩), .int .u64 x, .int .i64 n, .int .u64 y] w' (Still .nilIface w')) := fun w' hM => admit_ok hM x n y hl hl2 n1 n2 b1 b2 b3 b4 hok hok2 hf
  have HP : Hid (∀ w' b, MemAt w' mb m wv sv → w'.ownsRow 0 23 1 (.slice (some ⟨b, 0, none⟩) n.toNat n.toNat) n.toNat (List.replicate n.toNat (.int .u64 y)) → b ∉ S → Calls Tryd.prog 27 #[.pointer (some ⟨mb, 0, none⟩), .int .u64 x, .int .i64 0, .slice (some ⟨b, 0, none⟩) n.toNat n.toNat] w' (Acts (.int .i64 L) mb (m.push x 0 fs) S w')) := by
    intro w' b hM hrow hb
    have hp := place_some hM hpos x 0 b 0 n.toNat (List.replicate n.toNat y) (fun j u hu => by
      rw [List.map_replicate] at hu
      exact hrow.cells (g := b) rfl j u hu) (by rw [← hS]; exact hb) (by omega) (by omega) (by rw [List.length_replicate]; omega)
    rw [List.length_replicate, ← hS, ← hL, ← hfs] at hp
    exact hp
  have HR : Hid (∀ w' g, w'.cell? ⟨g, 0, none⟩ = some (.int .u64 y) → Calls Tryd.prog 28 #[.slice (some ⟨g, 0, none⟩) 1 1, .int .i64 n] w' (Repeats n.toNat (.int .u64 y) w')) := fun w' g hc => repeat_any g n y w' hc n1 n2
  clear hok hok2 hL hS hfs
  go_enter Tryd.func6, Tryd.ntmps6
  go_wp2_with (first
    | (go_at_call 23; refine hO.mono ?_; rintro e w1 ⟨rfl, hM, hF⟩; have hc := HA.out w1 hM; have HF := Lib.hid hF; have HM := Lib.hid hM; clear hM hF)
    | (go_at_call 24; refine hc.mono ?_; rintro e w2 ⟨rfl, hF2⟩; have HF2 := Lib.hid ((HF.out.trans hF2).alloc (.cells #[.int .u64 y] 23)); have HM2 := Lib.hid (HM.out.fr0 (hF2.alloc (.cells #[.int .u64 y] 23))); clear hF2; have hr := HR.out (w2.alloc (.cells #[.int .u64 y] 23)) w2.heap.size (by simp))
    | (go_at_call 28; refine hr.mono ?_; rintro e w3 ⟨b, rfl, hb, hrow, hF3⟩; have HM3 := Lib.hid (HM2.out.fr0 hF3); have HF3 := Lib.hid (HF2.out.trans hF3); have hp := HP.out w3 b HM3.out hrow (fun e => by rw [HS.out] at e; have := HM2.out.lt b e; omega); clear hrow hF3 hb)
    | (go_at_call 27; refine hp.mono ?_; rintro e w4 ⟨rfl, wv', sv', hM4, hF4, hfr⟩; have HM4 := Lib.hid hM4; have HF4 := Lib.hid hF4; have HFR := Lib.hid hfr; clear hM4 hF4 hfr)
    | (go_at_call 26; refine (wordFromRef L _ L1 (by omega)).mono ?_; rintro e w5 ⟨rfl, rfl⟩))
  go_ret2
  refine ⟨rfl, wv', sv', HM4.out, HF3.out.cons HF4.out, fun k hk => ?_⟩
  rcases HFR.out k hk with h' | h'
  · exact .inl h'
  · exact .inr (Nat.le_trans HF3.out.size h')
end
end Go.Proofs.YtfcigjicikpabaaDoor
