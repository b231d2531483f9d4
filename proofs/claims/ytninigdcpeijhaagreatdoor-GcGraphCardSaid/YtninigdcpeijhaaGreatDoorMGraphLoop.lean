/- Two heaps side by side, and the queue of pairs: what stays while hashes are given. -/
import Derived.Test.YtninigdcpeijhaaGreatDoorMSim
import Derived.Test.YtninigdcpeijhaaGreatDoorMGraphHash
namespace Go.Proofs.YtninigdcpeijhaaGreatDoor
open Go.RowKit

theorem sim_left {os : List Ob} {n root : Int} {keep : Int → Bool} {f : Int → Int} (g : GInv os n root keep f) : Sim os (leftObs keep os) f (fun v => keep v = true) := by
  have he : endOf os ≤ 65536 := by have := g.inv.fit; omega
  refine ⟨fun v hv => ?_, fun v v' hv hv' e => ?_⟩
  · obtain ⟨o, ho⟩ := Option.isSome_iff_exists.1 (g.ko v hv)
    have hm := look_moved ho hv
    rw [g.mv] at hm
    refine ⟨o, moveOb f o, ho, hm, rfl, rfl, fun y hy => ?_⟩
    have hok : okB (marksOf os) y = true := by
      have := (wordsOk_of g.wo).1 o (lookP_mem ho)
      rcases hy with rfl | hy
      · exact this.1
      · exact this.2 y hy
    cases hs : (lookP 1 os y).isSome with
    | true => exact .inl (g.cl v o ho hv y hy hs)
    | false =>
      right
      refine ⟨by rw [← g.mv]; exact move_word hs, ?_⟩
      rw [okB_look he, hs] at hok
      simpa [odd] using hok
  · rw [← g.mv] at e
    exact (move_inj (g.ko v hv) hv (g.ko v' hv') hv').1 e
theorem fits_word {os oh : List Ob} {n n' lim root x : Int} {keep : Int → Bool} {f : Int → Int} (g : GInv os n root keep f) (hI : OInv lim oh n') (hS : Sim os oh f (fun v => keep v = true)) (hx : WB x) (hok : okB (marksOf os) x = true) (hk : (lookP 1 os x).isSome = true → keep x = true) : Fits f (fun v => keep v = true) (x, f x) := by
  have he : endOf os ≤ 65536 := by have := g.inv.fit; omega
  refine fits_of hS hI hx ?_
  cases hs : (lookP 1 os x).isSome with
  | true => exact .inl (hk hs)
  | false =>
    right
    refine ⟨by rw [← g.mv]; exact move_word hs, ?_⟩
    rw [okB_look he, hs] at hok
    simpa [odd] using hok
/-- both heaps, the queue, and where the roots lead -/
structure GL (w : World) (gb gm hb hm : Nat) (root : Int) (keep : Int → Bool) (f : Int → Int) (va : Option Addr) (xs : List Int) (os : List Ob) (n : Int) (ps : List (Int × Int)) (g off cap : Nat) (wz : World) : Prop where
  gi : GInv os n root keep f
  hi : OInv 4096 (leftObs keep os) n
  ex : ∃ gwv gsv hwv hsv, HeapAt wz gb gm (absMem 4096 os root n) gwv gsv ∧ HeapAt wz hb hm (absMem 4096 (leftObs keep os) (f root) n) hwv hsv ∧ (∀ k ∈ foot gm gwv gsv, w.heap.size ≤ k) ∧ (∀ k ∈ foot hm hwv hsv, w.heap.size ≤ k) ∧ (∀ k ∈ foot gm gwv gsv, k ∉ foot hm hwv hsv) ∧ ∀ a, va = some a → a.block ∉ foot gm gwv gsv ∧ a.block ∉ foot hm hwv hsv
  que : Que wz g off cap ps
  new : w.heap.size ≤ g
  fr : Fr [] w wz
  aw : WordsAt wz va (xs.map f)
  ab : ∀ a, va = some a → a.block < wz.heap.size ∧ a.block ≠ g
section
variable {w wz w' : World} {gb gm hb hm : Nat} {root : Int} {keep : Int → Bool} {f : Int → Int} {va : Option Addr} {xs : List Int} {os : List Ob} {n : Int} {ps : List (Int × Int)} {g off cap : Nat}
theorem GL.still (h : GL w gb gm hb hm root keep f va xs os n ps g off cap wz) (hF : Fr [] wz w') : GL w gb gm hb hm root keep f va xs os n ps g off cap w' := by
  obtain ⟨gwv, gsv, hwv, hsv, h1, h2, h3⟩ := h.ex
  exact ⟨h.gi, h.hi, ⟨gwv, gsv, hwv, hsv, h1.fr hF (by simp) (fun _ _ => by simp), h2.fr hF (by simp) (fun _ _ => by simp), h3⟩, h.que.fr hF (by simp), h.new, h.fr.trans hF, h.aw.fr0 hF, fun a ha => ⟨Nat.lt_of_lt_of_le (h.ab a ha).1 hF.size, (h.ab a ha).2⟩⟩
theorem GL.push (h : GL w gb gm hb hm root keep f va xs os n ps g off cap wz) (x y : Int) (hn : ps.length < 1000000000) :
    ∃ g' off' cap' w', (Builtin.append_ #[60, 60] 60 #[.slice (some ⟨g, off, none⟩) ps.length cap, .slice (some ⟨wz.heap.size, 0, none⟩) 1 1]).run Tryz.prog (wz.alloc (.cells #[.int .u64 x, .int .u64 y] 59)) = .ok (.slice (some ⟨g', off', none⟩) (ps.length + 1) cap') w' ∧ GL w gb gm hb hm root keep f va xs os n (ps ++ [(x, y)]) g' off' cap' w' := by
  have h1 := h.still ((Fr.refl [] wz).alloc (.cells #[.int .u64 x, .int .u64 y] 59))
  obtain ⟨g', o', c', w', hr, hQ, hF, hg⟩ := h1.que.append (x, y) (ad := ⟨wz.heap.size, 0, none⟩) (c := 1) (two_cells wz x y) hn 60
  obtain ⟨gwv, gsv, hwv, hsv, e1, e2, e3⟩ := h1.ex
  obtain ⟨cur, hc, -⟩ := h1.que.row
  refine ⟨g', o', c', w', hr, h1.gi, h1.hi, ⟨gwv, gsv, hwv, hsv, ?_, ?_, e3⟩, hQ, ?_, h1.fr.join hF (fun j hj => by rw [List.mem_singleton] at hj; rw [hj]; exact h1.new), words_far h1.aw hF (fun _ a ha => by simpa using (h1.ab a ha).2), fun a ha => ⟨Nat.lt_of_lt_of_le (h1.ab a ha).1 hF.size, ?_⟩⟩
  · exact e1.fr hF (by simpa using tag_ne e1.heap hc (by decide)) (fun k hk hm => by rw [List.mem_singleton] at hm; rw [hm] at hk; exact tag_apart hc e1.mem (by decide) (by decide) (by decide) hk)
  · exact e2.fr hF (by simpa using tag_ne e2.heap hc (by decide)) (fun k hk hm => by rw [List.mem_singleton] at hm; rw [hm] at hk; exact tag_apart hc e2.mem (by decide) (by decide) (by decide) hk)
  · rcases hg with rfl | hg
    · exact h1.new
    · exact Nat.le_trans h1.fr.size hg
  · rcases hg with rfl | hg
    · exact (h1.ab a ha).2
    · have := (h1.ab a ha).1
      omega
/-- g.Hash(x), then h.Hash of where x leads: the same -/
theorem GL.hashes (hgl : Glob w) (h : GL w gb gm hb hm root keep f va xs os n ps g off cap wz) (x : Int) (hx : WB x) (hfx : WB (f x)) (hk : (lookP 1 os x).isSome = true → keep x = true) (hn : (lookP 1 os x).isSome = false → x = 0 ∨ x % 2 = 1) :
    Calls Tryz.prog 31 #[.pointer (some ⟨gb, 0, none⟩), .int .u64 x] wz fun e W1 => ∃ a er, e = .returned (.tuple #[.int .i64 a, .int .i64 er]) ∧ WordsAt W1 va (xs.map f) ∧ Fr [] w W1 ∧ Calls Tryz.prog 31 #[.pointer (some ⟨hb, 0, none⟩), .int .u64 (f x)] W1 fun e2 W2 => e2 = .returned (.tuple #[.int .i64 a, .int .i64 er]) ∧ ∃ os' n', (∀ y, (lookP 1 os' y).isSome = (lookP 1 os y).isSome) ∧ GL w gb gm hb hm root keep f va xs os' n' ps g off cap W2 := by
  obtain ⟨gwv, gsv, hwv, hsv, e1, e2, e3, e4, e5, e6⟩ := h.ex
  obtain ⟨cur, hc, -⟩ := h.que.row
  refine (hash_any (hgl.fr h.fr) h.gi.inv e1 x hx).mono ?_
  rintro e W1 ⟨a, er, os', n', gwv1, gsv1, rfl, hC1, hI1, hG1, hF1, hft1⟩
  have hHW1 : HeapAt W1 hb hm (absMem 4096 (leftObs keep os) (f root) n) hwv hsv := e2.fr hF1 (tag_apart e2.heap e1.mem (by decide) (by decide) (by decide)) (fun k hk hk' => e5 k hk' hk)
  have hFw1 : Fr [] w W1 := h.fr.join hF1 e3
  have hA1 : WordsAt W1 va (xs.map f) := words_far h.aw hF1 (fun _ a ha => (e6 a ha).1)
  refine ⟨a, er, rfl, hA1, hFw1, (hash_any (hgl.fr hFw1) h.hi hHW1 (f x) hfx).mono ?_⟩
  rintro e W2 ⟨a2, er2, oh', n2, hwv2, hsv2, rfl, hC2, hI2, hH2, hF2, hft2⟩
  obtain ⟨rfl, rfl, rfl, rfl, hGI⟩ := hash_both h.gi hI1 hk hn hC1 hC2
  have hlk : ∀ k ∈ foot hm hwv hsv, k < wz.heap.size := fun k hk => e2.mem.lt k hk
  have hgk : ∀ k ∈ foot gm gwv1 gsv1, w.heap.size ≤ k := fun k hk => (hft1 k hk).elim (e3 k) (fun h' => Nat.le_trans h.fr.size h')
  have hgd : ∀ k ∈ foot gm gwv1 gsv1, k ∉ foot hm hwv hsv := fun k hk hk' => (hft1 k hk).elim (fun h' => e5 k h' hk') (fun h' => by have := hlk k hk'; omega)
  have hgl1 : ∀ k ∈ foot gm gwv1 gsv1, k < W1.heap.size := fun k hk => hG1.mem.lt k hk
  have hdif : ∀ y, (lookP 1 os' y).isSome = (lookP 1 os y).isSome := fun y => by
    have i1 := hGI.inv.fit
    have i2 := h.gi.inv.fit
    rw [← stB_look (by omega), ← stB_look (by omega)]
    rcases hC1 with ⟨-, -, -, rfl, -⟩ | ⟨pre, o, post, rfl, -, ⟨-, -, -, rfl, -⟩ | ⟨-, -, -, -, rfl, -⟩ | ⟨-, -, -, -, rfl, -⟩⟩
    · rfl
    · rfl
    · rfl
    · rw [marks_set (o := o) (o' := (o.1, n + 1, o.2.2)) rfl]
  refine ⟨rfl, os', n2, hdif, hGI, hI2, ⟨gwv1, gsv1, hwv2, hsv2, hG1.fr hF2 (tag_apart hG1.heap hHW1.mem (by decide) (by decide) (by decide)) (fun k hk => hgd k hk), hH2, hgk, fun k hk => (hft2 k hk).elim (e4 k) (fun h' => Nat.le_trans hFw1.size h'), fun k hk hk' => (hft2 k hk').elim (hgd k hk) (fun h' => by have := hgl1 k hk; omega), fun a ha => ⟨fun hk => (hft1 _ hk).elim (e6 a ha).1 (fun h' => by have := (h.ab a ha).1; omega), fun hk => (hft2 _ hk).elim (e6 a ha).2 (fun h' => by have := (h.ab a ha).1; have := hF1.size; omega)⟩⟩, ?_, h.new, hFw1.join hF2 e4, words_far hA1 hF2 (fun _ a ha => (e6 a ha).2), fun a ha => ⟨by have := (h.ab a ha).1; have := hF1.size; have := hF2.size; omega, (h.ab a ha).2⟩⟩
  exact (h.que.fr hF1 (tag_apart hc e1.mem (by decide) (by decide) (by decide))).fr hF2 (tag_apart (hF1.heap (tag_apart hc e1.mem (by decide) (by decide) (by decide)) hc) hHW1.mem (by decide) (by decide) (by decide))
end
end Go.Proofs.YtninigdcpeijhaaGreatDoor
