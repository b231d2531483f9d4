/- gen: the generator in memory, and what each store leaves of it. gen: sources, and the notes: one more, fewer, the uppermost. gen: instructions are added; a word is brought home. gen: a word is brought home. gen: the stack is brought home. gen: a temporary is popped; instructions that do nothing but push, pop and store. -/
import Derived.Test.YtomcfjckhajhmabGreatDoorMIrB
import Derived.Test.YtomcfjckhajhmabGreatDoorMGenA
import Derived.Test.YtomcfjckhajhmabGreatDoorMCodeA
import Derived.Deep.QuietTactic
import Derived.BigQuiet
import Derived.RegionTactic
import Derived.BigRegion
import Derived.Deep.RegionHeld3
namespace Go.Proofs.YtomcfjckhajhmabGreatDoor
open Go.RowKit

/-- what a generator does not turn: the method, its depths, its leaders -/
structure GK where
  m : Mth
  la : Option Addr
  lc : Nat
  ca : Option Addr
  cc : Nat
  da : Option Addr
  dl : Nat
  dc : Nat
  ea : Option Addr
  el : Nat
  ec : Nat
  ma : Option Addr
  mc : Nat
def gcells (κ : GK) (na : Option Addr) (n nc : Nat) (u : Un) : Array Value := #[.int .i64 κ.m.args, .int .i64 κ.m.temps, .int .i64 κ.m.stack, .int .i64 κ.m.prim, .slice κ.la κ.m.lits.length κ.lc, .slice κ.ca κ.m.code.length κ.cc, .slice κ.da κ.dl κ.dc, .slice κ.ea κ.el κ.ec, .slice na n nc, .int .u64 u.method, .int .i64 u.args, .int .i64 u.temps, .int .i64 u.regs, .int .i64 u.spills, .int .i64 u.sites, .slice u.ea u.enter.length u.ec, .slice u.ca u.code.length u.cc, .slice u.sa u.starts.length u.sc, .slice u.ma u.maps.length u.mc]
def ownA (a : Option Addr) : Option Nat := a.map Addr.block
theorem own_is (a : Option Addr) (n c : Nat) : (Value.slice a n c).ownBlock = ownA a := by cases a <;> rfl
/-- sources that lie nowhere among the notes -/
def SrcK (lo : Nat) (W : World) (na a : Option Addr) (l : List Sr) (c : Nat) : Prop := SlOk a l.length c ∧ (l = [] ∨ ∃ g, a = some ⟨g, 0, none⟩ ∧ lo ≤ g ∧ ownA na ≠ some g ∧ RowB W g 57 (flatS l))
/-- A generator at gb, made before w1: what is noted, its unit so far; blocks beside it. -/
structure GAt (κ : GK) (w1 : World) (gb : Nat) (X : List (Nat × Obj)) (na : Option Addr) (nc : Nat) (N : List Sr) (u : Un) (W : World) : Prop where
  mk9 : u.ma = κ.ma ∧ u.mc = κ.mc
  fr : Fr [gb] w1 W
  old : gb < w1.heap.size
  box : W.heap[gb]? = some (.cells (gcells κ na N.length nc u) 100 (0, 0))
  notes : W.ownsRow 0 57 3 (.slice na N.length nc) N.length (flatS N)
  code : W.ownsRow 0 59 7 (.slice u.ca u.code.length u.cc) u.code.length (flat7 u.code)
  starts : W.ownsRow 0 3 1 (.slice u.sa u.starts.length u.sc) u.starts.length (flatN u.starts)
  maps : W.ownsRow 0 54 1 (.slice u.ma u.maps.length u.mc) u.maps.length (flatMp u.maps)
  nw : ∀ b, ownA na = some b ∨ ownA u.ca = some b ∨ ownA u.sa = some b ∨ ownA u.ma = some b → w1.heap.size ≤ b
  ls : ∀ i ∈ u.code, SrcK w1.heap.size W na i.la i.l i.lc
  ms : ∀ q ∈ u.maps, SrcK w1.heap.size W na q.a q.l q.c
  keep : ∀ x ∈ X, W.heap[x.1]? = some x.2 ∧ x.1 ≠ gb ∧ ownA na ≠ some x.1 ∧ ownA u.ca ≠ some x.1 ∧ ownA u.sa ≠ some x.1 ∧ ownA u.ma ≠ some x.1
theorem own_blk {W : World} {e : TypeId} {size n c k : Nat} {a : Option Addr} {xs : List Value} (h : W.ownsRow 0 e size (.slice a n c) k xs) {b : Nat} (hb : ownA a = some b) : ∃ cur, W.heap[b]? = some (.cells cur e (0, 0)) := by
  rcases h.2 with ⟨hv, -⟩ | ⟨g, cap, cur, hv, -, hg, -⟩
  · cases hv
    cases hb
  · cases hv
    cases hb
    exact ⟨cur, hg⟩
theorem own_ne {W : World} {e e2 : TypeId} {size n c k size2 n2 c2 k2 : Nat} {a a2 : Option Addr} {xs xs2 : List Value} (h : W.ownsRow 0 e size (.slice a n c) k xs) (h2 : W.ownsRow 0 e2 size2 (.slice a2 n2 c2) k2 xs2) (hT : e ≠ e2) {b : Nat} (hb : ownA a = some b) : ownA a2 ≠ some b := by
  intro hb2
  obtain ⟨cur, hc⟩ := own_blk h hb
  obtain ⟨cur2, hc2⟩ := own_blk h2 hb2
  rw [hc] at hc2
  cases hc2
  exact hT rfl
theorem own_gen {W : World} {e : TypeId} {size n c k gb : Nat} {a : Option Addr} {xs : List Value} {cur : Array Value} (h : W.ownsRow 0 e size (.slice a n c) k xs) (hb : W.heap[gb]? = some (.cells cur 100 (0, 0))) (hT : e ≠ 100) : ownA a ≠ some gb := by
  intro hb2
  obtain ⟨cur2, hc2⟩ := own_blk h hb2
  rw [hb] at hc2
  cases hc2
  exact hT rfl
theorem RowB.fr2 {w w' : World} {g : Nat} {T : TypeId} {vals : List Value} {S : List Nat} (h : RowB w g T vals) (hn : g ∉ S) (hF : Fr S w w') : RowB w' g T vals :=
  let ⟨cur, hc, hr⟩ := h
  ⟨cur, hF.heap hn hc, hr⟩
section
variable {κ : GK} {w1 : World} {gb : Nat} {X : List (Nat × Obj)} {na : Option Addr} {nc : Nat} {N : List Sr} {u : Un} {W : World}
/-- only blocks of the generator turned, and what it holds then is known -/
theorem GAt.mk2 (h : GAt κ w1 gb X na nc N u W) {κ' : GK} {S : List Nat} {W' : World} (hF : Fr S W W') {na' : Option Addr} {nc' : Nat} {N' : List Sr} {u' : Un} (hm9 : u'.ma = κ'.ma ∧ u'.mc = κ'.mc)
    (hS : ∀ b ∈ S, b = gb ∨ ownA na = some b ∨ ownA u.ca = some b ∨ ownA u.sa = some b ∨ ownA u.ma = some b)
    (hbox : W'.heap[gb]? = some (.cells (gcells κ' na' N'.length nc' u') 100 (0, 0)))
    (hn : W'.ownsRow 0 57 3 (.slice na' N'.length nc') N'.length (flatS N'))
    (hc : W'.ownsRow 0 59 7 (.slice u'.ca u'.code.length u'.cc) u'.code.length (flat7 u'.code))
    (hs : W'.ownsRow 0 3 1 (.slice u'.sa u'.starts.length u'.sc) u'.starts.length (flatN u'.starts))
    (hm : W'.ownsRow 0 54 1 (.slice u'.ma u'.maps.length u'.mc) u'.maps.length (flatMp u'.maps))
    (n1 : ∀ b, ownA na' = some b → ownA na = some b ∨ W.heap.size ≤ b) (n2 : ∀ b, ownA u'.ca = some b → ownA u.ca = some b ∨ W.heap.size ≤ b) (n3 : ∀ b, ownA u'.sa = some b → ownA u.sa = some b ∨ W.heap.size ≤ b) (n4 : ∀ b, ownA u'.ma = some b → ownA u.ma = some b ∨ W.heap.size ≤ b)
    (hl : ∀ i ∈ u'.code, i ∈ u.code ∨ SrcK w1.heap.size W na i.la i.l i.lc) (hq : ∀ q ∈ u'.maps, q ∈ u.maps ∨ SrcK w1.heap.size W na q.a q.l q.c) : GAt κ' w1 gb X na' nc' N' u' W' := by
  have hsrc : ∀ {a : Option Addr} {l : List Sr} {c : Nat}, SrcK w1.heap.size W na a l c → SrcK w1.heap.size W' na' a l c := by
    rintro a l c ⟨h1, h2⟩
    refine ⟨h1, h2.imp id ?_⟩
    rintro ⟨g, e, hlo, hne, hR⟩
    have hgS : g ∉ S := by
      intro hg
      obtain ⟨cur, hcur, -⟩ := hR
      rcases hS g hg with rfl | h9 | h9 | h9 | h9
      · rw [h.box] at hcur; cases hcur
      · exact hne h9
      · obtain ⟨c2, hc2⟩ := own_blk h.code h9; rw [hcur] at hc2; cases hc2
      · obtain ⟨c2, hc2⟩ := own_blk h.starts h9; rw [hcur] at hc2; cases hc2
      · obtain ⟨c2, hc2⟩ := own_blk h.maps h9; rw [hcur] at hc2; cases hc2
    refine ⟨g, e, hlo, fun h9 => ?_, hR.fr2 hgS hF⟩
    have := hR.lt
    rcases n1 g h9 with h8 | h8
    · exact hne h8
    · omega
  refine ⟨hm9, ?_, h.old, hbox, hn, hc, hs, hm, ?_, ?_, ?_, ?_⟩
  · refine h.fr.trans' hF (fun j _ hj => hj) (fun j hj hjS => ?_)
    rcases hS j hjS with rfl | h9 | h9 | h9 | h9
    · simp
    · exact absurd (h.nw j (.inl h9)) (by omega)
    · exact absurd (h.nw j (.inr (.inl h9))) (by omega)
    · exact absurd (h.nw j (.inr (.inr (.inl h9)))) (by omega)
    · exact absurd (h.nw j (.inr (.inr (.inr h9)))) (by omega)
  · have hsz := h.fr.size
    rintro b (h9 | h9 | h9 | h9)
    · rcases n1 b h9 with h8 | h8
      · exact h.nw b (.inl h8)
      · omega
    · rcases n2 b h9 with h8 | h8
      · exact h.nw b (.inr (.inl h8))
      · omega
    · rcases n3 b h9 with h8 | h8
      · exact h.nw b (.inr (.inr (.inl h8)))
      · omega
    · rcases n4 b h9 with h8 | h8
      · exact h.nw b (.inr (.inr (.inr h8)))
      · omega
  · intro i hi
    rcases hl i hi with h9 | h9
    · exact hsrc (h.ls i h9)
    · exact hsrc h9
  · intro i hi
    rcases hq i hi with h9 | h9
    · exact hsrc (h.ms i h9)
    · exact hsrc h9
  · intro x hx
    obtain ⟨k1, k2, k3, k4, k5, k6⟩ := h.keep x hx
    have hlt := lt_of_heap k1
    refine ⟨hF.heap (fun hxS => ?_) k1, k2, fun h9 => ?_, fun h9 => ?_, fun h9 => ?_, fun h9 => ?_⟩
    · rcases hS _ hxS with h9 | h9 | h9 | h9 | h9
      · exact k2 h9
      · exact k3 h9
      · exact k4 h9
      · exact k5 h9
      · exact k6 h9
    · rcases n1 _ h9 with h8 | h8
      · exact k3 h8
      · omega
    · rcases n2 _ h9 with h8 | h8
      · exact k4 h8
      · omega
    · rcases n3 _ h9 with h8 | h8
      · exact k5 h8
      · omega
    · rcases n4 _ h9 with h8 | h8
      · exact k6 h8
      · omega
theorem GAt.fr0 (h : GAt κ w1 gb X na nc N u W) {W' : World} (hF : Fr [] W W') : GAt κ w1 gb X na nc N u W' :=
  h.mk2 hF h.mk9 (fun b hb => by simp at hb) (hF.heap (by simp) h.box) (hF.row h.notes (fun _ _ => by simp)) (hF.row h.code (fun _ _ => by simp)) (hF.row h.starts (fun _ _ => by simp)) (hF.row h.maps (fun _ _ => by simp)) (fun _ h => .inl h) (fun _ h => .inl h) (fun _ h => .inl h) (fun _ h => .inl h) (fun _ h => .inl h) (fun _ h => .inl h)
/-- one more block beside it -/
theorem GAt.more (h : GAt κ w1 gb X na nc N u W) {b : Nat} {o : Obj} (hF : Fr [] w1 W → True) (hb : W.heap[b]? = some o) (h1 : b ≠ gb) (h2 : ownA na ≠ some b) (h3 : ownA u.ca ≠ some b) (h4 : ownA u.sa ≠ some b) (h5 : ownA u.ma ≠ some b) : GAt κ w1 gb ((b, o) :: X) na nc N u W :=
  ⟨h.mk9, h.fr, h.old, h.box, h.notes, h.code, h.starts, h.maps, h.nw, h.ls, h.ms, fun x hx => by
    rcases List.mem_cons.1 hx with rfl | hx
    · exact ⟨hb, h1, h2, h3, h4, h5⟩
    · exact h.keep x hx⟩
theorem GAt.less (h : GAt κ w1 gb X na nc N u W) {Y : List (Nat × Obj)} (hY : ∀ x ∈ Y, x ∈ X) : GAt κ w1 gb Y na nc N u W :=
  ⟨h.mk9, h.fr, h.old, h.box, h.notes, h.code, h.starts, h.maps, h.nw, h.ls, h.ms, fun x hx => h.keep x (hY x hx)⟩
theorem GAt.own_lt (h : GAt κ w1 gb X na nc N u W) : (∀ b, ownA na = some b → b < W.heap.size) ∧ (∀ b, ownA u.ca = some b → b < W.heap.size) ∧ (∀ b, ownA u.sa = some b → b < W.heap.size) ∧ (∀ b, ownA u.ma = some b → b < W.heap.size) :=
  ⟨fun _ hb => let ⟨_, hc⟩ := own_blk h.notes hb; lt_of_heap hc, fun _ hb => let ⟨_, hc⟩ := own_blk h.code hb; lt_of_heap hc, fun _ hb => let ⟨_, hc⟩ := own_blk h.starts hb; lt_of_heap hc, fun _ hb => let ⟨_, hc⟩ := own_blk h.maps hb; lt_of_heap hc⟩
/-- new memory beside it -/
theorem GAt.alloc (h : GAt κ w1 gb X na nc N u W) (o : Obj) : GAt κ w1 gb ((W.heap.size, o) :: X) na nc N u (W.alloc o) := by
  obtain ⟨l1, l2, l3, l4⟩ := h.own_lt
  have hgb := lt_of_heap h.box
  exact (h.fr0 ((Fr.refl [] W).alloc o)).more (fun _ => trivial) (heap_new _ _) (by omega) (fun e => by have := l1 _ e; omega) (fun e => by have := l2 _ e; omega) (fun e => by have := l3 _ e; omega) (fun e => by have := l4 _ e; omega)
theorem GAt.gen_ne (h : GAt κ w1 gb X na nc N u W) : ownA na ≠ some gb ∧ ownA u.ca ≠ some gb ∧ ownA u.sa ≠ some gb ∧ ownA u.ma ≠ some gb :=
  ⟨own_gen h.notes h.box (by decide), own_gen h.code h.box (by decide), own_gen h.starts h.box (by decide), own_gen h.maps h.box (by decide)⟩
theorem grown_fr {W w5 : World} {row : Option Nat} (hg : W.grownBy w5 row) (gb k : Nat) (v : Value) : Fr (gb :: row.toList) W (w5.setCell ⟨gb, k, none⟩ v) :=
  ((Fr.refl _ _).grown hg (fun j hj _ => by simp [hj])).setCell (fun _ => by simp) v
theorem grown_box {W w5 : World} {row : Option Nat} {gb : Nat} {o : Obj} (hg : W.grownBy w5 row) (hb : W.heap[gb]? = some o) (hn : row ≠ some gb) : w5.heap[gb]? = some o := (hg.block gb (lt_of_heap hb) (fun e => hn e.symm)).trans hb
theorem setCell_row {w5 : World} {gb k : Nat} {v : Value} {e : TypeId} {size n c j : Nat} {a : Option Addr} {xs : List Value} (h : w5.ownsRow 0 e size (.slice a n c) j xs) (hn : ownA a ≠ some gb) : (w5.setCell ⟨gb, k, none⟩ v).ownsRow 0 e size (.slice a n c) j xs :=
  ((Fr.refl [gb] w5).setCell (fun _ => by simp) v).row h (fun b hb hin => by
    rw [own_is] at hb
    simp only [List.mem_singleton] at hin
    subst hin
    exact hn hb)
theorem mem_tl {b gb : Nat} {row : Option Nat} (h : b ∈ gb :: row.toList) : b = gb ∨ row = some b := by
  rcases List.mem_cons.1 h with h | h
  · exact .inl h
  · exact .inr (by simpa using h)
/-- one more note -/
theorem GAt.pushed (h : GAt κ w1 gb X na nc N u W) {w5 : World} {na' : Option Addr} {nc' : Nat} (s : Sr) (ho : w5.ownsRow 0 57 3 (.slice na' (N.length + 1) nc') (N.length + 1) (flatS N ++ [.int .i64 s.kind, .int .i64 s.n, .int .u64 s.w])) (hg : W.grownBy w5 (Value.slice na N.length nc).ownBlock) (hf : (Value.slice na' (N.length + 1) nc').ownBlock = (Value.slice na N.length nc).ownBlock ∨ (Value.slice na' (N.length + 1) nc').ownBlock = some W.heap.size) : GAt κ w1 gb X na' nc' (N ++ [s]) u (w5.setCell ⟨gb, 8, none⟩ (.slice na' (N.length + 1) nc')) := by
  rw [own_is] at hg
  rw [own_is, own_is] at hf
  obtain ⟨g1, g2, g3, g4⟩ := h.gen_ne
  have hgb := lt_of_heap h.box
  have hF := grown_fr hg gb 8 (.slice na' (N.length + 1) nc')
  have hna : ownA na' ≠ some gb := by
    rcases hf with hf | hf
    · rw [hf]; exact g1
    · rw [hf]; simp; omega
  have hlen : (N ++ [s]).length = N.length + 1 := by simp
  have hfl : flatS (N ++ [s]) = flatS N ++ [.int .i64 s.kind, .int .i64 s.n, .int .u64 s.w] := flatS_snoc N s
  have hap : ∀ {e : TypeId} {size n c k : Nat} {a : Option Addr} {xs : List Value}, W.ownsRow 0 e size (.slice a n c) k xs → (57 : TypeId) ≠ e → ownA a ≠ some gb → ∀ b, (Value.slice a n c).ownBlock = some b → b ∉ gb :: (ownA na).toList := by
    intro e size n c k a xs h2 hT hg2 b hb hin
    rw [own_is] at hb
    rcases mem_tl hin with rfl | h9
    · exact hg2 hb
    · exact own_ne h.notes h2 hT h9 hb
  refine h.mk2 hF h.mk9 (fun b hb => (mem_tl hb).imp id .inl) ?_ ?_ (hF.row h.code (hap h.code (by decide) g2)) (hF.row h.starts (hap h.starts (by decide) g3)) (hF.row h.maps (hap h.maps (by decide) g4)) (fun b hb => ?_) (fun _ h => .inl h) (fun _ h => .inl h) (fun _ h => .inl h) (fun _ h => .inl h) (fun _ h => .inl h)
  · rw [hlen]
    exact heap_setCell_same (grown_box hg h.box g1) _
  · rw [hlen, hfl]
    exact setCell_row ho hna
  · rcases hf with hf | hf
    · exact .inl (hf ▸ hb)
    · rw [hf] at hb; cases hb; exact .inr (Nat.le_refl _)
/-- one more instruction -/
theorem GAt.added (h : GAt κ w1 gb X na nc N u W) {w5 : World} {ca' : Option Addr} {cc' : Nat} (i : Ii) (hi : SrcK w1.heap.size W na i.la i.l i.lc) (ho : w5.ownsRow 0 59 7 (.slice ca' (u.code.length + 1) cc') (u.code.length + 1) (flat7 u.code ++ flat7 [i])) (hg : W.grownBy w5 (Value.slice u.ca u.code.length u.cc).ownBlock) (hf : (Value.slice ca' (u.code.length + 1) cc').ownBlock = (Value.slice u.ca u.code.length u.cc).ownBlock ∨ (Value.slice ca' (u.code.length + 1) cc').ownBlock = some W.heap.size) : GAt κ w1 gb X na nc N { u with ca := ca', code := u.code ++ [i], cc := cc' } (w5.setCell ⟨gb, 16, none⟩ (.slice ca' (u.code.length + 1) cc')) := by
  rw [own_is] at hg
  rw [own_is, own_is] at hf
  obtain ⟨g1, g2, g3, g4⟩ := h.gen_ne
  have hgb := lt_of_heap h.box
  have hF := grown_fr hg gb 16 (.slice ca' (u.code.length + 1) cc')
  have hna : ownA ca' ≠ some gb := by
    rcases hf with hf | hf
    · rw [hf]; exact g2
    · rw [hf]; simp; omega
  have hlen : (u.code ++ [i]).length = u.code.length + 1 := by simp
  have hfl : flat7 (u.code ++ [i]) = flat7 u.code ++ flat7 [i] := by simp [flat7]
  have hap : ∀ {e : TypeId} {size n c k : Nat} {a : Option Addr} {xs : List Value}, W.ownsRow 0 e size (.slice a n c) k xs → (59 : TypeId) ≠ e → ownA a ≠ some gb → ∀ b, (Value.slice a n c).ownBlock = some b → b ∉ gb :: (ownA u.ca).toList := by
    intro e size n c k a xs h2 hT hg2 b hb hin
    rw [own_is] at hb
    rcases mem_tl hin with rfl | h9
    · exact hg2 hb
    · exact own_ne h.code h2 hT h9 hb
  refine h.mk2 hF h.mk9 (fun b hb => (mem_tl hb).imp id (fun h => .inr (.inl h))) ?_ (hF.row h.notes (hap h.notes (by decide) g1)) ?_ (hF.row h.starts (hap h.starts (by decide) g3)) (hF.row h.maps (hap h.maps (by decide) g4)) (fun _ h => .inl h) (fun b hb => ?_) (fun _ h => .inl h) (fun _ h => .inl h) (fun j hj => ?_) (fun _ h => .inl h)
  · simp only [gcells, hlen]
    exact heap_setCell_same (grown_box hg h.box g2) _
  · simp only [hlen, hfl]
    exact setCell_row ho hna
  · rcases hf with hf | hf
    · exact .inl (hf ▸ hb)
    · rw [hf] at hb; cases hb; exact .inr (Nat.le_refl _)
  · rcases List.mem_append.1 hj with hj | hj
    · exact .inl hj
    · simp only [List.mem_singleton] at hj
      subst hj
      exact .inr hi
/-- where one more instruction begins -/
theorem GAt.started (h : GAt κ w1 gb X na nc N u W) {w5 : World} {sa' : Option Addr} {sc' : Nat} (n : Int) (ho : w5.ownsRow 0 3 1 (.slice sa' (u.starts.length + 1) sc') (u.starts.length + 1) (flatN u.starts ++ [.int .i64 n])) (hg : W.grownBy w5 (Value.slice u.sa u.starts.length u.sc).ownBlock) (hf : (Value.slice sa' (u.starts.length + 1) sc').ownBlock = (Value.slice u.sa u.starts.length u.sc).ownBlock ∨ (Value.slice sa' (u.starts.length + 1) sc').ownBlock = some W.heap.size) : GAt κ w1 gb X na nc N { u with sa := sa', starts := u.starts ++ [n], sc := sc' } (w5.setCell ⟨gb, 17, none⟩ (.slice sa' (u.starts.length + 1) sc')) := by
  rw [own_is] at hg
  rw [own_is, own_is] at hf
  obtain ⟨g1, g2, g3, g4⟩ := h.gen_ne
  have hgb := lt_of_heap h.box
  have hF := grown_fr hg gb 17 (.slice sa' (u.starts.length + 1) sc')
  have hna : ownA sa' ≠ some gb := by
    rcases hf with hf | hf
    · rw [hf]; exact g3
    · rw [hf]; simp; omega
  have hlen : (u.starts ++ [n]).length = u.starts.length + 1 := by simp
  have hfl : flatN (u.starts ++ [n]) = flatN u.starts ++ [.int .i64 n] := by simp [flatN]
  have hap : ∀ {e : TypeId} {size n c k : Nat} {a : Option Addr} {xs : List Value}, W.ownsRow 0 e size (.slice a n c) k xs → (3 : TypeId) ≠ e → ownA a ≠ some gb → ∀ b, (Value.slice a n c).ownBlock = some b → b ∉ gb :: (ownA u.sa).toList := by
    intro e size n c k a xs h2 hT hg2 b hb hin
    rw [own_is] at hb
    rcases mem_tl hin with rfl | h9
    · exact hg2 hb
    · exact own_ne h.starts h2 hT h9 hb
  refine h.mk2 hF h.mk9 (fun b hb => (mem_tl hb).imp id (fun h => .inr (.inr (.inl h)))) ?_ (hF.row h.notes (hap h.notes (by decide) g1)) (hF.row h.code (hap h.code (by decide) g2)) ?_ (hF.row h.maps (hap h.maps (by decide) g4)) (fun _ h => .inl h) (fun _ h => .inl h) (fun b hb => ?_) (fun _ h => .inl h) (fun _ h => .inl h) (fun _ h => .inl h)
  · simp only [gcells, hlen]
    exact heap_setCell_same (grown_box hg h.box g3) _
  · simp only [hlen, hfl]
    exact setCell_row ho hna
  · rcases hf with hf | hf
    · exact .inl (hf ▸ hb)
    · rw [hf] at hb; cases hb; exact .inr (Nat.le_refl _)
/-- one more map -/
theorem GAt.mapped (h : GAt κ w1 gb X na nc N u W) {w5 : World} {ma' : Option Addr} {mc' : Nat} (q : Mp) (hi : SrcK w1.heap.size W na q.a q.l q.c) (ho : w5.ownsRow 0 54 1 (.slice ma' (u.maps.length + 1) mc') (u.maps.length + 1) (flatMp u.maps ++ [.slice q.a q.l.length q.c])) (hg : W.grownBy w5 (Value.slice u.ma u.maps.length u.mc).ownBlock) (hf : (Value.slice ma' (u.maps.length + 1) mc').ownBlock = (Value.slice u.ma u.maps.length u.mc).ownBlock ∨ (Value.slice ma' (u.maps.length + 1) mc').ownBlock = some W.heap.size) : GAt { κ with ma := ma', mc := mc' } w1 gb X na nc N { u with ma := ma', maps := u.maps ++ [q], mc := mc' } (w5.setCell ⟨gb, 18, none⟩ (.slice ma' (u.maps.length + 1) mc')) := by
  rw [own_is] at hg
  rw [own_is, own_is] at hf
  obtain ⟨g1, g2, g3, g4⟩ := h.gen_ne
  have hgb := lt_of_heap h.box
  have hF := grown_fr hg gb 18 (.slice ma' (u.maps.length + 1) mc')
  have hna : ownA ma' ≠ some gb := by
    rcases hf with hf | hf
    · rw [hf]; exact g4
    · rw [hf]; simp; omega
  have hlen : (u.maps ++ [q]).length = u.maps.length + 1 := by simp
  have hfl : flatMp (u.maps ++ [q]) = flatMp u.maps ++ [.slice q.a q.l.length q.c] := by simp [flatMp, Mp.v]
  have hap : ∀ {e : TypeId} {size n c k : Nat} {a : Option Addr} {xs : List Value}, W.ownsRow 0 e size (.slice a n c) k xs → (54 : TypeId) ≠ e → ownA a ≠ some gb → ∀ b, (Value.slice a n c).ownBlock = some b → b ∉ gb :: (ownA u.ma).toList := by
    intro e size n c k a xs h2 hT hg2 b hb hin
    rw [own_is] at hb
    rcases mem_tl hin with rfl | h9
    · exact hg2 hb
    · exact own_ne h.maps h2 hT h9 hb
  refine h.mk2 (κ' := { κ with ma := ma', mc := mc' }) hF ⟨rfl, rfl⟩ (fun b hb => (mem_tl hb).imp id (fun h => .inr (.inr (.inr h)))) ?_ (hF.row h.notes (hap h.notes (by decide) g1)) (hF.row h.code (hap h.code (by decide) g2)) (hF.row h.starts (hap h.starts (by decide) g3)) ?_ (fun _ h => .inl h) (fun _ h => .inl h) (fun _ h => .inl h) (fun b hb => ?_) (fun _ h => .inl h) (fun j hj => ?_)
  · simp only [gcells, hlen]
    exact heap_setCell_same (grown_box hg h.box g4) _
  · simp only [hlen, hfl]
    exact setCell_row ho hna
  · rcases hf with hf | hf
    · exact .inl (hf ▸ hb)
    · rw [hf] at hb; cases hb; exact .inr (Nat.le_refl _)
  · rcases List.mem_append.1 hj with hj | hj
    · exact .inl hj
    · simp only [List.mem_singleton] at hj
      subst hj
      exact .inr hi
theorem flatS_take (l : List Sr) (n : Nat) : flatS (l.take n) = (flatS l).take (n * 3) := by
  induction l generalizing n with
  | nil => simp [flatS]
  | cons a l ih =>
    cases n with
    | zero => simp [flatS]
    | succ n =>
      have e : flatS (a :: l) = .int .i64 a.kind :: .int .i64 a.n :: .int .u64 a.w :: flatS l := rfl
      rw [List.take_succ_cons, e, show (n + 1) * 3 = n * 3 + 1 + 1 + 1 by omega]
      simp only [List.take_succ_cons]
      rw [← ih n]
      rfl
theorem own_box (gb : Nat) : ∀ b ∈ [gb], b = gb ∨ ownA na = some b ∨ ownA u.ca = some b ∨ ownA u.sa = some b ∨ ownA u.ma = some b := fun b hb => .inl (by simpa using hb)
theorem box_row {w5 W' : World} {gb : Nat} {e : TypeId} {size n c j : Nat} {a : Option Addr} {xs : List Value} (hF : Fr [gb] w5 W') (h : w5.ownsRow 0 e size (.slice a n c) j xs) (hn : ownA a ≠ some gb) : W'.ownsRow 0 e size (.slice a n c) j xs :=
  hF.row h (fun b hb hin => by
    rw [own_is] at hb
    simp only [List.mem_singleton] at hin
    subst hin
    exact hn hb)
/-- fewer notes -/
theorem GAt.cut (h : GAt κ w1 gb X na nc N u W) {n : Nat} (hn : n ≤ N.length) : GAt κ w1 gb X na nc (N.take n) u (W.setCell ⟨gb, 8, none⟩ (.slice na n nc)) := by
  obtain ⟨g1, g2, g3, g4⟩ := h.gen_ne
  have hF : Fr [gb] W (W.setCell ⟨gb, 8, none⟩ (.slice na n nc)) := (Fr.refl _ _).setCell (fun _ => by simp) _
  have hl : (N.take n).length = n := by rw [List.length_take]; omega
  have hr : W.ownsRow 0 57 3 (.slice na n nc) n (flatS (N.take n)) := by
    refine ⟨by rw [flatS_len, hl], ?_⟩
    rcases h.notes.2 with ⟨hv, h0⟩ | ⟨g, cap, cur, hv, h1, h2, h3, h4, h5, h6⟩
    · simp only [Value.slice.injEq] at hv
      obtain ⟨rfl, -, rfl⟩ := hv
      exact .inl ⟨by rw [show n = 0 by omega], by omega⟩
    · cases hv
      refine .inr ⟨g, nc, cur, rfl, h1, h2, by omega, h4, h5, ?_⟩
      rw [flatS_take, ← h6, List.take_take, Nat.min_eq_left (by omega)]
  refine h.mk2 hF h.mk9 (own_box gb) ?_ ?_ (box_row hF h.code g2) (box_row hF h.starts g3) (box_row hF h.maps g4) (fun _ h => .inl h) (fun _ h => .inl h) (fun _ h => .inl h) (fun _ h => .inl h) (fun _ h => .inl h) (fun _ h => .inl h)
  · rw [hl]
    exact heap_setCell_same h.box _
  · rw [hl]
    exact box_row hF hr g1
/-- nothing is noted -/
theorem GAt.cleared (h : GAt κ w1 gb X na nc N u W) : GAt κ w1 gb X none 0 [] u (W.setCell ⟨gb, 8, none⟩ (.slice none 0 0)) := by
  obtain ⟨g1, g2, g3, g4⟩ := h.gen_ne
  have hF : Fr [gb] W (W.setCell ⟨gb, 8, none⟩ (.slice none 0 0)) := (Fr.refl _ _).setCell (fun _ => by simp) _
  exact h.mk2 hF h.mk9 (own_box gb) (heap_setCell_same h.box _) ⟨rfl, .inl ⟨rfl, rfl⟩⟩ (box_row hF h.code g2) (box_row hF h.starts g3) (box_row hF h.maps g4) (fun _ h => by cases h) (fun _ h => .inl h) (fun _ h => .inl h) (fun _ h => .inl h) (fun _ h => .inl h) (fun _ h => .inl h)
/-- one more site -/
theorem GAt.sited (h : GAt κ w1 gb X na nc N u W) (k : Int) : GAt κ w1 gb X na nc N { u with sites := k } (W.setCell ⟨gb, 14, none⟩ (.int .i64 k)) := by
  obtain ⟨g1, g2, g3, g4⟩ := h.gen_ne
  have hF : Fr [gb] W (W.setCell ⟨gb, 14, none⟩ (.int .i64 k)) := (Fr.refl _ _).setCell (fun _ => by simp) _
  exact h.mk2 hF h.mk9 (own_box gb) (heap_setCell_same h.box _) (box_row hF h.notes g1) (box_row hF h.code g2) (box_row hF h.starts g3) (box_row hF h.maps g4) (fun _ h => .inl h) (fun _ h => .inl h) (fun _ h => .inl h) (fun _ h => .inl h) (fun _ h => .inl h) (fun _ h => .inl h)
theorem flatS_set : ∀ (l : List Sr) (d : Nat) (s : Sr), d < l.length → flatS (l.set d s) = (((flatS l).set (d * 3) (.int .i64 s.kind)).set (d * 3 + 1) (.int .i64 s.n)).set (d * 3 + 2) (.int .u64 s.w)
  | [], d, s, h => by simp at h
  | a :: l, 0, s, h => rfl
  | a :: l, d + 1, s, h => by
    have e : flatS (a :: l) = .int .i64 a.kind :: .int .i64 a.n :: .int .u64 a.w :: flatS l := rfl
    rw [List.set_cons_succ, e, show (d + 1) * 3 = d * 3 + 1 + 1 + 1 by omega]
    simp only [List.set_cons_succ]
    rw [← flatS_set l d s (by simpa using h)]
    rfl
/-- where the notes lie -/
theorem GAt.notes_at (h : GAt κ w1 gb X na nc N u W) (h0 : 0 < N.length) : ∃ g, na = some ⟨g, 0, none⟩ ∧ RowB W g 57 (flatS N) ∧ N.length ≤ nc := by
  rcases h.notes.2 with ⟨hv, h9⟩ | ⟨g, cap, cur, hv, h1, h2, h3, h4, h5, h6⟩
  · omega
  · cases hv
    exact ⟨g, rfl, ⟨cur, h2, cur.toList.drop (N.length * 3), by rw [← h6, List.take_append_drop]⟩, h3⟩
/-- another note in the place of one -/
theorem GAt.noted (h : GAt κ w1 gb X na nc N u W) {g d : Nat} (hna : na = some ⟨g, 0, none⟩) (hd : d < N.length) (s : Sr) : GAt κ w1 gb X na nc (N.set d s) u (((W.setCell ⟨g, d * 3, none⟩ (.int .i64 s.kind)).setCell ⟨g, d * 3 + 1, none⟩ (.int .i64 s.n)).setCell ⟨g, d * 3 + 2, none⟩ (.int .u64 s.w)) := by
  obtain ⟨g1, g2, g3, g4⟩ := h.gen_ne
  subst hna
  have hF : Fr [g] W (((W.setCell ⟨g, d * 3, none⟩ (.int .i64 s.kind)).setCell ⟨g, d * 3 + 1, none⟩ (.int .i64 s.n)).setCell ⟨g, d * 3 + 2, none⟩ (.int .u64 s.w)) := (((Fr.refl _ _).setCell (fun _ => by simp) _).setCell (fun _ => by simp) _).setCell (fun _ => by simp) _
  have hgg : gb ≠ g := fun e => g1 (by rw [e]; rfl)
  have hap : ∀ {e : TypeId} {size n c k : Nat} {a : Option Addr} {xs : List Value}, W.ownsRow 0 e size (.slice a n c) k xs → (57 : TypeId) ≠ e → ownA a ≠ some g := fun h2 hT => own_ne h.notes h2 hT rfl
  refine h.mk2 hF h.mk9 (fun b hb => .inr (.inl (by simp at hb; subst hb; rfl))) ?_ ?_ (box_row hF h.code (hap h.code (by decide))) (box_row hF h.starts (hap h.starts (by decide))) (box_row hF h.maps (hap h.maps (by decide))) (fun _ h => .inl h) (fun _ h => .inl h) (fun _ h => .inl h) (fun _ h => .inl h) (fun _ h => .inl h) (fun _ h => .inl h)
  · rw [List.length_set]
    exact hF.heap (by simpa using hgg) h.box
  · rcases h.notes.2 with ⟨hv, h9⟩ | ⟨g', cap, cur, hv, h1, h2, h3, h4, h5, h6⟩
    · cases hv
    · simp only [Value.slice.injEq, Option.some.injEq, Addr.mk.injEq, true_and, and_true] at hv
      obtain ⟨rfl, rfl⟩ := hv
      refine ⟨by rw [flatS_len, List.length_set], .inr ⟨g, nc, _, by rw [List.length_set], h1, heap_setCell_same (heap_setCell_same (heap_setCell_same h2 _) _) _, by rw [List.length_set]; exact h3, h4, by simpa using h5, ?_⟩⟩
      rw [List.length_set, flatS_set _ _ _ hd, ← h6]
      simp only [Array.toList_setIfInBounds, List.take_set]
/-- what the walk wants behind an append: the place of the slice in the box is as it was, and the generator once it is stored -/
theorem GAt.pushed' (h : GAt κ w1 gb X na nc N u W) {W' w5 : World} (hF : Fr [] W W') {n g cq H : Nat} (hn : n = N.length) (s : Sr) (ho : w5.ownsRow 0 57 3 (.slice (some ⟨g, 0, none⟩) (n + 1) cq) (n + 1) (flatS N ++ [.int .i64 s.kind, .int .i64 s.n, .int .u64 s.w])) (hg : W'.grownBy w5 (Value.slice na n nc).ownBlock) (hH : W'.heap.size = H) (hat : (Value.slice na n nc).ownBlock = some g ∨ g = H) : w5.cell? ⟨gb, 8, none⟩ = some (.slice na n nc) ∧ w5.frozen? ⟨gb, 8, none⟩ = false ∧ gb < w5.heap.size ∧ GAt κ w1 gb X (some ⟨g, 0, none⟩) cq (N ++ [s]) u (w5.setCell ⟨gb, 8, none⟩ (.slice (some ⟨g, 0, none⟩) (n + 1) cq)) := by
  subst hn hH
  have h9 := h.fr0 hF
  have h8 := grown_box hg h9.box (by rw [own_is]; exact h9.gen_ne.1)
  exact ⟨cell_of_heap h8 rfl, frozen_of_heap h8, lt_of_heap h8, h9.pushed s ho hg (hat.imp (fun h => by rw [h]; rfl) (fun h => by rw [h]; rfl))⟩
theorem GAt.added' (h : GAt κ w1 gb X na nc N u W) {W' w5 : World} (hF : Fr [] W W') {n g cq H : Nat} (hn : n = u.code.length) (i : Ii) (hi : SrcK w1.heap.size W' na i.la i.l i.lc) (ho : w5.ownsRow 0 59 7 (.slice (some ⟨g, 0, none⟩) (n + 1) cq) (n + 1) (flat7 u.code ++ flat7 [i])) (hg : W'.grownBy w5 (Value.slice u.ca n u.cc).ownBlock) (hH : W'.heap.size = H) (hat : (Value.slice u.ca n u.cc).ownBlock = some g ∨ g = H) : w5.cell? ⟨gb, 16, none⟩ = some (.slice u.ca n u.cc) ∧ w5.frozen? ⟨gb, 16, none⟩ = false ∧ gb < w5.heap.size ∧ GAt κ w1 gb X na nc N { u with ca := some ⟨g, 0, none⟩, code := u.code ++ [i], cc := cq } (w5.setCell ⟨gb, 16, none⟩ (.slice (some ⟨g, 0, none⟩) (n + 1) cq)) := by
  subst hn hH
  have h9 := h.fr0 hF
  have h8 := grown_box hg h9.box (by rw [own_is]; exact h9.gen_ne.2.1)
  exact ⟨cell_of_heap h8 rfl, frozen_of_heap h8, lt_of_heap h8, h9.added i hi ho hg (hat.imp (fun h => by rw [h]; rfl) (fun h => by rw [h]; rfl))⟩
theorem GAt.started' (h : GAt κ w1 gb X na nc N u W) {W' w5 : World} (hF : Fr [] W W') {n g cq H : Nat} (hn : n = u.starts.length) (k : Int) (ho : w5.ownsRow 0 3 1 (.slice (some ⟨g, 0, none⟩) (n + 1) cq) (n + 1) (flatN u.starts ++ [.int .i64 k])) (hg : W'.grownBy w5 (Value.slice u.sa n u.sc).ownBlock) (hH : W'.heap.size = H) (hat : (Value.slice u.sa n u.sc).ownBlock = some g ∨ g = H) : w5.cell? ⟨gb, 17, none⟩ = some (.slice u.sa n u.sc) ∧ w5.frozen? ⟨gb, 17, none⟩ = false ∧ gb < w5.heap.size ∧ GAt κ w1 gb X na nc N { u with sa := some ⟨g, 0, none⟩, starts := u.starts ++ [k], sc := cq } (w5.setCell ⟨gb, 17, none⟩ (.slice (some ⟨g, 0, none⟩) (n + 1) cq)) := by
  subst hn hH
  have h9 := h.fr0 hF
  have h8 := grown_box hg h9.box (by rw [own_is]; exact h9.gen_ne.2.2.1)
  exact ⟨cell_of_heap h8 rfl, frozen_of_heap h8, lt_of_heap h8, h9.started k ho hg (hat.imp (fun h => by rw [h]; rfl) (fun h => by rw [h]; rfl))⟩
theorem GAt.mapped' (h : GAt κ w1 gb X na nc N u W) {W' w5 : World} (hF : Fr [] W W') {n g cq H : Nat} (hn : n = u.maps.length) (q : Mp) (hi : SrcK w1.heap.size W' na q.a q.l q.c) (ho : w5.ownsRow 0 54 1 (.slice (some ⟨g, 0, none⟩) (n + 1) cq) (n + 1) (flatMp u.maps ++ [.slice q.a q.l.length q.c])) (hg : W'.grownBy w5 (Value.slice u.ma n u.mc).ownBlock) (hH : W'.heap.size = H) (hat : (Value.slice u.ma n u.mc).ownBlock = some g ∨ g = H) : w5.cell? ⟨gb, 18, none⟩ = some (.slice u.ma n u.mc) ∧ w5.frozen? ⟨gb, 18, none⟩ = false ∧ gb < w5.heap.size ∧ GAt { κ with ma := some ⟨g, 0, none⟩, mc := cq } w1 gb X na nc N { u with ma := some ⟨g, 0, none⟩, maps := u.maps ++ [q], mc := cq } (w5.setCell ⟨gb, 18, none⟩ (.slice (some ⟨g, 0, none⟩) (n + 1) cq)) := by
  subst hn hH
  have h9 := h.fr0 hF
  have h8 := grown_box hg h9.box (by rw [own_is]; exact h9.gen_ne.2.2.2)
  exact ⟨cell_of_heap h8 rfl, frozen_of_heap h8, lt_of_heap h8, h9.mapped q hi ho hg (hat.imp (fun h => by rw [h]; rfl) (fun h => by rw [h]; rfl))⟩
/-- sources that are kept: none, or in a block beside the generator -/
def InX (w1 : World) (X : List (Nat × Obj)) (a : Option Addr) (l : List Sr) (c : Nat) : Prop := SlOk a l.length c ∧ (l = [] ∨ ∃ b cur rest, a = some ⟨b, 0, none⟩ ∧ w1.heap.size ≤ b ∧ (b, Obj.cells cur 57 (0, 0)) ∈ X ∧ cur.toList = flatS l ++ rest)
theorem InX.nil {X : List (Nat × Obj)} : InX w1 X none [] 0 := ⟨SlOk.nil, .inl rfl⟩
theorem InX.more {X : List (Nat × Obj)} {a : Option Addr} {l : List Sr} {c : Nat} (h : InX w1 X a l c) (x : Nat × Obj) : InX w1 (x :: X) a l c := ⟨h.1, h.2.imp id fun ⟨b, cur, rest, h1, h2, h3, h4⟩ => ⟨b, cur, rest, h1, h2, List.mem_cons_of_mem _ h3, h4⟩⟩
theorem GAt.inX (h : GAt κ w1 gb X na nc N u W) {a : Option Addr} {l : List Sr} {c : Nat} (hx : InX w1 X a l c) : SrcK w1.heap.size W na a l c := by
  refine ⟨hx.1, hx.2.imp id ?_⟩
  rintro ⟨b, cur, rest, rfl, hlo, hm, hc⟩
  obtain ⟨k1, -, k3, -⟩ := h.keep _ hm
  exact ⟨b, rfl, hlo, k3, cur, k1, rest, hc⟩
/-- sources that lie in a block beside the generator -/
theorem GAt.src (h : GAt κ w1 gb X na nc N u W) {g c : Nat} {cur : Array Value} (hx : (g, Obj.cells cur 57 (0, 0)) ∈ X) {l : List Sr} {rest : List Value} (hc : cur.toList = flatS l ++ rest) (h1 : w1.heap.size ≤ g) (hs : SlOk (some ⟨g, 0, none⟩) l.length c) : SrcK w1.heap.size W na (some ⟨g, 0, none⟩) l c := by
  obtain ⟨k1, -, k3, -⟩ := h.keep _ hx
  exact ⟨hs, .inr ⟨g, rfl, h1, k3, cur, k1, rest, hc⟩⟩
theorem SrcK.nil {lo : Nat} {W : World} {na : Option Addr} : SrcK lo W na none [] 0 := ⟨SlOk.nil, .inl rfl⟩
end
/-- what a unit is, without its places -/
structure GS where
  method : Int
  args : Int
  temps : Int
  regs : Int
  sites : Int
  code : List Ii
  starts : List Int
  maps : List (List Sr)
structure GS.of (g : GS) (u : Un) : Prop where
  method : u.method = g.method
  args : u.args = g.args
  temps : u.temps = g.temps
  regs : u.regs = g.regs
  spills : u.spills = 0
  sites : u.sites = g.sites
  ea : u.ea = none
  enter : u.enter = []
  ec : u.ec = 0
  code : u.code.map Ii.er = g.code
  starts : u.starts = g.starts
  maps : u.maps.map Mp.l = g.maps
/-- A generator, what is noted, and its unit without its places. -/
def GIs (κ : GK) (w1 : World) (gb : Nat) (X : List (Nat × Obj)) (na : Option Addr) (nc : Nat) (N : List Sr) (g : GS) (W : World) : Prop := ∃ u, GAt κ w1 gb X na nc N u W ∧ g.of u
theorem GIs.fr0 {κ : GK} {w1 : World} {gb : Nat} {X : List (Nat × Obj)} {na : Option Addr} {nc : Nat} {N : List Sr} {g : GS} {W W' : World} (h : GIs κ w1 gb X na nc N g W) (hF : Fr [] W W') : GIs κ w1 gb X na nc N g W' := let ⟨u, h1, h2⟩ := h; ⟨u, h1.fr0 hF, h2⟩
theorem GIs.alloc {κ : GK} {w1 : World} {gb : Nat} {X : List (Nat × Obj)} {na : Option Addr} {nc : Nat} {N : List Sr} {g : GS} {W : World} (h : GIs κ w1 gb X na nc N g W) (o : Obj) : GIs κ w1 gb ((W.heap.size, o) :: X) na nc N g (W.alloc o) := let ⟨u, h1, h2⟩ := h; ⟨u, h1.alloc o, h2⟩
theorem GIs.less {κ : GK} {w1 : World} {gb : Nat} {X Y : List (Nat × Obj)} {na : Option Addr} {nc : Nat} {N : List Sr} {g : GS} {W : World} (h : GIs κ w1 gb X na nc N g W) (hY : ∀ x ∈ Y, x ∈ X) : GIs κ w1 gb Y na nc N g W := let ⟨u, h1, h2⟩ := h; ⟨u, h1.less hY, h2⟩
theorem GIs.keep {κ : GK} {w1 : World} {gb : Nat} {X : List (Nat × Obj)} {na : Option Addr} {nc : Nat} {N : List Sr} {g : GS} {W : World} (h : GIs κ w1 gb X na nc N g W) : ∀ x ∈ X, W.heap[x.1]? = some x.2 := let ⟨_, h1, _⟩ := h; fun x hx => (h1.keep x hx).1
theorem GIs.fr {κ : GK} {w1 : World} {gb : Nat} {X : List (Nat × Obj)} {na : Option Addr} {nc : Nat} {N : List Sr} {g : GS} {W : World} (h : GIs κ w1 gb X na nc N g W) : Fr [gb] w1 W := let ⟨_, h1, _⟩ := h; h1.fr
end Go.Proofs.YtomcfjckhajhmabGreatDoor
namespace Go.Proofs.YtomcfjckhajhmabGreatDoor
open Go.RowKit

set_option maxRecDepth 100000 in
set_option maxHeartbeats 1000000 in
theorem gn_register (n : Int) (w : World) : Calls Tryz.prog 59 #[.int .i64 n] w (Still (regS n).v w) := by
  unfold Sr.v regS
  go_enter Tryz.func59, Tryz.ntmps59
  go_wp2_with fail
  refine bodyPost_ret (v := .agg #[.int .i64 0, .int .i64 n, .int .u64 0]) (by simp [results, Tryz.results59, go_sem]) rfl ?_
  exact ⟨rfl, by (repeat (first | (with_reducible refine Fr.setCell ?_ (fun h => absurd h (Nat.lt_irrefl _)) _) | (with_reducible refine Fr.setCell ?_ (fun h => absurd h (by first | omega | (simp; done) | (simp; omega) | (dsimp only; omega))) _) | (with_reducible refine Fr.alloc ?_ _) | (with_reducible refine Fr.drew ?_) | (with_reducible refine Fr.drewN ?_ _) | (with_reducible exact Fr.refl _ _)))⟩
set_option maxRecDepth 100000 in
set_option maxHeartbeats 1000000 in
theorem gn_literal (n : Int) (w : World) : Calls Tryz.prog 92 #[.int .u64 n] w (Still (litS n).v w) := by
  unfold Sr.v litS
  go_enter Tryz.func92, Tryz.ntmps92
  go_wp2_with fail
  refine bodyPost_ret (v := .agg #[.int .i64 1, .int .i64 0, .int .u64 n]) (by simp [results, Tryz.results92, go_sem]) rfl ?_
  exact ⟨rfl, by (repeat (first | (with_reducible refine Fr.setCell ?_ (fun h => absurd h (Nat.lt_irrefl _)) _) | (with_reducible refine Fr.setCell ?_ (fun h => absurd h (by first | omega | (simp; done) | (simp; omega) | (dsimp only; omega))) _) | (with_reducible refine Fr.alloc ?_ _) | (with_reducible refine Fr.drew ?_) | (with_reducible refine Fr.drewN ?_ _) | (with_reducible exact Fr.refl _ _)))⟩
set_option maxRecDepth 100000 in
set_option maxHeartbeats 1000000 in
theorem gn_receiver (w : World) : Calls Tryz.prog 91 #[] w (Still slfS.v w) := by
  unfold Sr.v slfS
  go_enter Tryz.func91, Tryz.ntmps91
  go_wp2_with fail
  refine bodyPost_ret (v := .agg #[.int .i64 2, .int .i64 0, .int .u64 0]) (by simp [results, Tryz.results91, go_sem]) rfl ?_
  exact ⟨rfl, by (repeat (first | (with_reducible refine Fr.setCell ?_ (fun h => absurd h (Nat.lt_irrefl _)) _) | (with_reducible refine Fr.setCell ?_ (fun h => absurd h (by first | omega | (simp; done) | (simp; omega) | (dsimp only; omega))) _) | (with_reducible refine Fr.alloc ?_ _) | (with_reducible refine Fr.drew ?_) | (with_reducible refine Fr.drewN ?_ _) | (with_reducible exact Fr.refl _ _)))⟩
set_option maxRecDepth 100000 in
set_option maxHeartbeats 4000000 in
theorem gn_push {κ : GK} {w1 : World} {gb : Nat} {X : List (Nat × Obj)} {na : Option Addr} {nc : Nat} {N : List Sr} {g : GS} {W : World} (h : GIs κ w1 gb X na nc N g W) (s : Sr) (hl : N.length ≤ 1000) : Calls Tryz.prog 57 #[.pointer (some ⟨gb, 8, none⟩), s.v] W (fun e w' => e = .returned (.tuple #[]) ∧ ∃ na' nc', GIs κ w1 gb X na' nc' (N ++ [s]) g w') := by
  obtain ⟨i0, hi, hz0, hz1, hz2⟩ := info_parts infoSrc
  obtain ⟨u, h, hg⟩ := h
  have hbox := h.box
  obtain ⟨n, hn⟩ : ∃ n, n = N.length := ⟨_, rfl⟩
  rw [← hn] at hbox hl
  have p8 : W.cell? ⟨gb, 8, none⟩ = some (.slice na n nc) := cell_of_heap hbox rfl
  have z8 : W.frozen? ⟨gb, 8, none⟩ = false := frozen_of_heap hbox
  have hgb := lt_of_heap hbox
  have HG := Lib.hid h
  have HO := Lib.hid hg
  have HN := Lib.hid hn
  obtain ⟨sk, sn, sw⟩ := s
  unfold Sr.v
  have HRW : Hid (W.ownsRow 0 57 3 (.slice na n nc) n (flatS N)) := Lib.hid (by rw [hn]; exact h.notes)
  clear h hg hn hbox
  go_enter Tryz.func57, Tryz.ntmps57
  go_wp2_with fail
  obtain ⟨W1, hW1⟩ : ∃ W1, W1 = W.alloc (.cells #[.int .i64 sk, .int .i64 sn, .int .u64 sw] 57) := ⟨_, rfl⟩
  rw [← hW1]
  have HF1 : Hid (Fr [] W W1) := Lib.hid (by rw [hW1]; exact (Fr.refl _ _).alloc _)
  have hb1 : W1.heap[W.heap.size]? = some (.cells #[.int .i64 sk, .int .i64 sn, .int .u64 sw] 57 (0, 0)) := by rw [hW1]; exact heap_new _ _
  have k0 := cell_of_heap (o := 0) hb1 rfl; have k1 := cell_of_heap (o := 1) hb1 rfl; have k2 := cell_of_heap (o := 2) hb1 rfl
  have hlt1 := lt_of_heap hb1
  have p8' := HF1.out.cell (by simp) p8
  have z8' := HF1.out.frozen hgb (by simp) z8
  have hgb' := Nat.lt_of_lt_of_le hgb HF1.out.size
  clear hW1 hb1 p8 z8
  have hmx : n + 1 ≤ maxLen := by unfold maxLen; omega
  go_region_law (refine step_append_lies _ (by rfl) (.tmp 7) (.tmp 9) 98 (by rfl) 0 57 i0 (.agg #[.int .i64 0, .int .i64 0, .int .u64 0]) 3 24 Tryz.underlying98 hi hz0 hz1 hz2 rfl (by omega) (.slice na n nc) n (flatS N) (by rfl) ?_ ⟨W1.heap.size, 0, none⟩ 1 1 [.int .i64 sk, .int .i64 sn, .int .u64 sw] (by rfl) (by rfl) ?_ (by simp [Value.oneCell']) (by omega) hmx (by omega) (Nat.zero_le _) (W1.heap.size + 1) (by simp) ?_; (focus exact Fr.row (S := []) (by (repeat (first | (with_reducible refine Fr.setCell ?_ (fun h => absurd h (Nat.lt_irrefl _)) _) | (with_reducible refine Fr.setCell ?_ (fun h => absurd h (by first | omega | (simp; done) | (simp; omega) | (dsimp only; omega))) _) | (with_reducible refine Fr.alloc ?_ _) | (with_reducible refine Fr.drew ?_) | (with_reducible refine Fr.drewN ?_ _) | (with_reducible exact HF1.out)))) HRW.out (fun _ _ => by simp)); (focus (intro j u hj; rw [Lib.add_plain, Nat.zero_add]; exact cell_of_heap (heap_new _ _) (by simpa using hj))); intro gg cq w5 hown1 hgrow hat hlt1; obtain ⟨q8, z9, hg9, hR⟩ := GAt.pushed' HG.out (W' := _) (by first | exact ((HF1.out.drew).drew).alloc _ | exact (HF1.out.drew).alloc _ | exact HF1.out.alloc _) HN.out ⟨sk, sn, sw⟩ hown1 hgrow (by simp) hat; have HGR := Lib.hid hR; clear hR hown1 hgrow hat)
  all_goals (go_end0; exact ⟨rfl, _, _, u, HGR.out, HO.out⟩)
/-- append takes a slice of another name alike -/
theorem append_types {P : Program} (w : World) (t t2 ty e e2 : TypeId) (ht : P.underlying t = some (.slice e)) (ht2 : P.underlying t2 = some (.slice e2)) (a : Option Addr) (n c : Nat) (x : Value) : (Builtin.append_ #[t, t2] ty #[.slice a n c, x]).run P w = (Builtin.append_ #[t, t] ty #[.slice a n c, x]).run P w := by
  simp [Builtin.append_, run_underlying ht, run_underlying ht2, sizeOf, typeInfo]
theorem flatS_drop (l : List Sr) (n : Nat) : flatS (l.drop n) = (flatS l).drop (n * 3) := by
  induction l generalizing n with
  | nil => simp [flatS]
  | cons a l ih =>
    cases n with
    | zero => simp [flatS]
    | succ n =>
      have e : flatS (a :: l) = .int .i64 a.kind :: .int .i64 a.n :: .int .u64 a.w :: flatS l := rfl
      rw [List.drop_succ_cons, e, show (n + 1) * 3 = n * 3 + 1 + 1 + 1 by omega]
      simp only [List.drop_succ_cons]
      exact ih n
/-- sources that lie in a block, put into a new row: run -/
theorem append_srcs_run {w : World} (ty t t2 : TypeId) (ht : Tryz.prog.underlying t = some (.slice 57)) (ht2 : Tryz.prog.underlying t2 = some (.slice 57)) (va : Option Addr) (vc n : Nat) (us : List Value) (hown : w.ownsRow 0 57 3 (.slice va n vc) n us) (L : List Sr) (b o rc : Nat) (hX : ∀ j u, (flatS L)[j]? = some u → w.cell? ⟨b, o + j, none⟩ = some u) (hn : n + L.length ≤ 100000) : ∃ v' w', (Builtin.append_ #[t, t2] ty #[.slice va n vc, .slice (some ⟨b, o, none⟩) L.length rc]).run Tryz.prog w = .ok v' w' ∧ w'.ownsRow 0 57 3 v' (n + L.length) (us ++ flatS L) ∧ w.grownBy w' (Value.slice va n vc).ownBlock ∧ (v'.ownBlock = (Value.slice va n vc).ownBlock ∨ v'.ownBlock = some w.heap.size) := by
  obtain ⟨i0, hi, hz0, hz1, hz2⟩ := info_parts infoSrc
  rw [append_types w t t2 ty _ _ ht ht2]
  exact run_append_at (P := Tryz.prog) w t ty 57 i0 (.agg #[.int .i64 0, .int .i64 0, .int .u64 0]) 3 24 ht hi hz0 hz1 hz2 rfl (by decide) (.slice va n vc) n us hown ⟨b, o, none⟩ L.length rc (flatS L) (flatS_len L) (fun j u hj => by rw [Lib.add_plain]; exact hX j u hj) (flatS_one L) (by unfold maxLen; omega) (by omega)
theorem own_nilS (w : World) : w.ownsRow 0 57 3 (.slice none 0 0) 0 [] := ⟨rfl, .inl ⟨rfl, rfl⟩⟩
/-- Returned: the uppermost notes, in a new block; the others are left. -/
def TookTo (κ : GK) (w1 : World) (gb : Nat) (X : List (Nat × Obj)) (na : Option Addr) (nc : Nat) (N : List Sr) (q nn : Nat) (g : GS) (e : Ending) (w' : World) : Prop := ∃ b c cur rest, e = .returned (.slice (some ⟨b, 0, none⟩) nn c) ∧ cur.toList = flatS (N.drop q) ++ rest ∧ SlOk (some ⟨b, 0, none⟩) nn c ∧ w1.heap.size ≤ b ∧ GIs κ w1 gb ((b, .cells cur 57 (0, 0)) :: X) na nc (N.take q) g w'
set_option maxRecDepth 100000 in
set_option maxHeartbeats 4000000 in
theorem gn_take {κ : GK} {w1 : World} {gb : Nat} {X : List (Nat × Obj)} {na : Option Addr} {nc : Nat} {N : List Sr} {g : GS} {W : World} (h : GIs κ w1 gb X na nc N g W) {z : Int} {q nn : Nat} (hz : z = (nn : Int)) (hq : q + nn = N.length) (h0 : 0 < nn) (hl : N.length ≤ 1000) : Calls Tryz.prog 88 #[.pointer (some ⟨gb, 8, none⟩), .int .i64 z] W (TookTo κ w1 gb X na nc N q nn g) := by
  subst hz
  obtain ⟨u, h, hg⟩ := h
  obtain ⟨b, rfl, hR, hnc⟩ := h.notes_at (by omega)
  have hbox := h.box
  obtain ⟨n, hn⟩ : ∃ n, n = N.length := ⟨_, rfl⟩
  rw [← hn] at hbox hl hq hnc
  have p8 : W.cell? ⟨gb, 8, none⟩ = some (.slice (some ⟨b, 0, none⟩) n nc) := cell_of_heap hbox rfl
  have z8 : W.frozen? ⟨gb, 8, none⟩ = false := frozen_of_heap hbox
  have hgb := lt_of_heap hbox
  have hld : (N.drop q).length = nn := by rw [List.length_drop]; omega
  obtain ⟨v5, w5, hrun, ho5, hg5, hf5⟩ := append_srcs_run (w := W) 54 54 98 Tryz.underlying54 Tryz.underlying98 none 0 0 [] (own_nilS W) (N.drop q) b (q * 3) (nc - q) (fun j u hj => by
    rw [flatS_drop, List.getElem?_drop] at hj
    exact hR.cell hj) (by omega)
  rw [hld, Nat.zero_add, List.nil_append] at ho5
  rw [hld] at hrun
  obtain ⟨a5, c5, rfl⟩ := irow_shape ho5
  have hF5 : Fr [] W w5 := (Fr.refl [] W).grown hg5 (fun k hk => by cases hk)
  obtain ⟨b5, cur5, ha5, hc5, hk5, ht5⟩ : ∃ b5 cur5, a5 = some ⟨b5, 0, none⟩ ∧ w5.heap[b5]? = some (.cells cur5 57 (0, 0)) ∧ SlOk (some ⟨b5, 0, none⟩) nn c5 ∧ cur5.toList.take (nn * 3) = flatS (N.drop q) := by
    rcases ho5.2 with ⟨hv, h9⟩ | ⟨g9, cap, cur, hv, -, h2, h3, h4, -, h6⟩
    · omega
    · cases hv
      exact ⟨g9, cur, rfl, h2, ⟨fun h => (by cases h), h3, h4⟩, h6⟩
  subst ha5
  have hb5 : b5 = W.heap.size := by
    rcases hf5 with hf | hf
    · cases hf
    · exact Option.some.inj hf
  obtain ⟨l1, l2, l3, l4⟩ := h.own_lt
  have HK : Hid (GAt κ w1 gb ((b5, .cells cur5 57 (0, 0)) :: X) (some ⟨b, 0, none⟩) nc N u w5) := Lib.hid ((h.fr0 hF5).more (fun _ => trivial) hc5 (by omega) (fun e => by have := l1 _ e; omega) (fun e => by have := l2 _ e; omega) (fun e => by have := l3 _ e; omega) (fun e => by have := l4 _ e; omega))
  have HO := Lib.hid hg
  have HN := Lib.hid hn
  have HLO : Hid (w1.heap.size ≤ b5) := Lib.hid (by have := h.fr.size; omega)
  have HT5 : Hid (cur5.toList = flatS (N.drop q) ++ cur5.toList.drop (nn * 3)) := Lib.hid (by rw [← ht5, List.take_append_drop])
  have HS5 := Lib.hid hk5
  have p8' := hF5.cell (by simp) p8
  have z8' := hF5.frozen hgb (by simp) z8
  have hgb5 : gb < w5.heap.size := Nat.lt_of_lt_of_le hgb hF5.size
  have e0 : (0 : Int) ≤ (q : Int) := by omega
  have e1 : (q : Int) ≤ (n : Int) := by omega
  have e2 : (n : Int) - (nn : Int) = (q : Int) := by omega
  have e3 : (q : Int) ≤ (nc : Int) := by omega
  have e4 : n - q = nn := by omega
  have hkc : ¬ nc = q := by omega
  have hkc0 : ¬ nc = 0 := by omega
  have ew : wrap64 (q : Int) = (q : Int) := by unfold wrap64; omega
  have HE : Hid (q ≤ n) := Lib.hid (by omega)
  clear h hg hn hbox hR hld hq h0 hnc ho5 hg5 hf5 hF5 hc5 hk5 ht5 hb5 l1 l2 l3 l4
  go_enter Tryz.func88, Tryz.ntmps88
  go_wp2_with (at_builtin; refine Lib.wpList_append_run W rfl (.const (.slice none 0 0)) (.tmp 17) 54 98 rfl (.slice none 0 0) _ rfl (by simp [Act.eval, e4, ew, hkc]) _ w5 hrun ?_)
  go_ret
  exact ⟨b5, c5, cur5, _, rfl, HT5.out, HS5.out, HLO.out, u, HK.out.cut (n := q) (by have := HE.out; have := HN.out; omega), HO.out⟩
set_option maxRecDepth 100000 in
set_option maxHeartbeats 4000000 in
theorem gn_top {κ : GK} {w1 : World} {gb : Nat} {X : List (Nat × Obj)} {na : Option Addr} {nc : Nat} {N : List Sr} {g : GS} {W : World} (h : GIs κ w1 gb X na nc N g W) (h0 : 0 < N.length) (hl : N.length ≤ 1000) : Calls Tryz.prog 93 #[.slice na N.length nc] W (Still (top N).v W) := by
  obtain ⟨u, h, -⟩ := h
  obtain ⟨b, rfl, hR, hnc⟩ := h.notes_at h0
  obtain ⟨f0, f1, f2⟩ := flatS_at (top_at h0)
  have c0 := hR.cell f0
  have c1 := hR.cell f1
  have c2 := hR.cell f2
  generalize top N = s at *
  obtain ⟨n, hn⟩ : ∃ n, n = N.length := ⟨_, rfl⟩
  rw [← hn] at c0 c1 c2 h0 hl ⊢
  obtain ⟨km, hkm⟩ : ∃ km, km = n - 1 := ⟨_, rfl⟩
  rw [← hkm] at c0 c1 c2
  have e0 : (0 : Int) ≤ (km : Int) := by omega
  have e1 : (km : Int) < (n : Int) := by omega
  have e2 : (n : Int) - 1 = (km : Int) := by omega
  have hb := hR.lt
  obtain ⟨sk, sn, sw⟩ := s
  unfold Sr.v
  simp only at c0 c1 c2
  clear h hR f0 f1 f2 hn hkm h0 hnc
  have d0 := ((Fr.refl [] W).alloc (.cells #[.int .i64 0, .int .i64 0, .int .u64 0] 57)).cell (by simp) c0
  have d1 := ((Fr.refl [] W).alloc (.cells #[.int .i64 0, .int .i64 0, .int .u64 0] 57)).cell (by simp) c1
  have d2 := ((Fr.refl [] W).alloc (.cells #[.int .i64 0, .int .i64 0, .int .u64 0] 57)).cell (by simp) c2
  go_enter Tryz.func93, Tryz.ntmps93
  go_wp2_with fail
  refine bodyPost_ret (v := .agg #[.int .i64 sk, .int .i64 sn, .int .u64 sw]) (by simp [results, Tryz.results93, go_sem]) rfl ?_
  exact ⟨rfl, by (repeat (first | (with_reducible refine Fr.setCell ?_ (fun h => absurd h (Nat.lt_irrefl _)) _) | (with_reducible refine Fr.setCell ?_ (fun h => absurd h (by first | omega | (simp; done) | (simp; omega) | (dsimp only; omega))) _) | (with_reducible refine Fr.alloc ?_ _) | (with_reducible refine Fr.drew ?_) | (with_reducible refine Fr.drewN ?_ _) | (with_reducible exact Fr.refl _ _)))⟩
set_option maxRecDepth 100000 in
set_option maxHeartbeats 4000000 in
theorem gn_number (n : Int) (w : World) (h : fit n = true) : Calls Tryz.prog 90 #[.int .i64 n] w (Gives (.int .u64 (numW n)) w) := by
  have hc := wordFromInt n w h
  change Calls _ _ _ _ (Gives (.int .u64 (wordOf n)) w)
  generalize wordOf n = x at *
  go_enter Tryz.func90, Tryz.ntmps90
  go_wp2_with (go_at_call 108; refine hc.mono ?_; rintro e w' ⟨rfl, rfl⟩)
  go_ret
  exact ⟨rfl, rfl⟩
set_option maxRecDepth 100000 in
set_option maxHeartbeats 4000000 in
theorem gn_home {κ : GK} {w1 : World} {gb : Nat} {X : List (Nat × Obj)} {na : Option Addr} {nc : Nat} {N : List Sr} {g : GS} {W : World} (h : GIs κ w1 gb X na nc N g W) (hT : 0 ≤ κ.m.temps ∧ κ.m.temps ≤ 16) {z : Int} {d : Nat} (hz : z = (d : Int)) (hd : d ≤ 1000) : Calls Tryz.prog 58 #[.pointer (some ⟨gb, 0, none⟩), .int .i64 z] W (Still (home κ.m.temps d).v W) := by
  subst hz
  obtain ⟨u, h, -⟩ := h
  have c1 : W.cell? ⟨gb, 1, none⟩ = some (.int .i64 κ.m.temps) := cell_of_heap h.box rfl
  have hgb := lt_of_heap h.box
  have hc := fun W' => gn_register (κ.m.temps + (d : Int)) W'
  unfold home
  unfold regS at hc
  generalize κ.m.temps = T at *
  clear h
  have e1 : IntKind.i64.wrap (T + (d : Int)) = T + (d : Int) := IntWalk.i64_in _ (by omega)
  unfold Sr.v at hc ⊢
  have d1 := ((Fr.refl [] W).alloc (.cells #[.int .i64 0, .int .i64 0, .int .u64 0] 57)).cell (by simp) c1
  have HB := Lib.hid (heap_new W (.cells #[.int .i64 0, .int .i64 0, .int .u64 0] 57))
  go_enter Tryz.func58, Tryz.ntmps58
  go_wp2_with (go_at_call 59; refine (hc _).mono ?_; rintro e w2 ⟨rfl, hF⟩; have HF : Hid (Fr [] W w2) := Lib.hid (((Fr.refl [] W).alloc _).trans hF); have hb := hF.heap (by simp) HB.out; have k0 := cell_of_heap (o := 0) hb rfl; have k1 := cell_of_heap (o := 1) hb rfl; have k2 := cell_of_heap (o := 2) hb rfl; have y0 := frozen_of_heap (o := 0) hb; have y1 := frozen_of_heap (o := 1) hb; have y2 := frozen_of_heap (o := 2) hb; have hlt := lt_of_heap hb; clear hF hb)
  refine bodyPost_ret (v := .agg #[.int .i64 0, .int .i64 (T + (d : Int)), .int .u64 0]) (by simp [results, Tryz.results58, go_sem]; go_simp) rfl ?_
  exact ⟨rfl, by (repeat (first | (with_reducible refine Fr.setCell ?_ (fun h => absurd h (Nat.lt_irrefl _)) _) | (with_reducible refine Fr.setCell ?_ (fun h => absurd h (by first | omega | (simp; done) | (simp; omega) | (dsimp only; omega))) _) | (with_reducible refine Fr.alloc ?_ _) | (with_reducible refine Fr.drew ?_) | (with_reducible refine Fr.drewN ?_ _) | (with_reducible exact HF.out)))⟩
end Go.Proofs.YtomcfjckhajhmabGreatDoor
namespace Go.Proofs.YtomcfjckhajhmabGreatDoor
open Go.RowKit

def GS.add (g : GS) (C : List Ii) : GS := { g with code := g.code ++ C }
theorem er_mk (op n : Int) (d : Sr) (la : Option Addr) (l : List Sr) (lc : Nat) (w : Int) : Ii.er ⟨op, n, d, la, l, lc, w⟩ = mkI op n d l w := rfl
set_option maxRecDepth 100000 in
set_option maxHeartbeats 4000000 in
theorem gn_add {κ : GK} {w1 : World} {gb : Nat} {X : List (Nat × Obj)} {na : Option Addr} {nc : Nat} {N : List Sr} {g : GS} {W : World} (h : GIs κ w1 gb X na nc N g W) (i : Ii) (hx : InX w1 X i.la i.l i.lc) (hl : g.code.length ≤ 100000) : Calls Tryz.prog 63 #[.pointer (some ⟨gb, 0, none⟩), i.v] W (fun e w' => e = .returned (.tuple #[]) ∧ GIs κ w1 gb X na nc N (g.add [i.er]) w') := by
  obtain ⟨i0, hi, hz0, hz1, hz2⟩ := info_parts infoIns7
  obtain ⟨u, h, hg⟩ := h
  have hul : u.code.length ≤ 100000 := by rw [← hg.code, List.length_map] at hl; exact hl
  have hbox := h.box
  unfold gcells at hbox
  obtain ⟨n, hn⟩ : ∃ n, n = u.code.length := ⟨_, rfl⟩
  rw [← hn] at hbox hul
  have p8 : W.cell? ⟨gb, 16, none⟩ = some (.slice u.ca n u.cc) := cell_of_heap hbox rfl
  have z8 : W.frozen? ⟨gb, 16, none⟩ = false := frozen_of_heap hbox
  have hgb := lt_of_heap hbox
  have HG := Lib.hid h
  have HO := Lib.hid hg
  have HN := Lib.hid hn
  have HRW : Hid (W.ownsRow 0 59 7 (.slice u.ca n u.cc) n (flat7 u.code)) := Lib.hid (by rw [hn]; exact h.code)
  have HX := Lib.hid hx
  obtain ⟨op, m, ⟨dk, dn, dw⟩, la, l, lc, x⟩ := i
  unfold Ii.v
  have HSK : Hid (∀ W', Fr [] W W' → SrcK w1.heap.size W' na la l lc) := Lib.hid fun W' hF => (h.fr0 hF).inX hx
  have HF7 : Hid (∀ ll, ll = l.length → flat7 [⟨op, m, ⟨dk, dn, dw⟩, la, l, lc, x⟩] = [.int .i64 op, .int .i64 m, .int .i64 dk, .int .i64 dn, .int .u64 dw, .slice la ll lc, .int .u64 x]) := Lib.hid fun ll h => by subst h; rfl
  obtain ⟨ll, hll⟩ : ∃ ll, ll = l.length := ⟨_, rfl⟩
  simp only [← hll]
  have hf7 := HF7.out ll hll
  clear h hg hn hbox hx hl hll
  go_enter Tryz.func63, Tryz.ntmps63
  go_wp2_with fail
  obtain ⟨W1, hW1⟩ : ∃ W1, W1 = W.alloc (.cells #[.int .i64 op, .int .i64 m, .int .i64 dk, .int .i64 dn, .int .u64 dw, .slice la ll lc, .int .u64 x] 59) := ⟨_, rfl⟩
  rw [← hW1]
  have HF1 : Hid (Fr [] W W1) := Lib.hid (by rw [hW1]; exact (Fr.refl _ _).alloc _)
  have hb1 : W1.heap[W.heap.size]? = some (.cells #[.int .i64 op, .int .i64 m, .int .i64 dk, .int .i64 dn, .int .u64 dw, .slice la ll lc, .int .u64 x] 59 (0, 0)) := by rw [hW1]; exact heap_new _ _
  have k0 := cell_of_heap (o := 0) hb1 rfl; have k1 := cell_of_heap (o := 1) hb1 rfl; have k2 := cell_of_heap (o := 2) hb1 rfl; have k3 := cell_of_heap (o := 3) hb1 rfl; have k4 := cell_of_heap (o := 4) hb1 rfl; have k5 := cell_of_heap (o := 5) hb1 rfl; have k6 := cell_of_heap (o := 6) hb1 rfl
  have hlt1 := lt_of_heap hb1
  have p8' := HF1.out.cell (by simp) p8
  have z8' := HF1.out.frozen hgb (by simp) z8
  have hgb' := Nat.lt_of_lt_of_le hgb HF1.out.size
  clear hW1 hb1 p8 z8
  have HF7 := Lib.hid hf7
  clear hf7
  have hmx : n + 1 ≤ maxLen := by unfold maxLen; omega
  go_region_law (refine step_append_lies _ (by rfl) (.tmp 9) (.tmp 11) 30 (by rfl) 0 59 i0 _ 7 72 Tryz.underlying30 hi hz0 hz1 hz2 rfl (by omega) (.slice u.ca n u.cc) n (flat7 u.code) (by rfl) ?_ ⟨W1.heap.size, 0, none⟩ 1 1 [.int .i64 op, .int .i64 m, .int .i64 dk, .int .i64 dn, .int .u64 dw, .slice la ll lc, .int .u64 x] (by rfl) (by rfl) ?_ (by simp [Value.oneCell']) (by omega) hmx (by omega) (Nat.zero_le _) (W1.heap.size + 1) (by simp) ?_; (focus exact Fr.row (S := []) (by (repeat (first | (with_reducible refine Fr.setCell ?_ (fun h => absurd h (Nat.lt_irrefl _)) _) | (with_reducible refine Fr.setCell ?_ (fun h => absurd h (by first | omega | (simp; done) | (simp; omega) | (dsimp only; omega))) _) | (with_reducible refine Fr.alloc ?_ _) | (with_reducible refine Fr.drew ?_) | (with_reducible refine Fr.drewN ?_ _) | (with_reducible exact HF1.out)))) HRW.out (fun _ _ => by simp)); (focus (intro j u hj; rw [Lib.add_plain, Nat.zero_add]; exact cell_of_heap (heap_new _ _) (by simpa using hj))); intro gg cq w5 hown1 hgrow hat hlt1; obtain ⟨q8, z9, hg9, hR⟩ := GAt.added' HG.out (W' := _) (by first | exact ((HF1.out.drew).drew).alloc _ | exact (HF1.out.drew).alloc _ | exact HF1.out.alloc _) HN.out ⟨op, m, ⟨dk, dn, dw⟩, la, l, lc, x⟩ (HSK.out _ (by first | exact ((HF1.out.drew).drew).alloc _ | exact (HF1.out.drew).alloc _ | exact HF1.out.alloc _)) (by rw [HF7.out]; exact hown1) hgrow (by simp) hat; have HGR := Lib.hid hR; clear hR hown1 hgrow hat)
  all_goals (go_end0; exact ⟨rfl, _, HGR.out, ⟨HO.out.method, HO.out.args, HO.out.temps, HO.out.regs, HO.out.spills, HO.out.sites, HO.out.ea, HO.out.enter, HO.out.ec, by simp [GS.add, ← HO.out.code], HO.out.starts, HO.out.maps⟩⟩)
theorem GIs.fresh {κ : GK} {w1 : World} {gb : Nat} {X : List (Nat × Obj)} {na : Option Addr} {nc : Nat} {N : List Sr} {g : GS} {W W' : World} (h : GIs κ w1 gb X na nc N g W) (hF : Fr [] W W') {b : Nat} {o : Obj} (hb : W'.heap[b]? = some o) (hge : W.heap.size ≤ b) : GIs κ w1 gb ((b, o) :: X) na nc N g W' := by
  obtain ⟨u, h1, h2⟩ := h
  obtain ⟨l1, l2, l3, l4⟩ := h1.own_lt
  have hgb := lt_of_heap h1.box
  exact ⟨u, (h1.fr0 hF).more (fun _ => trivial) hb (by omega) (fun e => by have := l1 _ e; omega) (fun e => by have := l2 _ e; omega) (fun e => by have := l3 _ e; omega) (fun e => by have := l4 _ e; omega), h2⟩
theorem GIs.notesCell {κ : GK} {w1 : World} {gb : Nat} {X : List (Nat × Obj)} {na : Option Addr} {nc : Nat} {N : List Sr} {g : GS} {W : World} (h : GIs κ w1 gb X na nc N g W) : W.cell? ⟨gb, 8, none⟩ = some (.slice na N.length nc) := by
  obtain ⟨u, h1, h2⟩ := h
  exact cell_of_heap h1.box rfl
theorem GIs.litsCell {κ : GK} {w1 : World} {gb : Nat} {X : List (Nat × Obj)} {na : Option Addr} {nc : Nat} {N : List Sr} {g : GS} {W : World} (h : GIs κ w1 gb X na nc N g W) : W.cell? ⟨gb, 4, none⟩ = some (.slice κ.la κ.m.lits.length κ.lc) := by
  obtain ⟨u, h1, h2⟩ := h
  exact cell_of_heap h1.box rfl
theorem GIs.lt {κ : GK} {w1 : World} {gb : Nat} {X : List (Nat × Obj)} {na : Option Addr} {nc : Nat} {N : List Sr} {g : GS} {W : World} (h : GIs κ w1 gb X na nc N g W) : gb < W.heap.size := by
  obtain ⟨u, h1, h2⟩ := h
  exact lt_of_heap h1.box
set_option maxRecDepth 100000 in
set_option maxHeartbeats 4000000 in
theorem gn_addResult {κ : GK} {w1 : World} {gb : Nat} {X : List (Nat × Obj)} {na : Option Addr} {nc : Nat} {N : List Sr} {g : GS} {W : World} (h : GIs κ w1 gb X na nc N g W) (hT : 0 ≤ κ.m.temps ∧ κ.m.temps ≤ 16) (i : Ii) (hx : InX w1 X i.la i.l i.lc) (hN : N.length ≤ 900) (hl : g.code.length ≤ 100000) : Calls Tryz.prog 89 #[.pointer (some ⟨gb, 0, none⟩), i.v] W (fun e w' => e = .returned (.tuple #[]) ∧ ∃ na' nc', GIs κ w1 gb X na' nc' (N ++ [home κ.m.temps N.length]) (g.add [mkI i.op i.n (home κ.m.temps N.length) i.l i.w]) w') := by
  obtain ⟨D, hD⟩ : ∃ D, D = home κ.m.temps N.length := ⟨_, rfl⟩
  rw [← hD]
  obtain ⟨n, hn⟩ : ∃ n, n = N.length := ⟨_, rfl⟩
  have hh : Hid (∀ W', Fr [] W W' → Calls Tryz.prog 58 #[.pointer (some ⟨gb, 0, none⟩), .int .i64 (n : Int)] W' (Still D.v W')) := Lib.hid fun W' hF => by rw [hD, ← hn]; exact gn_home (h.fr0 hF) hT rfl (by omega)
  have p8 := h.notesCell
  rw [← hn] at p8 hN
  have hgb := h.lt
  have HG := Lib.hid h
  have HL := Lib.hid hl
  obtain ⟨op, m, ⟨dk, dn, dw⟩, la, l, lc, x⟩ := i
  have HADD : Hid (∀ W3 b o (hF : Fr [] W W3) (hb : W3.heap[b]? = some o) (hge : W.heap.size ≤ b), Calls Tryz.prog 63 #[.pointer (some ⟨gb, 0, none⟩), Ii.v ⟨op, m, D, la, l, lc, x⟩] W3 (fun e w' => e = .returned (.tuple #[]) ∧ GIs κ w1 gb ((b, o) :: X) na nc N (g.add [mkI op m D l x]) w')) := Lib.hid fun W3 b o hF hb hge => gn_add (h.fresh hF hb hge) ⟨op, m, D, la, l, lc, x⟩ (hx.more _) hl
  have HNL : Hid (N.length ≤ 1000) := Lib.hid (by omega)
  obtain ⟨ll, hll⟩ : ∃ ll, ll = l.length := ⟨_, rfl⟩
  unfold Ii.v
  unfold Ii.v at HADD
  simp only [← hll] at HADD ⊢
  have hw0 := heap_new W (.cells #[.int .i64 op, .int .i64 m, .int .i64 dk, .int .i64 dn, .int .u64 dw, .slice la ll lc, .int .u64 x] 59)
  have HW0 := Lib.hid hw0
  have y0 := frozen_of_heap (o := 0) hw0; have y1 := frozen_of_heap (o := 1) hw0; have y2 := frozen_of_heap (o := 2) hw0; have y3 := frozen_of_heap (o := 3) hw0; have y4 := frozen_of_heap (o := 4) hw0; have y5 := frozen_of_heap (o := 5) hw0; have y6 := frozen_of_heap (o := 6) hw0
  have p8' := ((Fr.refl [] W).alloc (.cells #[.int .i64 op, .int .i64 m, .int .i64 dk, .int .i64 dn, .int .u64 dw, .slice la ll lc, .int .u64 x] 59)).cell (by simp) p8
  obtain ⟨ek, en, ew⟩ := D
  unfold Sr.v at hh
  clear h hx hl hD hn hll hw0
  go_enter Tryz.func89, Tryz.ntmps89
  go_upto_region 2 with (go_at_call 58; refine (hh.out _ ((Fr.refl [] W).alloc _)).mono ?_; rintro e w2 ⟨rfl, hF⟩; have HF2 : Hid (Fr [] W w2) := Lib.hid (((Fr.refl [] W).alloc _).trans hF); have hb := hF.heap (by simp) HW0.out; have HB2 := Lib.hid hb; have k0 := cell_of_heap (o := 0) hb rfl; have k1 := cell_of_heap (o := 1) hb rfl; have k2 := cell_of_heap (o := 2) hb rfl; have k3 := cell_of_heap (o := 3) hb rfl; have k4 := cell_of_heap (o := 4) hb rfl; have k5 := cell_of_heap (o := 5) hb rfl; have k6 := cell_of_heap (o := 6) hb rfl; have z0 := frozen_of_heap (o := 0) hb; have z1 := frozen_of_heap (o := 1) hb; have z2 := frozen_of_heap (o := 2) hb; have z3 := frozen_of_heap (o := 3) hb; have z4 := frozen_of_heap (o := 4) hb; have z5 := frozen_of_heap (o := 5) hb; have z6 := frozen_of_heap (o := 6) hb; have hlt2 := lt_of_heap hb; clear hF hb)
  obtain ⟨W3, hW3⟩ : ∃ W3, W3 = ((w2.setCell ⟨W.heap.size, 2, none⟩ (.int .i64 ek)).setCell ⟨W.heap.size, 3, none⟩ (.int .i64 en)).setCell ⟨W.heap.size, 4, none⟩ (.int .u64 ew) := ⟨_, rfl⟩
  rw [← hW3]
  have hF3 : Fr [] W W3 := by rw [hW3]; exact ((HF2.out.setCell (fun h => absurd h (Nat.lt_irrefl _)) _).setCell (fun h => absurd h (Nat.lt_irrefl _)) _).setCell (fun h => absurd h (Nat.lt_irrefl _)) _
  have hb3 : W3.heap[W.heap.size]? = some (.cells #[.int .i64 op, .int .i64 m, .int .i64 ek, .int .i64 en, .int .u64 ew, .slice la ll lc, .int .u64 x] 59 (0, 0)) := by rw [hW3]; exact heap_setCell_same (heap_setCell_same (heap_setCell_same HB2.out _) _) _
  have hadd := HADD.out W3 _ _ hF3 hb3 (Nat.le_refl _)
  have HA := Lib.hid hadd
  clear k0 k1 k2 k3 k4 k5 k6 z0 z1 z2 z3 z4 z5 z6 hlt2 p8' hW3 hadd
  have k0 := cell_of_heap (o := 0) hb3 rfl; have k1 := cell_of_heap (o := 1) hb3 rfl; have k2 := cell_of_heap (o := 2) hb3 rfl; have k3 := cell_of_heap (o := 3) hb3 rfl; have k4 := cell_of_heap (o := 4) hb3 rfl; have k5 := cell_of_heap (o := 5) hb3 rfl; have k6 := cell_of_heap (o := 6) hb3 rfl
  have hlt3 := lt_of_heap hb3
  clear hb3 hF3
  go_wp2_with (go_at_call 63; refine HA.out.mono ?_; rintro e w4 ⟨rfl, hG4⟩; have hb4 := hG4.keep _ (List.mem_cons_self ..); have HG4 := Lib.hid hG4; have j0 := cell_of_heap (o := 0) hb4 rfl; have j1 := cell_of_heap (o := 1) hb4 rfl; have j2 := cell_of_heap (o := 2) hb4 rfl; have j3 := cell_of_heap (o := 3) hb4 rfl; have j4 := cell_of_heap (o := 4) hb4 rfl; have j5 := cell_of_heap (o := 5) hb4 rfl; have j6 := cell_of_heap (o := 6) hb4 rfl; have hlt4 := lt_of_heap hb4; have hgb4 := hG4.lt; clear hb4 hG4)
  go_region_held3 (fun w' => w'.cell? ⟨W.heap.size, 2, none⟩ = some (.int .i64 ek) ∧ w'.cell? ⟨W.heap.size, 3, none⟩ = some (.int .i64 en) ∧ w'.cell? ⟨W.heap.size, 4, none⟩ = some (.int .u64 ew))
    (first | exact ⟨j2, j3, j4⟩ | exact ⟨i2, i3, i4⟩ | go_keep)
    ((go_at_call 57; refine (gn_push (HG4.out.fr0 (by (repeat (first | (with_reducible refine Fr.setCell ?_ (fun h => absurd h (Nat.lt_irrefl _)) _) | (with_reducible refine Fr.setCell ?_ (fun h => absurd h (by first | omega | (simp; done) | (simp; omega) | (dsimp only; omega))) _) | (with_reducible refine Fr.alloc ?_ _) | (with_reducible refine Fr.drew ?_) | (with_reducible refine Fr.drewN ?_ _) | (with_reducible exact Fr.refl _ _))))) ⟨ek, en, ew⟩ HNL.out).mono ?_; rintro e w5 ⟨rfl, na', nc', hG5⟩; have hb5 := hG5.keep _ (List.mem_cons_self ..); have HG5 := Lib.hid hG5; have i0 := cell_of_heap (o := 0) hb5 rfl; have i1 := cell_of_heap (o := 1) hb5 rfl; have i2 := cell_of_heap (o := 2) hb5 rfl; have i3 := cell_of_heap (o := 3) hb5 rfl; have i4 := cell_of_heap (o := 4) hb5 rfl; have i5 := cell_of_heap (o := 5) hb5 rfl; have i6 := cell_of_heap (o := 6) hb5 rfl; clear hb5 hG5))
  go_end0
  exact ⟨rfl, na', nc', (HG5.out.fr0 (by (repeat (first | (with_reducible refine Fr.setCell ?_ (fun h => absurd h (Nat.lt_irrefl _)) _) | (with_reducible refine Fr.setCell ?_ (fun h => absurd h (by first | omega | (simp; done) | (simp; omega) | (dsimp only; omega))) _) | (with_reducible refine Fr.alloc ?_ _) | (with_reducible refine Fr.drew ?_) | (with_reducible refine Fr.drewN ?_ _) | (with_reducible exact Fr.refl _ _))))).less (fun x hx => List.mem_cons_of_mem _ hx)⟩
end Go.Proofs.YtomcfjckhajhmabGreatDoor
namespace Go.Proofs.YtomcfjckhajhmabGreatDoor
open Go.RowKit

section
variable {κ : GK} {w1 : World} {gb : Nat} {X : List (Nat × Obj)} {na : Option Addr} {nc : Nat} {N : List Sr} {g : GS} {W : World}
theorem GIs.note (h : GIs κ w1 gb X na nc N g W) {d : Nat} {s : Sr} (hs : N[d]? = some s) : ∃ nb, na = some ⟨nb, 0, none⟩ ∧ nb ≠ gb ∧ nb < W.heap.size ∧ N.length ≤ nc ∧ W.cell? ⟨nb, d * 3, none⟩ = some (.int .i64 s.kind) ∧ W.cell? ⟨nb, d * 3 + 1, none⟩ = some (.int .i64 s.n) ∧ W.cell? ⟨nb, d * 3 + 2, none⟩ = some (.int .u64 s.w) ∧ ∀ k, W.frozen? ⟨nb, k, none⟩ = false := by
  obtain ⟨u, h1, h2⟩ := h
  have hl := (List.getElem?_eq_some_iff.1 hs).1
  obtain ⟨nb, rfl, hR, hle⟩ := h1.notes_at (by omega)
  obtain ⟨f0, f1, f2⟩ := flatS_at hs
  exact ⟨nb, rfl, fun e => h1.gen_ne.1 (by rw [e]; rfl), hR.lt, hle, hR.cell f0, hR.cell f1, hR.cell f2, hR.frozen⟩
theorem GIs.noted (h : GIs κ w1 gb X na nc N g W) {nb d : Nat} (hna : na = some ⟨nb, 0, none⟩) (hd : d < N.length) (s : Sr) : GIs κ w1 gb X na nc (N.set d s) g (((W.setCell ⟨nb, d * 3, none⟩ (.int .i64 s.kind)).setCell ⟨nb, d * 3 + 1, none⟩ (.int .i64 s.n)).setCell ⟨nb, d * 3 + 2, none⟩ (.int .u64 s.w)) :=
  let ⟨u, h1, h2⟩ := h
  ⟨u, h1.noted hna hd s, h2⟩
set_option maxRecDepth 100000 in
set_option maxHeartbeats 4000000 in
theorem gn_bringHome (h : GIs κ w1 gb X na nc N g W) (hT : 0 ≤ κ.m.temps ∧ κ.m.temps ≤ 16) {z : Int} {d : Nat} (hz : z = (d : Int)) {s : Sr} (hs : N[d]? = some s) (hN : N.length ≤ 900) (hl : g.code.length ≤ 100000) : Calls Tryz.prog 95 #[.pointer (some ⟨gb, 0, none⟩), .int .i64 z] W (fun e w' => e = .returned (.tuple #[]) ∧ GIs κ w1 gb X na nc (N.set d (home κ.m.temps d)) (g.add [mvI (home κ.m.temps d) s]) w') := by
  subst hz
  have hd := (List.getElem?_eq_some_iff.1 hs).1
  obtain ⟨D, hD⟩ : ∃ D, D = home κ.m.temps d := ⟨_, rfl⟩
  rw [← hD]
  have hh : Hid (∀ na' nc' N' g' X' W', GIs κ w1 gb X' na' nc' N' g' W' → Calls Tryz.prog 58 #[.pointer (some ⟨gb, 0, none⟩), .int .i64 (d : Int)] W' (Still D.v W')) := Lib.hid fun na' nc' N' g' X' W' hG => by rw [hD]; exact gn_home hG hT rfl (by omega)
  have p8 := h.notesCell
  obtain ⟨nb, hna, hne, hnb, hle, c0, c1, c2, hfz⟩ := h.note hs
  obtain ⟨n, hn⟩ : ∃ n, n = N.length := ⟨_, rfl⟩
  rw [← hn] at p8 hN hle hd
  subst hna
  have HG := Lib.hid h
  have HN := Lib.hid hn
  have HSD := Lib.hid hs
  obtain ⟨sk, sn, sw⟩ := s
  simp only at c0 c1 c2
  have HADD : Hid (∀ W3 b (hF : Fr [] W W3) (hb : W3.heap[b]? = some (.cells #[.int .i64 sk, .int .i64 sn, .int .u64 sw] 57 (0, 0))) (hge : W.heap.size ≤ b), Calls Tryz.prog 63 #[.pointer (some ⟨gb, 0, none⟩), Ii.v ⟨1, 0, D, some ⟨b, 0, none⟩, [⟨sk, sn, sw⟩], 1, 0⟩] W3 (fun e w' => e = .returned (.tuple #[]) ∧ GIs κ w1 gb X (some ⟨nb, 0, none⟩) nc N (g.add [mvI D ⟨sk, sn, sw⟩]) w')) := Lib.hid fun W3 b hF hb hge => (gn_add (h.fresh hF hb hge) ⟨1, 0, D, some ⟨b, 0, none⟩, [⟨sk, sn, sw⟩], 1, 0⟩ ⟨⟨fun h => (by cases h), by simp, by simp [maxLen]⟩, .inr ⟨b, _, [], rfl, by have := h.fr.size; omega, List.mem_cons_self .., by simp [flatS]⟩⟩ hl).mono fun e w' ⟨h1, h2⟩ => ⟨h1, h2.less (fun x hx => List.mem_cons_of_mem _ hx)⟩
  unfold Ii.v at HADD
  obtain ⟨ek, en, ew⟩ := D
  unfold Sr.v at hh
  simp only [List.length_singleton] at HADD
  have hgb := h.lt
  have d0 : (0 : Int) ≤ (d : Int) := by omega
  have d1 : (d : Int) < (n : Int) := by omega
  have HNE := Lib.hid hne
  clear h hD hn hs hl hfz hne
  go_enter Tryz.func95, Tryz.ntmps95
  go_wp2_with fail
  go_region_held3 (fun w' => w'.cell? ⟨gb, 8, none⟩ = some (.slice (some ⟨nb, 0, none⟩) n nc) ∧ w'.cell? ⟨nb, d * 3, none⟩ = some (.int .i64 sk) ∧ w'.cell? ⟨nb, d * 3 + 1, none⟩ = some (.int .i64 sn) ∧ w'.cell? ⟨nb, d * 3 + 2, none⟩ = some (.int .u64 sw))
    (first | exact ⟨p8, c0, c1, c2⟩ | exact ⟨HF2.out.cell (by simp) p8, HF2.out.cell (by simp) c0, HF2.out.cell (by simp) c1, HF2.out.cell (by simp) c2⟩ | exact HS4.out | go_keep)
    (first
      | (go_at_call 58; refine (hh.out _ _ _ _ _ _ (HG.out.fr0 (by (repeat (first | (with_reducible refine Fr.setCell ?_ (fun h => absurd h (Nat.lt_irrefl _)) _) | (with_reducible refine Fr.setCell ?_ (fun h => absurd h (by first | omega | (simp; done) | (simp; omega) | (dsimp only; omega))) _) | (with_reducible refine Fr.alloc ?_ _) | (with_reducible refine Fr.drew ?_) | (with_reducible refine Fr.drewN ?_ _) | (with_reducible exact Fr.refl _ _)))))).mono ?_; rintro e w2 ⟨rfl, hF⟩; have HF2 : Hid (Fr [] W w2) := Lib.hid (Fr.trans (by (repeat (first | (with_reducible refine Fr.setCell ?_ (fun h => absurd h (Nat.lt_irrefl _)) _) | (with_reducible refine Fr.setCell ?_ (fun h => absurd h (by first | omega | (simp; done) | (simp; omega) | (dsimp only; omega))) _) | (with_reducible refine Fr.alloc ?_ _) | (with_reducible refine Fr.drew ?_) | (with_reducible refine Fr.drewN ?_ _) | (with_reducible exact Fr.refl _ _)))) hF); (try have HNB : Hid (w2.heap[W.heap.size]? = some (.cells #[.int .i64 sk, .int .i64 sn, .int .u64 sw] 57 (0, 0))) := Lib.hid (hF.heap (by simp) (heap_new _ _))); clear hF)
      | (go_at_call 63; (first | with_reducible refine (HADD.out _ _ HF2.out HNB.out (Nat.le_refl _)).mono ?_ | with_reducible refine (HADD.out _ _ (HF2.out.alloc _) (heap_new _ _) HF2.out.size).mono ?_); rintro e w4 ⟨rfl, hG⟩; have HS4 : Hid (w4.cell? ⟨gb, 8, none⟩ = some (.slice (some ⟨nb, 0, none⟩) n nc) ∧ w4.cell? ⟨nb, d * 3, none⟩ = some (.int .i64 sk) ∧ w4.cell? ⟨nb, d * 3 + 1, none⟩ = some (.int .i64 sn) ∧ w4.cell? ⟨nb, d * 3 + 2, none⟩ = some (.int .u64 sw)) := Lib.hid (by obtain ⟨nb', e9, -, -, -, e0, e1, e2, -⟩ := hG.note HSD.out; cases e9; exact ⟨by rw [HN.out]; exact hG.notesCell, e0, e1, e2⟩); have HG4 := Lib.hid hG; clear hG))
  all_goals
    have HG5 : Hid (GIs κ w1 gb X (some ⟨nb, 0, none⟩) nc N (g.add [mvI ⟨ek, en, ew⟩ ⟨sk, sn, sw⟩]) w4) := Lib.hid HG4.out
    obtain ⟨q8, q0, q1, q2⟩ := HS4.out
    have hg4 := HG4.out.lt
    clear p8 c0 c1 c2 HF2 HG4 HS4
    (try clear HNB)
    go_wp2_with fail
    go_region_law (go_simp; go_at_call 58; refine (hh.out _ _ _ _ _ _ (HG5.out.fr0 (by (repeat (first | (with_reducible refine Fr.setCell ?_ (fun h => absurd h (Nat.lt_irrefl _)) _) | (with_reducible refine Fr.setCell ?_ (fun h => absurd h (by first | omega | (simp; done) | (simp; omega) | (dsimp only; omega))) _) | (with_reducible refine Fr.alloc ?_ _) | (with_reducible refine Fr.drew ?_) | (with_reducible refine Fr.drewN ?_ _) | (with_reducible exact Fr.refl _ _)))))).mono ?_; rintro e w5 ⟨rfl, hF⟩; have hG6 := HG5.out.fr0 (Fr.trans (by (repeat (first | (with_reducible refine Fr.setCell ?_ (fun h => absurd h (Nat.lt_irrefl _)) _) | (with_reducible refine Fr.setCell ?_ (fun h => absurd h (by first | omega | (simp; done) | (simp; omega) | (dsimp only; omega))) _) | (with_reducible refine Fr.alloc ?_ _) | (with_reducible refine Fr.drew ?_) | (with_reducible refine Fr.drewN ?_ _) | (with_reducible exact Fr.refl _ _)))) hF); have HG6 := Lib.hid hG6; have r8 : w5.cell? ⟨gb, 8, none⟩ = some (.slice (some ⟨nb, 0, none⟩) n nc) := (by rw [HN.out]; exact hG6.notesCell); obtain ⟨nb', e9, -, hnb5, -, r0, r1, r2, hfz⟩ := hG6.note HSD.out; cases e9; have f0 := hfz (d * 3); have f1 := hfz (d * 3 + 1); have f2 := hfz (d * 3 + 2); have hg5 := hG6.lt; clear hfz hG6 hF)
    all_goals (go_end0; exact ⟨rfl, HG6.out.noted rfl (by rw [← HN.out]; exact hd) ⟨ek, en, ew⟩⟩)
end
end Go.Proofs.YtomcfjckhajhmabGreatDoor
namespace Go.Proofs.YtomcfjckhajhmabGreatDoor
open Go.RowKit

theorem bringC_snoc (T : Int) : ∀ (d : Nat) (l : List Sr) (s : Sr), bringC T d (l ++ [s]) = bringC T d l ++ (if s = home T (d + l.length) then [] else [mvI (home T (d + l.length)) s])
  | d, [], s => by simp [bringC]
  | d, a :: l, s => by
    rw [List.cons_append, bringC, bringC, bringC_snoc T (d + 1) l s, List.append_assoc]
    rw [show d + 1 + l.length = d + (a :: l).length by simp; omega]
theorem flushC_snoc (T a : Int) : ∀ (d : Nat) (l : List Sr) (s : Sr), flushC T a d (l ++ [s]) = flushC T a d l ++ (if s = regS a then [mvI (home T (d + l.length)) s] else [])
  | d, [], s => by simp [flushC]
  | d, x :: l, s => by
    rw [List.cons_append, flushC, flushC, flushC_snoc T a (d + 1) l s, List.append_assoc]
    rw [show d + 1 + l.length = d + (x :: l).length by simp; omega]
theorem flushN_snoc (T a : Int) : ∀ (d : Nat) (l : List Sr) (s : Sr), flushN T a d (l ++ [s]) = flushN T a d l ++ [if s = regS a then home T (d + l.length) else s]
  | d, [], s => by simp [flushN]
  | d, x :: l, s => by
    rw [List.cons_append, flushN, flushN, flushN_snoc T a (d + 1) l s, List.cons_append]
    rw [show d + 1 + l.length = d + (x :: l).length by simp; omega]
theorem bringC_le (T : Int) : ∀ (d : Nat) (l : List Sr), (bringC T d l).length ≤ l.length
  | d, [] => by simp [bringC]
  | d, a :: l => by
    have := bringC_le T (d + 1) l
    rw [bringC, List.length_append, List.length_cons]
    split <;> simp <;> omega
theorem flushC_le (T a : Int) : ∀ (d : Nat) (l : List Sr), (flushC T a d l).length ≤ l.length
  | d, [] => by simp [flushC]
  | d, x :: l => by
    have := flushC_le T a (d + 1) l
    rw [flushC, List.length_append, List.length_cons]
    split <;> simp <;> omega
theorem take_len_lt {α : Type} {l : List α} {k : Nat} (h : k < l.length) : (l.take k).length = k := by rw [List.length_take]; omega
theorem bring_step {T : Int} {N : List Sr} {k : Nat} {s : Sr} (h : N[k]? = some s) : bringC T 0 (N.take (k + 1)) = bringC T 0 (N.take k) ++ (if s = home T k then [] else [mvI (home T k) s]) := by
  rw [take_snoc h, bringC_snoc, take_len_lt (List.getElem?_eq_some_iff.1 h).1, Nat.zero_add]
theorem mid_at {α : Type} {A N : List α} {k : Nat} {s : α} (hA : A.length = k) (h : N[k]? = some s) : (A ++ N.drop k)[k]? = some s := by
  rw [List.getElem?_append_right (by omega), hA, Nat.sub_self, List.getElem?_drop]
  exact h
theorem mid_set {α : Type} {A N : List α} {k : Nat} {s : α} (hA : A.length = k) (h : N[k]? = some s) (t : α) : (A ++ N.drop k).set k t = A ++ [t] ++ N.drop (k + 1) := by
  rw [List.set_append_right _ _ (by omega), hA, Nat.sub_self, List.append_assoc]
  have hl := (List.getElem?_eq_some_iff.1 h).1
  rw [List.drop_eq_getElem_cons hl]
  rfl
theorem mid_same {α : Type} {A N : List α} {k : Nat} {s : α} (h : N[k]? = some s) : A ++ N.drop k = A ++ [s] ++ N.drop (k + 1) := by
  have hl := (List.getElem?_eq_some_iff.1 h).1
  rw [List.drop_eq_getElem_cons hl, List.append_assoc]
  congr 1
  rw [List.getElem?_eq_getElem hl] at h
  cases h
  rfl
theorem homes_snoc (T : Int) (k : Nat) : homes T (k + 1) = homes T k ++ [home T k] := by simp [homes, List.range_succ]
theorem GS.add_add (g : GS) (A B : List Ii) : (g.add A).add B = g.add (A ++ B) := by simp [GS.add, List.append_assoc]
theorem GS.add_nil (g : GS) : g.add [] = g := by simp [GS.add]
/-- two sources, compared -/
theorem sr_cases (p q : Sr) : (p.kind = q.kind ∧ p.n = q.n ∧ p.w = q.w) ∨ ((p.kind == q.kind) = false ∧ p ≠ q) ∨ (p.kind = q.kind ∧ (p.n == q.n) = false ∧ p ≠ q) ∨ (p.kind = q.kind ∧ p.n = q.n ∧ (p.w == q.w) = false ∧ p ≠ q) := by
  obtain ⟨a, b, c⟩ := p
  obtain ⟨a2, b2, c2⟩ := q
  simp only [beq_eq_false_iff_ne, ne_eq, Sr.mk.injEq]
  omega
section
variable {κ : GK} {w1 : World} {gb : Nat} {X : List (Nat × Obj)} {na : Option Addr} {nc : Nat} {N : List Sr} {g : GS} {W : World}
set_option maxRecDepth 100000 in
set_option maxHeartbeats 4000000 in
theorem gn_allHome (h : GIs κ w1 gb X na nc N g W) (hT : 0 ≤ κ.m.temps ∧ κ.m.temps ≤ 16) (hN : N.length ≤ 900) (hl : g.code.length ≤ 50000) : Calls Tryz.prog 65 #[.pointer (some ⟨gb, 0, none⟩)] W (fun e w' => e = .returned (.tuple #[]) ∧ GIs κ w1 gb X na nc (homes κ.m.temps N.length) (g.add (bringC κ.m.temps 0 N)) w') := by
  have p8 := h.notesCell
  have hgb := h.lt
  obtain ⟨n, hn⟩ : ∃ n, n = N.length := ⟨_, rfl⟩
  rw [← hn] at p8 hN ⊢
  have HG := Lib.hid h
  have HN := Lib.hid hn
  have HL := Lib.hid hl
  obtain ⟨T, hTT⟩ : ∃ T, T = κ.m.temps := ⟨_, rfl⟩
  have HHO : Hid (∀ (k : Nat) na' nc' N' g' X' W', k ≤ 1000 → GIs κ w1 gb X' na' nc' N' g' W' → Calls Tryz.prog 58 #[.pointer (some ⟨gb, 0, none⟩), .int .i64 (k : Int)] W' (Still (home T k).v W')) := Lib.hid fun k na' nc' N' g' X' W' hk hG => by rw [hTT]; exact gn_home hG hT rfl hk
  have HBR : Hid (∀ (k : Nat) N' g' W' s, GIs κ w1 gb X na nc N' g' W' → N'[k]? = some s → N'.length ≤ 900 → g'.code.length ≤ 100000 → Calls Tryz.prog 95 #[.pointer (some ⟨gb, 0, none⟩), .int .i64 (k : Int)] W' (fun e w' => e = .returned (.tuple #[]) ∧ GIs κ w1 gb X na nc (N'.set k (home T k)) (g'.add [mvI (home T k) s]) w')) := Lib.hid fun k N' g' W' s hG hs h1 h2 => by rw [hTT]; exact gn_bringHome hG hT rfl hs h1 h2
  rw [← hTT]
  clear h hn hl hTT
  go_enter Tryz.func65, Tryz.ntmps65
  go_wp2_with fail
  go_loopw [9] (fun i wr => ∃ k : Nat, k ≤ n ∧ i = .int .i64 k ∧ Hid (GIs κ w1 gb X na nc (homes T k ++ N.drop k) (g.add (bringC T 0 (N.take k))) wr)) (fun i _ => n - (intOf i).toNat)
  case atStart => exact ⟨0, Nat.zero_le _, rfl, Lib.hid (by simpa [homes, bringC, GS.add] using HG.out)⟩
  case round =>
    obtain ⟨k, hk, rfl, HK⟩ := hrel
    by_cases hlt : k < n
    · have hkl : k < N.length := by rw [← HN.out]; exact hlt
      obtain ⟨s, hs⟩ : ∃ s, N[k]? = some s := ⟨_, List.getElem?_eq_getElem hkl⟩
      have hmid := mid_at (A := homes T k) (homes_len T k) hs
      obtain ⟨nb, hna, hne, hnb, hle, c0, c1, c2, -⟩ := HK.out.note hmid
      have HST := Lib.hid (bring_step (T := T) hs)
      have HM := Lib.hid hmid
      have HLN : Hid ((homes T k ++ N.drop k).length = n) := Lib.hid (by rw [List.length_append, homes_len, List.length_drop, ← HN.out]; omega)
      have HLC : Hid ((g.add (bringC T 0 (N.take k))).code.length ≤ 100000) := Lib.hid (by have h1 := bringC_le T 0 (N.take k); have h2 := HL.out; rw [List.length_take] at h1; simp only [GS.add, List.length_append]; omega)
      have HS1 := Lib.hid (mid_set (A := homes T k) (homes_len T k) hs (home T k))
      have HS2 := Lib.hid (mid_same (A := homes T k) hs)
      have k0 : (0 : Int) ≤ (k : Int) := by omega
      have k1 : (k : Int) < (n : Int) := by omega
      have hwb := heap_new wr (.cells #[.int .i64 s.kind, .int .i64 s.n, .int .u64 s.w] 57)
      have HWB := Lib.hid hwb
      subst hna
      clear hmid hkl hle hs hwb
      obtain ⟨D, hD⟩ : ∃ D, D = home T k := ⟨_, rfl⟩
      have hc := sr_cases s D
      have hhome : Hid (∀ na' nc' N' g' X' W', GIs κ w1 gb X' na' nc' N' g' W' → Calls Tryz.prog 58 #[.pointer (some ⟨gb, 0, none⟩), .int .i64 (k : Int)] W' (Still D.v W')) := Lib.hid fun na' nc' N' g' X' W' hG => by rw [hD]; exact HHO.out k na' nc' N' g' X' W' (by omega) hG
      have HD := Lib.hid hD
      obtain ⟨sk, sn, sw⟩ := s
      obtain ⟨ek, en, ew⟩ := D
      simp only at hc c0 c1 c2 HWB
      unfold Sr.v at hhome
      clear hD
      rcases hc with ⟨rfl, rfl, rfl⟩ | ⟨q1, q2⟩ | ⟨rfl, q1, q2⟩ | ⟨rfl, rfl, q1, q2⟩
      case inl =>
        have HG2 : Hid (GIs κ w1 gb X (some ⟨nb, 0, none⟩) nc (homes T (k + 1) ++ N.drop (k + 1)) (g.add (bringC T 0 (N.take (k + 1)))) wr) := Lib.hid (by
          rw [HST.out, if_pos HD.out, List.append_nil, homes_snoc, ← HD.out, ← HS2.out]
          exact HK.out)
        clear HST HS1 HS2 HM HLN HLC HBR
        go_wp2_with fail
        go_region_held3 (fun w' => w'.cell? ⟨wr.heap.size, 0, none⟩ = some (.int .i64 sk) ∧ w'.cell? ⟨wr.heap.size, 1, none⟩ = some (.int .i64 sn) ∧ w'.cell? ⟨wr.heap.size, 2, none⟩ = some (.int .u64 sw))
          (first | exact ⟨cell_of_heap HWB.out rfl, cell_of_heap HWB.out rfl, cell_of_heap HWB.out rfl⟩ | exact ⟨j0, j1, j2⟩ | go_keep)
          ((go_at_call 58; refine (hhome.out _ _ _ _ _ _ (HG2.out.fr0 (by (repeat (first | (with_reducible refine Fr.setCell ?_ (fun h => absurd h (Nat.lt_irrefl _)) _) | (with_reducible refine Fr.setCell ?_ (fun h => absurd h (by first | omega | (simp; done) | (simp; omega) | (dsimp only; omega))) _) | (with_reducible refine Fr.alloc ?_ _) | (with_reducible refine Fr.drew ?_) | (with_reducible refine Fr.drewN ?_ _) | (with_reducible exact Fr.refl _ _)))))).mono ?_; rintro e w2 ⟨rfl, hF⟩; have HF2 : Hid (Fr [] wr w2) := Lib.hid (Fr.trans (by (repeat (first | (with_reducible refine Fr.setCell ?_ (fun h => absurd h (Nat.lt_irrefl _)) _) | (with_reducible refine Fr.setCell ?_ (fun h => absurd h (by first | omega | (simp; done) | (simp; omega) | (dsimp only; omega))) _) | (with_reducible refine Fr.alloc ?_ _) | (with_reducible refine Fr.drew ?_) | (with_reducible refine Fr.drewN ?_ _) | (with_reducible exact Fr.refl _ _)))) hF); have hj := hF.heap (k := wr.heap.size) (by simp) HWB.out; have j0 := cell_of_heap (o := 0) hj rfl; have j1 := cell_of_heap (o := 1) hj rfl; have j2 := cell_of_heap (o := 2) hj rfl; clear hF hj))
        go_wp2_with fail
        go_roundw
        case rel => exact ⟨k + 1, by omega, by go_num, Lib.hid (HG2.out.fr0 (by (repeat (first | (with_reducible refine Fr.setCell ?_ (fun h => absurd h (Nat.lt_irrefl _)) _) | (with_reducible refine Fr.setCell ?_ (fun h => absurd h (by first | omega | (simp; done) | (simp; omega) | (dsimp only; omega))) _) | (with_reducible refine Fr.alloc ?_ _) | (with_reducible refine Fr.drew ?_) | (with_reducible refine Fr.drewN ?_ _) | (with_reducible exact HF2.out)))))⟩
        case measure => simp [intOf]; omega
      all_goals
        have HNE := Lib.hid q2
        clear q2
        go_wp2_with fail
        go_region_held3 (fun w' => w'.cell? ⟨wr.heap.size, 0, none⟩ = some (.int .i64 sk) ∧ w'.cell? ⟨wr.heap.size, 1, none⟩ = some (.int .i64 sn) ∧ w'.cell? ⟨wr.heap.size, 2, none⟩ = some (.int .u64 sw))
          (first | exact ⟨cell_of_heap HWB.out rfl, cell_of_heap HWB.out rfl, cell_of_heap HWB.out rfl⟩ | exact ⟨j0, j1, j2⟩ | go_keep)
          ((go_at_call 58; refine (hhome.out _ _ _ _ _ _ (HK.out.fr0 (by (repeat (first | (with_reducible refine Fr.setCell ?_ (fun h => absurd h (Nat.lt_irrefl _)) _) | (with_reducible refine Fr.setCell ?_ (fun h => absurd h (by first | omega | (simp; done) | (simp; omega) | (dsimp only; omega))) _) | (with_reducible refine Fr.alloc ?_ _) | (with_reducible refine Fr.drew ?_) | (with_reducible refine Fr.drewN ?_ _) | (with_reducible exact Fr.refl _ _)))))).mono ?_; rintro e w2 ⟨rfl, hF⟩; have HF2 : Hid (Fr [] wr w2) := Lib.hid (Fr.trans (by (repeat (first | (with_reducible refine Fr.setCell ?_ (fun h => absurd h (Nat.lt_irrefl _)) _) | (with_reducible refine Fr.setCell ?_ (fun h => absurd h (by first | omega | (simp; done) | (simp; omega) | (dsimp only; omega))) _) | (with_reducible refine Fr.alloc ?_ _) | (with_reducible refine Fr.drew ?_) | (with_reducible refine Fr.drewN ?_ _) | (with_reducible exact Fr.refl _ _)))) hF); have hj := hF.heap (k := wr.heap.size) (by simp) HWB.out; have j0 := cell_of_heap (o := 0) hj rfl; have j1 := cell_of_heap (o := 1) hj rfl; have j2 := cell_of_heap (o := 2) hj rfl; clear hF hj))
        go_wp2_with (go_at_call 95; refine (HBR.out k _ _ _ _ (HK.out.fr0 (by (repeat (first | (with_reducible refine Fr.setCell ?_ (fun h => absurd h (Nat.lt_irrefl _)) _) | (with_reducible refine Fr.setCell ?_ (fun h => absurd h (by first | omega | (simp; done) | (simp; omega) | (dsimp only; omega))) _) | (with_reducible refine Fr.alloc ?_ _) | (with_reducible refine Fr.drew ?_) | (with_reducible refine Fr.drewN ?_ _) | (with_reducible exact HF2.out))))) HM.out (by have := HLN.out; omega) HLC.out).mono ?_; rintro e w3 ⟨rfl, hG⟩; have HG3 := Lib.hid hG; clear hG)
        go_roundw
        case rel => exact ⟨k + 1, by omega, by go_num, Lib.hid (by have h9 := HG3.out; rw [HST.out, if_neg (by rw [← HD.out]; exact HNE.out), ← GS.add_add, homes_snoc, ← HS1.out]; exact h9)⟩
        case measure => simp [intOf]; omega
    · have hke : k = n := by omega
      have HE : Hid (GIs κ w1 gb X na nc (homes T n) (g.add (bringC T 0 N)) wr) := Lib.hid (by have h9 := HK.out; rw [hke, HN.out, List.drop_length, List.append_nil, List.take_length] at h9; rw [HN.out]; exact h9)
      have hkd : ¬ (k : Int) < (n : Int) := by omega
      clear hke hlt
      go_wp2_with fail
      go_end0
      exact ⟨rfl, HE.out⟩
end
end Go.Proofs.YtomcfjckhajhmabGreatDoor
namespace Go.Proofs.YtomcfjckhajhmabGreatDoor
open Go.RowKit

/-- what was taken, as one note -/
theorem took_one {N : List Sr} {q : Nat} (h : q + 1 = N.length) : N.drop q = [top N] := by
  have h9 := top_at (N := N) (by omega)
  rw [show N.length - 1 = q by omega] at h9
  have hl := (List.getElem?_eq_some_iff.1 h9).1
  rw [List.drop_eq_getElem_cons hl, List.drop_eq_nil_of_le (by omega)]
  rw [List.getElem?_eq_getElem hl] at h9
  rw [Option.some.inj h9]
theorem took_rest {N : List Sr} {q : Nat} (h : q + 1 = N.length) : N.take q = N.dropLast := by rw [List.dropLast_eq_take, ← h]; rfl
theorem flush_stepC {T a : Int} {N : List Sr} {k : Nat} {s : Sr} (h : N[k]? = some s) : flushC T a 0 (N.take (k + 1)) = flushC T a 0 (N.take k) ++ (if s = regS a then [mvI (home T k) s] else []) := by
  rw [take_snoc h, flushC_snoc, take_len_lt (List.getElem?_eq_some_iff.1 h).1, Nat.zero_add]
theorem flush_stepN {T a : Int} {N : List Sr} {k : Nat} {s : Sr} (h : N[k]? = some s) : flushN T a 0 (N.take (k + 1)) = flushN T a 0 (N.take k) ++ [if s = regS a then home T k else s] := by
  rw [take_snoc h, flushN_snoc, take_len_lt (List.getElem?_eq_some_iff.1 h).1, Nat.zero_add]
theorem arr3_at (a b c : Value) (r : Array Value) : (#[a, b, c] ++ r)[0]? = some a ∧ (#[a, b, c] ++ r)[1]? = some b ∧ (#[a, b, c] ++ r)[2]? = some c := by
  refine ⟨?_, ?_, ?_⟩ <;> (rw [Array.getElem?_append_left (by simp)]; rfl)
theorem took_to {κ : GK} {w1 : World} {gb : Nat} {X : List (Nat × Obj)} {na : Option Addr} {nc : Nat} {N M : List Sr} {g : GS} {W : World} (h : GIs κ w1 gb X na nc N g W) {q : Nat} {s : Sr} (hq : q + 1 = N.length) (hone : N.drop q = [s]) (hrest : N.take q = M) (hN : N.length ≤ 1000) : Calls Tryz.prog 88 #[.pointer (some ⟨gb, 8, none⟩), .int .i64 1] W (fun e w' => ∃ b c rest, e = .returned (.slice (some ⟨b, 0, none⟩) 1 c) ∧ SlOk (some ⟨b, 0, none⟩) 1 c ∧ w1.heap.size ≤ b ∧ GIs κ w1 gb ((b, .cells (#[.int .i64 s.kind, .int .i64 s.n, .int .u64 s.w] ++ rest) 57 (0, 0)) :: X) na nc M g w') :=
  (gn_take h (nn := 1) rfl hq (by omega) hN).mono (by
    rintro e w' ⟨b, c, cur, rest, he, hc, hk, hlo, hG⟩
    rw [hone] at hc
    rw [hrest] at hG
    refine ⟨b, c, rest.toArray, he, hk, hlo, ?_⟩
    have : cur = #[.int .i64 s.kind, .int .i64 s.n, .int .u64 s.w] ++ rest.toArray := by
      apply Array.toList_inj.1
      rw [hc]
      simp [flatS]
    rw [← this]
    exact hG)
theorem took_inX {w1 : World} {X : List (Nat × Obj)} {b c : Nat} {rest : Array Value} {s : Sr} (hk : SlOk (some ⟨b, 0, none⟩) 1 c) (hlo : w1.heap.size ≤ b) (hx : (b, Obj.cells (#[.int .i64 s.kind, .int .i64 s.n, .int .u64 s.w] ++ rest) 57 (0, 0)) ∈ X) : InX w1 X (some ⟨b, 0, none⟩) [s] c :=
  ⟨hk, .inr ⟨b, _, rest.toList, rfl, hlo, hx, by simp [flatS]⟩⟩
/-- what popping a temporary makes -/
def popC (T a : Int) (N : List Sr) : List Ii × List Sr := if top N = regS a then ([], N.dropLast) else (flushC T a 0 N.dropLast ++ [mvI (regS a) (top N)], flushN T a 0 N.dropLast)
section
variable {κ : GK} {w1 : World} {gb : Nat} {X : List (Nat × Obj)} {na : Option Addr} {nc : Nat} {N : List Sr} {g : GS} {W : World}
set_option maxRecDepth 100000 in
set_option maxHeartbeats 4000000 in
theorem gn_popTemp (h : GIs κ w1 gb X na nc N g W) (hT : 0 ≤ κ.m.temps ∧ κ.m.temps ≤ 16) (hN : N.length ≤ 900) (h0 : 0 < N.length) (a : Int) (hl : g.code.length ≤ 50000) : Calls Tryz.prog 94 #[.pointer (some ⟨gb, 0, none⟩), .int .i64 a] W (fun e w' => e = .returned (.tuple #[]) ∧ GIs κ w1 gb X na nc (popC κ.m.temps a N).2 (g.add (popC κ.m.temps a N).1) w') := by
  have HG := Lib.hid h
  have hgb := h.lt
  have HL := Lib.hid hl
  obtain ⟨q, hq⟩ : ∃ q, q + 1 = N.length := ⟨N.length - 1, by omega⟩
  have hone := took_one hq
  have hrest := took_rest hq
  obtain ⟨M, hM⟩ : ∃ M, M = N.dropLast := ⟨_, rfl⟩
  obtain ⟨s, hs⟩ : ∃ s, s = top N := ⟨_, rfl⟩
  have hML : M.length = q := by rw [hM, List.length_dropLast]; omega
  have hqn : q ≤ 900 := by omega
  have HPC : Hid (popC κ.m.temps a N = if s = regS a then ([], M) else (flushC κ.m.temps a 0 M ++ [mvI (regS a) s], flushN κ.m.temps a 0 M)) := Lib.hid (by rw [popC, ← hM, ← hs])
  rw [← hs] at hone
  rw [← hM] at hrest
  have HTK : Hid (∀ X' W', GIs κ w1 gb X' na nc N g W' → Calls Tryz.prog 88 #[.pointer (some ⟨gb, 8, none⟩), .int .i64 1] W' (fun e w' => ∃ b c rest, e = .returned (.slice (some ⟨b, 0, none⟩) 1 c) ∧ SlOk (some ⟨b, 0, none⟩) 1 c ∧ w1.heap.size ≤ b ∧ GIs κ w1 gb ((b, .cells (#[.int .i64 s.kind, .int .i64 s.n, .int .u64 s.w] ++ rest) 57 (0, 0)) :: X') na nc M g w')) := Lib.hid fun X' W' hG => took_to hG hq hone hrest (by omega)
  obtain ⟨T, hTT⟩ : ∃ T, T = κ.m.temps := ⟨_, rfl⟩
  have HBR : Hid (∀ (X' : List (Nat × Obj)) (k : Nat) N' g' W' s, GIs κ w1 gb X' na nc N' g' W' → N'[k]? = some s → N'.length ≤ 900 → g'.code.length ≤ 100000 → Calls Tryz.prog 95 #[.pointer (some ⟨gb, 0, none⟩), .int .i64 (k : Int)] W' (fun e w' => e = .returned (.tuple #[]) ∧ GIs κ w1 gb X' na nc (N'.set k (home T k)) (g'.add [mvI (home T k) s]) w')) := Lib.hid fun X' k N' g' W' s hG hs h1 h2 => by rw [hTT]; exact gn_bringHome hG hT rfl hs h1 h2
  have HREG : Hid (∀ W', Calls Tryz.prog 59 #[.int .i64 a] W' (Still (regS a).v W')) := Lib.hid fun W' => gn_register a W'
  rw [← hTT] at HPC ⊢
  obtain ⟨sk, sn, sw⟩ := s
  unfold Sr.v regS at HREG
  simp only at HTK HREG
  have HS := Lib.hid hs
  have HM := Lib.hid hM
  have HMQ := Lib.hid hML
  clear h hl hone hrest hq hN h0 hs hM hTT hML
  have hw0 := heap_new W (.cells #[.int .i64 0, .int .i64 0, .int .u64 0] 57)
  have HW0 := Lib.hid hw0
  clear hw0
  go_enter Tryz.func94, Tryz.ntmps94
  go_upto_region 1 with (go_at_call 59; refine (HREG.out _).mono ?_; rintro e w2 ⟨rfl, hF⟩; have HF2 := Lib.hid hF; clear hF)
  obtain ⟨W3, hW3⟩ : ∃ W3, W3 = w2.alloc (.cells #[.int .i64 0, .int .i64 a, .int .u64 0] 57) := ⟨_, rfl⟩
  rw [← hW3]
  have hF3 : Fr [] W W3 := by rw [hW3]; exact HF2.out.alloc _
  have hb3 : W3.heap[w2.heap.size]? = some (.cells #[.int .i64 0, .int .i64 a, .int .u64 0] 57 (0, 0)) := by rw [hW3]; exact heap_new _ _
  have htk := HTK.out _ W3 (HG.out.fresh hF3 hb3 HF2.out.size)
  clear hW3 hF3 hb3 HTK HG
  go_wp2_with (go_at_call 88; refine htk.mono ?_; rintro e w4 ⟨b, c, rest, rfl, hk, hlo, hG⟩; have hb4 := hG.keep _ (List.mem_cons_self ..); have hb5 := hG.keep _ (List.mem_cons_of_mem _ (List.mem_cons_self ..)); have HK := Lib.hid hk; have HLO := Lib.hid hlo; have HG4 := Lib.hid hG; have p8 := hG.notesCell; clear hk hlo hG)
  have x0 : w4.cell? ⟨b, 0, none⟩ = some (.int .i64 sk) := cell_of_heap hb4 (arr3_at _ _ _ _).1
  have x1 : w4.cell? ⟨b, 1, none⟩ = some (.int .i64 sn) := cell_of_heap hb4 (arr3_at _ _ _ _).2.1
  have x2 : w4.cell? ⟨b, 2, none⟩ = some (.int .u64 sw) := cell_of_heap hb4 (arr3_at _ _ _ _).2.2
  have y0 := cell_of_heap (o := 0) hb5 rfl; have y1 := cell_of_heap (o := 1) hb5 rfl; have y2 := cell_of_heap (o := 2) hb5 rfl
  have hltb := lt_of_heap hb4
  have hltt := lt_of_heap hb5
  have hg4 := HG4.out.lt
  obtain ⟨tb, htb⟩ : ∃ tb, tb = w2.heap.size := ⟨_, rfl⟩
  rw [← htb] at y0 y1 y2 HG4 hb5 hltt ⊢
  have HB5 := Lib.hid hb5
  have HXX : Hid (∀ x ∈ X, x ∈ (b, Obj.cells (#[.int .i64 sk, .int .i64 sn, .int .u64 sw] ++ rest) 57 (0, 0)) :: (tb, Obj.cells #[.int .i64 0, .int .i64 a, .int .u64 0] 57 (0, 0)) :: X) := Lib.hid fun x hx => List.mem_cons_of_mem _ (List.mem_cons_of_mem _ hx)
  have HIX : Hid (InX w1 ((b, Obj.cells (#[.int .i64 sk, .int .i64 sn, .int .u64 sw] ++ rest) 57 (0, 0)) :: (tb, Obj.cells #[.int .i64 0, .int .i64 a, .int .u64 0] 57 (0, 0)) :: X) (some ⟨b, 0, none⟩) [⟨sk, sn, sw⟩] c) := Lib.hid (took_inX (s := ⟨sk, sn, sw⟩) HK.out HLO.out (List.mem_cons_self ..))
  have HTX : Hid ((tb, Obj.cells #[.int .i64 0, .int .i64 a, .int .u64 0] 57 (0, 0)) ∈ (b, Obj.cells (#[.int .i64 sk, .int .i64 sn, .int .u64 sw] ++ rest) 57 (0, 0)) :: (tb, Obj.cells #[.int .i64 0, .int .i64 a, .int .u64 0] 57 (0, 0)) :: X) := Lib.hid (List.mem_cons_of_mem _ (List.mem_cons_self ..))
  obtain ⟨X2, hX2⟩ : ∃ X2, X2 = (b, Obj.cells (#[.int .i64 sk, .int .i64 sn, .int .u64 sw] ++ rest) 57 (0, 0)) :: (tb, Obj.cells #[.int .i64 0, .int .i64 a, .int .u64 0] 57 (0, 0)) :: X := ⟨_, rfl⟩
  rw [← hX2] at HG4 HXX HIX HTX
  have HADD : Hid (∀ N' g' W', GIs κ w1 gb X2 na nc N' g' W' → g'.code.length ≤ 100000 → Calls Tryz.prog 63 #[.pointer (some ⟨gb, 0, none⟩), .agg #[.int .i64 1, .int .i64 0, .int .i64 0, .int .i64 a, .int .u64 0, .slice (some ⟨b, 0, none⟩) 1 c, .int .u64 0]] W' (fun e w' => e = .returned (.tuple #[]) ∧ GIs κ w1 gb X2 na nc N' (g'.add [mvI (regS a) ⟨sk, sn, sw⟩]) w')) := Lib.hid fun N' g' W' hG h1 => gn_add hG ⟨1, 0, regS a, some ⟨b, 0, none⟩, [⟨sk, sn, sw⟩], c, 0⟩ HIX.out h1
  clear hb4 hb5 htb htk HF2 hX2
  have hcs := sr_cases ⟨sk, sn, sw⟩ ⟨0, a, 0⟩
  simp only at hcs
  rcases hcs with ⟨rfl, rfl, rfl⟩ | hc
  · have HP2 : Hid ((popC T sn N) = ([], M)) := Lib.hid (by rw [HPC.out]; exact if_pos rfl)
    clear HPC
    go_wp2_with fail
    go_quiet (fail)
    go_wp2_with fail
    refine bodyPost_ret (results_none rfl _ _ _) rfl ⟨rfl, ?_⟩
    rw [HP2.out, GS.add_nil]
    exact (HG4.out.fr0 (by (repeat (first | (with_reducible refine Fr.setCell ?_ (fun h => absurd h (Nat.lt_irrefl _)) _) | (with_reducible refine Fr.setCell ?_ (fun h => absurd h (by first | omega | (simp; done) | (simp; omega) | (dsimp only; omega))) _) | (with_reducible refine Fr.alloc ?_ _) | (with_reducible refine Fr.drew ?_) | (with_reducible refine Fr.drewN ?_ _) | (with_reducible exact Fr.refl _ _))))).less HXX.out
  · have hne : (⟨sk, sn, sw⟩ : Sr) ≠ regS a := by rcases hc with ⟨-, h⟩ | ⟨-, -, h⟩ | ⟨-, -, -, h⟩ <;> exact h
    have HP2 : Hid ((popC T a N) = (flushC T a 0 M ++ [mvI (regS a) ⟨sk, sn, sw⟩], flushN T a 0 M)) := Lib.hid (by rw [HPC.out, if_neg hne])
    clear HPC hne
    rcases hc with ⟨q1, -⟩ | ⟨rfl, q1, -⟩ | ⟨rfl, h2, q1, -⟩
    all_goals
      (try (have h3 := h2.symm; clear h2; subst h3))
      go_wp2_with fail
      go_quiet (fail)
      go_upto_region 3 with (fail)
      rw [HMQ.out] at p8
      go_wp2_with fail
      go_loopw [24] (fun i wr => ∃ k : Nat, k ≤ q ∧ i = .int .i64 k ∧ Hid (GIs κ w1 gb X2 na nc (flushN T a 0 (M.take k) ++ M.drop k) (g.add (flushC T a 0 (M.take k))) wr)) (fun i _ => q - (intOf i).toNat)
      case atStart => exact ⟨0, Nat.zero_le _, rfl, Lib.hid (by simpa [flushN, flushC, GS.add_nil] using HG4.out.fr0 ((Fr.refl [] w4).drewN _))⟩
      case round =>
        obtain ⟨k, hk, rfl, HKK⟩ := hrel
        have hb5 := HKK.out.keep _ HTX.out
        have y0 := cell_of_heap (o := 0) hb5 rfl; have y1 := cell_of_heap (o := 1) hb5 rfl; have y2 := cell_of_heap (o := 2) hb5 rfl
        have hltt := lt_of_heap hb5
        clear hb5
        by_cases hlt : k < q
        · have hkl : k < M.length := by rw [HMQ.out]; exact hlt
          obtain ⟨s, hs⟩ : ∃ s, M[k]? = some s := ⟨_, List.getElem?_eq_getElem hkl⟩
          have hAl : (flushN T a 0 (M.take k)).length = k := by rw [flushN_len, take_len_lt hkl]
          have hmid := mid_at hAl hs
          obtain ⟨nb, hna, hne2, hnb, hle, c0, c1, c2, -⟩ := HKK.out.note hmid
          have HSC := Lib.hid (flush_stepC (T := T) (a := a) hs)
          have HSN := Lib.hid (flush_stepN (T := T) (a := a) hs)
          have HMI := Lib.hid hmid
          have HLN : Hid ((flushN T a 0 (M.take k) ++ M.drop k).length ≤ 900) := Lib.hid (by rw [List.length_append, hAl, List.length_drop, HMQ.out]; omega)
          have HLC : Hid ((g.add (flushC T a 0 (M.take k))).code.length ≤ 100000) := Lib.hid (by have h1 := flushC_le T a 0 (M.take k); have h2 := HL.out; rw [List.length_take] at h1; simp only [GS.add, List.length_append]; omega)
          have HS1 := Lib.hid (mid_set hAl hs (home T k))
          have HS2 := Lib.hid (mid_same (A := flushN T a 0 (M.take k)) hs)
          have k0 : (0 : Int) ≤ (k : Int) := by omega
          have k1 : (k : Int) < (q : Int) := by omega
          subst hna
          have hcs2 := sr_cases s ⟨0, a, 0⟩
          clear hmid hkl hle hs hAl
          rcases hcs2 with ⟨e1, e2, e3⟩ | hcs3
          · have hse : s = regS a := by obtain ⟨u, v, w⟩ := s; simp only at e1 e2 e3; subst e1 e2 e3; rfl
            subst hse
            simp only [regS] at c0 c1 c2
            clear e1 e2 e3
            go_wp2_with (go_at_call 95; refine (HBR.out X2 k _ _ _ _ (HKK.out.fr0 (by (repeat (first | (with_reducible refine Fr.setCell ?_ (fun h => absurd h (Nat.lt_irrefl _)) _) | (with_reducible refine Fr.setCell ?_ (fun h => absurd h (by first | omega | (simp; done) | (simp; omega) | (dsimp only; omega))) _) | (with_reducible refine Fr.alloc ?_ _) | (with_reducible refine Fr.drew ?_) | (with_reducible refine Fr.drewN ?_ _) | (with_reducible exact Fr.refl _ _))))) HMI.out HLN.out HLC.out).mono ?_; rintro e w6 ⟨rfl, hG⟩; have HG6 := Lib.hid hG; clear hG)
            go_roundw
            case rel => exact ⟨k + 1, by omega, by go_num, Lib.hid (by have h9 := HG6.out; have e1 := HSC.out; have e2 := HSN.out; simp only [eq_self_iff_true, if_true] at e1 e2; rw [e1, e2, ← GS.add_add, ← HS1.out]; exact h9)⟩
            case measure => simp [intOf]; omega
          · have HNE2 : Hid (s ≠ regS a) := Lib.hid (by rcases hcs3 with ⟨-, h⟩ | ⟨-, -, h⟩ | ⟨-, -, -, h⟩ <;> exact h)
            obtain ⟨uk, un, uw⟩ := s
            simp only at hcs3 c0 c1 c2
            rcases hcs3 with ⟨v1, -⟩ | ⟨rfl, v1, -⟩ | ⟨rfl, rfl, v1, -⟩
            all_goals
              go_wp2_with fail
              go_roundw
            all_goals first
              | exact ⟨k + 1, by omega, by go_num, Lib.hid (by rw [HSC.out, if_neg HNE2.out, List.append_nil, HSN.out, if_neg HNE2.out, ← HS2.out]; exact HKK.out.fr0 (by (repeat (first | (with_reducible refine Fr.setCell ?_ (fun h => absurd h (Nat.lt_irrefl _)) _) | (with_reducible refine Fr.setCell ?_ (fun h => absurd h (by first | omega | (simp; done) | (simp; omega) | (dsimp only; omega))) _) | (with_reducible refine Fr.alloc ?_ _) | (with_reducible refine Fr.drew ?_) | (with_reducible refine Fr.drewN ?_ _) | (with_reducible exact Fr.refl _ _)))))⟩
              | (simp [intOf]; omega)
        · have hke : k = q := by omega
          have HE : Hid (GIs κ w1 gb X2 na nc (flushN T a 0 M) (g.add (flushC T a 0 M)) wr) := Lib.hid (by have h9 := HKK.out; rw [hke, ← HMQ.out, List.drop_length, List.append_nil, List.take_length] at h9; exact h9)
          have HLC : Hid ((g.add (flushC T a 0 M)).code.length ≤ 100000) := Lib.hid (by have h1 := flushC_le T a 0 M; have h2 := HL.out; rw [HMQ.out] at h1; simp only [GS.add, List.length_append]; omega)
          have hkd : ¬ (k : Int) < (q : Int) := by omega
          clear hke hlt
          go_wp2_with (go_at_call 63; refine (HADD.out _ _ _ HE.out HLC.out).mono ?_; rintro e w7 ⟨rfl, hG⟩; have HG7 := Lib.hid hG; clear hG)
          go_end0
          refine ⟨rfl, ?_⟩
          rw [HP2.out, ← GS.add_add]
          exact HG7.out.less HXX.out
end
end Go.Proofs.YtomcfjckhajhmabGreatDoor
