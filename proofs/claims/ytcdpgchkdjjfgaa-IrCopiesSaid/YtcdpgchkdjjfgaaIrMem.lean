/- ir: sources, instructions, maps and units in memory. -/
import Derived.Test.YtcdpgchkdjjfgaaIrPure
import Derived.Test.YtcdpgchkdjjfgaaIrWord
namespace Go.Proofs.Ytcdpgchkdjjfgaa
open Go.RowKit

def SrcsAt (w : World) (a : Option Addr) (l : List Sr) : Prop := ∀ k s, l[k]? = some s → ∃ g o, a = some ⟨g, o, none⟩ ∧ w.cell? ⟨g, o + k * 3, none⟩ = some (.int .i64 s.kind) ∧ w.cell? ⟨g, o + k * 3 + 1, none⟩ = some (.int .i64 s.n) ∧ w.cell? ⟨g, o + k * 3 + 2, none⟩ = some (.int .u64 s.w)
def InsAt (w : World) (a : Option Addr) (l : List Ii) : Prop := ∀ k i, l[k]? = some i → (∃ g o, a = some ⟨g, o, none⟩ ∧ w.cell? ⟨g, o + k * 7, none⟩ = some (.int .i64 i.op) ∧ w.cell? ⟨g, o + k * 7 + 1, none⟩ = some (.int .i64 i.n) ∧ w.cell? ⟨g, o + k * 7 + 2, none⟩ = some (.int .i64 i.d.kind) ∧ w.cell? ⟨g, o + k * 7 + 3, none⟩ = some (.int .i64 i.d.n) ∧ w.cell? ⟨g, o + k * 7 + 4, none⟩ = some (.int .u64 i.d.w) ∧ w.cell? ⟨g, o + k * 7 + 5, none⟩ = some (.slice i.la i.l.length i.lc) ∧ w.cell? ⟨g, o + k * 7 + 6, none⟩ = some (.int .u64 i.w)) ∧ SrcsAt w i.la i.l
def MapsAt (w : World) (a : Option Addr) (l : List Mp) : Prop := ∀ k m, l[k]? = some m → (∃ g o, a = some ⟨g, o, none⟩ ∧ w.cell? ⟨g, o + k, none⟩ = some (.slice m.a m.l.length m.c)) ∧ SrcsAt w m.a m.l
def IntsAt (w : World) (a : Option Addr) (l : List Int) : Prop := ∀ k n, l[k]? = some n → ∃ g o, a = some ⟨g, o, none⟩ ∧ w.cell? ⟨g, o + k, none⟩ = some (.int .i64 n)
theorem SrcsAt.fr {w w' : World} {a : Option Addr} {l : List Sr} (h : SrcsAt w a l) (hF : Fr [] w w') : SrcsAt w' a l := fun k s hk =>
  let ⟨g, o, e, c0, c1, c2⟩ := h k s hk
  ⟨g, o, e, hF.cell (by simp) c0, hF.cell (by simp) c1, hF.cell (by simp) c2⟩
theorem InsAt.fr {w w' : World} {a : Option Addr} {l : List Ii} (h : InsAt w a l) (hF : Fr [] w w') : InsAt w' a l := fun k i hk =>
  let ⟨⟨g, o, e, c0, c1, c2, c3, c4, c5, c6⟩, hs⟩ := h k i hk
  ⟨⟨g, o, e, hF.cell (by simp) c0, hF.cell (by simp) c1, hF.cell (by simp) c2, hF.cell (by simp) c3, hF.cell (by simp) c4, hF.cell (by simp) c5, hF.cell (by simp) c6⟩, hs.fr hF⟩
theorem MapsAt.fr {w w' : World} {a : Option Addr} {l : List Mp} (h : MapsAt w a l) (hF : Fr [] w w') : MapsAt w' a l := fun k i hk =>
  let ⟨⟨g, o, e, c0⟩, hs⟩ := h k i hk
  ⟨⟨g, o, e, hF.cell (by simp) c0⟩, hs.fr hF⟩
theorem IntsAt.fr {w w' : World} {a : Option Addr} {l : List Int} (h : IntsAt w a l) (hF : Fr [] w w') : IntsAt w' a l := fun k i hk =>
  let ⟨g, o, e, c0⟩ := h k i hk
  ⟨g, o, e, hF.cell (by simp) c0⟩
/-- the words of sources and instructions are words, the numbers are numbers, and no list is longer than there is room -/
def SB (s : Sr) : Prop := WU s.w
structure SlOk (a : Option Addr) (n c : Nat) : Prop where
  nil0 : a = .none → n = 0 ∧ c = 0
  le : n ≤ c
  max : c ≤ maxLen
theorem SlOk.nil : SlOk .none 0 0 := ⟨fun _ => ⟨rfl, rfl⟩, Nat.le_refl _, Nat.zero_le _⟩
structure IB (i : Ii) : Prop where
  sl : SlOk i.la i.l.length i.lc
  w : WU i.w
  d : SB i.d
  l : ∀ s ∈ i.l, SB s
  n : i.l.length ≤ 5864062014805
/-- a unit in memory -/
structure UAt (w : World) (u : Un) : Prop where
  enter : InsAt w u.ea u.enter
  code : InsAt w u.ca u.code
  starts : IntsAt w u.sa u.starts
  maps : MapsAt w u.ma u.maps
theorem UAt.fr {w w' : World} {u : Un} (h : UAt w u) (hF : Fr [] w w') : UAt w' u := ⟨h.enter.fr hF, h.code.fr hF, h.starts.fr hF, h.maps.fr hF⟩
structure UB (u : Un) : Prop where
  enter : ∀ i ∈ u.enter, IB i
  code : ∀ i ∈ u.code, IB i
  maps : ∀ m ∈ u.maps, m.l.length ≤ 5864062014805 ∧ (∀ s ∈ m.l, SB s) ∧ SlOk m.a m.l.length m.c
  es : SlOk u.ea u.enter.length u.ec
  cs : SlOk u.ca u.code.length u.cc
  ss : SlOk u.sa u.starts.length u.sc
  ms : SlOk u.ma u.maps.length u.mc
  en : u.enter.length ≤ 5864062014805
  cn : u.code.length ≤ 5864062014805
  sn : u.starts.length ≤ 17592186043904
  mn : u.maps.length ≤ 5864062014805
  method : WU u.method
  sb : ∀ n ∈ u.starts, -9223372036854775808 ≤ n ∧ n ≤ 9223372036854775807
  args : -9223372036854775808 ≤ u.args ∧ u.args ≤ 9223372036854775807
  temps : -9223372036854775808 ≤ u.temps ∧ u.temps ≤ 9223372036854775807
  regs : -9223372036854775808 ≤ u.regs ∧ u.regs ≤ 9223372036854775807
  spills : -9223372036854775808 ≤ u.spills ∧ u.spills ≤ 9223372036854775807
  sites : -9223372036854775808 ≤ u.sites ∧ u.sites ≤ 9223372036854775807
/-- a list of which so many were looked at -/
theorem take_snoc {α : Type} {l : List α} {k : Nat} {s : α} (h : l[k]? = some s) : l.take (k + 1) = l.take k ++ [s] := by rw [List.take_add_one, h]; rfl
theorem all_snoc {α : Type} {p : α → Bool} {l : List α} {k : Nat} {s : α} (h : l[k]? = some s) (ha : (l.take k).all p = true) (hp : p s = true) : (l.take (k + 1)).all p = true := by
  rw [take_snoc h, List.all_append, ha]; simp [hp]
theorem all_no {α : Type} {p : α → Bool} {l : List α} {k : Nat} {s : α} (h : l[k]? = some s) (hp : p s = false) : l.all p = false := by
  rw [List.all_eq_false]; exact ⟨s, List.mem_of_getElem? h, by simp [hp]⟩
theorem all_end {α : Type} {p : α → Bool} {l : List α} {k : Nat} (ha : (l.take k).all p = true) (h : k = l.length) : l.all p = true := by
  rw [h, List.take_length] at ha; exact ha
end Go.Proofs.Ytcdpgchkdjjfgaa
