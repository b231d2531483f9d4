/- live: rows that are filled with one value. live: a copied unit whose code and maps are filled. LiveEmpty: the walk. -/
import Derived.Test.YtbmfmklalonhiaaGreatDoorMLvC
import Derived.Test.YtbmfmklalonhiaaGreatDoorMIrB
import Derived.Test.YtbmfmklalonhiaaGreatDoorMLvB
import Derived.Test.YtbmfmklalonhiaaGreatDoorMGlA
namespace Go.Proofs.YtbmfmklalonhiaaGreatDoor
open Go.RowKit

theorem cell_keepE {w : World} {p q : Addr} {v v' : Value} (h : w.cell? p = some v) (he : p = q → v' = v) : (w.setCell q v').cell? p = some v := by
  by_cases e : p = q
  · rw [← e, he e]
    exact World.cell?_setCell_same (h := h) ..
  · rw [World.cell?_setCell_other (h := fun h => e h.symm) ..]
    exact h
theorem cell_setE {w : World} {p : Addr} {u v : Value} (h : w.cell? p = some u) : (w.setCell p v).cell? p = some v := World.cell?_setCell_same (h := h) ..
theorem cell_someE {w : World} {p q : Addr} {v' : Value} (h : ∃ u, w.cell? p = some u) : ∃ u, (w.setCell q v').cell? p = some u := by
  obtain ⟨u, h⟩ := h
  by_cases e : p = q
  · exact ⟨v', by rw [← e]; exact World.cell?_setCell_same (h := h) ..⟩
  · exact ⟨u, by rw [World.cell?_setCell_other (h := fun h => e h.symm) ..]; exact h⟩
/-- cells are stored, one behind the other -/
def storeE (w : World) (g o : Nat) : List Value → World
  | [] => w
  | v :: r => storeE (w.setCell ⟨g, o, none⟩ v) g (o + 1) r
theorem storeE_keep : ∀ (l : List Value) (w : World) (g o g' o' : Nat) (v : Value), w.cell? ⟨g', o', none⟩ = some v → (g' = g → ∀ c u, l[c]? = some u → o' = o + c → u = v) → (storeE w g o l).cell? ⟨g', o', none⟩ = some v
  | [], w, g, o, g', o', v, h, _ => h
  | x :: r, w, g, o, g', o', v, h, he => by
    refine storeE_keep r _ g (o + 1) g' o' v (cell_keepE h fun e => ?_) fun e c u hu hc => he e (c + 1) u (by simpa using hu) (by omega)
    cases e
    exact he rfl 0 x rfl (by omega)
theorem storeE_at : ∀ (l : List Value) (w : World) (g o : Nat), (∀ c, c < l.length → ∃ u, w.cell? ⟨g, o + c, none⟩ = some u) → ∀ c u, l[c]? = some u → (storeE w g o l).cell? ⟨g, o + c, none⟩ = some u
  | [], _, _, _, _, c, u, hu => by simp at hu
  | x :: r, w, g, o, h, c, u, hu => by
    have h0 := h 0 (by simp)
    cases c with
    | zero =>
      cases hu
      obtain ⟨y, hy⟩ := h0
      refine storeE_keep r _ g (o + 1) g (o + 0) _ (cell_setE hy) fun _ c u _ hc => ?_
      omega
    | succ c =>
      have h9 := storeE_at r (w.setCell ⟨g, o, none⟩ x) g (o + 1) (fun c hc => by
        have := h (c + 1) (by simp; omega)
        rw [show o + 1 + c = o + (c + 1) by omega]
        exact cell_someE this) c u (by simpa using hu)
      rw [show o + (c + 1) = o + 1 + c by omega]
      exact h9
theorem storeE_fr : ∀ (l : List Value) (w : World) (g o : Nat), Fr [g] w (storeE w g o l)
  | [], w, _, _ => Fr.refl _ w
  | x :: r, w, g, o => ((Fr.refl [g] w).setCell (fun _ => by simp) _).trans (storeE_fr r _ g (o + 1))
/-- a row of so many values of a type and a size, that may be stored into -/
def RoomE (lo : Nat) (w : World) (T : TypeId) (sz : Nat) (a : Option Addr) (n : Nat) : Prop := n = 0 ∨ ∃ g cur, a = some ⟨g, 0, none⟩ ∧ lo ≤ g ∧ w.heap[g]? = some (.cells cur T (0, 0)) ∧ n * sz ≤ cur.size
theorem RoomE.set {lo : Nat} {w : World} {T : TypeId} {sz : Nat} {a : Option Addr} {n : Nat} (h : RoomE lo w T sz a n) (p : Addr) (v : Value) : RoomE lo (w.setCell p v) T sz a n := by
  rcases h with h | ⟨g, cur, h1, h2, h3, h4⟩
  · exact .inl h
  · refine .inr ?_
    by_cases e : p.block = g
    · refine ⟨g, if p.spot.isSome then cur else cur.setIfInBounds p.off v, h1, h2, ?_, ?_⟩
      · rw [← e]
        rw [← e] at h3
        simp [World.setCell, Array.getElem?_modify, h3]
      · split <;> simpa using h4
    · exact ⟨g, cur, h1, h2, by rw [Below.heap_setCell _ _ _ _ (fun h => e h.symm)]; exact h3, h4⟩
theorem RoomE.store {lo : Nat} {T : TypeId} {sz : Nat} {a : Option Addr} {n : Nat} : ∀ (l : List Value) {w : World} (g o : Nat), RoomE lo w T sz a n → RoomE lo (storeE w g o l) T sz a n
  | [], _, _, _, h => h
  | x :: r, _, g, o, h => RoomE.store r g (o + 1) (h.set _ _)
theorem RoomE.fr {lo : Nat} {w w' : World} {T : TypeId} {sz : Nat} {a : Option Addr} {n : Nat} (h : RoomE lo w T sz a n) (hF : Fr [] w w') : RoomE lo w' T sz a n := h.imp id fun ⟨g, cur, h1, h2, h3, h4⟩ => ⟨g, cur, h1, h2, hF.heap (by simp) h3, h4⟩
theorem RoomE.cell {lo : Nat} {w : World} {T : TypeId} {sz : Nat} {g : Nat} {n : Nat} (h : RoomE lo w T sz (some ⟨g, 0, none⟩) n) {x : Nat} (hx : x < n * sz) : (∃ u, w.cell? ⟨g, x, none⟩ = some u) ∧ w.frozen? ⟨g, x, none⟩ = false ∧ g < w.heap.size ∧ lo ≤ g := by
  rcases h with rfl | ⟨g', cur, h1, h2, h3, h4⟩
  · omega
  · cases h1
    exact ⟨⟨cur[x]'(by omega), cell_of_heap h3 (by simp)⟩, frozen_of_heap h3, lt_of_heap h3, h2⟩
/-- the k-th value of a row -/
def ValE (w : World) (a : Option Addr) (sz : Nat) (vals : List Value) (k : Nat) : Prop := ∃ g, a = some ⟨g, 0, none⟩ ∧ ∀ c u, vals[c]? = some u → w.cell? ⟨g, k * sz + c, none⟩ = some u
/-- it stays while the same is stored elsewhere -/
theorem ValE.store {w : World} {a : Option Addr} {sz k k' g : Nat} {vals : List Value} (hl : vals.length = sz) (h : ValE w a sz vals k) : ValE (storeE w g (k' * sz) vals) a sz vals k := by
  obtain ⟨g', e, hc⟩ := h
  refine ⟨g', e, fun c u hu => storeE_keep vals w g (k' * sz) g' (k * sz + c) u (hc c u hu) fun _ c' u' hu' ho => ?_⟩
  have h1 := (List.getElem?_eq_some_iff.1 hu).1
  have h2 := (List.getElem?_eq_some_iff.1 hu').1
  rw [hl] at h1 h2
  have hk : k = k' := by
    rcases Nat.lt_trichotomy k k' with h | h | h
    · have : (k + 1) * sz ≤ k' * sz := Nat.mul_le_mul_right _ h
      rw [Nat.add_mul] at this
      omega
    · exact h
    · have : (k' + 1) * sz ≤ k * sz := Nat.mul_le_mul_right _ h
      rw [Nat.add_mul] at this
      omega
  subst hk
  have hc' : c = c' := by omega
  subst hc'
  rw [hu] at hu'
  cases hu'
  rfl
theorem ValE.new {lo : Nat} {w : World} {T : TypeId} {sz k g n : Nat} {vals : List Value} (hl : vals.length = sz) (h : RoomE lo w T sz (some ⟨g, 0, none⟩) n) (hk : k < n) : ValE (storeE w g (k * sz) vals) (some ⟨g, 0, none⟩) sz vals k := by
  refine ⟨g, rfl, fun c u hu => storeE_at vals w g (k * sz) (fun c hc => ?_) c u hu⟩
  refine (h.cell ?_).1
  have : (k + 1) * sz ≤ n * sz := Nat.mul_le_mul_right _ hk
  rw [Nat.add_mul] at this
  omega
theorem ValE.fr {w w' : World} {a : Option Addr} {sz k : Nat} {vals : List Value} (h : ValE w a sz vals k) (hF : Fr [] w w') : ValE w' a sz vals k := by
  obtain ⟨g, e, hc⟩ := h
  exact ⟨g, e, fun c u hu => hF.cell (by simp) (hc c u hu)⟩
/-- what else lies in another type's block -/
theorem ValE.other {lo : Nat} {w : World} {a : Option Addr} {sz k g x n : Nat} {vals l : List Value} {T T2 : TypeId} {cs : Array Value} (h : ValE w a sz vals k) (hne : ∀ g', a = some ⟨g', 0, none⟩ → g' ≠ g) : ValE (storeE w g x l) a sz vals k := by
  obtain ⟨g', e, hc⟩ := h
  exact ⟨g', e, fun c u hu => (storeE_fr l w g x).cell (by simpa using hne g' e) (hc c u hu)⟩
theorem RoomE.ne {lo lo' : Nat} {w : World} {T T2 : TypeId} {sz sz2 n n2 g g2 : Nat} (h : RoomE lo w T sz (some ⟨g, 0, none⟩) n) (h2 : RoomE lo' w T2 sz2 (some ⟨g2, 0, none⟩) n2) (hn : 0 < n) (hn2 : 0 < n2) (hT : T ≠ T2) : g ≠ g2 := by
  rintro rfl
  rcases h with h | ⟨a, cur, h1, -, h3, -⟩
  · omega
  · rcases h2 with h2 | ⟨b, cur2, e1, -, e3, -⟩
    · omega
    · cases h1
      cases e1
      rw [h3] at e3
      exact hT (Obj.cells.inj (Option.some.inj e3)).2.1
end Go.Proofs.YtbmfmklalonhiaaGreatDoor
namespace Go.Proofs.YtbmfmklalonhiaaGreatDoor
open Go.RowKit

theorem room_of_rowB {lo : Nat} {w : World} {T : TypeId} {sz g n : Nat} {vals : List Value} (hg : lo ≤ g) (h : RowB w g T vals) (hl : vals.length = n * sz) : RoomE lo w T sz (some ⟨g, 0, none⟩) n := by
  obtain ⟨cur, h1, rest, h2⟩ := h
  refine .inr ⟨g, cur, rfl, hg, h1, ?_⟩
  have := congrArg List.length h2
  rw [List.length_append, Array.length_toList] at this
  omega
theorem RowB.frE {w w' : World} {g g2 : Nat} {T T2 : TypeId} {vals : List Value} {cur : Array Value} (h : RowB w g T vals) (h2 : w.heap[g2]? = some (.cells cur T2 (0, 0))) (hT : T ≠ T2) (hF : Fr [g2] w w') : RowB w' g T vals := by
  obtain ⟨c, h1, hr⟩ := h
  refine ⟨c, hF.heap ?_ h1, hr⟩
  simp only [List.mem_singleton]
  rintro rfl
  rw [h1] at h2
  exact hT (Obj.cells.inj (Option.some.inj h2)).2.1
structure EmI (lo bx : Nat) (bv : Array Value) (v : Un) (w : World) : Prop where
  code : RoomE lo w 64 7 v.ca v.code.length
  mrow : v.maps = [] ∨ ∃ gm, v.ma = some ⟨gm, 0, none⟩ ∧ lo ≤ gm ∧ RowB w gm 59 (flatMp v.maps)
  maps : ∀ m ∈ v.maps, RoomE lo w 62 3 m.a m.l.length
  starts : OwnN lo w v.sa v.starts v.sc
  box : w.heap[bx]? = some (.cells bv 34 (0, 0))
theorem EmI.of {lo bx : Nat} {bv : Array Value} {v : Un} {w : World} (h : OwnU lo w v) (hb : w.heap[bx]? = some (.cells bv 34 (0, 0))) : EmI lo bx bv v w := by
  refine ⟨?_, h.maps.2.1, fun m hm => ?_, h.starts, hb⟩
  · rcases h.code.2.1 with ⟨-, -, e⟩ | ⟨g, e, hg, hr, -⟩
    · exact .inl (by rw [e]; rfl)
    · rw [e]; exact room_of_rowB hg hr (flat7_len _)
  · rcases (h.maps.2.2 m hm).2 with e | ⟨g, e, hg, hr⟩
    · exact .inl (by rw [e]; rfl)
    · rw [e]; exact room_of_rowB hg hr (flatS_len _)
theorem EmI.store {lo bx : Nat} {bv : Array Value} {v : Un} {w : World} (h : EmI lo bx bv v w) {g : Nat} {T : TypeId} {cur : Array Value} (hg : w.heap[g]? = some (.cells cur T (0, 0))) (h1 : 59 ≠ T) (h2 : 3 ≠ T) (h3 : 34 ≠ T) (o : Nat) (l : List Value) : EmI lo bx bv v (storeE w g o l) := by
  have hF := storeE_fr l w g o
  refine ⟨h.code.store l g o, h.mrow.imp id fun ⟨gm, e, hl, hr⟩ => ⟨gm, e, hl, hr.frE hg h1 hF⟩, fun m hm => (h.maps m hm).store l g o, ⟨h.starts.1, h.starts.2.imp id fun ⟨gs, e, hl, hr⟩ => ⟨gs, e, hl, hr.frE hg h2 hF⟩⟩, hF.heap ?_ h.box⟩
  simp only [List.mem_singleton]
  rintro rfl
  have h9 := h.box
  rw [hg] at h9
  exact h3 (Obj.cells.inj (Option.some.inj h9)).2.1.symm
theorem EmI.fr {lo bx : Nat} {bv : Array Value} {v : Un} {w w' : World} (h : EmI lo bx bv v w) (hF : Fr [] w w') : EmI lo bx bv v w' := ⟨h.code.fr hF, h.mrow.imp id fun ⟨gm, e, hl, hr⟩ => ⟨gm, e, hl, hr.fr hF⟩, fun m hm => (h.maps m hm).fr hF, h.starts.fr hF, hF.heap (by simp) h.box⟩
theorem EmI.mcell {lo bx : Nat} {bv : Array Value} {v : Un} {w : World} (h : EmI lo bx bv v w) {k : Nat} {m : Mp} (hk : v.maps[k]? = some m) : ∃ gm, v.ma = some ⟨gm, 0, none⟩ ∧ w.cell? ⟨gm, k, none⟩ = some (.slice m.a m.l.length m.c) ∧ gm < w.heap.size := by
  rcases h.mrow with e | ⟨gm, e, -, hr⟩
  · rw [e] at hk; simp at hk
  · exact ⟨gm, e, hr.cell (by unfold flatMp; rw [List.getElem?_map, hk]; rfl), hr.lt⟩
theorem EmI.trap {lo bx : Nat} {bv : Array Value} {v : Un} {w : World} (h : EmI lo bx bv v w) {g j : Nat} {cur : Array Value} (hg : w.heap[g]? = some (.cells cur 62 (0, 0))) {vals : List Value} (hj : j < v.code.length) (hv : ValE w v.ca 7 vals j) (o : Nat) (l : List Value) : ValE (storeE w g o l) v.ca 7 vals j := by
  refine hv.other (lo := lo) (n := 0) (T := 64) (T2 := 62) (cs := #[]) fun g' e => ?_
  rintro rfl
  rcases h.code with h9 | ⟨a, cur2, h1, -, h3, -⟩
  · omega
  · rw [h1] at e
    cases e
    rw [h3] at hg
    exact absurd (Obj.cells.inj (Option.some.inj hg)).2.1 (by decide)
def trapV : List Value := [.int .i64 9, .int .i64 0, .int .i64 0, .int .i64 0, .int .u64 0, .slice none 0 0, .int .u64 0]
def litV : List Value := [.int .i64 1, .int .i64 0, .int .u64 5]
def trapI : Ii := ⟨9, 0, zeroS, none, [], 0, 0⟩
def litS5 : Sr := ⟨1, 0, 5⟩
/-- the unit as the statement leaves it -/
def emU (v : Un) : Un := { v with ea := none, enter := [], ec := 0, code := List.replicate v.code.length trapI, maps := v.maps.map fun m => ⟨m.a, List.replicate m.l.length litS5, m.c⟩ }
theorem em_at {lo bx : Nat} {bv : Array Value} {v : Un} {w : World} (h : EmI lo bx bv v w) (hc : ∀ k, k < v.code.length → ValE w v.ca 7 trapV k) (hm : ∀ m ∈ v.maps, ∀ k, k < m.l.length → ValE w m.a 3 litV k) : UAt w (emU v) := by
  refine ⟨fun k i hk => by simp [emU] at hk, fun k i hk => ?_, h.starts.at, fun k m hk => ?_⟩
  · have hk2 : (List.replicate v.code.length trapI)[k]? = some i := hk
    rw [List.getElem?_replicate] at hk2
    split at hk2
    · next hlt =>
      cases hk2
      obtain ⟨g, e, hv⟩ := hc k hlt
      refine ⟨⟨g, 0, e, ?_, ?_, ?_, ?_, ?_, ?_, ?_⟩, fun j s hj => by simp [trapI] at hj⟩
      · have := hv 0 _ rfl; simpa [trapI] using this
      · have := hv 1 _ rfl; simpa [trapI] using this
      · have := hv 2 _ rfl; simpa [trapI, zeroS] using this
      · have := hv 3 _ rfl; simpa [trapI, zeroS] using this
      · have := hv 4 _ rfl; simpa [trapI, zeroS] using this
      · have := hv 5 _ rfl; simpa [trapI] using this
      · have := hv 6 _ rfl; simpa [trapI] using this
    · cases hk2
  · have hk2 : (v.maps.map fun m => (⟨m.a, List.replicate m.l.length litS5, m.c⟩ : Mp))[k]? = some m := hk
    rw [List.getElem?_map, Option.map_eq_some_iff] at hk2
    obtain ⟨m0, h0, rfl⟩ := hk2
    obtain ⟨gm, e, c, -⟩ := h.mcell h0
    refine ⟨⟨gm, 0, e, by simpa using c⟩, fun j s hj => ?_⟩
    dsimp only at hj
    rw [List.getElem?_replicate] at hj
    split at hj
    · next hlt =>
      cases hj
      obtain ⟨g, e, hv⟩ := hm m0 (List.mem_of_getElem? h0) j hlt
      refine ⟨g, 0, e, ?_, ?_, ?_⟩
      · have := hv 0 _ rfl; simpa [litS5] using this
      · have := hv 1 _ rfl; simpa [litS5] using this
      · have := hv 2 _ rfl; simpa [litS5] using this
    · cases hj
theorem em_UB {v : Un} (h : UB v) : UB (emU v) := by
  refine ⟨fun i hi => by simp [emU] at hi, fun i hi => ?_, fun m hm => ?_, SlOk.nil, by simpa [emU] using h.cs, h.ss, by simpa [emU] using h.ms, by simp [emU], by simpa [emU] using h.cn, h.sn, by simpa [emU] using h.mn, h.method, h.sb, h.args, h.temps, h.regs, h.spills, h.sites⟩
  · have hi2 : i ∈ List.replicate v.code.length trapI := hi
    obtain ⟨-, rfl⟩ := List.mem_replicate.1 hi2
    exact ⟨SlOk.nil, ⟨Int.le_refl _, by simp [trapI]⟩, ⟨Int.le_refl _, by simp [trapI, zeroS]⟩, fun s hs => by simp [trapI] at hs, by simp [trapI]⟩
  · have hm2 : m ∈ v.maps.map fun m => (⟨m.a, List.replicate m.l.length litS5, m.c⟩ : Mp) := hm
    obtain ⟨m0, h0, rfl⟩ := List.mem_map.1 hm2
    have h9 := h.maps m0 h0
    refine ⟨by simpa using h9.1, fun s hs => ?_, by simpa using h9.2.2⟩
    obtain ⟨-, rfl⟩ := List.mem_replicate.1 hs
    exact ⟨by simp [litS5], by simp [litS5]⟩
theorem em_uses (v : Un) (k : Nat) : usesAt (emU v) k = [] := by
  unfold usesAt
  have h1 : regL (mapU (emU v) k) = [] := by
    unfold regL
    rw [List.map_eq_nil_iff, List.filter_eq_nil_iff]
    intro s hs
    unfold mapU at hs
    split at hs
    · next m hm =>
      have hm2 : (v.maps.map fun m => (⟨m.a, List.replicate m.l.length litS5, m.c⟩ : Mp))[k]? = some m := hm
      rw [List.getElem?_map, Option.map_eq_some_iff] at hm2
      obtain ⟨m0, -, rfl⟩ := hm2
      obtain ⟨-, rfl⟩ := List.mem_replicate.1 hs
      simp [litS5]
    · simp at hs
  rw [h1, List.nil_append, List.flatMap_eq_nil_iff]
  intro i hi
  have hi2 : i ∈ List.replicate v.code.length trapI := (List.drop_sublist _ _).mem ((List.take_sublist _ _).mem hi)
  obtain ⟨-, rfl⟩ := List.mem_replicate.1 hi2
  decide
theorem em_ivs (v : Un) : ivsU (emU v) = [] := by
  unfold ivsU ivs
  rw [List.filterMap_eq_nil_iff]
  intro x _
  have h9 : ivV (evs (emU v) (emU v).maps.length) x = none := by
    cases h : ivV (evs (emU v) (emU v).maps.length) x with
    | none => rfl
    | some p =>
      obtain ⟨k, hk⟩ := ivV_is.1 (by rw [h]; rfl)
      have := (mem_evs.1 hk).2
      rw [em_uses] at this
      simp at this
  rw [h9]
  rfl
end Go.Proofs.YtbmfmklalonhiaaGreatDoor
namespace Go.Proofs.YtbmfmklalonhiaaGreatDoor
open Go.RowKit

set_option maxRecDepth 100000 in
set_option maxHeartbeats 16000000 in
theorem liveEmpty_walk (u : Un) (w : World) (hA : UAt w u) (hB : UB u) (hN : u.enter.length ≤ 1954687338211 ∧ u.code.length ≤ 1954687338211) (hg : VG w) : Calls Tryz.prog 8 #[u.v] w (Still (.bool true) w) := by
  have HAW := Lib.hid (fun W (hF : Fr [] w W) => awake13 W (hg.fr hF))
  have HCP : Hid (∀ W, Fr [] w W → Calls Tryz.prog 24 #[u.v] W (CopyTo u W)) := Lib.hid fun W hF => ir_Copy u W (hA.fr hF) hB hN
  have HUB := Lib.hid hB
  clear hA hB hN hg
  obtain ⟨um, ua, ut, ur, up, us, uea, uel, uec, uca, ucl, ucc, usa, usl, usc, uma, uml, umc, hu⟩ : ∃ um ua ut ur up us uea uel uec uca ucl ucc usa usl usc uma uml umc, u.v = .agg #[.int .u64 um, .int .i64 ua, .int .i64 ut, .int .i64 ur, .int .i64 up, .int .i64 us, .slice uea uel uec, .slice uca ucl ucc, .slice usa usl usc, .slice uma uml umc] := ⟨_, _, _, _, _, _, _, _, _, _, _, _, _, _, _, _, _, _, rfl⟩
  rw [hu] at HCP ⊢
  clear hu
  go_enter Tryz.func8, Tryz.ntmps8
  go_wp2_with (go_at_call 15; refine (HAW.out _ (by (repeat (first | (with_reducible refine Fr.setCell ?_ (fun h => absurd h (Nat.lt_irrefl _)) _) | (with_reducible refine Fr.setCell ?_ (fun h => absurd h (by first | omega | (simp; done) | (simp; omega) | (dsimp only; omega))) _) | (with_reducible refine Fr.alloc ?_ _) | (with_reducible refine Fr.drew ?_) | (with_reducible refine Fr.drewN ?_ _) | (with_reducible exact Fr.refl _ _))))).mono ?_; rintro e w1 ⟨rfl, hF⟩; have HF1 : Hid (Fr [] w w1) := Lib.hid (Fr.trans (by (repeat (first | (with_reducible refine Fr.setCell ?_ (fun h => absurd h (Nat.lt_irrefl _)) _) | (with_reducible refine Fr.setCell ?_ (fun h => absurd h (by first | omega | (simp; done) | (simp; omega) | (dsimp only; omega))) _) | (with_reducible refine Fr.alloc ?_ _) | (with_reducible refine Fr.drew ?_) | (with_reducible refine Fr.drewN ?_ _) | (with_reducible exact Fr.refl _ _)))) hF); have HB1 := Lib.hid (hF.heap (by simp) (heap_new w _)); have b0 := cell_of_heap (o := 0) HB1.out rfl; have b1 := cell_of_heap (o := 1) HB1.out rfl; have b2 := cell_of_heap (o := 2) HB1.out rfl; have b3 := cell_of_heap (o := 3) HB1.out rfl; have b4 := cell_of_heap (o := 4) HB1.out rfl; have b5 := cell_of_heap (o := 5) HB1.out rfl; have b6 := cell_of_heap (o := 6) HB1.out rfl; have b7 := cell_of_heap (o := 7) HB1.out rfl; have b8 := cell_of_heap (o := 8) HB1.out rfl; have b9 := cell_of_heap (o := 9) HB1.out rfl; have hl1 := lt_of_heap HB1.out; clear hF)
  refine (HCP.out _ HF1.out).mono ?_
  rintro e w2 ⟨v, rfl, hSU, hOU, -, hF⟩
  have HF2 : Hid (Fr [] w w2) := Lib.hid (HF1.out.trans hF)
  have HUBV := Lib.hid (em_UB (UB_same hSU HUB.out hOU))
  have hvc := (UB_same hSU HUB.out hOU).cn
  have hvm := (UB_same hSU HUB.out hOU).mn
  have HVM : Hid (∀ m ∈ v.maps, m.l.length ≤ 5864062014805) := Lib.hid fun m hm => ((UB_same hSU HUB.out hOU).maps m hm).1
  have HSZ : Hid (w.heap.size ≤ w1.heap.size) := Lib.hid HF1.out.size
  have HSZ9 := Lib.hid hF.size
  have HOU := Lib.hid hOU
  have HEV := Lib.hid (em_ivs v)
  clear hSU hOU hF b0 b1 b2 b3 b4 b5 b6 b7 b8 b9 hl1 HUB HCP HAW
  obtain ⟨vm, va, vt, vr, vp, vs, vea, vel, vec, vca, vcl, vcc, vsa, vsl, vsc, vma, vml, vmc, hv, hve⟩ : ∃ vm va vt vr vp vs vea vel vec vca vcl vcc vsa vsl vsc vma vml vmc, v.v = .agg #[.int .u64 vm, .int .i64 va, .int .i64 vt, .int .i64 vr, .int .i64 vp, .int .i64 vs, .slice vea vel vec, .slice vca vcl vcc, .slice vsa vsl vsc, .slice vma vml vmc] ∧ vca = v.ca ∧ vcl = v.code.length ∧ vma = v.ma ∧ vml = v.maps.length ∧ (emU v).v = .agg #[.int .u64 vm, .int .i64 va, .int .i64 vt, .int .i64 vr, .int .i64 vp, .int .i64 vs, .slice none 0 0, .slice vca vcl vcc, .slice vsa vsl vsc, .slice vma vml vmc] := ⟨_, _, _, _, _, _, _, _, _, _, _, _, _, _, _, _, _, _, rfl, rfl, rfl, rfl, rfl, by simp [emU, Un.v]⟩
  rw [hv]
  have HVE := Lib.hid hve
  rw [← hve.2.1] at hvc
  rw [← hve.2.2.2.1] at hvm
  have HB3 := Lib.hid (heap_new w2 (.cells #[.int .u64 vm, .int .i64 va, .int .i64 vt, .int .i64 vr, .int .i64 vp, .int .i64 vs, .slice vea vel vec, .slice vca vcl vcc, .slice vsa vsl vsc, .slice vma vml vmc] 34))
  obtain ⟨bv, hbv⟩ : ∃ bv : Array Value, bv = #[.int .u64 vm, .int .i64 va, .int .i64 vt, .int .i64 vr, .int .i64 vp, .int .i64 vs, .slice none 0 0, .slice vca vcl vcc, .slice vsa vsl vsc, .slice vma vml vmc] := ⟨_, rfl⟩
  have HBV := Lib.hid hbv
  have HE3 : Hid (EmI w1.heap.size w2.heap.size bv v (w2.alloc (.cells #[.int .u64 vm, .int .i64 va, .int .i64 vt, .int .i64 vr, .int .i64 vp, .int .i64 vs, .slice none 0 0, .slice vca vcl vcc, .slice vsa vsl vsc, .slice vma vml vmc] 34))) := Lib.hid (EmI.of (HOU.out.fr ((Fr.refl _ _).alloc _)) (by rw [hbv]; exact heap_new _ _))
  have HSZ2 : Hid (w1.heap.size ≤ w2.heap.size) := Lib.hid HSZ9.out
  clear hv hve hbv
  go_wp2_with fail
  clear HB3
  go_loopw [5] (fun i wr => ∃ k : Nat, k ≤ vcl ∧ i = .int .i64 k ∧ Hid (Fr [] w wr) ∧ Hid (EmI w1.heap.size w2.heap.size bv v wr) ∧ Hid (∀ j, j < k → ValE wr v.ca 7 trapV j)) (fun i _ => vcl - (RowKit.intOf i).toNat)
  case atStart => exact ⟨0, Nat.zero_le _, rfl, Lib.hid (HF2.out.alloc _), HE3, Lib.hid fun j hj => by omega⟩
  case round =>
    obtain ⟨k, hk, rfl, HF, HE, HV⟩ := hrel
    have hbx := HE.out.box
    rw [HBV.out] at hbx
    have b0 := cell_of_heap (o := 0) hbx rfl; have b1 := cell_of_heap (o := 1) hbx rfl; have b2 := cell_of_heap (o := 2) hbx rfl; have b3 := cell_of_heap (o := 3) hbx rfl; have b4 := cell_of_heap (o := 4) hbx rfl; have b5 := cell_of_heap (o := 5) hbx rfl; have b6 := cell_of_heap (o := 6) hbx rfl; have b7 := cell_of_heap (o := 7) hbx rfl; have b8 := cell_of_heap (o := 8) hbx rfl; have b9 := cell_of_heap (o := 9) hbx rfl
    have hlb := lt_of_heap hbx
    clear hbx
    by_cases hlt : k < vcl
    · have hrm := HE.out.code
      rw [← HVE.out.1, ← HVE.out.2.1] at hrm
      obtain ⟨g, cur, rfl, hlo, hgh, hcs⟩ : ∃ g cur, vca = some ⟨g, 0, none⟩ ∧ w1.heap.size ≤ g ∧ wr.heap[g]? = some (.cells cur 64 (0, 0)) ∧ vcl * 7 ≤ cur.size := by
        rcases hrm with h9 | h9
        · omega
        · exact h9
      obtain ⟨⟨y0, c0⟩, z0, -, -⟩ := hrm.cell (x := k * 7) (by omega)
      obtain ⟨⟨y1, c1⟩, z1, -, -⟩ := hrm.cell (x := k * 7 + 1) (by omega)
      obtain ⟨⟨y2, c2⟩, z2, -, -⟩ := hrm.cell (x := k * 7 + 2) (by omega)
      obtain ⟨⟨y3, c3⟩, z3, -, -⟩ := hrm.cell (x := k * 7 + 3) (by omega)
      obtain ⟨⟨y4, c4⟩, z4, -, -⟩ := hrm.cell (x := k * 7 + 4) (by omega)
      obtain ⟨⟨y5, c5⟩, z5, -, -⟩ := hrm.cell (x := k * 7 + 5) (by omega)
      obtain ⟨⟨y6, c6⟩, z6, -, -⟩ := hrm.cell (x := k * 7 + 6) (by omega)
      have hgl := lt_of_heap hgh
      have q0 : (0 : Int) ≤ (k : Int) := by omega
      have q1 : (k : Int) < (vcl : Int) := by omega
      have HNX : Hid (Fr [] w (storeE wr g (k * 7) trapV) ∧ EmI w1.heap.size w2.heap.size bv v (storeE wr g (k * 7) trapV) ∧ ∀ j, j < k + 1 → ValE (storeE wr g (k * 7) trapV) v.ca 7 trapV j) := Lib.hid ⟨HF.out.joinL (storeE_fr trapV wr g (k * 7)) (fun j hj => by simp only [List.mem_singleton] at hj; subst hj; have := HSZ.out; omega), HE.out.store hgh (by decide) (by decide) (by decide) _ _, fun j hj => by
        by_cases e : j = k
        · subst e
          rw [← HVE.out.1]
          exact ValE.new (T := 64) (n := vcl) rfl hrm hlt
        · exact (HV.out j (by omega)).store rfl⟩
      clear hrm hlt hcs
      go_wp2_with fail
      go_roundw
      case rel => exact ⟨k + 1, by omega, by go_num, Lib.hid HNX.out.1, Lib.hid HNX.out.2.1, Lib.hid HNX.out.2.2⟩
      case measure => simp [RowKit.intOf]; omega
    · have hke : k = vcl := by omega
      have hkd : ¬ (k : Int) < (vcl : Int) := by omega
      have HVA : Hid (∀ j, j < v.code.length → ValE wr v.ca 7 trapV j) := Lib.hid fun j hj => HV.out j (by have := HVE.out.2.1; omega)
      clear hlt hke
      go_wp2_with fail
      clear b0 b1 b2 b3 b4 b5 b6 b7 b8 b9 hlb
      go_loopw [6] (fun i wr => ∃ k : Nat, k ≤ vml ∧ i = .int .i64 k ∧ Hid (Fr [] w wr) ∧ Hid (EmI w1.heap.size w2.heap.size bv v wr) ∧ Hid (∀ j, j < v.code.length → ValE wr v.ca 7 trapV j) ∧ Hid (∀ x m, v.maps[x]? = some m → x < k → ∀ j, j < m.l.length → ValE wr m.a 3 litV j)) (fun i _ => vml - (RowKit.intOf i).toNat)
      case atStart => exact ⟨0, Nat.zero_le _, rfl, HF, HE, HVA, Lib.hid fun x m _ hx => by omega⟩
      case round =>
        clear HF HE HV HVA
        obtain ⟨k, hk, rfl, HF, HE, HVA, HL⟩ := hrel
        have hbx := HE.out.box
        rw [HBV.out] at hbx
        have b0 := cell_of_heap (o := 0) hbx rfl; have b1 := cell_of_heap (o := 1) hbx rfl; have b2 := cell_of_heap (o := 2) hbx rfl; have b3 := cell_of_heap (o := 3) hbx rfl; have b4 := cell_of_heap (o := 4) hbx rfl; have b5 := cell_of_heap (o := 5) hbx rfl; have b6 := cell_of_heap (o := 6) hbx rfl; have b7 := cell_of_heap (o := 7) hbx rfl; have b8 := cell_of_heap (o := 8) hbx rfl; have b9 := cell_of_heap (o := 9) hbx rfl
        have hlb := lt_of_heap hbx
        clear hbx
        by_cases hlt : k < vml
        · obtain ⟨m, hm⟩ : ∃ m, v.maps[k]? = some m := ⟨_, List.getElem?_eq_getElem (by have := HVE.out.2.2.2.1; omega)⟩
          have HM := Lib.hid hm
          have q0 : (0 : Int) ≤ (k : Int) := by omega
          have q1 : (k : Int) < (vml : Int) := by omega
          have hml := HVM.out m (List.mem_of_getElem? hm)
          obtain ⟨n, hn⟩ : ∃ n, n = m.l.length := ⟨_, rfl⟩
          have HNL := Lib.hid hn
          rw [← hn] at hml
          clear hm hn hlt
          go_wp2_with fail
          clear b0 b1 b2 b3 b4 b5 b6 b7 b8 b9 hlb
          go_loopw [7] (fun i wr => ∃ j : Nat, j ≤ n ∧ i = .int .i64 j ∧ Hid (Fr [] w wr) ∧ Hid (EmI w1.heap.size w2.heap.size bv v wr) ∧ Hid (∀ j, j < v.code.length → ValE wr v.ca 7 trapV j) ∧ Hid (∀ x m, v.maps[x]? = some m → x < k → ∀ j, j < m.l.length → ValE wr m.a 3 litV j) ∧ Hid (∀ i, i < j → ValE wr m.a 3 litV i)) (fun i _ => n - (RowKit.intOf i).toNat)
          case atStart => exact ⟨0, Nat.zero_le _, rfl, HF, HE, HVA, HL, Lib.hid fun i hi => by omega⟩
          case round =>
            clear HF HE HVA HL
            obtain ⟨j, hj, rfl, HF, HE, HVA, HL, HP⟩ := hrel
            have hbx := HE.out.box
            rw [HBV.out] at hbx
            have b0 := cell_of_heap (o := 0) hbx rfl; have b1 := cell_of_heap (o := 1) hbx rfl; have b2 := cell_of_heap (o := 2) hbx rfl; have b3 := cell_of_heap (o := 3) hbx rfl; have b4 := cell_of_heap (o := 4) hbx rfl; have b5 := cell_of_heap (o := 5) hbx rfl; have b6 := cell_of_heap (o := 6) hbx rfl; have b7 := cell_of_heap (o := 7) hbx rfl; have b8 := cell_of_heap (o := 8) hbx rfl; have b9 := cell_of_heap (o := 9) hbx rfl
            have hlb := lt_of_heap hbx
            clear hbx
            obtain ⟨gm, hgm, d0, hgml⟩ := HE.out.mcell HM.out
            rw [← HVE.out.2.2.1] at hgm
            subst hgm
            rw [← HNL.out] at d0
            by_cases hlt : j < n
            · have hrm := HE.out.maps m (List.mem_of_getElem? HM.out)
              rw [← HNL.out] at hrm
              obtain ⟨ma, hma⟩ : ∃ ma, ma = m.a := ⟨_, rfl⟩
              rw [← hma] at hrm d0
              obtain ⟨g, cur, rfl, hlo, hgh, hcs⟩ : ∃ g cur, ma = some ⟨g, 0, none⟩ ∧ w1.heap.size ≤ g ∧ wr.heap[g]? = some (.cells cur 62 (0, 0)) ∧ n * 3 ≤ cur.size := by
                rcases hrm with h9 | h9
                · omega
                · exact h9
              obtain ⟨⟨y0, c0⟩, z0, -, -⟩ := hrm.cell (x := j * 3) (by omega)
              obtain ⟨⟨y1, c1⟩, z1, -, -⟩ := hrm.cell (x := j * 3 + 1) (by omega)
              obtain ⟨⟨y2, c2⟩, z2, -, -⟩ := hrm.cell (x := j * 3 + 2) (by omega)
              have hgl := lt_of_heap hgh
              have r0 : (0 : Int) ≤ (j : Int) := by omega
              have r1 : (j : Int) < (n : Int) := by omega
              have HNX : Hid (Fr [] w (storeE wr g (j * 3) litV) ∧ EmI w1.heap.size w2.heap.size bv v (storeE wr g (j * 3) litV) ∧ (∀ i, i < v.code.length → ValE (storeE wr g (j * 3) litV) v.ca 7 trapV i) ∧ (∀ x m, v.maps[x]? = some m → x < k → ∀ i, i < m.l.length → ValE (storeE wr g (j * 3) litV) m.a 3 litV i) ∧ ∀ i, i < j + 1 → ValE (storeE wr g (j * 3) litV) m.a 3 litV i) := Lib.hid ⟨HF.out.joinL (storeE_fr litV wr g (j * 3)) (fun i hi => by simp only [List.mem_singleton] at hi; subst hi; have := HSZ.out; omega), HE.out.store hgh (by decide) (by decide) (by decide) _ _, fun i hi => HE.out.trap hgh hi (HVA.out i hi) _ _, fun x m' hx hxk i hi => (HL.out x m' hx hxk i hi).store rfl, fun i hi => by
                by_cases e : i = j
                · subst e
                  rw [← hma]
                  exact ValE.new (T := 62) (n := n) rfl hrm hlt
                · exact (HP.out i (by omega)).store rfl⟩
              clear hrm hlt hcs hma
              go_wp2_with fail
              go_roundw
              case rel => exact ⟨j + 1, by omega, by go_num, Lib.hid HNX.out.1, Lib.hid HNX.out.2.1, Lib.hid HNX.out.2.2.1, Lib.hid HNX.out.2.2.2.1, Lib.hid HNX.out.2.2.2.2⟩
              case measure => simp [RowKit.intOf]; omega
            · have hke : j = n := by omega
              have hkd : ¬ (j : Int) < (n : Int) := by omega
              have HLN : Hid (∀ x m, v.maps[x]? = some m → x < k + 1 → ∀ j, j < m.l.length → ValE wr m.a 3 litV j) := Lib.hid fun x m' hx hxk i hi => by
                by_cases e : x = k
                · subst e
                  rw [HM.out] at hx
                  cases hx
                  exact HP.out i (by have := HNL.out; omega)
                · exact HL.out x m' hx (by omega) i hi
              clear hlt hke
              go_wp2_with fail
              go_roundw
              case rel => exact ⟨k + 1, by omega, by go_num, HF, HE, HVA, HLN⟩
              case measure => simp [RowKit.intOf]; omega
        · have hke : k = vml := by omega
          have hkd : ¬ (k : Int) < (vml : Int) := by omega
          have HU : Hid (UAt wr (emU v)) := Lib.hid (em_at HE.out HVA.out fun m hm j hj => by
            obtain ⟨x, hx⟩ := List.getElem?_of_mem hm
            have hxl := (List.getElem?_eq_some_iff.1 hx).1
            exact HL.out x m hx (by have := HVE.out.2.2.2.1; omega) j hj)
          have HLI : Hid (∀ W, Fr [] wr W → Calls Tryz.prog 16 #[(emU v).v] W fun e w' => Fr [] W w' ∧ ∃ a c, e = .returned (.tuple #[.slice a 0 c, .int .i64 (errU (emU v))])) := Lib.hid fun W hF => (lv_Intervals (emU v) W (HU.out.fr hF) HUBV.out).mono (by
            rintro e w' ⟨h1, ⟨ho, a, c, he, -⟩ | ⟨ho, he⟩⟩
            · rw [HEV.out] at he
              refine ⟨h1, a, c, ?_⟩
              rw [show errU (emU v) = 0 by unfold errU; rw [if_pos ho]]
              exact he
            · refine ⟨h1, none, 0, ?_⟩
              rw [show errU (emU v) = 1 by unfold errU; rw [if_neg (by simp [ho])]]
              exact he)
          have HCK : Hid (∀ W, Fr [] wr W → Calls Tryz.prog 11 #[(emU v).v] W (Still (.int .i64 (errU (emU v))) W)) := Lib.hid fun W hF => ir_Check (emU v) W (HU.out.fr hF) HUBV.out
          have her : errU (emU v) = 0 ∨ errU (emU v) = 1 := by unfold errU; split <;> simp
          rw [HVE.out.2.2.2.2] at HLI HCK
          generalize errU (emU v) = er at *
          clear HU hlt hke
          rcases her with rfl | rfl
          all_goals
            go_wp2_with (first
              | (go_at_call 16; refine (HLI.out _ (Fr.refl _ _)).mono ?_; rintro e w5 ⟨hF, a5, c5, rfl⟩; have HF5 : Hid (Fr [] wr w5) := Lib.hid hF; have hbx := hF.heap (by simp) HE.out.box; rw [HBV.out] at hbx; clear b0 b1 b2 b3 b4 b5 b6 b7 b8 b9 hlb; have b0 := cell_of_heap (o := 0) hbx rfl; have b1 := cell_of_heap (o := 1) hbx rfl; have b2 := cell_of_heap (o := 2) hbx rfl; have b3 := cell_of_heap (o := 3) hbx rfl; have b4 := cell_of_heap (o := 4) hbx rfl; have b5 := cell_of_heap (o := 5) hbx rfl; have b6 := cell_of_heap (o := 6) hbx rfl; have b7 := cell_of_heap (o := 7) hbx rfl; have b8 := cell_of_heap (o := 8) hbx rfl; have b9 := cell_of_heap (o := 9) hbx rfl; have hlb := lt_of_heap hbx; clear hbx hF)
              | (go_at_call 11; refine (HCK.out _ (by (repeat (first | (with_reducible refine Fr.setCell ?_ (fun h => absurd h (Nat.lt_irrefl _)) _) | (with_reducible refine Fr.setCell ?_ (fun h => absurd h (by first | omega | (simp; done) | (simp; omega) | (dsimp only; omega))) _) | (with_reducible refine Fr.alloc ?_ _) | (with_reducible refine Fr.drew ?_) | (with_reducible refine Fr.drewN ?_ _) | (with_reducible exact HF5.out))))).mono ?_; rintro e w6 ⟨rfl, hF⟩; have HF6 : Hid (Fr [] w5 w6) := Lib.hid (Fr.trans (by (repeat (first | (with_reducible refine Fr.setCell ?_ (fun h => absurd h (Nat.lt_irrefl _)) _) | (with_reducible refine Fr.setCell ?_ (fun h => absurd h (by first | omega | (simp; done) | (simp; omega) | (dsimp only; omega))) _) | (with_reducible refine Fr.alloc ?_ _) | (with_reducible refine Fr.drew ?_) | (with_reducible refine Fr.drewN ?_ _) | (with_reducible exact Fr.refl _ _)))) hF); clear hF))
            go_ret
            exact ⟨rfl, HF.out.trans (HF5.out.trans HF6.out)⟩
end Go.Proofs.YtbmfmklalonhiaaGreatDoor
