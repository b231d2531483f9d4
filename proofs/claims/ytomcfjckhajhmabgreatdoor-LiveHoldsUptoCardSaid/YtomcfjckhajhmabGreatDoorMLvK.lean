/- live.Meet, and the document's. live: the document's example. -/
import Derived.Test.YtomcfjckhajhmabGreatDoorMLvA
import Derived.Test.YtomcfjckhajhmabGreatDoorMLvB
import Derived.Test.YtomcfjckhajhmabGreatDoorMGlC
import Derived.Test.YtomcfjckhajhmabGreatDoorMGlD
import Derived.Deep.RegionHeld3
namespace Go.Proofs.YtomcfjckhajhmabGreatDoor
open Go.RowKit

/-- do two intervals meet? -/
def meetB (f1 t1 f2 t2 : Int) : Bool := decide (f1 ≤ t1 ∧ f1 ≤ t2 ∧ f2 ≤ t1 ∧ f2 ≤ t2)
set_option maxRecDepth 100000 in
set_option maxHeartbeats 1600000 in
theorem lv_Meet (v1 f1 t1 v2 f2 t2 : Int) (w : World) : Calls Tryz.prog 16 #[ivA v1 f1 t1, ivA v2 f2 t2] w (Still (.bool (meetB f1 t1 f2 t2)) w) := by
  unfold ivA
  obtain ⟨b, hb⟩ : ∃ b, b = meetB f1 t1 f2 t2 := ⟨_, rfl⟩
  have HB : Hid (b = true ↔ f1 ≤ t1 ∧ f1 ≤ t2 ∧ f2 ≤ t1 ∧ f2 ≤ t2) := Lib.hid (by rw [hb]; unfold meetB; simp)
  rw [← hb]
  clear hb
  go_enter Tryz.func16, Tryz.ntmps16
  go_wp2_with fail
  all_goals
    go_ret
    exact ⟨ret1 (vb (by rw [Bool.eq_iff_iff, HB.out]; simp; omega)), by (repeat (first | (with_reducible refine Fr.setCell ?_ (fun h => absurd h (Nat.lt_irrefl _)) _) | (with_reducible refine Fr.setCell ?_ (fun h => absurd h (by first | omega | (simp; done) | (simp; omega) | (dsimp only; omega))) _) | (with_reducible refine Fr.alloc ?_ _) | (with_reducible refine Fr.drew ?_) | (with_reducible refine Fr.drewN ?_ _) | (with_reducible exact Fr.refl _ _)))⟩
end Go.Proofs.YtomcfjckhajhmabGreatDoor
namespace Go.Proofs.YtomcfjckhajhmabGreatDoor
open Go.RowKit

/-- the same unit elsewhere uses the same registers -/
theorem insRegs_er (i : Ii) : insRegs i.er = insRegs i := rfl
theorem flatRegs_er {l m : List Ii} (h : m.map Ii.er = l.map Ii.er) : m.flatMap insRegs = l.flatMap insRegs := by
  have e : ∀ l : List Ii, (l.map Ii.er).flatMap insRegs = l.flatMap insRegs := fun l => by
    induction l with
    | nil => rfl
    | cons a r ih => simp only [List.map_cons, List.flatMap_cons, ih, insRegs_er]
  rw [← e m, h, e l]
theorem mapU_same {u v : Un} (h : SameU u v) (k : Nat) : mapU v k = mapU u k := by
  have e := congrArg (fun l => l[k]?) h.maps
  simp only [List.getElem?_map] at e
  unfold mapU
  cases h1 : v.maps[k]? with
  | none => cases h2 : u.maps[k]? with
    | none => rfl
    | some b => rw [h1, h2] at e; cases e
  | some a => cases h2 : u.maps[k]? with
    | none => rw [h1, h2] at e; cases e
    | some b => rw [h1, h2] at e; simpa using e
theorem partU_same {u v : Un} (h : SameU u v) (k : Nat) : (partU v k).map Ii.er = (partU u k).map Ii.er := by
  unfold partU
  rw [h.starts, List.map_take, List.map_drop, h.code, ← List.map_drop, ← List.map_take]
theorem usesAt_same {u v : Un} (h : SameU u v) (k : Nat) : usesAt v k = usesAt u k := by
  unfold usesAt
  rw [mapU_same h, flatRegs_er (partU_same h k)]
theorem evs_same {u v : Un} (h : SameU u v) (n : Nat) : evs v n = evs u n := by
  unfold evs
  congr 1
  funext j
  rw [usesAt_same h]
theorem ivsU_same {u v : Un} (h : SameU u v) : ivsU v = ivsU u := by
  unfold ivsU
  have hl : v.maps.length = u.maps.length := by have := congrArg List.length h.maps; simpa using this
  rw [evs_same h, hl, h.regs]
theorem ex_ivs : ivsU ((gmOf exM).unit 4) = [(0, 0, 4), (1, 2, 3)] := by rw [exGM_is]; decide +kernel
theorem okU_err {u : Un} (h : errU u = 0) : okU u = true := by
  unfold errU at h
  cases ho : okU u with
  | true => rfl
  | false => rw [ho] at h; simp at h
theorem ivs_two {w : World} {a : Option Addr} {c : Nat} {xs : List Value} (hx : xs.length = 6) (h : w.ownsRow 0 63 3 (.slice a 2 c) 2 xs) : ∃ g, a = some ⟨g, 0, none⟩ ∧ ∀ j u, xs[j]? = some u → w.cell? ⟨g, j, none⟩ = some u := by
  rcases h.2 with ⟨hv, hn⟩ | ⟨g, cap, cur, hv, -⟩
  · cases hn
  · have e := (Value.slice.inj hv).1
    subst e
    refine ⟨g, rfl, fun j u hj => ?_⟩
    have hc := h.cells (g := g) rfl j u hj
    rw [Lib.add_plain, Nat.zero_add] at hc
    exact hc
theorem exL_at {W : World} (hg : VG W) (b : Nat) (hb : W.heap[b]? = some (.cells #[.int .i64 1, .int .i64 0, .int .i64 0, .int .i64 8, .int .i64 2049, .int .i64 0, .int .i64 13, .int .i64 0, .int .i64 0, .int .i64 2, .int .i64 0, .int .i64 0, .int .i64 18, .int .i64 0, .int .i64 0] 69 (0, 0))) :
    Calls Tryz.prog 6 #[.agg #[.int .i64 0, .int .i64 1, .int .i64 2, .int .i64 0, .slice none 0 0, .slice (some ⟨b, 0, none⟩) 5 5], .int .u64 4] W fun e w' => Fr [] W w' ∧ ∃ v : Un, e = .returned (.tuple #[v.v, .int .i64 0]) ∧ ∀ W', Fr [] w' W' → Calls Tryz.prog 12 #[v.v] W' fun e w'' => ∃ a c, e = .returned (.tuple #[.slice a 2 c, .int .i64 0]) ∧ IGrows W' 63 3 2 (flatIv [(0, 0, 4), (1, 2, 3)]) (.slice a 2 c) w'' := by
  have hr : RowAt W (some ⟨b, 0, none⟩) (flatI exM.code) := fun j u hj => ⟨b, 0, rfl, by rw [Nat.zero_add]; exact cell_of_heap hb (by have h9 := hj; simpa [exM, flatI] using h9)⟩
  have h := gn_Gen exM 4 none (some ⟨b, 0, none⟩) 0 5 W hr (fun j u hj => by simp [exM] at hj) hg
  refine h.mono ?_
  rintro e w' ⟨hF, ⟨-, v, lo, he, hs, hO⟩ | ⟨hn, -⟩⟩
  · refine ⟨hF, v, he, fun W' hF' => (lv_Intervals v W' (hO.at.fr hF') (unit_UB exM_ok (fun x hx => by simp [exM] at hx) ⟨by omega, by omega⟩ hs hO)).mono ?_⟩
    have hok := okU_err (unit_errU exM_ok hs)
    have hiv : ivsU v = [(0, 0, 4), (1, 2, 3)] := by rw [ivsU_same hs, ex_ivs]
    rintro e w'' ⟨-, ⟨-, a, c, he, hG⟩ | ⟨hn, -⟩⟩
    · rw [hiv] at he hG
      exact ⟨a, c, he, hG⟩
    · rw [hok] at hn; cases hn
  · exact absurd exM_ok hn
set_option maxRecDepth 100000 in
set_option maxHeartbeats 4000000 in
theorem awake13 (w : World) (hg : VG w) : Calls Tryz.prog 11 #[] w (Still (.bool true) w) := by
  have HG := Lib.hid hg
  have HMT : Hid (∀ W, Calls Tryz.prog 16 #[ivA 0 0 4, ivA 1 2 3] W (Still (.bool true) W)) := Lib.hid fun W => lv_Meet 0 0 4 1 2 3 W
  unfold ivA at HMT
  clear hg
  go_enter Tryz.func11, Tryz.ntmps11
  go_wp2_with (first
    | (go_at_call 6; refine (exL_at (HG.out.fr (by (repeat (first | (with_reducible refine Fr.setCell ?_ (fun h => absurd h (Nat.lt_irrefl _)) _) | (with_reducible refine Fr.setCell ?_ (fun h => absurd h (by first | omega | (simp; done) | (simp; omega) | (dsimp only; omega))) _) | (with_reducible refine Fr.alloc ?_ _) | (with_reducible refine Fr.drew ?_) | (with_reducible refine Fr.drewN ?_ _) | (with_reducible exact Fr.refl _ _))))) w.heap.size (heap_new w _)).mono ?_; rintro e w2 ⟨hF, ⟨vm, vg, vt, vr, vp, vs, vea, ven, vec, vca, vco, vcc, vsa, vst, vsc, vma, vmp, vmc⟩, rfl, hLI⟩; unfold Un.v at hLI ⊢; dsimp only at hLI ⊢; generalize ven.length = el at *; generalize vst.length = sl at *; generalize vco.length = cl at *; generalize vmp.length = ml at *; have HLI := Lib.hid hLI; have HF2 : Hid (Fr [] w w2) := Lib.hid (Fr.trans (by (repeat (first | (with_reducible refine Fr.setCell ?_ (fun h => absurd h (Nat.lt_irrefl _)) _) | (with_reducible refine Fr.setCell ?_ (fun h => absurd h (by first | omega | (simp; done) | (simp; omega) | (dsimp only; omega))) _) | (with_reducible refine Fr.alloc ?_ _) | (with_reducible refine Fr.drew ?_) | (with_reducible refine Fr.drewN ?_ _) | (with_reducible exact Fr.refl _ _)))) hF); clear hF hLI)
    | (go_at_call 12; refine (HLI.out _ (by (repeat (first | (with_reducible refine Fr.setCell ?_ (fun h => absurd h (Nat.lt_irrefl _)) _) | (with_reducible refine Fr.setCell ?_ (fun h => absurd h (by first | omega | (simp; done) | (simp; omega) | (dsimp only; omega))) _) | (with_reducible refine Fr.alloc ?_ _) | (with_reducible refine Fr.drew ?_) | (with_reducible refine Fr.drewN ?_ _) | (with_reducible exact Fr.refl _ _))))).mono ?_; rintro e w3 ⟨a, c, rfl, hG⟩; have HF3 : Hid (Fr [] w w3) := Lib.hid ((HF2.out.trans (by (repeat (first | (with_reducible refine Fr.setCell ?_ (fun h => absurd h (Nat.lt_irrefl _)) _) | (with_reducible refine Fr.setCell ?_ (fun h => absurd h (by first | omega | (simp; done) | (simp; omega) | (dsimp only; omega))) _) | (with_reducible refine Fr.alloc ?_ _) | (with_reducible refine Fr.drew ?_) | (with_reducible refine Fr.drewN ?_ _) | (with_reducible exact Fr.refl _ _))))).trans hG.fr); obtain ⟨g, rfl, hc⟩ := ivs_two rfl hG.row; have x0 := hc 0 _ rfl; have x1 := hc 1 _ rfl; have x2 := hc 2 _ rfl; have x3 := hc 3 _ rfl; have x4 := hc 4 _ rfl; have x5 := hc 5 _ rfl; have hg3 := World.block_lt_of_cell? w3 _ x0; clear hG hc))
  clear HLI
  go_region_held3 (fun w' => w'.cell? ⟨g, 0, none⟩ = some (.int .i64 0) ∧ w'.cell? ⟨g, 1, none⟩ = some (.int .i64 0) ∧ w'.cell? ⟨g, 2, none⟩ = some (.int .i64 4) ∧ w'.cell? ⟨g, 3, none⟩ = some (.int .i64 1) ∧ w'.cell? ⟨g, 4, none⟩ = some (.int .i64 2) ∧ w'.cell? ⟨g, 5, none⟩ = some (.int .i64 3))
    (first | exact ⟨x0, x1, x2, x3, x4, x5⟩ | exact ⟨y0, y1, y2, y3, y4, y5⟩ | go_keep)
    ((go_at_call 16; refine (HMT.out _).mono ?_; rintro e w4 ⟨rfl, hF4⟩; have HF4 : Hid (Fr [] w3 w4) := Lib.hid (Fr.trans (by (repeat (first | (with_reducible refine Fr.setCell ?_ (fun h => absurd h (Nat.lt_irrefl _)) _) | (with_reducible refine Fr.setCell ?_ (fun h => absurd h (by first | omega | (simp; done) | (simp; omega) | (dsimp only; omega))) _) | (with_reducible refine Fr.alloc ?_ _) | (with_reducible refine Fr.drew ?_) | (with_reducible refine Fr.drewN ?_ _) | (with_reducible exact Fr.refl _ _)))) hF4); have y0 := HF4.out.cell (by simp) x0; have y1 := HF4.out.cell (by simp) x1; have y2 := HF4.out.cell (by simp) x2; have y3 := HF4.out.cell (by simp) x3; have y4 := HF4.out.cell (by simp) x4; have y5 := HF4.out.cell (by simp) x5; clear hF4))
  go_wp2_with fail
  go_ret
  exact ⟨rfl, HF3.out.trans (Fr.trans HF4.out (by (repeat (first | (with_reducible refine Fr.setCell ?_ (fun h => absurd h (Nat.lt_irrefl _)) _) | (with_reducible refine Fr.setCell ?_ (fun h => absurd h (by first | omega | (simp; done) | (simp; omega) | (dsimp only; omega))) _) | (with_reducible refine Fr.alloc ?_ _) | (with_reducible refine Fr.drew ?_) | (with_reducible refine Fr.drewN ?_ _) | (with_reducible exact Fr.refl _ _)))))⟩
end Go.Proofs.YtomcfjckhajhmabGreatDoor
