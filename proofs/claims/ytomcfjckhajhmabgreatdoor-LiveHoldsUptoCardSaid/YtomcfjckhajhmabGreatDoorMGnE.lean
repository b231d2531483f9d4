/- gen: what a unit is, instruction by instruction; plain, and an instruction's map whatever it is. gen: the unit of a method. gen: regions of unitOf, each a theorem of its ownA. (written by genregs.py) gen: a map is laid. (written by genregs.py) gen: the unit of a method, made. -/
import Derived.Test.YtomcfjckhajhmabGreatDoorMGnD
namespace Go.Proofs.YtomcfjckhajhmabGreatDoor
open Go.RowKit

theorem GKok.mapsAt {κ : GK} {w1 : World} {gb : Nat} {E : List Bool} (K : GKok κ w1 gb E) (ma : Option Addr) (mc : Nat) : GKok { κ with ma := ma, mc := mc } w1 gb E :=
  ⟨K.code, K.lits, K.dep, K.lead, K.dl, K.el, K.leads, K.wf, K.good⟩
theorem gm_off {m : Mth} (g : m.good) {p : Nat} (hp : p < m.code.length) (h : ¬ (gmOf m).on p) : (gmOf m).dep.getD p (-1) = -1 := by
  rw [gm_dep hp]
  by_cases hw : ∃ d, Way m p d
  · obtain ⟨d, hd⟩ := hw
    exact absurd (gm_way g hd).1 h
  · exact Mth.depthAt_none hw
theorem gn_enter_any {κ : GK} {w1 : World} {gb : Nat} {X : List (Nat × Obj)} {na : Option Addr} {nc : Nat} {g : GS} {W : World} {E : List Bool} (K : GKok κ w1 gb E) {p : Nat} (hp : p < κ.m.code.length) (h : GIs κ w1 gb X na nc ((gmOf κ.m).nk p).1 g W) (hN : ¬ (gmOf κ.m).lead p = true → (gmOf κ.m).on p → ((gmOf κ.m).nk p).1.length ≤ 900) : Calls Tryz.prog 42 #[.pointer (some ⟨gb, 0, none⟩), .int .i64 p] W (EnterTo κ w1 gb X (if (gmOf κ.m).on p then tregs κ.m.temps ++ (gmOf κ.m).N p else []) (if (gmOf κ.m).on p then (gmOf κ.m).N p else ((gmOf κ.m).nk p).1) g) := by
  have hcl : κ.m.code.length ≤ 128 := by have := K.wf.len.2; simpa [gmOf] using this
  have htm := K.wf.temps
  have hag := K.wf.args
  have hT : 0 ≤ κ.m.temps ∧ κ.m.temps ≤ 16 := ⟨by have : (gmOf κ.m).temps = κ.m.temps := rfl; omega, htm.2⟩
  obtain ⟨gd, od, hda, hd⟩ := depIdx K hp
  by_cases ho : (gmOf κ.m).on p
  · rw [if_pos ho, if_pos ho]
    obtain ⟨ge, oe, hea, hx⟩ := leadIdx K hp
    have hat : (gmOf κ.m).dep.getD p (-1) = ((gmOf κ.m).at p : Int) := by unfold GM.at; unfold GM.on at ho; omega
    rw [hat] at hd
    have hfit := K.wf.fits p ho
    have hst := K.wf.stack
    cases hl : (gmOf κ.m).lead p
    · rw [hl] at hx
      have hN1 : (gmOf κ.m).N p = ((gmOf κ.m).nk p).1 := by simp [GM.N, GM.noted, hl]
      rw [hN1]
      exact gn_enter_on h hT (hN (by simp [hl]) ho) hda K.dl hea K.el hp hcl _ hd hx
    · rw [hl] at hx
      rw [GM.N_lead hl]
      exact gn_enter_lead h hT hda K.dl hea K.el hp hcl _ hd hx (by omega)
  · rw [if_neg ho, if_neg ho]
    rw [gm_off K.good hp ho] at hd
    exact gn_enter_off h hda K.dl hp hcl hd
theorem startsL_at2 : ∀ (L : List (List Ii)) (s : Int) (p : Nat), p ≤ L.length → (startsL s L)[p]? = some (s + ((L.take p).flatten.length : Int))
  | L, s, 0, _ => by cases L <;> simp [startsL]
  | [], s, p + 1, h => by simp at h
  | c :: L, s, p + 1, h => by
    rw [startsL, List.getElem?_cons_succ, startsL_at2 L (s + c.length) p (by simpa using h)]
    simp
    omega
/-- a unit, so far -/
def GM.gsAt (g : GM) (method : Int) (k : Nat) : GS := ⟨method, g.args, g.temps, g.temps + g.stack, (g.nk k).2, (g.parts.take k).flatMap (·.1), (startsL 0 (g.parts.map (·.1))).take k, (g.parts.take k).map (·.2)⟩
theorem GM.gsAt_zero (g : GM) (method : Int) : g.gsAt method 0 = ⟨method, g.args, g.temps, g.temps + g.stack, 0, [], [], []⟩ := rfl
/-- where the next instruction begins, and its map -/
def GS.come (g : GS) (M : List Sr) : GS := { g with starts := g.starts ++ [(g.code.length : Int)], maps := g.maps ++ [M] }
theorem GM.parts_length (g : GM) : g.parts.length = g.code.length := parts_len g 0 g.code [] 0
theorem GM.gsAt_succ {g : GM} {method : Int} {k : Nat} {i : GI} (hi : g.code[k]? = some i) : g.gsAt method (k + 1) = if g.on k then (((g.gsAt method k).come (tregs g.temps ++ g.N k)).add (g.cd k i).1).site (sitesN i (g.gsAt method k).sites) else (g.gsAt method k).come [] := by
  have hp := g.parts_at hi
  have hk := (List.getElem?_eq_some_iff.1 hi).1
  have hs : (startsL 0 (g.parts.map (·.1))).take (k + 1) = (startsL 0 (g.parts.map (·.1))).take k ++ [(((g.parts.take k).flatMap (·.1)).length : Int)] := by
    refine take_snoc ?_
    rw [startsL_at2 _ _ _ (by rw [List.length_map, g.parts_length]; omega), Int.zero_add]
    congr 2
    rw [← List.map_take, List.flatMap_def]
  have ht : g.parts.take (k + 1) = g.parts.take k ++ [if g.on k then ((g.cd k i).1, tregs g.temps ++ g.N k) else ([], [])] := take_snoc hp
  by_cases ho : g.on k
  · rw [if_pos ho] at ht ⊢
    unfold GM.gsAt GS.come GS.add GS.site sitesN
    rw [ht, hs, g.nk_on hi ho]
    simp
  · rw [if_neg ho] at ht ⊢
    unfold GM.gsAt GS.come
    rw [ht, hs, g.nk_off ho]
    simp
theorem GM.nk_le (g : GM) : ∀ k : Nat, 0 ≤ (g.nk k).2 ∧ (g.nk k).2 ≤ k
  | 0 => by simp [GM.nk]
  | k + 1 => by
    have h := GM.nk_le g k
    rw [GM.nk]
    split
    · split
      · simp only
        split <;> omega
      · omega
    · omega
theorem one_le (g : GM) (nx : Bool) (i : GI) (N : List Sr) (k : Int) : (one g nx i N k).1.length ≤ 2 * N.length + 4 := by
  have h0 := bringC_le g.temps 0 N
  have h1 := bringC_le g.temps 0 (N.take (N.length - i.takes))
  have h2 : (N.take (N.length - i.takes)).length ≤ N.length := by rw [List.length_take]; omega
  have h3 := plain_le g i N
  have h4 := bringC_le g.temps 0 (plain g i N).2
  have h5 : (plain g i N).2.length ≤ N.length + 1 := by
    have := flushN_len g.temps i.a 0 N.dropLast
    rw [List.length_dropLast] at this
    unfold plain
    (repeat' split) <;> simp <;> omega
  unfold one
  split
  · simp only [List.length_append, List.length_singleton]
    split <;> (try simp only [List.length_nil]) <;> omega
  split
  · simp only [List.length_append, List.length_singleton]; omega
  split
  · simp
  split
  · simp
  split
  · simp
  split
  · simp
  · simp only [List.length_append]
    split <;> (try simp only [List.length_nil]) <;> omega
theorem GM.code_le {g : GM} (W : g.wf) : ∀ k : Nat, k ≤ g.code.length → ((g.parts.take k).flatMap (·.1)).length ≤ 40 * k
  | 0, _ => by simp
  | k + 1, hk => by
    have h := GM.code_le W k (by omega)
    have hi := List.getElem?_eq_getElem (l := g.code) (i := k) (by omega)
    rw [take_snoc (g.parts_at hi)]
    rw [List.flatMap_append, List.length_append]
    by_cases ho : g.on k
    · rw [if_pos ho]
      have h1 := one_le g (g.lead (k + 1)) g.code[k] (g.N k) (g.nk k).2
      have h2 := g.N_len W ho
      have h3 := W.fits k ho
      have h4 := W.stack
      simp only [List.flatMap_cons, List.flatMap_nil, List.append_nil]
      unfold GM.cd
      omega
    · rw [if_neg ho]
      simp only [List.flatMap_cons, List.flatMap_nil, List.append_nil, List.length_nil]
      omega
theorem GM.nk_len {g : GM} (W : g.wf) {k : Nat} (hl : ¬ g.lead k = true) (ho : g.on k) : (g.nk k).1.length ≤ 900 := by
  have h := g.N_len W ho
  have h3 := W.fits k ho
  have h4 := W.stack
  have : g.N k = (g.nk k).1 := by simp [GM.N, GM.noted, hl]
  rw [this] at h
  omega
end Go.Proofs.YtomcfjckhajhmabGreatDoor
namespace Go.Proofs.YtomcfjckhajhmabGreatDoor
open Go.RowKit

def zUnit : Obj := .cells #[.int .u64 0, .int .i64 0, .int .i64 0, .int .i64 0, .int .i64 0, .int .i64 0, .slice none 0 0, .slice none 0 0, .slice none 0 0, .slice none 0 0] 34
theorem drew_heap (w : World) : w.drew.heap = w.heap := rfl
set_option maxHeartbeats 1000000 in
/-- the generator's box, once its unit is begun -/
theorem unit_begun {κ : GK} {gb : Nat} {method : Int} {w W2 : World} (hbox : w.heap[gb]? = some (.cells (gcells κ none 0 0 noU) 100 (0, 0))) (hm : κ.ma = none ∧ κ.mc = 0) (hW2 : W2 = (((((((((((w.alloc zUnit).setCell ⟨gb, 9, none⟩ (.int .u64 method)).setCell ⟨gb, 10, none⟩ (.int .i64 κ.m.args)).setCell ⟨gb, 11, none⟩ (.int .i64 κ.m.temps)).setCell ⟨gb, 12, none⟩ (.int .i64 (κ.m.temps + κ.m.stack))).setCell ⟨gb, 13, none⟩ (.int .i64 0)).setCell ⟨gb, 14, none⟩ (.int .i64 0)).setCell ⟨gb, 15, none⟩ (.slice none 0 0)).setCell ⟨gb, 16, none⟩ (.slice none 0 0)).setCell ⟨gb, 17, none⟩ (.slice none 0 0)).setCell ⟨gb, 18, none⟩ (.slice none 0 0)).drew) :
    Fr [gb] w W2 ∧ w.heap.size ≠ gb ∧ W2.heap[w.heap.size]? = some zUnit ∧ GIs κ W2 gb [(w.heap.size, zUnit)] none 0 [] ((gmOf κ.m).gsAt method 0) W2 := by
  have hgb := lt_of_heap hbox
  have hb1 := ((Fr.refl [] w).alloc zUnit).heap (by simp) hbox
  have g9 := heap_setCell_same (o := 9) hb1 (.int .u64 method)
  have g10 := heap_setCell_same (o := 10) g9 (.int .i64 κ.m.args)
  have g11 := heap_setCell_same (o := 11) g10 (.int .i64 κ.m.temps)
  have g12 := heap_setCell_same (o := 12) g11 (.int .i64 (κ.m.temps + κ.m.stack))
  have g13 := heap_setCell_same (o := 13) g12 (.int .i64 0)
  have g14 := heap_setCell_same (o := 14) g13 (.int .i64 0)
  have g15 := heap_setCell_same (o := 15) g14 (.slice none 0 0)
  have g16 := heap_setCell_same (o := 16) g15 (.slice none 0 0)
  have g17 := heap_setCell_same (o := 17) g16 (.slice none 0 0)
  have g18 := heap_setCell_same (o := 18) g17 (.slice none 0 0)
  have he : (((((((((((gcells κ none 0 0 noU).setIfInBounds 9 (.int .u64 method)).setIfInBounds 10 (.int .i64 κ.m.args)).setIfInBounds 11 (.int .i64 κ.m.temps)).setIfInBounds 12 (.int .i64 (κ.m.temps + κ.m.stack))).setIfInBounds 13 (.int .i64 0)).setIfInBounds 14 (.int .i64 0)).setIfInBounds 15 (.slice none 0 0)).setIfInBounds 16 (.slice none 0 0)).setIfInBounds 17 (.slice none 0 0)).setIfInBounds 18 (.slice none 0 0)) = gcells κ none 0 0 { noU with method := method, args := κ.m.args, temps := κ.m.temps, regs := κ.m.temps + κ.m.stack } := by simp [gcells, noU]
  have hb2 : W2.heap[gb]? = some (.cells (gcells κ none 0 0 { noU with method := method, args := κ.m.args, temps := κ.m.temps, regs := κ.m.temps + κ.m.stack }) 100 (0, 0)) := by
    rw [hW2, drew_heap, ← he]
    exact g18
  have hF : Fr [gb] (w.alloc zUnit) W2 := by
    rw [hW2]
    exact (((((((((((Fr.refl [gb] _).setCell (fun _ => by simp) _).setCell (fun _ => by simp) _).setCell (fun _ => by simp) _).setCell (fun _ => by simp) _).setCell (fun _ => by simp) _).setCell (fun _ => by simp) _).setCell (fun _ => by simp) _).setCell (fun _ => by simp) _).setCell (fun _ => by simp) _).setCell (fun _ => by simp) _).drew
  have hne : w.heap.size ≠ gb := by omega
  have hr : W2.heap[w.heap.size]? = some zUnit := hF.heap (by simpa using hne) (heap_new w zUnit)
  clear g9 g10 g11 g12 g13 g14 g15 g16 g17 g18 he
  refine ⟨((Fr.refl [gb] w).alloc _).trans hF, hne, hr, { noU with method := method, args := κ.m.args, temps := κ.m.temps, regs := κ.m.temps + κ.m.stack }, ⟨?_, Fr.refl _ _, lt_of_heap hb2, hb2, ⟨rfl, .inl ⟨rfl, rfl⟩⟩, ⟨rfl, .inl ⟨rfl, rfl⟩⟩, ⟨rfl, .inl ⟨rfl, rfl⟩⟩, ⟨rfl, .inl ⟨rfl, rfl⟩⟩, ?_, ?_, ?_, ?_⟩, ?_⟩
  · exact ⟨hm.1.symm, hm.2.symm⟩
  · rintro b (h | h | h | h) <;> cases h
  · intro i hi; simp [noU] at hi
  · intro i hi; simp [noU] at hi
  · intro x hx
    simp only [List.mem_singleton] at hx
    subst hx
    exact ⟨hr, hne, by simp [ownA], by simp [ownA, noU], by simp [ownA, noU], by simp [ownA, noU]⟩
  · exact ⟨rfl, rfl, rfl, rfl, rfl, rfl, rfl, rfl, rfl, rfl, rfl, rfl⟩
/-- one more start, in abstract -/
theorem GIs.started' {κ : GK} {w1 : World} {gb : Nat} {X : List (Nat × Obj)} {na : Option Addr} {nc : Nat} {N : List Sr} {g : GS} {W : World} {u : Un} (h : GAt κ w1 gb X na nc N u W) (ho : g.of u) {W' w5 : World} (hF : Fr [] W W') {n gg cq H : Nat} {k : Int} (hn : n = u.starts.length) (hk : k = (g.code.length : Int)) (hown : w5.ownsRow 0 3 1 (.slice (some ⟨gg, 0, none⟩) (n + 1) cq) (n + 1) (flatN u.starts ++ [.int .i64 k])) (hg : W'.grownBy w5 (Value.slice u.sa n u.sc).ownBlock) (hH : W'.heap.size = H) (hat : (Value.slice u.sa n u.sc).ownBlock = some gg ∨ gg = H) : w5.cell? ⟨gb, 17, none⟩ = some (.slice u.sa n u.sc) ∧ w5.frozen? ⟨gb, 17, none⟩ = false ∧ gb < w5.heap.size ∧ GIs κ w1 gb X na nc N { g with starts := g.starts ++ [(g.code.length : Int)] } (w5.setCell ⟨gb, 17, none⟩ (.slice (some ⟨gg, 0, none⟩) (n + 1) cq)) := by
  obtain ⟨q1, q2, q3, q4⟩ := h.started' hF hn k hown hg hH hat
  exact ⟨q1, q2, q3, _, q4, ⟨ho.method, ho.args, ho.temps, ho.regs, ho.spills, ho.sites, ho.ea, ho.enter, ho.ec, ho.code, by simp [ho.starts, hk], ho.maps⟩⟩
theorem GIs.mapped' {κ : GK} {w1 : World} {gb : Nat} {X : List (Nat × Obj)} {na : Option Addr} {nc : Nat} {N : List Sr} {g : GS} {W : World} {u : Un} (h : GAt κ w1 gb X na nc N u W) (ho : g.of u) {a : Option Addr} {c : Nat} {L : List Sr} (hx : InX w1 X a L c) {W' w5 : World} (hF : Fr [] W W') {n gg cq H : Nat} (hn : n = u.maps.length) (hown : w5.ownsRow 0 54 1 (.slice (some ⟨gg, 0, none⟩) (n + 1) cq) (n + 1) (flatMp u.maps ++ [.slice a L.length c])) (hg : W'.grownBy w5 (Value.slice u.ma n u.mc).ownBlock) (hH : W'.heap.size = H) (hat : (Value.slice u.ma n u.mc).ownBlock = some gg ∨ gg = H) : w5.cell? ⟨gb, 18, none⟩ = some (.slice u.ma n u.mc) ∧ w5.frozen? ⟨gb, 18, none⟩ = false ∧ gb < w5.heap.size ∧ GIs { κ with ma := some ⟨gg, 0, none⟩, mc := cq } w1 gb X na nc N { g with maps := g.maps ++ [L] } (w5.setCell ⟨gb, 18, none⟩ (.slice (some ⟨gg, 0, none⟩) (n + 1) cq)) := by
  obtain ⟨q1, q2, q3, q4⟩ := h.mapped' hF hn ⟨a, L, c⟩ ((h.fr0 hF).inX hx) hown hg hH hat
  exact ⟨q1, q2, q3, _, q4, ⟨ho.method, ho.args, ho.temps, ho.regs, ho.spills, ho.sites, ho.ea, ho.enter, ho.ec, ho.code, ho.starts, by simp [ho.maps]⟩⟩
theorem GAt.cells {κ : GK} {w1 : World} {gb : Nat} {X : List (Nat × Obj)} {na : Option Addr} {nc : Nat} {N : List Sr} {u : Un} {W : World} (h : GAt κ w1 gb X na nc N u W) : W.cell? ⟨gb, 16, none⟩ = some (.slice u.ca u.code.length u.cc) ∧ W.cell? ⟨gb, 17, none⟩ = some (.slice u.sa u.starts.length u.sc) ∧ W.cell? ⟨gb, 18, none⟩ = some (.slice u.ma u.maps.length u.mc) ∧ (∀ k, W.frozen? ⟨gb, k, none⟩ = false) ∧ gb < W.heap.size :=
  ⟨cell_of_heap h.box rfl, cell_of_heap h.box rfl, cell_of_heap h.box rfl, fun _ => frozen_of_heap h.box, lt_of_heap h.box⟩
end Go.Proofs.YtomcfjckhajhmabGreatDoor
namespace Go.Proofs.YtomcfjckhajhmabGreatDoor
open Go.RowKit

/-- a part of a code, by the way to it -/
def partAt : List Nat → Code → Code
  | 0 :: p, .seq x _ => partAt p x
  | 1 :: p, .seq _ y => partAt p y
  | 2 :: p, .block _ c => partAt p c
  | 3 :: p, .loop c => partAt p c
  | 4 :: p, .cond _ x _ => partAt p x
  | 5 :: p, .cond _ _ y => partAt p y
  | _, c => c
theorem then_mono {R K : Act → World → Prop} {Q : Exit → Act → World → Prop} (hK : ∀ a w, R a w → K a w) : ∀ e a w, Exit.then R (fun _ _ _ => False) e a w → Exit.then K Q e a w := by
  intro e a w h
  cases e with
  | normal => exact hK a w h
  | _ => exact h.elim
set_option maxRecDepth 100000 in
set_option maxHeartbeats 4000000 in
theorem unit_r5 {κ : GK} {w1 : World} {gb : Nat} {X : List (Nat × Obj)} {na : Option Addr} {nc : Nat} {N : List Sr} {g : GS} {wr : World} (h : GIs κ w1 gb X na nc N g wr) (hs : g.starts.length ≤ 300) {u1 u2 u3 u4 u5 u6 u7 u8 u9 u10 u11 u12 u13 u14 u15 u16 u17 u18 u19 u20 u21 u22 u23 u24 u25 u26 u27 u28 u29 u30 u31 u32 u33 u34 u35 u36 u37 u38 u39 u40 u41 u42 u43 u44 u45 u46 u47 u48 u49 u50 u51 u52 u53 u54 u55 u56 u57 u58 u59 u60 u61 u62 u63 u64 u65 u66 u67 u68 u69 u70 u71 u72 u73 u74 u75 u76 u77 u78 u79 u80 u81 u82 u83 u84 u85 u86 u87 u88 u89 u90 u91 u92 u93 u94 u95 u96 u97 u98 u99 u100 u101 u102 u103 u104 : Value} : Code.wp Tryz.prog (partAt [1, 1, 0, 1, 2, 3, 1, 1, 0, 2, 1, 0] (Tryz.f21.body.getD .skip)) (Exit.then (fun a' w' => ∃ v41 v42 v43 v44 v45 v46 v47 v48 v49 v50 v51 v52 v53 v54 v55 v56 v57, a' = ⟨List.toArray ((.pointer (some ⟨gb, 0, none⟩)) :: u1 :: u2 :: u3 :: u4 :: u5 :: u6 :: u7 :: u8 :: u9 :: u10 :: u11 :: u12 :: u13 :: u14 :: u15 :: u16 :: u17 :: u18 :: u19 :: u20 :: u21 :: u22 :: u23 :: u24 :: u25 :: u26 :: u27 :: u28 :: u29 :: u30 :: u31 :: u32 :: u33 :: u34 :: u35 :: u36 :: u37 :: u38 :: u39 :: u40 :: v41 :: v42 :: v43 :: v44 :: v45 :: v46 :: v47 :: v48 :: v49 :: v50 :: v51 :: v52 :: v53 :: v54 :: v55 :: v56 :: v57 :: u58 :: u59 :: u60 :: u61 :: u62 :: u63 :: u64 :: u65 :: u66 :: u67 :: u68 :: u69 :: u70 :: u71 :: u72 :: u73 :: u74 :: u75 :: u76 :: u77 :: u78 :: u79 :: u80 :: u81 :: u82 :: u83 :: u84 :: u85 :: u86 :: u87 :: u88 :: u89 :: u90 :: u91 :: u92 :: u93 :: u94 :: u95 :: u96 :: u97 :: u98 :: u99 :: u100 :: u101 :: u102 :: u103 :: u104 :: []), []⟩ ∧ GIs κ w1 gb X na nc N { g with starts := g.starts ++ [(g.code.length : Int)] } w') (fun _ _ _ => False)) ⟨List.toArray ((.pointer (some ⟨gb, 0, none⟩)) :: u1 :: u2 :: u3 :: u4 :: u5 :: u6 :: u7 :: u8 :: u9 :: u10 :: u11 :: u12 :: u13 :: u14 :: u15 :: u16 :: u17 :: u18 :: u19 :: u20 :: u21 :: u22 :: u23 :: u24 :: u25 :: u26 :: u27 :: u28 :: u29 :: u30 :: u31 :: u32 :: u33 :: u34 :: u35 :: u36 :: u37 :: u38 :: u39 :: u40 :: u41 :: u42 :: u43 :: u44 :: u45 :: u46 :: u47 :: u48 :: u49 :: u50 :: u51 :: u52 :: u53 :: u54 :: u55 :: u56 :: u57 :: u58 :: u59 :: u60 :: u61 :: u62 :: u63 :: u64 :: u65 :: u66 :: u67 :: u68 :: u69 :: u70 :: u71 :: u72 :: u73 :: u74 :: u75 :: u76 :: u77 :: u78 :: u79 :: u80 :: u81 :: u82 :: u83 :: u84 :: u85 :: u86 :: u87 :: u88 :: u89 :: u90 :: u91 :: u92 :: u93 :: u94 :: u95 :: u96 :: u97 :: u98 :: u99 :: u100 :: u101 :: u102 :: u103 :: u104 :: []), []⟩ wr := by
  obtain ⟨i0, hi, hz0, hz1, hz2⟩ := info_parts infoInt
  obtain ⟨u, hA, hO⟩ := h
  obtain ⟨c16, c17, -, hfz, hgk⟩ := hA.cells
  have f17 := hfz 17
  obtain ⟨sl, hsl⟩ : ∃ sl, sl = u.starts.length := ⟨_, rfl⟩
  obtain ⟨cl, hcl2⟩ : ∃ cl, cl = u.code.length := ⟨_, rfl⟩
  rw [← hsl] at c17
  rw [← hcl2] at c16
  have HCL : Hid ((cl : Int) = (g.code.length : Int)) := Lib.hid (by rw [hcl2, ← hO.code, List.length_map])
  have HRW : Hid (wr.ownsRow 0 3 1 (.slice u.sa sl u.sc) sl (flatN u.starts)) := Lib.hid (by rw [hsl]; exact hA.starts)
  have HSL := Lib.hid hsl
  have hs300 : sl ≤ 300 := by rw [hsl, hO.starts]; exact hs
  have HA := Lib.hid hA
  have HO := Lib.hid hO
  have hmx : sl + 1 ≤ maxLen := by unfold maxLen; omega
  clear hA hO hfz hsl hcl2 hs
  show Code.wp Tryz.prog (.region _ _ _) _ _ _
  go_region_law (refine step_append_lies _ (by rfl) (.tmp 46) (.tmp 53) 31 (by rfl) 0 3 i0 _ 1 8 Tryz.underlying31 hi hz0 hz1 hz2 rfl (by omega) (.slice u.sa sl u.sc) sl (flatN u.starts) (by rfl) ?_ ⟨wr.heap.size, 0, none⟩ 1 1 [.int .i64 cl] (by rfl) (by rfl) ?_ (by simp [Value.oneCell']) (by omega) hmx (by omega) (Nat.zero_le _) (wr.heap.size + 1) (by simp) ?_; (focus exact Fr.row (S := []) (by (repeat (first | (with_reducible refine Fr.setCell ?_ (fun h => absurd h (Nat.lt_irrefl _)) _) | (with_reducible refine Fr.setCell ?_ (fun h => absurd h (by first | omega | (simp; done) | (simp; omega) | (dsimp only; omega))) _) | (with_reducible refine Fr.alloc ?_ _) | (with_reducible refine Fr.drew ?_) | (with_reducible refine Fr.drewN ?_ _) | (with_reducible exact Fr.refl _ _)))) HRW.out (fun _ _ => by simp)); (focus (intro j x hj; rw [Lib.add_plain, Nat.zero_add]; exact cell_of_heap (heap_new _ _) (by simpa using hj))); intro gg cq w5 hown1 hgrow hat hlt1; obtain ⟨q8, z9, hg9, hR⟩ := GIs.started' HA.out HO.out (W' := _) (by first | exact (((Fr.refl [] wr).drew).drew).alloc _ | exact ((Fr.refl [] wr).drew).alloc _ | exact (Fr.refl [] wr).alloc _ | exact ((((Fr.refl [] wr).drew).drew).drew).alloc _) HSL.out HCL.out hown1 hgrow (by simp) hat; have HG5 := Lib.hid hR; clear hR hown1 hgrow hat)
  all_goals exact ⟨_, _, _, _, _, _, _, _, _, _, _, _, _, _, _, _, _, rfl, HG5.out⟩
set_option maxRecDepth 100000 in
set_option maxHeartbeats 4000000 in
theorem unit_r10 {κ : GK} {w1 : World} {gb : Nat} {X : List (Nat × Obj)} {na : Option Addr} {nc : Nat} {N : List Sr} {g : GS} {wr : World} (h : GIs κ w1 gb X na nc N g wr) (hs : g.starts.length ≤ 300) {u1 u2 u3 u4 u5 u6 u7 u8 u9 u10 u11 u12 u13 u14 u15 u16 u17 u18 u19 u20 u21 u22 u23 u24 u25 u26 u27 u28 u29 u30 u31 u32 u33 u34 u35 u36 u37 u38 u39 u40 u41 u42 u43 u44 u45 u46 u47 u48 u49 u50 u51 u52 u53 u54 u55 u56 u57 u58 u59 u60 u61 u62 u63 u64 u65 u66 u67 u68 u69 u70 u71 u72 u73 u74 u75 u76 u77 u78 u79 u80 u81 u82 u83 u84 u85 u86 u87 u88 u89 u90 u91 u92 u93 u94 u95 u96 u97 u98 u99 u100 u101 u102 u103 u104 : Value} : Code.wp Tryz.prog (partAt [1, 1, 1, 0] (Tryz.f21.body.getD .skip)) (Exit.then (fun a' w' => ∃ v84 v85 v86 v87 v88 v89 v90 v91 v92 v93 v94 v95 v96 v97 v98 v99 v100, a' = ⟨List.toArray ((.pointer (some ⟨gb, 0, none⟩)) :: u1 :: u2 :: u3 :: u4 :: u5 :: u6 :: u7 :: u8 :: u9 :: u10 :: u11 :: u12 :: u13 :: u14 :: u15 :: u16 :: u17 :: u18 :: u19 :: u20 :: u21 :: u22 :: u23 :: u24 :: u25 :: u26 :: u27 :: u28 :: u29 :: u30 :: u31 :: u32 :: u33 :: u34 :: u35 :: u36 :: u37 :: u38 :: u39 :: u40 :: u41 :: u42 :: u43 :: u44 :: u45 :: u46 :: u47 :: u48 :: u49 :: u50 :: u51 :: u52 :: u53 :: u54 :: u55 :: u56 :: u57 :: u58 :: u59 :: u60 :: u61 :: u62 :: u63 :: u64 :: u65 :: u66 :: u67 :: u68 :: u69 :: u70 :: u71 :: u72 :: u73 :: u74 :: u75 :: u76 :: u77 :: u78 :: u79 :: u80 :: u81 :: u82 :: u83 :: v84 :: v85 :: v86 :: v87 :: v88 :: v89 :: v90 :: v91 :: v92 :: v93 :: v94 :: v95 :: v96 :: v97 :: v98 :: v99 :: v100 :: u101 :: u102 :: u103 :: u104 :: []), []⟩ ∧ GIs κ w1 gb X na nc N { g with starts := g.starts ++ [(g.code.length : Int)] } w') (fun _ _ _ => False)) ⟨List.toArray ((.pointer (some ⟨gb, 0, none⟩)) :: u1 :: u2 :: u3 :: u4 :: u5 :: u6 :: u7 :: u8 :: u9 :: u10 :: u11 :: u12 :: u13 :: u14 :: u15 :: u16 :: u17 :: u18 :: u19 :: u20 :: u21 :: u22 :: u23 :: u24 :: u25 :: u26 :: u27 :: u28 :: u29 :: u30 :: u31 :: u32 :: u33 :: u34 :: u35 :: u36 :: u37 :: u38 :: u39 :: u40 :: u41 :: u42 :: u43 :: u44 :: u45 :: u46 :: u47 :: u48 :: u49 :: u50 :: u51 :: u52 :: u53 :: u54 :: u55 :: u56 :: u57 :: u58 :: u59 :: u60 :: u61 :: u62 :: u63 :: u64 :: u65 :: u66 :: u67 :: u68 :: u69 :: u70 :: u71 :: u72 :: u73 :: u74 :: u75 :: u76 :: u77 :: u78 :: u79 :: u80 :: u81 :: u82 :: u83 :: u84 :: u85 :: u86 :: u87 :: u88 :: u89 :: u90 :: u91 :: u92 :: u93 :: u94 :: u95 :: u96 :: u97 :: u98 :: u99 :: u100 :: u101 :: u102 :: u103 :: u104 :: []), []⟩ wr := by
  obtain ⟨i0, hi, hz0, hz1, hz2⟩ := info_parts infoInt
  obtain ⟨u, hA, hO⟩ := h
  obtain ⟨c16, c17, -, hfz, hgk⟩ := hA.cells
  have f17 := hfz 17
  obtain ⟨sl, hsl⟩ : ∃ sl, sl = u.starts.length := ⟨_, rfl⟩
  obtain ⟨cl, hcl2⟩ : ∃ cl, cl = u.code.length := ⟨_, rfl⟩
  rw [← hsl] at c17
  rw [← hcl2] at c16
  have HCL : Hid ((cl : Int) = (g.code.length : Int)) := Lib.hid (by rw [hcl2, ← hO.code, List.length_map])
  have HRW : Hid (wr.ownsRow 0 3 1 (.slice u.sa sl u.sc) sl (flatN u.starts)) := Lib.hid (by rw [hsl]; exact hA.starts)
  have HSL := Lib.hid hsl
  have hs300 : sl ≤ 300 := by rw [hsl, hO.starts]; exact hs
  have HA := Lib.hid hA
  have HO := Lib.hid hO
  have hmx : sl + 1 ≤ maxLen := by unfold maxLen; omega
  clear hA hO hfz hsl hcl2 hs
  show Code.wp Tryz.prog (.region _ _ _) _ _ _
  go_region_law (refine step_append_lies _ (by rfl) (.tmp 89) (.tmp 96) 31 (by rfl) 0 3 i0 _ 1 8 Tryz.underlying31 hi hz0 hz1 hz2 rfl (by omega) (.slice u.sa sl u.sc) sl (flatN u.starts) (by rfl) ?_ ⟨wr.heap.size, 0, none⟩ 1 1 [.int .i64 cl] (by rfl) (by rfl) ?_ (by simp [Value.oneCell']) (by omega) hmx (by omega) (Nat.zero_le _) (wr.heap.size + 1) (by simp) ?_; (focus exact Fr.row (S := []) (by (repeat (first | (with_reducible refine Fr.setCell ?_ (fun h => absurd h (Nat.lt_irrefl _)) _) | (with_reducible refine Fr.setCell ?_ (fun h => absurd h (by first | omega | (simp; done) | (simp; omega) | (dsimp only; omega))) _) | (with_reducible refine Fr.alloc ?_ _) | (with_reducible refine Fr.drew ?_) | (with_reducible refine Fr.drewN ?_ _) | (with_reducible exact Fr.refl _ _)))) HRW.out (fun _ _ => by simp)); (focus (intro j x hj; rw [Lib.add_plain, Nat.zero_add]; exact cell_of_heap (heap_new _ _) (by simpa using hj))); intro gg cq w5 hown1 hgrow hat hlt1; obtain ⟨q8, z9, hg9, hR⟩ := GIs.started' HA.out HO.out (W' := _) (by first | exact (((Fr.refl [] wr).drew).drew).alloc _ | exact ((Fr.refl [] wr).drew).alloc _ | exact (Fr.refl [] wr).alloc _ | exact ((((Fr.refl [] wr).drew).drew).drew).alloc _) HSL.out HCL.out hown1 hgrow (by simp) hat; have HG5 := Lib.hid hR; clear hR hown1 hgrow hat)
  all_goals exact ⟨_, _, _, _, _, _, _, _, _, _, _, _, _, _, _, _, _, rfl, HG5.out⟩
end Go.Proofs.YtomcfjckhajhmabGreatDoor
namespace Go.Proofs.YtomcfjckhajhmabGreatDoor
open Go.RowKit

set_option maxRecDepth 100000 in
set_option maxHeartbeats 4000000 in
theorem unit_r6 {κ : GK} {w1 : World} {gb k : Nat} {X : List (Nat × Obj)} {na : Option Addr} {nc : Nat} {N N1 L : List Sr} {g : GS} {wr : World} (h : GIs κ w1 gb X na nc N g wr) (hk : k = g.maps.length) (hk9 : k ≤ 300) (hent : ∀ W', Fr [] wr W' → Calls Tryz.prog 42 #[.pointer (some ⟨gb, 0, none⟩), .int .i64 k] W' (EnterTo κ w1 gb X L N1 g)) {u1 u2 u3 u4 u6 u7 u8 u9 u10 u11 u12 u13 u14 u15 u16 u17 u18 u19 u20 u21 u22 u23 u24 u25 u26 u27 u28 u29 u30 u31 u32 u33 u34 u35 u36 u37 u38 u39 u40 u41 u42 u43 u44 u45 u46 u47 u48 u49 u50 u51 u52 u53 u54 u55 u56 u57 u58 u59 u60 u61 u62 u63 u64 u65 u66 u67 u68 u69 u70 u71 u72 u73 u74 u75 u76 u77 u78 u79 u80 u81 u82 u83 u84 u85 u86 u87 u88 u89 u90 u91 u92 u93 u94 u95 u96 u97 u98 u99 u100 u101 u102 u103 u104 : Value} : Code.wp Tryz.prog (partAt [1, 1, 0, 1, 2, 3, 1, 1, 0, 2, 1, 1, 0] (Tryz.f21.body.getD .skip)) (Exit.then (fun a' w' => ∃ v58 v59 v60 v61 v62 v63 v64 v65 v66 v67 v68 v69 v70 v71, a' = ⟨List.toArray ((.pointer (some ⟨gb, 0, none⟩)) :: u1 :: u2 :: u3 :: u4 :: (.int .i64 (k : Int)) :: u6 :: u7 :: u8 :: u9 :: u10 :: u11 :: u12 :: u13 :: u14 :: u15 :: u16 :: u17 :: u18 :: u19 :: u20 :: u21 :: u22 :: u23 :: u24 :: u25 :: u26 :: u27 :: u28 :: u29 :: u30 :: u31 :: u32 :: u33 :: u34 :: u35 :: u36 :: u37 :: u38 :: u39 :: u40 :: u41 :: u42 :: u43 :: u44 :: u45 :: u46 :: u47 :: u48 :: u49 :: u50 :: u51 :: u52 :: u53 :: u54 :: u55 :: u56 :: u57 :: v58 :: v59 :: v60 :: v61 :: v62 :: v63 :: v64 :: v65 :: v66 :: v67 :: v68 :: v69 :: v70 :: v71 :: u72 :: u73 :: u74 :: u75 :: u76 :: u77 :: u78 :: u79 :: u80 :: u81 :: u82 :: u83 :: u84 :: u85 :: u86 :: u87 :: u88 :: u89 :: u90 :: u91 :: u92 :: u93 :: u94 :: u95 :: u96 :: u97 :: u98 :: u99 :: u100 :: u101 :: u102 :: u103 :: u104 :: []), []⟩ ∧ ∃ ma mc na nc, GIs { κ with ma := ma, mc := mc } w1 gb X na nc N1 { g with maps := g.maps ++ [L] } w') (fun _ _ _ => False)) ⟨List.toArray ((.pointer (some ⟨gb, 0, none⟩)) :: u1 :: u2 :: u3 :: u4 :: (.int .i64 (k : Int)) :: u6 :: u7 :: u8 :: u9 :: u10 :: u11 :: u12 :: u13 :: u14 :: u15 :: u16 :: u17 :: u18 :: u19 :: u20 :: u21 :: u22 :: u23 :: u24 :: u25 :: u26 :: u27 :: u28 :: u29 :: u30 :: u31 :: u32 :: u33 :: u34 :: u35 :: u36 :: u37 :: u38 :: u39 :: u40 :: u41 :: u42 :: u43 :: u44 :: u45 :: u46 :: u47 :: u48 :: u49 :: u50 :: u51 :: u52 :: u53 :: u54 :: u55 :: u56 :: u57 :: u58 :: u59 :: u60 :: u61 :: u62 :: u63 :: u64 :: u65 :: u66 :: u67 :: u68 :: u69 :: u70 :: u71 :: u72 :: u73 :: u74 :: u75 :: u76 :: u77 :: u78 :: u79 :: u80 :: u81 :: u82 :: u83 :: u84 :: u85 :: u86 :: u87 :: u88 :: u89 :: u90 :: u91 :: u92 :: u93 :: u94 :: u95 :: u96 :: u97 :: u98 :: u99 :: u100 :: u101 :: u102 :: u103 :: u104 :: []), []⟩ wr := by
  obtain ⟨i1, hj, hy0, hy1, hy2⟩ := info_parts infoSrcs
  have HENT := Lib.hid hent
  have hgb := h.lt
  have p18 : wr.cell? ⟨gb, 18, none⟩ = some (.slice κ.ma k κ.mc) := by
    obtain ⟨u5, hA5, hO5⟩ := h
    have h9 := hA5.cells.2.2.1
    have h8 : u5.maps.length = k := by rw [hk, ← hO5.maps, List.length_map]
    rw [h8, hA5.mk9.1, hA5.mk9.2] at h9
    exact h9
  have HK9 := Lib.hid hk
  obtain ⟨ln, hln⟩ : ∃ ln, ln = L.length := ⟨_, rfl⟩
  have HLN := Lib.hid hln
  have hmk : k + 1 ≤ maxLen := by unfold maxLen; omega
  have HML : Hid (∀ na nc X' u w, GAt κ w1 gb X' na nc N1 u w → g.of u → k = u.maps.length ∧ u.ma = κ.ma ∧ u.mc = κ.mc) := Lib.hid fun na nc X' u w h1 h2 => ⟨by rw [HK9.out, ← h2.maps, List.length_map], h1.mk9.1, h1.mk9.2⟩
  obtain ⟨ma, hma⟩ : ∃ ma, ma = κ.ma := ⟨_, rfl⟩
  obtain ⟨mc, hmc⟩ : ∃ mc, mc = κ.mc := ⟨_, rfl⟩
  rw [← hma, ← hmc] at p18 HML
  clear h hk hent hln hma hmc
  show Code.wp Tryz.prog (.region _ _ _) _ _ _
  go_region_law (first
    | (go_simp; go_at_call 42; refine (HENT.out _ (by first | exact Fr.refl _ _ | exact (Fr.refl _ _).drew | exact ((Fr.refl _ _).drew).drew)).mono ?_; rintro e w6 ⟨a6, c6, X6, na6, nc6, rfl, hx6, hsub, ⟨u6, hA6, hO6⟩⟩; obtain ⟨-, -, r18, hfz6, hgb6⟩ := hA6.cells; have HX6 := Lib.hid hx6; have HS6 := Lib.hid hsub; rw [← HLN.out]; have h8 := HML.out _ _ _ _ _ hA6 hO6; rw [← h8.1, h8.2.1, h8.2.2] at r18; have HRM : Hid (w6.ownsRow 0 54 1 (.slice ma k mc) k (flatMp u6.maps)) := Lib.hid (by have h5 := hA6.maps; rw [← h8.1, h8.2.1, h8.2.2] at h5; exact h5); have H8 := Lib.hid h8; have g18 := hfz6 18; have HA6 := Lib.hid hA6; have HO6 := Lib.hid hO6; clear hx6 hsub hA6 hO6 hfz6 h8)
    | (refine step_append_lies _ (by rfl) (.tmp 63) (.tmp 67) 32 (by rfl) 0 54 i1 _ 1 24 Tryz.underlying32 hj hy0 hy1 hy2 rfl (by omega) (.slice ma k mc) k (flatMp u6.maps) (by rfl) ?_ ⟨w6.heap.size, 0, none⟩ 1 1 [.slice a6 ln c6] (by rfl) (by rfl) ?_ (by simp [Value.oneCell']) (by omega) hmk (by omega) (Nat.zero_le _) (w6.heap.size + 1) (by simp) ?_; (focus exact Fr.row (S := []) (by (repeat (first | (with_reducible refine Fr.setCell ?_ (fun h => absurd h (Nat.lt_irrefl _)) _) | (with_reducible refine Fr.setCell ?_ (fun h => absurd h (by first | omega | (simp; done) | (simp; omega) | (dsimp only; omega))) _) | (with_reducible refine Fr.alloc ?_ _) | (with_reducible refine Fr.drew ?_) | (with_reducible refine Fr.drewN ?_ _) | (with_reducible exact Fr.refl _ _)))) HRM.out (fun _ _ => by simp)); (focus (intro j x hj; rw [Lib.add_plain, Nat.zero_add]; exact cell_of_heap (heap_new _ _) (by simpa using hj))); intro gg7 cq7 w7 hown1 hgrow hat hlt7; rw [← H8.out.2.1, ← H8.out.2.2] at hgrow hat; obtain ⟨q8, z9, hg9, hR⟩ := GIs.mapped' HA6.out HO6.out HX6.out (W' := _) (by first | exact (((Fr.refl [] w6).drew).drew).alloc _ | exact ((Fr.refl [] w6).drew).alloc _ | exact (Fr.refl [] w6).alloc _) H8.out.1 (by rw [← HLN.out]; exact hown1) hgrow (by simp) hat; rw [H8.out.2.1, H8.out.2.2] at q8; have HG7 := Lib.hid (hR.less HS6.out); clear hR hown1 hgrow hat))
  all_goals exact ⟨_, _, _, _, _, _, _, _, _, _, _, _, _, _, rfl, some ⟨gg7, 0, none⟩, cq7, na6, nc6, HG7.out⟩
end Go.Proofs.YtomcfjckhajhmabGreatDoor
namespace Go.Proofs.YtomcfjckhajhmabGreatDoor
open Go.RowKit

theorem own_slok {W : World} {e : TypeId} {size n c : Nat} {a : Option Addr} {xs : List Value} (h : W.ownsRow 0 e size (.slice a n c) n xs) : SlOk a n c := by
  rcases h.2 with ⟨hv, h0⟩ | ⟨g, cap, cur, hv, -, -, h3, h4, -⟩
  · cases hv
    exact ⟨fun _ => ⟨rfl, rfl⟩, Nat.le_refl _, Nat.zero_le _⟩
  · cases hv
    exact ⟨fun h => (by cases h), h3, h4⟩
theorem own_rowB {W : World} {e : TypeId} {size n c : Nat} {a : Option Addr} {xs : List Value} (h : W.ownsRow 0 e size (.slice a n c) n xs) : (a = none ∧ c = 0 ∧ n = 0) ∨ ∃ g, a = some ⟨g, 0, none⟩ ∧ RowB W g e xs ∧ CapB W g (c * size) := by
  rcases h.2 with ⟨hv, h0⟩ | ⟨g, cap, cur, hv, -, h2, -, -, h5, h6⟩
  · cases hv
    exact .inl ⟨rfl, rfl, rfl⟩
  · cases hv
    exact .inr ⟨g, rfl, ⟨cur, h2, cur.toList.drop (n * size), by rw [← h6, List.take_append_drop]⟩, cur, e, (0, 0), h2, h5⟩
theorem SrcK.own {lo : Nat} {W : World} {na a : Option Addr} {l : List Sr} {c : Nat} (h : SrcK lo W na a l c) : OwnS lo W a l c := ⟨h.1, h.2.imp id fun ⟨g, e, hlo, _, hR⟩ => ⟨g, e, hlo, hR⟩⟩
theorem GAt.ownU {κ : GK} {w1 : World} {gb : Nat} {X : List (Nat × Obj)} {na : Option Addr} {nc : Nat} {N : List Sr} {u : Un} {W : World} (h : GAt κ w1 gb X na nc N u W) (h1 : u.ea = none) (h2 : u.enter = []) (h3 : u.ec = 0) : OwnU w1.heap.size W u := by
  refine ⟨?_, ⟨own_slok h.code, ?_, fun i hi => (h.ls i hi).own⟩, ⟨own_slok h.starts, ?_⟩, ⟨own_slok h.maps, ?_, fun q hq => (h.ms q hq).own⟩⟩
  · rw [h1, h2, h3]
    exact ⟨SlOk.nil, .inl ⟨rfl, rfl, rfl⟩, fun i hi => by simp at hi⟩
  · rcases own_rowB h.code with ⟨e1, e2, e3⟩ | ⟨g, e, hR, hC⟩
    · exact .inl ⟨e1, e2, List.length_eq_zero_iff.1 e3⟩
    · exact .inr ⟨g, e, h.nw g (.inr (.inl (by rw [e]; rfl))), hR, hC⟩
  · rcases own_rowB h.starts with ⟨e1, e2, e3⟩ | ⟨g, e, hR, hC⟩
    · exact .inl (List.length_eq_zero_iff.1 e3)
    · exact .inr ⟨g, e, h.nw g (.inr (.inr (.inl (by rw [e]; rfl)))), hR⟩
  · rcases own_rowB h.maps with ⟨e1, e2, e3⟩ | ⟨g, e, hR, hC⟩
    · exact .inl (List.length_eq_zero_iff.1 e3)
    · exact .inr ⟨g, e, h.nw g (.inr (.inr (.inr (by rw [e]; rfl)))), hR⟩
theorem nk_sends (g : GM) : ∀ (l : List GI) (p : Nat), g.code.drop p = l → (g.nk (p + l.length)).2 = (g.nk p).2 + sends g p l
  | [], p, _ => by simp [sends]
  | i :: l, p, hd => by
    obtain ⟨hi, hd2⟩ := drop_cons hd
    rw [List.length_cons, show p + (l.length + 1) = p + 1 + l.length by omega, nk_sends g l (p + 1) hd2]
    rw [show sends g p (i :: l) = (if g.on p ∧ i.op = 11 then 1 else 0) + sends g (p + 1) l from rfl]
    by_cases ho : g.on p
    · rw [g.nk_on hi ho]
      by_cases h : i.op = 11
      · have e : (if g.on p ∧ i.op = 11 then (1 : Int) else 0) = 1 := if_pos ⟨ho, h⟩
        rw [e]
        simp only [if_pos h]
        omega
      · have e : (if g.on p ∧ i.op = 11 then (1 : Int) else 0) = 0 := if_neg (fun x => h x.2)
        rw [e]
        simp only [if_neg h]
        omega
    · have e : (if g.on p ∧ i.op = 11 then (1 : Int) else 0) = 0 := if_neg (fun x => ho x.1)
      rw [g.nk_off ho, e]
      omega
/-- the unit is the document's, in other places -/
theorem unit_same {g : GM} {method : Int} {u : Un} (h : GS.of { (g.gsAt method g.code.length) with starts := (g.gsAt method g.code.length).starts ++ [((g.gsAt method g.code.length).code.length : Int)] } u) : SameU (g.unit method) u := by
  have hp : g.parts.take g.code.length = g.parts := by rw [← g.parts_length, List.take_length]
  have hs : (startsL 0 (g.parts.map (·.1))).take (g.code.length + 1) = startsL 0 (g.parts.map (·.1)) := by
    rw [List.take_of_length_le]
    have h9 : (startsL 0 (g.parts.map (·.1))).length = g.code.length + 1 := by rw [starts_lenG, List.length_map, g.parts_length]
    omega
  have hs2 : (startsL 0 (g.parts.map (·.1))).take (g.code.length + 1) = (startsL 0 (g.parts.map (·.1))).take g.code.length ++ [((g.parts.flatMap (·.1)).length : Int)] := by
    refine take_snoc ?_
    rw [startsL_at2 _ _ _ (by rw [List.length_map, g.parts_length]; omega), Int.zero_add]
    congr 2
    rw [← List.map_take, hp, List.flatMap_def]
  refine ⟨h.method, h.args, h.temps, h.regs, h.spills, ?_, ?_, ?_, ?_, ?_⟩
  · rw [h.sites]
    have h9 := nk_sends g g.code 0 (by simp)
    rw [Nat.zero_add] at h9
    show (g.nk g.code.length).2 = _
    rw [h9]
    simp [GM.nk, GM.unit]
  · rw [h.enter]; rfl
  · have h9 : u.code.map Ii.er = g.parts.flatMap (·.1) := by rw [h.code]; show (g.parts.take g.code.length).flatMap _ = _; rw [hp]
    show _ = (g.parts.flatMap (·.1)).map Ii.er
    rw [← h9, List.map_map]
    rfl
  · rw [h.starts]
    show (startsL 0 (g.parts.map (·.1))).take g.code.length ++ [(((g.parts.take g.code.length).flatMap (·.1)).length : Int)] = startsL 0 (g.parts.map (·.1))
    rw [hp, ← hs2, hs]
  · rw [h.maps]
    show (g.parts.take g.code.length).map (·.2) = (g.parts.map fun q => (⟨none, q.2, 0⟩ : Mp)).map Mp.l
    rw [hp, List.map_map]
    rfl
theorem OwnS.frs {lo : Nat} {w w' : World} {S : List Nat} {a : Option Addr} {l : List Sr} {c : Nat} (h : OwnS lo w a l c) (hF : Fr S w w') (hS : ∀ b ∈ S, b < lo) : OwnS lo w' a l c :=
  ⟨h.1, h.2.imp id fun ⟨g, e, hl, hr⟩ => ⟨g, e, hl, hr.fr2 (fun hg => by have := hS g hg; omega) hF⟩⟩
theorem CapB.frs {w w' : World} {S : List Nat} {g N : Nat} (h : CapB w g N) (hn : g ∉ S) (hF : Fr S w w') : CapB w' g N :=
  let ⟨cur, T, f, hc, hs⟩ := h
  ⟨cur, T, f, hF.heap hn hc, hs⟩
theorem OwnU.frs {lo : Nat} {w w' : World} {S : List Nat} {u : Un} (h : OwnU lo w u) (hF : Fr S w w') (hS : ∀ b ∈ S, b < lo) : OwnU lo w' u := by
  have hn : ∀ g, lo ≤ g → g ∉ S := fun g hg hs => by have := hS g hs; omega
  refine ⟨⟨h.enter.1, ?_, fun i hi => (h.enter.2.2 i hi).frs hF hS⟩, ⟨h.code.1, ?_, fun i hi => (h.code.2.2 i hi).frs hF hS⟩, ⟨h.starts.1, ?_⟩, ⟨h.maps.1, ?_, fun i hi => (h.maps.2.2 i hi).frs hF hS⟩⟩
  · exact h.enter.2.1.imp id fun ⟨g, e, hl, hr, hc⟩ => ⟨g, e, hl, hr.fr2 (hn g hl) hF, hc.frs (hn g hl) hF⟩
  · exact h.code.2.1.imp id fun ⟨g, e, hl, hr, hc⟩ => ⟨g, e, hl, hr.fr2 (hn g hl) hF, hc.frs (hn g hl) hF⟩
  · exact h.starts.2.imp id fun ⟨g, e, hl, hr⟩ => ⟨g, e, hl, hr.fr2 (hn g hl) hF⟩
  · exact h.maps.2.1.imp id fun ⟨g, e, hl, hr⟩ => ⟨g, e, hl, hr.fr2 (hn g hl) hF⟩
/-- Returned: the document's unit, in new memory. -/
def UnitTo (m : Mth) (method : Int) (gb : Nat) (w : World) (e : Ending) (w' : World) : Prop := ∃ (v : Un) (lo : Nat), e = .returned v.v ∧ SameU ((gmOf m).unit method) v ∧ OwnU lo w' v ∧ w.heap.size ≤ lo ∧ Fr [gb] w w'
set_option maxRecDepth 100000 in
set_option maxHeartbeats 8000000 in
theorem gn_unitOf (κ : GK) (gb : Nat) (method : Int) (E : List Bool) (w : World) (hbox : w.heap[gb]? = some (.cells (gcells κ none 0 0 noU) 100 (0, 0))) (hm : κ.ma = none ∧ κ.mc = 0) (K : ∀ W, Fr [gb] w W → GKok κ W gb E) : Calls Tryz.prog 21 #[.pointer (some ⟨gb, 0, none⟩), .int .u64 method] w (UnitTo κ.m method gb w) := by
  have K0 := K w (Fr.refl _ _)
  have hcl : κ.m.code.length ≤ 128 := by have := K0.wf.len.2; simpa [gmOf] using this
  have htm := K0.wf.temps
  have hag := K0.wf.args
  have hst := K0.wf.stack
  have ht9 : (gmOf κ.m).temps = κ.m.temps := rfl
  have hs9 : (gmOf κ.m).stack = κ.m.stack := rfl
  have e1 : IntKind.i64.wrap (κ.m.temps + κ.m.stack) = κ.m.temps + κ.m.stack := IntWalk.i64_in _ (by omega)
  have HBE := Lib.hid (fun W2 => @unit_begun κ gb method w W2 hbox hm)
  have HK := Lib.hid K
  have HWF := Lib.hid K0.wf
  obtain ⟨n, hn⟩ : ∃ n, n = κ.m.code.length := ⟨_, rfl⟩
  have HN := Lib.hid hn
  unfold zUnit at HBE
  have hb1 := ((Fr.refl [] w).alloc (.cells #[.int .u64 0, .int .i64 0, .int .i64 0, .int .i64 0, .int .i64 0, .int .i64 0, .slice none 0 0, .slice none 0 0, .slice none 0 0, .slice none 0 0] 34)).heap (by simp) hbox
  unfold gcells noU at hbox hb1
  simp only [List.length_nil] at hbox hb1
  have x0 := cell_of_heap (o := 0) hb1 rfl; have x1 := cell_of_heap (o := 1) hb1 rfl; have x2 := cell_of_heap (o := 2) hb1 rfl; have x3 := cell_of_heap (o := 3) hb1 rfl; have x4 := cell_of_heap (o := 4) hb1 rfl; have x5 := cell_of_heap (o := 5) hb1 rfl; have x6 := cell_of_heap (o := 6) hb1 rfl; have x7 := cell_of_heap (o := 7) hb1 rfl; have x8 := cell_of_heap (o := 8) hb1 rfl; have x9 := cell_of_heap (o := 9) hb1 rfl; have x10 := cell_of_heap (o := 10) hb1 rfl; have x11 := cell_of_heap (o := 11) hb1 rfl; have x12 := cell_of_heap (o := 12) hb1 rfl; have x13 := cell_of_heap (o := 13) hb1 rfl; have x14 := cell_of_heap (o := 14) hb1 rfl; have x15 := cell_of_heap (o := 15) hb1 rfl; have x16 := cell_of_heap (o := 16) hb1 rfl; have x17 := cell_of_heap (o := 17) hb1 rfl; have x18 := cell_of_heap (o := 18) hb1 rfl
  have z0 := frozen_of_heap (o := 0) hb1; have z1 := frozen_of_heap (o := 1) hb1; have z2 := frozen_of_heap (o := 2) hb1; have z3 := frozen_of_heap (o := 3) hb1; have z4 := frozen_of_heap (o := 4) hb1; have z5 := frozen_of_heap (o := 5) hb1; have z6 := frozen_of_heap (o := 6) hb1; have z7 := frozen_of_heap (o := 7) hb1; have z8 := frozen_of_heap (o := 8) hb1; have z9 := frozen_of_heap (o := 9) hb1; have z10 := frozen_of_heap (o := 10) hb1; have z11 := frozen_of_heap (o := 11) hb1; have z12 := frozen_of_heap (o := 12) hb1; have z13 := frozen_of_heap (o := 13) hb1; have z14 := frozen_of_heap (o := 14) hb1; have z15 := frozen_of_heap (o := 15) hb1; have z16 := frozen_of_heap (o := 16) hb1; have z17 := frozen_of_heap (o := 17) hb1; have z18 := frozen_of_heap (o := 18) hb1
  have hgb1 := lt_of_heap hb1
  rw [← hn] at hcl
  clear K K0 hbox hb1 hm hn htm hag hst ht9 hs9
  go_enter Tryz.func21, Tryz.ntmps21
  go_wp2_with fail
  go_region
  obtain ⟨W2, hW2⟩ : ∃ W2, W2 = (((((((((((w.alloc (.cells #[.int .u64 0, .int .i64 0, .int .i64 0, .int .i64 0, .int .i64 0, .int .i64 0, .slice none 0 0, .slice none 0 0, .slice none 0 0, .slice none 0 0] 34)).setCell ⟨gb, 9, none⟩ (.int .u64 method)).setCell ⟨gb, 10, none⟩ (.int .i64 κ.m.args)).setCell ⟨gb, 11, none⟩ (.int .i64 κ.m.temps)).setCell ⟨gb, 12, none⟩ (.int .i64 (κ.m.temps + κ.m.stack))).setCell ⟨gb, 13, none⟩ (.int .i64 0)).setCell ⟨gb, 14, none⟩ (.int .i64 0)).setCell ⟨gb, 15, none⟩ (.slice none 0 0)).setCell ⟨gb, 16, none⟩ (.slice none 0 0)).setCell ⟨gb, 17, none⟩ (.slice none 0 0)).setCell ⟨gb, 18, none⟩ (.slice none 0 0)).drew := ⟨_, rfl⟩
  rw [← hW2]
  obtain ⟨hF2, hne, hr2, hG2⟩ := HBE.out W2 hW2
  have HF2 := Lib.hid hF2
  have HNE := Lib.hid hne
  have HSZ : Hid (w.heap.size < W2.heap.size) := Lib.hid (lt_of_heap hr2)
  have HG2 := Lib.hid hG2
  have HK2 := Lib.hid (HK.out W2 hF2)
  have p5 := hG2.rowCells.1
  rw [← HN.out] at p5
  have hgb2 := hG2.lt
  clear hW2 HBE x0 x1 x2 x3 x4 x5 x6 x7 x8 x9 x10 x11 x12 x13 x14 x15 x16 x17 x18 z0 z1 z2 z3 z4 z5 z6 z7 z8 z9 z10 z11 z12 z13 z14 z15 z16 z17 z18 hgb1 e1 hF2 hne hr2 hG2 HK
  obtain ⟨X0, hX0⟩ : ∃ X0, X0 = [(w.heap.size, Obj.cells #[.int .u64 0, .int .i64 0, .int .i64 0, .int .i64 0, .int .i64 0, .int .i64 0, .slice none 0 0, .slice none 0 0, .slice none 0 0, .slice none 0 0] 34 (0, 0))] := ⟨_, rfl⟩
  have HRX : Hid ((w.heap.size, Obj.cells #[.int .u64 0, .int .i64 0, .int .i64 0, .int .i64 0, .int .i64 0, .int .i64 0, .slice none 0 0, .slice none 0 0, .slice none 0 0, .slice none 0 0] 34 (0, 0)) ∈ X0) := Lib.hid (by rw [hX0]; exact List.mem_cons_self ..)
  rw [← hX0] at HG2
  clear hX0
  obtain ⟨i0, hi, hz0, hz1, hz2⟩ := info_parts infoInt
  obtain ⟨i1, hj, hy0, hy1, hy2⟩ := info_parts infoSrcs
  go_wp2_with fail
  go_loopw [38] (fun i wr => ∃ k : Nat, k ≤ n ∧ i = .int .i64 k ∧ ∃ ma mc na nc, Hid (GIs { κ with ma := ma, mc := mc } W2 gb X0 na nc ((gmOf κ.m).nk k).1 ((gmOf κ.m).gsAt method k) wr)) (fun i _ => n - (intOf i).toNat)
  case atStart => exact ⟨0, Nat.zero_le _, rfl, κ.ma, κ.mc, none, 0, HG2⟩
  case round =>
    obtain ⟨k, hk, rfl, ma, mc, na, nc, HKK⟩ := hrel
    have HSN : Hid (((gmOf κ.m).gsAt method k).starts.length ≤ 300) := Lib.hid (by show ((startsL 0 _).take k).length ≤ 300; rw [List.length_take]; omega)
    by_cases hlt : k < n
    · have hkm : k < κ.m.code.length := by rw [← HN.out]; exact hlt
      obtain ⟨i, hci⟩ : ∃ i, κ.m.code[k]? = some i := ⟨_, List.getElem?_eq_getElem hkm⟩
      have hgi := gm_at hci
      have k0 : (0 : Int) ≤ (k : Int) := by omega
      have k1 : (k : Int) < (n : Int) := by omega
      have HKM := Lib.hid hkm
      have HSU := Lib.hid (GM.gsAt_succ (method := method) hgi)
      have HCI := Lib.hid hci
      have HML : Hid (k = ((gmOf κ.m).gsAt method k).maps.length) := Lib.hid (by
        show k = (((gmOf κ.m).parts.take k).map (·.2)).length
        rw [List.length_map, List.length_take, GM.parts_length]
        simp only [gmOf, List.length_map]
        omega)
      obtain ⟨gd, od, hda, hd⟩ := depIdx HK2.out hkm
      have HDD := Lib.hid hd
      have HDA := Lib.hid hda
      have hdl := HK2.out.dl
      rw [← HN.out] at hdl
      have HDL := Lib.hid hdl
      obtain ⟨d, hdd⟩ : ∃ d, d = (gmOf κ.m).dep.getD k (-1) := ⟨_, rfl⟩
      rw [← hdd] at HDD
      have hon : (gmOf κ.m).on k ↔ 0 ≤ d := by unfold GM.on; rw [← hdd]
      clear hkm hci hgi hda hd hdl hdd
      go_upto_region 5 with (fail)
      refine Code.wp_mono (then_mono ?_) (unit_r5 HKK.out HSN.out)
      rintro a5 W5 ⟨v41, v42, v43, v44, v45, v46, v47, v48, v49, v50, v51, v52, v53, v54, v55, v56, v57, rfl, hG5⟩
      have HG5 := Lib.hid hG5
      clear hG5
      go_wp2_with fail
      refine Code.wp_mono (then_mono ?_) (unit_r6 (k := k) HG5.out HML.out (by omega) (fun W' hF => gn_enter_any (κ := { κ with ma := ma, mc := mc }) (HK2.out.mapsAt ma mc) HKM.out (HG5.out.fr0 hF) (fun h1 h2 => GM.nk_len HWF.out h1 h2)))
      rintro a6 W6 ⟨v58, v59, v60, v61, v62, v63, v64, v65, v66, v67, v68, v69, v70, v71, rfl, ma6, mc6, na6, nc6, hG6⟩
      have HG6 : Hid (GIs { κ with ma := ma6, mc := mc6 } W2 gb X0 na6 nc6 (if (gmOf κ.m).on k then (gmOf κ.m).N k else ((gmOf κ.m).nk k).1) (((gmOf κ.m).gsAt method k).come (if (gmOf κ.m).on k then tregs κ.m.temps ++ (gmOf κ.m).N k else [])) W6) := Lib.hid hG6
      have p6 := hG6.rowCells.2.1
      have p6' : W6.cell? ⟨gb, 6, none⟩ = some (.slice (some ⟨gd, od, none⟩) n κ.dc) := by rw [← HDA.out, ← HDL.out]; exact p6
      have cd := HDD.out W6 hG6.fr
      have hgd := World.block_lt_of_cell? W6 _ cd
      have hgb6 := hG6.lt
      clear hG6 p6 HG5
      by_cases hd0 : 0 ≤ d
      · have ho := hon.2 hd0
        have hdc : decide (0 ≤ d) = true := decide_eq_true hd0
        have HG7 : Hid (GIs { κ with ma := ma6, mc := mc6 } W2 gb X0 na6 nc6 ((gmOf κ.m).N k) (((gmOf κ.m).gsAt method k).come (tregs κ.m.temps ++ (gmOf κ.m).N k)) W6) := Lib.hid (by have h9 := HG6.out; rw [if_pos ho, if_pos ho] at h9; exact h9)
        have HSU2 : Hid ((gmOf κ.m).gsAt method (k + 1) = ((((gmOf κ.m).gsAt method k).come (tregs κ.m.temps ++ (gmOf κ.m).N k)).add ((gmOf κ.m).cd k ⟨i.op, i.a, i.b⟩).1).site (sitesN ⟨i.op, i.a, i.b⟩ ((gmOf κ.m).gsAt method k).sites)) := Lib.hid (by rw [HSU.out, if_pos ho]; rfl)
        have HNK : Hid (((gmOf κ.m).nk (k + 1)).1 = ((gmOf κ.m).cd k ⟨i.op, i.a, i.b⟩).2) := Lib.hid (by rw [GM.nk_on (gm_at HCI.out) ho])
        have HTR : Hid (∀ W', Fr [] W6 W' → Calls Tryz.prog 43 #[.pointer (some ⟨gb, 0, none⟩), .int .i64 k] W' (NoteTo { κ with ma := ma6, mc := mc6 } W2 gb X0 ((gmOf κ.m).cd k ⟨i.op, i.a, i.b⟩).2 (((((gmOf κ.m).gsAt method k).come (tregs κ.m.temps ++ (gmOf κ.m).N k)).add ((gmOf κ.m).cd k ⟨i.op, i.a, i.b⟩).1).site (sitesN ⟨i.op, i.a, i.b⟩ ((gmOf κ.m).gsAt method k).sites)))) := Lib.hid fun W' hF => gn_translate (κ := { κ with ma := ma6, mc := mc6 }) (HK2.out.mapsAt ma6 mc6) HCI.out ho (HG7.out.fr0 hF) (by
            have h9 := GM.code_le HWF.out k (by have := HKM.out; simp only [gmOf, List.length_map]; omega)
            show ((((gmOf κ.m).parts.take k).flatMap (·.1)).length) ≤ 40000
            omega) rfl (by
            have h9 := GM.nk_le (gmOf κ.m) k
            show 0 ≤ ((gmOf κ.m).nk k).2 ∧ ((gmOf κ.m).nk k).2 ≤ 1000
            omega)
        clear hon HSU HG6
        go_wp2_with (first
          | (go_at_call 40; refine (gn_isReached _ _).mono ?_; rintro e w7 ⟨rfl, rfl⟩)
          | (go_at_call 43; refine (HTR.out _ (Fr.refl _ _)).mono ?_; rintro e w8 ⟨rfl, na8, nc8, hG⟩; have HG8 := Lib.hid hG; clear hG))
        go_roundw
        case rel => exact ⟨k + 1, by omega, by go_num, ma6, mc6, na8, nc8, Lib.hid (by rw [HSU2.out, HNK.out]; exact HG8.out)⟩
        case measure => simp [intOf]; omega
      · have ho : ¬ (gmOf κ.m).on k := fun h => hd0 (hon.1 h)
        have hdc : decide (0 ≤ d) = false := decide_eq_false hd0
        have HG7 : Hid (GIs { κ with ma := ma6, mc := mc6 } W2 gb X0 na6 nc6 ((gmOf κ.m).nk (k + 1)).1 ((gmOf κ.m).gsAt method (k + 1)) W6) := Lib.hid (by have h9 := HG6.out; rw [if_neg ho, if_neg ho] at h9; rw [HSU.out, if_neg ho, GM.nk_off ho]; exact h9)
        clear hon HSU HG6
        go_wp2_with (go_at_call 40; refine (gn_isReached _ _).mono ?_; rintro e w7 ⟨rfl, rfl⟩)
        go_roundw
        case rel => exact ⟨k + 1, by omega, by go_num, ma6, mc6, na6, nc6, HG7⟩
        case measure => simp [intOf]; omega
    · have hke : k = n := by omega
      have hkd : ¬ (k : Int) < (n : Int) := by omega
      subst hke
      go_upto_region 10 with (fail)
      refine Code.wp_mono (then_mono ?_) (unit_r10 HKK.out HSN.out)
      rintro a5 W5 ⟨v84, v85, v86, v87, v88, v89, v90, v91, v92, v93, v94, v95, v96, v97, v98, v99, v100, rfl, hG5⟩
      obtain ⟨u, hA, hO⟩ := hG5
      have hsame : SameU ((gmOf κ.m).unit method) u := by
        refine unit_same ?_
        have hl : (gmOf κ.m).code.length = k := by rw [HN.out]; simp [gmOf]
        rw [hl]
        exact hO
      have hown := hA.ownU hO.ea hO.enter hO.ec
      have hbx := hA.box
      have hrb := (hA.keep _ HRX.out).1
      have hlo : w.heap.size < W2.heap.size := by
        exact HSZ.out
      have HUW := Lib.hid hown
      have HSM := Lib.hid hsame
      have HFA := Lib.hid hA.fr
      have HLO := Lib.hid hlo
      unfold gcells at hbx
      obtain ⟨method2, args, T, R, P, S, ea, en, ec, ca, co, cc, sa, st, sc, ma9, mp, mc9⟩ := u
      simp only at hbx
      generalize hg1 : en.length = el at hbx
      generalize hg2 : co.length = cl at hbx
      generalize hg3 : st.length = sl at hbx
      generalize hg4 : mp.length = ml at hbx
      have HGL := Lib.hid (And.intro hg1 (And.intro hg2 (And.intro hg3 hg4)))
      have b0 := cell_of_heap (o := 0) hbx rfl; have b1 := cell_of_heap (o := 1) hbx rfl; have b2 := cell_of_heap (o := 2) hbx rfl; have b3 := cell_of_heap (o := 3) hbx rfl; have b4 := cell_of_heap (o := 4) hbx rfl; have b5 := cell_of_heap (o := 5) hbx rfl; have b6 := cell_of_heap (o := 6) hbx rfl; have b7 := cell_of_heap (o := 7) hbx rfl; have b8 := cell_of_heap (o := 8) hbx rfl; have b9 := cell_of_heap (o := 9) hbx rfl; have b10 := cell_of_heap (o := 10) hbx rfl; have b11 := cell_of_heap (o := 11) hbx rfl; have b12 := cell_of_heap (o := 12) hbx rfl; have b13 := cell_of_heap (o := 13) hbx rfl; have b14 := cell_of_heap (o := 14) hbx rfl; have b15 := cell_of_heap (o := 15) hbx rfl; have b16 := cell_of_heap (o := 16) hbx rfl; have b17 := cell_of_heap (o := 17) hbx rfl; have b18 := cell_of_heap (o := 18) hbx rfl
      have r0 := cell_of_heap (o := 0) hrb rfl; have r1 := cell_of_heap (o := 1) hrb rfl; have r2 := cell_of_heap (o := 2) hrb rfl; have r3 := cell_of_heap (o := 3) hrb rfl; have r4 := cell_of_heap (o := 4) hrb rfl; have r5 := cell_of_heap (o := 5) hrb rfl; have r6 := cell_of_heap (o := 6) hrb rfl; have r7 := cell_of_heap (o := 7) hrb rfl; have r8 := cell_of_heap (o := 8) hrb rfl; have r9 := cell_of_heap (o := 9) hrb rfl
      have rz0 := frozen_of_heap (o := 0) hrb; have rz1 := frozen_of_heap (o := 1) hrb; have rz2 := frozen_of_heap (o := 2) hrb; have rz3 := frozen_of_heap (o := 3) hrb; have rz4 := frozen_of_heap (o := 4) hrb; have rz5 := frozen_of_heap (o := 5) hrb; have rz6 := frozen_of_heap (o := 6) hrb; have rz7 := frozen_of_heap (o := 7) hrb; have rz8 := frozen_of_heap (o := 8) hrb; have rz9 := frozen_of_heap (o := 9) hrb
      have hbl := lt_of_heap hbx
      have hrl := lt_of_heap hrb
      have HNE2 := HNE.out
      clear hA hO hsame hown hbx hrb hlo HKK HSN hg1 hg2 hg3 hg4 p5
      go_wp2_with fail
      refine bodyPost_ret (v := .agg #[.int .u64 method2, .int .i64 args, .int .i64 T, .int .i64 R, .int .i64 P, .int .i64 S, .slice ea el ec, .slice ca cl cc, .slice sa sl sc, .slice ma9 ml mc9]) (by simp [results, Tryz.results21, go_sem]; go_simp) rfl ?_
      refine ⟨⟨method2, args, T, R, P, S, ea, en, ec, ca, co, cc, sa, st, sc, ma9, mp, mc9⟩, W2.heap.size, ?_, HSM.out, HUW.out.frs (S := [w.heap.size]) (by repeat (first | (with_reducible exact Fr.refl _ _) | (with_reducible refine Fr.setCell ?_ (fun _ => by simp) _))) (fun b hb => by simp at hb; subst hb; exact HLO.out), HF2.out.size, ?_⟩
      · unfold Un.v
        simp only [HGL.out.1, HGL.out.2.1, HGL.out.2.2.1, HGL.out.2.2.2]
      · repeat (first | (with_reducible exact HF2.out.trans HFA.out) | (with_reducible refine Fr.setCell ?_ (fun h => absurd h (Nat.lt_irrefl _)) _))
end Go.Proofs.YtomcfjckhajhmabGreatDoor
