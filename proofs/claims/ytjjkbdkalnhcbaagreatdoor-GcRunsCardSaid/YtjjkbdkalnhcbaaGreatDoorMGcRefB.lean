/- The document's gc: the fields of one object that is kept, moved one after another. The document's gc: Run. -/
import Derived.Test.YtjjkbdkalnhcbaaGreatDoorMGcRefA
import Derived.Test.YtjjkbdkalnhcbaaGreatDoorMRLoads
import Derived.Test.YtjjkbdkalnhcbaaGreatDoorMRuns
namespace Go.Proofs.YtjjkbdkalnhcbaaGreatDoor
open Go.RowKit

/-- a part of a code, by the way to it -/
def codeAt : List Nat → Code → Code
  | 0 :: p, .seq x _ => codeAt p x
  | 1 :: p, .seq _ y => codeAt p y
  | 2 :: p, .block _ c => codeAt p c
  | 3 :: p, .loop c => codeAt p c
  | 4 :: p, .cond _ x _ => codeAt p x
  | 5 :: p, .cond _ _ y => codeAt p y
  | _, c => c
/-- a loop that is left by its own exit alone -/
theorem inBlock_mono {id : Nat} {R K : Act → World → Prop} {Q : Exit → Act → World → Prop} (hK : ∀ a w, R a w → K a w) : ∀ e a w, Exit.inBlock id (Exit.then R (fun _ _ _ => False)) e a w → Exit.inBlock id (Exit.then K Q) e a w := by
  intro e a w h
  cases e with
  | exit i =>
    simp only [Exit.inBlock] at h ⊢
    split at h
    · next e => rw [if_pos e]; exact hK a w h
    · exact h.elim
  | normal => exact hK a w h
  | _ => exact h.elim
set_option maxRecDepth 100000 in
set_option maxHeartbeats 8000000 in
theorem fields_at {w WD : World} {rb tb gl lc N xb j T : Nat} {c hh : Int} {f : Int → Int} {o : RO} (hFD : Fr [] w WD) (hxb : w.heap.size ≤ xb ∧ xb < WD.heap.size) (c1 : w.cell? ⟨rb, 1, none⟩ = some (.slice (some ⟨gl, 0, none⟩) N lc)) (hc : w.cell? ⟨gl, j, none⟩ = some (.pointer (some ⟨o.b, 0, none⟩))) (hAT : o.At w) (hjN : j < N) (_hN : N ≤ 65536) (hl : o.fs.length ≤ 65536)
    (hmv : ∀ W y, Fr [] w W → y ∈ o.fs → Calls Tryz.prog 41 #[.pointer (some ⟨rb, 0, none⟩), .slice (some ⟨tb, 0, none⟩) N N, .int .u64 y] W (Still (.int .u64 (f y)) W)) (hbx : WD.heap[xb]? = some (.cells #[.int .u64 c, .int .i64 hh, .slice none 0 0, .int .i64 T] 78 (0, 0))) {u1 u2 u3 u4 u5 u6 u7 u8 u10 u11 u12 u13 u17 u18 u19 u20 u21 u22 u23 u24 u25 u26 u27 u28 u29 u30 u31 u32 u33 u34 u35 u36 u37 u38 u39 u40 u41 u42 u43 u44 u45 u46 u47 u48 u49 u50 u51 u52 u53 u54 u55 u56 u57 u58 u59 u60 u61 u62 u63 u64 u65 u66 u67 u68 u69 u70 u71 u72 u73 u74 u75 u76 u77 u78 u79 u80 u81 u82 u83 u84 u85 u86 u87 u88 u89 u90 u91 u92 u93 u94 u95 u96 u97 u98 u99 u100 u101 u102 u103 u104 u105 u106 u107 u108 u109 u110 u111 u112 u113 u114 u115 u116 u117 u118 u119 u120 u121 u122 u123 u124 u125 u126 u127 u128 u129 u130 u131 u132 u133 u134 u135 u136 u137 u138 u139 u140 u141 u142 u143 u144 u145 u146 u147 u148 u149 u150 u151 u152 u153 u154 u155 u156 u157 u158 u159 u160 u161 u162 u163 u164 u165 u166 u167 u168 u169 u170 u171 u172 u173 u174 u175 u176 u177 u178 u179 u180 u181 u182 u183 u184 u185 u186 u187 u188 u189 u190 u191 u192 u193 u194 u195 u196 u197 u198 u199 : Value} :
    Code.wp Tryz.prog (codeAt [1, 1, 1, 1, 1, 1, 1, 1, 1, 0, 1, 2, 3, 1, 0, 2, 1, 1, 0, 1, 2] (Tryz.f11.body.getD .skip)) (Exit.inBlock 6 (Exit.then (fun a' w' => ∃ v16 v120 v121 v122 v123 v124 v125 v126 v127 v128 v129 v130 v131 v132 v133 v134 v135 v136 v137 v138 v139 v140 v141 v142 v143 v144 v145 v146 v147 v148 v149 v150 v151 v152 v153 v154 v155 v156 v157 v158 v159 fv, a' = ⟨List.toArray ((.pointer (some ⟨rb, 0, none⟩)) :: u1 :: u2 :: u3 :: u4 :: u5 :: u6 :: u7 :: u8 :: (.slice (some ⟨tb, 0, none⟩) N N) :: u10 :: u11 :: u12 :: u13 :: (.int .i64 (j : Int)) :: (.pointer (some ⟨xb, 0, none⟩)) :: v16 :: u17 :: u18 :: u19 :: u20 :: u21 :: u22 :: u23 :: u24 :: u25 :: u26 :: u27 :: u28 :: u29 :: u30 :: u31 :: u32 :: u33 :: u34 :: u35 :: u36 :: u37 :: u38 :: u39 :: u40 :: u41 :: u42 :: u43 :: u44 :: u45 :: u46 :: u47 :: u48 :: u49 :: u50 :: u51 :: u52 :: u53 :: u54 :: u55 :: u56 :: u57 :: u58 :: u59 :: u60 :: u61 :: u62 :: u63 :: u64 :: u65 :: u66 :: u67 :: u68 :: u69 :: u70 :: u71 :: u72 :: u73 :: u74 :: u75 :: u76 :: u77 :: u78 :: u79 :: u80 :: u81 :: u82 :: u83 :: u84 :: u85 :: u86 :: u87 :: u88 :: u89 :: u90 :: u91 :: u92 :: u93 :: u94 :: u95 :: u96 :: u97 :: u98 :: u99 :: u100 :: u101 :: u102 :: u103 :: u104 :: u105 :: u106 :: u107 :: u108 :: u109 :: u110 :: u111 :: u112 :: u113 :: u114 :: u115 :: u116 :: u117 :: u118 :: u119 :: v120 :: v121 :: v122 :: v123 :: v124 :: v125 :: v126 :: v127 :: v128 :: v129 :: v130 :: v131 :: v132 :: v133 :: v134 :: v135 :: v136 :: v137 :: v138 :: v139 :: v140 :: v141 :: v142 :: v143 :: v144 :: v145 :: v146 :: v147 :: v148 :: v149 :: v150 :: v151 :: v152 :: v153 :: v154 :: v155 :: v156 :: v157 :: v158 :: v159 :: u160 :: u161 :: u162 :: u163 :: u164 :: u165 :: u166 :: u167 :: u168 :: u169 :: u170 :: u171 :: u172 :: u173 :: u174 :: u175 :: u176 :: u177 :: u178 :: u179 :: u180 :: u181 :: u182 :: u183 :: u184 :: u185 :: u186 :: u187 :: u188 :: u189 :: u190 :: u191 :: u192 :: u193 :: u194 :: u195 :: u196 :: u197 :: u198 :: u199 :: []), []⟩ ∧ Hid (GFld WD xb c hh T o.fs.length fv (o.fs.map f) w')) (fun _ _ _ => False))) ⟨List.toArray ((.pointer (some ⟨rb, 0, none⟩)) :: u1 :: u2 :: u3 :: u4 :: u5 :: u6 :: u7 :: u8 :: (.slice (some ⟨tb, 0, none⟩) N N) :: u10 :: u11 :: u12 :: u13 :: (.int .i64 (j : Int)) :: (.pointer (some ⟨xb, 0, none⟩)) :: (.int .i64 0) :: u17 :: u18 :: u19 :: u20 :: u21 :: u22 :: u23 :: u24 :: u25 :: u26 :: u27 :: u28 :: u29 :: u30 :: u31 :: u32 :: u33 :: u34 :: u35 :: u36 :: u37 :: u38 :: u39 :: u40 :: u41 :: u42 :: u43 :: u44 :: u45 :: u46 :: u47 :: u48 :: u49 :: u50 :: u51 :: u52 :: u53 :: u54 :: u55 :: u56 :: u57 :: u58 :: u59 :: u60 :: u61 :: u62 :: u63 :: u64 :: u65 :: u66 :: u67 :: u68 :: u69 :: u70 :: u71 :: u72 :: u73 :: u74 :: u75 :: u76 :: u77 :: u78 :: u79 :: u80 :: u81 :: u82 :: u83 :: u84 :: u85 :: u86 :: u87 :: u88 :: u89 :: u90 :: u91 :: u92 :: u93 :: u94 :: u95 :: u96 :: u97 :: u98 :: u99 :: u100 :: u101 :: u102 :: u103 :: u104 :: u105 :: u106 :: u107 :: u108 :: u109 :: u110 :: u111 :: u112 :: u113 :: u114 :: u115 :: u116 :: u117 :: u118 :: u119 :: u120 :: u121 :: u122 :: u123 :: u124 :: u125 :: u126 :: u127 :: u128 :: u129 :: u130 :: u131 :: u132 :: u133 :: u134 :: u135 :: u136 :: u137 :: u138 :: u139 :: u140 :: u141 :: u142 :: u143 :: u144 :: u145 :: u146 :: u147 :: u148 :: u149 :: u150 :: u151 :: u152 :: u153 :: u154 :: u155 :: u156 :: u157 :: u158 :: u159 :: u160 :: u161 :: u162 :: u163 :: u164 :: u165 :: u166 :: u167 :: u168 :: u169 :: u170 :: u171 :: u172 :: u173 :: u174 :: u175 :: u176 :: u177 :: u178 :: u179 :: u180 :: u181 :: u182 :: u183 :: u184 :: u185 :: u186 :: u187 :: u188 :: u189 :: u190 :: u191 :: u192 :: u193 :: u194 :: u195 :: u196 :: u197 :: u198 :: u199 :: []), []⟩ WD := by
  obtain ⟨i1, hi1, hy0, hy1, hy2⟩ := info_parts infoWord
  obtain ⟨fa, fc, hfv⟩ := row_shape hAT.row
  have HFD0 := Lib.hid hFD
  have HMV := Lib.hid hmv
  have HAT := Lib.hid hAT
  have HBX := Lib.hid hbx
  have HXB := Lib.hid hxb
  have k0 : (0 : Int) ≤ (j : Int) := by omega
  have k1 : (j : Int) < (N : Int) := by omega
  clear hmv hFD hbx hAT hxb
  show Code.wp Tryz.prog (.loop _) _ _ _
  go_loopw [16] (fun iv wr => ∃ (i : Nat) (fv : Value), i ≤ o.fs.length ∧ iv = .int .i64 i ∧ Hid (GFld WD xb c hh T i fv ((o.fs.take i).map f) wr)) (fun iv _ => o.fs.length - (intOf iv).toNat)
  case atStart => exact ⟨0, .slice none 0 0, Nat.zero_le _, rfl, ⟨HBX.out, World.ownsRow_nil _ _ _ _, (fun _ h => by cases h), Fr.refl _ _⟩⟩
  case round =>
    obtain ⟨i, fv, hi, rfl, hG⟩ := hrel
    obtain ⟨go, gc, rfl⟩ := row_shape hG.out.row
    have HFD : Hid (Fr [] w wr) := Lib.hid (HFD0.out.trans' hG.out.fr (fun _ _ e => e) (fun q hq e => by simp at e; have := HXB.out.1; omega))
    have c14 := HFD.out.cell (by simp) c1
    have d14 := HFD.out.cell (by simp) hc
    have f24 : wr.cell? ⟨o.b, 2, none⟩ = some (.slice fa o.fs.length fc) := by rw [← hfv]; exact cell_of_heap (HFD.out.heap (by simp) HAT.out.cells) rfl
    have q2 := cell_of_heap (o := 2) hG.out.box rfl
    have z2 := frozen_of_heap (o := 2) hG.out.box
    by_cases hif : i < o.fs.length
    · obtain ⟨y, hy⟩ : ∃ y, o.fs[i]? = some y := ⟨_, List.getElem?_eq_getElem hif⟩
      obtain ⟨gf, cf, ef, hcf, -, -⟩ := row_at HAT.out.row (i := i) hif
      rw [hfv] at ef
      cases ef
      rw [List.getElem?_map, hy] at hcf
      have g4 := HFD.out.cell (by simp) hcf
      have HY := Lib.hid hy
      have u0 : (0 : Int) ≤ (i : Int) := by omega
      have u1 : (i : Int) < (o.fs.length : Int) := by omega
      have hmy := fun W hF => HMV.out W y hF (List.mem_of_getElem? hy)
      clear hy hcf
      have HTK : Hid (((o.fs.take (i + 1)).map f) = ((o.fs.take i).map f) ++ [f y]) := Lib.hid (by rw [List.take_add_one, HY.out]; simp)
      have hmx : i + 1 ≤ maxLen := by unfold maxLen; omega
      have hi5 : i ≤ 65536 := by omega
      go_wp2_with fail
      go_region_law (first
        | (go_simp; go_at_call 41; refine (hmy _ (by first | exact HFD.out.drew | exact HFD.out.drew.drew | exact HFD.out)).mono ?_; rintro e w9 ⟨rfl, hF⟩; have HFx : Hid (Fr [] wr w9) := (by first | exact Lib.hid ((Fr.refl _ _).drew.drew.trans hF) | exact Lib.hid ((Fr.refl _ _).drew.trans hF) | exact Lib.hid hF); have k2 : w9.cell? ⟨xb, 2, none⟩ = some (.slice go i gc) := HFx.out.cell (by simp) q2; have k2l : xb < w9.heap.size := Nat.lt_of_lt_of_le (lt_of_heap hG.out.box) HFx.out.size; clear hF)
        | (refine step_append_lies _ (by rfl) _ _ _ (by rfl) 0 24 i1 _ 1 8 Tryz.underlying25 hi1 hy0 hy1 hy2 rfl (by omega) (.slice go i gc) i (((o.fs.take i).map f).map (Value.int .u64)) (by rfl) ((HFx.out.alloc _).row hG.out.row (fun _ _ => by simp)) ⟨w9.heap.size, 0, none⟩ 1 1 [.int .u64 (f y)] (by rfl) (by rfl) (World.news_of_block (cs := #[.int .u64 (f y)]) (t := 24) (fr := (0, 0)) (heap_alloc_new w9 _)) (by simp [Value.oneCell']) (by omega) hmx (by omega) (Nat.zero_le _) (w9.heap.size + 1) (by simp) ?_; intro gg cq w5 hown1 hgrow hat hlt1; have HG5 := Lib.hid (hG.out.grown HXB.out.2 (HFx.out.alloc _) hgrow); have s5 := cell_of_heap (o := 2) HG5.out.2 rfl; have t5 := frozen_of_heap (o := 2) HG5.out.2; have HST := Lib.hid (hG.out.step HXB.out.2 (HFx.out.alloc _) hown1 hgrow (hat.imp (fun h => by rw [h]; simp [Value.ownBlock]) (fun h => by rw [h]; simp [Value.ownBlock]))); clear hown1 hgrow hat))
      all_goals (go_wp2_with fail)
      all_goals go_roundw
      all_goals first
        | exact ⟨i + 1, _, by omega, by go_num, Lib.hid (by rw [HTK.out]; exact HST.out)⟩
        | (simp [intOf]; omega)
    · have hie : i = o.fs.length := by omega
      have hkd3 : decide ((i : Int) < (o.fs.length : Int)) = false := by simp; omega
      have HGE : Hid (GFld WD xb c hh T o.fs.length (.slice go i gc) (o.fs.map f) wr) := Lib.hid (by have h := hG.out; rw [hie, List.take_length] at h; rw [hie]; exact h)
      clear hie hG
      go_wp2_with fail
      (repeat apply Exists.intro)
      exact ⟨rfl, HGE⟩
end Go.Proofs.YtjjkbdkalnhcbaaGreatDoor
namespace Go.Proofs.YtjjkbdkalnhcbaaGreatDoor
open Go.RowKit

theorem infoIl : (Tryz.prog.info? 3).map (fun i => (i.zero, i.size, i.bytes)) = some (some (.int .i64 0), 1, 8) := by kernel_rfl
theorem makeIl (n : Nat) (h2 : n ≤ 65536) (W : World) : (Instr.makeSlice 86 (.int .i64 (n : Int)) (.int .i64 (n : Int))).run Tryz.prog W = .ok (.slice (some ⟨W.heap.size, 0, none⟩) n n) (W.alloc (.cells (List.replicate n (Value.int .i64 0)).toArray 3)) := by
  obtain ⟨i0, hi, hz0, hz1, hz2⟩ := info_parts infoIl
  have hr := run_make (P := Tryz.prog) W 86 3 i0 (.int .i64 0) Tryz.underlying86 hi hz0 .i64 .i64 n n (by omega) (by omega) (by rw [hz2]; omega) (by omega)
  simp only [Int.toNat_natCast, hz1, Nat.mul_one] at hr
  rw [made_ones _ _ rfl] at hr
  exact hr
theorem agree_small {l : List RO} {os : List Ob} {p : Nat} (h : RAgree p l os) (hp : 1 ≤ p) : ∀ o ∈ l, 1 ≤ o.pos ∧ o.pos + 3 + o.fs.length ≤ p + (flatW os).length := by
  induction l generalizing p os with
  | nil => intro o ho; cases ho
  | cons r l ih =>
    cases os with
    | nil => exact h.elim
    | cons a os =>
      have hfs : r.fs.length = a.2.2.length := by have := h.1; rw [← this]; rfl
      have hfl : (flatW (a :: os)).length = 3 + a.2.2.length + (flatW os).length := by simp [flatW, wordsOb]; omega
      intro o ho
      rcases List.mem_cons.1 ho with rfl | ho
      · have := h.2.1
        omega
      · have := ih h.2.2 (by omega) o ho
        omega
/-- what is kept, laid in the heap -/
theorem KeepsL.ref {W2 W W' : World} {kp : Int → Bool} {f : Int → Int} {os : List Ob} {v : Value} {ls : List RO} (h : KeepsL W2 kp f os os.length v ls W) (hl : os.length ≤ 65536) (he : endOf os ≤ 65536) {rb : Nat} {n root last : Int} (hrb : rb < W2.heap.size) (hF : Fr [rb] W W') (hh : W'.heap[rb]? = some (.cells #[.int .i64 n, v, .int .u64 root, .int .i64 last] 49 (0, 0))) :
    RefAt W' rb ⟨n, ls, root, last⟩ v ∧ RAgree 1 ls ((keepL kp 1 os).map (moveOb f)) ∧ ∀ k ∈ rfoot rb ⟨n, ls, root, last⟩ v, k = rb ∨ W2.heap.size ≤ k := by
  have ha : RAgree 1 ls ((keepL kp 1 os).map (moveOb f)) := by have := h.agr; rwa [List.take_length] at this
  have hlen : ls.length ≤ os.length := by rw [ha.len, List.length_map]; exact (keepL_sub kp 1 os).length_le
  have hend : endOf ((keepL kp 1 os).map (moveOb f)) ≤ endOf os := by
    have := keep_end_le kp os os.length
    rw [List.take_length] at this
    unfold endOf at this ⊢
    rw [flatW_map]
    exact this
  refine ⟨⟨hh, hF.row h.row (fun k hk => by have := h.lnew k hk; simp; omega), fun o ho => (h.objs o ho).fr hF (by have := (h.new o ho).1; simp; omega) (fun k hk => by have := (h.new o ho).2 k hk; simp; omega), h.apart, by show ls.length ≤ 65536; omega, fun o ho => ?_⟩, ha, fun k hk => ?_⟩
  · have := agree_small ha (Nat.le_refl _) o ho
    unfold endOf at hend he
    omega
  · simp only [rfoot, List.mem_cons, List.mem_append, List.mem_flatMap, Option.mem_toList, RO.blocks] at hk
    rcases hk with rfl | hk | ⟨o, ho, rfl | hk⟩
    · exact .inl rfl
    · exact .inr (h.lnew k hk)
    · exact .inr (h.new o ho).1
    · exact .inr ((h.new o ho).2 k hk)
def Ran3 (rb : Nat) (r : RH) (os : List Ob) (roots : List Int) (w : World) (e : Ending) (w' : World) : Prop := ∃ va vc ls v, e = .returned (.tuple #[.slice va roots.length vc, .int .i64 ((endOf os : Int) - (endOf (leftObs (keepR os (r.root :: roots)) os) : Int)), .int .i64 0]) ∧ w'.ownsRow 0 24 1 (.slice va roots.length vc) roots.length ((roots.map (moveW (keepR os (r.root :: roots)) os)).map (Value.int .u64)) ∧ RefAt w' rb ⟨r.n, ls, moveW (keepR os (r.root :: roots)) os r.root, r.last⟩ v ∧ RAgree 1 ls (leftObs (keepR os (r.root :: roots)) os) ∧ (∀ k ∈ rfoot rb ⟨r.n, ls, moveW (keepR os (r.root :: roots)) os r.root, r.last⟩ v, k = rb ∨ w.heap.size ≤ k) ∧ Fr [rb] w w'
set_option maxRecDepth 100000 in
set_option maxHeartbeats 8000000 in
theorem run3_at {w : World} {rb : Nat} {r : RH} {lv : Value} {os : List Ob} (h : RefAt w rb r lv) (ha : RAgree 1 r.l os) (hroot : WB r.root) (hob : ∀ o ∈ os, ObB o) {ra : Option Addr} {rc : Nat} (roots : List Int) (hx : WordsAt w ra roots) (hB : ∀ x ∈ roots, WB x) (hl : roots.length ≤ 17592186044416) (he : endOf os ≤ 65536) (hall : ∀ x ∈ roots, mayR r.l x = true) :
    Calls Tryz.prog 11 #[.pointer (some ⟨rb, 0, none⟩), .slice ra roots.length rc] w (Ran3 rb r os roots w) := by
  obtain ⟨lo, lc, hlv⟩ := row_shape h.row
  have hlen := ha.len
  have H := Lib.hid h
  have HA := Lib.hid ha
  have HX := Lib.hid hx
  have HB := Lib.hid hB
  have HAL := Lib.hid hall
  have HRE : Hid (∀ W, Fr [] w W → Calls Tryz.prog 40 #[.pointer (some ⟨rb, 0, none⟩), .slice ra roots.length rc] W (fun e w' => ∃ ob cap, e = .returned (.slice (some ⟨ob, 0, none⟩) os.length cap) ∧ OutAt w' ob (keepB os (r.root :: roots)) ∧ W.heap.size ≤ ob ∧ Fr [] W w')) := Lib.hid fun W hF => reached_at (h.fr hF (fun _ _ => by simp)) ha hroot hob roots (hx.fr hF (fun _ _ => by simp)) hB hl he
  have HMY : Hid (∀ W x, Fr [] w W → WB x → Calls Tryz.prog 39 #[.pointer (some ⟨rb, 0, none⟩), .int .u64 x] W (Gives (.bool (mayR r.l x)) W)) := Lib.hid fun W x hF hx => rmay (h.fr hF (fun _ _ => by simp)) x hx.1 hx.2
  have HROW : Hid (∀ (k : Nat) (o : RO), r.l[k]? = some o → ∃ gl, lo = some ⟨gl, 0, none⟩ ∧ w.cell? ⟨gl, k, none⟩ = some (.pointer (some ⟨o.b, 0, none⟩))) := Lib.hid (by
    intro k o hk
    obtain ⟨gl, cl, e, hc, -, -⟩ := row_at h.row (i := k) (List.getElem?_eq_some_iff.1 hk).1
    rw [hlv] at e
    cases e
    exact ⟨gl, rfl, by rw [hc, List.getElem?_map, hk]; rfl⟩)
  have HHIT : Hid (∀ (i : Nat) (o : RO), r.l[i]? = some o → os[i]? = some o.ob) := Lib.hid fun i o ho => (find_hit ha h.small ho).2.1
  have HE := Lib.hid he
  have HOB0 := Lib.hid hob
  have HRT := Lib.hid hroot
  have HFL0 : Hid (∀ o ∈ r.l, o.fs.length ≤ 65536) := Lib.hid fun o ho => by have := (h.small o ho).2; omega
  obtain ⟨i1, hi1, hy0, hy1, hy2⟩ := info_parts infoWord
  have HLEN := Lib.hid hlen
  have c1 : w.cell? ⟨rb, 1, none⟩ = some lv := cell_of_heap h.heap rfl
  have c2 : w.cell? ⟨rb, 2, none⟩ = some (.int .u64 r.root) := cell_of_heap h.heap rfl
  rw [hlv, hlen] at c1
  have hrb : rb < w.heap.size := lt_of_heap h.heap
  have hN : os.length ≤ 65536 := by rw [← hlen]; exact h.most
  obtain ⟨N, hNN⟩ : ∃ N, N = os.length := ⟨_, rfl⟩
  obtain ⟨R, hRR⟩ : ∃ R, R = roots.length := ⟨_, rfl⟩
  have HN := Lib.hid hNN
  have HR := Lib.hid hRR
  have HLV := Lib.hid hlv
  rw [← hNN] at c1 hN HRE
  have HMK := makeIl N hN
  rw [← hRR] at hl HRE ⊢
  clear h ha hx hB he hob hroot hlv hlen hNN hRR hall
  go_enter Tryz.func11, Tryz.ntmps11
  go_wp2_with fail
  go_loopw [7] (fun iv wr => ∃ k : Nat, k ≤ R ∧ iv = .int .i64 k ∧ Hid (Fr [] w wr)) (fun iv _ => R - (intOf iv).toNat)
  case atStart => exact ⟨0, Nat.zero_le _, rfl, Fr.refl _ _⟩
  case round =>
    obtain ⟨k, hk, rfl, hF⟩ := hrel
    by_cases hlt : k < R
    · obtain ⟨x, hx⟩ : ∃ x, roots[k]? = some x := ⟨_, List.getElem?_eq_getElem (by rw [← HR.out]; exact hlt)⟩
      obtain ⟨g, o, rfl, hc⟩ := HX.out k x hx
      have hc' := hF.out.cell (by simp) hc
      have k0 : (0 : Int) ≤ (k : Int) := by omega
      have k1 : (k : Int) < (R : Int) := by omega
      have hmy := HMY.out wr x hF.out (HB.out x (List.mem_of_getElem? hx))
      rw [HAL.out x (List.mem_of_getElem? hx)] at hmy
      clear hc hx
      go_wp2_with (go_at_call 39; refine hmy.mono ?_; rintro e w' ⟨rfl, rfl⟩)
      go_roundw
      case rel => exact ⟨k + 1, by omega, by go_num, hF⟩
      case measure => simp [intOf]; omega
    · have hkd : decide ((k : Int) < (R : Int)) = false := by simp; omega
      have HRE1 := HRE.out wr hF.out
      go_wp2_with fail
      refine HRE1.mono ?_
      rintro e w1 ⟨ob, ocap, rfl, hO1, hob1, hF1⟩
      have HO1 := Lib.hid hO1
      have HF1 := Lib.hid (hF.out.trans hF1)
      have HOB1 : Hid (w.heap.size ≤ ob) := Lib.hid (Nat.le_trans hF.out.size hob1)
      have c1' := HF1.out.cell (by simp) c1
      clear hO1 hF1 hob1 HRE1
      obtain ⟨kp, hkp⟩ : ∃ kp, kp = keepR os (r.root :: roots) := ⟨_, rfl⟩
      have HKP := Lib.hid hkp
      have HKB : Hid (∀ i, i < os.length → (keepB os (r.root :: roots))[i]? = some (kp (refI os i))) := Lib.hid (fun i hi => by rw [hkp]; simp [keepB, hi])
      have HT0 : Hid (ToAt (w1.alloc (.cells (Array.replicate N (Value.int .i64 0)) 3)) w1.heap.size (toK kp os 0)) := by
        show _ = _
        rw [heap_new, toK_zero, ← HN.out]
        simp
      have HW1 : Hid (w.heap.size ≤ w1.heap.size) := Lib.hid HF1.out.size
      have hobl : ob < w1.heap.size := lt_of_heap HO1.out
      clear hkp
      go_wp2_with fail
      go_loopw [10, 11] (fun av iv wr => ∃ k q : Nat, k ≤ N ∧ iv = .int .i64 k ∧ av = .int .i64 q ∧ Hid (q = endOf (keepL kp 1 (os.take k))) ∧ Hid (ToAt wr w1.heap.size (toK kp os k)) ∧ Hid (OutAt wr ob (keepB os (r.root :: roots))) ∧ Hid (Fr [] w wr)) (fun _ iv _ => N - (intOf iv).toNat)
      case atStart => exact ⟨0, 1, Nat.zero_le _, rfl, rfl, Lib.hid (by simp [keepL, endOf, flatW]), HT0, Lib.hid (HO1.out.fr ((Fr.refl [] _).alloc _) (by simp)), Lib.hid (HF1.out.alloc _)⟩
      case round =>
        obtain ⟨k, q, hk, rfl, rfl, hq, hT, hO, hF2⟩ := hrel
        have c1'' := hF2.out.cell (by simp) c1
        by_cases hlt : k < N
        · have hkl : k < r.l.length := by rw [HLEN.out, ← HN.out]; exact hlt
          obtain ⟨o, ho⟩ : ∃ o, r.l[k]? = some o := ⟨_, List.getElem?_eq_getElem hkl⟩
          obtain ⟨gl, rfl, hc⟩ := HROW.out k o ho
          have d1 := hF2.out.cell (by simp) hc
          have hob := HHIT.out k o ho
          have k0 : (0 : Int) ≤ (k : Int) := by omega
          have k1 : (k : Int) < (N : Int) := by omega
          have hkos : k < os.length := by rw [← HN.out]; exact hlt
          have d2 := hO.out.cell (HKB.out k hkos)
          have hAT := H.out.objs o (List.mem_of_getElem? ho)
          have f2 : wr.cell? ⟨o.b, 2, none⟩ = some o.fv := cell_of_heap (hF2.out.heap (by simp) hAT.cells) rfl
          obtain ⟨fa, fc, hfv⟩ := row_shape hAT.row
          rw [hfv] at f2
          have hbl : o.b < w.heap.size := lt_of_heap hAT.cells
          have hbn : o.b ≠ w1.heap.size := by have := HW1.out; omega
          have hrn : rb ≠ w1.heap.size := by have := HW1.out; omega
          have hgn : gl ≠ w1.heap.size := by have := World.block_lt_of_cell? w _ hc; simp at this; have := HW1.out; omega
          have hty : wr.cell? ⟨w1.heap.size, k, none⟩ = some (.int .i64 _) := hT.out.cell (toK_at hkos)
          have hfz := frozen_of_heap (o := k) hT.out
          have hql : q ≤ 65536 := by rw [hq.out]; exact Nat.le_trans (keep_end_le kp os k) HE.out
          have hfl : o.fs.length ≤ 65536 := by have := (H.out.small o (List.mem_of_getElem? ho)).2; omega
          have hnx := keepL_len kp hob
          cases hkv : kp (refI os k)
          · rw [hkv] at d2 hnx
            have HTS : Hid (toK kp os (k + 1) = toK kp os k) := Lib.hid (toK_skip hkv)
            have HNX : Hid (q = endOf (keepL kp 1 (os.take (k + 1)))) := Lib.hid (by rw [hnx, hq.out]; simp)
            clear hkl ho hc hob hAT hfv hnx hkv
            go_wp2_with fail
            go_roundw
            case rel => exact ⟨k + 1, q, by omega, by go_num, rfl, HNX, Lib.hid (by rw [HTS.out]; exact hT.out), hO, hF2⟩
            case measure => simp [intOf]; omega
          · rw [hkv] at d2 hnx
            have HTS : Hid (ToAt (wr.setCell ⟨w1.heap.size, k, none⟩ (.int .i64 q)) w1.heap.size (toK kp os (k + 1))) := Lib.hid (by
              rw [toK_set hkos hkv, ← hq.out]
              exact hT.out.set k q)
            have HNX : Hid (q + 3 + o.fs.length = endOf (keepL kp 1 (os.take (k + 1)))) := Lib.hid (by
              rw [hnx, ← hq.out, if_pos rfl]
              show q + 3 + o.fs.length = q + (3 + o.ob.2.2.length)
              have : o.ob.2.2.length = o.fs.length := rfl
              omega)
            have HFS : Hid (Fr [w1.heap.size] wr (wr.setCell ⟨w1.heap.size, k, none⟩ (.int .i64 q))) := Lib.hid ((Fr.refl _ _).setCell (fun _ => by simp) _)
            have HF3 : Hid (Fr [] w (wr.setCell ⟨w1.heap.size, k, none⟩ (.int .i64 q))) := Lib.hid (hF2.out.trans' HFS.out (fun _ _ e => e) (fun j hj e => by simp at e; have := HW1.out; omega))
            have HO3 := Lib.hid (hO.out.fr HFS.out (by simp; omega))
            clear hkl ho hc hob hAT hfv hnx hkv
            go_wp2_with fail
            go_roundw
            case rel => exact ⟨k + 1, q + 3 + o.fs.length, by omega, by go_num, by go_num, HNX, HTS, HO3, HF3⟩
            case measure => simp [intOf]; omega
        · have hke : k = N := by omega
          have hkd2 : decide ((k : Int) < (N : Int)) = false := by simp; omega
          have HKE := Lib.hid hke
          clear hke
          have HUS := rused (H.out.fr hF2.out (fun _ _ => by simp))
          have HTN : Hid (ToAt wr w1.heap.size (toK kp os os.length)) := by have h := hT.out; rw [HKE.out, HN.out] at h; exact h
          go_wp2_with fail
          refine HUS.mono ?_
          rintro e w2' ⟨rfl, m, rfl⟩
          obtain ⟨W2, hW2⟩ : ∃ W2, W2 = wr.drewN m := ⟨_, rfl⟩
          have HF2 : Hid (Fr [] w W2) := Lib.hid (by rw [hW2]; exact hF2.out.drewN _)
          have HT2 : Hid (ToAt W2 w1.heap.size (toK kp os os.length)) := Lib.hid (by rw [hW2]; exact HTN.out)
          have HO2 : Hid (OutAt W2 ob (keepB os (r.root :: roots))) := Lib.hid (by rw [hW2]; exact hO.out)
          rw [← hW2]
          clear hW2 HUS hT HTN hO
          have HUE : Hid (usedR r.l = endOf os) := Lib.hid (agree_used HA.out)
          have hTB : ∀ x ∈ toK kp os os.length, 0 ≤ x ∧ x ≤ 65536 := fun x hx => by
            unfold toK at hx
            obtain ⟨i, hi, rfl⟩ := List.mem_map.1 hx
            split
            · have := keep_end_le kp os i
              have := HE.out
              omega
            · omega
          have HMV : Hid (∀ W x, Fr [] W2 W → WB x → Calls Tryz.prog 41 #[.pointer (some ⟨rb, 0, none⟩), .slice (some ⟨w1.heap.size, 0, none⟩) N N, .int .u64 x] W (Still (.int .u64 (movedV os (toK kp os os.length) x)) W)) := Lib.hid (by
            intro W x hF hx
            have := moved3_at (cap := N) (H.out.fr (HF2.out.trans hF) (fun _ _ => by simp)) HA.out (HT2.out.fr hF (by simp)) (toK_len kp os _) hTB x hx
            rw [← HN.out] at this ⊢
            exact this)
          have HCL : Hid (∀ k a, os[k]? = some a → kp (refI os k) = true → ∀ y, (y = a.1 ∨ y ∈ a.2.2) → movedV os (toK kp os os.length) y = moveW kp os y) := Lib.hid (by
            intro k a ha hk y hy
            refine movedV_moveW (fun x hx => by rw [HKP.out] at hx; exact (keepR_iff.1 hx).obj) (fun hs => ?_)
            rw [HKP.out] at hk ⊢
            exact keepR_closed _ _ (refI os k) a (look_of_ref ha) hk y hy hs)
          have c12 := HF2.out.cell (by simp) c1
          go_wp2_with fail
          go_loopw [13, 14] (fun tv iv wr => ∃ (k : Nat) (ls : List RO), k ≤ N ∧ iv = .int .i64 k ∧ Hid (KeepsL W2 kp (moveW kp os) os k tv ls wr)) (fun _ iv _ => N - (intOf iv).toNat)
          case atStart => exact ⟨0, [], Nat.zero_le _, rfl, KeepsL.start _ _ _ _⟩
          case round =>
            obtain ⟨j, ls, hj, rfl, hK⟩ := hrel
            obtain ⟨vo, vc, rfl⟩ := row_shape hK.out.row
            have c13 := hK.out.fr.cell (by simp) c12
            by_cases hlt2 : j < N
            · have hkl : j < r.l.length := by rw [HLEN.out, ← HN.out]; exact hlt2
              obtain ⟨o, ho⟩ : ∃ o, r.l[j]? = some o := ⟨_, List.getElem?_eq_getElem hkl⟩
              obtain ⟨gl, rfl, hc⟩ := HROW.out j o ho
              have HFW := Lib.hid (HF2.out.trans hK.out.fr)
              have d1 := HFW.out.cell (by simp) hc
              have hob := HHIT.out j o ho
              have k0 : (0 : Int) ≤ (j : Int) := by omega
              have k1 : (j : Int) < (N : Int) := by omega
              have hjos : j < os.length := by rw [← HN.out]; exact hlt2
              have d2 := hK.out.fr.cell (by simp) (HO2.out.cell (HKB.out j hjos))
              have hAT := H.out.objs o (List.mem_of_getElem? ho)
              have f0 : wr.cell? ⟨o.b, 0, none⟩ = some (.int .u64 o.cls) := cell_of_heap (HFW.out.heap (by simp) hAT.cells) rfl
              have f1 : wr.cell? ⟨o.b, 1, none⟩ = some (.int .i64 o.hash) := cell_of_heap (HFW.out.heap (by simp) hAT.cells) rfl
              have f2 : wr.cell? ⟨o.b, 2, none⟩ = some o.fv := cell_of_heap (HFW.out.heap (by simp) hAT.cells) rfl
              obtain ⟨fa, fc, hfv⟩ := row_shape hAT.row
              rw [hfv] at f2
              have t0 := hK.out.fr.cell (by simp) (HT2.out.cell (toK_at (keep := kp) (k := os.length) hjos))
              cases hkv : kp (refI os j)
              · rw [hkv] at d2
                have HSK := Lib.hid (hK.out.skip hob hkv)
                clear hkl ho hc hob hAT hfv hkv t0
                go_wp2_with fail
                go_roundw
                case rel => exact ⟨j + 1, ls, by omega, by go_num, HSK⟩
                case measure => simp [intOf]; omega
              · rw [hkv] at d2 t0
                have HB0 := Lib.hid (HOB0.out _ (List.mem_of_getElem? hob))
                have HMC : Hid (movedV os (toK kp os os.length) o.cls = moveW kp os o.cls) := Lib.hid (HCL.out j _ hob hkv _ (.inl rfl))
                have hmv := fun W hF => HMV.out W o.cls hF HB0.out.1
                rw [HMC.out] at hmv
                have HMVc := Lib.hid hmv
                rw [if_pos ⟨hjos, rfl⟩] at t0
                obtain ⟨T, hT⟩ : ∃ T, T = endOf (keepL kp 1 (os.take j)) := ⟨_, rfl⟩
                rw [← hT] at t0
                have t1 : wr.cell? ⟨w1.heap.size, j, none⟩ = some (.int .i64 T) := t0
                have TT1 := Lib.hid t1
                have HTT := Lib.hid hT
                clear t0 hT
                have HFK := Lib.hid hK.out.fr
                go_wp2_with fail
                clear hmv
                go_region_held3 (fun w' => w'.cell? ⟨rb, 1, none⟩ = some (.slice (some ⟨gl, 0, none⟩) N lc) ∧ w'.cell? ⟨gl, j, none⟩ = some (.pointer (some ⟨o.b, 0, none⟩)) ∧ w'.cell? ⟨o.b, 0, none⟩ = some (.int .u64 o.cls) ∧ w'.cell? ⟨o.b, 1, none⟩ = some (.int .i64 o.hash) ∧ w'.cell? ⟨w1.heap.size, j, none⟩ = some (.int .i64 T))
                  (first | exact ⟨hF8.cell (by simp) c13, hF8.cell (by simp) d1, hF8.cell (by simp) f0, hF8.cell (by simp) f1, hF8.cell (by simp) TT1.out⟩ | go_keep)
                  ((go_at_call 41; refine (HMVc.out _ (HFK.out.drew)).mono ?_; rintro e w8 ⟨rfl, hF8'⟩; have hF8 : Fr [] wr w8 := ((Fr.refl _ _).drew).trans hF8'))
                have hlw := lt_of_heap hAT.cells
                have HF9 : Hid (Fr [] wr (w8.alloc (.cells #[.int .u64 (moveW kp os o.cls), .int .i64 o.hash, .slice none 0 0, .int .i64 T] 78))) := Lib.hid (hF8.alloc _)
                have HBX : Hid ((w8.alloc (.cells #[.int .u64 (moveW kp os o.cls), .int .i64 o.hash, .slice none 0 0, .int .i64 T] 78)).heap[w8.heap.size]? = some (.cells #[.int .u64 (moveW kp os o.cls), .int .i64 o.hash, .slice none 0 0, .int .i64 T] 78 (0, 0))) := heap_new w8 _
                have HSZ : Hid (wr.heap.size ≤ w8.heap.size) := Lib.hid hF8.size
                obtain ⟨WD, hWD⟩ : ∃ WD, WD = w8.alloc (.cells #[.int .u64 (moveW kp os o.cls), .int .i64 o.hash, .slice none 0 0, .int .i64 T] 78) := ⟨_, rfl⟩
                obtain ⟨xb, hxb⟩ : ∃ xb, xb = w8.heap.size := ⟨_, rfl⟩
                have HXL : Hid (xb < WD.heap.size ∧ wr.heap.size ≤ xb) := Lib.hid (by rw [hxb, hWD]; exact ⟨by simp, HSZ.out⟩)
                have HWD := Lib.hid hWD
                have HXE := Lib.hid hxb
                rw [← hWD] at HBX HF9
                rw [← hxb] at HBX
                clear hWD hxb
                go_wp2_with fail
                rw [← HWD.out, ← HXE.out]
                have HFD3 : Hid (Fr [] W2 WD) := Lib.hid (HFK.out.trans HF9.out)
                refine Code.wp_mono (inBlock_mono ?_) (fields_at (w := W2) (f := moveW kp os) HFD3.out ⟨Nat.le_trans HFK.out.size HXL.out.2, HXL.out.1⟩ c12 (HF2.out.cell (by simp) hc) (hAT.fr HF2.out (by simp) (fun _ _ => by simp)) (by omega) hN (HFL0.out o (List.mem_of_getElem? ho)) (fun W y hF hy => by have h := HMV.out W y hF (HB0.out.2 y hy); rw [HCL.out j _ hob hkv y (.inr hy)] at h; exact h) HBX.out)
                rintro a' wr2 ⟨v16, v120, v121, v122, v123, v124, v125, v126, v127, v128, v129, v130, v131, v132, v133, v134, v135, v136, v137, v138, v139, v140, v141, v142, v143, v144, v145, v146, v147, v148, v149, v150, v151, v152, v153, v154, v155, v156, v157, v158, v159, fv, rfl, hG⟩
                obtain ⟨go, gc, rfl⟩ := row_shape hG.out.row
                have HOX : Hid (RO.At ⟨xb, .slice go o.fs.length gc, moveW kp os o.cls, o.hash, o.fs.map (moveW kp os), T⟩ wr2) := by
                  refine Lib.hid ⟨hG.out.box, ?_⟩
                  have h := hG.out.row
                  rw [show (RO.mk xb (.slice go o.fs.length gc) (moveW kp os o.cls) o.hash (o.fs.map (moveW kp os)) T).fs.length = o.fs.length by simp]
                  exact h
                have HFK2 : Hid (Fr [] wr wr2) := Lib.hid ((HF9.out).trans' hG.out.fr (fun _ _ e => e) (fun q hq e => by simp at e; have := HXL.out.2; omega))
                have HNF : Hid (∀ q, (Value.slice go o.fs.length gc).ownBlock = some q → wr.heap.size ≤ q) := Lib.hid fun q hq => Nat.le_trans (Nat.le_trans HXL.out.2 (Nat.le_of_lt HXL.out.1)) (hG.out.new q hq)
                have HKb : Hid ((wr2.alloc (.cells #[.pointer (some ⟨xb, 0, none⟩)] 81)).ownsRow 0 81 1 (.slice vo ls.length vc) ls.length (ls.map RO.ptr)) := Lib.hid ((HFK2.out.alloc _).row hK.out.row (fun _ _ => by simp))
                have hll : ls.length ≤ 65536 := by
                  have h1 := hK.out.agr.len
                  have h2 := (keepL_sub kp 1 (os.take j)).length_le
                  have h3 := List.length_take_le j os
                  simp only [List.length_map] at h1
                  omega
                have HST := Lib.hid (fun (v5 : Value) (w5 : World) (ho5 : w5.ownsRow 0 81 1 v5 (ls.length + 1) (ls.map RO.ptr ++ [.pointer (some ⟨xb, 0, none⟩)])) (hg5 : (wr2.alloc (.cells #[.pointer (some ⟨xb, 0, none⟩)] 81)).grownBy w5 (Value.slice vo ls.length vc).ownBlock) (hf5 : v5.ownBlock = (Value.slice vo ls.length vc).ownBlock ∨ v5.ownBlock = some (wr2.alloc (.cells #[.pointer (some ⟨xb, 0, none⟩)] 81)).heap.size) => hK.out.step (o := ⟨xb, .slice go o.fs.length gc, moveW kp os o.cls, o.hash, o.fs.map (moveW kp os), T⟩) hob hkv HFK2.out HOX.out HXL.out.2 HNF.out rfl HTT.out ((Fr.refl [] wr2).alloc _) (fun _ => ho5) hg5 hf5)
                obtain ⟨i9, hi9, hr0, hr1, hr2⟩ := info_parts infoPtr
                clear hob hkv hc hAT hfv ho hkl
                go_wp2_with (at_builtin; refine wpList_append_at _ rfl (.tmp 160) (.tmp 162) 47 rfl 81 i9 (.pointer none) 1 8 Tryz.underlying47 hi9 hr0 hr1 hr2 rfl (by decide) (.slice vo ls.length vc) ls.length _ rfl HKb.out ⟨wr2.heap.size, 0, none⟩ 1 1 [.pointer (some ⟨xb, 0, none⟩)] rfl rfl (one_cell wr2 (.pointer (some ⟨xb, 0, none⟩)) 81) (by simp [Value.oneCell']) (by unfold maxLen; omega) (by omega) ?_; intro v5 w5 ho5 hg5 hf5; have HS5 := Lib.hid (HST.out v5 w5 ho5 hg5 hf5); obtain ⟨a5, p5, rfl⟩ := row_shape ho5; clear ho5 hg5 hf5)
                go_roundw
                case rel => exact ⟨j + 1, ls ++ [⟨xb, .slice go o.fs.length gc, moveW kp os o.cls, o.hash, o.fs.map (moveW kp os), T⟩], by omega, by go_num, HS5⟩
                case measure => simp [intOf]; omega
            · --[REST
              have hje : j = N := by omega
              have hkd4 : decide ((j : Int) < (N : Int)) = false := by simp; omega
              have HKN : Hid (KeepsL W2 kp (moveW kp os) os os.length (.slice vo ls.length vc) ls wr) := Lib.hid (by have h := hK.out; rw [hje, HN.out] at h; exact h)
              have HMR : Hid (∀ x ∈ r.root :: roots, movedV os (toK kp os os.length) x = moveW kp os x) := Lib.hid (fun x hx => movedV_moveW (fun y hy => by rw [HKP.out] at hy; exact (keepR_iff.1 hy).obj) (fun h => by rw [HKP.out]; exact keepR_iff.2 (.root hx h)))
              have HFW := Lib.hid (HF2.out.trans hK.out.fr)
              obtain ⟨W3, hW3⟩ : ∃ W3, W3 = wr := ⟨_, rfl⟩
              rw [← hW3] at HKN HFW c13 ⊢
              have HFK3 : Hid (Fr [] W2 W3) := Lib.hid (by rw [hW3]; exact hK.out.fr)
              clear hK hje hW3
              go_wp2_with fail
              go_loopw [17, 18] (fun ov iv wr => ∃ k : Nat, k ≤ R ∧ iv = .int .i64 k ∧ ∃ oo oc, ov = .slice oo k oc ∧ Hid (wr.ownsRow 0 24 1 (.slice oo k oc) k (((roots.take k).map (moveW kp os)).map (Value.int .u64)) ∧ Fr [] W3 wr ∧ ∀ q, (Value.slice oo k oc).ownBlock = some q → W3.heap.size ≤ q)) (fun _ iv _ => R - (intOf iv).toNat)
              case atStart => exact ⟨0, Nat.zero_le _, rfl, none, 0, rfl, World.ownsRow_nil _ _ _ _, Fr.refl _ _, fun q hq => by cases hq⟩
              case round =>
                obtain ⟨k, hk, rfl, oo, oc, rfl, hR⟩ := hrel
                by_cases hlt3 : k < R
                · have HOUT := True.intro
                  have hkl : k < roots.length := by rw [← HR.out]; exact hlt3
                  obtain ⟨x, hxe⟩ : ∃ x, roots[k]? = some x := ⟨_, List.getElem?_eq_getElem hkl⟩
                  obtain ⟨g, o, rfl, hc⟩ := HX.out k x hxe
                  have hc' := (HFW.out.trans hR.out.2.1).cell (by simp) hc
                  have hxb := HB.out x (List.mem_of_getElem? hxe)
                  have hmv := HMV.out wr x (HFK3.out.trans hR.out.2.1) hxb
                  rw [HMR.out x (by simp [List.mem_of_getElem? hxe])] at hmv
                  have HTT3 : Hid (((roots.take (k + 1)).map (moveW kp os)).map (Value.int .u64) = ((roots.take k).map (moveW kp os)).map (Value.int .u64) ++ [.int .u64 (moveW kp os x)]) := by
                    rw [List.take_add_one, hxe]
                    exact Lib.hid (by simp)
                  obtain ⟨y, hy⟩ : ∃ y, y = moveW kp os x := ⟨_, rfl⟩
                  rw [← hy] at hmv HTT3
                  have k0 : (0 : Int) ≤ (k : Int) := by omega
                  have k1 : (k : Int) < (R : Int) := by omega
                  clear hkl hxe hc hxb hy
                  go_wp2_with (first
                    | (go_at_call 41; refine hmv.mono ?_; rintro e w2 ⟨rfl, hF9⟩; have HR1 : Hid ((w2.alloc (.cells #[.int .u64 y] 24)).ownsRow 0 24 1 (.slice oo k oc) k (((roots.take k).map (moveW kp os)).map (Value.int .u64))) := Lib.hid (((hF9.alloc _)).row hR.out.1 (fun _ _ => by simp)); have HF9 : Hid (Fr [] W3 w2) := Lib.hid (hR.out.2.1.trans hF9); clear hF9)
                    | (at_builtin; refine wpList_append_at _ rfl (.tmp 170) (.tmp 178) 25 rfl 24 i1 (.int .u64 0) 1 8 Tryz.underlying25 hi1 hy0 hy1 hy2 rfl (by decide) (.slice oo k oc) k _ rfl HR1.out ⟨w2.heap.size, 0, none⟩ 1 1 [.int .u64 y] rfl rfl (one_cell w2 (.int .u64 y) 24) (by simp [Value.oneCell']) (by unfold maxLen; omega) (by omega) ?_; intro v5 w5 ho5 hg5 hf5; obtain ⟨a5, p5, rfl⟩ := row_shape ho5; have HO5 := Lib.hid ho5; have HG5 := Lib.hid hg5; have HF5 := Lib.hid hf5; clear ho5 hg5 hf5))
                  go_roundw
                  case rel =>
                    refine ⟨k + 1, by omega, by go_num, a5, p5, rfl, ⟨by rw [HTT3.out]; exact HO5.out, (HF9.out.alloc _).grown HG5.out (fun q hq _ => absurd (hR.out.2.2 q hq) (by omega)), fun q hq => ?_⟩⟩
                    rcases HF5.out with h | h
                    · exact hR.out.2.2 q (h ▸ hq)
                    · rw [h] at hq
                      cases hq
                      have := HF9.out.size
                      simp
                      omega
                  case measure => simp [intOf]; omega
                · have HEND := True.intro
                  have hkR : k = R := by omega
                  subst hkR
                  have HTT3 : Hid (roots.take k = roots) := List.take_of_length_le (by rw [← HR.out]; omega)
                  have hkd5 : decide (k < k) = false := by simp
                  have hRR := hR.out
                  rw [HTT3.out] at hRR
                  have HRR := Lib.hid hRR
                  have c2' := (HFW.out.trans hRR.2.1).cell (by simp) c2
                  have hrt := HMV.out wr r.root (HFK3.out.trans hRR.2.1) HRT.out
                  rw [HMR.out r.root (by simp)] at hrt
                  have hbx : wr.heap[rb]? = some (.cells #[.int .i64 r.n, lv, .int .u64 r.root, .int .i64 r.last] 49 (0, 0)) := (HFW.out.trans hRR.2.1).heap (by simp) H.out.heap
                  have HBX := Lib.hid hbx
                  have z1 := frozen_of_heap (o := 1) hbx
                  have z2 := frozen_of_heap (o := 2) hbx
                  clear hR hRR hbx
                  have hrbl : rb < W2.heap.size := Nat.lt_of_lt_of_le hrb HF2.out.size
                  have HKR : Hid (∀ W', Fr [rb] W3 W' → W'.heap[rb]? = some (.cells #[.int .i64 r.n, .slice vo ls.length vc, .int .u64 (moveW kp os r.root), .int .i64 r.last] 49 (0, 0)) → _) := Lib.hid (fun W' hF hh => HKN.out.ref (by rw [← HN.out]; exact hN) HE.out hrbl hF hh)
                  have HB1 : Hid (endOf os ≤ 65536) := HE
                  have hle : endOf (leftObs kp os) ≤ 65536 := Nat.le_trans (end_left kp os) HE.out
                  have hue : usedR r.l ≤ 65536 := by rw [HUE.out]; exact HE.out
                  go_wp2_with (first
                    | (go_at_call 41; refine hrt.mono ?_; rintro e w2 ⟨rfl, hF9⟩; have HF9 := Lib.hid hF9; have hbx2 := hF9.heap (by simp) HBX.out; have y1 := frozen_of_heap (o := 1) hbx2; have y2 := frozen_of_heap (o := 2) hbx2; have d1 := cell_of_heap (o := 1) hbx2 rfl; have d2 := cell_of_heap (o := 2) hbx2 rfl; have HFE : Hid (Fr [rb] W3 ((w2.setCell ⟨rb, 1, none⟩ (.slice vo ls.length vc)).setCell ⟨rb, 2, none⟩ (.int .u64 (moveW kp os r.root)))) := Lib.hid (((HRR.out.2.1.trans hF9).weak.setCell (fun _ => by simp) _).setCell (fun _ => by simp) _); have HHE : Hid (((w2.setCell ⟨rb, 1, none⟩ (.slice vo ls.length vc)).setCell ⟨rb, 2, none⟩ (.int .u64 (moveW kp os r.root))).heap[rb]? = some (.cells #[.int .i64 r.n, .slice vo ls.length vc, .int .u64 (moveW kp os r.root), .int .i64 r.last] 49 (0, 0))) := Lib.hid (by have h1 := heap_setCell_same hbx2 (o := 1) (.slice vo ls.length vc); have h2 := heap_setCell_same h1 (o := 2) (.int .u64 (moveW kp os r.root)); simpa using h2); have HK4 := Lib.hid (HKR.out _ HFE.out HHE.out); have hus := rused HK4.out.1; have hum : usedR (RH.mk r.n ls (moveW kp os r.root) r.last).l = endOf (leftObs kp os) := agree_used HK4.out.2.1; rw [hum] at hus; clear hF9 hbx2 hum)
                    | (go_at_call 20; refine hus.mono ?_; rintro e w4 ⟨rfl, m, rfl⟩))
                  go_ret3
                  have hf3 := HFK3.out.size
                  have hf2 := HF2.out.size
                  have hfe := HRR.out.2.1.size
                  have HF29 := (((Fr.refl [rb] w2).setCell (p := ⟨rb, 1, none⟩) (fun _ => by simp) (.slice vo ls.length vc)).setCell (p := ⟨rb, 2, none⟩) (fun _ => by simp) (.int .u64 (moveW kp os r.root))).drewN m
                  unfold Ran3
                  rw [← HKP.out, ← HR.out]
                  refine ⟨oo, oc, ls, .slice vo ls.length vc, by rw [HUE.out]; rfl, ?_, HK4.out.1.fr ((Fr.refl [] _).drewN m) (fun _ _ => by simp), HK4.out.2.1, fun q hq => ?_, ((HFW.out.weak).trans HFE.out).drewN m⟩
                  · exact HF29.row (HF9.out.row HRR.out.1 (fun _ _ => by simp)) (fun q hq => by have := HRR.out.2.2 q hq; simp; omega)
                  · rcases HK4.out.2.2 q hq with h | h
                    · exact .inl h
                    · exact .inr (by omega)
end Go.Proofs.YtjjkbdkalnhcbaaGreatDoor
