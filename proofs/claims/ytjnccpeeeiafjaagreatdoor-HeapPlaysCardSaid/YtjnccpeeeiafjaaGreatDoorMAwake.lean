/- The examples of the document, at the head of each statement: they come out true. -/
import Derived.Test.YtjnccpeeeiafjaaGreatDoorMRanges
namespace Go.Proofs.YtjnccpeeeiafjaaGreatDoor
open Go.RowKit

def aw1 : Mem := (Mem.fresh 64).push 0 0 [1, 1]
def aw2 : Mem := aw1.push 2 0 []
def aw3 : Mem := { aw2 with W := aw2.W.set 7 1, hashes := 1 }
def aw4 : Mem := { aw3 with W := aw3.W.set 2 2, hashes := 2 }
set_option maxRecDepth 100000 in
set_option maxHeartbeats 2000000 in
theorem awake_still (w : World) (hg : Glob w) : Calls Tryz.prog 10 #[] w (Still (.bool true) w) := by
  have cNew := live_new 64 w (by omega) (by omega)
  have cA1 : Hid (∀ hb mb w', Live w hb mb (Mem.fresh 64) w' → Calls Tryz.prog 22 #[.pointer (some ⟨hb, 0, none⟩), .int .u64 0, .int .i64 2, .int .u64 1] w' (LStill (.tuple #[.int .u64 2, .int .i64 0]) w hb mb aw1)) := fun _ _ _ h =>
    live_alloc_ok h 0 2 1 (by decide) (by decide) (by decide) (by decide) (by decide) (by decide) (by decide) (by decide) (by decide) (by decide) (by decide) (by decide)
  have cA2 : Hid (∀ hb mb w', Live w hb mb aw1 w' → Calls Tryz.prog 22 #[.pointer (some ⟨hb, 0, none⟩), .int .u64 2, .int .i64 0, .int .u64 0] w' (LStill (.tuple #[.int .u64 12, .int .i64 0]) w hb mb aw2)) := fun _ _ _ h =>
    live_alloc_ok h 2 0 0 (by decide) (by decide) (by decide) (by decide) (by decide) (by decide) (by decide) (by decide) (by decide) (by decide) (by decide) (by decide)
  have cF : Hid (∀ hb mb w', Live w hb mb aw2 w' → Calls Tryz.prog 40 #[.pointer (some ⟨hb, 0, none⟩), .int .u64 2, .int .i64 2] w' (LStill (.tuple #[.int .u64 0, .int .i64 1]) w hb mb aw2)) := fun _ _ _ h =>
    live_fetch_far h hg 1 2 2 (by decide) (by decide) (by decide) (by decide) (by decide) (by decide) (by decide)
  have cH1 : Hid (∀ hb mb w', Live w hb mb aw2 w' → Calls Tryz.prog 20 #[.pointer (some ⟨hb, 0, none⟩), .int .u64 12] w' (LStill (.tuple #[.int .i64 1, .int .i64 0]) w hb mb aw3)) := fun _ _ _ h =>
    live_hash_new h 6 (by decide) (by decide) (by decide) (by decide) (by decide) (by decide)
  have cH2 : Hid (∀ hb mb w', Live w hb mb aw3 w' → Calls Tryz.prog 20 #[.pointer (some ⟨hb, 0, none⟩), .int .u64 2] w' (LStill (.tuple #[.int .i64 2, .int .i64 0]) w hb mb aw4)) := fun _ _ _ h =>
    live_hash_new h 1 (by decide) (by decide) (by decide) (by decide) (by decide) (by decide)
  have cH3 : Hid (∀ hb mb w', Live w hb mb aw4 w' → Calls Tryz.prog 20 #[.pointer (some ⟨hb, 0, none⟩), .int .u64 12] w' (LStill (.tuple #[.int .i64 1, .int .i64 0]) w hb mb aw4)) := fun _ _ _ h =>
    live_hash_has h 6 1 (by decide) (by decide) (by decide) (by decide) (by decide) (by decide)
  have cA3 : Hid (∀ hb mb w', Live w hb mb aw4 w' → Calls Tryz.prog 22 #[.pointer (some ⟨hb, 0, none⟩), .int .u64 0, .int .i64 60, .int .u64 0] w' (LStill (.tuple #[.int .u64 0, .int .i64 2]) w hb mb aw4)) := fun _ _ _ h =>
    live_alloc_mem h hg 0 60 0 (by decide) (by decide) (by decide) (by decide) (by decide) (by decide) (by decide) (by decide) (by decide) (by decide) (by decide)
  have cU : Hid (∀ hb mb w', Live w hb mb aw4 w' → Calls Tryz.prog 35 #[.pointer (some ⟨hb, 0, none⟩)] w' (LStill (.int .i64 9) w hb mb aw4)) := fun _ _ _ h => live_used h
  have cO : Hid (∀ hb mb w', Live w hb mb aw4 w' → Calls Tryz.prog 17 #[.pointer (some ⟨hb, 0, none⟩)] w' fun e w'' => ∃ ao cap, e = .returned (.slice ao 2 cap) ∧ Live w hb mb aw4 w'') := fun _ _ _ h =>
    live_objects h [1, 6] ⟨rfl, by decide, 2, by decide, by decide, rfl, by decide, 0, by decide, by decide, (show aw4.W.length ≤ 9 by decide)⟩
  go_enter Tryz.func10, Tryz.ntmps10
  go_wp2_with fail
  refine cNew.mono ?_
  rintro e w1 ⟨hb, mb, rfl, hL⟩
  have HL := Lib.hid hL
  clear hL
  have cNo := new_no 63 w1 (by omega)
  go_wp2_with fail
  refine cNo.mono ?_
  rintro e w1' ⟨rfl, rfl⟩
  have c1 := cA1.out hb mb w1 HL.out
  go_wp2_with fail
  refine c1.mono ?_
  rintro e w2 ⟨rfl, hL⟩
  have HL2 := Lib.hid hL
  have c2 := cA2.out hb mb w2 hL
  clear hL c1 HL cNo cNew
  go_wp2_with fail
  refine c2.mono ?_
  rintro e w3 ⟨rfl, hL⟩
  have c3 := cF.out hb mb w3 hL
  clear hL c2 HL2
  go_wp2_with fail
  refine c3.mono ?_
  rintro e w4 ⟨rfl, hL⟩
  have c4 := cH1.out hb mb w4 hL
  clear hL c3
  go_wp2_with fail
  refine c4.mono ?_
  rintro e w5 ⟨rfl, hL⟩
  have c5 := cH2.out hb mb w5 hL
  clear hL c4
  go_wp2_with fail
  refine c5.mono ?_
  rintro e w6 ⟨rfl, hL⟩
  have c6 := cH3.out hb mb w6 hL
  clear hL c5
  go_wp2_with fail
  refine c6.mono ?_
  rintro e w7 ⟨rfl, hL⟩
  have c7 := cA3.out hb mb w7 hL
  clear hL c6
  go_wp2_with fail
  refine c7.mono ?_
  rintro e w8 ⟨rfl, hL⟩
  have c8 := cU.out hb mb w8 hL
  clear hL c7
  go_wp2_with fail
  refine c8.mono ?_
  rintro e w9 ⟨rfl, hL⟩
  have c9 := cO.out hb mb w9 hL
  clear hL c8
  go_wp2_with fail
  refine c9.mono ?_
  rintro e w10 ⟨ao, cap, rfl, hL⟩
  have HL9 := Lib.hid hL.fr
  clear hL c9
  go_wp2
  go_ret
  exact ⟨rfl, HL9.out⟩
end Go.Proofs.YtjnccpeeeiafjaaGreatDoor
