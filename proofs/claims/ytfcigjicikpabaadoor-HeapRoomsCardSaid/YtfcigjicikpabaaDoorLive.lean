/- A heap that the call made, through the calls of its methods: what its memory is, and that nothing older has changed. -/
import Derived.Test.YtfcigjicikpabaaDoorObjs
import Derived.Test.YtfcigjicikpabaaDoorNew
namespace Go.Proofs.YtfcigjicikpabaaDoor
open Go.RowKit

/-- a heap made since the world w0, whose memory is m -/
def Live (w0 : World) (hb mb : Nat) (m : Mem) (w : World) : Prop :=
  ∃ wv sv, HeapAt w hb mb m wv sv ∧ Fr [] w0 w ∧ w0.heap.size ≤ hb ∧ ∀ k ∈ foot mb wv sv, w0.heap.size ≤ k
theorem HeapAt.fr {S : List Nat} {w w' : World} {hb mb : Nat} {m : Mem} {wv sv : Value} (h : HeapAt w hb mb m wv sv) (hF : Fr S w w') (h1 : hb ∉ S) (h2 : ∀ k ∈ foot mb wv sv, k ∉ S) : HeapAt w' hb mb m wv sv :=
  ⟨hF.heap h1 h.heap, h.mem.fr hF h2⟩
theorem HeapAt.apart {w : World} {hb mb : Nat} {m : Mem} {wv sv : Value} (h : HeapAt w hb mb m wv sv) : hb ∉ foot mb wv sv := box_apart h.heap h.mem (by decide) (by decide) (by decide)
theorem Fr.join {S : List Nat} {a b c : World} (h : Fr [] a b) (k : Fr S b c) (hS : ∀ j ∈ S, a.heap.size ≤ j) : Fr [] a c :=
  h.trans' k (fun _ _ e => by cases e) (fun j hj e => by have := hS j e; omega)
theorem Live.still {w0 w w' : World} {hb mb : Nat} {m : Mem} (h : Live w0 hb mb m w) (hF : Fr [] w w') : Live w0 hb mb m w' := by
  obtain ⟨wv, sv, hH, hF0, h1, h2⟩ := h
  exact ⟨wv, sv, hH.fr hF (by simp) (fun _ _ => by simp), hF0.trans hF, h1, h2⟩
theorem Live.turn {w0 w w' : World} {hb mb : Nat} {m m' : Mem} {wv sv wv' sv' : Value} (hH : HeapAt w hb mb m wv sv) (hF0 : Fr [] w0 w) (h1 : w0.heap.size ≤ hb) (h2 : ∀ k ∈ foot mb wv sv, w0.heap.size ≤ k)
    (hM : MemAt w' mb m' wv' sv') (hF : Fr (foot mb wv sv) w w') (hfr : ∀ k ∈ foot mb wv' sv', k ∈ foot mb wv sv ∨ w.heap.size ≤ k) : Live w0 hb mb m' w' := by
  refine ⟨wv', sv', ⟨hF.heap hH.apart hH.heap, hM⟩, hF0.join hF h2, h1, fun k hk => ?_⟩
  rcases hfr k hk with h | h
  · exact h2 k h
  · exact Nat.le_trans hF0.size h
theorem Live.fr {w0 w : World} {hb mb : Nat} {m : Mem} (h : Live w0 hb mb m w) : Fr [] w0 w := by obtain ⟨_, _, _, h, _⟩ := h; exact h
theorem Live.lim {w0 w : World} {hb mb : Nat} {m : Mem} (h : Live w0 hb mb m w) : m.W.length ≤ 65536 ∧ m.M.length = m.W.length := by obtain ⟨_, _, h, _⟩ := h; exact ⟨h.mem.most, h.mem.alike⟩
/-- Returned v; the heap is as it was. -/
def LStill (v : Value) (w0 : World) (hb mb : Nat) (m : Mem) (e : Ending) (w' : World) : Prop := e = .returned v ∧ Live w0 hb mb m w'
theorem live_new (n : Int) (w : World) (h1 : 64 ≤ n) (h2 : n ≤ 65536) : Calls Tryd.prog 22 #[.int .i64 n] w fun e w' => ∃ hb mb, e = .returned (.tuple #[.pointer (some ⟨hb, 0, none⟩), .int .i64 0]) ∧ Live w hb mb (Mem.fresh n) w' := by
  refine (new_made n w h1 h2).mono ?_
  rintro e w' ⟨hb, mb, wv, sv, rfl, hH, hF, h3, h4⟩
  exact ⟨hb, mb, rfl, wv, sv, hH, hF, h3, h4⟩
section
variable {w0 w : World} {hb mb : Nat} {m : Mem}
theorem live_of_still {f : Nat} {args : Array Value} {v : Value} (h : Live w0 hb mb m w) (hc : ∀ wv sv, Opens (.pointer (some ⟨hb, 0, none⟩)) mb m wv sv w → Calls Tryd.prog f args w (Still v w)) : Calls Tryd.prog f args w (LStill v w0 hb mb m) := by
  obtain ⟨wv, sv, hH, hF0, h1, h2⟩ := h
  refine (hc wv sv (memory_at hH)).mono ?_
  rintro e w' ⟨rfl, hF⟩
  exact ⟨rfl, Live.still ⟨wv, sv, hH, hF0, h1, h2⟩ hF⟩
theorem live_of_turns {f : Nat} {args : Array Value} {v : Value} {m' : Mem} (h : Live w0 hb mb m w) (hc : ∀ wv sv, Opens (.pointer (some ⟨hb, 0, none⟩)) mb m wv sv w → Calls Tryd.prog f args w (Turns v mb m' (foot mb wv sv) w)) : Calls Tryd.prog f args w (LStill v w0 hb mb m') := by
  obtain ⟨wv, sv, hH, hF0, h1, h2⟩ := h
  refine (hc wv sv (memory_at hH)).mono ?_
  rintro e w' ⟨rfl, wv', sv', hM, hF, hfr⟩
  exact ⟨rfl, Live.turn hH hF0 h1 h2 hM hF hfr⟩
theorem live_glob (hg : Glob w0) (h : Live w0 hb mb m w) : Glob w := hg.fr h.fr
theorem live_used (h : Live w0 hb mb m w) : Calls Tryd.prog 17 #[.pointer (some ⟨hb, 0, none⟩)] w (LStill (.int .i64 m.W.length) w0 hb mb m) := live_of_still h fun _ _ hO => used_still hO
theorem live_words (h : Live w0 hb mb m w) : Calls Tryd.prog 16 #[.pointer (some ⟨hb, 0, none⟩)] w (LStill (.int .i64 m.lim) w0 hb mb m) := live_of_still h fun _ _ hO => words_still hO
theorem live_has (h : Live w0 hb mb m w) (x : Int) (h1 : 0 ≤ x) (h2 : x ≤ 18446744073709551615) : Calls Tryd.prog 15 #[.pointer (some ⟨hb, 0, none⟩), .int .u64 x] w (LStill (.bool (stB m.M x)) w0 hb mb m) := live_of_still h fun _ _ hO => has_still hO x h1 h2
theorem live_alloc_ok (h : Live w0 hb mb m w) (x n y : Int) (hpos : 0 < m.W.length) (hl : 1 ≤ m.lim) (hl2 : m.lim ≤ 65536) (n1 : 0 ≤ n) (n2 : n ≤ 512) (b1 : 0 ≤ x) (b2 : x ≤ 18446744073709551615) (b3 : 0 ≤ y) (b4 : y ≤ 18446744073709551615) (hok : okB m.M x = true) (hok2 : okB m.M y = true) (hf : m.W.length + 3 + n ≤ m.lim) :
    Calls Tryd.prog 6 #[.pointer (some ⟨hb, 0, none⟩), .int .u64 x, .int .i64 n, .int .u64 y] w (LStill (.tuple #[.int .u64 (2 * m.W.length), .int .i64 0]) w0 hb mb (m.push x 0 (List.replicate n.toNat y))) :=
  live_of_turns h fun _ _ hO => alloc_ok hO x n y hpos hl hl2 n1 n2 b1 b2 b3 b4 hok hok2 hf
theorem live_alloc_mem (h : Live w0 hb mb m w) (hg : Glob w0) (x n y : Int) (hl : 1 ≤ m.lim) (hl2 : m.lim ≤ 65536) (n1 : 0 ≤ n) (n2 : n ≤ 512) (b1 : 0 ≤ x) (b2 : x ≤ 18446744073709551615) (b3 : 0 ≤ y) (b4 : y ≤ 18446744073709551615) (hok : okB m.M x = true) (hok2 : okB m.M y = true) (hf : m.lim < m.W.length + 3 + n) :
    Calls Tryd.prog 6 #[.pointer (some ⟨hb, 0, none⟩), .int .u64 x, .int .i64 n, .int .u64 y] w (LStill (.tuple #[.int .u64 0, .int .i64 2]) w0 hb mb m) :=
  live_of_still h fun _ _ hO => alloc_fail hO (live_glob hg h) x n y 2 (fun _ hM hG => admit_mem hM hG x n y hl hl2 n1 n2 b1 b2 b3 b4 hok hok2 hf)
theorem live_fetch_far (h : Live w0 hb mb m w) (hg : Glob w0) (k z : Nat) (j : Int) (hk : m.M[k]? = some true) (h1 : 1 ≤ k) (hz : m.W[k + 2]? = some (z : Int)) (hz2 : z ≤ 65536) (hj : j < 0 ∨ (z : Int) ≤ j) (j1 : -9223372036854775808 ≤ j) (j2 : j ≤ 9223372036854775807) :
    Calls Tryd.prog 10 #[.pointer (some ⟨hb, 0, none⟩), .int .u64 (2 * k), .int .i64 j] w (LStill (.tuple #[.int .u64 0, .int .i64 1]) w0 hb mb m) := live_of_still h fun _ _ hO => fetch_far hO (live_glob hg h) k z j hk h1 hz hz2 hj j1 j2
theorem live_hash_has (h : Live w0 hb mb m w) (k : Nat) (z : Int) (hk : m.M[k]? = some true) (h1 : 1 ≤ k) (h2 : k ≤ 2147483647) (hz : m.W[k + 1]? = some z) (hz1 : 1 ≤ z) (hz2 : z ≤ 1099511627775) :
    Calls Tryd.prog 9 #[.pointer (some ⟨hb, 0, none⟩), .int .u64 (2 * k)] w (LStill (.tuple #[.int .i64 z, .int .i64 0]) w0 hb mb m) := live_of_still h fun _ _ hO => hash_has hO k z hk h1 h2 hz hz1 hz2
theorem live_hash_new (h : Live w0 hb mb m w) (k : Nat) (hk : m.M[k]? = some true) (h1 : 1 ≤ k) (h2 : k ≤ 2147483647) (hz : m.W[k + 1]? = some 0) (h0 : 0 ≤ m.hashes) (hh : m.hashes < 1099511627775) :
    Calls Tryd.prog 9 #[.pointer (some ⟨hb, 0, none⟩), .int .u64 (2 * k)] w (LStill (.tuple #[.int .i64 (m.hashes + 1), .int .i64 0]) w0 hb mb { m with W := m.W.set (k + 1) (m.hashes + 1), hashes := m.hashes + 1 }) := live_of_turns h fun _ _ hO => hash_new hO k hk h1 h2 hz h0 hh
/-- Objects, behind which the heap is as it was -/
theorem live_objects (h : Live w0 hb mb m w) (ps : List Nat) (hC : Chain m.W 1 ps) : Calls Tryd.prog 20 #[.pointer (some ⟨hb, 0, none⟩)] w fun e w' => ∃ ao cap, e = .returned (.slice ao ps.length cap) ∧ Live w0 hb mb m w' := by
  obtain ⟨wv, sv, hH, hF0, h1, h2⟩ := h
  have hF : Fr [] w (w.alloc (.cells #[.slice none 0 0] 44)) := (Fr.refl _ _).alloc _
  refine (objects_lists (memory_at (hH.fr hF (by simp) (fun _ _ => by simp))) ps hC).mono ?_
  rintro e w' ⟨v, rfl, hr, hF', hn⟩
  obtain ⟨ao, cap, rfl⟩ := row_shape hr
  exact ⟨ao, cap, rfl, Live.still ⟨wv, sv, hH, hF0, h1, h2⟩ hF'⟩
end
end Go.Proofs.YtfcigjicikpabaaDoor
