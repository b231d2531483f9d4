/- The document's list of ways: flow. The document's Depths. -/
import Derived.Test.YtbmfmklalonhiaaGreatDoorMVerG
import Derived.Test.YtbmfmklalonhiaaGreatDoorMVerF
import Derived.Test.YtbmfmklalonhiaaGreatDoorMVerD
import Derived.Test.YtbmfmklalonhiaaGreatDoorMCodeF
import Derived.Deep.RegionHeld3
namespace Go.Proofs.YtbmfmklalonhiaaGreatDoor
open Go.RowKit

theorem size4 (w : World) (o0 o1 o2 o3 : Obj) : ((((w.alloc o0).alloc o1).alloc o2).alloc o3).heap.size = w.heap.size + 1 + 1 + 1 + 1 := by simp
theorem cell5 (w : World) (o0 o1 o2 o3 : Obj) (x : Value) (t : TypeId) : (((((w.alloc o0).alloc o1).alloc o2).alloc o3).alloc (.cells #[x] t)).cell? ⟨w.heap.size + 1 + 1 + 1 + 1, 0, none⟩ = some x := by
  rw [← size4 w o0 o1 o2 o3]
  exact cell_of_heap (heap_new _ _) rfl
theorem fr5 (w : World) (o0 o1 o2 o3 o4 : Obj) : Fr [] w (((((w.alloc o0).alloc o1).alloc o2).alloc o3).alloc o4) := (((((Fr.refl _ _).alloc _).alloc _).alloc _).alloc _).alloc _
theorem size5 (w : World) (o0 o1 o2 o3 o4 : Obj) : (((((w.alloc o0).alloc o1).alloc o2).alloc o3).alloc o4).heap.size = w.heap.size + 5 := by simp
theorem begin5 (w : World) (n : Nat) (c0 : Array Value) (t0 : TypeId) (ZI ZB : Array Value) (hI : ZI = (List.replicate n (Value.slice none 0 0)).toArray) (hB : ZB = (List.replicate n (Value.bool false)).toArray) {W v5 w5} (hW : W = ((((w.alloc (.cells c0 t0)).alloc (.cells ZI 31)).alloc (.cells ZB 4)).alloc (.cells #[.int .i64 0, .int .i64 0] 3)).alloc (.cells #[.slice (some ⟨w.heap.size + 1 + 1 + 1, 0, none⟩) 2 2] 31))
    (ho : w5.ownsRow w.heap.size 31 1 v5 1 [.slice (some ⟨w.heap.size + 1 + 1 + 1, 0, none⟩) 2 2]) (hg : W.grownBy w5 none) (hf : v5.ownBlock = none ∨ v5.ownBlock = some W.heap.size) :
    ∃ qg cap ρ, v5 = .slice (some ⟨qg, 0, none⟩) 1 cap ∧ FMem w n (w.heap.size + 1) (w.heap.size + 1 + 1) (fun _ => []) (fun _ => false) qg 0 cap [(0, 0)] (List.replicate n (.slice none 0 0)) [(w.heap.size, .cells c0 t0 (0, 0))] ρ w5 := by
  have s1 : (w.alloc (.cells c0 t0)).heap.size = w.heap.size + 1 := by simp
  have s2 : ((w.alloc (.cells c0 t0)).alloc (.cells ZI 31)).heap.size = w.heap.size + 1 + 1 := by simp
  have s3 : (((w.alloc (.cells c0 t0)).alloc (.cells ZI 31)).alloc (.cells ZB 4)).heap.size = w.heap.size + 1 + 1 + 1 := by simp
  have h0 : W.heap[w.heap.size]? = some (.cells c0 t0 (0, 0)) := by
    rw [hW]
    exact (((((Fr.refl [] _).alloc _).alloc _).alloc _).alloc _).heap (by simp) (heap_new w _)
  have h1 : W.heap[w.heap.size + 1]? = some (.cells (List.replicate n (Value.slice none 0 0)).toArray 31 (0, 0)) := by
    rw [hW, ← hI, ← s1]
    exact ((((Fr.refl [] _).alloc _).alloc _).alloc _).heap (by simp) (heap_new (w.alloc (.cells c0 t0)) _)
  have h2 : W.heap[w.heap.size + 1 + 1]? = some (.cells (List.replicate n (Value.bool false)).toArray 4 (0, 0)) := by
    rw [hW, ← hB, ← s2]
    exact (((Fr.refl [] _).alloc _).alloc _).heap (by simp) (heap_new ((w.alloc (.cells c0 t0)).alloc (.cells ZI 31)) _)
  have h3 : W.heap[w.heap.size + 1 + 1 + 1]? = some (.cells #[.int .i64 0, .int .i64 0] 3 (0, 0)) := by
    have h := ((Fr.refl [] ((((w.alloc (.cells c0 t0)).alloc (.cells ZI 31)).alloc (.cells ZB 4)).alloc (.cells #[.int .i64 0, .int .i64 0] 3))).alloc (.cells #[.slice (some ⟨w.heap.size + 1 + 1 + 1, 0, none⟩) 2 2] 31)).heap (by simp) (heap_new (((w.alloc (.cells c0 t0)).alloc (.cells ZI 31)).alloc (.cells ZB 4)) _)
    rw [s3] at h
    rw [hW]
    exact h
  have hF : Fr [] w W := by rw [hW]; exact fr5 _ _ _ _ _ _
  clear hW
  obtain ⟨cap, ρ, hv, hM⟩ := FMem.begin (X := [(w.heap.size, .cells c0 t0 (0, 0))]) hF h1 h2 h3 (fun p h => by simp only [List.mem_singleton] at h; subst h; exact ⟨h0, by simp⟩) (by omega) (by omega) (by omega) ho hg hf
  exact ⟨_, cap, ρ, hv, hM⟩
theorem roomOf_begin (s : Nat) : ∀ n, roomOf s (fun _ => []) n = n * (s + 1)
  | 0 => by simp [roomOf]
  | n + 1 => by
    unfold roomOf
    rw [roomOf_begin s n, Nat.add_mul]
    simp
theorem one_cellV (w : World) (v : Value) (t : TypeId) : ∀ j u, [v][j]? = some u → (w.alloc (.cells #[v] t)).cell? ((⟨w.heap.size, 0, none⟩ : Addr).add j) = some u := by
  intro j u hj
  rw [Lib.add_plain, Nat.zero_add, World.cell?_alloc_new]
  simpa using hj
/-- what the document's list of ways is in memory: the depths of each place, and from where a way goes beyond the end -/
def FlowTo (m : Mth) (w : World) (e : Ending) (w' : World) : Prop := ∃ (A : Nat → List Nat) (B : Nat → Bool) (atB byB : Nat) (hdr : List Value),
  Flow m A [] ∧ (∀ k, k < m.code.length → (B k = true ↔ m.beyond A k)) ∧ e = .returned (.tuple #[.slice (some ⟨atB, 0, none⟩) m.code.length m.code.length, .slice (some ⟨byB, 0, none⟩) m.code.length m.code.length]) ∧ Fr [] w w' ∧
  hdr.length = m.code.length ∧ w'.heap[atB]? = some (.cells hdr.toArray 31 (0, 0)) ∧ w'.heap[byB]? = some (.cells ((List.range m.code.length).map (fun k => Value.bool (B k))).toArray 4 (0, 0)) ∧
  ∀ (k : Nat) (v : Value), hdr[k]? = some v → w'.ownsRow w.heap.size 3 1 v (A k).length (dInts (A k))
end Go.Proofs.YtbmfmklalonhiaaGreatDoor
namespace Go.Proofs.YtbmfmklalonhiaaGreatDoor
open Go.RowKit

theorem row_get {m : Mth} {k : Nat} : (List.range (k + 1)).map m.depthAt = (List.range k).map m.depthAt ++ [m.depthAt k] := by rw [List.range_succ, List.map_append]; rfl
end Go.Proofs.YtbmfmklalonhiaaGreatDoor
