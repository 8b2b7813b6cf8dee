/- The document's two kinds of sums. -/
import Derived.Test.YtcdfbcpcgkcojaaDoorRef32
import Derived.Test.YtcdfbcpcgkcojaaDoorStart32
namespace Go.Proofs.YtcdfbcpcgkcojaaDoor
set_option maxRecDepth 100000
open Go.RowKit

/-- Words as cells, held in 64 bits; the document's constants. -/
def Vs32 (l : List Nat) : List Value := l.map fun x => .int .u64 ((x : Nat) : Int)
def rc32 : List Nat := [1116352408, 1899447441, 3049323471, 3921009573, 961987163, 1508970993, 2453635748, 2870763221, 3624381080, 310598401, 607225278, 1426881987, 1925078388, 2162078206, 2614888103, 3248222580, 3835390401, 4022224774, 264347078, 604807628, 770255983, 1249150122, 1555081692, 1996064986, 2554220882, 2821834349, 2952996808, 3210313671, 3336571891, 3584528711, 113926993, 338241895, 666307205, 773529912, 1294757372, 1396182291, 1695183700, 1986661051, 2177026350, 2456956037, 2730485921, 2820302411, 3259730800, 3345764771, 3516065817, 3600352804, 4094571909, 275423344, 430227734, 506948616, 659060556, 883997877, 958139571, 1322822218, 1537002063, 1747873779, 1955562222, 2024104815, 2227730452, 2361852424, 2428436474, 2756734187, 3204031479, 3329325298]
def fc32 : List Nat := [1779033703, 3144134277, 1013904242, 2773480762, 1359893119, 2600822924, 528734635, 1541459225]
theorem fc32_eq : fc32 = ini32.list := by decide +kernel
theorem rc32_eq : ∀ i, i < 64 → rc32.getD i 0 = k32.getD i 0 / 2 ^ (64 - 32) := by decide +kernel
theorem rc32_len : rc32.length = 64 := by decide +kernel

theorem heap3a32 (w : World) (X Y Z : Obj) : (((w.alloc X).alloc Y).alloc Z).heap[w.heap.size]? = some X :=
  (Below.heap_alloc _ _ _ (by simp <;> omega)).trans ((Below.heap_alloc _ _ _ (by simp)).trans (heap_alloc_new _ _))
theorem heap3b32 (w : World) (X Y Z : Obj) : (((w.alloc X).alloc Y).alloc Z).heap[w.heap.size + 1]? = some Y :=
  (Below.heap_alloc _ _ _ (by simp)).trans (heap_alloc2_new _ _ _)
theorem heap3c32 (w : World) (X Y Z : Obj) : (((w.alloc X).alloc Y).alloc Z).heap[w.heap.size + 2]? = some Z := by
  have h := heap_alloc_new ((w.alloc X).alloc Y) Z
  rwa [show ((w.alloc X).alloc Y).heap.size = w.heap.size + 2 by simp] at h
set_option maxHeartbeats 1600000 in
theorem kind32 (w : World) : Calls Tryd.prog 23 #[] w fun e w' => ∃ A B, e = .returned (.agg (KdL32 A B).toArray) ∧ Row w' A 51 (Vs32 fc32) ∧ Row w' B 51 (Vs32 rc32) ∧ Below w.heap.size w w' ∧ w.heap.size ≤ A ∧ w.heap.size ≤ B := by
  go_enter Tryd.func23, Tryd.ntmps23
  go_wp2_with fail
  refine bodyPost_ret (results_cell_row (by rfl) _ _ w.heap.size 53 (KdL32 (w.heap.size + 1) (w.heap.size + 2)).toArray (0, 0) _ (by rfl) ?_ (by rfl) rfl (by kernel_rfl)) rfl ?_
  · exact heap3a32 w _ _ _
  · refine ⟨w.heap.size + 1, w.heap.size + 2, rfl, ?_, ?_, ?_, by omega, by omega⟩
    · exact heap3b32 w _ _ _
    · exact heap3c32 w _ _ _
    · exact (((Below.refl _ _).alloc (Nat.le_refl _) _).alloc (by simp) _).alloc (by simp <;> omega) _

end Go.Proofs.YtcdfbcpcgkcojaaDoor
