/- The document's own answers on bytes: what each of its calls makes, in new memory; for any input. -/
import Derived.Test.YtpegkalhjnldkaaWrite
namespace Go.Proofs.Ytpegkalhjnldkaa
open Go.RowKit

theorem ref_low {n : Nat} (h : n < 128) : [Value.int .u8 (n : Int)] = Bs [UInt8.ofNat n] := low_last h
theorem ref_big (n : Nat) : [Value.int .u8 ((n : Int) % 128 + 128)] = Bs [UInt8.ofNat (n % 128 + 128)] := by
  simp only [Bs, List.map_cons, List.map_nil]
  rw [toNat_low (by omega)]
  congr 2

/-- A new row of its own, from literal cells. -/
theorem own_lit (w : World) (l : List UInt8) (cs : Array Value) (h : cs.toList = Bs l) (n : Nat) (hn : l.length = n) (hm : n ≤ maxLen) :
    (w.alloc (.cells cs 5)).ownsRow w.heap.size 5 1 (.slice (some ⟨w.heap.size, 0, none⟩) n n) n (Bs l) := by
  have hs : cs.size = n := by rw [← Array.length_toList, h, Bs_length, hn]
  refine ⟨by rw [Bs_length]; omega, .inr ⟨w.heap.size, n, cs, rfl, Nat.le_refl _, heap_alloc_new w _, Nat.le_refl _, hm, by omega, ?_⟩⟩
  rw [h, List.take_of_length_le (by rw [Bs_length]; omega)]

theorem zig_below {n : Int} (h : n < 0) : 2 * -(n + 1) + 1 = zig n := by
  unfold zig
  rw [if_pos h]
  omega
theorem zig_from {n : Int} (h : ¬ n < 0) : 2 * n = zig n := by
  unfold zig
  rw [if_neg h]
  omega

end Go.Proofs.Ytpegkalhjnldkaa
