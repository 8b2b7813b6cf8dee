/- The document's numbers of eight digits of 32 bits: plain arithmetic. -/
import Derived.Test.YthpbipebpaeagaaDoorDw
namespace Go.Proofs.YthpbipebpaeagaaDoor
open Go.RowKit

/-- A number's eight digits, as cells. -/
def Nw (N : Nat) : List Value := Tabs .u32 (dw N) 8
theorem Nw_length (N : Nat) : (Nw N).length = 8 := Tabs_length ..
theorem Nw_get (N : Nat) {k : Nat} (hk : k < 8) : (Nw N)[k]? = some (.int .u32 ((dw N k : Nat) : Int)) := Tabs_get _ _ _ hk
theorem Nw_one (N : Nat) : (Nw N).toArray.all (·.oneCell') = true := Tabs_one ..
theorem Nw_sz (N M : Nat) : (Nw N).toArray.size = (Nw M).toArray.size := by rw [List.size_toArray, List.size_toArray, Nw_length, Nw_length]
theorem dw_zero (k : Nat) : dw 0 k = 0 := by unfold dw; rw [Nat.zero_div]
theorem Nw_zero : Nw 0 = [.int .u32 0, .int .u32 0, .int .u32 0, .int .u32 0, .int .u32 0, .int .u32 0, .int .u32 0, .int .u32 0] := by
  have h : Nw 0 = Tabs .u32 (fun _ => 0) 8 := Tabs_congr _ fun i _ => dw_zero i
  rw [h]
  rfl
theorem Nw_ext {l : List Value} (N : Nat) (hl : l.length = 8) (h : ∀ k, k < 8 → l[k]? = some (.int .u32 ((dw N k : Nat) : Int))) : l = Nw N := by
  refine List.ext_getElem? fun k => ?_
  by_cases hk : k < 8
  · rw [h k hk, Nw_get N hk]
  · rw [List.getElem?_eq_none (by omega), List.getElem?_eq_none (by rw [Nw_length]; omega)]
/-- 2^256. -/
def W8 : Nat := 4294967296 ^ 8
theorem W8_eq : W8 = 115792089237316195423570985008687907853269984665640564039457584007913129639936 := by decide
theorem W8_256 : W8 = 256 ^ 32 := by decide
theorem W8_pos : 0 < W8 := by decide
theorem dw_W8 (A c : Nat) {k : Nat} (hk : k < 8) : dw (A + W8 * c) k = dw A k := by
  unfold dw W8
  have e : (4294967296 : Nat) ^ 8 = 4294967296 ^ k * (4294967296 * 4294967296 ^ (7 - k)) := by
    rw [← Nat.pow_succ', ← Nat.pow_add]
    congr 1
    omega
  rw [e, Nat.mul_assoc, Nat.mul_assoc, Nat.add_mul_div_left _ _ (pW k), Nat.add_mul_mod_self_left]
theorem mod_W8 (A c : Nat) {k : Nat} (hk : k ≤ 8) : (A + W8 * c) % 4294967296 ^ k = A % 4294967296 ^ k := by
  have e : W8 = 4294967296 ^ k * 4294967296 ^ (8 - k) := by
    unfold W8
    rw [← Nat.pow_add]
    congr 1
    omega
  rw [e, Nat.mul_assoc, Nat.add_mul_mod_self_left]
theorem brq_W8 (A B c : Nat) {k : Nat} (hk : k ≤ 8) : brq (A + W8 * c) B k = brq A B k := by
  unfold brq
  rw [mod_W8 A c hk]
theorem brq_8 {A B : Nat} (hA : A < W8) (hB : B < W8) : brq A B 8 = if A < B then 1 else 0 := by
  unfold brq
  rw [Nat.mod_eq_of_lt (show A < 4294967296 ^ 8 from hA), Nat.mod_eq_of_lt (show B < 4294967296 ^ 8 from hB)]
/-- The difference, 2^256 more where it goes below 0. -/
def dif8 (A B : Nat) : Nat := A + W8 * (if A < B then 1 else 0) - B
theorem dif8_lt {A B : Nat} (_hA : A < W8) (hB : B < W8) : dif8 A B < W8 := by unfold dif8; split <;> omega
theorem dif8_dw {A B : Nat} (_hA : A < W8) (hB : B < W8) {k : Nat} (hk : k < 8) : dw (dif8 A B) k + dw B k + brq A B k = dw A k + 4294967296 * brq A B (k + 1) := by
  have h : dif8 A B + B = A + W8 * (if A < B then 1 else 0) := by unfold dif8; split <;> omega
  have h1 := dif_dw h k
  rwa [brq_W8 A B _ (by omega), brq_W8 A B _ (by omega), dw_W8 A _ hk] at h1
/-- One digit of a difference, as the program reckons it. -/
theorem dif8_step {A B : Nat} (hA : A < W8) (hB : B < W8) {k : Nat} (hk : k < 8) :
    IntKind.u32.wrap (IntKind.u64.wrap (IntKind.u64.wrap (((dw A k : Nat) : Int) - ((dw B k : Nat) : Int)) - ((brq A B k : Nat) : Int))) = ((dw (dif8 A B) k : Nat) : Int) ∧
    IntKind.u64.wrap (IntKind.u64.wrap (((dw A k : Nat) : Int) - ((dw B k : Nat) : Int)) - ((brq A B k : Nat) : Int)) / 9223372036854775808 = ((brq A B (k + 1) : Nat) : Int) ∧
    IntKind.u64.wrap (IntKind.u64.wrap (((dw A k : Nat) : Int) - ((dw B k : Nat) : Int)) - ((brq A B k : Nat) : Int)) % 4294967296 = ((dw (dif8 A B) k : Nat) : Int) := by
  have h := dif8_dw hA hB hk
  have l1 := dw_lt A k
  have l2 := dw_lt B k
  have l3 := brq_le A B k
  have l4 := brq_le A B (k + 1)
  have l5 := dw_lt (dif8 A B) k
  simp only [IntKind.wrap_u64, IntKind.wrap_u32]
  omega
theorem Tab_w (f : Nat → Nat) {k : Nat} (hk : k < 8) : (Tab .u32 f 8 k).set k (.int .u32 ((f k : Nat) : Int)) = Tab .u32 f 8 (k + 1) := Tab_set _ _ _ hk
/-- A number's bytes out of its digits. -/
theorem dw_byt (N i : Nat) : dw N (i / 4) / 2 ^ (8 * (i % 4)) % 256 = byt N i := by
  unfold dw byt
  have e : (4294967296 : Nat) = 2 ^ (8 * (i % 4)) * (256 * 2 ^ (24 - 8 * (i % 4))) := by
    rw [show (256 : Nat) = 2 ^ 8 from rfl, ← Nat.pow_add, ← Nat.pow_add, show 8 * (i % 4) + (8 + (24 - 8 * (i % 4))) = 32 by omega]
  have e2 : (4294967296 : Nat) ^ (i / 4) = 2 ^ (32 * (i / 4)) := by rw [show (4294967296 : Nat) = 2 ^ 32 from rfl, ← Nat.pow_mul]
  rw [e2]
  conv => lhs; rw [e]
  rw [Nat.mod_mul_right_div_self, Nat.mod_mul_right_mod, Nat.div_div_eq_div_mul, ← Nat.pow_add, show 32 * (i / 4) + 8 * (i % 4) = 8 * i by omega]
/-- One byte more. -/
theorem dw_byte {N k c : Nat} (hN : N < 256 ^ k) (hc : c < 256) (j : Nat) : dw (N + c * 256 ^ k) j = if j = k / 4 then dw N j ||| c * 2 ^ (8 * (k % 4)) else dw N j := by
  have e : 256 ^ k = 2 ^ (8 * (k % 4)) * 4294967296 ^ (k / 4) := by
    rw [pow256, show (4294967296 : Nat) = 2 ^ 32 from rfl, ← Nat.pow_mul, ← Nat.pow_add]
    congr 1
    omega
  have hq : N / 4294967296 ^ (k / 4) < 2 ^ (8 * (k % 4)) := (Nat.div_lt_iff_lt_mul (pW _)).2 (by rw [← e]; exact hN)
  have h7 : 2 ^ (8 * (k % 4)) ≤ 2 ^ 24 := Nat.pow_le_pow_right (by decide) (by omega)
  have hx : c * 2 ^ (8 * (k % 4)) + N / 4294967296 ^ (k / 4) < 4294967296 := by
    have h1 : (c + 1) * 2 ^ (8 * (k % 4)) ≤ 256 * 2 ^ 24 := Nat.mul_le_mul hc h7
    rw [Nat.add_mul] at h1
    omega
  have hw : dw N (k / 4) = N / 4294967296 ^ (k / 4) := Nat.mod_eq_of_lt (by omega)
  rw [e, ← Nat.mul_assoc]
  by_cases h1 : j = k / 4
  · subst h1
    rw [if_pos rfl, hw]
    unfold dw
    rw [Nat.add_mul_div_right _ _ (pW _), Nat.mod_eq_of_lt (by omega), Nat.add_comm, Nat.mul_comm c, Nat.two_pow_add_eq_or_of_lt hq, Nat.or_comm]
  · rw [if_neg h1]
    by_cases h2 : j < k / 4
    · unfold dw
      have e3 : (4294967296 : Nat) ^ (k / 4) = 4294967296 ^ j * (4294967296 * 4294967296 ^ (k / 4 - j - 1)) := by
        rw [← Nat.pow_succ', ← Nat.pow_add]
        congr 1
        omega
      rw [e3, show N + c * 2 ^ (8 * (k % 4)) * (4294967296 ^ j * (4294967296 * 4294967296 ^ (k / 4 - j - 1))) = N + 4294967296 ^ j * (4294967296 * (c * 2 ^ (8 * (k % 4)) * 4294967296 ^ (k / 4 - j - 1))) by rw [Nat.mul_left_comm (c * _), Nat.mul_left_comm (c * _)], Nat.add_mul_div_left _ _ (pW j), Nat.add_mul_mod_self_left]
    · have h3 : k / 4 + 1 ≤ j := by omega
      have hb : 2 ^ (8 * (k % 4)) * 4294967296 ^ (k / 4) ≤ 4294967296 ^ (k / 4 + 1) := by
        rw [Nat.pow_succ, Nat.mul_comm]
        exact Nat.mul_le_mul_left _ (by omega)
      rw [dw_of_lt' (N := N) (n := k / 4 + 1) (Nat.lt_of_lt_of_le hN (by rw [e]; exact hb)) h3]
      refine dw_of_lt' (n := k / 4 + 1) ?_ h3
      have hN2 : N < 2 ^ (8 * (k % 4)) * 4294967296 ^ (k / 4) := by rw [← e]; exact hN
      have h4 : (c + 1) * 2 ^ (8 * (k % 4)) * 4294967296 ^ (k / 4) ≤ 4294967296 * 4294967296 ^ (k / 4) := Nat.mul_le_mul_right _ (by
        have h1 : (c + 1) * 2 ^ (8 * (k % 4)) ≤ 256 * 2 ^ 24 := Nat.mul_le_mul hc h7
        omega)
      rw [Nat.pow_succ, Nat.mul_comm (4294967296 ^ (k / 4))]
      rw [Nat.add_mul, Nat.add_mul, Nat.one_mul] at h4
      omega
theorem Nw_byte (N : Nat) {k : Nat} (_hk : k < 32) : (Nw (N % 256 ^ k)).set (k / 4) (.int .u32 ((dw (N % 256 ^ k) (k / 4) ||| byt N k * 2 ^ (8 * (k % 4)) : Nat) : Int)) = Nw (N % 256 ^ (k + 1)) := by
  refine Nw_ext _ (by rw [List.length_set, Nw_length]) fun j hj => ?_
  rw [mod_byte, dw_byte (Nat.mod_lt _ (Nat.pow_pos (by decide))) (byt_lt N k), List.getElem?_set]
  by_cases e : j = k / 4
  · subst e; rw [if_pos rfl, if_pos rfl, if_pos (by rw [Nw_length]; exact hj)]
  · rw [if_neg (fun h => e h.symm), if_neg e, Nw_get _ hj]

end Go.Proofs.YthpbipebpaeagaaDoor
