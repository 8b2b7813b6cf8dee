/- The document's numbers of eight digits of 32 bits: plain arithmetic. The document's numbers: P, Small, Odd, minus, Bytes, Raw. The document's numbers: Bytes, Raw, Less, Odd. The document's numbers: Less, Odd. -/
import Derived.Test.YthpbipebpaeagaaDoorDw
import Derived.Test.YthpbipebpaeagaaDoorOdd
import Derived.Test.YthpbipebpaeagaaDoorVars
import Derived.Test.YthpbipebpaeagaaDoorRootM
namespace Go.Proofs.YthpbipebpaeagaaDoor
section
open Go.RowKit

/-- A number's eight digits, as cells. -/
def Nw (N : Nat) : List Value := Tabs .u32 (dw N) 8
theorem Nw_length (N : Nat) : (Nw N).length = 8 := Tabs_length ..
theorem Nw_get (N : Nat) {k : Nat} (hk : k < 8) : (Nw N)[k]? = some (.int .u32 ((dw N k : Nat) : Int)) := Tabs_get _ _ _ hk
theorem Nw_one (N : Nat) : (Nw N).toArray.all (·.oneCell') = true := Tabs_one ..
theorem Nw_sz (N M : Nat) : (Nw N).toArray.size = (Nw M).toArray.size := by rw [List.size_toArray, List.size_toArray, Nw_length, Nw_length]
theorem dw_zero (k : Nat) : dw 0 k = 0 := by unfold dw; rw [Nat.zero_div]
theorem Nw_zero : Nw 0 = [.int .u32 0, .int .u32 0, .int .u32 0, .int .u32 0, .int .u32 0, .int .u32 0, .int .u32 0, .int .u32 0] := by
  have h : Nw 0 = Tabs .u32 (fun _ => 0) 8 := Tabs_congr _ fun i _ => dw_zero i
  rw [h]
  rfl
theorem Nw_ext {l : List Value} (N : Nat) (hl : l.length = 8) (h : ∀ k, k < 8 → l[k]? = some (.int .u32 ((dw N k : Nat) : Int))) : l = Nw N := by
  refine List.ext_getElem? fun k => ?_
  by_cases hk : k < 8
  · rw [h k hk, Nw_get N hk]
  · rw [List.getElem?_eq_none (by omega), List.getElem?_eq_none (by rw [Nw_length]; omega)]
/-- 2^256. -/
def W8 : Nat := 4294967296 ^ 8
theorem W8_eq : W8 = 115792089237316195423570985008687907853269984665640564039457584007913129639936 := by decide
theorem W8_256 : W8 = 256 ^ 32 := by decide
theorem W8_pos : 0 < W8 := by decide
theorem dw_W8 (A c : Nat) {k : Nat} (hk : k < 8) : dw (A + W8 * c) k = dw A k := by
  unfold dw W8
  have e : (4294967296 : Nat) ^ 8 = 4294967296 ^ k * (4294967296 * 4294967296 ^ (7 - k)) := by
    rw [← Nat.pow_succ', ← Nat.pow_add]
    congr 1
    omega
  rw [e, Nat.mul_assoc, Nat.mul_assoc, Nat.add_mul_div_left _ _ (pW k), Nat.add_mul_mod_self_left]
theorem mod_W8 (A c : Nat) {k : Nat} (hk : k ≤ 8) : (A + W8 * c) % 4294967296 ^ k = A % 4294967296 ^ k := by
  have e : W8 = 4294967296 ^ k * 4294967296 ^ (8 - k) := by
    unfold W8
    rw [← Nat.pow_add]
    congr 1
    omega
  rw [e, Nat.mul_assoc, Nat.add_mul_mod_self_left]
theorem brq_W8 (A B c : Nat) {k : Nat} (hk : k ≤ 8) : brq (A + W8 * c) B k = brq A B k := by
  unfold brq
  rw [mod_W8 A c hk]
theorem brq_8 {A B : Nat} (hA : A < W8) (hB : B < W8) : brq A B 8 = if A < B then 1 else 0 := by
  unfold brq
  rw [Nat.mod_eq_of_lt (show A < 4294967296 ^ 8 from hA), Nat.mod_eq_of_lt (show B < 4294967296 ^ 8 from hB)]
/-- The difference, 2^256 more where it goes below 0. -/
def dif8 (A B : Nat) : Nat := A + W8 * (if A < B then 1 else 0) - B
theorem dif8_lt {A B : Nat} (_hA : A < W8) (hB : B < W8) : dif8 A B < W8 := by unfold dif8; split <;> omega
theorem dif8_dw {A B : Nat} (_hA : A < W8) (hB : B < W8) {k : Nat} (hk : k < 8) : dw (dif8 A B) k + dw B k + brq A B k = dw A k + 4294967296 * brq A B (k + 1) := by
  have h : dif8 A B + B = A + W8 * (if A < B then 1 else 0) := by unfold dif8; split <;> omega
  have h1 := dif_dw h k
  rwa [brq_W8 A B _ (by omega), brq_W8 A B _ (by omega), dw_W8 A _ hk] at h1
/-- One digit of a difference, as the program reckons it. -/
theorem dif8_step {A B : Nat} (hA : A < W8) (hB : B < W8) {k : Nat} (hk : k < 8) :
    IntKind.u32.wrap (IntKind.u64.wrap (IntKind.u64.wrap (((dw A k : Nat) : Int) - ((dw B k : Nat) : Int)) - ((brq A B k : Nat) : Int))) = ((dw (dif8 A B) k : Nat) : Int) ∧
    IntKind.u64.wrap (IntKind.u64.wrap (((dw A k : Nat) : Int) - ((dw B k : Nat) : Int)) - ((brq A B k : Nat) : Int)) / 9223372036854775808 = ((brq A B (k + 1) : Nat) : Int) ∧
    IntKind.u64.wrap (IntKind.u64.wrap (((dw A k : Nat) : Int) - ((dw B k : Nat) : Int)) - ((brq A B k : Nat) : Int)) % 4294967296 = ((dw (dif8 A B) k : Nat) : Int) := by
  have h := dif8_dw hA hB hk
  have l1 := dw_lt A k
  have l2 := dw_lt B k
  have l3 := brq_le A B k
  have l4 := brq_le A B (k + 1)
  have l5 := dw_lt (dif8 A B) k
  simp only [IntKind.wrap_u64, IntKind.wrap_u32]
  omega
theorem Tab_w (f : Nat → Nat) {k : Nat} (hk : k < 8) : (Tab .u32 f 8 k).set k (.int .u32 ((f k : Nat) : Int)) = Tab .u32 f 8 (k + 1) := Tab_set _ _ _ hk
/-- A number's bytes out of its digits. -/
theorem dw_byt (N i : Nat) : dw N (i / 4) / 2 ^ (8 * (i % 4)) % 256 = byt N i := by
  unfold dw byt
  have e : (4294967296 : Nat) = 2 ^ (8 * (i % 4)) * (256 * 2 ^ (24 - 8 * (i % 4))) := by
    rw [show (256 : Nat) = 2 ^ 8 from rfl, ← Nat.pow_add, ← Nat.pow_add, show 8 * (i % 4) + (8 + (24 - 8 * (i % 4))) = 32 by omega]
  have e2 : (4294967296 : Nat) ^ (i / 4) = 2 ^ (32 * (i / 4)) := by rw [show (4294967296 : Nat) = 2 ^ 32 from rfl, ← Nat.pow_mul]
  rw [e2]
  conv => lhs; rw [e]
  rw [Nat.mod_mul_right_div_self, Nat.mod_mul_right_mod, Nat.div_div_eq_div_mul, ← Nat.pow_add, show 32 * (i / 4) + 8 * (i % 4) = 8 * i by omega]
/-- One byte more. -/
theorem dw_byte {N k c : Nat} (hN : N < 256 ^ k) (hc : c < 256) (j : Nat) : dw (N + c * 256 ^ k) j = if j = k / 4 then dw N j ||| c * 2 ^ (8 * (k % 4)) else dw N j := by
  have e : 256 ^ k = 2 ^ (8 * (k % 4)) * 4294967296 ^ (k / 4) := by
    rw [pow256, show (4294967296 : Nat) = 2 ^ 32 from rfl, ← Nat.pow_mul, ← Nat.pow_add]
    congr 1
    omega
  have hq : N / 4294967296 ^ (k / 4) < 2 ^ (8 * (k % 4)) := (Nat.div_lt_iff_lt_mul (pW _)).2 (by rw [← e]; exact hN)
  have h7 : 2 ^ (8 * (k % 4)) ≤ 2 ^ 24 := Nat.pow_le_pow_right (by decide) (by omega)
  have hx : c * 2 ^ (8 * (k % 4)) + N / 4294967296 ^ (k / 4) < 4294967296 := by
    have h1 : (c + 1) * 2 ^ (8 * (k % 4)) ≤ 256 * 2 ^ 24 := Nat.mul_le_mul hc h7
    rw [Nat.add_mul] at h1
    omega
  have hw : dw N (k / 4) = N / 4294967296 ^ (k / 4) := Nat.mod_eq_of_lt (by omega)
  rw [e, ← Nat.mul_assoc]
  by_cases h1 : j = k / 4
  · subst h1
    rw [if_pos rfl, hw]
    unfold dw
    rw [Nat.add_mul_div_right _ _ (pW _), Nat.mod_eq_of_lt (by omega), Nat.add_comm, Nat.mul_comm c, Nat.two_pow_add_eq_or_of_lt hq, Nat.or_comm]
  · rw [if_neg h1]
    by_cases h2 : j < k / 4
    · unfold dw
      have e3 : (4294967296 : Nat) ^ (k / 4) = 4294967296 ^ j * (4294967296 * 4294967296 ^ (k / 4 - j - 1)) := by
        rw [← Nat.pow_succ', ← Nat.pow_add]
        congr 1
        omega
      rw [e3, show N + c * 2 ^ (8 * (k % 4)) * (4294967296 ^ j * (4294967296 * 4294967296 ^ (k / 4 - j - 1))) = N + 4294967296 ^ j * (4294967296 * (c * 2 ^ (8 * (k % 4)) * 4294967296 ^ (k / 4 - j - 1))) by rw [Nat.mul_left_comm (c * _), Nat.mul_left_comm (c * _)], Nat.add_mul_div_left _ _ (pW j), Nat.add_mul_mod_self_left]
    · have h3 : k / 4 + 1 ≤ j := by omega
      have hb : 2 ^ (8 * (k % 4)) * 4294967296 ^ (k / 4) ≤ 4294967296 ^ (k / 4 + 1) := by
        rw [Nat.pow_succ, Nat.mul_comm]
        exact Nat.mul_le_mul_left _ (by omega)
      rw [dw_of_lt' (N := N) (n := k / 4 + 1) (Nat.lt_of_lt_of_le hN (by rw [e]; exact hb)) h3]
      refine dw_of_lt' (n := k / 4 + 1) ?_ h3
      have hN2 : N < 2 ^ (8 * (k % 4)) * 4294967296 ^ (k / 4) := by rw [← e]; exact hN
      have h4 : (c + 1) * 2 ^ (8 * (k % 4)) * 4294967296 ^ (k / 4) ≤ 4294967296 * 4294967296 ^ (k / 4) := Nat.mul_le_mul_right _ (by
        have h1 : (c + 1) * 2 ^ (8 * (k % 4)) ≤ 256 * 2 ^ 24 := Nat.mul_le_mul hc h7
        omega)
      rw [Nat.pow_succ, Nat.mul_comm (4294967296 ^ (k / 4))]
      rw [Nat.add_mul, Nat.add_mul, Nat.one_mul] at h4
      omega
theorem Nw_byte (N : Nat) {k : Nat} (_hk : k < 32) : (Nw (N % 256 ^ k)).set (k / 4) (.int .u32 ((dw (N % 256 ^ k) (k / 4) ||| byt N k * 2 ^ (8 * (k % 4)) : Nat) : Int)) = Nw (N % 256 ^ (k + 1)) := by
  refine Nw_ext _ (by rw [List.length_set, Nw_length]) fun j hj => ?_
  rw [mod_byte, dw_byte (Nat.mod_lt _ (Nat.pow_pos (by decide))) (byt_lt N k), List.getElem?_set]
  by_cases e : j = k / 4
  · subst e; rw [if_pos rfl, if_pos rfl, if_pos (by rw [Nw_length]; exact hj)]
  · rw [if_neg (fun h => e h.symm), if_neg e, Nw_get _ hj]
end

section
set_option maxRecDepth 100000
set_option linter.unusedSimpArgs false
open Go.RowKit

theorem nw_size : (Tryd.prog.info? 30).map (·.size) = some 8 := by kernel_rfl
theorem nw_info (N : Nat) : (Tryd.prog.info? 30).map (·.size) = some (Nw N).toArray.size := nw_size.trans (by rw [List.size_toArray, Nw_length])
theorem zero8 : (#[Value.int .u32 0, .int .u32 0, .int .u32 0, .int .u32 0, .int .u32 0, .int .u32 0, .int .u32 0, .int .u32 0] : Array Value) = (Nw 0).toArray := by rw [Nw_zero]
theorem P_list : Nw pp = [.int .u32 4294967277, .int .u32 4294967295, .int .u32 4294967295, .int .u32 4294967295, .int .u32 4294967295, .int .u32 4294967295, .int .u32 4294967295, .int .u32 2147483647] := by kernel_rfl
theorem pp_W8 : pp < W8 := by decide

set_option maxHeartbeats 1600000 in
theorem P_any (w : World) : Calls Tryd.prog 25 #[] w fun e w' => e = .returned (.agg (Nw pp).toArray) ∧ Below w.heap.size w w' := by
  rw [P_list]
  go_enter Tryd.func25, Tryd.ntmps25
  go_wp2
  refine bodyPost_ret (results_cell_row (by rfl) _ _ w.heap.size _ _ _ _ (by rfl) (heap_alloc_new _ _) Tryd.underlying30 rfl (by kernel_rfl)) rfl ?_
  exact ⟨rfl, (Below.refl _ _).alloc (Nat.le_refl _) _⟩

set_option maxHeartbeats 3200000 in
theorem minus_ref (A B : Nat) (hA : A < W8) (hB : B < W8) (w : World) :
    Calls Tryd.prog 67 #[.agg (Nw A).toArray, .agg (Nw B).toArray] w fun e w' => e = .returned (.tuple #[.agg (Nw (dif8 A B)).toArray, .bool (decide (A < B))]) ∧ Below w.heap.size w w' := by
  have HST := Lib.hid (fun k (hk : k < 8) => dif8_step hA hB hk)
  have HBR := Lib.hid (fun k (hk : k < 8) => brq_le A B k)
  have HE := Lib.hid (brq_8 hA hB)
  have HS4 := Lib.hid nw_info
  clear hA hB
  go_enter Tryd.func67, Tryd.ntmps67
  go_wp2_with fail
  go_loopw [7, 8] (fun u i wr => ∃ k : Nat, k ≤ 8 ∧ i = .int .i64 k ∧ u = .int .u64 ((brq A B k : Nat) : Int) ∧ Row wr w.heap.size 30 (Nw A) ∧ Row wr (w.heap.size + 1) 30 (Nw B) ∧ Row wr (w.heap.size + 1 + 1 + 1) 30 (Tab .u32 (dw (dif8 A B)) 8 k) ∧ Row wr (w.heap.size + 1 + 1) 30 (Nw 0) ∧ Below w.heap.size w wr) (fun _ i _ => 8 - (intOf i).toNat)
  case atStart =>
    refine ⟨0, Nat.zero_le _, rfl, by rw [brq_zero]; rfl, ((Row.new w _ _).alloc _).alloc _ |>.alloc _, ((Row.new1 w _ _ _).alloc _).alloc _, ?_, ?_, Below.alloc4 _ _ _ _ _⟩
    · rw [Tab_zero]
      exact Row.new3 w _ _ _ _ _
    · rw [Nw_zero]
      exact (Row.new2 w _ _ _ _).alloc _
  case round =>
    obtain ⟨k, hkn, rfl, rfl, ha, hb, hrow, hres, hbe⟩ := hrel
    by_cases hlt : k < 8
    · have hca := ha.cell (Nw_get A hlt)
      have hcb := hb.cell (Nw_get B hlt)
      have hold := hrow.cell (Tab_get .u32 (dw (dif8 A B)) 8 k hlt)
      have hfree := hrow.free k
      have hset := hrow.set k (.int .u32 ((dw (dif8 A B) k : Nat) : Int))
      rw [Tab_w _ hlt] at hset
      have ha2 := ha.setCell (p := ⟨w.heap.size + 1 + 1 + 1, k, none⟩) (by show _ ≠ w.heap.size + 1 + 1 + 1; omega) (.int .u32 ((dw (dif8 A B) k : Nat) : Int))
      have hb2 := hb.setCell (p := ⟨w.heap.size + 1 + 1 + 1, k, none⟩) (by show _ ≠ w.heap.size + 1 + 1 + 1; omega) (.int .u32 ((dw (dif8 A B) k : Nat) : Int))
      have hres2 := hres.setCell (p := ⟨w.heap.size + 1 + 1 + 1, k, none⟩) (by show _ ≠ w.heap.size + 1 + 1 + 1; omega) (.int .u32 ((dw (dif8 A B) k : Nat) : Int))
      have hbe2 := hbe.setCell (p := ⟨w.heap.size + 1 + 1 + 1, k, none⟩) (by simp; omega) (.int .u32 ((dw (dif8 A B) k : Nat) : Int))
      obtain ⟨hs1, hs2, hs3⟩ := HST.out k hlt
      have lx := dw_lt A k
      have ly := dw_lt B k
      have lu := HBR.out k hlt
      generalize dw (dif8 A B) k = s at *
      generalize dw A k = x at *
      generalize dw B k = y at *
      generalize hoo : brq A B (k + 1) = o at *
      have HO := Lib.hid hoo
      clear hoo
      generalize brq A B k = u at *
      have b0 : (0 : Int) ≤ (k : Int) := by omega
      have b1 : (k : Int) < 8 := by omega
      have HSET := Lib.hid hset
      have HA2 := Lib.hid ha2
      have HB2 := Lib.hid hb2
      have HRES2 := Lib.hid hres2
      have HBE2 := Lib.hid hbe2
      have HS1 := Lib.hid hs1
      have HS2 := Lib.hid hs2
      have HS3 := Lib.hid hs3
      clear ha hb hrow hres hbe hset ha2 hb2 hres2 hbe2 hs1 hs2 hs3
      go_wp2_with fail
      go_region
      have hdr : (0 : Int) ≤ IntKind.u64.wrap (IntKind.u64.wrap ((x : Int) - (y : Int)) - (u : Int)) ∧ IntKind.u64.wrap (IntKind.u64.wrap ((x : Int) - (y : Int)) - (u : Int)) < 18446744073709551616 := by
        simp only [IntKind.wrap_u64]
        omega
      generalize IntKind.u64.wrap (IntKind.u64.wrap ((x : Int) - (y : Int)) - (u : Int)) = D at *
      obtain ⟨hd0, hd1⟩ := hdr
      have hca2 := hca
      clear hca2
      go_wp2_with fail
      first | rw [HS3.out] | rw [HS1.out]
      go_wp2_with fail
      go_roundw
      case rel =>
        refine ⟨k + 1, by omega, by go_num, by rw [HS2.out, ← HO.out], HA2.out, HB2.out, HSET.out, HRES2.out, HBE2.out.drew⟩
      case measure => simp [intOf]; omega
    · obtain rfl : k = 8 := by omega
      rw [Tab_done] at hrow
      have hrow2 : Row wr (w.heap.size + 1 + 1 + 1) 30 (Nw (dif8 A B)) := hrow
      have hde : (((brq A B 8 : Nat) : Int) == 1) = decide (A < B) := by
        rw [HE.out, Bool.eq_iff_iff, beq_iff_eq, decide_eq_true_iff]
        split <;> omega
      have HROW := Lib.hid hrow2
      have HRES := Lib.hid hres
      have HBE := Lib.hid hbe
      have HDE := Lib.hid hde
      clear hrow hrow2 hres hbe hde ha hb
      generalize brq A B 8 = u at *
      go_wp2_with (first
        | (refine wpList_load_row rfl 30 (.tmp 6) rfl (w.heap.size + 1 + 1 + 1) rfl 30 _ (0, 0) _ HROW.out Tryd.underlying30 rfl (HS4.out _) ?_)
        | (refine wpList_store_row rfl 30 (.tmp 4) (.tmp 31) rfl (w.heap.size + 1 + 1) _ rfl rfl 30 _ HRES.out (HS4.out _) (Nw_sz _ _) (Nw_one _) ?_))
      rw [HDE.out]
      refine bodyPost_ret (results_row_slot (by rfl) _ _ (w.heap.size + 1 + 1) _ _ _ _ _ (by rfl) (setRow_heap wr (w.heap.size + 1 + 1) _ (Nw (dif8 A B)).toArray _ _ HRES.out) Tryd.underlying30 rfl (HS4.out _) (by rfl)) rfl ?_
      exact ⟨rfl, below_setRow HBE.out (by omega) _⟩
end

section
set_option maxRecDepth 100000
set_option linter.unusedSimpArgs false
open Go.RowKit

theorem rshr_byte (D t : Nat) : ((D : Nat) : Int) / 2 ^ t % 256 = ((D / 2 ^ t % 256 : Nat) : Int) := by
  have e : ((D : Nat) : Int) / 2 ^ t = ((D / 2 ^ t : Nat) : Int) := by simp
  rw [e]
  omega

set_option maxHeartbeats 1600000 in
theorem rbytes_ref (N : Nat) (w : World) :
    Calls Tryd.prog 17 #[.agg (Nw N).toArray] w fun e w' => e = .returned (.agg (By N 32).toArray) ∧ Below w.heap.size w w' := by
  have HSB := Lib.hid by_info
  go_enter Tryd.func17, Tryd.ntmps17
  go_wp2_with fail
  go_loopw [4] (fun i wr => ∃ k : Nat, k ≤ 32 ∧ i = .int .i64 k ∧ Row wr w.heap.size 30 (Nw N) ∧ Row wr (w.heap.size + 1 + 1) 22 (Tab .u8 (byt N) 32 k) ∧ Row wr (w.heap.size + 1) 22 (Tab .u8 (byt N) 32 0) ∧ Below w.heap.size w wr) (fun i _ => 32 - (intOf i).toNat)
  case atStart =>
    refine ⟨0, Nat.zero_le _, rfl, ((Row.new w _ _).alloc _).alloc _, ?_, ?_, Below.alloc3 _ _ _ _⟩
    · rw [Tab_zero]
      exact Row.new2 w _ _ (List.replicate 32 (.int .u8 0)) _
    · rw [Tab_zero]
      exact (Row.new1 w _ (List.replicate 32 (.int .u8 0)) _).alloc _
  case round =>
    obtain ⟨k, hkn, rfl, hn, hrow, hres, hbe⟩ := hrel
    by_cases hlt : k < 32
    · have hcell := hn.cell (Nw_get N (k := k / 4) (by omega))
      have hfree := hrow.free k
      have hold := hrow.cell (Tab_get .u8 (byt N) 32 k hlt)
      have hset := hrow.set k (.int .u8 ((byt N k : Nat) : Int))
      rw [By_set N 32 hlt] at hset
      have hn2 := hn.setCell (p := ⟨w.heap.size + 1 + 1, k, none⟩) (by show _ ≠ w.heap.size + 1 + 1; omega) (.int .u8 ((byt N k : Nat) : Int))
      have hres2 := hres.setCell (p := ⟨w.heap.size + 1 + 1, k, none⟩) (by show _ ≠ w.heap.size + 1 + 1; omega) (.int .u8 ((byt N k : Nat) : Int))
      have hb2 := hbe.setCell (p := ⟨w.heap.size + 1 + 1, k, none⟩) (by simp; omega) (.int .u8 ((byt N k : Nat) : Int))
      have hrun := rshr_byte (dw N (k / 4)) (8 * (k % 4))
      rw [dw_byt] at hrun
      have hd : Int.tdiv (k : Int) 4 = ((k / 4 : Nat) : Int) := by rw [Int.tdiv_eq_ediv_of_nonneg (by omega)]; omega
      have hm : Int.tmod (k : Int) 4 = ((k % 4 : Nat) : Int) := by rw [Int.tmod_eq_emod_of_nonneg (by omega)]; omega
      have hd' : (k : Int) / 4 = ((k / 4 : Nat) : Int) := by omega
      have hm' : (k : Int) % 4 = ((k % 4 : Nat) : Int) := by omega
      have hi8 : k / 4 < 8 := by omega
      have hj8 : k % 4 < 4 := by omega
      generalize dw N (k / 4) = x at *
      generalize byt N k = y at *
      generalize k / 4 = i at *
      generalize k % 4 = j at *
      have b0 : (0 : Int) ≤ (i : Int) := by omega
      have b1 : (i : Int) < 8 := by omega
      have b2 : (0 : Int) ≤ 8 * (j : Int) := by omega
      have b3 : 8 * (j : Int) < 32 := by omega
      have b4 : (0 : Int) ≤ (k : Int) := by omega
      have b5 : (k : Int) < 32 := by omega
      have hw1 : IntKind.i64.wrap ((i : Nat) : Int) = (i : Int) := IntWalk.i64_in _ (by omega)
      have HSET := Lib.hid hset
      have HN2 := Lib.hid hn2
      have HRES2 := Lib.hid hres2
      have HB2 := Lib.hid hb2
      clear hn hrow hres hbe hset hn2 hres2 hb2
      go_wp2_with fail
      go_roundw
      case rel => exact ⟨k + 1, by omega, by go_num, HN2.out, HSET.out, HRES2.out, HB2.out⟩
      case measure => simp [intOf]; omega
    · obtain rfl : k = 32 := by omega
      rw [Tab_done] at hrow
      rw [Tab_zero] at hres
      have hO : (List.replicate 32 (Value.int .u8 0)).toArray.size = (By N 32).toArray.size := by rw [List.size_toArray, List.size_toArray, By_length, List.length_replicate]
      have hrow2 : Row wr (w.heap.size + 1 + 1) 22 (By N 32) := hrow
      have HROW := Lib.hid hrow2
      have HRES := Lib.hid hres
      have HBE := Lib.hid hbe
      have HO4 := Lib.hid hO
      clear hrow hrow2 hres hbe hO hn
      go_wp2_with (first
        | (refine wpList_load_row rfl 22 (.tmp 3) rfl (w.heap.size + 1 + 1) rfl 22 _ (0, 0) _ HROW.out Tryd.underlying22 rfl (HSB.out _) ?_)
        | (refine wpList_store_row rfl 22 (.tmp 2) (.tmp 20) rfl (w.heap.size + 1) _ rfl rfl 22 _ HRES.out (HSB.out _) HO4.out (By_one _ _) ?_))
      have hgot := setRow_heap wr (w.heap.size + 1) _ (By N 32).toArray _ _ HRES.out
      refine bodyPost_ret (results_cell_row (by rfl) _ _ (w.heap.size + 1) _ _ _ _ (by rfl) hgot Tryd.underlying22 rfl (HSB.out _)) rfl ?_
      exact ⟨rfl, below_setRow HBE.out (by omega) _⟩

set_option maxHeartbeats 1600000 in
theorem raw_ref (N : Nat) (hN : N < 256 ^ 32) (w : World) :
    Calls Tryd.prog 24 #[.agg (By N 32).toArray] w fun e w' => e = .returned (.agg (Nw N).toArray) ∧ Below w.heap.size w w' := by
  have HS4 := Lib.hid nw_info
  have HN := Lib.hid hN
  clear hN
  go_enter Tryd.func24, Tryd.ntmps24
  go_wp2_with fail
  go_loopw [4] (fun i wr => ∃ k : Nat, k ≤ 32 ∧ i = .int .i64 k ∧ Row wr w.heap.size 22 (By N 32) ∧ Row wr (w.heap.size + 1 + 1) 30 (Nw (N % 256 ^ k)) ∧ Row wr (w.heap.size + 1) 30 (Nw 0) ∧ Below w.heap.size w wr) (fun i _ => 32 - (intOf i).toNat)
  case atStart =>
    refine ⟨0, Nat.zero_le _, rfl, ((Row.new w _ _).alloc _).alloc _, ?_, ?_, Below.alloc3 _ _ _ _⟩
    · rw [Nat.pow_zero, Nat.mod_one, Nw_zero]
      exact Row.new2 w _ _ _ _
    · rw [Nw_zero]
      exact (Row.new1 w _ _ _).alloc _
  case round =>
    obtain ⟨k, hkn, rfl, hn, hrow, hres, hbe⟩ := hrel
    by_cases hlt : k < 32
    · have hcell := hn.cell (By_get N 32 hlt)
      have hfree := hrow.free (k / 4)
      have hold := hrow.cell (Nw_get (N % 256 ^ k) (k := k / 4) (by omega))
      have hset := hrow.set (k / 4) (.int .u32 ((dw (N % 256 ^ k) (k / 4) ||| byt N k * 2 ^ (8 * (k % 4)) : Nat) : Int))
      rw [Nw_byte N hlt] at hset
      have hn2 := hn.setCell (p := ⟨w.heap.size + 1 + 1, k / 4, none⟩) (by show _ ≠ w.heap.size + 1 + 1; omega) (.int .u32 ((dw (N % 256 ^ k) (k / 4) ||| byt N k * 2 ^ (8 * (k % 4)) : Nat) : Int))
      have hres2 := hres.setCell (p := ⟨w.heap.size + 1 + 1, k / 4, none⟩) (by show _ ≠ w.heap.size + 1 + 1; omega) (.int .u32 ((dw (N % 256 ^ k) (k / 4) ||| byt N k * 2 ^ (8 * (k % 4)) : Nat) : Int))
      have hb2 := hbe.setCell (p := ⟨w.heap.size + 1 + 1, k / 4, none⟩) (by simp; omega) (.int .u32 ((dw (N % 256 ^ k) (k / 4) ||| byt N k * 2 ^ (8 * (k % 4)) : Nat) : Int))
      have lb := byt_lt N k
      have lx := dw_lt (N % 256 ^ k) (k / 4)
      have hsm : byt N k * 2 ^ (8 * (k % 4)) < 4294967296 := by
        have h7 : 2 ^ (8 * (k % 4)) ≤ 2 ^ 24 := Nat.pow_le_pow_right (by decide) (by omega)
        have h1 := Nat.mul_le_mul (show byt N k ≤ 255 by omega) h7
        omega
      have hshl : (((byt N k : Nat) : Int) * 2 ^ (8 * (k % 4))) % 4294967296 = ((byt N k * 2 ^ (8 * (k % 4)) : Nat) : Int) := by
        have e : ((byt N k : Nat) : Int) * 2 ^ (8 * (k % 4)) = ((byt N k * 2 ^ (8 * (k % 4)) : Nat) : Int) := by simp
        rw [e]
        omega
      have hor := u32_or_nat _ _ lx hsm
      have hd : Int.tdiv (k : Int) 4 = ((k / 4 : Nat) : Int) := by rw [Int.tdiv_eq_ediv_of_nonneg (by omega)]; omega
      have hm : Int.tmod (k : Int) 4 = ((k % 4 : Nat) : Int) := by rw [Int.tmod_eq_emod_of_nonneg (by omega)]; omega
      have hd' : (k : Int) / 4 = ((k / 4 : Nat) : Int) := by omega
      have hm' : (k : Int) % 4 = ((k % 4 : Nat) : Int) := by omega
      have hi8 : k / 4 < 8 := by omega
      have hj8 : k % 4 < 4 := by omega
      generalize dw (N % 256 ^ k) (k / 4) ||| byt N k * 2 ^ (8 * (k % 4)) = z at *
      generalize byt N k * 2 ^ (8 * (k % 4)) = s at *
      generalize dw (N % 256 ^ k) (k / 4) = x at *
      generalize byt N k = y at *
      generalize k / 4 = i at *
      generalize k % 4 = j at *
      have b0 : (0 : Int) ≤ (i : Int) := by omega
      have b1 : (i : Int) < 8 := by omega
      have b2 : (0 : Int) ≤ 8 * (j : Int) := by omega
      have b3 : 8 * (j : Int) < 32 := by omega
      have b4 : (0 : Int) ≤ (k : Int) := by omega
      have b5 : (k : Int) < 32 := by omega
      have hw1 : IntKind.i64.wrap ((i : Nat) : Int) = (i : Int) := IntWalk.i64_in _ (by omega)
      have HSET := Lib.hid hset
      have HN2 := Lib.hid hn2
      have HRES2 := Lib.hid hres2
      have HB2 := Lib.hid hb2
      have HSHL := Lib.hid hshl
      have HOR := Lib.hid hor
      clear hn hrow hres hbe hset hn2 hres2 hb2 hshl hor hsm
      go_wp2_with fail
      go_region
      rw [HSHL.out, HOR.out]
      generalize wr.setCell ⟨w.heap.size + 1 + 1, i, none⟩ (Value.int .u32 ((z : Nat) : Int)) = wy at *
      clear hd hm hd' hm' hw1 hcell hold hfree
      go_wp2_with fail
      go_roundw
      case rel => exact ⟨k + 1, by omega, by go_num, HN2.out, HSET.out, HRES2.out, HB2.out.drew⟩
      case measure => simp [intOf]; omega
    · obtain rfl : k = 32 := by omega
      rw [Nat.mod_eq_of_lt HN.out] at hrow
      have HROW := Lib.hid hrow
      have HRES := Lib.hid hres
      have HBE := Lib.hid hbe
      clear hrow hres hbe hn
      go_wp2_with (first
        | (refine wpList_load_row rfl 30 (.tmp 3) rfl (w.heap.size + 1 + 1) rfl 30 _ (0, 0) _ HROW.out Tryd.underlying30 rfl (HS4.out _) ?_)
        | (refine wpList_store_row rfl 30 (.tmp 2) (.tmp 25) rfl (w.heap.size + 1) _ rfl rfl 30 _ HRES.out (HS4.out _) (Nw_sz _ _) (Nw_one _) ?_))
      have hgot := setRow_heap wr (w.heap.size + 1) _ (Nw N).toArray _ _ HRES.out
      refine bodyPost_ret (results_cell_row (by rfl) _ _ (w.heap.size + 1) _ _ _ _ (by rfl) hgot Tryd.underlying30 rfl (HS4.out _)) rfl ?_
      exact ⟨rfl, below_setRow HBE.out (by omega) _⟩
end

section
set_option maxRecDepth 100000
set_option linter.unusedSimpArgs false
open Go.RowKit

set_option maxHeartbeats 1600000 in
theorem less_ref (A B : Nat) (hA : A < W8) (hB : B < W8) (w : World) :
    Calls Tryd.prog 23 #[.agg (Nw A).toArray, .agg (Nw B).toArray] w fun e w' => e = .returned (.bool (decide (A < B))) ∧ Below w.heap.size w w' := by
  have h0 : A / 4294967296 ^ 8 = B / 4294967296 ^ 8 := by rw [Nat.div_eq_of_lt (show A < 4294967296 ^ 8 from hA), Nat.div_eq_of_lt (show B < 4294967296 ^ 8 from hB)]
  have hfin : A / 4294967296 ^ 0 = B / 4294967296 ^ 0 → decide (A < B) = false := fun h => by
    rw [Nat.pow_zero, Nat.div_one, Nat.div_one] at h
    rw [decide_eq_false (by omega)]
  have H0 := Lib.hid h0
  have HFIN := Lib.hid hfin
  have HCS := Lib.hid (fun i => cmq_same (A := A) (B := B) (i := i))
  have HCL := Lib.hid (fun i => cmq_less (A := A) (B := B) (i := i))
  clear hA hB h0 hfin
  go_enter Tryd.func23, Tryd.ntmps23
  go_wp2_with fail
  go_loopw [5] (fun i wr => ∃ k : Nat, k ≤ 8 ∧ i = .int .i64 ((k : Int) - 1) ∧ A / 4294967296 ^ k = B / 4294967296 ^ k ∧ Row wr w.heap.size 30 (Nw A) ∧ Row wr (w.heap.size + 1) 30 (Nw B) ∧ Below w.heap.size w wr) (fun i _ => (intOf i + 1).toNat)
  case atStart => exact ⟨8, Nat.le_refl _, rfl, H0.out, (Row.new w _ _).alloc _, Row.new1 w _ _ _, Below.alloc2 _ _ _⟩
  case round =>
    obtain ⟨k, hk, rfl, heq, ha, hb, hbe⟩ := hrel
    by_cases hk0 : k = 0
    · subst hk0
      have HF := Lib.hid (HFIN.out heq)
      rw [show (((0 : Nat) : Int) - 1) = -1 from rfl]
      have HBE := Lib.hid hbe
      clear heq ha hb hbe
      go_wp2_with fail
      go_ret
      exact ⟨by rw [HF.out]; rfl, HBE.out⟩
    · obtain ⟨i, rfl⟩ : ∃ i, k = i + 1 := ⟨k - 1, by omega⟩
      have hii : (((i + 1 : Nat) : Int) - 1) = (i : Int) := by omega
      rw [hii]
      have hi8 : i < 8 := by omega
      have b0 : (0 : Int) ≤ (i : Int) := by omega
      have b1 : (i : Int) < 8 := by omega
      have hs := HCS.out i heq
      have hl := HCL.out i heq
      have hca := ha.cell (Nw_get A hi8)
      have hcb := hb.cell (Nw_get B hi8)
      have lx := dw_lt A i
      have ly := dw_lt B i
      generalize dw A i = x at *
      generalize dw B i = y at *
      have HA := Lib.hid ha
      have HB := Lib.hid hb
      have HBE := Lib.hid hbe
      by_cases hxy : x = y
      · subst hxy
        have HS := Lib.hid (hs rfl)
        clear hs hl heq hii ha hb hbe
        go_wp2_with fail
        go_region
        go_wp2_with fail
        go_roundw
        case rel => exact ⟨i, by omega, rfl, HS.out, HA.out, HB.out, HBE.out.drew⟩
        case measure => simp [intOf] <;> omega
      · have hne : ((x : Int) != (y : Int)) = true := by rw [bne_iff_ne]; omega
        have hlt := hl hxy
        have hli : decide ((x : Int) < (y : Int)) = decide (A < B) := by rw [← hlt]; congr 1; exact propext (by omega)
        have HLI := Lib.hid hli
        have HLN := Lib.hid hlt
        clear hs hl heq hii hlt hli hxy ha hb hbe
        go_wp2_with fail
        go_region
        go_wp2_with fail
        go_region
        go_wp2_with fail
        go_ret
        exact ⟨by first | (rw [← HLN.out]; rfl) | (rw [← HLI.out]; rfl), HBE.out.drew.drew⟩

set_option maxHeartbeats 800000 in
theorem oddr_ref (N : Nat) (w : World) : Calls Tryd.prog 19 #[.agg (Nw N).toArray] w fun e w' => e = .returned (.bool (decide (N % 2 = 1))) ∧ Below w.heap.size w w' := by
  have hc := (Row.new w (Nw N) 30).cell (Nw_get N (k := 0) (by decide))
  have lx := dw_lt N 0
  have e0 : dw N 0 % 2 = N % 2 := by unfold dw; rw [Nat.pow_zero, Nat.div_one]; omega
  have hres : ((((dw N 0 : Nat) : Int) % 2) == 1) = decide (N % 2 = 1) := by
    rw [Bool.eq_iff_iff, beq_iff_eq, decide_eq_true_iff]
    omega
  generalize dw N 0 = x at *
  have HRES := Lib.hid hres
  clear hres e0
  go_enter Tryd.func19, Tryd.ntmps19
  go_wp2_with fail
  go_ret
  exact ⟨by rw [← HRES.out]; rfl, (Below.refl _ _).alloc (Nat.le_refl _) _⟩
end

end Go.Proofs.YthpbipebpaeagaaDoor
