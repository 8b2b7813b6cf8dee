import Derived.Test.YtnpjecdodhkplaaGreatDoorSH
namespace Go.Proofs.YtnpjecdodhkplaaGreatDoor
set_option maxRecDepth 100000
set_option linter.unusedSimpArgs false
open Go.RowKit
open List renaming setIfInBounds_toArray → yA, set_cons_zero → yB, set_cons_succ → yC
open Lib renaming hid → yH
def smL (n : Nat) : Lm := ⟨n, 0, 0, 0, 0⟩
theorem smL_ok {n : Nat} (h : n < 4294967296) : (smL n).ok := ⟨Nat.lt_of_lt_of_le h (by decide), Nat.zero_lt_succ _, Nat.zero_lt_succ _, Nat.zero_lt_succ _, Nat.zero_lt_succ _⟩
theorem nu_smL {n : Nat} (h : n < 4294967296) : nu (smL n) = n := by
 show V5 n 0 0 0 0 % _ = n
 rw [V5_lin]
 exact Nat.mod_eq_of_lt (by omega)
theorem sm_any (n : Nat) (h : n < 4294967296) (w : World) : Calls Tryz.prog 92 #[.int .u32 (n : Int)] w fun e w' => e = .returned (.agg (EL (smL n)).toArray) ∧ Below w.heap.size w w' := small_any n h w
theorem zero_is {x : Lm} (hx : x.ok) {b : Bool} (h : decide (nu x = 0) = b) (w : World) :
  Calls Tryz.prog 77 #[.agg (EL x).toArray] w fun e w' => e = .returned (.bool b) ∧ Below w.heap.size w w' := by
 rw [← h]; exact zero_any hx w
section
section
open Go.RowKit
def Nw (N : Nat) : List Value := Tabs .u32 (dw N) 8
theorem Nw_length (N : Nat) : (Nw N).length = 8 := Tabs_length ..
theorem Nw_get (N : Nat) {k : Nat} (hk : k < 8) : (Nw N)[k]? = some (.int .u32 ((dw N k : Nat) : Int)) := Tabs_get _ _ _ hk
theorem Nw_one (N : Nat) : (Nw N).toArray.all (·.oneCell') = true := Tabs_one ..
theorem Nw_sz (N M : Nat) : (Nw N).toArray.size = (Nw M).toArray.size := by rw [List.size_toArray, List.size_toArray, Nw_length, Nw_length]
theorem dw_zero (k : Nat) : dw 0 k = 0 := by unfold dw; rw [Nat.zero_div]
theorem Nw_zero : Nw 0 = [.int .u32 0, .int .u32 0, .int .u32 0, .int .u32 0, .int .u32 0, .int .u32 0, .int .u32 0, .int .u32 0] := by
 have h : Nw 0 = Tabs .u32 (fun _ => 0) 8 := Tabs_congr _ fun i _ => dw_zero i
 rw [h]
 rfl
theorem Nw_ext {l : List Value} (N : Nat) (hl : l.length = 8) (h : ∀ k, k < 8 → l[k]? = some (.int .u32 ((dw N k : Nat) : Int))) : l = Nw N := by
 refine List.ext_getElem? fun k => ?_
 by_cases hk : k < 8
 ·rw [h k hk, Nw_get N hk]
 ·rw [List.getElem?_eq_none (by omega), List.getElem?_eq_none (by rw [Nw_length]; omega)]
def W8 : Nat := 4294967296 ^ 8
theorem W8_eq : W8 = 115792089237316195423570985008687907853269984665640564039457584007913129639936 := by decide
theorem W8_pos : 0 < W8 := by decide
theorem dw_W8 (A c : Nat) {k : Nat} (hk : k < 8) : dw (A + W8 * c) k = dw A k := by
 unfold dw W8
 have e : (4294967296 : Nat) ^ 8 = 4294967296 ^ k * (4294967296 * 4294967296 ^ (7 - k)) := by
  rw [← Nat.pow_succ', ← Nat.pow_add]
  congr 1
  omega
 rw [e, Nat.mul_assoc, Nat.mul_assoc, Nat.add_mul_div_left _ _ (pW k), Nat.add_mul_mod_self_left]
theorem mod_W8 (A c : Nat) {k : Nat} (hk : k ≤ 8) : (A + W8 * c) % 4294967296 ^ k = A % 4294967296 ^ k := by
 have e : W8 = 4294967296 ^ k * 4294967296 ^ (8 - k) := by
  unfold W8
  rw [← Nat.pow_add]
  congr 1
  omega
 rw [e, Nat.mul_assoc, Nat.add_mul_mod_self_left]
theorem brq_W8 (A B c : Nat) {k : Nat} (hk : k ≤ 8) : brq (A + W8 * c) B k = brq A B k := by
 unfold brq
 rw [mod_W8 A c hk]
theorem brq_8 {A B : Nat} (hA : A < W8) (hB : B < W8) : brq A B 8 = if A < B then 1 else 0 := by
 unfold brq
 rw [Nat.mod_eq_of_lt (show A < 4294967296 ^ 8 from hA), Nat.mod_eq_of_lt (show B < 4294967296 ^ 8 from hB)]
def dif8 (A B : Nat) : Nat := A + W8 * (if A < B then 1 else 0) - B
theorem dif8_dw {A B : Nat} (_hA : A < W8) (hB : B < W8) {k : Nat} (hk : k < 8) : dw (dif8 A B) k + dw B k + brq A B k = dw A k + 4294967296 * brq A B (k + 1) := by
 have h : dif8 A B + B = A + W8 * (if A < B then 1 else 0) := by unfold dif8; split <;> omega
 have h1 := dif_dw h k
 rwa [brq_W8 A B _ (by omega), brq_W8 A B _ (by omega), dw_W8 A _ hk] at h1
theorem dif8_step {A B : Nat} (hA : A < W8) (hB : B < W8) {k : Nat} (hk : k < 8) :
  IntKind.u32.wrap (IntKind.u64.wrap (IntKind.u64.wrap (((dw A k : Nat) : Int) - ((dw B k : Nat) : Int)) - ((brq A B k : Nat) : Int))) = ((dw (dif8 A B) k : Nat) : Int) ∧
  IntKind.u64.wrap (IntKind.u64.wrap (((dw A k : Nat) : Int) - ((dw B k : Nat) : Int)) - ((brq A B k : Nat) : Int)) / 9223372036854775808 = ((brq A B (k + 1) : Nat) : Int) ∧
  IntKind.u64.wrap (IntKind.u64.wrap (((dw A k : Nat) : Int) - ((dw B k : Nat) : Int)) - ((brq A B k : Nat) : Int)) % 4294967296 = ((dw (dif8 A B) k : Nat) : Int) := by
 have h := dif8_dw hA hB hk
 have l1 := dw_lt A k
 have l2 := dw_lt B k
 have l3 := brq_le A B k
 have l4 := brq_le A B (k + 1)
 have l5 := dw_lt (dif8 A B) k
 simp only [IntKind.wrap_u64, IntKind.wrap_u32]
 omega
theorem Tab_w (f : Nat → Nat) {k : Nat} (hk : k < 8) : (Tab .u32 f 8 k).set k (.int .u32 ((f k : Nat) : Int)) = Tab .u32 f 8 (k + 1) := Tab_set _ _ _ hk
theorem dw_byt (N i : Nat) : dw N (i / 4) / 2 ^ (8 * (i % 4)) % 256 = byt N i := by
 unfold dw byt
 have e : (4294967296 : Nat) = 2 ^ (8 * (i % 4)) * (256 * 2 ^ (24 - 8 * (i % 4))) := by
  rw [show (256 : Nat) = 2 ^ 8 from rfl, ← Nat.pow_add, ← Nat.pow_add, show 8 * (i % 4) + (8 + (24 - 8 * (i % 4))) = 32 by omega]
 have e2 : (4294967296 : Nat) ^ (i / 4) = 2 ^ (32 * (i / 4)) := by rw [show (4294967296 : Nat) = 2 ^ 32 from rfl, ← Nat.pow_mul]
 rw [e2]
 conv => lhs; rw [e]
 rw [Nat.mod_mul_right_div_self, Nat.mod_mul_right_mod, Nat.div_div_eq_div_mul, ← Nat.pow_add, show 32 * (i / 4) + 8 * (i % 4) = 8 * i by omega]
theorem dw_byte {N k c : Nat} (hN : N < 256 ^ k) (hc : c < 256) (j : Nat) : dw (N + c * 256 ^ k) j = if j = k / 4 then dw N j ||| c * 2 ^ (8 * (k % 4)) else dw N j := by
 have e : 256 ^ k = 2 ^ (8 * (k % 4)) * 4294967296 ^ (k / 4) := by
  rw [pow256, show (4294967296 : Nat) = 2 ^ 32 from rfl, ← Nat.pow_mul, ← Nat.pow_add]
  congr 1
  omega
 have hq : N / 4294967296 ^ (k / 4) < 2 ^ (8 * (k % 4)) := (Nat.div_lt_iff_lt_mul (pW _)).2 (by rw [← e]; exact hN)
 have h7 : 2 ^ (8 * (k % 4)) ≤ 2 ^ 24 := Nat.pow_le_pow_right (by decide) (by omega)
 have hx : c * 2 ^ (8 * (k % 4)) + N / 4294967296 ^ (k / 4) < 4294967296 := by
  have h1 : (c + 1) * 2 ^ (8 * (k % 4)) ≤ 256 * 2 ^ 24 := Nat.mul_le_mul hc h7
  rw [Nat.add_mul] at h1
  omega
 have hw : dw N (k / 4) = N / 4294967296 ^ (k / 4) := Nat.mod_eq_of_lt (by omega)
 rw [e, ← Nat.mul_assoc]
 by_cases h1 : j = k / 4
 ·subst h1
  rw [if_pos rfl, hw]
  unfold dw
  rw [Nat.add_mul_div_right _ _ (pW _), Nat.mod_eq_of_lt (by omega), Nat.add_comm, Nat.mul_comm c, Nat.two_pow_add_eq_or_of_lt hq, Nat.or_comm]
 ·rw [if_neg h1]
  by_cases h2 : j < k / 4
  ·unfold dw
   have e3 : (4294967296 : Nat) ^ (k / 4) = 4294967296 ^ j * (4294967296 * 4294967296 ^ (k / 4 - j - 1)) := by
    rw [← Nat.pow_succ', ← Nat.pow_add]
    congr 1
    omega
   rw [e3, show N + c * 2 ^ (8 * (k % 4)) * (4294967296 ^ j * (4294967296 * 4294967296 ^ (k / 4 - j - 1))) = N + 4294967296 ^ j * (4294967296 * (c * 2 ^ (8 * (k % 4)) * 4294967296 ^ (k / 4 - j - 1))) by rw [Nat.mul_left_comm (c * _), Nat.mul_left_comm (c * _)], Nat.add_mul_div_left _ _ (pW j), Nat.add_mul_mod_self_left]
  ·have h3 : k / 4 + 1 ≤ j := by omega
   have hb : 2 ^ (8 * (k % 4)) * 4294967296 ^ (k / 4) ≤ 4294967296 ^ (k / 4 + 1) := by
    rw [Nat.pow_succ, Nat.mul_comm]
    exact Nat.mul_le_mul_left _ (by omega)
   rw [dw_of_lt' (N := N) (n := k / 4 + 1) (Nat.lt_of_lt_of_le hN (by rw [e]; exact hb)) h3]
   refine dw_of_lt' (n := k / 4 + 1) ?_ h3
   have hN2 : N < 2 ^ (8 * (k % 4)) * 4294967296 ^ (k / 4) := by rw [← e]; exact hN
   have h4 : (c + 1) * 2 ^ (8 * (k % 4)) * 4294967296 ^ (k / 4) ≤ 4294967296 * 4294967296 ^ (k / 4) := Nat.mul_le_mul_right _ (by
    have h1 : (c + 1) * 2 ^ (8 * (k % 4)) ≤ 256 * 2 ^ 24 := Nat.mul_le_mul hc h7
    omega)
   rw [Nat.pow_succ, Nat.mul_comm (4294967296 ^ (k / 4))]
   rw [Nat.add_mul, Nat.add_mul, Nat.one_mul] at h4
   omega
theorem Nw_byte (N : Nat) {k : Nat} (_hk : k < 32) : (Nw (N % 256 ^ k)).set (k / 4) (.int .u32 ((dw (N % 256 ^ k) (k / 4) ||| byt N k * 2 ^ (8 * (k % 4)) : Nat) : Int)) = Nw (N % 256 ^ (k + 1)) := by
 refine Nw_ext _ (by rw [List.length_set, Nw_length]) fun j hj => ?_
 rw [mod_byte, dw_byte (Nat.mod_lt _ (Nat.pow_pos (by decide))) (byt_lt N k), List.getElem?_set]
 by_cases e : j = k / 4
 ·subst e; rw [if_pos rfl, if_pos rfl, if_pos (by rw [Nw_length]; exact hj)]
 ·rw [if_neg (fun h => e h.symm), if_neg e, Nw_get _ hj]
end
section
open Go.RowKit
theorem nw_size : (Tryz.prog.info? 37).map (·.size) = some 8 := by kernel_rfl
theorem nw_info (N : Nat) : (Tryz.prog.info? 37).map (·.size) = some (Nw N).toArray.size := nw_size.trans (by rw [List.size_toArray, Nw_length])
theorem zero8 : (#[Value.int .u32 0, .int .u32 0, .int .u32 0, .int .u32 0, .int .u32 0, .int .u32 0, .int .u32 0, .int .u32 0] : Array Value) = (Nw 0).toArray := by rw [Nw_zero]
theorem P_list : Nw pp = [.int .u32 4294967277, .int .u32 4294967295, .int .u32 4294967295, .int .u32 4294967295, .int .u32 4294967295, .int .u32 4294967295, .int .u32 4294967295, .int .u32 2147483647] := by kernel_rfl
theorem pp_W8 : pp < W8 := by decide
set_option maxHeartbeats 1600000 in
theorem P_any (w : World) : Calls Tryz.prog 32 #[] w fun e w' => e = .returned (.agg (Nw pp).toArray) ∧ Below w.heap.size w w' := by
 rw [P_list]
 go_enter Tryz.func32, Tryz.ntmps32
 go_wp2
 refine bodyPost_ret (results_cell_row (by rfl) _ _ w.heap.size _ _ _ _ (by rfl) (heap_alloc_new _ _) Tryz.underlying37 rfl (by kernel_rfl)) rfl ?_
 exact ⟨rfl, (Below.refl _ _).alloc (Nat.le_refl _) _⟩
set_option maxHeartbeats 3200000 in
theorem minus_ref (A B : Nat) (hA : A < W8) (hB : B < W8) (w : World) :
  Calls Tryz.prog 74 #[.agg (Nw A).toArray, .agg (Nw B).toArray] w fun e w' => e = .returned (.tuple #[.agg (Nw (dif8 A B)).toArray, .bool (decide (A < B))]) ∧ Below w.heap.size w w' := by
 have HST := yH (fun k (hk : k < 8) => dif8_step hA hB hk)
 have HBR := yH (fun k (hk : k < 8) => brq_le A B k)
 have HE := yH (brq_8 hA hB)
 have HS4 := yH nw_info
 clear hA hB
 go_enter Tryz.func74, Tryz.ntmps74
 go_wp2_with fail
 go_loopw [7, 8] (fun u i wr => ∃ k : Nat, k ≤ 8 ∧ i = .int .i64 k ∧ u = .int .u64 ((brq A B k : Nat) : Int) ∧ Row wr w.heap.size 37 (Nw A) ∧ Row wr (w.heap.size + 1) 37 (Nw B) ∧ Row wr (w.heap.size + 1 + 1 + 1) 37 (Tab .u32 (dw (dif8 A B)) 8 k) ∧ Row wr (w.heap.size + 1 + 1) 37 (Nw 0) ∧ Below w.heap.size w wr) (fun _ i _ => 8 - (intOf i).toNat)
 case atStart =>
  refine ⟨0, Nat.zero_le _, rfl, by rw [brq_zero]; rfl, ((Row.new w _ _).alloc _).alloc _ |>.alloc _, ((Row.new1 w _ _ _).alloc _).alloc _, ?_, ?_, Below.alloc4 _ _ _ _ _⟩
  ·rw [Tab_zero]
   exact Row.new3 w _ _ _ _ _
  ·rw [Nw_zero]
   exact (Row.new2 w _ _ _ _).alloc _
 case round =>
  obtain ⟨k, hkn, rfl, rfl, ha, hb, hrow, hres, hbe⟩ := hrel
  by_cases hlt : k < 8
  ·have hca := ha.cell (Nw_get A hlt)
   have hcb := hb.cell (Nw_get B hlt)
   have hold := hrow.cell (Tab_get .u32 (dw (dif8 A B)) 8 k hlt)
   have hfree := hrow.free k
   have hset := hrow.set k (.int .u32 ((dw (dif8 A B) k : Nat) : Int))
   rw [Tab_w _ hlt] at hset
   have ha2 := ha.setCell (p := ⟨w.heap.size + 1 + 1 + 1, k, none⟩) (by show _ ≠ w.heap.size + 1 + 1 + 1; omega) (.int .u32 ((dw (dif8 A B) k : Nat) : Int))
   have hb2 := hb.setCell (p := ⟨w.heap.size + 1 + 1 + 1, k, none⟩) (by show _ ≠ w.heap.size + 1 + 1 + 1; omega) (.int .u32 ((dw (dif8 A B) k : Nat) : Int))
   have hres2 := hres.setCell (p := ⟨w.heap.size + 1 + 1 + 1, k, none⟩) (by show _ ≠ w.heap.size + 1 + 1 + 1; omega) (.int .u32 ((dw (dif8 A B) k : Nat) : Int))
   have hbe2 := hbe.setCell (p := ⟨w.heap.size + 1 + 1 + 1, k, none⟩) (by simp; omega) (.int .u32 ((dw (dif8 A B) k : Nat) : Int))
   obtain ⟨hs1, hs2, hs3⟩ := HST.out k hlt
   have lx := dw_lt A k
   have ly := dw_lt B k
   have lu := HBR.out k hlt
   generalize dw (dif8 A B) k = s at *
   generalize dw A k = x at *
   generalize dw B k = y at *
   generalize hoo : brq A B (k + 1) = o at *
   have HO := yH hoo
   clear hoo
   generalize brq A B k = u at *
   have b0 : (0 : Int) ≤ (k : Int) := by omega
   have b1 : (k : Int) < 8 := by omega
   have HSET := yH hset
   have HA2 := yH ha2
   have HB2 := yH hb2
   have HRES2 := yH hres2
   have HBE2 := yH hbe2
   have HS1 := yH hs1
   have HS2 := yH hs2
   have HS3 := yH hs3
   clear ha hb hrow hres hbe hset ha2 hb2 hres2 hbe2 hs1 hs2 hs3
   go_wp2_with fail
   go_region
   have hdr : (0 : Int) ≤ IntKind.u64.wrap (IntKind.u64.wrap ((x : Int) - (y : Int)) - (u : Int)) ∧ IntKind.u64.wrap (IntKind.u64.wrap ((x : Int) - (y : Int)) - (u : Int)) < 18446744073709551616 := by
    simp only [IntKind.wrap_u64]
    omega
   generalize IntKind.u64.wrap (IntKind.u64.wrap ((x : Int) - (y : Int)) - (u : Int)) = D at *
   obtain ⟨hd0, hd1⟩ := hdr
   have hca2 := hca
   clear hca2
   go_wp2_with fail
   first | rw [HS3.out] | rw [HS1.out]
   go_wp2_with fail
   go_roundw
   case rel =>
    refine ⟨k + 1, by omega, by go_num, by rw [HS2.out, ← HO.out], HA2.out, HB2.out, HSET.out, HRES2.out, HBE2.out.drew⟩
   case measure => simp [intOf]; omega
  ·obtain rfl : k = 8 := by omega
   rw [Tab_done] at hrow
   have hrow2 : Row wr (w.heap.size + 1 + 1 + 1) 37 (Nw (dif8 A B)) := hrow
   have hde : (((brq A B 8 : Nat) : Int) == 1) = decide (A < B) := by
    rw [HE.out, Bool.eq_iff_iff, beq_iff_eq, decide_eq_true_iff]
    split <;> omega
   have HROW := yH hrow2
   have HRES := yH hres
   have HBE := yH hbe
   have HDE := yH hde
   clear hrow hrow2 hres hbe hde ha hb
   generalize brq A B 8 = u at *
   go_wp2_with (first
    | (refine wpList_load_row rfl 37 (.tmp 6) rfl (w.heap.size + 1 + 1 + 1) rfl 37 _ (0, 0) _ HROW.out Tryz.underlying37 rfl (HS4.out _) ?_)
    | (refine wpList_store_row rfl 37 (.tmp 4) (.tmp 31) rfl (w.heap.size + 1 + 1) _ rfl rfl 37 _ HRES.out (HS4.out _) (Nw_sz _ _) (Nw_one _) ?_))
   rw [HDE.out]
   refine bodyPost_ret (results_row_slot (by rfl) _ _ (w.heap.size + 1 + 1) _ _ _ _ _ (by rfl) (setRow_heap wr (w.heap.size + 1 + 1) _ (Nw (dif8 A B)).toArray _ _ HRES.out) Tryz.underlying37 rfl (HS4.out _) (by rfl)) rfl ?_
   exact ⟨rfl, below_setRow HBE.out (by omega) _⟩
end
section
open Go.RowKit
theorem rshr_byte (D t : Nat) : ((D : Nat) : Int) / 2 ^ t % 256 = ((D / 2 ^ t % 256 : Nat) : Int) := by
 have e : ((D : Nat) : Int) / 2 ^ t = ((D / 2 ^ t : Nat) : Int) := by simp
 rw [e]
 omega
set_option maxHeartbeats 1600000 in
theorem rbytes_ref (N : Nat) (w : World) :
  Calls Tryz.prog 52 #[.agg (Nw N).toArray] w fun e w' => e = .returned (.agg (By N 32).toArray) ∧ Below w.heap.size w w' := by
 have HSB := yH by_info
 go_enter Tryz.func52, Tryz.ntmps52
 go_wp2_with fail
 go_loopw [4] (fun i wr => ∃ k : Nat, k ≤ 32 ∧ i = .int .i64 k ∧ Row wr w.heap.size 37 (Nw N) ∧ Row wr (w.heap.size + 1 + 1) 22 (Tab .u8 (byt N) 32 k) ∧ Row wr (w.heap.size + 1) 22 (Tab .u8 (byt N) 32 0) ∧ Below w.heap.size w wr) (fun i _ => 32 - (intOf i).toNat)
 case atStart =>
  refine ⟨0, Nat.zero_le _, rfl, ((Row.new w _ _).alloc _).alloc _, ?_, ?_, Below.alloc3 _ _ _ _⟩
  ·rw [Tab_zero]
   exact Row.new2 w _ _ (List.replicate 32 (.int .u8 0)) _
  ·rw [Tab_zero]
   exact (Row.new1 w _ (List.replicate 32 (.int .u8 0)) _).alloc _
 case round =>
  obtain ⟨k, hkn, rfl, hn, hrow, hres, hbe⟩ := hrel
  by_cases hlt : k < 32
  ·have hcell := hn.cell (Nw_get N (k := k / 4) (by omega))
   have hfree := hrow.free k
   have hold := hrow.cell (Tab_get .u8 (byt N) 32 k hlt)
   have hset := hrow.set k (.int .u8 ((byt N k : Nat) : Int))
   rw [By_set N 32 hlt] at hset
   have hn2 := hn.setCell (p := ⟨w.heap.size + 1 + 1, k, none⟩) (by show _ ≠ w.heap.size + 1 + 1; omega) (.int .u8 ((byt N k : Nat) : Int))
   have hres2 := hres.setCell (p := ⟨w.heap.size + 1 + 1, k, none⟩) (by show _ ≠ w.heap.size + 1 + 1; omega) (.int .u8 ((byt N k : Nat) : Int))
   have hb2 := hbe.setCell (p := ⟨w.heap.size + 1 + 1, k, none⟩) (by simp; omega) (.int .u8 ((byt N k : Nat) : Int))
   have hrun := rshr_byte (dw N (k / 4)) (8 * (k % 4))
   rw [dw_byt] at hrun
   have hd : Int.tdiv (k : Int) 4 = ((k / 4 : Nat) : Int) := by rw [Int.tdiv_eq_ediv_of_nonneg (by omega)]; omega
   have hm : Int.tmod (k : Int) 4 = ((k % 4 : Nat) : Int) := by rw [Int.tmod_eq_emod_of_nonneg (by omega)]; omega
   have hd' : (k : Int) / 4 = ((k / 4 : Nat) : Int) := by omega
   have hm' : (k : Int) % 4 = ((k % 4 : Nat) : Int) := by omega
   have hi8 : k / 4 < 8 := by omega
   have hj8 : k % 4 < 4 := by omega
   generalize dw N (k / 4) = x at *
   generalize byt N k = y at *
   generalize k / 4 = i at *
   generalize k % 4 = j at *
   have b0 : (0 : Int) ≤ (i : Int) := by omega
   have b1 : (i : Int) < 8 := by omega
   have b2 : (0 : Int) ≤ 8 * (j : Int) := by omega
   have b3 : 8 * (j : Int) < 32 := by omega
   have b4 : (0 : Int) ≤ (k : Int) := by omega
   have b5 : (k : Int) < 32 := by omega
   have hw1 : IntKind.i64.wrap ((i : Nat) : Int) = (i : Int) := IntWalk.i64_in _ (by omega)
   have HSET := yH hset
   have HN2 := yH hn2
   have HRES2 := yH hres2
   have HB2 := yH hb2
   clear hn hrow hres hbe hset hn2 hres2 hb2
   go_wp2_with fail
   go_roundw
   case rel => exact ⟨k + 1, by omega, by go_num, HN2.out, HSET.out, HRES2.out, HB2.out⟩
   case measure => simp [intOf]; omega
  ·obtain rfl : k = 32 := by omega
   rw [Tab_done] at hrow
   rw [Tab_zero] at hres
   have hO : (List.replicate 32 (Value.int .u8 0)).toArray.size = (By N 32).toArray.size := by rw [List.size_toArray, List.size_toArray, By_length, List.length_replicate]
   have hrow2 : Row wr (w.heap.size + 1 + 1) 22 (By N 32) := hrow
   have HROW := yH hrow2
   have HRES := yH hres
   have HBE := yH hbe
   have HO4 := yH hO
   clear hrow hrow2 hres hbe hO hn
   go_wp2_with (first
    | (refine wpList_load_row rfl 22 (.tmp 3) rfl (w.heap.size + 1 + 1) rfl 22 _ (0, 0) _ HROW.out Tryz.underlying22 rfl (HSB.out _) ?_)
    | (refine wpList_store_row rfl 22 (.tmp 2) (.tmp 20) rfl (w.heap.size + 1) _ rfl rfl 22 _ HRES.out (HSB.out _) HO4.out (By_one _ _) ?_))
   have hgot := setRow_heap wr (w.heap.size + 1) _ (By N 32).toArray _ _ HRES.out
   refine bodyPost_ret (results_cell_row (by rfl) _ _ (w.heap.size + 1) _ _ _ _ (by rfl) hgot Tryz.underlying22 rfl (HSB.out _)) rfl ?_
   exact ⟨rfl, below_setRow HBE.out (by omega) _⟩
set_option maxHeartbeats 1600000 in
theorem raw_ref (N : Nat) (hN : N < 256 ^ 32) (w : World) :
  Calls Tryz.prog 31 #[.agg (By N 32).toArray] w fun e w' => e = .returned (.agg (Nw N).toArray) ∧ Below w.heap.size w w' := by
 have HS4 := yH nw_info
 have HN := yH hN
 clear hN
 go_enter Tryz.func31, Tryz.ntmps31
 go_wp2_with fail
 go_loopw [4] (fun i wr => ∃ k : Nat, k ≤ 32 ∧ i = .int .i64 k ∧ Row wr w.heap.size 22 (By N 32) ∧ Row wr (w.heap.size + 1 + 1) 37 (Nw (N % 256 ^ k)) ∧ Row wr (w.heap.size + 1) 37 (Nw 0) ∧ Below w.heap.size w wr) (fun i _ => 32 - (intOf i).toNat)
 case atStart =>
  refine ⟨0, Nat.zero_le _, rfl, ((Row.new w _ _).alloc _).alloc _, ?_, ?_, Below.alloc3 _ _ _ _⟩
  ·rw [Nat.pow_zero, Nat.mod_one, Nw_zero]
   exact Row.new2 w _ _ _ _
  ·rw [Nw_zero]
   exact (Row.new1 w _ _ _).alloc _
 case round =>
  obtain ⟨k, hkn, rfl, hn, hrow, hres, hbe⟩ := hrel
  by_cases hlt : k < 32
  ·have hcell := hn.cell (By_get N 32 hlt)
   have hfree := hrow.free (k / 4)
   have hold := hrow.cell (Nw_get (N % 256 ^ k) (k := k / 4) (by omega))
   have hset := hrow.set (k / 4) (.int .u32 ((dw (N % 256 ^ k) (k / 4) ||| byt N k * 2 ^ (8 * (k % 4)) : Nat) : Int))
   rw [Nw_byte N hlt] at hset
   have hn2 := hn.setCell (p := ⟨w.heap.size + 1 + 1, k / 4, none⟩) (by show _ ≠ w.heap.size + 1 + 1; omega) (.int .u32 ((dw (N % 256 ^ k) (k / 4) ||| byt N k * 2 ^ (8 * (k % 4)) : Nat) : Int))
   have hres2 := hres.setCell (p := ⟨w.heap.size + 1 + 1, k / 4, none⟩) (by show _ ≠ w.heap.size + 1 + 1; omega) (.int .u32 ((dw (N % 256 ^ k) (k / 4) ||| byt N k * 2 ^ (8 * (k % 4)) : Nat) : Int))
   have hb2 := hbe.setCell (p := ⟨w.heap.size + 1 + 1, k / 4, none⟩) (by simp; omega) (.int .u32 ((dw (N % 256 ^ k) (k / 4) ||| byt N k * 2 ^ (8 * (k % 4)) : Nat) : Int))
   have lb := byt_lt N k
   have lx := dw_lt (N % 256 ^ k) (k / 4)
   have hsm : byt N k * 2 ^ (8 * (k % 4)) < 4294967296 := by
    have h7 : 2 ^ (8 * (k % 4)) ≤ 2 ^ 24 := Nat.pow_le_pow_right (by decide) (by omega)
    have h1 := Nat.mul_le_mul (show byt N k ≤ 255 by omega) h7
    omega
   have hshl : (((byt N k : Nat) : Int) * 2 ^ (8 * (k % 4))) % 4294967296 = ((byt N k * 2 ^ (8 * (k % 4)) : Nat) : Int) := by
    have e : ((byt N k : Nat) : Int) * 2 ^ (8 * (k % 4)) = ((byt N k * 2 ^ (8 * (k % 4)) : Nat) : Int) := by simp
    rw [e]
    omega
   have hor := u32_or_nat _ _ lx hsm
   have hd : Int.tdiv (k : Int) 4 = ((k / 4 : Nat) : Int) := by rw [Int.tdiv_eq_ediv_of_nonneg (by omega)]; omega
   have hm : Int.tmod (k : Int) 4 = ((k % 4 : Nat) : Int) := by rw [Int.tmod_eq_emod_of_nonneg (by omega)]; omega
   have hd' : (k : Int) / 4 = ((k / 4 : Nat) : Int) := by omega
   have hm' : (k : Int) % 4 = ((k % 4 : Nat) : Int) := by omega
   have hi8 : k / 4 < 8 := by omega
   have hj8 : k % 4 < 4 := by omega
   generalize dw (N % 256 ^ k) (k / 4) ||| byt N k * 2 ^ (8 * (k % 4)) = z at *
   generalize byt N k * 2 ^ (8 * (k % 4)) = s at *
   generalize dw (N % 256 ^ k) (k / 4) = x at *
   generalize byt N k = y at *
   generalize k / 4 = i at *
   generalize k % 4 = j at *
   have b0 : (0 : Int) ≤ (i : Int) := by omega
   have b1 : (i : Int) < 8 := by omega
   have b2 : (0 : Int) ≤ 8 * (j : Int) := by omega
   have b3 : 8 * (j : Int) < 32 := by omega
   have b4 : (0 : Int) ≤ (k : Int) := by omega
   have b5 : (k : Int) < 32 := by omega
   have hw1 : IntKind.i64.wrap ((i : Nat) : Int) = (i : Int) := IntWalk.i64_in _ (by omega)
   have HSET := yH hset
   have HN2 := yH hn2
   have HRES2 := yH hres2
   have HB2 := yH hb2
   have HSHL := yH hshl
   have HOR := yH hor
   clear hn hrow hres hbe hset hn2 hres2 hb2 hshl hor hsm
   go_wp2_with fail
   go_region
   rw [HSHL.out, HOR.out]
   generalize wr.setCell ⟨w.heap.size + 1 + 1, i, none⟩ (Value.int .u32 ((z : Nat) : Int)) = wy at *
   clear hd hm hd' hm' hw1 hcell hold hfree
   go_wp2_with fail
   go_roundw
   case rel => exact ⟨k + 1, by omega, by go_num, HN2.out, HSET.out, HRES2.out, HB2.out.drew⟩
   case measure => simp [intOf]; omega
  ·obtain rfl : k = 32 := by omega
   rw [Nat.mod_eq_of_lt HN.out] at hrow
   have HROW := yH hrow
   have HRES := yH hres
   have HBE := yH hbe
   clear hrow hres hbe hn
   go_wp2_with (first
    | (refine wpList_load_row rfl 37 (.tmp 3) rfl (w.heap.size + 1 + 1) rfl 37 _ (0, 0) _ HROW.out Tryz.underlying37 rfl (HS4.out _) ?_)
    | (refine wpList_store_row rfl 37 (.tmp 2) (.tmp 25) rfl (w.heap.size + 1) _ rfl rfl 37 _ HRES.out (HS4.out _) (Nw_sz _ _) (Nw_one _) ?_))
   have hgot := setRow_heap wr (w.heap.size + 1) _ (Nw N).toArray _ _ HRES.out
   refine bodyPost_ret (results_cell_row (by rfl) _ _ (w.heap.size + 1) _ _ _ _ (by rfl) hgot Tryz.underlying37 rfl (HS4.out _)) rfl ?_
   exact ⟨rfl, below_setRow HBE.out (by omega) _⟩
end
section
open Go.RowKit
set_option maxHeartbeats 1600000 in
theorem less_ref (A B : Nat) (hA : A < W8) (hB : B < W8) (w : World) :
  Calls Tryz.prog 30 #[.agg (Nw A).toArray, .agg (Nw B).toArray] w fun e w' => e = .returned (.bool (decide (A < B))) ∧ Below w.heap.size w w' := by
 have h0 : A / 4294967296 ^ 8 = B / 4294967296 ^ 8 := by rw [Nat.div_eq_of_lt (show A < 4294967296 ^ 8 from hA), Nat.div_eq_of_lt (show B < 4294967296 ^ 8 from hB)]
 have hfin : A / 4294967296 ^ 0 = B / 4294967296 ^ 0 → decide (A < B) = false := fun h => by
  rw [Nat.pow_zero, Nat.div_one, Nat.div_one] at h
  rw [decide_eq_false (by omega)]
 have H0 := yH h0
 have HFIN := yH hfin
 have HCS := yH (fun i => cmq_same (A := A) (B := B) (i := i))
 have HCL := yH (fun i => cmq_less (A := A) (B := B) (i := i))
 clear hA hB h0 hfin
 go_enter Tryz.func30, Tryz.ntmps30
 go_wp2_with fail
 go_loopw [5] (fun i wr => ∃ k : Nat, k ≤ 8 ∧ i = .int .i64 ((k : Int) - 1) ∧ A / 4294967296 ^ k = B / 4294967296 ^ k ∧ Row wr w.heap.size 37 (Nw A) ∧ Row wr (w.heap.size + 1) 37 (Nw B) ∧ Below w.heap.size w wr) (fun i _ => (intOf i + 1).toNat)
 case atStart => exact ⟨8, Nat.le_refl _, rfl, H0.out, (Row.new w _ _).alloc _, Row.new1 w _ _ _, Below.alloc2 _ _ _⟩
 case round =>
  obtain ⟨k, hk, rfl, heq, ha, hb, hbe⟩ := hrel
  by_cases hk0 : k = 0
  ·subst hk0
   have HF := yH (HFIN.out heq)
   rw [show (((0 : Nat) : Int) - 1) = -1 from rfl]
   have HBE := yH hbe
   clear heq ha hb hbe
   go_wp2_with fail
   go_ret
   exact ⟨by rw [HF.out]; rfl, HBE.out⟩
  ·obtain ⟨i, rfl⟩ : ∃ i, k = i + 1 := ⟨k - 1, by omega⟩
   have hii : (((i + 1 : Nat) : Int) - 1) = (i : Int) := by omega
   rw [hii]
   have hi8 : i < 8 := by omega
   have b0 : (0 : Int) ≤ (i : Int) := by omega
   have b1 : (i : Int) < 8 := by omega
   have hs := HCS.out i heq
   have hl := HCL.out i heq
   have hca := ha.cell (Nw_get A hi8)
   have hcb := hb.cell (Nw_get B hi8)
   have lx := dw_lt A i
   have ly := dw_lt B i
   generalize dw A i = x at *
   generalize dw B i = y at *
   have HA := yH ha
   have HB := yH hb
   have HBE := yH hbe
   by_cases hxy : x = y
   ·subst hxy
    have HS := yH (hs rfl)
    clear hs hl heq hii ha hb hbe
    go_wp2_with fail
    go_region
    go_wp2_with fail
    go_roundw
    case rel => exact ⟨i, by omega, rfl, HS.out, HA.out, HB.out, HBE.out.drew⟩
    case measure => simp [intOf] <;> omega
   ·have hne : ((x : Int) != (y : Int)) = true := by rw [bne_iff_ne]; omega
    have hlt := hl hxy
    have hli : decide ((x : Int) < (y : Int)) = decide (A < B) := by rw [← hlt]; congr 1; exact propext (by omega)
    have HLI := yH hli
    have HLN := yH hlt
    clear hs hl heq hii hlt hli hxy ha hb hbe
    go_wp2_with fail
    go_region
    go_wp2_with fail
    go_region
    go_wp2_with fail
    go_ret
    exact ⟨by first | (rw [← HLN.out]; rfl) | (rw [← HLI.out]; rfl), HBE.out.drew.drew⟩
set_option maxHeartbeats 800000 in
theorem oddr_ref (N : Nat) (w : World) : Calls Tryz.prog 53 #[.agg (Nw N).toArray] w fun e w' => e = .returned (.bool (decide (N % 2 = 1))) ∧ Below w.heap.size w w' := by
 have hc := (Row.new w (Nw N) 37).cell (Nw_get N (k := 0) (by decide))
 have lx := dw_lt N 0
 have e0 : dw N 0 % 2 = N % 2 := by unfold dw; rw [Nat.pow_zero, Nat.div_one]; omega
 have hres : ((((dw N 0 : Nat) : Int) % 2) == 1) = decide (N % 2 = 1) := by
  rw [Bool.eq_iff_iff, beq_iff_eq, decide_eq_true_iff]
  omega
 generalize dw N 0 = x at *
 have HRES := yH hres
 clear hres e0
 go_enter Tryz.func53, Tryz.ntmps53
 go_wp2_with fail
 go_ret
 exact ⟨by rw [← HRES.out]; rfl, (Below.refl _ _).alloc (Nat.le_refl _) _⟩
end
end
section
section
section
open Go.RowKit
def rdN (w : World) (g : Nat) : Nat := match w.heap[g]? with
 | some (.cells cs _ _) => ((List.range 8).map fun i => (match cs[i]? with | some (.int _ z) => z.toNat | _ => 0) * 4294967296 ^ i).sum
 | _ => 0
theorem dw_sum (N : Nat) : ∀ n, ((List.range n).map fun i => dw N i * 4294967296 ^ i).sum = N % 4294967296 ^ n
 | 0 => by rw [Nat.pow_zero, Nat.mod_one]; rfl
 | n + 1 => by
  rw [List.range_succ, List.map_append, List.sum_append, dw_sum N n, mod_dw]
  simp [Nat.mul_comm]
theorem rdN_row {w : World} {g : Nat} {T : TypeId} {N : Nat} (h : Row w g T (Nw N)) (hN : N < W8) : rdN w g = N := by
 have e : rdN w g = ((List.range 8).map fun i => dw N i * 4294967296 ^ i).sum := by
  unfold rdN
  have h' : w.heap[g]? = some (.cells (Nw N).toArray T (0, 0)) := h
  rw [h']
  congr 1
 rw [e, dw_sum]
 exact Nat.mod_eq_of_lt hN
theorem dif8_sub {A B : Nat} (h : B ≤ A) : dif8 A B = A - B := by unfold dif8; rw [if_neg (by omega), Nat.mul_zero, Nat.add_zero]
theorem nw_ext0 (x : Value) (b : Bool) (w : World) : (Instr.extract (.tuple #[x, .bool b]) 0).run Tryz.prog w = .ok x w := by rfl
theorem nw_ext1 (x : Value) (b : Bool) (w : World) : (Instr.extract (.tuple #[x, .bool b]) 1).run Tryz.prog w = .ok (.bool b) w := by rfl
theorem less_is {A B : Nat} (hA : A < W8) (hB : B < W8) {b : Bool} (h : decide (A < B) = b) (w : World) :
  Calls Tryz.prog 30 #[.agg (Nw A).toArray, .agg (Nw B).toArray] w fun e w' => e = .returned (.bool b) ∧ Below w.heap.size w w' := by
 rw [← h]; exact less_ref A B hA hB w
set_option maxHeartbeats 3200000 in
theorem down_ref (N : Nat) (hN : N < W8) (w : World) :
  Calls Tryz.prog 71 #[.agg (Nw N).toArray] w fun e w' => e = .returned (.agg (Nw (N % pp)).toArray) ∧ Below w.heap.size w w' := by
 have HS4 := yH nw_info
 have HN := yH hN
 clear hN
 go_enter Tryz.func71, Tryz.ntmps71
 go_wp2_with fail
 go_loopw [] (fun wr => ∃ M : Nat, M ≤ N ∧ M % pp = N % pp ∧ Row wr w.heap.size 37 (Nw M) ∧ Row wr (w.heap.size + 1) 37 (Nw 0) ∧ Below w.heap.size w wr) (fun wr => rdN wr w.heap.size)
 case atStart =>
  refine ⟨N, Nat.le_refl _, rfl, (Row.new w _ _).alloc _, ?_, Below.alloc2 _ _ _⟩
  rw [Nw_zero]
  exact Row.new1 w _ _ _
 case round =>
  obtain ⟨M, hMN, hmod, hrow, hres, hbe⟩ := hrel
  have hM : M < W8 := Nat.lt_of_le_of_lt hMN HN.out
  have hld := fun (w' : World) (h : Below wr.heap.size wr w') => hrow.belowAll h
  by_cases hlt : M < pp
  ·have hd : decide (M < pp) = true := decide_eq_true hlt
   go_wp2_with fail
   refine wp_flat_none (aD := ?aD1) (S := fun w' => Below wr.heap.size wr w') (vs := [(0, .agg (Nw M).toArray), (1, .agg (Nw pp).toArray), (2, .bool true), (3, .bool false)]) (by kernel_rfl) ((Below.refl _ _).drew) (fun _ _ h k => S_trans h k) ?hD1 ?hk1 ?h1
   case hD1 =>
    refine .s 3 rfl (Gives.load_row 37 (.tmp 1) rfl (w.heap.size) rfl 37 _ hld Tryz.underlying37 rfl (HS4.out _)) ?_
    refine .s 4 rfl (Gives.c (args := []) rfl Tryz.func32 (fun w' _ => P_any w')) ?_
    refine .s 5 rfl (Gives.c (args := [.agg (Nw M).toArray, .agg (Nw pp).toArray]) rfl Tryz.func30 (fun w' _ => less_is hM pp_W8 hd w')) ?_
    refine .s 6 rfl (Gives.unop .not 4 (.tmp 5) rfl (.bool true) (.bool false) rfl (fun w' => rfl)) ?_
    exact .nil
   case hk1 => kernel_rfl
   case h1 =>
   intro w1 hb1
   have hr1 := hrow.belowAll hb1
   have hz1 := hres.belowAll hb1
   have hw1 := hbe.trans (hb1.mono hbe.size)
   rw [Nat.mod_eq_of_lt hlt] at hmod
   rw [hmod] at hr1
   clear hrow hres hbe hld hb1 hd
   go_wp2_with (first
    | (refine wpList_load_row rfl 37 (.tmp 1) rfl w.heap.size rfl 37 _ (0, 0) _ hr1 Tryz.underlying37 rfl (HS4.out _) ?_)
    | (refine wpList_store_row rfl 37 (.tmp 2) (.tmp 13) rfl (w.heap.size + 1) _ rfl rfl 37 _ hz1 (HS4.out _) (Nw_sz _ _) (Nw_one _) ?_))
   have hgot := setRow_heap w1 (w.heap.size + 1) _ (Nw (N % pp)).toArray _ _ hz1
   refine bodyPost_ret (results_cell_row (by rfl) _ _ (w.heap.size + 1) _ _ _ _ (by rfl) hgot Tryz.underlying37 rfl (HS4.out _)) rfl ?_
   exact ⟨rfl, below_setRow hw1 (by omega) _⟩
  ·have hd : decide (M < pp) = false := decide_eq_false hlt
   have hmin := fun wx => minus_ref M pp hM pp_W8 wx
   rw [dif8_sub (by omega), hd] at hmin
   go_wp2_with fail
   refine wp_flat_none (aD := ?aD3) (S := fun w' => Below wr.heap.size wr w') (vs := [(0, .agg (Nw M).toArray), (1, .agg (Nw pp).toArray), (2, .bool false), (3, .bool true)]) (by kernel_rfl) ((Below.refl _ _).drew) (fun _ _ h k => S_trans h k) ?hD3 ?hk3 ?h3
   case hD3 =>
    refine .s 3 rfl (Gives.load_row 37 (.tmp 1) rfl (w.heap.size) rfl 37 _ hld Tryz.underlying37 rfl (HS4.out _)) ?_
    refine .s 4 rfl (Gives.c (args := []) rfl Tryz.func32 (fun w' _ => P_any w')) ?_
    refine .s 5 rfl (Gives.c (args := [.agg (Nw M).toArray, .agg (Nw pp).toArray]) rfl Tryz.func30 (fun w' _ => less_is hM pp_W8 hd w')) ?_
    refine .s 6 rfl (Gives.unop .not 4 (.tmp 5) rfl (.bool false) (.bool true) rfl (fun w' => rfl)) ?_
    exact .nil
   case hk3 => kernel_rfl
   case h3 =>
   intro w1 hb1
   have hr1 := hrow.belowAll hb1
   have hz1 := hres.belowAll hb1
   have hw1 := hbe.trans (hb1.mono hbe.size)
   have hrd : rdN wr w.heap.size = M := rdN_row hrow hM
   have HRD := yH hrd
   have HMOD := yH hmod
   have HMIN := yH hmin
   clear hrow hres hbe hld hb1 hd hrd hmod hmin
   go_wp2_with fail
   refine wp_flat_side (aD := ?aD2) (S := fun w' => Below w1.heap.size w1 w') (x := 4) (y := 5) (s := 6) (u := .agg (Nw (M - pp)).toArray) (v := .bool false) (T := 37) (T' := 37) (g := w.heap.size) (z := Nw M) (c := Nw (M - pp)) (p := .tmp 1) (q := .tmp 11)
    (vs := [(0, .agg (Nw M).toArray), (1, .agg (Nw pp).toArray), (2, .tuple #[.agg (Nw (M - pp)).toArray, .bool false]), (3, .tuple #[.agg (Nw (M - pp)).toArray, .bool false])]) (by kernel_rfl) ((Below.refl _ _).drew) (fun _ _ h k => S_trans h k) ?hD2 ?hk2 rfl rfl rfl rfl rfl rfl (some 11) (some 12) rfl rfl ?eX ?eY ?eXY ?eYX ?ec rfl rfl ?e1 ?e2 ?e3 ?e4 (fun w' h => hr1.belowAll h) (HS4.out _) (Nw_sz _ _) (Nw_one _) ?h2
   case hD2 =>
    refine .s 8 rfl (Gives.l 37 (.tmp 1) (w.heap.size) (fun w' h => hr1.belowAll h) Tryz.underlying37 (HS4.out _)) ?_
    refine .s 9 rfl (Gives.c (args := []) rfl Tryz.func32 (fun w' _ => P_any w')) ?_
    refine .s 10 rfl (Gives.c (args := [.agg (Nw M).toArray, .agg (Nw pp).toArray]) rfl Tryz.func74 (fun w' _ => HMIN.out w')) ?_
    refine .s 7 rfl (Gives.move (x := .tmp 10) rfl rfl) ?_
    exact .nil
   case hk2 => kernel_rfl
   case eX => exact exec_extract (.tmp 7) 0 rfl _ _ rfl (fun w' => nw_ext0 _ _ w')
   case eY => exact exec_extract (.tmp 7) 1 rfl _ _ rfl (fun w' => nw_ext1 _ _ w')
   case eXY => exact exec_extract (.tmp 7) 0 rfl _ _ rfl (fun w' => nw_ext0 _ _ w')
   case eYX => exact exec_extract (.tmp 7) 1 rfl _ _ rfl (fun w' => nw_ext1 _ _ w')
   case ec => rfl
   case e1 => rfl
   case e2 => rfl
   case e3 => rfl
   case e4 => rfl
   case h2 =>
   intro w2 hb2
   simp only [Act.put, yA, yB, yC]
   have hr2 := (hr1.belowAll hb2).setRow (Nw (M - pp))
   have hz2 := (hz1.belowAll hb2).setRowOther (k := w.heap.size) (by omega) (Nw (M - pp)).toArray
   have hw2 := below_setRow (g := w.heap.size) (hw1.trans (hb2.mono hw1.size)) (Nat.le_refl _) (Nw (M - pp)).toArray
   have hpos : 0 < pp := by decide
   have hrd2 := rdN_row hr2 (show M - pp < W8 by omega)
   have HR2 := yH hr2
   have HZ2 := yH hz2
   have HW2 := yH hw2
   have HRD2 := yH hrd2
   clear hr1 hz1 hw1 hb2 hr2 hz2 hw2 hrd2
   go_wp2_with fail
   go_roundw
   case rel => exact ⟨M - pp, by omega, by rw [← Nat.mod_eq_sub_mod (by omega)]; exact HMOD.out, HR2.out, HZ2.out, HW2.out⟩
   case measure => rw [HRD2.out, HRD.out]; omega
end
section
open Go.RowKit
theorem ofr_ref (N : Nat) (w : World) :
  Calls Tryz.prog 34 #[.agg (By N 32).toArray] w fun e w' => e = .returned (.agg (Nw (N % 57896044618658097711785492504343953926634992332820282019728792003956564819968 % pp)).toArray) ∧ Below w.heap.size w w' := by
 have hset31 := By_set31 N
 have hb31 := byt_lt N 31
 have hM : N % 57896044618658097711785492504343953926634992332820282019728792003956564819968 < 57896044618658097711785492504343953926634992332820282019728792003956564819968 := Nat.mod_lt _ (by decide)
 generalize N % 57896044618658097711785492504343953926634992332820282019728792003956564819968 = M at *
 have hraw := fun wx => raw_ref M (Nat.lt_of_lt_of_le hM (by decide)) wx
 have hdown := fun wx => down_ref M (Nat.lt_of_lt_of_le hM (by decide)) wx
 have HRAW := yH hraw
 have HDOWN := yH hdown
 have HS4 := yH nw_info
 have HSB := yH by_info
 have c31 : ∀ X, ((w.alloc (.cells (By N 32).toArray 22)).alloc X).cell? ⟨w.heap.size, 31, none⟩ = some (.int .u8 ((byt N 31 : Nat) : Int)) := fun X => ((Row.new w (By N 32) 22).alloc X).cell (By_get N 32 (by decide))
 have f31 : ∀ X, ((w.alloc (.cells (By N 32).toArray 22)).alloc X).frozen? ⟨w.heap.size, 31, none⟩ = false := fun X => ((Row.new w (By N 32) 22).alloc X).free 31
 have hbox : ∀ X, Row ((w.alloc (.cells ((By N 32).set 31 (.int .u8 (((byt N 31 : Nat) : Int) % 128))).toArray 22)).alloc X) w.heap.size 22 (By M 32) := fun X => by
  have e : (((byt N 31 : Nat) : Int) % 128) = ((byt N 31 % 128 : Nat) : Int) := by omega
  rw [e, hset31]
  exact (Row.new w (By M 32) 22).alloc X
 have HBOX := yH hbox
 have hz : ∀ X, Row ((w.alloc X).alloc (.cells #[.int .u32 0, .int .u32 0, .int .u32 0, .int .u32 0, .int .u32 0, .int .u32 0, .int .u32 0, .int .u32 0] 37)) (w.heap.size + 1) 37 (Nw 0) := fun X => by
  rw [Nw_zero]
  exact Row.new1 w _ _ _
 have HZ := yH hz
 clear hset31 hbox hraw hdown hM hz
 go_enter Tryz.func34, Tryz.ntmps34
 go_wp2_with (refine wpList_load_row rfl 22 (.tmp 1) rfl w.heap.size rfl 22 _ (0, 0) _ (HBOX.out _) Tryz.underlying22 rfl (HSB.out _) ?_)
 refine (HRAW.out _).mono ?_
 rintro e w1 ⟨rfl, hb1⟩
 have hz1 := (HZ.out _).belowAll hb1
 have hw1 := (Below.alloc2 w _ _).trans (hb1.mono (Below.alloc2 w _ _).size)
 have HZ1 := yH hz1
 have HW1 := yH hw1
 clear hb1 hz1 hw1
 go_wp2_with fail
 refine (HDOWN.out _).mono ?_
 rintro e w2 ⟨rfl, hb2⟩
 have hz2 := HZ1.out.belowAll hb2
 have hw2 := HW1.out.trans (hb2.mono HW1.out.size)
 have HW2 := yH hw2
 clear hb2 hw2
 go_wp2_with (refine wpList_store_row rfl 37 (.tmp 2) (.tmp 9) rfl (w.heap.size + 1) _ rfl rfl 37 _ hz2 (HS4.out _) (Nw_sz _ _) (Nw_one _) ?_)
 have hgot := setRow_heap w2 (w.heap.size + 1) _ (Nw (M % pp)).toArray _ _ hz2
 refine bodyPost_ret (results_cell_row (by rfl) _ _ (w.heap.size + 1) _ _ _ _ (by rfl) hgot Tryz.underlying37 rfl (HS4.out _)) rfl ?_
 exact ⟨rfl, below_setRow HW2.out (by omega) _⟩
end
section
open Go.RowKit
theorem dw_small {n : Nat} (h : n < 4294967296) : ∀ k, dw n (k + 1) = 0 := fun k => by
 unfold dw
 rw [Nat.div_eq_of_lt (Nat.lt_of_lt_of_le h ?_)]
 rw [Nat.pow_succ]
 exact Nat.le_mul_of_pos_left _ (Nat.pow_pos (by decide))
theorem Nw_small {n : Nat} (h : n < 4294967296) : Nw n = [.int .u32 (n : Int), .int .u32 0, .int .u32 0, .int .u32 0, .int .u32 0, .int .u32 0, .int .u32 0, .int .u32 0] := by
 have e0 : dw n 0 = n := by unfold dw; rw [Nat.pow_zero, Nat.div_one]; exact Nat.mod_eq_of_lt h
 show [Value.int .u32 ((dw n 0 : Nat) : Int), .int .u32 ((dw n 1 : Nat) : Int), .int .u32 ((dw n 2 : Nat) : Int), .int .u32 ((dw n 3 : Nat) : Int), .int .u32 ((dw n 4 : Nat) : Int), .int .u32 ((dw n 5 : Nat) : Int), .int .u32 ((dw n 6 : Nat) : Int), .int .u32 ((dw n 7 : Nat) : Int)] = _
 rw [e0, dw_small h 0, dw_small h 1, dw_small h 2, dw_small h 3, dw_small h 4, dw_small h 5, dw_small h 6]
 rfl
set_option maxHeartbeats 1600000 in
theorem smallr_ref (n : Nat) (h : n < 4294967296) (w : World) :
  Calls Tryz.prog 35 #[.int .u32 (n : Int)] w fun e w' => e = .returned (.agg (Nw n).toArray) ∧ Below w.heap.size w w' := by
 rw [Nw_small h]
 go_enter Tryz.func35, Tryz.ntmps35
 go_wp2
 refine bodyPost_ret (results_cell_row (by rfl) _ _ w.heap.size _ _ _ _ (by rfl) (heap_alloc_new _ _) Tryz.underlying37 rfl (by kernel_rfl)) rfl ?_
 exact ⟨rfl, (Below.refl _ _).alloc (Nat.le_refl _) _⟩
def cqr (A B k : Nat) : Nat := (A % 4294967296 ^ k + B % 4294967296 ^ k) / 4294967296 ^ k
theorem cqr_zero (A B : Nat) : cqr A B 0 = 0 := by unfold cqr; rw [Nat.pow_zero, Nat.mod_one, Nat.mod_one]
theorem cqr_le (A B k : Nat) : cqr A B k ≤ 1 := by
 have hp : 0 < 4294967296 ^ k := Nat.pow_pos (by decide)
 have a := Nat.mod_lt A hp
 have b := Nat.mod_lt B hp
 unfold cqr
 refine Nat.le_of_lt_succ ((Nat.div_lt_iff_lt_mul hp).2 ?_)
 omega
theorem cqr_step (A B k : Nat) : dw A k + dw B k + cqr A B k = dw (A + B) k + 4294967296 * cqr A B (k + 1) := by
 unfold cqr
 rw [mod_dw A, mod_dw B, Nat.pow_succ]
 have hp : 0 < 4294967296 ^ k := Nat.pow_pos (by decide)
 have hA := Nat.div_add_mod A (4294967296 ^ k)
 have hB := Nat.div_add_mod B (4294967296 ^ k)
 have e : dw (A + B) k = (A / 4294967296 ^ k + B / 4294967296 ^ k + (A % 4294967296 ^ k + B % 4294967296 ^ k) / 4294967296 ^ k) % 4294967296 := by
  unfold dw
  have e1 : A + B = (A % 4294967296 ^ k + B % 4294967296 ^ k) + 4294967296 ^ k * (A / 4294967296 ^ k + B / 4294967296 ^ k) := by
   rw [Nat.mul_add]; omega
  rw [e1, Nat.add_mul_div_left _ _ hp, Nat.add_comm]
 have e2 : (A % 4294967296 ^ k + 4294967296 ^ k * dw A k + (B % 4294967296 ^ k + 4294967296 ^ k * dw B k)) / (4294967296 ^ k * 4294967296) = ((A % 4294967296 ^ k + B % 4294967296 ^ k) / 4294967296 ^ k + (dw A k + dw B k)) / 4294967296 := by
  rw [← Nat.div_div_eq_div_mul]
  congr 1
  have e3 : A % 4294967296 ^ k + 4294967296 ^ k * dw A k + (B % 4294967296 ^ k + 4294967296 ^ k * dw B k) = (A % 4294967296 ^ k + B % 4294967296 ^ k) + 4294967296 ^ k * (dw A k + dw B k) := by
   rw [Nat.mul_add]; omega
  rw [e3, Nat.add_mul_div_left _ _ hp]
 rw [e, e2]
 unfold dw
 omega
set_option maxHeartbeats 3200000 in
theorem addr_ref (A B : Nat) (h : A + B < W8) (w : World) :
  Calls Tryz.prog 39 #[.agg (Nw A).toArray, .agg (Nw B).toArray] w fun e w' => e = .returned (.agg (Nw ((A + B) % pp)).toArray) ∧ Below w.heap.size w w' := by
 have HDOWN := yH (fun wx => down_ref (A + B) h wx)
 have HS4 := yH nw_info
 clear h
 go_enter Tryz.func39, Tryz.ntmps39
 go_wp2_with fail
 go_loopw [6, 7] (fun u i wr => ∃ k : Nat, k ≤ 8 ∧ i = .int .i64 k ∧ u = .int .u64 ((cqr A B k : Nat) : Int) ∧ Row wr w.heap.size 37 (Nw A) ∧ Row wr (w.heap.size + 1) 37 (Nw B) ∧ Row wr (w.heap.size + 1 + 1 + 1) 37 (Tab .u32 (dw (A + B)) 8 k) ∧ Row wr (w.heap.size + 1 + 1) 37 (Nw 0) ∧ Below w.heap.size w wr) (fun _ i _ => 8 - (intOf i).toNat)
 case atStart =>
  refine ⟨0, Nat.zero_le _, rfl, by rw [cqr_zero]; rfl, ((Row.new w _ _).alloc _).alloc _ |>.alloc _, ((Row.new1 w _ _ _).alloc _).alloc _, ?_, ?_, Below.alloc4 _ _ _ _ _⟩
  ·rw [Tab_zero]
   exact Row.new3 w _ _ _ _ _
  ·rw [Nw_zero]
   exact (Row.new2 w _ _ _ _).alloc _
 case round =>
  obtain ⟨k, hkn, rfl, rfl, ha, hb, hrow, hres, hbe⟩ := hrel
  by_cases hlt : k < 8
  ·have hca := ha.cell (Nw_get A hlt)
   have hcb := hb.cell (Nw_get B hlt)
   have hold := hrow.cell (Tab_get .u32 (dw (A + B)) 8 k hlt)
   have hfree := hrow.free k
   have hset := hrow.set k (.int .u32 ((dw (A + B) k : Nat) : Int))
   rw [Tab_w _ hlt] at hset
   have ha2 := ha.setCell (p := ⟨w.heap.size + 1 + 1 + 1, k, none⟩) (by show _ ≠ w.heap.size + 1 + 1 + 1; omega) (.int .u32 ((dw (A + B) k : Nat) : Int))
   have hb2 := hb.setCell (p := ⟨w.heap.size + 1 + 1 + 1, k, none⟩) (by show _ ≠ w.heap.size + 1 + 1 + 1; omega) (.int .u32 ((dw (A + B) k : Nat) : Int))
   have hres2 := hres.setCell (p := ⟨w.heap.size + 1 + 1 + 1, k, none⟩) (by show _ ≠ w.heap.size + 1 + 1 + 1; omega) (.int .u32 ((dw (A + B) k : Nat) : Int))
   have hbe2 := hbe.setCell (p := ⟨w.heap.size + 1 + 1 + 1, k, none⟩) (by simp; omega) (.int .u32 ((dw (A + B) k : Nat) : Int))
   have hs := cqr_step A B k
   have lx := dw_lt A k
   have ly := dw_lt B k
   have ls := dw_lt (A + B) k
   have lu := cqr_le A B k
   generalize dw (A + B) k = s at *
   generalize dw A k = x at *
   generalize dw B k = y at *
   generalize hoo : cqr A B (k + 1) = o at *
   have HO := yH hoo
   clear hoo
   generalize cqr A B k = u at *
   have b0 : (0 : Int) ≤ (k : Int) := by omega
   have b1 : (k : Int) < 8 := by omega
   have HSET := yH hset
   have HA2 := yH ha2
   have HB2 := yH hb2
   have HRES2 := yH hres2
   have HBE2 := yH hbe2
   have HS := yH hs
   clear ha hb hrow hres hbe hset ha2 hb2 hres2 hbe2 hs
   go_wp2_with fail
   go_region
   have hdr : (x : Int) + (y : Int) + (u : Int) = ((s + 4294967296 * o : Nat) : Int) := by
    have := HS.out
    omega
   rw [hdr]
   have hlo : ((s + 4294967296 * o : Nat) : Int) % 4294967296 = ((s : Nat) : Int) := by omega
   have hhi : ((s + 4294967296 * o : Nat) : Int) / 4294967296 = ((o : Nat) : Int) := by omega
   have hb0 : (0 : Int) ≤ ((s + 4294967296 * o : Nat) : Int) := by omega
   have hb1 : ((s + 4294967296 * o : Nat) : Int) < 18446744073709551616 := by have := HS.out; omega
   generalize ((s + 4294967296 * o : Nat) : Int) = D at *
   have HLO := yH hlo
   have HHI := yH hhi
   clear hlo hhi hdr
   go_wp2_with fail
   rw [HLO.out]
   go_wp2_with fail
   go_roundw
   case rel =>
    refine ⟨k + 1, by omega, by go_num, by rw [HHI.out, ← HO.out], HA2.out, HB2.out, HSET.out, HRES2.out, HBE2.out.drew⟩
   case measure => simp [intOf]; omega
  ·obtain rfl : k = 8 := by omega
   rw [Tab_done] at hrow
   have hrow2 : Row wr (w.heap.size + 1 + 1 + 1) 37 (Nw (A + B)) := hrow
   have HROW := yH hrow2
   have HRES := yH hres
   have HBE := yH hbe
   clear hrow hrow2 hres hbe ha hb
   go_wp2_with (refine wpList_load_row rfl 37 (.tmp 5) rfl (w.heap.size + 1 + 1 + 1) rfl 37 _ (0, 0) _ HROW.out Tryz.underlying37 rfl (HS4.out _) ?_)
   refine (HDOWN.out _).mono ?_
   rintro e w2 ⟨rfl, hb2⟩
   have hz2 := HRES.out.belowAll hb2
   have hw2 := HBE.out.trans (hb2.mono HBE.out.size)
   have HW2 := yH hw2
   clear hb2 hw2
   go_wp2_with (refine wpList_store_row rfl 37 (.tmp 4) (.tmp 31) rfl (w.heap.size + 1 + 1) _ rfl rfl 37 _ hz2 (HS4.out _) (Nw_sz _ _) (Nw_one _) ?_)
   have hgot := setRow_heap w2 (w.heap.size + 1 + 1) _ (Nw ((A + B) % pp)).toArray _ _ hz2
   refine bodyPost_ret (results_cell_row (by rfl) _ _ (w.heap.size + 1 + 1) _ _ _ _ (by rfl) hgot Tryz.underlying37 rfl (HS4.out _)) rfl ?_
   exact ⟨rfl, below_setRow HW2.out (by omega) _⟩
end
section
open Go.RowKit
theorem nw_zero_row (w : World) : Row (w.alloc (.cells #[.int .u32 0, .int .u32 0, .int .u32 0, .int .u32 0, .int .u32 0, .int .u32 0, .int .u32 0, .int .u32 0] 37)) w.heap.size 37 (Nw 0) := by
 rw [Nw_zero]
 exact Row.new w _ _
set_option maxHeartbeats 3200000 in
theorem subr_le (A B : Nat) (hA : A < pp) (hB : B < pp) (h : B ≤ A) (w : World) :
  Calls Tryz.prog 38 #[.agg (Nw A).toArray, .agg (Nw B).toArray] w fun e w' => e = .returned (.agg (Nw (A - B)).toArray) ∧ Below w.heap.size w w' := by
 have hm := fun wx => minus_ref A B (Nat.lt_trans hA pp_W8) (Nat.lt_trans hB pp_W8) wx
 rw [dif8_sub h, decide_eq_false (by omega)] at hm
 have HM := yH hm
 have HS4 := yH nw_info
 clear hm hA hB h
 have ha : ∀ X Y, Row (((w.alloc (.cells (Nw A).toArray 37)).alloc X).alloc Y) w.heap.size 37 (Nw A) := fun X Y => ((Row.new w _ _).alloc _).alloc _
 have hb : ∀ X Y, Row (((w.alloc X).alloc (.cells (Nw B).toArray 37)).alloc Y) (w.heap.size + 1) 37 (Nw B) := fun X Y => (Row.new1 w _ _ _).alloc _
 have hz : ∀ X Y, Row (((w.alloc X).alloc Y).alloc (.cells #[.int .u32 0, .int .u32 0, .int .u32 0, .int .u32 0, .int .u32 0, .int .u32 0, .int .u32 0, .int .u32 0] 37)) (w.heap.size + 1 + 1) 37 (Nw 0) := fun X Y => by
  rw [Nw_zero]
  exact Row.new2 w _ _ _ _
 have HA := yH ha
 have HB := yH hb
 have HZ := yH hz
 clear ha hb hz
 go_enter Tryz.func38, Tryz.ntmps38
 go_wp2_with (first
  | (refine wpList_load_row rfl 37 (.tmp 2) rfl w.heap.size rfl 37 _ (0, 0) _ (HA.out _ _) Tryz.underlying37 rfl (HS4.out _) ?_)
  | (refine wpList_load_row rfl 37 (.tmp 3) rfl (w.heap.size + 1) rfl 37 _ (0, 0) _ (HB.out _ _) Tryz.underlying37 rfl (HS4.out _) ?_))
 refine (HM.out _).mono ?_
 rintro e w1 ⟨rfl, hb1⟩
 have hz1 := (HZ.out _ _).belowAll hb1
 have hw1 := (Below.alloc3 w _ _ _).trans (hb1.mono (Below.alloc3 w _ _ _).size)
 have hlt := hz1.lt
 have hn := nw_zero_row w1
 have hd := hn.setRow (Nw (A - B))
 have hz2 := (hz1.alloc (.cells #[.int .u32 0, .int .u32 0, .int .u32 0, .int .u32 0, .int .u32 0, .int .u32 0, .int .u32 0, .int .u32 0] 37)).setRowOther (k := w1.heap.size) (by omega) (Nw (A - B)).toArray
 have hw2 := below_setRow (g := w1.heap.size) (hw1.alloc hw1.size (.cells #[.int .u32 0, .int .u32 0, .int .u32 0, .int .u32 0, .int .u32 0, .int .u32 0, .int .u32 0, .int .u32 0] 37)) hw1.size (Nw (A - B)).toArray
 have hgot := setRow_heap _ (w.heap.size + 1 + 1) _ (Nw (A - B)).toArray _ _ hz2
 have HZ2 := yH hz2
 have HW2 := yH hw2
 have HN := yH hn
 have HD := yH hd
 have HGOT := yH hgot
 clear hb1 hz1 hw1 hn hd hz2 hw2 hgot
 go_wp2_with (first
  | (refine wpList_store_row rfl 37 (.tmp 5) (.tmp 13) rfl w1.heap.size _ rfl rfl 37 _ HN.out (HS4.out _) (Nw_sz _ _) (Nw_one _) ?_)
  | (refine wpList_load_row rfl 37 (.tmp 5) rfl w1.heap.size rfl 37 _ (0, 0) _ HD.out Tryz.underlying37 rfl (HS4.out _) ?_)
  | (refine wpList_store_row rfl 37 (.tmp 4) (.tmp 17) rfl (w.heap.size + 1 + 1) _ rfl rfl 37 _ HZ2.out (HS4.out _) (Nw_sz _ _) (Nw_one _) ?_))
 refine bodyPost_ret (results_cell_row (by rfl) _ _ (w.heap.size + 1 + 1) _ _ _ _ (by rfl) HGOT.out Tryz.underlying37 rfl (HS4.out _)) rfl ?_
 exact ⟨rfl, below_setRow HW2.out (by omega) _⟩
set_option maxHeartbeats 3200000 in
theorem subr_lt (A B : Nat) (hA : A < pp) (hB : B < pp) (h : A < B) (w : World) :
  Calls Tryz.prog 38 #[.agg (Nw A).toArray, .agg (Nw B).toArray] w fun e w' => e = .returned (.agg (Nw ((A + (pp - B)) % pp)).toArray) ∧ Below w.heap.size w w' := by
 have hm := fun wx => minus_ref A B (Nat.lt_trans hA pp_W8) (Nat.lt_trans hB pp_W8) wx
 rw [decide_eq_true h] at hm
 have hn := fun wx => minus_ref pp B pp_W8 (Nat.lt_trans hB pp_W8) wx
 rw [dif8_sub (Nat.le_of_lt hB), decide_eq_false (by omega)] at hn
 have hsum : A + (pp - B) < W8 := by
  have : pp < W8 := pp_W8
  omega
 have had := fun wx => addr_ref A (pp - B) hsum wx
 have HM := yH hm
 have HN := yH hn
 have HAD := yH had
 have HS4 := yH nw_info
 clear hm hn had hsum hA hB h
 have ha : ∀ X Y, Row (((w.alloc (.cells (Nw A).toArray 37)).alloc X).alloc Y) w.heap.size 37 (Nw A) := fun X Y => ((Row.new w _ _).alloc _).alloc _
 have hb : ∀ X Y, Row (((w.alloc X).alloc (.cells (Nw B).toArray 37)).alloc Y) (w.heap.size + 1) 37 (Nw B) := fun X Y => (Row.new1 w _ _ _).alloc _
 have hz : ∀ X Y, Row (((w.alloc X).alloc Y).alloc (.cells #[.int .u32 0, .int .u32 0, .int .u32 0, .int .u32 0, .int .u32 0, .int .u32 0, .int .u32 0, .int .u32 0] 37)) (w.heap.size + 1 + 1) 37 (Nw 0) := fun X Y => by
  rw [Nw_zero]
  exact Row.new2 w _ _ _ _
 have HA := yH ha
 have HB := yH hb
 have HZ := yH hz
 clear ha hb hz
 go_enter Tryz.func38, Tryz.ntmps38
 go_wp2_with (first
  | (refine wpList_load_row rfl 37 (.tmp 2) rfl w.heap.size rfl 37 _ (0, 0) _ (HA.out _ _) Tryz.underlying37 rfl (HS4.out _) ?_)
  | (refine wpList_load_row rfl 37 (.tmp 3) rfl (w.heap.size + 1) rfl 37 _ (0, 0) _ (HB.out _ _) Tryz.underlying37 rfl (HS4.out _) ?_))
 refine (HM.out _).mono ?_
 rintro e w1 ⟨rfl, hb1⟩
 have ha1 := (HA.out _ _).belowAll hb1
 have hb1r := (HB.out _ _).belowAll hb1
 have hz1 := (HZ.out _ _).belowAll hb1
 have hw1 := (Below.alloc3 w _ _ _).trans (hb1.mono (Below.alloc3 w _ _ _).size)
 have hlt := hz1.lt
 have hn := nw_zero_row w1
 have ha2 := (ha1.alloc (.cells #[.int .u32 0, .int .u32 0, .int .u32 0, .int .u32 0, .int .u32 0, .int .u32 0, .int .u32 0, .int .u32 0] 37)).setRowOther (k := w1.heap.size) (by omega) (Nw (dif8 A B)).toArray
 have hb2 := (hb1r.alloc (.cells #[.int .u32 0, .int .u32 0, .int .u32 0, .int .u32 0, .int .u32 0, .int .u32 0, .int .u32 0, .int .u32 0] 37)).setRowOther (k := w1.heap.size) (by omega) (Nw (dif8 A B)).toArray
 have hz2 := (hz1.alloc (.cells #[.int .u32 0, .int .u32 0, .int .u32 0, .int .u32 0, .int .u32 0, .int .u32 0, .int .u32 0, .int .u32 0] 37)).setRowOther (k := w1.heap.size) (by omega) (Nw (dif8 A B)).toArray
 have hw2 := below_setRow (g := w1.heap.size) (hw1.alloc hw1.size (.cells #[.int .u32 0, .int .u32 0, .int .u32 0, .int .u32 0, .int .u32 0, .int .u32 0, .int .u32 0, .int .u32 0] 37)) hw1.size (Nw (dif8 A B)).toArray
 have HA2 := yH ha2
 have HB2 := yH hb2
 have HZ2 := yH hz2
 have HW2 := yH hw2
 have HZN := yH hn
 clear hb1 hz1 hw1 hn ha2 hb2 hz2 hw2 ha1 hb1r
 go_wp2_with (refine wpList_store_row rfl 37 (.tmp 5) (.tmp 13) rfl w1.heap.size _ rfl rfl 37 _ HZN.out (HS4.out _) (Nw_sz _ _) (Nw_one _) ?_)
 have ha3 := HA2.out
 have hb3 := HB2.out
 have hz3 := HZ2.out
 have hw3 := HW2.out
 clear HA2 HB2 HZ2 HW2 HZN
 generalize (w1.alloc (.cells #[.int .u32 0, .int .u32 0, .int .u32 0, .int .u32 0, .int .u32 0, .int .u32 0, .int .u32 0, .int .u32 0] 37)).setRow w1.heap.size (Nw (dif8 A B)).toArray = W2 at *
 refine wp_vars_one (aD := ?aD2) (B := W2.heap.size) (S := fun w' => Below W2.heap.size W2 w') (k1 := 6) (s1 := 7) (T1 := 37) (L1 := 37) (z1 := Nw 0) (c1 := Nw (pp - B)) (x1 := .tmp 7) (y1 := .tmp 22)
  (vs := [(0, .agg (Nw pp).toArray), (1, .agg (Nw B).toArray), (2, .tuple #[.agg (Nw (pp - B)).toArray, .bool false]), (3, .tuple #[.agg (Nw (pp - B)).toArray, .bool false]), (4, .agg (Nw (pp - B)).toArray), (5, .bool false), (8, .bool false)]) (by kernel_rfl) ((Below.refl _ _).drew) (fun _ _ h k => S_trans h k) (fun _ _ _ h hg => S_row h hg _) (fun _ h => h.size) ?hD2 ?hA2 ?hk2 rfl rfl (some 7) rfl rfl rfl ?e1 ?e2 (HS4.out _) (Nw_sz _ _) (Nw_one _) ?h2
 case hD2 =>
  refine .s 19 rfl (Gives.c (args := []) rfl Tryz.func32 (fun w' _ => P_any w')) ?_
  refine .s 20 rfl (Gives.l 37 (.tmp 3) (w.heap.size + 1) (fun w' h => hb3.belowAll h) Tryz.underlying37 (HS4.out _)) ?_
  refine .s 21 rfl (Gives.c (args := [.agg (Nw pp).toArray, .agg (Nw B).toArray]) rfl Tryz.func74 (fun w' _ => HN.out w')) ?_
  refine .s 18 rfl (Gives.move (x := .tmp 21) rfl rfl) ?_
  refine .s 22 rfl (Gives.extract (.tmp 18) 0 rfl _ _ rfl (fun w' => nw_ext0 _ _ w')) ?_
  refine .s 23 rfl (Gives.extract (.tmp 18) 1 rfl _ _ rfl (fun w' => nw_ext1 _ _ w')) ?_
  refine .s 8 rfl (Gives.assign (x := .tmp 23) rfl rfl) ?_
  exact .nil
 case hA2 =>
  rw [Nw_zero]
  exact AllocOp.of rfl rfl rfl (fun w' => rfl)
 case hk2 => kernel_rfl
 case e1 => exact fun p => rfl
 case e2 => exact fun p => rfl
 case h2 =>
 intro p w4 hb4 hp hrowp
 simp only [Act.put, yA, yB, yC]
 have ha4 := ha3.belowAll hb4
 have hz4 := hz3.belowAll hb4
 have hw4 := hw3.trans (hb4.mono hw3.size)
 have HA4 := yH ha4
 have HP4 := yH hrowp
 clear ha3 hb3 hz3 hw3 hb4 ha4 hrowp
 have HZ4 := yH hz4
 have HW4 := yH hw4
 clear hz4 hw4
 go_wp2_with (first
  | (refine wpList_load_row rfl 37 (.tmp 2) rfl w.heap.size rfl 37 _ (0, 0) _ HA4.out Tryz.underlying37 rfl (HS4.out _) ?_)
  | (refine wpList_load_row rfl 37 (.tmp 7) rfl p rfl 37 _ (0, 0) _ HP4.out Tryz.underlying37 rfl (HS4.out _) ?_))
 refine (HAD.out _).mono ?_
 rintro e w5 ⟨rfl, hb5⟩
 have hz5 := HZ4.out.belowAll hb5
 have hw5 := HW4.out.trans (hb5.mono HW4.out.size)
 have HW5 := yH hw5
 clear hb5 hw5
 go_wp2_with (refine wpList_store_row rfl 37 (.tmp 4) (.tmp 26) rfl (w.heap.size + 1 + 1) _ rfl rfl 37 _ hz5 (HS4.out _) (Nw_sz _ _) (Nw_one _) ?_)
 have hgot := setRow_heap w5 (w.heap.size + 1 + 1) _ (Nw ((A + (pp - B)) % pp)).toArray _ _ hz5
 refine bodyPost_ret (results_cell_row (by rfl) _ _ (w.heap.size + 1 + 1) _ _ _ _ (by rfl) hgot Tryz.underlying37 rfl (HS4.out _)) rfl ?_
 exact ⟨rfl, below_setRow HW5.out (by omega) _⟩
theorem subr_ref (A B : Nat) (hA : A < pp) (hB : B < pp) (w : World) :
  Calls Tryz.prog 38 #[.agg (Nw A).toArray, .agg (Nw B).toArray] w fun e w' => e = .returned (.agg (Nw ((A + (pp - B)) % pp)).toArray) ∧ Below w.heap.size w w' := by
 by_cases h : A < B
 ·exact subr_lt A B hA hB h w
 ·have e : (A + (pp - B)) % pp = A - B := by
   have e1 : A + (pp - B) = (A - B) + pp := by omega
   rw [e1, Nat.add_mod_right]
   exact Nat.mod_eq_of_lt (by omega)
  rw [e]
  exact subr_le A B hA hB (by omega) w
end
end
section
open Go.RowKit
set_option maxHeartbeats 800000 in
theorem canonical_any (N : Nat) (hN : N < 256 ^ 32) (hok : (ofB N).ok) (w : World) :
  Calls Tryz.prog 76 #[.agg (By N 32).toArray] w fun e w' => e = .returned (.bool (decide (nu (ofB N) = N))) ∧ Below w.heap.size w w' := by
 have HOF := yH (fun wx => of_any N wx)
 have HBY := yH (bytes_any hok)
 have HEQ := yH (fun w => beq_num (nu_256 (ofB N)) hN w)
 have hr1 := Row.new w (By N 32) 22
 have hb2 := (Below.refl w.heap.size w).alloc (Nat.le_refl _) (.cells (By N 32).toArray 22)
 clear hN hok
 generalize ofB N = m at *
 go_enter Tryz.func76, Tryz.ntmps76
 go_wp2_with fail
 generalize w.alloc (.cells (By N 32).toArray 22) = w2 at *
 have hSB : ∀ a b, Below w2.heap.size w2 a → Below a.heap.size a b → Below w2.heap.size w2 b := fun a b h k => h.trans (k.mono h.size)
 refine wp_flat_none (aD := ?aD) (S := fun w' => Below w2.heap.size w2 w') (vs := [(0, .agg (By N 32).toArray), (1, .agg (EL m).toArray), (2, .agg (By (nu m) 32).toArray), (3, .agg (By N 32).toArray), (4, .bool (decide (nu m = N))), (5, .bool (decide (nu m = N)))]) (by kernel_rfl) ((Below.refl _ _).drew) hSB ?hD ?hk ?hend
 case hD =>
  refine .s 3 rfl (Gives.l 22 (.tmp 1) w.heap.size (fun w' h => hr1.belowAll h) Tryz.underlying22 (by_info _)) ?_
  refine .s 4 rfl (Gives.call rfl Tryz.func57 (by kernel_rfl) (by kernel_rfl) rfl (fun w' _ => HOF.out w')) ?_
  refine .s 5 rfl (Gives.call rfl Tryz.func62 (by kernel_rfl) (by kernel_rfl) rfl (fun w' _ => HBY.out w')) ?_
  refine .s 6 rfl (Gives.l 22 (.tmp 1) w.heap.size (fun w' h => hr1.belowAll h) Tryz.underlying22 (by_info _)) ?_
  refine .s 7 rfl (Gives.binop .eql 22 22 (.tmp 5) (.tmp 6) rfl _ _ _ rfl rfl (fun w' => bgrd _ _ _ _ _ _) (fun w' => HEQ.out w')) ?_
  refine .s 2 rfl (Gives.assign (x := .tmp 7) rfl rfl) ?_
  exact .nil
 case hk => kernel_rfl
 case hend =>
  intro w' hb
  go_wp2_with fail
  go_ret
  exact ⟨rfl, hb2.trans (hb.mono hb2.size)⟩
end
end
section
section
open Go.RowKit
theorem st_div (S z n : Nat) : (S + 4294967296 ^ n * z) / 4294967296 ^ n = S / 4294967296 ^ n + z := Nat.add_mul_div_left _ _ (pW n)
theorem st_low (S z : Nat) {k n : Nat} (hk : k < n) : dw (S + 4294967296 ^ n * z) k = dw S k := by
 unfold dw
 have e : (4294967296 : Nat) ^ n = 4294967296 ^ k * (4294967296 * 4294967296 ^ (n - k - 1)) := by
  rw [← Nat.pow_succ', ← Nat.pow_add]
  congr 1
  omega
 rw [e, Nat.mul_assoc, Nat.mul_assoc, Nat.add_mul_div_left _ _ (pW k), Nat.add_mul_mod_self_left]
theorem st_dig (S z n : Nat) : dw (S + 4294967296 ^ n * z) n = (S / 4294967296 ^ n + z) % 4294967296 := by
 unfold dw
 rw [st_div]
theorem st_over (S z n : Nat) : (S + 4294967296 ^ n * z) / 4294967296 ^ (n + 1) = (S / 4294967296 ^ n + z) / 4294967296 := by
 rw [Nat.pow_succ, ← Nat.div_div_eq_div_mul, st_div]
theorem mx_step (K : IntKind) (S X z : Nat) {n L : Nat} (hn : n < L) {v : Nat} (hv : v = (S / 4294967296 ^ n + z) % 4294967296) :
  (Tabs K (mixq S X n) L).set n (.int K ((v : Nat) : Int)) = Tabs K (mixq (S + 4294967296 ^ n * z) X (n + 1)) L := by
 refine List.ext_getElem? fun j => ?_
 by_cases hj : j < L
 ·rw [List.getElem?_set, Tabs_get _ _ _ hj, Tabs_get _ _ _ hj]
  unfold mixq
  by_cases e : n = j
  ·subst e
   rw [if_pos rfl, if_pos (by rw [Tabs_length]; exact hn), if_pos (by omega), st_dig, hv]
  ·rw [if_neg e]
   by_cases h2 : j < n
   ·rw [if_pos h2, if_pos (by omega), st_low _ _ h2]
   ·rw [if_neg h2, if_neg (by omega)]
 ·rw [List.getElem?_eq_none (by rw [List.length_set, Tabs_length]; omega), List.getElem?_eq_none (by rw [Tabs_length]; omega)]
theorem mx_at (K : IntKind) (S X : Nat) {n L : Nat} (hn : n < L) : (Tabs K (mixq S X n) L)[n]? = some (.int K ((dw X n : Nat) : Int)) := by
 rw [Tabs_get _ _ _ hn]
 unfold mixq
 rw [if_neg (by omega)]
theorem dw_mod (X : Nat) {k n : Nat} (hk : k < n) : dw (X % 4294967296 ^ n) k = dw X k := by
 have h := st_low (X % 4294967296 ^ n) (X / 4294967296 ^ n) hk
 rw [Nat.mod_add_div] at h
 exact h.symm
def sI (A B i j : Nat) : Nat := A % 4294967296 ^ i * B % 4294967296 ^ (i + j) + 4294967296 ^ i * (dw A i * (B % 4294967296 ^ j))
def cI (A B i j : Nat) : Nat := sI A B i j / 4294967296 ^ (i + j)
theorem sI_succ (A B i j : Nat) : sI A B i (j + 1) = sI A B i j + 4294967296 ^ (i + j) * (dw (A % 4294967296 ^ i * B) (i + j) + dw A i * dw B j) := by
 unfold sI
 rw [show i + (j + 1) = i + j + 1 from rfl, mod_dw, mod_dw B j]
 generalize A % 4294967296 ^ i * B = X
 generalize dw A i = a
 generalize dw B j = b
 generalize B % 4294967296 ^ j = r
 rw [Nat.mul_add a, Nat.mul_add (4294967296 ^ i), Nat.mul_add (4294967296 ^ (i + j))]
 have e : 4294967296 ^ i * (a * (4294967296 ^ j * b)) = 4294967296 ^ (i + j) * (a * b) := by
  rw [Nat.pow_add, Nat.mul_left_comm a, Nat.mul_assoc (4294967296 ^ i)]
 rw [e]
 omega
theorem cI_zero (A B i : Nat) : cI A B i 0 = 0 := by
 unfold cI sI
 rw [Nat.pow_zero, Nat.mod_one, Nat.mul_zero, Nat.mul_zero, Nat.add_zero, Nat.add_zero]
 exact Nat.div_eq_of_lt (Nat.mod_lt _ (pW i))
theorem cI_lt (A B i j : Nat) : cI A B i j < 4294967296 := by
 unfold cI
 refine (Nat.div_lt_iff_lt_mul (pW _)).2 ?_
 unfold sI
 have h1 := Nat.mod_lt (A % 4294967296 ^ i * B) (pW (i + j))
 have h2 : dw A i * (B % 4294967296 ^ j) ≤ 4294967295 * 4294967296 ^ j := Nat.mul_le_mul (by have := dw_lt A i; omega) (Nat.le_of_lt (Nat.mod_lt _ (pW j)))
 have h3 := Nat.mul_le_mul_left (4294967296 ^ i) h2
 have e : 4294967296 ^ i * (4294967295 * 4294967296 ^ j) = 4294967295 * 4294967296 ^ (i + j) := by rw [Nat.mul_left_comm, ← Nat.pow_add]
 rw [e] at h3
 generalize 4294967296 ^ (i + j) = m at *
 omega
theorem cI_step (A B i j : Nat) : (cI A B i j + (dw (A % 4294967296 ^ i * B) (i + j) + dw A i * dw B j)) / 4294967296 = cI A B i (j + 1) := by
 unfold cI
 rw [sI_succ, show i + (j + 1) = i + j + 1 from rfl, st_over]
theorem tI_zero (A B i L : Nat) : Tabs .u64 (mixq (sI A B i 0) (A % 4294967296 ^ i * B) (i + 0)) L = Tabs .u64 (dw (A % 4294967296 ^ i * B)) L := Tabs_congr _ fun k _ => by
 unfold mixq
 split
 ·unfold sI
  rw [Nat.pow_zero, Nat.mod_one, Nat.mul_zero, Nat.mul_zero, Nat.add_zero, dw_mod _ (by assumption)]
 ·rfl
theorem tI_step (A B i j : Nat) (h : i + j < 16) {v : Nat} (hv : v = (cI A B i j + (dw (A % 4294967296 ^ i * B) (i + j) + dw A i * dw B j)) % 4294967296) :
  (Tabs .u64 (mixq (sI A B i j) (A % 4294967296 ^ i * B) (i + j)) 16).set (i + j) (.int .u64 ((v : Nat) : Int)) = Tabs .u64 (mixq (sI A B i (j + 1)) (A % 4294967296 ^ i * B) (i + (j + 1))) 16 := by
 rw [sI_succ]
 exact mx_step _ _ _ _ h hv
theorem X_lt (A i : Nat) {B : Nat} (hB : B < W8) : A % 4294967296 ^ i * B < 4294967296 ^ (i + 8) := by
 rw [Nat.pow_add]
 exact Nat.mul_lt_mul'' (Nat.mod_lt _ (pW i)) hB
theorem sI_end (A i : Nat) {B : Nat} (hB : B < W8) : sI A B i 8 = A % 4294967296 ^ (i + 1) * B := by
 unfold sI
 rw [Nat.mod_eq_of_lt (X_lt A i hB), Nat.mod_eq_of_lt (show B < 4294967296 ^ 8 from hB), mod_dw, Nat.add_mul, Nat.mul_assoc]
theorem tI_end (A i : Nat) {B : Nat} (hB : B < W8) (hi : i + 8 < 16) : (Tabs .u64 (mixq (sI A B i 8) (A % 4294967296 ^ i * B) (i + 8)) 16).set (i + 8) (.int .u64 ((cI A B i 8 : Nat) : Int)) = Tabs .u64 (dw (A % 4294967296 ^ (i + 1) * B)) 16 := by
 have hX := X_lt A i hB
 have hX' := X_lt A (i + 1) hB
 have he := sI_end A i hB
 have hc : cI A B i 8 = dw (A % 4294967296 ^ (i + 1) * B) (i + 8) := by
  unfold cI dw
  rw [he]
  refine (Nat.mod_eq_of_lt ((Nat.div_lt_iff_lt_mul (pW _)).2 ?_)).symm
  rw [← Nat.pow_succ']
  rw [show (i + 8).succ = i + 1 + 8 by omega]
  exact hX'
 rw [hc, he]
 refine List.ext_getElem? fun k => ?_
 by_cases hk : k < 16
 ·rw [List.getElem?_set, Tabs_get _ _ _ hk, Tabs_get _ _ _ hk]
  unfold mixq
  by_cases e : i + 8 = k
  ·subst e
   rw [if_pos rfl, if_pos (by rw [Tabs_length]; exact hi)]
  ·rw [if_neg e]
   by_cases h2 : k < i + 8
   ·rw [if_pos h2]
   ·rw [if_neg h2, dw_of_lt' hX (by omega), dw_of_lt' hX' (by omega)]
 ·rw [List.getElem?_eq_none (by rw [List.length_set, Tabs_length]; omega), List.getElem?_eq_none (by rw [Tabs_length]; omega)]
def sF (T k : Nat) : Nat := T % 4294967296 ^ k + 38 * (T / 4294967296 ^ 8 % 4294967296 ^ k)
def cF (T k : Nat) : Nat := sF T k / 4294967296 ^ k
theorem dw_hi (T k : Nat) : dw (T / 4294967296 ^ 8) k = dw T (k + 8) := by
 unfold dw
 rw [Nat.div_div_eq_div_mul, ← Nat.pow_add, Nat.add_comm 8 k]
theorem sF_succ (T k : Nat) : sF T (k + 1) = sF T k + 4294967296 ^ k * (dw T k + 38 * dw T (k + 8)) := by
 unfold sF
 rw [mod_dw T, mod_dw (T / 4294967296 ^ 8), dw_hi, Nat.mul_add 38, Nat.mul_add (4294967296 ^ k), Nat.mul_left_comm 38]
 omega
theorem cF_zero (T : Nat) : cF T 0 = 0 := by
 unfold cF sF
 rw [Nat.pow_zero, Nat.mod_one, Nat.mod_one]
theorem cF_lt (T k : Nat) : cF T k < 39 := by
 unfold cF
 refine (Nat.div_lt_iff_lt_mul (pW _)).2 ?_
 unfold sF
 have h1 := Nat.mod_lt T (pW k)
 have h2 := Nat.mod_lt (T / 4294967296 ^ 8) (pW k)
 generalize 4294967296 ^ k = m at *
 omega
theorem cF_step (T k : Nat) : (cF T k + (dw T k + 38 * dw T (k + 8))) / 4294967296 = cF T (k + 1) := by
 unfold cF
 rw [sF_succ, st_over]
theorem tF_step (T : Nat) {k : Nat} (hk : k < 8) {v : Nat} (hv : v = (cF T k + (dw T k + 38 * dw T (k + 8))) % 4294967296) :
  (Tabs .u32 (mixq (sF T k) 0 k) 8).set k (.int .u32 ((v : Nat) : Int)) = Tabs .u32 (mixq (sF T (k + 1)) 0 (k + 1)) 8 := by
 rw [sF_succ]
 exact mx_step _ _ _ _ hk hv
theorem tF_zero (T : Nat) : Tabs .u32 (mixq (sF T 0) 0 0) 8 = Nw 0 := mixq_zero _ _ _
theorem tF_end (T : Nat) : Tabs .u32 (mixq (sF T 8) 0 8) 8 = Nw (sF T 8 % W8) := by
 rw [mixq_all]
 exact Tabs_congr _ fun k hk => (dw_mod _ hk).symm
theorem W8_38 : W8 = 38 + pp * 2 := by decide
theorem sF_pp {T : Nat} (hT : T < 4294967296 ^ 16) : (sF T 8 % W8 + W8 * cF T 8) % pp = T % pp := by
 have h1 : sF T 8 % W8 + W8 * cF T 8 = sF T 8 := Nat.mod_add_div _ _
 have h2 : T / 4294967296 ^ 8 < 4294967296 ^ 8 := by
  refine (Nat.div_lt_iff_lt_mul (pW _)).2 ?_
  rw [← Nat.pow_add]
  exact hT
 have h3 : T = T % 4294967296 ^ 8 + W8 * (T / 4294967296 ^ 8) := (Nat.mod_add_div _ _).symm
 rw [h1]
 unfold sF
 rw [Nat.mod_eq_of_lt h2]
 conv => rhs; rw [h3]
 rw [W8_38, Nat.add_mul, Nat.mul_assoc, ← Nat.add_assoc, Nat.add_mul_mod_self_left]
def sG (O v k : Nat) : Nat := 38 * v + O % 4294967296 ^ k
def cG (O v k : Nat) : Nat := sG O v k / 4294967296 ^ k
theorem sG_succ (O v k : Nat) : sG O v (k + 1) = sG O v k + 4294967296 ^ k * dw O k := by
 unfold sG
 rw [mod_dw, Nat.add_assoc]
theorem cG_zero (O v : Nat) : cG O v 0 = 38 * v := by
 unfold cG sG
 rw [Nat.pow_zero, Nat.mod_one, Nat.div_one, Nat.add_zero]
theorem cG_le (O k : Nat) {v : Nat} (hv : v < 39) : cG O v k < 2000 := by
 unfold cG
 refine (Nat.div_lt_iff_lt_mul (pW _)).2 ?_
 unfold sG
 have h1 := Nat.mod_lt O (pW k)
 have h2 := pW k
 generalize 4294967296 ^ k = m at *
 omega
theorem cG_step (O v k : Nat) : (cG O v k + dw O k) / 4294967296 = cG O v (k + 1) := by
 unfold cG
 rw [sG_succ, st_over]
theorem tG_step (O v : Nat) {k : Nat} (hk : k < 8) {d : Nat} (hd : d = (cG O v k + dw O k) % 4294967296) :
  (Tabs .u32 (mixq (sG O v k) O k) 8).set k (.int .u32 ((d : Nat) : Int)) = Tabs .u32 (mixq (sG O v (k + 1)) O (k + 1)) 8 := by
 rw [sG_succ]
 exact mx_step _ _ _ _ hk hd
theorem tG_zero (O v : Nat) : Tabs .u32 (mixq (sG O v 0) O 0) 8 = Nw O := mixq_zero _ _ _
theorem tG_end (O v : Nat) : Tabs .u32 (mixq (sG O v 8) O 8) 8 = Nw (sG O v 8 % W8) := by
 rw [mixq_all]
 exact Tabs_congr _ fun k hk => (dw_mod _ hk).symm
theorem sG_8 {O : Nat} (v : Nat) (hO : O < W8) : sG O v 8 = 38 * v + O := by
 unfold sG
 rw [Nat.mod_eq_of_lt (show O < 4294967296 ^ 8 from hO)]
theorem cG_all {O : Nat} (v : Nat) (hO : O < W8) : sG O v 8 % W8 + W8 * cG O v 8 = 38 * v + O := by
 rw [← sG_8 v hO]
 exact Nat.mod_add_div _ _
theorem G_pp (O v : Nat) : (38 * v + O) % pp = (O + W8 * v) % pp := by
 rw [W8_38, Nat.add_mul, Nat.mul_assoc, ← Nat.add_assoc, Nat.add_mul_mod_self_left, Nat.add_comm]
theorem cG_8 {O v : Nat} (hO : O < W8) (hv : v < 39) : cG O v 8 < 39 := by
 have h := cG_all v hO
 have hw : 2000 < W8 := by decide
 rcases Nat.lt_or_ge (cG O v 8) 39 with h1 | h1
 ·exact h1
 ·have := Nat.mul_le_mul_left W8 h1
  omega
end
section
open Go.RowKit
theorem u64_low (D : Nat) (h : D < 18446744073709551616) : bits .and .u64 (D : Int) 4294967295 = ((D % 4294967296 : Nat) : Int) := by
 have h1 := bits_mask .u64 64 (by decide) w64 32 (by decide) (D : Int) (by omega) (by omega)
 have h2 : ((D % 4294967296 : Nat) : Int) = (D : Int) % 2 ^ 32 := by omega
 rw [h2]
 exact h1
theorem prod_le {a b : Nat} (ha : a < 4294967296) (hb : b < 4294967296) : a * b ≤ 18446744065119617025 := Nat.mul_le_mul (show a ≤ 4294967295 by omega) (show b ≤ 4294967295 by omega)
theorem inn_step (A B k j : Nat) : ∃ x y z c pr v d : Nat, x = dw A k ∧ z = dw B j ∧ y = dw (A % 4294967296 ^ k * B) (k + j) ∧ c = cI A B k j ∧ pr = x * z ∧ v = (c + (y + pr)) % 4294967296 ∧ d = (c + (y + pr)) / 4294967296 ∧ d = cI A B k (j + 1) ∧ x < 4294967296 ∧ z < 4294967296 ∧ y < 4294967296 ∧ c < 4294967296 ∧ pr ≤ 18446744065119617025 :=
 ⟨_, _, _, _, _, _, _, rfl, rfl, rfl, rfl, rfl, rfl, rfl, cI_step A B k j, dw_lt _ _, dw_lt _ _, dw_lt _ _, cI_lt _ _ _ _, prod_le (dw_lt _ _) (dw_lt _ _)⟩
theorem fld_step (T k : Nat) : ∃ l h c v d : Nat, l = dw T k ∧ h = dw T (k + 8) ∧ c = cF T k ∧ v = (c + (l + 38 * h)) % 4294967296 ∧ d = (c + (l + 38 * h)) / 4294967296 ∧ d = cF T (k + 1) ∧ l < 4294967296 ∧ h < 4294967296 ∧ c < 39 :=
 ⟨_, _, _, _, _, rfl, rfl, rfl, rfl, rfl, cF_step T k, dw_lt _ _, dw_lt _ _, cF_lt _ _⟩
theorem low_step (O k : Nat) {u : Nat} (hu : u < 39) : ∃ l c v d : Nat, l = dw O k ∧ c = cG O u k ∧ v = (c + l) % 4294967296 ∧ d = (c + l) / 4294967296 ∧ d = cG O u (k + 1) ∧ l < 4294967296 ∧ c < 2000 :=
 ⟨_, _, _, _, rfl, rfl, rfl, rfl, cG_step O u k, dw_lt _ _, cG_le O k hu⟩
set_option maxHeartbeats 6400000 in
theorem mulr_ref (A B : Nat) (hA : A < W8) (hB : B < W8) (w : World) :
  Calls Tryz.prog 36 #[.agg (Nw A).toArray, .agg (Nw B).toArray] w fun e w' => e = .returned (.agg (Nw (A * B % pp)).toArray) ∧ Below w.heap.size w w' := by
 have HB := yH hB
 have HA := yH hA
 have HS4 := yH nw_info
 clear hA hB
 go_enter Tryz.func36, Tryz.ntmps36
 go_wp2_with fail
 go_loopw [6] (fun i wr => ∃ k : Nat, k ≤ 8 ∧ i = .int .i64 k ∧ Row wr w.heap.size 37 (Nw A) ∧ Row wr (w.heap.size + 1) 37 (Nw B) ∧ Row wr (w.heap.size + 1 + 1) 37 (Nw 0) ∧ Row wr (w.heap.size + 1 + 1 + 1) 108 (Tabs .u64 (dw (A % 4294967296 ^ k * B)) 16) ∧ Below w.heap.size w wr) (fun i _ => 8 - (intOf i).toNat)
 case atStart =>
  refine ⟨0, Nat.zero_le _, rfl, (((Row.new w _ _).alloc _).alloc _).alloc _, ((Row.new1 w _ _ _).alloc _).alloc _, ?_, ?_, Below.alloc4 _ _ _ _ _⟩
  ·rw [Nw_zero]
   exact (Row.new2 w _ _ _ _).alloc _
  ·have e : Tabs .u64 (dw (A % 4294967296 ^ 0 * B)) 16 = List.replicate 16 (.int .u64 0) := by
    rw [Nat.pow_zero, Nat.mod_one, Nat.zero_mul]
    exact (Tabs_congr _ fun i _ => dw_zero i).trans (Tab_zero .u64 (fun _ => 0) 16 ▸ (Tab_done .u64 (fun _ => 0) 16 ▸ rfl))
   rw [e]
   exact Row.new3 w _ _ _ (List.replicate 16 (.int .u64 0)) _
 case round =>
  obtain ⟨k, hkn, rfl, ha, hb, hz, ht, hbe⟩ := hrel
  by_cases hk : k < 8
  ·have bk0 : (0 : Int) ≤ (k : Int) := by omega
   have bk1 : (k : Int) < 8 := by omega
   have HRA := yH ha
   have HRB := yH hb
   have HRZ := yH hz
   have HRT := yH ht
   have HBE := yH hbe
   clear ha hb hz ht hbe
   go_wp2_with fail
   obtain ⟨wo, rfl⟩ : ∃ wo, wo = wr := ⟨_, rfl⟩
   go_loopw [7, 8] (fun o i wr => ∃ j : Nat, j ≤ 8 ∧ i = .int .i64 j ∧ o = .int .u64 ((cI A B k j : Nat) : Int) ∧ Row wr w.heap.size 37 (Nw A) ∧ Row wr (w.heap.size + 1) 37 (Nw B) ∧ Row wr (w.heap.size + 1 + 1) 37 (Nw 0) ∧ Row wr (w.heap.size + 1 + 1 + 1) 108 (Tabs .u64 (mixq (sI A B k j) (A % 4294967296 ^ k * B) (k + j)) 16) ∧ Below w.heap.size w wr) (fun _ i _ => 8 - (intOf i).toNat)
   case atStart => exact ⟨0, Nat.zero_le _, rfl, by rw [cI_zero]; rfl, HRA.out, HRB.out, HRZ.out, by rw [tI_zero]; exact HRT.out, HBE.out⟩
   case round =>
    obtain ⟨j, hj8, rfl, rfl, ha, hb, hz, ht, hbe⟩ := hrel
    by_cases hj : j < 8
    ·have hca := ha.cell (Nw_get A hk)
     have hcb := hb.cell (Nw_get B hj)
     have hct := ht.cell (mx_at .u64 (sI A B k j) (A % 4294967296 ^ k * B) (n := k + j) (L := 16) (by omega))
     have hfree := ht.free (k + j)
     obtain ⟨x, y, z, c, pr, v, d, hx, hzz, hy, hc, hpr, hv, hd, hdn, lx, lz, ly, lc, lp⟩ := inn_step A B k j
     have hset := ht.set (k + j) (.int .u64 ((v : Nat) : Int))
     rw [tI_step A B k j (by omega) (hv.trans (by rw [hc, hy, hpr, hx, hzz]))] at hset
     have hne : ∀ g, g < w.heap.size + 1 + 1 + 1 → g ≠ (⟨w.heap.size + 1 + 1 + 1, k + j, none⟩ : Addr).block := fun g h => by show g ≠ w.heap.size + 1 + 1 + 1; omega
     have ha2 := ha.setCell (hne _ (by omega)) (.int .u64 ((v : Nat) : Int))
     have hb2 := hb.setCell (hne _ (by omega)) (.int .u64 ((v : Nat) : Int))
     have hz2 := hz.setCell (hne _ (by omega)) (.int .u64 ((v : Nat) : Int))
     have hbe2 := hbe.setCell (p := ⟨w.heap.size + 1 + 1 + 1, k + j, none⟩) (by simp; omega) (.int .u64 ((v : Nat) : Int))
     rw [← hx] at hca
     rw [← hzz] at hcb
     rw [← hy] at hct
     rw [← hc]
     have hmul : IntKind.u64.wrap ((x : Int) * (z : Int)) = ((pr : Nat) : Int) := by
      have e : (x : Int) * (z : Int) = ((pr : Nat) : Int) := by rw [hpr]; simp
      rw [e, IntKind.wrap_u64]
      omega
     have w1 : IntKind.i64.wrap ((k : Int) + (j : Int)) = (k : Int) + (j : Int) := IntWalk.i64_in _ (by omega)
     have w4 : (0 : Int) ≤ (k : Int) + (j : Int) := by omega
     have w5 : ((k : Int) + (j : Int)).toNat = k + j := by omega
     have w6 : (k : Int) + (j : Int) < 16 := by omega
     have w2 : IntKind.u64.wrap ((y : Int) + (pr : Int)) = (y : Int) + (pr : Int) := by rw [IntKind.wrap_u64]; omega
     have w3 : IntKind.u64.wrap ((y : Int) + (pr : Int) + (c : Int)) = (y : Int) + (pr : Int) + (c : Int) := by rw [IntKind.wrap_u64]; omega
     have bj0 : (0 : Int) ≤ (j : Int) := by omega
     have bj1 : (j : Int) < 8 := by omega
     have HSET := yH hset
     have HA2 := yH ha2
     have HB2 := yH hb2
     have HZ2 := yH hz2
     have HBE2 := yH hbe2
     have HV := yH hv
     have HD := yH hd
     have HDN := yH hdn
     clear ha hb hz ht hbe hset ha2 hb2 hz2 hbe2 hx hzz hy hc hpr hv hd hdn hne
     go_wp2_with fail
     go_region
     have hsum : (y : Int) + (pr : Int) + (c : Int) = ((c + (y + pr) : Nat) : Int) := by omega
     rw [hsum]
     have hD : c + (y + pr) < 18446744073709551616 := by omega
     have hlo := u64_low _ hD
     have hv' := HV.out
     have hd' := HD.out
     generalize c + (y + pr) = D at *
     rw [← hv'] at hlo
     have hhi : ((D : Nat) : Int) / 4294967296 = ((d : Nat) : Int) := by omega
     clear hsum hv' hd' hmul w2 w3
     have HLO := yH hlo
     have HHI := yH hhi
     clear hlo hhi
     go_wp2_with fail
     rw [HLO.out, HHI.out]
     go_roundw
     case rel => exact ⟨j + 1, by omega, by go_num, by rw [← HDN.out], HA2.out, HB2.out, HZ2.out, HSET.out, HBE2.out.drew⟩
     case measure => simp [intOf] <;> omega
    ·obtain rfl : j = 8 := by omega
     have hct := ht.cell (Tabs_get .u64 (mixq (sI A B k 8) (A % 4294967296 ^ k * B) (k + 8)) 16 (j := k + 8) (by omega))
     have hfree := ht.free (k + 8)
     have hset := ht.set (k + 8) (.int .u64 ((cI A B k 8 : Nat) : Int))
     rw [tI_end A k HB.out (by omega)] at hset
     have hne : ∀ g, g < w.heap.size + 1 + 1 + 1 → g ≠ (⟨w.heap.size + 1 + 1 + 1, k + 8, none⟩ : Addr).block := fun g h => by show g ≠ w.heap.size + 1 + 1 + 1; omega
     have ha2 := ha.setCell (hne _ (by omega)) (.int .u64 ((cI A B k 8 : Nat) : Int))
     have hb2 := hb.setCell (hne _ (by omega)) (.int .u64 ((cI A B k 8 : Nat) : Int))
     have hz2 := hz.setCell (hne _ (by omega)) (.int .u64 ((cI A B k 8 : Nat) : Int))
     have hbe2 := hbe.setCell (p := ⟨w.heap.size + 1 + 1 + 1, k + 8, none⟩) (by simp; omega) (.int .u64 ((cI A B k 8 : Nat) : Int))
     have w1 : IntKind.i64.wrap ((k : Int) + 8) = (k : Int) + 8 := IntWalk.i64_in _ (by omega)
     have w4 : (0 : Int) ≤ (k : Int) + 8 := by omega
     have w5 : ((k : Int) + 8).toNat = k + 8 := by omega
     have w6 : (k : Int) + 8 < 16 := by omega
     generalize cI A B k 8 = c at *
     have HSET := yH hset
     have HA2 := yH ha2
     have HB2 := yH hb2
     have HZ2 := yH hz2
     have HBE2 := yH hbe2
     clear ha hb hz ht hbe hset ha2 hb2 hz2 hbe2 hne
     go_wp2_with fail
     go_roundw
     case rel => exact ⟨k + 1, by omega, by go_num, HA2.out, HB2.out, HZ2.out, HSET.out, HBE2.out⟩
     case measure => simp [intOf] <;> omega
  ·obtain rfl : k = 8 := by omega
   rw [Nat.mod_eq_of_lt (show A < 4294967296 ^ 8 from HA.out)] at ht
   have hT : A * B < 4294967296 ^ 16 := by
    rw [show (4294967296 : Nat) ^ 16 = 4294967296 ^ 8 * 4294967296 ^ 8 from by rw [← Nat.pow_add]]
    exact Nat.mul_lt_mul'' HA.out HB.out
   obtain ⟨T, hTe⟩ : ∃ T, T = A * B := ⟨_, rfl⟩
   rw [← hTe] at ht hT
   have HTE := yH hTe
   clear hTe
   have HRZ := yH hz
   have HRT := yH ht
   have HBE := yH hbe
   have HT16 := yH hT
   clear ha hb hz ht hbe hT
   go_wp2_with fail
   obtain ⟨wo, rfl⟩ : ∃ wo, wo = wr := ⟨_, rfl⟩
   go_loopw [11, 12] (fun o i wr => ∃ k : Nat, k ≤ 8 ∧ i = .int .i64 k ∧ o = .int .u64 ((cF T k : Nat) : Int) ∧ Row wr (w.heap.size + 1 + 1) 37 (Nw 0) ∧ Row wr (w.heap.size + 1 + 1 + 1) 108 (Tabs .u64 (dw T) 16) ∧ Row wr wo.heap.size 37 (Tabs .u32 (mixq (sF T k) 0 k) 8) ∧ Below w.heap.size w wr) (fun _ i _ => 8 - (intOf i).toNat)
   case atStart =>
    refine ⟨0, Nat.zero_le _, rfl, by rw [cF_zero]; rfl, HRZ.out.alloc _, HRT.out.alloc _, ?_, HBE.out.alloc HBE.out.size _⟩
    rw [tF_zero]
    exact nw_zero_row wo
   case round =>
    obtain ⟨k, hk8, rfl, rfl, hz, ht, hrow, hbe⟩ := hrel
    have hlt3 := HRT.out.lt
    have hsz := HBE.out.size
    by_cases hk : k < 8
    ·have hcl := ht.cell (Tabs_get .u64 (dw T) 16 (j := k) (by omega))
     have hch := ht.cell (Tabs_get .u64 (dw T) 16 (j := k + 8) (by omega))
     have hco := hrow.cell (mx_at .u32 (sF T k) 0 hk)
     have hfree := hrow.free k
     obtain ⟨l, h, c, v, d, hl, hh, hc, hv, hd, hdn, ll, lh, lc⟩ := fld_step T k
     have hset := hrow.set k (.int .u32 ((v : Nat) : Int))
     rw [tF_step T hk (hv.trans (by rw [hc, hl, hh]))] at hset
     have hne : ∀ g, g < wo.heap.size → g ≠ (⟨wo.heap.size, k, none⟩ : Addr).block := fun g h => by show g ≠ wo.heap.size; omega
     have hz2 := hz.setCell (hne _ (by omega)) (.int .u32 ((v : Nat) : Int))
     have ht2 := ht.setCell (hne _ (by omega)) (.int .u32 ((v : Nat) : Int))
     have hbe2 := hbe.setCell (p := ⟨wo.heap.size, k, none⟩) (by simp; omega) (.int .u32 ((v : Nat) : Int))
     rw [← hl] at hcl
     rw [← hh] at hch
     rw [← hc]
     have w1 : IntKind.i64.wrap ((k : Int) + 8) = (k : Int) + 8 := IntWalk.i64_in _ (by omega)
     have w4 : (0 : Int) ≤ (k : Int) + 8 := by omega
     have w5 : ((k : Int) + 8).toNat = k + 8 := by omega
     have w6 : (k : Int) + 8 < 16 := by omega
     have bk0 : (0 : Int) ≤ (k : Int) := by omega
     have bk1 : (k : Int) < 8 := by omega
     have HSET := yH hset
     have HZ2 := yH hz2
     have HT2 := yH ht2
     have HBE2 := yH hbe2
     have HV := yH hv
     have HD := yH hd
     have HDN := yH hdn
     have HCO := yH hco
     clear hz ht hrow hbe hset hz2 ht2 hbe2 hl hh hc hv hd hdn hne hlt3 hsz
     go_wp2_with fail
     go_region
     have hsum : (l : Int) + 38 * (h : Int) + (c : Int) = ((c + (l + 38 * h) : Nat) : Int) := by omega
     rw [hsum]
     have hD : c + (l + 38 * h) < 18446744073709551616 := by omega
     have hv' := HV.out
     have hd' := HD.out
     generalize c + (l + 38 * h) = D at *
     have hlo : ((D : Nat) : Int) % 4294967296 = ((v : Nat) : Int) := by omega
     have hhi : ((D : Nat) : Int) / 4294967296 = ((d : Nat) : Int) := by omega
     clear hsum hv' hd'
     have HLO := yH hlo
     have HHI := yH hhi
     clear hlo hhi
     have hco := HCO.out
     go_wp2_with fail
     rw [HLO.out, HHI.out]
     go_roundw
     case rel => exact ⟨k + 1, by omega, by go_num, by rw [← HDN.out], HZ2.out, HT2.out, HSET.out, HBE2.out.drew⟩
     case measure => simp [intOf] <;> omega
    ·obtain rfl : k = 8 := by omega
     rw [tF_end] at hrow
     have hpp := sF_pp HT16.out
     have hO : sF T 8 % W8 < W8 := Nat.mod_lt _ W8_pos
     have hv9 := cF_lt T 8
     generalize sF T 8 % W8 = O0 at *
     generalize cF T 8 = v0 at *
     have HRZ1 := yH hz
     have HROW1 := yH hrow
     have HBE1 := yH hbe
     have HPP := yH hpp
     have HO0 := yH hO
     have HV9 := yH hv9
     have HGE := yH (show w.heap.size + 1 + 1 < wo.heap.size by omega)
     clear hz ht hrow hbe hpp hO hv9 HBE HRZ HRT HT16 hlt3 hsz
     go_wp2_with fail
     obtain ⟨wq, rfl⟩ : ∃ wq, wq = wr := ⟨_, rfl⟩
     go_loopw [11] (fun o wr => ∃ O v : Nat, O < W8 ∧ v < 39 ∧ o = .int .u64 ((v : Nat) : Int) ∧ (O + W8 * v) % pp = T % pp ∧ Row wr (w.heap.size + 1 + 1) 37 (Nw 0) ∧ Row wr wo.heap.size 37 (Nw O) ∧ Below w.heap.size w wr) (fun o wr => rdN wr wo.heap.size + W8 * (intOf o).toNat)
     case atStart => exact ⟨O0, v0, HO0.out, HV9.out, rfl, HPP.out, HRZ1.out, HROW1.out, HBE1.out⟩
     case round =>
      obtain ⟨O, v, hO, hv9, rfl, hpp, hz, hrow, hbe⟩ := hrel
      by_cases hv0 : v = 0
      ·subst hv0
       rw [Nat.mul_zero, Nat.add_zero] at hpp
       have hdown := fun wx => down_ref O hO wx
       rw [hpp] at hdown
       have HDOWN := yH hdown
       have HRZ := yH hz
       have HROW := yH hrow
       have HBE := yH hbe
       clear hz hrow hbe hpp hdown hO HPP HO0 HRZ1 HROW1 HBE1
       go_wp2_with (refine wpList_load_row rfl 37 (.tmp 10) rfl wo.heap.size rfl 37 _ (0, 0) _ HROW.out Tryz.underlying37 rfl (HS4.out _) ?_)
       refine (HDOWN.out _).mono ?_
       rintro e w2 ⟨rfl, hb2⟩
       have hz2 := HRZ.out.belowAll hb2
       have hw2 := HBE.out.trans (hb2.mono HBE.out.size)
       have HW2 := yH hw2
       clear hb2 hw2
       go_wp2_with (refine wpList_store_row rfl 37 (.tmp 4) (.tmp 96) rfl (w.heap.size + 1 + 1) _ rfl rfl 37 _ hz2 (HS4.out _) (Nw_sz _ _) (Nw_one _) ?_)
       have hgot := setRow_heap w2 (w.heap.size + 1 + 1) _ (Nw (T % pp)).toArray _ _ hz2
       refine bodyPost_ret (results_cell_row (by rfl) _ _ (w.heap.size + 1 + 1) _ _ _ _ (by rfl) hgot Tryz.underlying37 rfl (HS4.out _)) rfl ?_
       exact ⟨by rw [HTE.out], below_setRow HW2.out (by omega) _⟩
      ·have hvp : 0 < v := by omega
       have hrd := rdN_row hrow hO
       have HRD := yH hrd
       have HRZ := yH hz
       have HROW := yH hrow
       have HBE := yH hbe
       have HOO := yH hO
       have HPV := yH hpp
       have b38 : (38 : Int) * (v : Int) = ((cG O v 0 : Nat) : Int) := by rw [cG_zero]; omega
       have HB38 := yH b38
       have w38 : (0 : Int) ≤ 38 * (v : Int) := by omega
       have w39 : 38 * (v : Int) < 18446744073709551616 := by omega
       clear hz hrow hbe hpp hO hrd b38 HPP HO0 HRZ1 HROW1 HBE1
       go_wp2_with fail
       obtain ⟨wp, rfl⟩ : ∃ wp, wp = wr := ⟨_, rfl⟩
       go_loopw [14, 15] (fun x i wr => ∃ k : Nat, k ≤ 8 ∧ i = .int .i64 k ∧ x = .int .u64 ((cG O v k : Nat) : Int) ∧ Row wr (w.heap.size + 1 + 1) 37 (Nw 0) ∧ Row wr wo.heap.size 37 (Tabs .u32 (mixq (sG O v k) O k) 8) ∧ Below w.heap.size w wr) (fun _ i _ => 8 - (intOf i).toNat)
       case atStart => exact ⟨0, Nat.zero_le _, rfl, by rw [← HB38.out], HRZ.out, by rw [tG_zero]; exact HROW.out, HBE.out⟩
       case round =>
        obtain ⟨k, hk8, rfl, rfl, hz, hrow, hbe⟩ := hrel
        have hsz := HBE.out.size
        have hlz := HRZ.out.lt
        by_cases hk : k < 8
        ·have hco := hrow.cell (mx_at .u32 (sG O v k) O hk)
         have hfree := hrow.free k
         obtain ⟨l, c, u, d, hl, hc, hu, hd, hdn, ll, lc⟩ := low_step O k hv9
         have hset := hrow.set k (.int .u32 ((u : Nat) : Int))
         rw [tG_step O v hk (hu.trans (by rw [hc, hl]))] at hset
         have hz2 := hz.setCell (p := ⟨wo.heap.size, k, none⟩) (by show w.heap.size + 1 + 1 ≠ wo.heap.size; have := HGE.out; omega) (.int .u32 ((u : Nat) : Int))
         have hbe2 := hbe.setCell (p := ⟨wo.heap.size, k, none⟩) (by show w.heap.size ≤ wo.heap.size; have := HGE.out; omega) (.int .u32 ((u : Nat) : Int))
         rw [← hl] at hco
         rw [← hc]
         have bk0 : (0 : Int) ≤ (k : Int) := by omega
         have bk1 : (k : Int) < 8 := by omega
         have HSET := yH hset
         have HZ2 := yH hz2
         have HBE2 := yH hbe2
         have HU := yH hu
         have HD := yH hd
         have HDN := yH hdn
         clear hz hrow hbe hset hz2 hbe2 hl hc hu hd hdn hsz hlz
         have hsum : (c : Int) + (l : Int) = ((c + l : Nat) : Int) := by omega
         have hD : c + l < 18446744073709551616 := by omega
         have hu' := HU.out
         have hd' := HD.out
         have hlo : ((c : Int) + (l : Int)) % 4294967296 = ((u : Nat) : Int) := by omega
         have hhi : ((c : Int) + (l : Int)) / 4294967296 = ((d : Nat) : Int) := by omega
         have HLO := yH hlo
         have HHI := yH hhi
         clear hlo hhi hsum hu' hd' hD
         go_wp2_with fail
         rw [HLO.out, HHI.out]
         go_roundw
         case rel => exact ⟨k + 1, by omega, by go_num, by rw [← HDN.out], HZ2.out, HSET.out, HBE2.out⟩
         case measure => simp [intOf] <;> omega
        ·obtain rfl : k = 8 := by omega
         have hall := cG_all v HOO.out
         have hgpp := G_pp O v
         rw [← hall, HPV.out] at hgpp
         have h9 := cG_8 HOO.out hv9
         rw [tG_end] at hrow
         have hO2 : sG O v 8 % W8 < W8 := Nat.mod_lt _ W8_pos
         have hrd2 := rdN_row hrow hO2
         generalize sG O v 8 % W8 = O2 at *
         generalize cG O v 8 = v2 at *
         have HZ2 := yH hz
         have HROW2 := yH hrow
         have HBE2 := yH hbe
         have HALL := yH hall
         have HGPP := yH hgpp
         have HO2 := yH hO2
         have HRD2 := yH hrd2
         clear hz hrow hbe hall hgpp hO2 hrd2 hsz hlz
         go_wp2_with fail
         go_roundw
         case rel => exact ⟨O2, v2, HO2.out, h9, rfl, HGPP.out, HZ2.out, HROW2.out, HBE2.out⟩
         case measure =>
          rw [HRD2.out, HRD.out]
          have hw : W8 = 115792089237316195423570985008687907853269984665640564039457584007913129639936 := W8_eq
          have := HALL.out
          simp [intOf]
          rw [hw] at this ⊢
          omega
end
end
theorem nu_W8 (x : Lm) : nu x < W8 := Nat.lt_trans (nu_pp x) pp_W8
theorem ofr_nu (N : Nat) (w : World) :
  Calls Tryz.prog 34 #[.agg (By N 32).toArray] w fun e w' => e = .returned (.agg (Nw (nu (ofB N))).toArray) ∧ Below w.heap.size w w' := by
 rw [nu_ofB]
 exact ofr_ref N w
theorem addr_nu (x y : Lm) (w : World) :
  Calls Tryz.prog 39 #[.agg (Nw (nu x)).toArray, .agg (Nw (nu y)).toArray] w fun e w' => e = .returned (.agg (Nw (nu (addL x y))).toArray) ∧ Below w.heap.size w w' := by
 rw [nu_addP]
 refine addr_ref _ _ ?_ w
 have h1 := nu_pp x
 have h2 := nu_pp y
 have h3 := W8_38
 omega
theorem subr_nu (x : Lm) {y : Lm} (hy : y.ok) (w : World) :
  Calls Tryz.prog 38 #[.agg (Nw (nu x)).toArray, .agg (Nw (nu y)).toArray] w fun e w' => e = .returned (.agg (Nw (nu (subL x y))).toArray) ∧ Below w.heap.size w w' := by
 rw [nu_subP x hy]
 exact subr_ref _ _ (nu_pp x) (nu_pp y) w
theorem negr_nu {x : Lm} (hx : x.ok) (w : World) :
  Calls Tryz.prog 38 #[.agg (Nw 0).toArray, .agg (Nw (nu x)).toArray] w fun e w' => e = .returned (.agg (Nw (nu (negL x))).toArray) ∧ Below w.heap.size w w' := by
 rw [nu_negP hx]
 have h := subr_ref 0 (nu x) (by decide) (nu_pp x) w
 rwa [Nat.zero_add] at h
theorem mulr_nu (x y : Lm) (w : World) :
  Calls Tryz.prog 36 #[.agg (Nw (nu x)).toArray, .agg (Nw (nu y)).toArray] w fun e w' => e = .returned (.agg (Nw (nu (mulL x y))).toArray) ∧ Below w.heap.size w w' := by
 rw [nu_mulP]
 exact mulr_ref _ _ (nu_W8 x) (nu_W8 y) w
theorem smallr_nu (n : Nat) (h : n < 4294967296) (w : World) :
  Calls Tryz.prog 35 #[.int .u32 (n : Int)] w fun e w' => e = .returned (.agg (Nw (nu (smL n))).toArray) ∧ Below w.heap.size w w' := by
 rw [nu_smL h]
 exact smallr_ref n h w
theorem Nw_map (N : Nat) : Nw N = ((List.range 8).map (dw N)).map fun x => Value.int .u32 ((x : Nat) : Int) := by unfold Nw; exact Tabs_map ..
theorem nguard8 : Tryz.prog.eqGuardType Tryz.prog.depth 37 = false := by kernel_rfl
theorem ngrd (op : BinOp) (x y : Operand) (us vs : Array Value) (w : World) : (eqGuard op 37 x y (.agg us) (.agg vs)).run Tryz.prog w = .ok () w := run_eqGuard_agg w op _ x y us vs nguard8
theorem dws_inj {N M : Nat} (hN : N < W8) (hM : M < W8) : ((List.range 8).map (dw N) = (List.range 8).map (dw M)) ↔ N = M := by
 constructor
 ·intro h
  have hs : ∀ X, X < W8 → ((List.range 8).map fun i => dw X i * 4294967296 ^ i).sum = X := fun X hX => (dw_sum X 8).trans (Nat.mod_eq_of_lt hX)
  have he : ((List.range 8).map fun i => dw N i * 4294967296 ^ i) = ((List.range 8).map fun i => dw M i * 4294967296 ^ i) := by
   refine List.map_congr_left fun i hi => ?_
   have h1 := congrArg (fun l : List Nat => l[i]?) h
   have h2 : i < 8 := List.mem_range.1 hi
   simp [h2] at h1
   rw [h1]
  rw [← hs N hN, ← hs M hM, he]
 ·rintro rfl; rfl
theorem neq_num {N M : Nat} (hN : N < W8) (hM : M < W8) (w : World) : (binOp .eql 37 (.agg (Nw N).toArray) (.agg (Nw M).toArray)).run Tryz.prog w = .ok (.bool (decide (N = M))) w := by
 obtain ⟨i, hi⟩ := info_of_underlying Tryz.underlying35
 rw [Nw_map, Nw_map, run_eql_nats w Tryz.underlying37 hi Tryz.underlying35 (by kernel_rfl) _ _ (by simp) (by simp)]
 congr 3
 exact propext (dws_inj hN hM)
theorem nne_num {N M : Nat} (hN : N < W8) (hM : M < W8) (w : World) : (binOp .neq 37 (.agg (Nw N).toArray) (.agg (Nw M).toArray)).run Tryz.prog w = .ok (.bool (!decide (N = M))) w := by
 obtain ⟨i, hi⟩ := info_of_underlying Tryz.underlying35
 rw [Nw_map, Nw_map, run_neq_nats w Tryz.underlying37 hi Tryz.underlying35 (by kernel_rfl) _ _ (by simp) (by simp)]
 congr 4
 exact propext (dws_inj hN hM)
theorem neq_zero (x : Lm) (w : World) : (binOp .eql 37 (.agg (Nw (nu x)).toArray) (.agg (Nw 0).toArray)).run Tryz.prog w = .ok (.bool (decide (nu x = 0))) w := neq_num (nu_W8 x) W8_pos w
theorem nw_build (w : World) : (Instr.build 37 #[]).run Tryz.prog w = .ok (.agg (Nw 0).toArray) w := by
 rw [Nw_zero]
 exact run_build w 37 _ _ (by kernel_rfl)
theorem nw_alloc (w : World) : (Instr.alloc 37 true (.tuple #[])).run Tryz.prog w = .ok (.pointer (some ⟨w.heap.size, 0, none⟩)) (w.alloc (.cells (Nw 0).toArray 37)) := by
 rw [Nw_zero]
 kernel_rfl
theorem canon_lt {N : Nat} (_h : N < 256 ^ 32) : decide (nu (ofB N) = N) = decide (N < pp) := by
 have hp := nu_pp (ofB N)
 by_cases h : N < pp
 ·have e : nu (ofB N) = N := by
   rw [nu_ofB, Nat.mod_eq_of_lt (Nat.lt_trans h (by decide))]
   exact Nat.mod_eq_of_lt h
  rw [decide_eq_true h, decide_eq_true e]
 ·rw [decide_eq_false h, decide_eq_false (fun e : nu (ofB N) = N => h (by rw [e] at hp; exact hp))]
theorem canonical_is (N : Nat) (hN : N < 256 ^ 32) (w : World) :
  Calls Tryz.prog 76 #[.agg (By N 32).toArray] w fun e w' => e = .returned (.bool (decide (N < pp))) ∧ Below w.heap.size w w' := by
 rw [← canon_lt hN]
 exact canonical_any N hN (ofB_ok N) w
section
section
open Go.RowKit
theorem pw_one {A e i : Nat} (h : e / 2 ^ i % 2 = 1) : A ^ (e % 2 ^ i) % pp * (A ^ (2 ^ i) % pp) % pp = A ^ (e % 2 ^ (i + 1)) % pp := by
 rw [Nat.pow_succ 2 i, Nat.mod_mul, h, Nat.mul_one, Nat.pow_add, ← Nat.mul_mod]
theorem pw_no {e i : Nat} (h : ¬ e / 2 ^ i % 2 = 1) : e % 2 ^ (i + 1) = e % 2 ^ i := by
 have h0 : e / 2 ^ i % 2 = 0 := by omega
 rw [Nat.pow_succ 2 i, Nat.mod_mul, h0, Nat.mul_zero, Nat.add_zero]
theorem pw_sq (A i : Nat) : A ^ (2 ^ i) % pp * (A ^ (2 ^ i) % pp) % pp = A ^ (2 ^ (i + 1)) % pp := by
 rw [← Nat.mul_mod, ← Nat.pow_add, Nat.pow_succ 2 i]
 congr 2
 omega
def pwA (A i : Nat) : Nat := A ^ (2 ^ i) % pp
def pwO (A e i : Nat) : Nat := A ^ (e % 2 ^ i) % pp
theorem pwA_zero {A : Nat} (h : A < pp) : pwA A 0 = A := by
 unfold pwA
 rw [Nat.pow_zero, Nat.pow_one, Nat.mod_eq_of_lt h]
theorem pwO_zero (A e : Nat) : pwO A e 0 = 1 := by
 unfold pwO
 rw [Nat.pow_zero, Nat.mod_one, Nat.pow_zero]
 rfl
theorem pwA_sq (A i : Nat) : pwA A i * pwA A i % pp = pwA A (i + 1) := pw_sq A i
theorem pwO_one {A e i : Nat} (h : e / 2 ^ i % 2 = 1) : pwO A e i * pwA A i % pp = pwO A e (i + 1) := pw_one h
theorem pwO_no {A e i : Nat} (h : ¬ e / 2 ^ i % 2 = 1) : pwO A e (i + 1) = pwO A e i := by
 unfold pwO
 rw [pw_no h]
theorem pwO_all {A e : Nat} (h : e < 2 ^ 256) : pwO A e 256 = A ^ e % pp := by
 unfold pwO
 rw [Nat.mod_eq_of_lt h]
theorem pwA_lt (A i : Nat) : pwA A i < W8 := Nat.lt_trans (Nat.mod_lt _ (by decide)) pp_W8
theorem pwO_lt (A e i : Nat) : pwO A e i < W8 := Nat.lt_trans (Nat.mod_lt _ (by decide)) pp_W8
def hf (N k i : Nat) : Nat := if i < k then dw N i else dw (N / 2) i
theorem hf_dig (N i : Nat) : dw (N / 2) i = dw N i / 2 + dw N (i + 1) % 2 * 2147483648 := by
 have h1 : N / 2 / 4294967296 ^ i = N / 4294967296 ^ i / 2 := by rw [Nat.div_div_eq_div_mul, Nat.div_div_eq_div_mul, Nat.mul_comm]
 have h2 := dw_succ N i
 have h3 := dw_succ N (i + 1)
 have l0 := dw_lt N i
 have e : dw (N / 2) i = N / 4294967296 ^ i / 2 % 4294967296 := by
  unfold dw
  rw [h1]
 rw [e]
 generalize N / 4294967296 ^ (i + 1 + 1) = c at *
 generalize N / 4294967296 ^ (i + 1) = b at *
 generalize N / 4294967296 ^ i = a at *
 omega
theorem hf_all (N : Nat) : Tabs .u32 (hf N 0) 8 = Nw (N / 2) := Tabs_congr _ fun i _ => by unfold hf; rw [if_neg (by omega)]
theorem hf_none (N : Nat) : Tabs .u32 (hf N 8) 8 = Nw N := Tabs_congr _ fun i h => by unfold hf; rw [if_pos h]
theorem hf_at (N : Nat) {k : Nat} (hk : k < 8) : (Tabs .u32 (hf N (k + 1)) 8)[k]? = some (.int .u32 ((dw N k : Nat) : Int)) := by
 rw [Tabs_get _ _ _ hk]
 unfold hf
 rw [if_pos (by omega)]
theorem hf_set (N : Nat) {k : Nat} (hk : k < 8) {v : Nat} (hv : v = dw N k / 2 + dw N (k + 1) % 2 * 2147483648) : (Tabs .u32 (hf N (k + 1)) 8).set k (.int .u32 ((v : Nat) : Int)) = Tabs .u32 (hf N k) 8 := by
 refine List.ext_getElem? fun j => ?_
 by_cases hj : j < 8
 ·rw [List.getElem?_set, Tabs_get _ _ _ hj, Tabs_get _ _ _ hj]
  unfold hf
  by_cases e : k = j
  ·subst e; rw [if_pos rfl, if_pos (by rw [Tabs_length]; exact hk), if_neg (by omega), hf_dig, hv]
  ·rw [if_neg e]
   by_cases h2 : j < k
   ·rw [if_pos h2, if_pos (by omega)]
   ·rw [if_neg h2, if_neg (by omega)]
 ·rw [List.getElem?_eq_none (by rw [List.length_set, Tabs_length]; omega), List.getElem?_eq_none (by rw [Tabs_length]; omega)]
end
section
open Go.RowKit
set_option maxHeartbeats 6400000 in
theorem powr_ref (A e : Nat) (hA : A < pp) (he : e < 2 ^ 256) (w : World) :
  Calls Tryz.prog 72 #[.agg (Nw A).toArray, .agg (By e 32).toArray] w fun e' w' => e' = .returned (.agg (Nw (A ^ e % pp)).toArray) ∧ Below w.heap.size w w' := by
 rw [← pwO_all he]
 have HMUL := yH (fun a b ha hb wx => mulr_ref a b ha hb wx)
 have HSM := yH (smallr_ref 1 (by decide))
 have HS4 := yH nw_info
 have HSB := yH by_info
 have hA0 := pwA_zero hA
 have hr1 := ((Row.new w (Nw A) 37).alloc (.cells (By e 32).toArray 22)).alloc (.cells (Nw 0).toArray 37)
 have hr2 := (Row.new1 w (.cells (Nw A).toArray 37) (By e 32) 22).alloc (.cells (Nw 0).toArray 37)
 have hr3 := Row.new2 w (.cells (Nw A).toArray 37) (.cells (By e 32).toArray 22) (Nw 0) 37
 have hb0 := Below.alloc3 w (.cells (Nw A).toArray 37) (.cells (By e 32).toArray 22) (.cells (Nw 0).toArray 37)
 have hs0 : (((w.alloc (.cells (Nw A).toArray 37)).alloc (.cells (By e 32).toArray 22)).alloc (.cells (Nw 0).toArray 37)).heap.size = w.heap.size + 1 + 1 + 1 := by simp
 rw [Nw_zero] at hr1 hr2 hr3 hb0 hs0
 have HR1 := yH hr1
 have HR2 := yH hr2
 have HR3 := yH hr3
 have HB0 := yH hb0
 have HS0 := yH hs0
 have HA0 := yH hA0
 clear hr1 hr2 hr3 hb0 hs0 hA0 hA he
 go_enter Tryz.func72, Tryz.ntmps72
 go_wp2_with fail
 refine (HSM.out _).mono ?_
 rintro e1 w1 ⟨rfl, hb1⟩
 have hsz := hb1.size
 rw [HS0.out] at hsz
 have hx1 := HR1.out.belowAll hb1
 have hn1 := HR2.out.belowAll hb1
 have hz1 := HR3.out.belowAll hb1
 have hw1 := HB0.out.trans (hb1.mono HB0.out.size)
 have hv0 := nw_zero_row w1
 have hv1 := hv0.setRow (Nw 1)
 have hx2 := (hx1.alloc (.cells #[.int .u32 0, .int .u32 0, .int .u32 0, .int .u32 0, .int .u32 0, .int .u32 0, .int .u32 0, .int .u32 0] 37)).setRowOther (k := w1.heap.size) (by omega) (Nw 1).toArray
 have hn2 := (hn1.alloc (.cells #[.int .u32 0, .int .u32 0, .int .u32 0, .int .u32 0, .int .u32 0, .int .u32 0, .int .u32 0, .int .u32 0] 37)).setRowOther (k := w1.heap.size) (by omega) (Nw 1).toArray
 have hz2 := (hz1.alloc (.cells #[.int .u32 0, .int .u32 0, .int .u32 0, .int .u32 0, .int .u32 0, .int .u32 0, .int .u32 0, .int .u32 0] 37)).setRowOther (k := w1.heap.size) (by omega) (Nw 1).toArray
 have hw2 := below_setRow (g := w1.heap.size) (hw1.alloc (by omega) (.cells #[.int .u32 0, .int .u32 0, .int .u32 0, .int .u32 0, .int .u32 0, .int .u32 0, .int .u32 0, .int .u32 0] 37)) (by omega) (Nw 1).toArray
 have HV0 := yH hv0
 have HV1 := yH hv1
 have HX2 := yH hx2
 have HN2 := yH hn2
 have HZ2 := yH hz2
 have HW2 := yH hw2
 have HSZ := yH hsz
 clear hb1 hsz hx1 hn1 hz1 hw1 hv0 hv1 hx2 hn2 hz2 hw2 HR1 HR2 HR3 HB0 HS0
 go_wp2_with (refine wpList_store_row rfl 37 (.tmp 5) (.tmp 7) rfl w1.heap.size _ rfl rfl 37 _ HV0.out (HS4.out _) (Nw_sz _ _) (Nw_one _) ?_)
 generalize (w1.alloc (.cells #[.int .u32 0, .int .u32 0, .int .u32 0, .int .u32 0, .int .u32 0, .int .u32 0, .int .u32 0, .int .u32 0] 37)).setRow w1.heap.size (Nw 1).toArray = W2 at *
 go_loopw [6] (fun i wr => ∃ k : Nat, k ≤ 256 ∧ i = .int .i64 (k : Int) ∧ Row wr w.heap.size 37 (Nw (pwA A k)) ∧ Row wr (w.heap.size + 1) 22 (By e 32) ∧ Row wr (w.heap.size + 1 + 1) 37 (Nw 0) ∧ Row wr w1.heap.size 37 (Nw (pwO A e k)) ∧ Below w.heap.size w wr) (fun i _ => 256 - (intOf i).toNat)
 case atStart =>
  refine ⟨0, Nat.zero_le _, rfl, by rw [HA0.out]; exact HX2.out, HN2.out, ?_, by rw [pwO_zero]; exact HV1.out, HW2.out⟩
  rw [Nw_zero]
  exact HZ2.out
 case round =>
  obtain ⟨k, hk6, rfl, ha, hb, hz, ho, hbe⟩ := hrel
  have hsz := HSZ.out
  by_cases hlt : k < 256
  ·have hcb := hb.cell (By_get e 32 (k := k / 8) (by omega))
   have hbit := byt_bit e k
   have lb := byt_lt e (k / 8)
   have hsh : ((byt e (k / 8) : Nat) : Int) / 2 ^ (k % 8) = ((byt e (k / 8) / 2 ^ (k % 8) : Nat) : Int) := by simp
   have hd : Int.tdiv (k : Int) 8 = ((k / 8 : Nat) : Int) := by rw [Int.tdiv_eq_ediv_of_nonneg (by omega)]; omega
   have hm : Int.tmod (k : Int) 8 = ((k % 8 : Nat) : Int) := by rw [Int.tmod_eq_emod_of_nonneg (by omega)]; omega
   have hd' : (k : Int) / 8 = ((k / 8 : Nat) : Int) := by omega
   have hm' : (k : Int) % 8 = ((k % 8 : Nat) : Int) := by omega
   have h8 : k / 8 < 32 := by omega
   have him : k % 8 < 8 := Nat.mod_lt _ (by decide)
   have b0 : (0 : Int) ≤ (k : Int) := by omega
   have b6 : (k : Int) < 256 := by omega
   have hla := pwA_lt A k
   have hlo := pwO_lt A e k
   have hsq := pwA_sq A k
   have hw1 : IntKind.i64.wrap ((k / 8 : Nat) : Int) = ((k / 8 : Nat) : Int) := IntWalk.i64_in _ (by omega)
   have HA := yH ha
   have HB := yH hb
   have HZ := yH hz
   have HO := yH ho
   have HBE := yH hbe
   by_cases hone : e / 2 ^ k % 2 = 1
   ·have hnext := pwO_one (A := A) hone
    rw [hone] at hbit
    have hq : ((((byt e (k / 8) : Nat) : Int) / 2 ^ (k % 8)) % 2 == 1) = true := by
     rw [hsh, beq_iff_eq]
     omega
    have hpos : (0 : Int) ≤ ((byt e (k / 8) : Nat) : Int) / 2 ^ (k % 8) := by rw [hsh]; exact Int.natCast_nonneg _
    clear hsh hbit hone
    generalize byt e (k / 8) = x8 at *
    generalize k / 8 = q at *
    generalize k % 8 = r at *
    have b2 : (0 : Int) ≤ (q : Int) := by omega
    have b3 : (q : Int) < 32 := by omega
    have b4 : (0 : Int) ≤ (r : Int) := by omega
    have b5 : (r : Int) < 64 := by omega
    have HNX := yH hnext
    have HSQ := yH hsq
    clear ha hb hz ho hbe hnext hsq
    generalize pwA A k = av at *
    generalize pwO A e k = ov at *
    go_wp2_with (first
     | (refine wpList_load_row rfl 37 (.tmp 5) rfl (w1.heap.size) rfl 37 _ (0, 0) _ HO.out Tryz.underlying37 rfl (HS4.out _) ?_)
     | (refine wpList_load_row rfl 37 (.tmp 2) rfl (w.heap.size) rfl 37 _ (0, 0) _ HA.out Tryz.underlying37 rfl (HS4.out _) ?_))
    refine (HMUL.out ov av hlo hla _).mono ?_
    rintro e2 w2 ⟨rfl, hb2⟩
    rw [HNX.out]
    have ho2 := HO.out.belowAll hb2
    have ha3 := (HA.out.belowAll hb2).setRowOther (k := w1.heap.size) (by omega) (Nw (pwO A e (k + 1))).toArray
    have hb3 := (HB.out.belowAll hb2).setRowOther (k := w1.heap.size) (by omega) (Nw (pwO A e (k + 1))).toArray
    have hz3 := (HZ.out.belowAll hb2).setRowOther (k := w1.heap.size) (by omega) (Nw (pwO A e (k + 1))).toArray
    have ho3 := ho2.setRow (Nw (pwO A e (k + 1)))
    have hbe3 := below_setRow (g := w1.heap.size) (HBE.out.trans (hb2.mono HBE.out.size)) (by omega) (Nw (pwO A e (k + 1))).toArray
    have HO2 := yH ho2
    have HA3 := yH ha3
    have HB3 := yH hb3
    have HZ3 := yH hz3
    have HO3 := yH ho3
    have HBE3 := yH hbe3
    clear ho2 ha3 hb3 hz3 ho3 hbe3 hb2
    go_wp2_with (first
     | (refine wpList_store_row rfl 37 (.tmp 5) (.tmp 23) rfl (w1.heap.size) _ rfl rfl 37 _ HO2.out (HS4.out _) (Nw_sz _ _) (Nw_one _) ?_)
     | (refine wpList_load_row rfl 37 (.tmp 2) rfl (w.heap.size) rfl 37 _ (0, 0) _ HA3.out Tryz.underlying37 rfl (HS4.out _) ?_))
    refine (HMUL.out av av hla hla _).mono ?_
    rintro e4 w4 ⟨rfl, hb4⟩
    rw [HSQ.out]
    have ha4 := HA3.out.belowAll hb4
    have hb5 := (HB3.out.belowAll hb4).setRowOther (k := w.heap.size) (by omega) (Nw (pwA A (k + 1))).toArray
    have hz5 := (HZ3.out.belowAll hb4).setRowOther (k := w.heap.size) (by omega) (Nw (pwA A (k + 1))).toArray
    have ho5 := (HO3.out.belowAll hb4).setRowOther (k := w.heap.size) (by omega) (Nw (pwA A (k + 1))).toArray
    have ha5 := ha4.setRow (Nw (pwA A (k + 1)))
    have hbe5 := below_setRow (g := w.heap.size) (HBE3.out.trans (hb4.mono HBE3.out.size)) (Nat.le_refl _) (Nw (pwA A (k + 1))).toArray
    have HA4 := yH ha4
    have HA5 := yH ha5
    have HB5 := yH hb5
    have HZ5 := yH hz5
    have HO5 := yH ho5
    have HBE5 := yH hbe5
    clear ha4 ha5 hb5 hz5 ho5 hbe5 hb4
    go_wp2_with (refine wpList_store_row rfl 37 (.tmp 2) (.tmp 26) rfl (w.heap.size) _ rfl rfl 37 _ HA4.out (HS4.out _) (Nw_sz _ _) (Nw_one _) ?_)
    go_roundw
    case rel => exact ⟨k + 1, by omega, by go_num, HA5.out, HB5.out, HZ5.out, HO5.out, HBE5.out⟩
    case measure => simp [intOf] <;> omega
   ·have hnext := pwO_no (A := A) hone
    have hb0' : e / 2 ^ k % 2 = 0 := by omega
    rw [hb0'] at hbit
    have hq : ((((byt e (k / 8) : Nat) : Int) / 2 ^ (k % 8)) % 2 == 1) = false := by
     rw [hsh, beq_eq_false_iff_ne]
     omega
    have hpos : (0 : Int) ≤ ((byt e (k / 8) : Nat) : Int) / 2 ^ (k % 8) := by rw [hsh]; exact Int.natCast_nonneg _
    clear hsh hbit hone hb0'
    generalize byt e (k / 8) = x8 at *
    generalize k / 8 = q at *
    generalize k % 8 = r at *
    have b2 : (0 : Int) ≤ (q : Int) := by omega
    have b3 : (q : Int) < 32 := by omega
    have b4 : (0 : Int) ≤ (r : Int) := by omega
    have b5 : (r : Int) < 64 := by omega
    have HNX := yH hnext
    have HSQ := yH hsq
    clear ha hb hz ho hbe hnext hsq
    generalize pwA A k = av at *
    generalize pwO A e k = ov at *
    go_wp2_with (first
     | (refine wpList_load_row rfl 37 (.tmp 2) rfl (w.heap.size) rfl 37 _ (0, 0) _ HA.out Tryz.underlying37 rfl (HS4.out _) ?_))
    refine (HMUL.out av av hla hla _).mono ?_
    rintro e4 w4 ⟨rfl, hb4⟩
    rw [HSQ.out]
    have ha4 := HA.out.belowAll hb4
    have hb5 := (HB.out.belowAll hb4).setRowOther (k := w.heap.size) (by omega) (Nw (pwA A (k + 1))).toArray
    have hz5 := (HZ.out.belowAll hb4).setRowOther (k := w.heap.size) (by omega) (Nw (pwA A (k + 1))).toArray
    have ho5 := (HO.out.belowAll hb4).setRowOther (k := w.heap.size) (by omega) (Nw (pwA A (k + 1))).toArray
    have ha5 := ha4.setRow (Nw (pwA A (k + 1)))
    have hbe5 := below_setRow (g := w.heap.size) (HBE.out.trans (hb4.mono HBE.out.size)) (Nat.le_refl _) (Nw (pwA A (k + 1))).toArray
    have HA4 := yH ha4
    have HA5 := yH ha5
    have HB5 := yH hb5
    have HZ5 := yH hz5
    have HO5 := yH ho5
    have HBE5 := yH hbe5
    clear ha4 ha5 hb5 hz5 ho5 hbe5 hb4
    go_wp2_with (refine wpList_store_row rfl 37 (.tmp 2) (.tmp 26) rfl (w.heap.size) _ rfl rfl 37 _ HA4.out (HS4.out _) (Nw_sz _ _) (Nw_one _) ?_)
    go_roundw
    case rel => exact ⟨k + 1, by omega, by go_num, HA5.out, HB5.out, HZ5.out, by rw [HNX.out]; exact HO5.out, HBE5.out⟩
    case measure => simp [intOf] <;> omega
  ·obtain rfl : k = 256 := by omega
   have HZ := yH hz
   have HO := yH ho
   have HBE := yH hbe
   clear ha hb hz ho hbe hsz HV0 HV1 HX2 HN2 HZ2 HW2
   go_wp2_with (first
    | (refine wpList_load_row rfl 37 (.tmp 5) rfl w1.heap.size rfl 37 _ (0, 0) _ HO.out Tryz.underlying37 rfl (HS4.out _) ?_)
    | (refine wpList_store_row rfl 37 (.tmp 4) (.tmp 27) rfl (w.heap.size + 1 + 1) _ rfl rfl 37 _ HZ.out (HS4.out _) (Nw_sz _ _) (Nw_one _) ?_))
   have hgot := setRow_heap wr (w.heap.size + 1 + 1) _ (Nw (pwO A e 256)).toArray _ _ HZ.out
   refine bodyPost_ret (results_cell_row (by rfl) _ _ (w.heap.size + 1 + 1) _ _ _ _ (by rfl) hgot Tryz.underlying37 rfl (HS4.out _)) rfl ?_
   exact ⟨rfl, below_setRow HBE.out (by omega) _⟩
theorem powr_nu (x : Lm) {e : Nat} (he : e < 256 ^ 32) (w : World) :
  Calls Tryz.prog 72 #[.agg (Nw (nu x)).toArray, .agg (By e 32).toArray] w fun e' w' => e' = .returned (.agg (Nw (nu (powL x e))).toArray) ∧ Below w.heap.size w w' := by
 have h2 : e < 2 ^ 256 := Nat.lt_of_lt_of_eq he (by decide)
 rw [nu_powP x h2]
 exact powr_ref (nu x) e (nu_pp x) h2 w
set_option maxHeartbeats 3200000 in
theorem invr_ref (A : Nat) (hA : A < pp) (w : World) :
  Calls Tryz.prog 51 #[.agg (Nw A).toArray] w fun e w' => e = .returned (.agg (Nw (A ^ (pp - 2) % pp)).toArray) ∧ Below w.heap.size w w' := by
 have hm := fun wx => minus_ref pp 2 pp_W8 (by decide) wx
 rw [dif8_sub (by decide), decide_eq_false (by decide)] at hm
 have HPW := yH (fun wx => powr_ref A (pp - 2) hA (by decide) wx)
 have HM := yH hm
 have HBY := yH (fun wx => rbytes_ref (pp - 2) wx)
 have HS4 := yH nw_info
 clear hm hA
 generalize pp - 2 = E at *
 have ha := (Row.new w (Nw A) 37).alloc (.cells #[.int .u32 0, .int .u32 0, .int .u32 0, .int .u32 0, .int .u32 0, .int .u32 0, .int .u32 0, .int .u32 0] 37)
 have hz := Row.new1 w (.cells (Nw A).toArray 37) (Nw 0) 37
 rw [Nw_zero] at hz
 have hb0 := Below.alloc2 w (.cells (Nw A).toArray 37) (.cells #[.int .u32 0, .int .u32 0, .int .u32 0, .int .u32 0, .int .u32 0, .int .u32 0, .int .u32 0, .int .u32 0] 37)
 go_enter Tryz.func51, Tryz.ntmps51
 go_wp2_with fail
 refine (P_any _).mono ?_
 rintro e1 w1 ⟨rfl, hb1⟩
 go_wp2_with fail
 refine (smallr_ref 2 (by decide) _).mono ?_
 rintro e2 w2 ⟨rfl, hb2⟩
 go_wp2_with fail
 refine (HM.out _).mono ?_
 rintro e3 w3 ⟨rfl, hb3⟩
 have ha3 := ((ha.belowAll hb1).belowAll hb2).belowAll hb3
 have hz3 := ((hz.belowAll hb1).belowAll hb2).belowAll hb3
 have k1 := hb0.trans (hb1.mono hb0.size)
 have k2 := k1.trans (hb2.mono k1.size)
 have hw3 := k2.trans (hb3.mono k2.size)
 have hl3 := hz3.lt
 have hn := nw_zero_row w3
 have hE := hn.setRow (Nw E)
 have ha4 := (ha3.alloc (.cells #[.int .u32 0, .int .u32 0, .int .u32 0, .int .u32 0, .int .u32 0, .int .u32 0, .int .u32 0, .int .u32 0] 37)).setRowOther (k := w3.heap.size) (by omega) (Nw E).toArray
 have hz4 := (hz3.alloc (.cells #[.int .u32 0, .int .u32 0, .int .u32 0, .int .u32 0, .int .u32 0, .int .u32 0, .int .u32 0, .int .u32 0] 37)).setRowOther (k := w3.heap.size) (by omega) (Nw E).toArray
 have hw4 := below_setRow (g := w3.heap.size) (hw3.alloc hw3.size (.cells #[.int .u32 0, .int .u32 0, .int .u32 0, .int .u32 0, .int .u32 0, .int .u32 0, .int .u32 0, .int .u32 0] 37)) hw3.size (Nw E).toArray
 have HN := yH hn
 have HA4 := yH ha4
 have HZ4 := yH hz4
 have HE := yH hE
 have HW4 := yH hw4
 clear ha hz hb0 hb1 hb2 hb3 ha3 hz3 k1 k2 hw3 hn hE ha4 hz4 hw4
 go_wp2_with (refine wpList_store_row rfl 37 (.tmp 3) (.tmp 9) rfl w3.heap.size _ rfl rfl 37 _ HN.out (HS4.out _) (Nw_sz _ _) (Nw_one _) ?_)
 have ha5 := HA4.out
 have hz5 := HZ4.out
 have hE5 := HE.out
 have hw5 := HW4.out
 clear HN HA4 HZ4 HE HW4
 generalize (w3.alloc (.cells #[.int .u32 0, .int .u32 0, .int .u32 0, .int .u32 0, .int .u32 0, .int .u32 0, .int .u32 0, .int .u32 0] 37)).setRow w3.heap.size (Nw E).toArray = W5 at *
 refine wp_flat_store (aD := ?aD1) (S := fun w' => Below W5.heap.size W5 w') (s := 4) (T := 37) (T' := 37) (g := w.heap.size + 1) (z := Nw 0) (c := Nw (A ^ E % pp)) (x := .tmp 2) (y := .tmp 14)
  (vs := [(0, .agg (Nw A).toArray), (1, .agg (Nw E).toArray), (2, .agg (By E 32).toArray), (3, .agg (Nw (A ^ E % pp)).toArray)]) (by kernel_rfl) ((Below.refl _ _).drew) (fun _ _ h k => S_trans h k) ?hD1 ?hk1 rfl rfl rfl rfl ?e1 ?e2 (fun w' h => hz5.belowAll h) (HS4.out _) (Nw_sz _ _) (Nw_one _) ?h1
 case hD1 =>
  refine .s 11 rfl (Gives.l 37 (.tmp 1) (w.heap.size) (fun w' h => ha5.belowAll h) Tryz.underlying37 (HS4.out _)) ?_
  refine .s 12 rfl (Gives.l 37 (.tmp 3) (w3.heap.size) (fun w' h => hE5.belowAll h) Tryz.underlying37 (HS4.out _)) ?_
  refine .s 13 rfl (Gives.c (args := [.agg (Nw E).toArray]) rfl Tryz.func52 (fun w' _ => HBY.out w')) ?_
  refine .s 14 rfl (Gives.c (args := [.agg (Nw A).toArray, .agg (By E 32).toArray]) rfl Tryz.func72 (fun w' _ => HPW.out w')) ?_
  exact .nil
 case hk1 => kernel_rfl
 case e1 => rfl
 case e2 => rfl
 case h1 =>
 intro w6 hb6
 have hz6 := hz5.belowAll hb6
 have hw6 := hw5.trans (hb6.mono hw5.size)
 have hgot := setRow_heap w6 (w.heap.size + 1) _ (Nw (A ^ E % pp)).toArray _ _ hz6
 have HGOT := yH hgot
 have HW6 := yH hw6
 clear hz6 hw6 hgot hb6 ha5 hz5 hE5 hw5
 go_wp2_with fail
 refine bodyPost_ret (results_cell_row (by rfl) _ _ (w.heap.size + 1) _ _ _ _ (by rfl) HGOT.out Tryz.underlying37 rfl (HS4.out _)) rfl ?_
 exact ⟨rfl, below_setRow HW6.out (by omega) _⟩
theorem invr_nu (x : Lm) (w : World) :
  Calls Tryz.prog 51 #[.agg (Nw (nu x)).toArray] w fun e' w' => e' = .returned (.agg (Nw (nu (invL x))).toArray) ∧ Below w.heap.size w w' := by
 rw [nu_invP]
 exact invr_ref (nu x) (nu_pp x) w
end
section
open Go.RowKit
set_option maxHeartbeats 6400000 in
theorem shift_ref (A n : Nat) (hA : A < W8) (hn : n < 64) (w : World) :
  Calls Tryz.prog 73 #[.agg (Nw A).toArray, .int .i64 (n : Int)] w fun e w' => e = .returned (.agg (Nw (A / 2 ^ n)).toArray) ∧ Below w.heap.size w w' := by
 have HS4 := yH nw_info
 have HN := yH hn
 have hlt : ∀ k, A / 2 ^ k < W8 := fun k => Nat.lt_of_le_of_lt (Nat.div_le_self _ _) hA
 have HLT := yH hlt
 have bn : (0 : Int) ≤ (n : Int) := by omega
 clear hA hn hlt
 go_enter Tryz.func73, Tryz.ntmps73
 go_wp2_with fail
 go_loopw [5] (fun i wr => ∃ k : Nat, k ≤ n ∧ i = .int .i64 (k : Int) ∧ Row wr w.heap.size 37 (Nw (A / 2 ^ k)) ∧ Row wr (w.heap.size + 1) 37 (Nw 0) ∧ Below w.heap.size w wr) (fun i _ => n - (intOf i).toNat)
 case atStart =>
  refine ⟨0, Nat.zero_le _, rfl, ?_, ?_, Below.alloc2 _ _ _⟩
  ·rw [Nat.pow_zero, Nat.div_one]
   exact (Row.new w _ _).alloc _
  ·rw [Nw_zero]
   exact Row.new1 w _ _ _
 case round =>
  obtain ⟨k, hkn, rfl, ha, hz, hbe⟩ := hrel
  by_cases hlt : k < n
  ·have hhalf : A / 2 ^ k / 2 = A / 2 ^ (k + 1) := by rw [Nat.div_div_eq_div_mul, Nat.pow_succ]
   have hM : A / 2 ^ k < W8 := HLT.out k
   have HH := yH hhalf.symm
   have hk64 : (k : Int) < 64 := by have := HN.out; omega
   clear hhalf
   generalize A / 2 ^ k = M at *
   have b0 : (0 : Int) ≤ (k : Int) := by omega
   have hltI : (k : Int) < (n : Int) := by omega
   have HA := yH ha
   have HZ := yH hz
   have HBE := yH hbe
   have HM := yH hM
   clear ha hz hbe hM
   go_wp2_with fail
   obtain ⟨wo, rfl⟩ : ∃ wo, wo = wr := ⟨_, rfl⟩
   go_loopw [6, 7] (fun r i wr => ∃ j : Nat, j ≤ 8 ∧ i = .int .i64 ((j : Int) - 1) ∧ r = .int .u32 ((dw M j % 2 : Nat) : Int) ∧ Row wr w.heap.size 37 (Tabs .u32 (hf M j) 8) ∧ Row wr (w.heap.size + 1) 37 (Nw 0) ∧ Below w.heap.size w wr) (fun _ i _ => (intOf i + 1).toNat)
   case atStart => exact ⟨8, Nat.le_refl _, rfl, by rw [dw_of_lt (show M < 4294967296 ^ 8 from HM.out)]; rfl, by rw [hf_none]; exact HA.out, HZ.out, HBE.out⟩
   case round =>
    obtain ⟨j, hj8, rfl, rfl, ha, hz, hbe⟩ := hrel
    by_cases hj : j = 0
    ·subst hj
     rw [hf_all] at ha
     have HA2 := yH ha
     have HZ2 := yH hz
     have HBE2 := yH hbe
     clear ha hz hbe
     rw [show (((0 : Nat) : Int) - 1) = -1 from rfl]
     generalize dw M 0 % 2 = rr at *
     go_wp2_with fail
     go_roundw
     case rel => exact ⟨k + 1, by omega, by go_num, by rw [HH.out]; exact HA2.out, HZ2.out, HBE2.out⟩
     case measure => simp [intOf] <;> omega
    ·obtain ⟨i, rfl⟩ : ∃ i, j = i + 1 := ⟨j - 1, by omega⟩
     have hii : (((i + 1 : Nat) : Int) - 1) = (i : Int) := by omega
     rw [hii]
     have hi8 : i < 8 := by omega
     have hca := ha.cell (hf_at M hi8)
     have hfree := ha.free i
     have hset := hf_set M hi8 rfl
     have hst := ha.set i (.int .u32 ((dw M i / 2 + dw M (i + 1) % 2 * 2147483648 : Nat) : Int))
     rw [hset] at hst
     have hz2 := hz.setCell (p := ⟨w.heap.size, i, none⟩) (by show w.heap.size + 1 ≠ w.heap.size; omega) (.int .u32 ((dw M i / 2 + dw M (i + 1) % 2 * 2147483648 : Nat) : Int))
     have hbe2 := hbe.setCell (p := ⟨w.heap.size, i, none⟩) (Nat.le_refl _) (.int .u32 ((dw M i / 2 + dw M (i + 1) % 2 * 2147483648 : Nat) : Int))
     have lx := dw_lt M i
     have hr : dw M (i + 1) % 2 ≤ 1 := by omega
     have hrest : ((dw M i : Nat) : Int) % 2 = ((dw M i % 2 : Nat) : Int) := by omega
     generalize hv : dw M i / 2 + dw M (i + 1) % 2 * 2147483648 = v at *
     generalize hmm : dw M i % 2 = m2 at *
     generalize dw M (i + 1) % 2 = r at *
     generalize hxx : dw M i = x at *
     have HXX := yH hxx
     clear hxx
     have b0i : (0 : Int) ≤ (i : Int) := by omega
     have b1i : (i : Int) < 8 := by omega
     have hadd : (x : Int) / 2 + (r : Int) * 2147483648 = ((v : Nat) : Int) := by omega
     have HST := yH hst
     have HZ2 := yH hz2
     have HBE2 := yH hbe2
     have HREST := yH hrest
     have HADD := yH hadd
     have HM2 := yH hmm
     clear ha hz hbe hset hst hz2 hbe2 hrest hadd hv hii hmm
     go_wp2_with fail
     rw [HADD.out, HREST.out]
     go_roundw
     case rel => exact ⟨i, by omega, rfl, by rw [HXX.out, HM2.out], HST.out, HZ2.out, HBE2.out⟩
     case measure => simp [intOf] <;> omega
  ·obtain rfl : k = n := by omega
   have HA := yH ha
   have HZ := yH hz
   have HBE := yH hbe
   clear ha hz hbe
   go_wp2_with (first
    | (refine wpList_load_row rfl 37 (.tmp 2) rfl w.heap.size rfl 37 _ (0, 0) _ HA.out Tryz.underlying37 rfl (HS4.out _) ?_)
    | (refine wpList_store_row rfl 37 (.tmp 4) (.tmp 32) rfl (w.heap.size + 1) _ rfl rfl 37 _ HZ.out (HS4.out _) (Nw_sz _ _) (Nw_one _) ?_))
   have hgot := setRow_heap wr (w.heap.size + 1) _ (Nw (A / 2 ^ k)).toArray _ _ HZ.out
   refine bodyPost_ret (results_cell_row (by rfl) _ _ (w.heap.size + 1) _ _ _ _ (by rfl) hgot Tryz.underlying37 rfl (HS4.out _)) rfl ?_
   exact ⟨rfl, below_setRow HBE.out (by omega) _⟩
end
end
def eR1 : Nat := 7237005577332262213973186563042994240829374041602535252466099000494570602494
def eH : Nat := 14474011154664524427946373126085988481658748083205070504932198000989141204987
theorem eR1_eq : (pp + 3) / 2 ^ 3 = eR1 := by decide
theorem eR1_rt : eRt + 1 = eR1 := by decide
theorem eH_eq : (pp - 1) / 2 ^ 2 = eH := by decide
theorem shift_p3 (w : World) : Calls Tryz.prog 73 #[.agg (Nw (pp + 3)).toArray, .int .i64 3] w fun e w' => e = .returned (.agg (Nw eR1).toArray) ∧ Below w.heap.size w w' := by
 have h := shift_ref (pp + 3) 3 (by decide) (by decide) w
 rwa [eR1_eq] at h
theorem shift_p1 (w : World) : Calls Tryz.prog 73 #[.agg (Nw (pp - 1)).toArray, .int .i64 2] w fun e w' => e = .returned (.agg (Nw eH).toArray) ∧ Below w.heap.size w w' := by
 have h := shift_ref (pp - 1) 2 (by decide) (by decide) w
 rwa [eH_eq] at h
theorem P3_set : (Nw pp).set 0 (.int .u32 4294967280) = Nw (pp + 3) := by kernel_rfl
theorem P0_cell : (Nw pp)[0]? = some (.int .u32 4294967277) := by kernel_rfl
theorem nne_t {x y : Lm} (h : decide (nu x = nu y) = true) (w : World) : (binOp .neq 37 (.agg (Nw (nu x)).toArray) (.agg (Nw (nu y)).toArray)).run Tryz.prog w = .ok (.bool false) w := by
 rw [nne_num (nu_W8 x) (nu_W8 y), h]; rfl
theorem nne_f {x y : Lm} (h : decide (nu x = nu y) = false) (w : World) : (binOp .neq 37 (.agg (Nw (nu x)).toArray) (.agg (Nw (nu y)).toArray)).run Tryz.prog w = .ok (.bool true) w := by
 rw [nne_num (nu_W8 x) (nu_W8 y), h]; rfl
theorem oddr_is {x : Lm} {b : Bool} (h : decide (nu x % 2 = 1) = b) (w : World) : Calls Tryz.prog 53 #[.agg (Nw (nu x)).toArray] w fun e w' => e = .returned (.bool b) ∧ Below w.heap.size w w' := by
 rw [← h]; exact oddr_ref (nu x) w
theorem nu_q (u v : Lm) : nu (mulL u (invL v)) = quo u v % pp := by
 rw [nu_mulP, nu_invP]
 unfold quo
 rw [Nat.mul_mod_mod]
theorem nu_c {u v : Lm} (hv : nu v ≠ 0) : nu (powL (mulL u (invL v)) eR1) = nu (candL u v) := by
 have h := cand_q (u := u) hv
 rw [nu_mod] at h
 rw [nu_powP _ (by decide), nu_q, h, eR1_rt, ← Nat.pow_mod]
theorem nu_h : nu (powL (smL 2) eH) = nu rtL := by
 have h := rt_minus eH rfl
 rw [← pp_eq] at h
 have h2 := nu_powP (smL 2) (N := eH) (by decide)
 rw [nu_smL (by decide)] at h2
 rw [h2, nu_rtL]
 exact h
theorem sq_fit {u v x y : Lm} (hv : nu v ≠ 0) (h : nu x = nu y) : decide (nu (mulL x x) = nu (mulL u (invL v))) = fitB y u v := by
 have h1 := fitB_iff (r := y) (u := u) hv
 rw [nu_mulP, nu_q, h]
 by_cases hf : fitB y u v = true
 ·rw [hf, decide_eq_true (h1.1 hf)]
 ·rw [decide_eq_false (fun e => hf (h1.2 e))]
  simpa using (Bool.not_eq_true _ ▸ hf)
theorem root_no {u v : Lm} (h : rootOk u v = false) : nu (rootL u v) = 0 := by
 unfold rootL
 rw [h]
 exact nu_zeL
theorem root_yes {u v x : Lm} (hu : u.ok) (hv : v.ok) (hx : x.ok) (h : rootOk u v = true) (he : nu x = nu (root1 u v)) : nu (rootL u v) = if nu x % 2 = 1 then nu (negL x) else nu x := by
 unfold rootL
 rw [h, if_pos rfl, he]
 split
 ·rw [nu_negP hx, nu_negP (root1_ok hu hv), he]
 ·rfl
theorem ok_fit {u v : Lm} (hv : nu v ≠ 0) : rootOk u v = fitB (root1 u v) u v := by
 unfold rootOk
 rw [decide_eq_false hv]
 rfl
set_option maxHeartbeats 12800000 in
theorem rootr_nu {u v : Lm} (hu : u.ok) (hv : v.ok) (w : World) :
  Calls Tryz.prog 37 #[.agg (Nw (nu u)).toArray, .agg (Nw (nu v)).toArray] w fun e w' => e = .returned (.tuple #[.agg (Nw (nu (rootL u v))).toArray, .bool (rootOk u v)]) ∧ Below w.heap.size w w' := by
 have hru := ((Row.new w (Nw (nu u)) 37).alloc (.cells (Nw (nu v)).toArray 37)).alloc (.cells #[.int .u32 0, .int .u32 0, .int .u32 0, .int .u32 0, .int .u32 0, .int .u32 0, .int .u32 0, .int .u32 0] 37)
 have hrv := (Row.new1 w (.cells (Nw (nu u)).toArray 37) (Nw (nu v)) 37).alloc (.cells #[.int .u32 0, .int .u32 0, .int .u32 0, .int .u32 0, .int .u32 0, .int .u32 0, .int .u32 0, .int .u32 0] 37)
 have hz : Row (((w.alloc (.cells (Nw (nu u)).toArray 37)).alloc (.cells (Nw (nu v)).toArray 37)).alloc (.cells #[.int .u32 0, .int .u32 0, .int .u32 0, .int .u32 0, .int .u32 0, .int .u32 0, .int .u32 0, .int .u32 0] 37)) (w.heap.size + 1 + 1) 37 (Nw 0) := by
  rw [Nw_zero]
  exact Row.new2 w _ _ _ _
 have hb0 := Below.alloc3 w (.cells (Nw (nu u)).toArray 37) (.cells (Nw (nu v)).toArray 37) (.cells #[.int .u32 0, .int .u32 0, .int .u32 0, .int .u32 0, .int .u32 0, .int .u32 0, .int .u32 0, .int .u32 0] 37)
 by_cases hv0 : nu v = 0
 ·have hrk := root_none (u := u) hv0
  have hn0 := root_no hrk
  have hd : decide (nu v = 0) = true := decide_eq_true hv0
  have hcmp := fun wx => neq_zero v wx
  rw [hd] at hcmp
  have hgot := setRow_heap _ (w.heap.size + 1 + 1) _ (Nw 0).toArray _ _ hz
  have HCMP := yH hcmp
  have HGOT := yH hgot
  have HRV := yH hrv
  have HZ := yH hz
  have HN0 := yH hn0
  have HRK := yH hrk
  have HB0 := yH hb0
  clear hcmp hgot hrv hz hn0 hrk hb0 hd hv0 hru
  go_enter Tryz.func37, Tryz.ntmps37
  go_wp2_with (first
   | (refine wpList_load_row rfl 37 (.tmp 3) rfl (w.heap.size + 1) rfl 37 _ (0, 0) _ HRV.out Tryz.underlying37 rfl (nw_info _) ?_)
   | (refine wpList_build0 rfl 37 rfl _ (nw_build _) ?_)
   | (refine wpList_binop _ .eql 37 37 (.tmp 12) (.tmp 13) rfl (by rfl) (.agg (Nw (nu v)).toArray) (.agg (Nw 0).toArray) (.bool true) rfl rfl (ngrd _ _ _ _ _ _) (HCMP.out _) ?_)
   | (refine wpList_store_row rfl 37 (.tmp 4) (.tmp 15) rfl (w.heap.size + 1 + 1) _ rfl rfl 37 _ HZ.out (nw_info _) (Nw_sz _ _) (Nw_one _) ?_))
  refine bodyPost_ret (results_row_slot (by rfl) _ _ (w.heap.size + 1 + 1) _ _ _ _ (.bool false) (by rfl) HGOT.out Tryz.underlying37 rfl (nw_info _) (by rfl)) rfl ?_
  exact ⟨by rw [HN0.out, HRK.out], below_setRow HB0.out (by omega) _⟩
 ·have hd : decide (nu v = 0) = false := decide_eq_false hv0
  have hcmp := fun wx => neq_zero v wx
  rw [hd] at hcmp
  have HCMP := yH hcmp
  have HRV := yH hrv
  clear hcmp hd
  go_enter Tryz.func37, Tryz.ntmps37
  go_wp2_with (first
   | (refine wpList_load_row rfl 37 (.tmp 3) rfl (w.heap.size + 1) rfl 37 _ (0, 0) _ HRV.out Tryz.underlying37 rfl (nw_info _) ?_)
   | (refine wpList_build0 rfl 37 rfl _ (nw_build _) ?_)
   | (refine wpList_binop _ .eql 37 37 (.tmp 12) (.tmp 13) rfl (by rfl) (.agg (Nw (nu v)).toArray) (.agg (Nw 0).toArray) (.bool false) rfl rfl (ngrd _ _ _ _ _ _) (HCMP.out _) ?_))
  generalize ((w.alloc (.cells (Nw (nu u)).toArray 37)).alloc (.cells (Nw (nu v)).toArray 37)).alloc (.cells #[.int .u32 0, .int .u32 0, .int .u32 0, .int .u32 0, .int .u32 0, .int .u32 0, .int .u32 0, .int .u32 0] 37) = W0 at *
  clear HCMP
  have hrv := HRV.out
  have hzlt := hz.lt
  have hQk : (mulL u (invL v)).ok := mulL_ok hu (invL_ok hv)
  have hRk : (powL (mulL u (invL v)) eR1).ok := powL_ok hQk _
  refine wp_vars_one (aD := ?aD3) (B := W0.heap.size) (S := fun w' => Below W0.heap.size W0 w') (k1 := 4) (s1 := 5) (T1 := 37) (L1 := 37) (z1 := Nw 0) (c1 := Nw (nu (mulL u (invL v)))) (x1 := .tmp 6) (y1 := .tmp 19)
   (vs := [(0, .agg (Nw (nu u)).toArray), (1, .agg (Nw (nu v)).toArray), (2, .agg (Nw (nu (invL v))).toArray), (3, .agg (Nw (nu (mulL u (invL v)))).toArray)]) (by kernel_rfl) ((Below.refl _ _).drew) (fun _ _ h k => S_trans h k) (fun _ _ _ h hg => S_row h hg _) (fun _ h => h.size) ?hD3 (.of rfl rfl rfl (fun w' => nw_alloc w')) ?hk3 rfl rfl (some 6) rfl rfl rfl ?e3 ?f3 (nw_info _) (Nw_sz _ _) (Nw_one _) ?h3
  case hD3 =>
   refine .s 16 rfl (Gives.l 37 (.tmp 2) (w.heap.size) (fun w' h => hru.belowAll h) Tryz.underlying37 (nw_info _)) ?_
   refine .s 17 rfl (Gives.l 37 (.tmp 3) (w.heap.size + 1) (fun w' h => hrv.belowAll h) Tryz.underlying37 (nw_info _)) ?_
   refine .s 18 rfl (Gives.c (args := [.agg (Nw (nu v)).toArray]) rfl Tryz.func51 (fun w' h => invr_nu v w')) ?_
   refine .s 19 rfl (Gives.c (args := [.agg (Nw (nu u)).toArray, .agg (Nw (nu (invL v))).toArray]) rfl Tryz.func36 (fun w' h => mulr_nu u (invL v) w')) ?_
   exact .nil
  case hk3 => kernel_rfl
  case e3 => exact fun p => rfl
  case f3 => exact fun p => rfl
  case h3 =>
  intro gq W1 hb1 hgq hq1
  have hz1 := hz.belowAll hb1
  have hw1 := hb0.trans (hb1.mono hb0.size)
  have hs1 := hb1.size
  clear hru hrv hz hb0 hb1 HRV
  go_wp2_with fail
  refine (P_any _).mono ?_
  rintro e2 W2 ⟨rfl, hb2⟩
  have hq2 := hq1.belowAll hb2
  have hz2 := hz1.belowAll hb2
  have hw2 := hw1.trans (hb2.mono hw1.size)
  have hlq := hq2.lt
  have hlz := hz2.lt
  have e7 := nw_zero_row W2
  have e7s := e7.setRow (Nw pp)
  have e7c := e7s.cell P0_cell
  have e7f := e7s.free 0
  have h74 := e7s.set 0 (.int .u32 4294967280)
  rw [P3_set] at h74
  have hq4 := ((hq2.alloc (.cells #[.int .u32 0, .int .u32 0, .int .u32 0, .int .u32 0, .int .u32 0, .int .u32 0, .int .u32 0, .int .u32 0] 37)).setRowOther (k := W2.heap.size) (by omega) (Nw pp).toArray).setCell (p := ⟨W2.heap.size, 0, none⟩) (by show gq ≠ W2.heap.size; omega) (.int .u32 4294967280)
  have hz4 := ((hz2.alloc (.cells #[.int .u32 0, .int .u32 0, .int .u32 0, .int .u32 0, .int .u32 0, .int .u32 0, .int .u32 0, .int .u32 0] 37)).setRowOther (k := W2.heap.size) (by omega) (Nw pp).toArray).setCell (p := ⟨W2.heap.size, 0, none⟩) (by show w.heap.size + 1 + 1 ≠ W2.heap.size; omega) (.int .u32 4294967280)
  have hw4 := (below_setRow (g := W2.heap.size) (hw2.alloc hw2.size (.cells #[.int .u32 0, .int .u32 0, .int .u32 0, .int .u32 0, .int .u32 0, .int .u32 0, .int .u32 0, .int .u32 0] 37)) hw2.size (Nw pp).toArray).setCell (p := ⟨W2.heap.size, 0, none⟩) hw2.size (.int .u32 4294967280)
  have E7 := yH e7
  have H74 := yH h74
  have HQ4 := yH hq4
  have HZ4 := yH hz4
  have HW4 := yH hw4
  have HQS := yH hs1
  clear hq1 hz1 hw1 hb2 hq2 hz2 hw2 e7 e7s h74 hq4 hz4 hw4 hs1
  go_wp2_with (refine wpList_store_row rfl 37 (.tmp 7) (.tmp 20) rfl (W2.heap.size) _ rfl rfl 37 _ E7.out (nw_info _) (Nw_sz _ _) (Nw_one _) ?_)
  have h74 := H74.out
  have hq4 := HQ4.out
  have hz4 := HZ4.out
  have hw4 := HW4.out
  clear H74 HQ4 HZ4 HW4 E7 e7c e7f
  generalize ((W2.alloc (.cells #[.int .u32 0, .int .u32 0, .int .u32 0, .int .u32 0, .int .u32 0, .int .u32 0, .int .u32 0, .int .u32 0] 37)).setRow W2.heap.size (Nw pp).toArray).setCell ⟨W2.heap.size, 0, none⟩ (.int .u32 4294967280) = W4 at *
  refine wp_vars_one (aD := ?aD6) (B := W4.heap.size) (S := fun w' => Below W4.heap.size W4 w') (k1 := 5) (s1 := 6) (T1 := 37) (L1 := 37) (z1 := Nw 0) (c1 := Nw (nu (powL (mulL u (invL v)) eR1))) (x1 := .tmp 8) (y1 := .tmp 29)
   (vs := [(0, .agg (Nw (nu (mulL u (invL v)))).toArray), (1, .agg (Nw (pp + 3)).toArray), (2, .agg (Nw eR1).toArray), (3, .agg (By eR1 32).toArray), (4, .agg (Nw (nu (powL (mulL u (invL v)) eR1))).toArray)]) (by kernel_rfl) ((Below.refl _ _).drew) (fun _ _ h k => S_trans h k) (fun _ _ _ h hg => S_row h hg _) (fun _ h => h.size) ?hD6 (.of rfl rfl rfl (fun w' => nw_alloc w')) ?hk6 rfl rfl (some 8) rfl rfl rfl ?e6 ?f6 (nw_info _) (Nw_sz _ _) (Nw_one _) ?h6
  case hD6 =>
   refine .s 25 rfl (Gives.l 37 (.tmp 6) (gq) (fun w' h => hq4.belowAll h) Tryz.underlying37 (nw_info _)) ?_
   refine .s 26 rfl (Gives.l 37 (.tmp 7) (W2.heap.size) (fun w' h => h74.belowAll h) Tryz.underlying37 (nw_info _)) ?_
   refine .s 27 rfl (Gives.c (args := [.agg (Nw (pp + 3)).toArray, .int .i64 3]) rfl Tryz.func73 (fun w' h => shift_p3 w')) ?_
   refine .s 28 rfl (Gives.c (args := [.agg (Nw eR1).toArray]) rfl Tryz.func52 (fun w' h => rbytes_ref eR1 w')) ?_
   refine .s 29 rfl (Gives.c (args := [.agg (Nw (nu (mulL u (invL v)))).toArray, .agg (By eR1 32).toArray]) rfl Tryz.func72 (fun w' h => powr_nu (mulL u (invL v)) (by decide) w')) ?_
   exact .nil
  case hk6 => kernel_rfl
  case e6 => exact fun p => rfl
  case f6 => exact fun p => rfl
  case h6 =>
  intro g8 W5 hb5 hg8 h85
  have hq5 := hq4.belowAll hb5
  have hz5 := hz4.belowAll hb5
  have hw5 := hw4.trans (hb5.mono hw4.size)
  have hlz4 := hz4.lt
  have HNE := yH (show w.heap.size + 1 + 1 ≠ g8 by omega)
  have HGE := yH (show w.heap.size ≤ g8 by have := hw4.size; omega)
  have hlq4 := hq4.lt
  have HNQ := yH (show gq ≠ g8 by omega)
  clear h74 hq4 hz4 hw4 hb5 hlz4 hlq4 hlq hlz hzlt hgq hg8 HQS
  have hc := nu_c (u := u) hv0
  go_wp2_with fail
  by_cases hf1 : fitB (candL u v) u v = true
  ·have hft1 := (sq_fit (u := u) hv0 hc).trans hf1
   have HE : nu (powL (mulL u (invL v)) eR1) = nu (root1 u v) := by unfold root1; rw [if_pos hf1]; exact hc
   refine wp_flat_none (aD := ?aD7t) (S := fun w' => Below W5.heap.size W5 w') (vs := [(0, .agg (Nw (nu (powL (mulL u (invL v)) eR1))).toArray), (1, .agg (Nw (nu (powL (mulL u (invL v)) eR1))).toArray), (2, .agg (Nw (nu (mulL (powL (mulL u (invL v)) eR1) (powL (mulL u (invL v)) eR1)))).toArray), (3, .agg (Nw (nu (mulL u (invL v)))).toArray), (4, .bool false)]) (by kernel_rfl) ((Below.refl _ _).drew) (fun _ _ h k => S_trans h k) ?hD7t ?hk7t ?h7t
   case hD7t =>
    refine .s 30 rfl (Gives.l 37 (.tmp 8) (g8) (fun w' h => h85.belowAll h) Tryz.underlying37 (nw_info _)) ?_
    refine .s 31 rfl (Gives.l 37 (.tmp 8) (g8) (fun w' h => h85.belowAll h) Tryz.underlying37 (nw_info _)) ?_
    refine .s 32 rfl (Gives.c (args := [.agg (Nw (nu (powL (mulL u (invL v)) eR1))).toArray, .agg (Nw (nu (powL (mulL u (invL v)) eR1))).toArray]) rfl Tryz.func36 (fun w' h => mulr_nu (powL (mulL u (invL v)) eR1) (powL (mulL u (invL v)) eR1) w')) ?_
    refine .s 33 rfl (Gives.l 37 (.tmp 6) (gq) (fun w' h => hq5.belowAll h) Tryz.underlying37 (nw_info _)) ?_
    refine .s 34 rfl (Gives.binop .neq 37 37 (.tmp 32) (.tmp 33) rfl (.agg (Nw (nu (mulL (powL (mulL u (invL v)) eR1) (powL (mulL u (invL v)) eR1)))).toArray) (.agg (Nw (nu (mulL u (invL v)))).toArray) _ rfl rfl (fun w' => ngrd _ _ _ _ _ w') (fun w' => nne_t hft1 w')) ?_
    exact .nil
   case hk7t => kernel_rfl
   case h7t =>
   intro W6 hb6
   have hq6 := hq5.belowAll hb6
   have hz6 := hz5.belowAll hb6
   have h86 := h85.belowAll hb6
   have hw6 := hw5.trans (hb6.mono hw5.size)
   have HHE := yH HE
   have HV0 := yH hv0
   clear hq5 hz5 h85 hw5 hb6 hft1 hf1 hc HE hv0
   go_wp2_with fail
   have hv0 := HV0.out
   have HE := HHE.out
   by_cases hfit : fitB (root1 u v) u v = true
   ·have hft := (sq_fit (u := u) hv0 HE).trans hfit
    have hrk : rootOk u v = true := by rw [ok_fit hv0]; exact hfit
    refine wp_flat_none (aD := ?aDat) (S := fun w' => Below W6.heap.size W6 w') (vs := [(0, .agg (Nw (nu (powL (mulL u (invL v)) eR1))).toArray), (1, .agg (Nw (nu (powL (mulL u (invL v)) eR1))).toArray), (2, .agg (Nw (nu (mulL (powL (mulL u (invL v)) eR1) (powL (mulL u (invL v)) eR1)))).toArray), (3, .agg (Nw (nu (mulL u (invL v)))).toArray), (4, .bool false)]) (by kernel_rfl) ((Below.refl _ _).drew) (fun _ _ h k => S_trans h k) ?hDat ?hkat ?hat
    case hDat =>
     refine .s 49 rfl (Gives.l 37 (.tmp 8) (g8) (fun w' h => h86.belowAll h) Tryz.underlying37 (nw_info _)) ?_
     refine .s 50 rfl (Gives.l 37 (.tmp 8) (g8) (fun w' h => h86.belowAll h) Tryz.underlying37 (nw_info _)) ?_
     refine .s 51 rfl (Gives.c (args := [.agg (Nw (nu (powL (mulL u (invL v)) eR1))).toArray, .agg (Nw (nu (powL (mulL u (invL v)) eR1))).toArray]) rfl Tryz.func36 (fun w' h => mulr_nu (powL (mulL u (invL v)) eR1) (powL (mulL u (invL v)) eR1) w')) ?_
     refine .s 52 rfl (Gives.l 37 (.tmp 6) (gq) (fun w' h => hq6.belowAll h) Tryz.underlying37 (nw_info _)) ?_
     refine .s 53 rfl (Gives.binop .neq 37 37 (.tmp 51) (.tmp 52) rfl (.agg (Nw (nu (mulL (powL (mulL u (invL v)) eR1) (powL (mulL u (invL v)) eR1)))).toArray) (.agg (Nw (nu (mulL u (invL v)))).toArray) _ rfl rfl (fun w' => ngrd _ _ _ _ _ w') (fun w' => nne_t hft w')) ?_
     exact .nil
    case hkat => kernel_rfl
    case hat =>
    intro W8 hb8
    have hz8 := hz6.belowAll hb8
    have h88 := h86.belowAll hb8
    have hw8 := hw6.trans (hb8.mono hw6.size)
    have hyes := root_yes hu hv hRk hrk HE
    have hne8 := HNE.out
    by_cases hodd : nu (powL (mulL u (invL v)) eR1) % 2 = 1
    ·rw [if_pos hodd] at hyes
     have hod := decide_eq_true hodd
     have HOD := yH (fun wx => oddr_is hod wx)
     have HYES := yH hyes
     have HRK := yH hrk
     have HNG := yH (fun wx => negr_nu hRk wx)
     have HZ8 := yH hz8
     have H88 := yH h88
     have HW8 := yH hw8
     clear hz8 h88 hw8 hb8 hft hfit hrk hyes hodd hod hz6 hq6 h86 hw6 HE hne8
     go_wp2_with (first
      | (refine wpList_load_row rfl 37 (.tmp 8) rfl (g8) rfl 37 _ (0, 0) _ H88.out Tryz.underlying37 rfl (nw_info _) ?_))
     refine (HOD.out _).mono ?_
     rintro e9 w9 ⟨rfl, hb9⟩
     have hz9 := HZ8.out.belowAll hb9
     have h89 := H88.out.belowAll hb9
     have hw9 := HW8.out.trans (hb9.mono HW8.out.size)
     have HZ9 := yH hz9
     have H89 := yH h89
     have HW9 := yH hw9
     clear hz9 h89 hw9 hb9 HZ8 H88 HW8
     go_wp2_with (first
      | (refine wpList_build0 rfl 37 rfl _ (nw_build _) ?_)
      | (refine wpList_load_row rfl 37 (.tmp 8) rfl (g8) rfl 37 _ (0, 0) _ H89.out Tryz.underlying37 rfl (nw_info _) ?_))
     refine (HNG.out _).mono ?_
     rintro e10 w10 ⟨rfl, hb10⟩
     have hz10 := HZ9.out.belowAll hb10
     have h810 := H89.out.belowAll hb10
     have hw10 := HW9.out.trans (hb10.mono HW9.out.size)
     have h811 := h810.setRow (Nw (nu (negL (powL (mulL u (invL v)) eR1))))
     have hz11 := hz10.setRowOther (k := g8) HNE.out (Nw (nu (negL (powL (mulL u (invL v)) eR1)))).toArray
     have hw11 := below_setRow (g := g8) hw10 HGE.out (Nw (nu (negL (powL (mulL u (invL v)) eR1)))).toArray
     have hgot := setRow_heap _ (w.heap.size + 1 + 1) _ (Nw (nu (negL (powL (mulL u (invL v)) eR1)))).toArray _ _ hz11
     have HGOT := yH hgot
     have H810 := yH h810
     have H811 := yH h811
     have HZ11 := yH hz11
     have HW11 := yH hw11
     clear hz10 h810 hw10 h811 hz11 hw11 hb10 hgot
     go_wp2_with (first
      | (refine wpList_store_row rfl 37 (.tmp 8) (.tmp 59) rfl (g8) _ rfl rfl 37 _ H810.out (nw_info _) (Nw_sz _ _) (Nw_one _) ?_)
      | (refine wpList_load_row rfl 37 (.tmp 8) rfl (g8) rfl 37 _ (0, 0) _ H811.out Tryz.underlying37 rfl (nw_info _) ?_)
      | (refine wpList_store_row rfl 37 (.tmp 4) (.tmp 60) rfl (w.heap.size + 1 + 1) _ rfl rfl 37 _ HZ11.out (nw_info _) (Nw_sz _ _) (Nw_one _) ?_))
     refine bodyPost_ret (results_row_slot (by rfl) _ _ (w.heap.size + 1 + 1) _ _ _ _ (.bool true) (by rfl) HGOT.out Tryz.underlying37 rfl (nw_info _) (by rfl)) rfl ?_
     exact ⟨by rw [HYES.out, HRK.out], below_setRow HW11.out (by omega) _⟩
    ·rw [if_neg hodd] at hyes
     have hod := decide_eq_false hodd
     have HOD := yH (fun wx => oddr_is hod wx)
     have HYES := yH hyes
     have HRK := yH hrk
     have HZ8 := yH hz8
     have H88 := yH h88
     have HW8 := yH hw8
     clear hz8 h88 hw8 hb8 hft hfit hrk hyes hodd hod hz6 hq6 h86 hw6 HE hne8
     go_wp2_with (first
      | (refine wpList_load_row rfl 37 (.tmp 8) rfl (g8) rfl 37 _ (0, 0) _ H88.out Tryz.underlying37 rfl (nw_info _) ?_))
     refine (HOD.out _).mono ?_
     rintro e9 w9 ⟨rfl, hb9⟩
     have hz9 := HZ8.out.belowAll hb9
     have h89 := H88.out.belowAll hb9
     have hw9 := HW8.out.trans (hb9.mono HW8.out.size)
     have hgot := setRow_heap _ (w.heap.size + 1 + 1) _ (Nw (nu (powL (mulL u (invL v)) eR1))).toArray _ _ hz9
     have HGOT := yH hgot
     have HZ9 := yH hz9
     have H89 := yH h89
     have HW9 := yH hw9
     clear hz9 h89 hw9 hb9 HZ8 H88 HW8 hgot
     go_wp2_with (first
      | (refine wpList_load_row rfl 37 (.tmp 8) rfl (g8) rfl 37 _ (0, 0) _ H89.out Tryz.underlying37 rfl (nw_info _) ?_)
      | (refine wpList_store_row rfl 37 (.tmp 4) (.tmp 60) rfl (w.heap.size + 1 + 1) _ rfl rfl 37 _ HZ9.out (nw_info _) (Nw_sz _ _) (Nw_one _) ?_))
     refine bodyPost_ret (results_row_slot (by rfl) _ _ (w.heap.size + 1 + 1) _ _ _ _ (.bool true) (by rfl) HGOT.out Tryz.underlying37 rfl (nw_info _) (by rfl)) rfl ?_
     exact ⟨by rw [HYES.out, HRK.out], below_setRow HW9.out (by omega) _⟩
 
   ·have hft := (sq_fit (u := u) hv0 HE).trans ((Bool.not_eq_true _).mp hfit)
    have hrk : rootOk u v = false := by rw [ok_fit hv0]; simpa using hfit
    refine wp_flat_none (aD := ?aDaf) (S := fun w' => Below W6.heap.size W6 w') (vs := [(0, .agg (Nw (nu (powL (mulL u (invL v)) eR1))).toArray), (1, .agg (Nw (nu (powL (mulL u (invL v)) eR1))).toArray), (2, .agg (Nw (nu (mulL (powL (mulL u (invL v)) eR1) (powL (mulL u (invL v)) eR1)))).toArray), (3, .agg (Nw (nu (mulL u (invL v)))).toArray), (4, .bool true)]) (by kernel_rfl) ((Below.refl _ _).drew) (fun _ _ h k => S_trans h k) ?hDaf ?hkaf ?haf
    case hDaf =>
     refine .s 49 rfl (Gives.l 37 (.tmp 8) (g8) (fun w' h => h86.belowAll h) Tryz.underlying37 (nw_info _)) ?_
     refine .s 50 rfl (Gives.l 37 (.tmp 8) (g8) (fun w' h => h86.belowAll h) Tryz.underlying37 (nw_info _)) ?_
     refine .s 51 rfl (Gives.c (args := [.agg (Nw (nu (powL (mulL u (invL v)) eR1))).toArray, .agg (Nw (nu (powL (mulL u (invL v)) eR1))).toArray]) rfl Tryz.func36 (fun w' h => mulr_nu (powL (mulL u (invL v)) eR1) (powL (mulL u (invL v)) eR1) w')) ?_
     refine .s 52 rfl (Gives.l 37 (.tmp 6) (gq) (fun w' h => hq6.belowAll h) Tryz.underlying37 (nw_info _)) ?_
     refine .s 53 rfl (Gives.binop .neq 37 37 (.tmp 51) (.tmp 52) rfl (.agg (Nw (nu (mulL (powL (mulL u (invL v)) eR1) (powL (mulL u (invL v)) eR1)))).toArray) (.agg (Nw (nu (mulL u (invL v)))).toArray) _ rfl rfl (fun w' => ngrd _ _ _ _ _ w') (fun w' => nne_f hft w')) ?_
     exact .nil
    case hkaf => kernel_rfl
    case haf =>
    intro W8 hb8
    have hz8 := hz6.belowAll hb8
    have h88 := h86.belowAll hb8
    have hw8 := hw6.trans (hb8.mono hw6.size)
    have HZ8 := yH hz8
    have HW8 := yH hw8
    have HN0 := yH (root_no hrk)
    have HRK := yH hrk
    have hgot := setRow_heap W8 (w.heap.size + 1 + 1) _ (Nw 0).toArray _ _ hz8
    have HGOT := yH hgot
    clear hz8 h88 hw8 hb8 hft hfit hrk hgot hz6 hq6 h86 hw6 HE
    go_wp2_with (first
     | (refine wpList_build0 rfl 37 rfl _ (nw_build _) ?_)
     | (refine wpList_store_row rfl 37 (.tmp 4) (.tmp 54) rfl (w.heap.size + 1 + 1) _ rfl rfl 37 _ HZ8.out (nw_info _) (Nw_sz _ _) (Nw_one _) ?_))
    refine bodyPost_ret (results_row_slot (by rfl) _ _ (w.heap.size + 1 + 1) _ _ _ _ (.bool false) (by rfl) HGOT.out Tryz.underlying37 rfl (nw_info _) (by rfl)) rfl ?_
    exact ⟨by rw [HN0.out, HRK.out], below_setRow HW8.out (by omega) _⟩
 
  ·have hft1 := (sq_fit (u := u) hv0 hc).trans ((Bool.not_eq_true _).mp hf1)
   have hR2k : (mulL (powL (mulL u (invL v)) eR1) (powL (smL 2) eH)).ok := mulL_ok hRk (powL_ok (smL_ok (by decide)) _)
   have HE : nu (mulL (powL (mulL u (invL v)) eR1) (powL (smL 2) eH)) = nu (root1 u v) := by unfold root1; rw [if_neg hf1, nu_mulP, nu_mulP, hc, nu_h]
   have hm := fun wx => minus_ref pp 1 pp_W8 (by decide) wx
   rw [dif8_sub (by decide), decide_eq_false (by decide)] at hm
   have HM := yH hm
   clear hm
   refine wp_flat_none (aD := ?aD7f) (S := fun w' => Below W5.heap.size W5 w') (vs := [(0, .agg (Nw (nu (powL (mulL u (invL v)) eR1))).toArray), (1, .agg (Nw (nu (powL (mulL u (invL v)) eR1))).toArray), (2, .agg (Nw (nu (mulL (powL (mulL u (invL v)) eR1) (powL (mulL u (invL v)) eR1)))).toArray), (3, .agg (Nw (nu (mulL u (invL v)))).toArray), (4, .bool true)]) (by kernel_rfl) ((Below.refl _ _).drew) (fun _ _ h k => S_trans h k) ?hD7f ?hk7f ?h7f
   case hD7f =>
    refine .s 30 rfl (Gives.l 37 (.tmp 8) (g8) (fun w' h => h85.belowAll h) Tryz.underlying37 (nw_info _)) ?_
    refine .s 31 rfl (Gives.l 37 (.tmp 8) (g8) (fun w' h => h85.belowAll h) Tryz.underlying37 (nw_info _)) ?_
    refine .s 32 rfl (Gives.c (args := [.agg (Nw (nu (powL (mulL u (invL v)) eR1))).toArray, .agg (Nw (nu (powL (mulL u (invL v)) eR1))).toArray]) rfl Tryz.func36 (fun w' h => mulr_nu (powL (mulL u (invL v)) eR1) (powL (mulL u (invL v)) eR1) w')) ?_
    refine .s 33 rfl (Gives.l 37 (.tmp 6) (gq) (fun w' h => hq5.belowAll h) Tryz.underlying37 (nw_info _)) ?_
    refine .s 34 rfl (Gives.binop .neq 37 37 (.tmp 32) (.tmp 33) rfl (.agg (Nw (nu (mulL (powL (mulL u (invL v)) eR1) (powL (mulL u (invL v)) eR1)))).toArray) (.agg (Nw (nu (mulL u (invL v)))).toArray) _ rfl rfl (fun w' => ngrd _ _ _ _ _ w') (fun w' => nne_f hft1 w')) ?_
    exact .nil
   case hk7f => kernel_rfl
   case h7f =>
   intro W6 hb6
   have hq6 := hq5.belowAll hb6
   have hz6 := hz5.belowAll hb6
   have h86 := h85.belowAll hb6
   have hw6 := hw5.trans (hb6.mono hw5.size)
   have HHE := yH HE
   have HV0 := yH hv0
   clear hq5 hz5 h85 hw5 hb6 hft1 hf1 hc HE hv0
   go_wp2_with fail
   refine (P_any _).mono ?_
   rintro e7 W7 ⟨rfl, hb7⟩
   go_wp2_with fail
   refine (smallr_ref 1 (by decide) _).mono ?_
   rintro e8 W8 ⟨rfl, hb8⟩
   go_wp2_with fail
   refine (HM.out _).mono ?_
   rintro e9 W9 ⟨rfl, hb9⟩
   have hb67 := (hb7.trans (hb8.mono hb7.size)).trans (hb9.mono (hb7.trans (hb8.mono hb7.size)).size)
   have hq9 := hq6.belowAll hb67
   have hz9 := hz6.belowAll hb67
   have h89 := h86.belowAll hb67
   have hw9 := hw6.trans (hb67.mono hw6.size)
   have l1 := hq9.lt
   have l2 := hz9.lt
   have l3 := h89.lt
   have e10 := nw_zero_row W9
   have h910 := e10.setRow (Nw (pp - 1))
   have hq10 := (hq9.alloc (.cells #[.int .u32 0, .int .u32 0, .int .u32 0, .int .u32 0, .int .u32 0, .int .u32 0, .int .u32 0, .int .u32 0] 37)).setRowOther (k := W9.heap.size) (by omega) (Nw (pp - 1)).toArray
   have hz10 := (hz9.alloc (.cells #[.int .u32 0, .int .u32 0, .int .u32 0, .int .u32 0, .int .u32 0, .int .u32 0, .int .u32 0, .int .u32 0] 37)).setRowOther (k := W9.heap.size) (by omega) (Nw (pp - 1)).toArray
   have h810 := (h89.alloc (.cells #[.int .u32 0, .int .u32 0, .int .u32 0, .int .u32 0, .int .u32 0, .int .u32 0, .int .u32 0, .int .u32 0] 37)).setRowOther (k := W9.heap.size) (by omega) (Nw (pp - 1)).toArray
   have hw10 := below_setRow (g := W9.heap.size) (hw9.alloc hw9.size (.cells #[.int .u32 0, .int .u32 0, .int .u32 0, .int .u32 0, .int .u32 0, .int .u32 0, .int .u32 0, .int .u32 0] 37)) hw9.size (Nw (pp - 1)).toArray
   have E10 := yH e10
   have H910 := yH h910
   have HQ10 := yH hq10
   have HZ10 := yH hz10
   have H810 := yH h810
   have HW10 := yH hw10
   clear hb7 hb8 hb9 hb67 hq6 hz6 h86 hw6 hq9 hz9 h89 hw9 e10 h910 hq10 hz10 h810 hw10 l1 l2 l3
   go_wp2_with (refine wpList_store_row rfl 37 (.tmp 9) (.tmp 39) rfl (W9.heap.size) _ rfl rfl 37 _ E10.out (nw_info _) (Nw_sz _ _) (Nw_one _) ?_)
   have h910 := H910.out
   have hq10 := HQ10.out
   have hz10 := HZ10.out
   have h810 := H810.out
   have hw10 := HW10.out
   clear E10 H910 HQ10 HZ10 H810 HW10
   generalize (W9.alloc (.cells #[.int .u32 0, .int .u32 0, .int .u32 0, .int .u32 0, .int .u32 0, .int .u32 0, .int .u32 0, .int .u32 0] 37)).setRow W9.heap.size (Nw (pp - 1)).toArray = W10 at *
   refine wp_vars_one (aD := ?aD9) (B := W10.heap.size) (S := fun w' => Below W10.heap.size W10 w') (k1 := 5) (s1 := 6) (T1 := 37) (L1 := 37) (z1 := Nw 0) (c1 := Nw (nu (powL (smL 2) eH))) (x1 := .tmp 11) (y1 := .tmp 45)
    (vs := [(0, .agg (Nw (nu (smL 2))).toArray), (1, .agg (Nw (pp - 1)).toArray), (2, .agg (Nw eH).toArray), (3, .agg (By eH 32).toArray), (4, .agg (Nw (nu (powL (smL 2) eH))).toArray)]) (by kernel_rfl) ((Below.refl _ _).drew) (fun _ _ h k => S_trans h k) (fun _ _ _ h hg => S_row h hg _) (fun _ h => h.size) ?hD9 (.of rfl rfl rfl (fun w' => nw_alloc w')) ?hk9 rfl rfl (some 11) rfl rfl rfl ?e9 ?f9 (nw_info _) (Nw_sz _ _) (Nw_one _) ?h9
   case hD9 =>
    refine .s 41 rfl (Gives.c (args := [.int .u32 2]) rfl Tryz.func35 (fun w' h => smallr_nu 2 (by decide) w')) ?_
    refine .s 42 rfl (Gives.l 37 (.tmp 9) (W9.heap.size) (fun w' h => h910.belowAll h) Tryz.underlying37 (nw_info _)) ?_
    refine .s 43 rfl (Gives.c (args := [.agg (Nw (pp - 1)).toArray, .int .i64 2]) rfl Tryz.func73 (fun w' h => shift_p1 w')) ?_
    refine .s 44 rfl (Gives.c (args := [.agg (Nw eH).toArray]) rfl Tryz.func52 (fun w' h => rbytes_ref eH w')) ?_
    refine .s 45 rfl (Gives.c (args := [.agg (Nw (nu (smL 2))).toArray, .agg (By eH 32).toArray]) rfl Tryz.func72 (fun w' h => powr_nu (smL 2) (by decide) w')) ?_
    exact .nil
   case hk9 => kernel_rfl
   case e9 => exact fun p => rfl
   case f9 => exact fun p => rfl
   case h9 =>
   intro g11 W11 hb11 hg11 h1111
   have hq11 := hq10.belowAll hb11
   have hz11 := hz10.belowAll hb11
   have h811 := h810.belowAll hb11
   have hw11 := hw10.trans (hb11.mono hw10.size)
   have HQ11 := yH hq11
   have HZ11 := yH hz11
   have H811 := yH h811
   have H1111 := yH h1111
   have HW11 := yH hw11
   clear h910 hq10 hz10 h810 hw10 hb11 hg11 hq11 hz11 h811 h1111 hw11
   go_wp2_with (first
    | (refine wpList_load_row rfl 37 (.tmp 8) rfl (g8) rfl 37 _ (0, 0) _ H811.out Tryz.underlying37 rfl (nw_info _) ?_)
    | (refine wpList_load_row rfl 37 (.tmp 11) rfl (g11) rfl 37 _ (0, 0) _ H1111.out Tryz.underlying37 rfl (nw_info _) ?_))
   refine (mulr_nu (powL (mulL u (invL v)) eR1) (powL (smL 2) eH) _).mono ?_
   rintro e12 W12 ⟨rfl, hb12⟩
   have hq12 := (HQ11.out.belowAll hb12).setRowOther (k := g8) HNQ.out (Nw (nu (mulL (powL (mulL u (invL v)) eR1) (powL (smL 2) eH)))).toArray
   have hz12 := (HZ11.out.belowAll hb12).setRowOther (k := g8) HNE.out (Nw (nu (mulL (powL (mulL u (invL v)) eR1) (powL (smL 2) eH)))).toArray
   have h812 := H811.out.belowAll hb12
   have h813 := h812.setRow (Nw (nu (mulL (powL (mulL u (invL v)) eR1) (powL (smL 2) eH))))
   have hw12 := below_setRow (g := g8) (HW11.out.trans (hb12.mono HW11.out.size)) HGE.out (Nw (nu (mulL (powL (mulL u (invL v)) eR1) (powL (smL 2) eH)))).toArray
   have HQ12 := yH hq12
   have HZ12 := yH hz12
   have H812 := yH h812
   have H813 := yH h813
   have HW12 := yH hw12
   clear hq12 hz12 h812 h813 hw12 hb12 HQ11 HZ11 H811 H1111 HW11
   go_wp2_with (refine wpList_store_row rfl 37 (.tmp 8) (.tmp 48) rfl (g8) _ rfl rfl 37 _ H812.out (nw_info _) (Nw_sz _ _) (Nw_one _) ?_)
   have hq13 := HQ12.out
   have hz13 := HZ12.out
   have h813 := H813.out
   have hw13 := HW12.out
   have hv0 := HV0.out
   have HE := HHE.out
   clear HQ12 HZ12 H812 H813 HW12
   generalize W12.setRow g8 (Nw (nu (mulL (powL (mulL u (invL v)) eR1) (powL (smL 2) eH)))).toArray = W13 at *
   by_cases hfit : fitB (root1 u v) u v = true
   ·have hft := (sq_fit (u := u) hv0 HE).trans hfit
    have hrk : rootOk u v = true := by rw [ok_fit hv0]; exact hfit
    refine wp_flat_none (aD := ?aDbt) (S := fun w' => Below W13.heap.size W13 w') (vs := [(0, .agg (Nw (nu (mulL (powL (mulL u (invL v)) eR1) (powL (smL 2) eH)))).toArray), (1, .agg (Nw (nu (mulL (powL (mulL u (invL v)) eR1) (powL (smL 2) eH)))).toArray), (2, .agg (Nw (nu (mulL (mulL (powL (mulL u (invL v)) eR1) (powL (smL 2) eH)) (mulL (powL (mulL u (invL v)) eR1) (powL (smL 2) eH))))).toArray), (3, .agg (Nw (nu (mulL u (invL v)))).toArray), (4, .bool false)]) (by kernel_rfl) ((Below.refl _ _).drew) (fun _ _ h k => S_trans h k) ?hDbt ?hkbt ?hbt
    case hDbt =>
     refine .s 49 rfl (Gives.l 37 (.tmp 8) (g8) (fun w' h => h813.belowAll h) Tryz.underlying37 (nw_info _)) ?_
     refine .s 50 rfl (Gives.l 37 (.tmp 8) (g8) (fun w' h => h813.belowAll h) Tryz.underlying37 (nw_info _)) ?_
     refine .s 51 rfl (Gives.c (args := [.agg (Nw (nu (mulL (powL (mulL u (invL v)) eR1) (powL (smL 2) eH)))).toArray, .agg (Nw (nu (mulL (powL (mulL u (invL v)) eR1) (powL (smL 2) eH)))).toArray]) rfl Tryz.func36 (fun w' h => mulr_nu (mulL (powL (mulL u (invL v)) eR1) (powL (smL 2) eH)) (mulL (powL (mulL u (invL v)) eR1) (powL (smL 2) eH)) w')) ?_
     refine .s 52 rfl (Gives.l 37 (.tmp 6) (gq) (fun w' h => hq13.belowAll h) Tryz.underlying37 (nw_info _)) ?_
     refine .s 53 rfl (Gives.binop .neq 37 37 (.tmp 51) (.tmp 52) rfl (.agg (Nw (nu (mulL (mulL (powL (mulL u (invL v)) eR1) (powL (smL 2) eH)) (mulL (powL (mulL u (invL v)) eR1) (powL (smL 2) eH))))).toArray) (.agg (Nw (nu (mulL u (invL v)))).toArray) _ rfl rfl (fun w' => ngrd _ _ _ _ _ w') (fun w' => nne_t hft w')) ?_
     exact .nil
    case hkbt => kernel_rfl
    case hbt =>
    intro W8 hb8
    have hz8 := hz13.belowAll hb8
    have h88 := h813.belowAll hb8
    have hw8 := hw13.trans (hb8.mono hw13.size)
    have hyes := root_yes hu hv hR2k hrk HE
    have hne8 := HNE.out
    by_cases hodd : nu (mulL (powL (mulL u (invL v)) eR1) (powL (smL 2) eH)) % 2 = 1
    ·rw [if_pos hodd] at hyes
     have hod := decide_eq_true hodd
     have HOD := yH (fun wx => oddr_is hod wx)
     have HYES := yH hyes
     have HRK := yH hrk
     have HNG := yH (fun wx => negr_nu hR2k wx)
     have HZ8 := yH hz8
     have H88 := yH h88
     have HW8 := yH hw8
     clear hz8 h88 hw8 hb8 hft hfit hrk hyes hodd hod hz13 hq13 h813 hw13 HE hne8
     go_wp2_with (first
      | (refine wpList_load_row rfl 37 (.tmp 8) rfl (g8) rfl 37 _ (0, 0) _ H88.out Tryz.underlying37 rfl (nw_info _) ?_))
     refine (HOD.out _).mono ?_
     rintro e9 w9 ⟨rfl, hb9⟩
     have hz9 := HZ8.out.belowAll hb9
     have h89 := H88.out.belowAll hb9
     have hw9 := HW8.out.trans (hb9.mono HW8.out.size)
     have HZ9 := yH hz9
     have H89 := yH h89
     have HW9 := yH hw9
     clear hz9 h89 hw9 hb9 HZ8 H88 HW8
     go_wp2_with (first
      | (refine wpList_build0 rfl 37 rfl _ (nw_build _) ?_)
      | (refine wpList_load_row rfl 37 (.tmp 8) rfl (g8) rfl 37 _ (0, 0) _ H89.out Tryz.underlying37 rfl (nw_info _) ?_))
     refine (HNG.out _).mono ?_
     rintro e10 w10 ⟨rfl, hb10⟩
     have hz10 := HZ9.out.belowAll hb10
     have h810 := H89.out.belowAll hb10
     have hw10 := HW9.out.trans (hb10.mono HW9.out.size)
     have h811 := h810.setRow (Nw (nu (negL (mulL (powL (mulL u (invL v)) eR1) (powL (smL 2) eH)))))
     have hz11 := hz10.setRowOther (k := g8) HNE.out (Nw (nu (negL (mulL (powL (mulL u (invL v)) eR1) (powL (smL 2) eH))))).toArray
     have hw11 := below_setRow (g := g8) hw10 HGE.out (Nw (nu (negL (mulL (powL (mulL u (invL v)) eR1) (powL (smL 2) eH))))).toArray
     have hgot := setRow_heap _ (w.heap.size + 1 + 1) _ (Nw (nu (negL (mulL (powL (mulL u (invL v)) eR1) (powL (smL 2) eH))))).toArray _ _ hz11
     have HGOT := yH hgot
     have H810 := yH h810
     have H811 := yH h811
     have HZ11 := yH hz11
     have HW11 := yH hw11
     clear hz10 h810 hw10 h811 hz11 hw11 hb10 hgot
     go_wp2_with (first
      | (refine wpList_store_row rfl 37 (.tmp 8) (.tmp 59) rfl (g8) _ rfl rfl 37 _ H810.out (nw_info _) (Nw_sz _ _) (Nw_one _) ?_)
      | (refine wpList_load_row rfl 37 (.tmp 8) rfl (g8) rfl 37 _ (0, 0) _ H811.out Tryz.underlying37 rfl (nw_info _) ?_)
      | (refine wpList_store_row rfl 37 (.tmp 4) (.tmp 60) rfl (w.heap.size + 1 + 1) _ rfl rfl 37 _ HZ11.out (nw_info _) (Nw_sz _ _) (Nw_one _) ?_))
     refine bodyPost_ret (results_row_slot (by rfl) _ _ (w.heap.size + 1 + 1) _ _ _ _ (.bool true) (by rfl) HGOT.out Tryz.underlying37 rfl (nw_info _) (by rfl)) rfl ?_
     exact ⟨by rw [HYES.out, HRK.out], below_setRow HW11.out (by omega) _⟩
    ·rw [if_neg hodd] at hyes
     have hod := decide_eq_false hodd
     have HOD := yH (fun wx => oddr_is hod wx)
     have HYES := yH hyes
     have HRK := yH hrk
     have HZ8 := yH hz8
     have H88 := yH h88
     have HW8 := yH hw8
     clear hz8 h88 hw8 hb8 hft hfit hrk hyes hodd hod hz13 hq13 h813 hw13 HE hne8
     go_wp2_with (first
      | (refine wpList_load_row rfl 37 (.tmp 8) rfl (g8) rfl 37 _ (0, 0) _ H88.out Tryz.underlying37 rfl (nw_info _) ?_))
     refine (HOD.out _).mono ?_
     rintro e9 w9 ⟨rfl, hb9⟩
     have hz9 := HZ8.out.belowAll hb9
     have h89 := H88.out.belowAll hb9
     have hw9 := HW8.out.trans (hb9.mono HW8.out.size)
     have hgot := setRow_heap _ (w.heap.size + 1 + 1) _ (Nw (nu (mulL (powL (mulL u (invL v)) eR1) (powL (smL 2) eH)))).toArray _ _ hz9
     have HGOT := yH hgot
     have HZ9 := yH hz9
     have H89 := yH h89
     have HW9 := yH hw9
     clear hz9 h89 hw9 hb9 HZ8 H88 HW8 hgot
     go_wp2_with (first
      | (refine wpList_load_row rfl 37 (.tmp 8) rfl (g8) rfl 37 _ (0, 0) _ H89.out Tryz.underlying37 rfl (nw_info _) ?_)
      | (refine wpList_store_row rfl 37 (.tmp 4) (.tmp 60) rfl (w.heap.size + 1 + 1) _ rfl rfl 37 _ HZ9.out (nw_info _) (Nw_sz _ _) (Nw_one _) ?_))
     refine bodyPost_ret (results_row_slot (by rfl) _ _ (w.heap.size + 1 + 1) _ _ _ _ (.bool true) (by rfl) HGOT.out Tryz.underlying37 rfl (nw_info _) (by rfl)) rfl ?_
     exact ⟨by rw [HYES.out, HRK.out], below_setRow HW9.out (by omega) _⟩
 
   ·have hft := (sq_fit (u := u) hv0 HE).trans ((Bool.not_eq_true _).mp hfit)
    have hrk : rootOk u v = false := by rw [ok_fit hv0]; simpa using hfit
    refine wp_flat_none (aD := ?aDbf) (S := fun w' => Below W13.heap.size W13 w') (vs := [(0, .agg (Nw (nu (mulL (powL (mulL u (invL v)) eR1) (powL (smL 2) eH)))).toArray), (1, .agg (Nw (nu (mulL (powL (mulL u (invL v)) eR1) (powL (smL 2) eH)))).toArray), (2, .agg (Nw (nu (mulL (mulL (powL (mulL u (invL v)) eR1) (powL (smL 2) eH)) (mulL (powL (mulL u (invL v)) eR1) (powL (smL 2) eH))))).toArray), (3, .agg (Nw (nu (mulL u (invL v)))).toArray), (4, .bool true)]) (by kernel_rfl) ((Below.refl _ _).drew) (fun _ _ h k => S_trans h k) ?hDbf ?hkbf ?hbf
    case hDbf =>
     refine .s 49 rfl (Gives.l 37 (.tmp 8) (g8) (fun w' h => h813.belowAll h) Tryz.underlying37 (nw_info _)) ?_
     refine .s 50 rfl (Gives.l 37 (.tmp 8) (g8) (fun w' h => h813.belowAll h) Tryz.underlying37 (nw_info _)) ?_
     refine .s 51 rfl (Gives.c (args := [.agg (Nw (nu (mulL (powL (mulL u (invL v)) eR1) (powL (smL 2) eH)))).toArray, .agg (Nw (nu (mulL (powL (mulL u (invL v)) eR1) (powL (smL 2) eH)))).toArray]) rfl Tryz.func36 (fun w' h => mulr_nu (mulL (powL (mulL u (invL v)) eR1) (powL (smL 2) eH)) (mulL (powL (mulL u (invL v)) eR1) (powL (smL 2) eH)) w')) ?_
     refine .s 52 rfl (Gives.l 37 (.tmp 6) (gq) (fun w' h => hq13.belowAll h) Tryz.underlying37 (nw_info _)) ?_
     refine .s 53 rfl (Gives.binop .neq 37 37 (.tmp 51) (.tmp 52) rfl (.agg (Nw (nu (mulL (mulL (powL (mulL u (invL v)) eR1) (powL (smL 2) eH)) (mulL (powL (mulL u (invL v)) eR1) (powL (smL 2) eH))))).toArray) (.agg (Nw (nu (mulL u (invL v)))).toArray) _ rfl rfl (fun w' => ngrd _ _ _ _ _ w') (fun w' => nne_f hft w')) ?_
     exact .nil
    case hkbf => kernel_rfl
    case hbf =>
    intro W8 hb8
    have hz8 := hz13.belowAll hb8
    have h88 := h813.belowAll hb8
    have hw8 := hw13.trans (hb8.mono hw13.size)
    have HZ8 := yH hz8
    have HW8 := yH hw8
    have HN0 := yH (root_no hrk)
    have HRK := yH hrk
    have hgot := setRow_heap W8 (w.heap.size + 1 + 1) _ (Nw 0).toArray _ _ hz8
    have HGOT := yH hgot
    clear hz8 h88 hw8 hb8 hft hfit hrk hgot hz13 hq13 h813 hw13 HE
    go_wp2_with (first
     | (refine wpList_build0 rfl 37 rfl _ (nw_build _) ?_)
     | (refine wpList_store_row rfl 37 (.tmp 4) (.tmp 54) rfl (w.heap.size + 1 + 1) _ rfl rfl 37 _ HZ8.out (nw_info _) (Nw_sz _ _) (Nw_one _) ?_))
    refine bodyPost_ret (results_row_slot (by rfl) _ _ (w.heap.size + 1 + 1) _ _ _ _ (.bool false) (by rfl) HGOT.out Tryz.underlying37 rfl (nw_info _) (by rfl)) rfl ?_
    exact ⟨by rw [HN0.out, HRK.out], below_setRow HW8.out (by omega) _⟩
 
end Go.Proofs.YtnpjecdodhkplaaGreatDoor
