/- The document's numbers: P, Small, Odd, minus, Bytes, Raw. -/
import Derived.Test.YthpbipebpaeagaaDoorRa
import Derived.Test.YthpbipebpaeagaaDoorOdd
import Derived.Test.YthpbipebpaeagaaDoorVars
import Derived.Test.YthpbipebpaeagaaDoorRootM
namespace Go.Proofs.YthpbipebpaeagaaDoor
set_option maxRecDepth 100000
set_option linter.unusedSimpArgs false
open Go.RowKit

theorem nw_size : (Tryd.prog.info? 30).map (·.size) = some 8 := by kernel_rfl
theorem nw_info (N : Nat) : (Tryd.prog.info? 30).map (·.size) = some (Nw N).toArray.size := nw_size.trans (by rw [List.size_toArray, Nw_length])
theorem zero8 : (#[Value.int .u32 0, .int .u32 0, .int .u32 0, .int .u32 0, .int .u32 0, .int .u32 0, .int .u32 0, .int .u32 0] : Array Value) = (Nw 0).toArray := by rw [Nw_zero]
theorem P_list : Nw pp = [.int .u32 4294967277, .int .u32 4294967295, .int .u32 4294967295, .int .u32 4294967295, .int .u32 4294967295, .int .u32 4294967295, .int .u32 4294967295, .int .u32 2147483647] := by kernel_rfl
theorem pp_W8 : pp < W8 := by decide

set_option maxHeartbeats 1600000 in
theorem P_any (w : World) : Calls Tryd.prog 25 #[] w fun e w' => e = .returned (.agg (Nw pp).toArray) ∧ Below w.heap.size w w' := by
  rw [P_list]
  go_enter Tryd.func25, Tryd.ntmps25
  go_wp2
  refine bodyPost_ret (results_cell_row (by rfl) _ _ w.heap.size _ _ _ _ (by rfl) (heap_alloc_new _ _) Tryd.underlying30 rfl (by kernel_rfl)) rfl ?_
  exact ⟨rfl, (Below.refl _ _).alloc (Nat.le_refl _) _⟩

set_option maxHeartbeats 3200000 in
theorem minus_ref (A B : Nat) (hA : A < W8) (hB : B < W8) (w : World) :
    Calls Tryd.prog 67 #[.agg (Nw A).toArray, .agg (Nw B).toArray] w fun e w' => e = .returned (.tuple #[.agg (Nw (dif8 A B)).toArray, .bool (decide (A < B))]) ∧ Below w.heap.size w w' := by
  have HST := Lib.hid (fun k (hk : k < 8) => dif8_step hA hB hk)
  have HBR := Lib.hid (fun k (hk : k < 8) => brq_le A B k)
  have HE := Lib.hid (brq_8 hA hB)
  have HS4 := Lib.hid nw_info
  clear hA hB
  go_enter Tryd.func67, Tryd.ntmps67
  go_wp2_with fail
  go_loopw [7, 8] (fun u i wr => ∃ k : Nat, k ≤ 8 ∧ i = .int .i64 k ∧ u = .int .u64 ((brq A B k : Nat) : Int) ∧ Row wr w.heap.size 30 (Nw A) ∧ Row wr (w.heap.size + 1) 30 (Nw B) ∧ Row wr (w.heap.size + 1 + 1 + 1) 30 (Tab .u32 (dw (dif8 A B)) 8 k) ∧ Row wr (w.heap.size + 1 + 1) 30 (Nw 0) ∧ Below w.heap.size w wr) (fun _ i _ => 8 - (intOf i).toNat)
  case atStart =>
    refine ⟨0, Nat.zero_le _, rfl, by rw [brq_zero]; rfl, ((Row.new w _ _).alloc _).alloc _ |>.alloc _, ((Row.new1 w _ _ _).alloc _).alloc _, ?_, ?_, Below.alloc4 _ _ _ _ _⟩
    · rw [Tab_zero]
      exact Row.new3 w _ _ _ _ _
    · rw [Nw_zero]
      exact (Row.new2 w _ _ _ _).alloc _
  case round =>
    obtain ⟨k, hkn, rfl, rfl, ha, hb, hrow, hres, hbe⟩ := hrel
    by_cases hlt : k < 8
    · have hca := ha.cell (Nw_get A hlt)
      have hcb := hb.cell (Nw_get B hlt)
      have hold := hrow.cell (Tab_get .u32 (dw (dif8 A B)) 8 k hlt)
      have hfree := hrow.free k
      have hset := hrow.set k (.int .u32 ((dw (dif8 A B) k : Nat) : Int))
      rw [Tab_w _ hlt] at hset
      have ha2 := ha.setCell (p := ⟨w.heap.size + 1 + 1 + 1, k, none⟩) (by show _ ≠ w.heap.size + 1 + 1 + 1; omega) (.int .u32 ((dw (dif8 A B) k : Nat) : Int))
      have hb2 := hb.setCell (p := ⟨w.heap.size + 1 + 1 + 1, k, none⟩) (by show _ ≠ w.heap.size + 1 + 1 + 1; omega) (.int .u32 ((dw (dif8 A B) k : Nat) : Int))
      have hres2 := hres.setCell (p := ⟨w.heap.size + 1 + 1 + 1, k, none⟩) (by show _ ≠ w.heap.size + 1 + 1 + 1; omega) (.int .u32 ((dw (dif8 A B) k : Nat) : Int))
      have hbe2 := hbe.setCell (p := ⟨w.heap.size + 1 + 1 + 1, k, none⟩) (by simp; omega) (.int .u32 ((dw (dif8 A B) k : Nat) : Int))
      obtain ⟨hs1, hs2, hs3⟩ := HST.out k hlt
      have lx := dw_lt A k
      have ly := dw_lt B k
      have lu := HBR.out k hlt
      generalize dw (dif8 A B) k = s at *
      generalize dw A k = x at *
      generalize dw B k = y at *
      generalize hoo : brq A B (k + 1) = o at *
      have HO := Lib.hid hoo
      clear hoo
      generalize brq A B k = u at *
      have b0 : (0 : Int) ≤ (k : Int) := by omega
      have b1 : (k : Int) < 8 := by omega
      have HSET := Lib.hid hset
      have HA2 := Lib.hid ha2
      have HB2 := Lib.hid hb2
      have HRES2 := Lib.hid hres2
      have HBE2 := Lib.hid hbe2
      have HS1 := Lib.hid hs1
      have HS2 := Lib.hid hs2
      have HS3 := Lib.hid hs3
      clear ha hb hrow hres hbe hset ha2 hb2 hres2 hbe2 hs1 hs2 hs3
      go_wp2_with fail
      go_region
      have hdr : (0 : Int) ≤ IntKind.u64.wrap (IntKind.u64.wrap ((x : Int) - (y : Int)) - (u : Int)) ∧ IntKind.u64.wrap (IntKind.u64.wrap ((x : Int) - (y : Int)) - (u : Int)) < 18446744073709551616 := by
        simp only [IntKind.wrap_u64]
        omega
      generalize IntKind.u64.wrap (IntKind.u64.wrap ((x : Int) - (y : Int)) - (u : Int)) = D at *
      obtain ⟨hd0, hd1⟩ := hdr
      have hca2 := hca
      clear hca2
      go_wp2_with fail
      first | rw [HS3.out] | rw [HS1.out]
      go_wp2_with fail
      go_roundw
      case rel =>
        refine ⟨k + 1, by omega, by go_num, by rw [HS2.out, ← HO.out], HA2.out, HB2.out, HSET.out, HRES2.out, HBE2.out.drew⟩
      case measure => simp [intOf]; omega
    · obtain rfl : k = 8 := by omega
      rw [Tab_done] at hrow
      have hrow2 : Row wr (w.heap.size + 1 + 1 + 1) 30 (Nw (dif8 A B)) := hrow
      have hde : (((brq A B 8 : Nat) : Int) == 1) = decide (A < B) := by
        rw [HE.out, Bool.eq_iff_iff, beq_iff_eq, decide_eq_true_iff]
        split <;> omega
      have HROW := Lib.hid hrow2
      have HRES := Lib.hid hres
      have HBE := Lib.hid hbe
      have HDE := Lib.hid hde
      clear hrow hrow2 hres hbe hde ha hb
      generalize brq A B 8 = u at *
      go_wp2_with (first
        | (refine wpList_load_row rfl 30 (.tmp 6) rfl (w.heap.size + 1 + 1 + 1) rfl 30 _ (0, 0) _ HROW.out Tryd.underlying30 rfl (HS4.out _) ?_)
        | (refine wpList_store_row rfl 30 (.tmp 4) (.tmp 31) rfl (w.heap.size + 1 + 1) _ rfl rfl 30 _ HRES.out (HS4.out _) (Nw_sz _ _) (Nw_one _) ?_))
      rw [HDE.out]
      refine bodyPost_ret (results_row_slot (by rfl) _ _ (w.heap.size + 1 + 1) _ _ _ _ _ (by rfl) (setRow_heap wr (w.heap.size + 1 + 1) _ (Nw (dif8 A B)).toArray _ _ HRES.out) Tryd.underlying30 rfl (HS4.out _) (by rfl)) rfl ?_
      exact ⟨rfl, below_setRow HBE.out (by omega) _⟩

end Go.Proofs.YthpbipebpaeagaaDoor
