/- The document's numbers: Less, Odd. -/
import Derived.Test.YthpbipebpaeagaaDoorRb
namespace Go.Proofs.YthpbipebpaeagaaDoor
set_option maxRecDepth 100000
set_option linter.unusedSimpArgs false
open Go.RowKit

set_option maxHeartbeats 1600000 in
theorem less_ref (A B : Nat) (hA : A < W8) (hB : B < W8) (w : World) :
    Calls Tryd.prog 23 #[.agg (Nw A).toArray, .agg (Nw B).toArray] w fun e w' => e = .returned (.bool (decide (A < B))) ∧ Below w.heap.size w w' := by
  have h0 : A / 4294967296 ^ 8 = B / 4294967296 ^ 8 := by rw [Nat.div_eq_of_lt (show A < 4294967296 ^ 8 from hA), Nat.div_eq_of_lt (show B < 4294967296 ^ 8 from hB)]
  have hfin : A / 4294967296 ^ 0 = B / 4294967296 ^ 0 → decide (A < B) = false := fun h => by
    rw [Nat.pow_zero, Nat.div_one, Nat.div_one] at h
    rw [decide_eq_false (by omega)]
  have H0 := Lib.hid h0
  have HFIN := Lib.hid hfin
  have HCS := Lib.hid (fun i => cmq_same (A := A) (B := B) (i := i))
  have HCL := Lib.hid (fun i => cmq_less (A := A) (B := B) (i := i))
  clear hA hB h0 hfin
  go_enter Tryd.func23, Tryd.ntmps23
  go_wp2_with fail
  go_loopw [5] (fun i wr => ∃ k : Nat, k ≤ 8 ∧ i = .int .i64 ((k : Int) - 1) ∧ A / 4294967296 ^ k = B / 4294967296 ^ k ∧ Row wr w.heap.size 30 (Nw A) ∧ Row wr (w.heap.size + 1) 30 (Nw B) ∧ Below w.heap.size w wr) (fun i _ => (intOf i + 1).toNat)
  case atStart => exact ⟨8, Nat.le_refl _, rfl, H0.out, (Row.new w _ _).alloc _, Row.new1 w _ _ _, Below.alloc2 _ _ _⟩
  case round =>
    obtain ⟨k, hk, rfl, heq, ha, hb, hbe⟩ := hrel
    by_cases hk0 : k = 0
    · subst hk0
      have HF := Lib.hid (HFIN.out heq)
      rw [show (((0 : Nat) : Int) - 1) = -1 from rfl]
      have HBE := Lib.hid hbe
      clear heq ha hb hbe
      go_wp2_with fail
      go_ret
      exact ⟨by rw [HF.out]; rfl, HBE.out⟩
    · obtain ⟨i, rfl⟩ : ∃ i, k = i + 1 := ⟨k - 1, by omega⟩
      have hii : (((i + 1 : Nat) : Int) - 1) = (i : Int) := by omega
      rw [hii]
      have hi8 : i < 8 := by omega
      have b0 : (0 : Int) ≤ (i : Int) := by omega
      have b1 : (i : Int) < 8 := by omega
      have hs := HCS.out i heq
      have hl := HCL.out i heq
      have hca := ha.cell (Nw_get A hi8)
      have hcb := hb.cell (Nw_get B hi8)
      have lx := dw_lt A i
      have ly := dw_lt B i
      generalize dw A i = x at *
      generalize dw B i = y at *
      have HA := Lib.hid ha
      have HB := Lib.hid hb
      have HBE := Lib.hid hbe
      by_cases hxy : x = y
      · subst hxy
        have HS := Lib.hid (hs rfl)
        clear hs hl heq hii ha hb hbe
        go_wp2_with fail
        go_region
        go_wp2_with fail
        go_roundw
        case rel => exact ⟨i, by omega, rfl, HS.out, HA.out, HB.out, HBE.out.drew⟩
        case measure => simp [intOf] <;> omega
      · have hne : ((x : Int) != (y : Int)) = true := by rw [bne_iff_ne]; omega
        have hlt := hl hxy
        have hli : decide ((x : Int) < (y : Int)) = decide (A < B) := by rw [← hlt]; congr 1; exact propext (by omega)
        have HLI := Lib.hid hli
        have HLN := Lib.hid hlt
        clear hs hl heq hii hlt hli hxy ha hb hbe
        go_wp2_with fail
        go_region
        go_wp2_with fail
        go_region
        go_wp2_with fail
        go_ret
        exact ⟨by first | (rw [← HLN.out]; rfl) | (rw [← HLI.out]; rfl), HBE.out.drew.drew⟩

set_option maxHeartbeats 800000 in
theorem oddr_ref (N : Nat) (w : World) : Calls Tryd.prog 19 #[.agg (Nw N).toArray] w fun e w' => e = .returned (.bool (decide (N % 2 = 1))) ∧ Below w.heap.size w w' := by
  have hc := (Row.new w (Nw N) 30).cell (Nw_get N (k := 0) (by decide))
  have lx := dw_lt N 0
  have e0 : dw N 0 % 2 = N % 2 := by unfold dw; rw [Nat.pow_zero, Nat.div_one]; omega
  have hres : ((((dw N 0 : Nat) : Int) % 2) == 1) = decide (N % 2 = 1) := by
    rw [Bool.eq_iff_iff, beq_iff_eq, decide_eq_true_iff]
    omega
  generalize dw N 0 = x at *
  have HRES := Lib.hid hres
  clear hres e0
  go_enter Tryd.func19, Tryd.ntmps19
  go_wp2_with fail
  go_ret
  exact ⟨by rw [← HRES.out]; rfl, (Below.refl _ _).alloc (Nat.le_refl _) _⟩

end Go.Proofs.YthpbipebpaeagaaDoor
