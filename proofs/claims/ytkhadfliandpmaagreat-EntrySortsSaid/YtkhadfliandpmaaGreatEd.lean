/- entry.Less, entry.Seed. -/
import Derived.Test.YtkhadfliandpmaaGreatEc
import Derived.Laws.Bits64b
namespace Go.Proofs.YtkhadfliandpmaaGreat
set_option maxRecDepth 100000
set_option linter.unusedSimpArgs false
set_option linter.unusedVariables false
open Go.RowKit

theorem Hs.cf_lt (a b : Hs) : decide (Hs.cf a b < 0) = decide (a.n < b.n) := by
  unfold Hs.cf Lib.compareInt
  by_cases h1 : a.n < b.n
  · rw [if_pos (by omega)]; simp [h1]
  · rw [if_neg (by omega)]
    by_cases h2 : b.n < a.n
    · rw [if_pos (by omega)]; simp [h1]
    · rw [if_neg (by omega)]; simp [h1]
theorem hs_info (a : Hs) : (Tryz.prog.info? 26).map (·.size) = some a.c.toArray.size := by
  rw [List.size_toArray, a.c_len]; kernel_rfl
theorem below_growE (W : World) (q : Nat) (os : Array Obj) : Below W.heap.size W (Sort.grow (W.drewN q) os) := by
  refine ⟨rfl, rfl, rfl, ?_, fun g hg => ?_⟩
  · show W.heap.size ≤ (W.heap ++ os).size
    rw [Array.size_append]; omega
  · show (W.heap ++ os)[g]? = W.heap[g]?
    rw [Array.getElem?_append_left hg]
set_option maxHeartbeats 1600000 in
theorem eless_any (a b : Hs) (W : World) :
    Calls Tryz.prog 7 #[.agg a.c.toArray, .agg b.c.toArray] W fun e w' => e = .returned (.bool (decide (a.n < b.n))) ∧ Below W.heap.size W w' := by
  have R1 := Lib.hid ((Row.new W a.c 26).belowAll (below_newE _ (.cells b.c.toArray 26)))
  have R2 := Lib.hid (row_new1E W (.cells a.c.toArray 26) b.c 26)
  have HB := Lib.hid ((below_newE W (.cells a.c.toArray 26)).alloc (by simp) (.cells b.c.toArray 26))
  have HC := Lib.hid (compare_any a b)
  have HI1 := Lib.hid (hs_info a)
  have HI2 := Lib.hid (hs_info b)
  have HCF := Lib.hid (Hs.cf_lt a b)
  generalize Hs.cf a b = r at *
  generalize hx : a.c.toArray = x at *
  generalize hy : b.c.toArray = y at *
  have R1' := Lib.hid (show ((W.alloc (.cells x 26)).alloc (.cells y 26)).heap[W.heap.size]? = some (.cells x 26 (0, 0)) from hx ▸ R1.out)
  have R2' := Lib.hid (show ((W.alloc (.cells x 26)).alloc (.cells y 26)).heap[W.heap.size + 1]? = some (.cells y 26 (0, 0)) from hy ▸ R2.out)
  go_enter Tryz.func7, Tryz.ntmps7
  go_wp2_with (first | (refine wpList_load_row rfl 26 (.tmp 2) rfl W.heap.size rfl 26 _ (0, 0) _ R1'.out Tryz.underlying26 rfl HI1.out ?_) | (refine wpList_load_row rfl 26 (.tmp 3) rfl (W.heap.size + 1) rfl 26 _ (0, 0) _ R2'.out Tryz.underlying26 rfl HI2.out ?_))
  refine (HC.out _).mono ?_
  rintro e w' ⟨rfl, q, os, rfl⟩
  go_wp2_with fail
  go_ret
  exact ⟨congrArg (fun b => Ending.returned (.bool b)) HCF.out, HB.out.trans ((below_growE _ _ _).mono HB.out.size)⟩
theorem or_digitE {N u : Nat} (hN : N < 72057594037927936) (hu : u < 256) : bits .or .u64 ((N : Int) * 256) (u : Int) = ((N * 256 + u : Nat) : Int) := by
  have h1 : ((N : Int) * 256) = ((N * 256 : Nat) : Int) := by omega
  rw [h1, bits_or_u64_nat _ _ (by omega) (by omega)]
  have h2 := Nat.two_pow_add_eq_or_of_lt (i := 8) (b := u) (by omega) N
  rw [Nat.mul_comm N 256]
  congr 1
  exact h2.symm
theorem num_takeE {l : List UInt8} {i : Nat} (h : i < l.length) : num (l.take (i + 1)) = num (l.take i) * 256 + (l.getD i 0).toNat := by
  induction i generalizing l with
  | zero =>
    cases l with
    | nil => simp at h
    | cons a l => simp [num]
  | succ i ih =>
    cases l with
    | nil => simp at h
    | cons a l =>
      have hl : i < l.length := by simpa using h
      have h1 := ih hl
      rw [List.take_succ_cons, List.take_succ_cons, num, num, h1, List.getD_cons_succ]
      rw [List.length_take, List.length_take, Nat.min_eq_left (by omega), Nat.min_eq_left (by omega), Nat.pow_succ, Nat.add_mul]
      rw [Nat.mul_assoc]
      omega
set_option maxHeartbeats 1600000 in
theorem seed_any (a : Hs) (W : World) :
    Calls Tryz.prog 6 #[.agg a.c.toArray] W fun e w' => e = .returned (.int .u64 (num (a.1.take 8) : Int)) ∧ Below W.heap.size W w' := by
  have R1 := Lib.hid (Row.new W a.c 26)
  have HB := Lib.hid (below_newE W (.cells a.c.toArray 26))
  generalize hx : a.c.toArray = x at *
  go_enter Tryz.func6, Tryz.ntmps6
  go_wp2_with fail
  generalize (W.alloc (.cells x 26)) = W0 at *
  go_loopw [3, 5, 8] (fun n _ v wr => ∃ i : Nat, i ≤ 8 ∧ v = .int .i64 (i : Int) ∧ n = .int .u64 (num (a.1.take i) : Int) ∧ Row wr W.heap.size 26 a.c ∧ Below W.heap.size W wr) (fun _ _ v _ => 8 - (intOf v).toNat)
  case atStart => exact ⟨0, by omega, rfl, by simp [num], R1.out, HB.out⟩
  case round =>
    obtain ⟨i, hi, rfl, rfl, hr1, hb⟩ := hrel
    by_cases h8 : i < 8
    · have hi1 : (i : Int) < 8 := by omega
      have hi0 : (0 : Int) ≤ (i : Int) := by omega
      have c1 := Hs.cell hr1 (show i < 32 by omega)
      have hnt := num_takeE (l := a.1) (i := i) (by rw [a.2]; omega)
      have hlt : num (a.1.take i) < 72057594037927936 := by
        have h1 := num_lt (a.1.take i)
        have h2 : (a.1.take i).length ≤ 7 := by rw [List.length_take]; omega
        have h3 : 256 ^ (a.1.take i).length ≤ 256 ^ 7 := Nat.pow_le_pow_right (by omega) h2
        omega
      have hu : (a.1.getD i 0).toNat < 256 := (a.1.getD i 0).toNat_lt
      have hw : IntKind.i64.wrap ((i : Int) + 1) = ((i + 1 : Nat) : Int) := by rw [IntKind.wrap_i64]; omega
      generalize (a.1.getD i 0).toNat = u at *
      generalize num (a.1.take i) = N at *
      have HR1 := Lib.hid hr1
      have HBB := Lib.hid hb
      have HNT := Lib.hid hnt
      clear hr1 hb hnt
      have HO := Lib.hid (or_digitE hlt hu)
      go_wp2_with fail
      refine ⟨⟨i + 1, by omega, by go_num, ?_, HR1.out, HBB.out⟩, by simp [intOf] <;> omega⟩
      rw [HNT.out, HO.out]
    · obtain rfl : i = 8 := by omega
      have HBB := Lib.hid hb
      clear hr1 hb
      go_wp2_with fail
      go_ret
      exact ⟨rfl, HBB.out⟩

end Go.Proofs.YtkhadfliandpmaaGreat
