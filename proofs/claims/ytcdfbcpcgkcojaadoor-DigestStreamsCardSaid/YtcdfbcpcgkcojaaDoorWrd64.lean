/- Words of 64 bits: how many bits they have, and the turns of the document; for any word. -/
import Derived.WalkKit
import Derived.WalkSpells
import Derived.Lib.Hide
import Derived.Laws.BitsAllLaws
import Derived.Deep.QuietTactic
import Derived.BigQuiet
import Derived.Test.YtcdfbcpcgkcojaaDoorRows
import Derived.Test.YtcdfbcpcgkcojaaDoorSha
namespace Go.Proofs.YtcdfbcpcgkcojaaDoor
open Go.RowKit
set_option maxRecDepth 100000

set_option maxHeartbeats 400000 in
theorem len64 (w : World) : Calls Tryd.prog 55 #[.int .u64 18446744073709551615] w fun e w' => e = .returned (.int .i64 64) ∧ w' = w := by
  go_enter Tryd.func55, Tryd.ntmps55
  go_wp2_with fail
  go_ret
  exact ⟨by kernel_rfl, rfl⟩

set_option maxHeartbeats 400000 in
theorem width64 (w : World) : Calls Tryd.prog 40 #[] w fun e w' => e = .returned (.int .i64 64) ∧ w' = w := by
  go_enter Tryd.func40, Tryd.ntmps40
  go_wp2_with fail
  rw [show bits BinOp.xor IntKind.u64 IntKind.u64.max 0 = 18446744073709551615 by decide +kernel]
  refine (len64 _).mono ?_
  rintro e w1 ⟨rfl, rfl⟩
  go_wp2_with fail
  go_ret
  exact ⟨rfl, rfl⟩

set_option maxHeartbeats 400000 in
theorem bytes64 (w : World) : Calls Tryd.prog 38 #[] w fun e w' => e = .returned (.int .i64 8) ∧ w' = w := by
  go_enter Tryd.func38, Tryd.ntmps38
  go_wp2_with fail
  refine (width64 _).mono ?_
  rintro e w1 ⟨rfl, rfl⟩
  go_wp2_with fail
  go_ret
  exact ⟨rfl, rfl⟩

set_option maxHeartbeats 400000 in
theorem rounds64 (w : World) : Calls Tryd.prog 57 #[] w fun e w' => e = .returned (.int .i64 80) ∧ w' = w := by
  go_enter Tryd.func57, Tryd.ntmps57
  go_wp2_with fail
  refine (width64 _).mono ?_
  rintro e w1 ⟨rfl, rfl⟩
  go_wp2_with fail
  go_ret
  exact ⟨rfl, rfl⟩

set_option maxHeartbeats 400000 in
theorem turn64 (x n : Nat) (w : World) (hx : x < 18446744073709551616) (hn : n < 64) (h0 : 0 < n) :
    Calls Tryd.prog 71 #[.int .u64 x, .int .i64 n] w fun e w' => e = .returned (.int .u64 (rot 64 x n)) ∧ ∃ q, w' = w.drewN q := by
  have hr := rot64 x n hx
  have HR := Lib.hid hr
  have hc := fun W => width64 W
  have s1 : IntKind.i64.wrap ((64 : Int) - n) = (64 : Int) - n := IntWalk.i64_in _ (by omega)
  have s2 : (0 : Int) ≤ (64 : Int) - n := by omega
  have s3 : ((64 : Int) - n).toNat = 64 - n := by omega
  have s4 : (0 : Int) ≤ n := by omega
  have HC := Lib.hid hc
  clear hr hc
  go_enter Tryd.func71, Tryd.ntmps71
  go_wp2_with fail
  go_quiet ((go_at_call 40; exact Calls.quiet_of_same (HC.out _)))
  go_wp2_with fail
  go_ret
  exact ⟨by rw [← HR.out]; rfl, _, rfl⟩

/-- Three turns. -/
theorem bigs64 (x a b c : Nat) (hx : x < 18446744073709551616) : bits .xor .u64 (bits .xor .u64 ((rot 64 x a : Nat) : Int) ((rot 64 x b : Nat) : Int)) ((rot 64 x c : Nat) : Int) = ((big3 64 x a b c : Nat) : Int) := by
  have h : ∀ n, rot 64 x n < 18446744073709551616 := fun n => rot_lt (b := 64) hx
  rw [u64_xor_nat _ _ (h a) (h b), u64_xor_nat _ _ (Nat.xor_lt_two_pow (n := 64) (h a) (h b)) (h c)]
  rfl
theorem smalls64 (x a b c : Nat) (hx : x < 18446744073709551616) : bits .xor .u64 (bits .xor .u64 ((rot 64 x a : Nat) : Int) ((rot 64 x b : Nat) : Int)) ((x : Int) / 2 ^ c) = ((sml3 64 x a b c : Nat) : Int) := by
  have h : ∀ n, rot 64 x n < 18446744073709551616 := fun n => rot_lt (b := 64) hx
  have h1 : (x : Int) / 2 ^ c = ((x / 2 ^ c : Nat) : Int) := by push_cast; rfl
  rw [h1, u64_xor_nat _ _ (h a) (h b), u64_xor_nat _ _ (Nat.xor_lt_two_pow (n := 64) (h a) (h b)) (Nat.lt_of_le_of_lt (Nat.div_le_self _ _) hx)]
  rfl

set_option maxHeartbeats 400000 in
theorem large064 (x : Nat) (w : World) (hx : x < 18446744073709551616) : Calls Tryd.prog 59 #[.int .u64 x] w fun e w' => e = .returned (.int .u64 (big3 64 x 28 34 39 : Nat)) ∧ ∃ q, w' = w.drewN q := by
  have hb := bigs64 x 28 34 39 hx
  have HB := Lib.hid hb
  clear hb
  go_enter Tryd.func59, Tryd.ntmps59
  go_wp2_with fail
  refine (width64 _).mono ?_
  rintro e w1 ⟨rfl, rfl⟩
  go_wp2_with fail
  refine (turn64 x 28 _ hx (by omega) (by omega)).mono ?_
  rintro e w2 ⟨rfl, q2, rfl⟩
  go_wp2_with fail
  refine (turn64 x 34 _ hx (by omega) (by omega)).mono ?_
  rintro e w3 ⟨rfl, q3, rfl⟩
  go_wp2_with fail
  refine (turn64 x 39 _ hx (by omega) (by omega)).mono ?_
  rintro e w4 ⟨rfl, q4, rfl⟩
  go_wp2_with fail
  go_ret
  exact ⟨by rw [← HB.out]; rfl, _, rfl⟩

set_option maxHeartbeats 400000 in
theorem large164 (x : Nat) (w : World) (hx : x < 18446744073709551616) : Calls Tryd.prog 58 #[.int .u64 x] w fun e w' => e = .returned (.int .u64 (big3 64 x 14 18 41 : Nat)) ∧ ∃ q, w' = w.drewN q := by
  have hb := bigs64 x 14 18 41 hx
  have HB := Lib.hid hb
  clear hb
  go_enter Tryd.func58, Tryd.ntmps58
  go_wp2_with fail
  refine (width64 _).mono ?_
  rintro e w1 ⟨rfl, rfl⟩
  go_wp2_with fail
  refine (turn64 x 14 _ hx (by omega) (by omega)).mono ?_
  rintro e w2 ⟨rfl, q2, rfl⟩
  go_wp2_with fail
  refine (turn64 x 18 _ hx (by omega) (by omega)).mono ?_
  rintro e w3 ⟨rfl, q3, rfl⟩
  go_wp2_with fail
  refine (turn64 x 41 _ hx (by omega) (by omega)).mono ?_
  rintro e w4 ⟨rfl, q4, rfl⟩
  go_wp2_with fail
  go_ret
  exact ⟨by rw [← HB.out]; rfl, _, rfl⟩

set_option maxHeartbeats 400000 in
theorem small064 (x : Nat) (w : World) (hx : x < 18446744073709551616) : Calls Tryd.prog 70 #[.int .u64 x] w fun e w' => e = .returned (.int .u64 (sml3 64 x 1 8 7 : Nat)) ∧ ∃ q, w' = w.drewN q := by
  have hb := smalls64 x 1 8 7 hx
  have hp : (2 : Int) ^ 7 = 128 := by decide
  rw [hp] at hb
  have HB := Lib.hid hb
  clear hb hp
  go_enter Tryd.func70, Tryd.ntmps70
  go_wp2_with fail
  refine (width64 _).mono ?_
  rintro e w1 ⟨rfl, rfl⟩
  go_wp2_with fail
  refine (turn64 x 1 _ hx (by omega) (by omega)).mono ?_
  rintro e w2 ⟨rfl, q2, rfl⟩
  go_wp2_with fail
  refine (turn64 x 8 _ hx (by omega) (by omega)).mono ?_
  rintro e w3 ⟨rfl, q3, rfl⟩
  go_wp2_with fail
  go_ret
  exact ⟨by rw [← HB.out]; rfl, _, rfl⟩

set_option maxHeartbeats 400000 in
theorem small164 (x : Nat) (w : World) (hx : x < 18446744073709551616) : Calls Tryd.prog 69 #[.int .u64 x] w fun e w' => e = .returned (.int .u64 (sml3 64 x 19 61 6 : Nat)) ∧ ∃ q, w' = w.drewN q := by
  have hb := smalls64 x 19 61 6 hx
  have hp : (2 : Int) ^ 6 = 64 := by decide
  rw [hp] at hb
  have HB := Lib.hid hb
  clear hb hp
  go_enter Tryd.func69, Tryd.ntmps69
  go_wp2_with fail
  refine (width64 _).mono ?_
  rintro e w1 ⟨rfl, rfl⟩
  go_wp2_with fail
  refine (turn64 x 19 _ hx (by omega) (by omega)).mono ?_
  rintro e w2 ⟨rfl, q2, rfl⟩
  go_wp2_with fail
  refine (turn64 x 61 _ hx (by omega) (by omega)).mono ?_
  rintro e w3 ⟨rfl, q3, rfl⟩
  go_wp2_with fail
  go_ret
  exact ⟨by rw [← HB.out]; rfl, _, rfl⟩

end Go.Proofs.YtcdfbcpcgkcojaaDoor
