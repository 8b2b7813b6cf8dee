/- Words of 32 bits: how many bits they have, and the turns of the document; for any word. -/
import Derived.WalkKit
import Derived.WalkSpells
import Derived.Lib.Hide
import Derived.Laws.BitsAllLaws
import Derived.Deep.QuietTactic
import Derived.BigQuiet
import Derived.Test.YtcdfbcpcgkcojaaDoorRows
import Derived.Test.YtcdfbcpcgkcojaaDoorSha
namespace Go.Proofs.YtcdfbcpcgkcojaaDoor
open Go.RowKit
set_option maxRecDepth 100000

set_option maxHeartbeats 400000 in
theorem len32 (w : World) : Calls Tryd.prog 55 #[.int .u64 4294967295] w fun e w' => e = .returned (.int .i64 32) ∧ w' = w := by
  go_enter Tryd.func55, Tryd.ntmps55
  go_wp2_with fail
  go_ret
  exact ⟨by kernel_rfl, rfl⟩

set_option maxHeartbeats 400000 in
theorem width32 (w : World) : Calls Tryd.prog 46 #[] w fun e w' => e = .returned (.int .i64 32) ∧ w' = w := by
  go_enter Tryd.func46, Tryd.ntmps46
  go_wp2_with fail
  rw [show IntKind.u64.wrap (bits BinOp.xor IntKind.u32 IntKind.u32.max 0) = 4294967295 by decide +kernel]
  refine (len32 _).mono ?_
  rintro e w1 ⟨rfl, rfl⟩
  go_wp2_with fail
  go_ret
  exact ⟨rfl, rfl⟩

set_option maxHeartbeats 400000 in
theorem bytes32 (w : World) : Calls Tryd.prog 44 #[] w fun e w' => e = .returned (.int .i64 4) ∧ w' = w := by
  go_enter Tryd.func44, Tryd.ntmps44
  go_wp2_with fail
  refine (width32 _).mono ?_
  rintro e w1 ⟨rfl, rfl⟩
  go_wp2_with fail
  go_ret
  exact ⟨rfl, rfl⟩

set_option maxHeartbeats 400000 in
theorem rounds32 (w : World) : Calls Tryd.prog 61 #[] w fun e w' => e = .returned (.int .i64 64) ∧ w' = w := by
  go_enter Tryd.func61, Tryd.ntmps61
  go_wp2_with fail
  refine (width32 _).mono ?_
  rintro e w1 ⟨rfl, rfl⟩
  go_wp2_with fail
  go_ret
  exact ⟨rfl, rfl⟩

set_option maxHeartbeats 400000 in
theorem turn32 (x n : Nat) (w : World) (hx : x < 4294967296) (hn : n < 32) (h0 : 0 < n) :
    Calls Tryd.prog 74 #[.int .u32 x, .int .i64 n] w fun e w' => e = .returned (.int .u32 (rot 32 x n)) ∧ ∃ q, w' = w.drewN q := by
  have hr := rot32 x n hx
  have HR := Lib.hid hr
  have hc := fun W => width32 W
  have s1 : IntKind.i64.wrap ((32 : Int) - n) = (32 : Int) - n := IntWalk.i64_in _ (by omega)
  have s2 : (0 : Int) ≤ (32 : Int) - n := by omega
  have s3 : ((32 : Int) - n).toNat = 32 - n := by omega
  have s4 : (0 : Int) ≤ n := by omega
  have HC := Lib.hid hc
  clear hr hc
  go_enter Tryd.func74, Tryd.ntmps74
  go_wp2_with fail
  go_quiet ((go_at_call 46; exact Calls.quiet_of_same (HC.out _)))
  go_wp2_with fail
  go_ret
  exact ⟨by rw [← HR.out]; rfl, _, rfl⟩

/-- Three turns. -/
theorem bigs32 (x a b c : Nat) (hx : x < 4294967296) : bits .xor .u32 (bits .xor .u32 ((rot 32 x a : Nat) : Int) ((rot 32 x b : Nat) : Int)) ((rot 32 x c : Nat) : Int) = ((big3 32 x a b c : Nat) : Int) := by
  have h : ∀ n, rot 32 x n < 4294967296 := fun n => rot_lt (b := 32) hx
  rw [u32_xor_nat _ _ (h a) (h b), u32_xor_nat _ _ (Nat.xor_lt_two_pow (n := 32) (h a) (h b)) (h c)]
  rfl
theorem smalls32 (x a b c : Nat) (hx : x < 4294967296) : bits .xor .u32 (bits .xor .u32 ((rot 32 x a : Nat) : Int) ((rot 32 x b : Nat) : Int)) ((x : Int) / 2 ^ c) = ((sml3 32 x a b c : Nat) : Int) := by
  have h : ∀ n, rot 32 x n < 4294967296 := fun n => rot_lt (b := 32) hx
  have h1 : (x : Int) / 2 ^ c = ((x / 2 ^ c : Nat) : Int) := by push_cast; rfl
  rw [h1, u32_xor_nat _ _ (h a) (h b), u32_xor_nat _ _ (Nat.xor_lt_two_pow (n := 32) (h a) (h b)) (Nat.lt_of_le_of_lt (Nat.div_le_self _ _) hx)]
  rfl

set_option maxHeartbeats 400000 in
theorem large032 (x : Nat) (w : World) (hx : x < 4294967296) : Calls Tryd.prog 63 #[.int .u32 x] w fun e w' => e = .returned (.int .u32 (big3 32 x 2 13 22 : Nat)) ∧ ∃ q, w' = w.drewN q := by
  have hb := bigs32 x 2 13 22 hx
  have HB := Lib.hid hb
  clear hb
  go_enter Tryd.func63, Tryd.ntmps63
  go_wp2_with fail
  refine (width32 _).mono ?_
  rintro e w1 ⟨rfl, rfl⟩
  go_wp2_with fail
  refine (turn32 x 2 _ hx (by omega) (by omega)).mono ?_
  rintro e w2 ⟨rfl, q2, rfl⟩
  go_wp2_with fail
  refine (turn32 x 13 _ hx (by omega) (by omega)).mono ?_
  rintro e w3 ⟨rfl, q3, rfl⟩
  go_wp2_with fail
  refine (turn32 x 22 _ hx (by omega) (by omega)).mono ?_
  rintro e w4 ⟨rfl, q4, rfl⟩
  go_wp2_with fail
  go_ret
  exact ⟨by rw [← HB.out]; rfl, _, rfl⟩

set_option maxHeartbeats 400000 in
theorem large132 (x : Nat) (w : World) (hx : x < 4294967296) : Calls Tryd.prog 62 #[.int .u32 x] w fun e w' => e = .returned (.int .u32 (big3 32 x 6 11 25 : Nat)) ∧ ∃ q, w' = w.drewN q := by
  have hb := bigs32 x 6 11 25 hx
  have HB := Lib.hid hb
  clear hb
  go_enter Tryd.func62, Tryd.ntmps62
  go_wp2_with fail
  refine (width32 _).mono ?_
  rintro e w1 ⟨rfl, rfl⟩
  go_wp2_with fail
  refine (turn32 x 6 _ hx (by omega) (by omega)).mono ?_
  rintro e w2 ⟨rfl, q2, rfl⟩
  go_wp2_with fail
  refine (turn32 x 11 _ hx (by omega) (by omega)).mono ?_
  rintro e w3 ⟨rfl, q3, rfl⟩
  go_wp2_with fail
  refine (turn32 x 25 _ hx (by omega) (by omega)).mono ?_
  rintro e w4 ⟨rfl, q4, rfl⟩
  go_wp2_with fail
  go_ret
  exact ⟨by rw [← HB.out]; rfl, _, rfl⟩

set_option maxHeartbeats 400000 in
theorem small032 (x : Nat) (w : World) (hx : x < 4294967296) : Calls Tryd.prog 73 #[.int .u32 x] w fun e w' => e = .returned (.int .u32 (sml3 32 x 7 18 3 : Nat)) ∧ ∃ q, w' = w.drewN q := by
  have hb := smalls32 x 7 18 3 hx
  have hp : (2 : Int) ^ 3 = 8 := by decide
  rw [hp] at hb
  have HB := Lib.hid hb
  clear hb hp
  go_enter Tryd.func73, Tryd.ntmps73
  go_wp2_with fail
  refine (width32 _).mono ?_
  rintro e w1 ⟨rfl, rfl⟩
  go_wp2_with fail
  refine (turn32 x 7 _ hx (by omega) (by omega)).mono ?_
  rintro e w2 ⟨rfl, q2, rfl⟩
  go_wp2_with fail
  refine (turn32 x 18 _ hx (by omega) (by omega)).mono ?_
  rintro e w3 ⟨rfl, q3, rfl⟩
  go_wp2_with fail
  go_ret
  exact ⟨by rw [← HB.out]; rfl, _, rfl⟩

set_option maxHeartbeats 400000 in
theorem small132 (x : Nat) (w : World) (hx : x < 4294967296) : Calls Tryd.prog 72 #[.int .u32 x] w fun e w' => e = .returned (.int .u32 (sml3 32 x 17 19 10 : Nat)) ∧ ∃ q, w' = w.drewN q := by
  have hb := smalls32 x 17 19 10 hx
  have hp : (2 : Int) ^ 10 = 1024 := by decide
  rw [hp] at hb
  have HB := Lib.hid hb
  clear hb hp
  go_enter Tryd.func72, Tryd.ntmps72
  go_wp2_with fail
  refine (width32 _).mono ?_
  rintro e w1 ⟨rfl, rfl⟩
  go_wp2_with fail
  refine (turn32 x 17 _ hx (by omega) (by omega)).mono ?_
  rintro e w2 ⟨rfl, q2, rfl⟩
  go_wp2_with fail
  refine (turn32 x 19 _ hx (by omega) (by omega)).mono ?_
  rintro e w3 ⟨rfl, q3, rfl⟩
  go_wp2_with fail
  go_ret
  exact ⟨by rw [← HB.out]; rfl, _, rfl⟩

end Go.Proofs.YtcdfbcpcgkcojaaDoor
