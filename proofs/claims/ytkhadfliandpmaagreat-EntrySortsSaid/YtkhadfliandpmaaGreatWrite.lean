/- What each call of a writer leaves: the bytes of the field behind what was written; for rows of up to 2^47 bytes. -/
import Derived.Test.YtkhadfliandpmaaGreatPack
import Derived.Test.YtkhadfliandpmaaGreatNum
namespace Go.Proofs.YtkhadfliandpmaaGreat
open Go.RowKit

theorem or128 : ∀ x, x < 256 → x ||| 128 = x % 128 + 128 := by decide +kernel
theorem or_goes (m : Nat) : bits .or .u8 ((m : Int) % 256) 128 = (((UInt8.ofNat (m % 128 + 128)).toNat : Nat) : Int) := by
  have h1 : (m : Int) % 256 = ((m % 256 : Nat) : Int) := by omega
  rw [h1]
  have h2 := u8_or_nat (m % 256) 128 (by omega) (by omega)
  rw [show ((128 : Nat) : Int) = 128 from rfl] at h2
  rw [h2, or128 _ (by omega), toNat_low (by omega)]
  congr 2
  omega
theorem low_last {m : Nat} (h : m < 128) : [Value.int .u8 (m : Int)] = Bs [UInt8.ofNat m] := by simp only [Bs, List.map_cons, List.map_nil]; rw [toNat_low (by omega)]

theorem big_goes (m : Nat) : [Value.int .u8 (bits .or .u8 ((m : Int) % 256) 128)] = Bs [UInt8.ofNat (m % 128 + 128)] := by rw [or_goes]; rfl

set_option maxHeartbeats 400000 in
theorem number_any (a : Addr) (v : Value) (l : List UInt8) (n : Nat) (w : World) (hw : Wr w a v l) (hn : n < 18446744073709551616) (hlen : l.length + 10 ≤ 140737488355328) :
    Calls Tryz.prog 22 #[.pointer (some a), .int .u64 n] w fun e w' => e = .returned (.tuple #[]) ∧ ∃ v', Wrote w w' a v v' (l ++ enc n) := by
  have hel := enc_length_le hn
  go_enter Tryz.func22, Tryz.ntmps22
  go_wp2_with fail
  go_loopw [1] (fun i wr => ∃ (m : Nat) (p : List UInt8) (v' : Value), i = .int .u64 m ∧ m < 18446744073709551616 ∧ enc n = p ++ enc m ∧ Wrote w wr a v v' (l ++ p)) (fun i _ => (intOf i).toNat)
  case atStart => exact ⟨n, [], v, rfl, hn, rfl, by rw [List.append_nil]; exact .refl hw⟩
  case round =>
    obtain ⟨m, p, v1, rfl, hm, he, hw1⟩ := hrel
    have hpl : (l ++ p).length + 1 ≤ 140737488355328 := by
      have := congrArg List.length he
      have h3 := enc_length_pos m
      simp at this ⊢
      omega
    have HE := Lib.hid he
    clear he
    by_cases hc : m < 128
    · have hc' : (m : Int) ≤ 127 := by omega
      go_wp2_with fail
      refine (raw_any a v1 (l ++ p) _ 1 1 [UInt8.ofNat m] _ _ (hw1.wr.alloc _) (Rd.lit _ _ _ _ (by exact low_last hc) 1 rfl) hpl).mono ?_
      rintro e w2 ⟨rfl, v2, hw2⟩
      go_wp2_with fail
      go_end0
      refine ⟨rfl, v2, ?_⟩
      rw [HE.out, enc_small hc, ← List.append_assoc]
      exact hw1.trans (hw2.after ((Below.refl _ _).alloc (Nat.le_refl _) _))
    · have hc' : (127 : Int) < m := by omega
      go_wp2_with fail
      refine (raw_any a v1 (l ++ p) _ 1 1 [UInt8.ofNat (m % 128 + 128)] _ _ (hw1.wr.alloc _) (Rd.lit _ _ _ _ (by exact big_goes m) 1 rfl) hpl).mono ?_
      rintro e w2 ⟨rfl, v2, hw2⟩
      go_wp2_with fail
      go_roundw
      case rel =>
        refine ⟨m / 128, p ++ [UInt8.ofNat (m % 128 + 128)], v2, by go_num, by omega, by rw [HE.out, enc_big hc]; simp, ?_⟩
        rw [← List.append_assoc]
        exact hw1.trans (hw2.after ((Below.refl _ _).alloc (Nat.le_refl _) _))
      case measure => simp [intOf]; omega

/-- The number that stands for a signed one. -/
def zig (n : Int) : Nat := if n < 0 then (-2 * n - 1).toNat else (2 * n).toNat

theorem xor_ones {x : Nat} (h : x < 2 ^ 64) : (2 ^ 64 - 1) ^^^ x = 2 ^ 64 - (x + 1) := by
  apply Nat.eq_of_testBit_eq
  intro i
  rw [Nat.testBit_xor, Nat.testBit_two_pow_sub_one, Nat.testBit_two_pow_sub_succ h]
  by_cases hi : i < 64
  · simp [hi]
  · have : x.testBit i = false := Nat.testBit_lt_two_pow (Nat.lt_of_lt_of_le h (Nat.pow_le_pow_right (by omega) (by omega)))
    simp [hi, this]
theorem not64 {x : Nat} (h : x < 2 ^ 64) : bits .xor .u64 IntKind.u64.max (x : Int) = ((2 ^ 64 - (x + 1) : Nat) : Int) := by
  have h1 : IntKind.u64.max = ((2 ^ 64 - 1 : Nat) : Int) := rfl
  rw [h1, u64_xor_nat (2 ^ 64 - 1) x (by omega) (by omega), xor_ones h]
theorem fold_below {n : Int} (h1 : -9223372036854775808 ≤ n) (h : n < 0) : bits .xor .u64 IntKind.u64.max (IntKind.u64.wrap (IntKind.u64.wrap n * 2)) = zig n := by
  rw [IntKind.wrap_u64, IntKind.wrap_u64]
  have e : (n % 18446744073709551616 * 2 % 18446744073709551616 : Int) = ((2 * n + 18446744073709551616).toNat : Int) := by omega
  rw [e, not64 (by omega)]
  unfold zig
  rw [if_pos h]
  omega

set_option maxHeartbeats 400000 in
theorem fold_any (n : Int) (w : World) (h1 : -9223372036854775808 ≤ n) (h2 : n ≤ 9223372036854775807) :
    Calls Tryz.prog 122 #[.int .i64 n] w fun e w' => e = .returned (.int .u64 (zig n)) ∧ w = w' := by
  by_cases h : n < 0
  · have hz := Lib.hid (fold_below h1 h)
    go_enter Tryz.func122, Tryz.ntmps122
    go_wp2
    go_ret
    exact ⟨by rw [← hz.out]; rfl, rfl⟩
  · have hz : n * 2 = (zig n : Int) := by unfold zig; rw [if_neg h]; omega
    have HZ := Lib.hid hz
    clear hz
    go_enter Tryz.func122, Tryz.ntmps122
    go_wp2
    go_ret
    exact ⟨by rw [← HZ.out]; rfl, rfl⟩

theorem zig_lt {n : Int} (h1 : -9223372036854775808 ≤ n) (h2 : n ≤ 9223372036854775807) : zig n < 18446744073709551616 := by unfold zig; split <;> omega

set_option maxHeartbeats 400000 in
theorem int_any (a : Addr) (v : Value) (l : List UInt8) (n : Int) (w : World) (hw : Wr w a v l) (h1 : -9223372036854775808 ≤ n) (h2 : n ≤ 9223372036854775807) (hlen : l.length + 10 ≤ 140737488355328) :
    Calls Tryz.prog 106 #[.pointer (some a), .int .i64 n] w fun e w' => e = .returned (.tuple #[]) ∧ ∃ v', Wrote w w' a v v' (l ++ enc (zig n)) := by
  go_enter Tryz.func106, Tryz.ntmps106
  go_wp2_with fail
  refine (fold_any n _ h1 h2).mono ?_
  rintro e w2 ⟨rfl, rfl⟩
  go_wp2_with fail
  refine (number_any a v l (zig n) _ hw (zig_lt h1 h2) hlen).mono ?_
  rintro e w2 ⟨rfl, v2, hw2⟩
  go_wp2_with fail
  go_end0
  exact ⟨rfl, v2, hw2⟩

set_option maxHeartbeats 400000 in
/-- slices.Clone at bytes. -/
theorem clone_any (A : Option Addr) (n c : Nat) (k : List UInt8) (F : Nat → Prop) (w : World) (hr : Rd w F A n (Bs k)) (hn : n ≤ 140737488355328) :
    Calls Tryz.prog 40 #[.slice A n c] w fun e w' => ∃ v, e = .returned v ∧ w'.ownsRow w.heap.size 5 1 v k.length (Bs k) ∧ Below w.heap.size w w' := by
  obtain ⟨i0, hi, hz0, hz1, hz2⟩ := info_parts u8_info
  obtain rfl : n = k.length := hr.len.symm
  have qT : ∀ (w : World) (a : Option Addr) (n c n' c' : Nat), (binOp .eql 31 (.slice a n c) (.slice none n' c')).run Tryz.prog w = .ok (.bool a.isNone) w := fun w a n c n' c' => Lib.run_eql_slice_nil w _ _ a n c n' c' Tryz.underlying31
  cases A with
  | none =>
    have hk : k = [] := by
      rcases Nat.eq_zero_or_pos k.length with h | h
      · exact List.eq_nil_of_length_eq_zero h
      · obtain ⟨ad, h, _⟩ := hr.2 h; cases h
    subst hk
    go_enter Tryz.func40, Tryz.ntmps40
    go_wp2
    go_ret
    exact ⟨_, rfl, World.ownsRow_nil _ _ _ _, Below.refl _ _⟩
  | some ad =>
    have HR := Lib.hid hr
    clear hr
    go_enter Tryz.func40, Tryz.ntmps40
    go_wp2_with (at_builtin; refine wpList_append_rd _ rfl (.tmp 5) (.tmp 6) 31 rfl w.heap.size 5 i0 (.int .u8 0) 1 Tryz.underlying31 hi hz0 hz1 hz2 rfl (.slice (some ⟨w.heap.size, 0, none⟩) 0 0) 0 [] rfl (World.ownsRow_made w #[] 0 (Nat.le_refl _) (by unfold maxLen; omega) rfl) F (some ad) k.length c (Bs k) rfl (HR.out.belowAll ((Below.refl _ _).alloc (Nat.le_refl _) _)) (Bs_one k) ?c1 ?c2 ?c3 ?_)
    case c1 => unfold maxLen; omega
    case c2 => omega
    case c3 => simp
    intro v' w' hown hg hat
    go_wp2
    go_ret
    refine ⟨v', rfl, by simpa using hown, ((Below.refl _ _).alloc (Nat.le_refl _) _).grown hg (by simp) (fun j hj => ?_)⟩
    simp [Value.ownBlock] at hj
    omega

end Go.Proofs.YtkhadfliandpmaaGreat
