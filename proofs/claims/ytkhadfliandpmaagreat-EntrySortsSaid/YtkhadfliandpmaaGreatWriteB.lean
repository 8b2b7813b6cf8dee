/- What a writer leaves behind a byte, and behind bytes after their number; for rows of up to 2^47 bytes. -/
import Derived.Test.YtkhadfliandpmaaGreatWrite
namespace Go.Proofs.YtkhadfliandpmaaGreat
open Go.RowKit

/-- A bool's byte. -/
def bb (b : Bool) : UInt8 := if b then 1 else 0

set_option maxHeartbeats 400000 in
theorem bool_any (a : Addr) (v : Value) (l : List UInt8) (b : Bool) (w : World) (hw : Wr w a v l) (hlen : l.length + 10 ≤ 140737488355328) :
    Calls Tryz.prog 105 #[.pointer (some a), .bool b] w fun e w' => e = .returned (.tuple #[]) ∧ ∃ v', Wrote w w' a v v' (l ++ [bb b]) := by
  cases b
  all_goals
    go_enter Tryz.func105, Tryz.ntmps105
    go_wp2_with fail
  · refine (raw_any a v l _ 1 1 [0] _ _ (hw.alloc _) (Rd.lit _ _ _ _ rfl 1 rfl) (by omega)).mono ?_
    rintro e w2 ⟨rfl, v2, hw2⟩
    go_wp2_with fail
    go_end0
    exact ⟨rfl, v2, hw2.after ((Below.refl _ _).alloc (Nat.le_refl _) _)⟩
  · refine (raw_any a v l _ 1 1 [1] _ _ (hw.alloc _) (Rd.lit _ _ _ _ rfl 1 rfl) (by omega)).mono ?_
    rintro e w2 ⟨rfl, v2, hw2⟩
    go_wp2_with fail
    go_end0
    exact ⟨rfl, v2, hw2.after ((Below.refl _ _).alloc (Nat.le_refl _) _)⟩

set_option maxHeartbeats 400000 in
theorem byte_any (a : Addr) (v : Value) (l : List UInt8) (c : UInt8) (w : World) (hw : Wr w a v l) (hlen : l.length + 10 ≤ 140737488355328) :
    Calls Tryz.prog 20 #[.pointer (some a), .int .u8 c.toNat] w fun e w' => e = .returned (.tuple #[]) ∧ ∃ v', Wrote w w' a v v' (l ++ [c]) := by
  go_enter Tryz.func20, Tryz.ntmps20
  go_wp2_with fail
  refine (raw_any a v l _ 1 1 [c] _ _ (hw.alloc _) (Rd.lit _ _ _ _ rfl 1 rfl) (by omega)).mono ?_
  rintro e w2 ⟨rfl, v2, hw2⟩
  go_wp2_with fail
  go_end0
  exact ⟨rfl, v2, hw2.after ((Below.refl _ _).alloc (Nat.le_refl _) _)⟩

set_option maxHeartbeats 400000 in
theorem putbytes_any (a : Addr) (v : Value) (l : List UInt8) (A : Option Addr) (n c : Nat) (k : List UInt8) (F : Nat → Prop) (w : World) (hw : Wr w a v l) (hr : Rd w F A n (Bs k))
    (hF : ∀ j, F j → j ≠ a.block ∧ v.ownBlock ≠ some j) (hlen : l.length + n + 10 ≤ 140737488355328) :
    Calls Tryz.prog 92 #[.pointer (some a), .slice A n c] w fun e w' => e = .returned (.tuple #[]) ∧ ∃ v', Wrote w w' a v v' (l ++ (enc k.length ++ k)) := by
  have HR := Lib.hid hr
  have hn : n < 18446744073709551616 := by omega
  have HK := Lib.hid hr.len
  have hel := enc_length_le hn
  clear hr
  go_enter Tryz.func92, Tryz.ntmps92
  go_wp2_with fail
  refine (number_any a v l n _ hw hn (by omega)).mono ?_
  rintro e w2 ⟨rfl, v2, hw2⟩
  go_wp2_with fail
  refine (raw_any a v2 (l ++ enc n) A n c k F _ hw2.wr (HR.out.only hw2.only fun j hj hs => ?_) (by simp; omega)).mono ?_
  · rcases hs with hs | hs
    · exact (hF j hj).1 hs
    · exact (hF j hj).2 hs
  rintro e w3 ⟨rfl, v3, hw3⟩
  go_wp2_with fail
  go_end0
  refine ⟨rfl, v3, ?_⟩
  rw [HK.out, ← List.append_assoc]
  exact hw2.trans hw3

end Go.Proofs.YtkhadfliandpmaaGreat
