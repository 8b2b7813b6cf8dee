/- The document's Common: its table of suffixes. -/
import Derived.Test.YtpegkalhjnldkaaDa
import Derived.Test.YtpegkalhjnldkaaRows
import Derived.WalkKit
import Derived.Deep.RegionHeld3
import Derived.Laws.Small
import Derived.Laws.MakeOwn
import Derived.Laws.IdiomCopy
namespace Go.Proofs.Ytpegkalhjnldkaa
set_option maxRecDepth 100000
set_option linter.unusedSimpArgs false
set_option linter.unusedVariables false
open Go.RowKit

/-- An argument's row of integers. -/
def RdU (w : World) (A : Option Addr) (n : Nat) (D : List Int) : Prop :=
  D.length = n ∧ (0 < n → ∃ b o, A = some ⟨b, o, none⟩ ∧ b < w.heap.size ∧ ∀ (i : Nat) (x : Int), D[i]? = some x → w.cell? ⟨b, o + i, none⟩ = some (.int .u64 x))
theorem RdU.below {w w' : World} {A : Option Addr} {n : Nat} {D : List Int} (h : RdU w A n D) (hb : Below w.heap.size w w') : RdU w' A n D :=
  ⟨h.1, fun h0 => by
    obtain ⟨b, o, rfl, hl, hc⟩ := h.2 h0
    exact ⟨b, o, rfl, Nat.lt_of_lt_of_le hl hb.size, fun i x hx => (hb.cell (p := ⟨b, o + i, none⟩) hl).trans (hc i x hx)⟩⟩
theorem ix_u (b o n c k : Nat) (h : k < n) (w : World) : (Instr.indexAt 22 (.slice (some ⟨b, o, none⟩) n c) (.int .i64 (k : Int))).run Try.prog w = .ok (.pointer (some ⟨b, o + k, none⟩)) w := by
  have h1 : (0 : Int) ≤ (k : Int) := by omega
  have h2 : (k : Int) < (n : Int) := by omega
  go_simp
theorem ix_i (b o n c k : Nat) (h : k < n) (w : World) : (Instr.indexAt 46 (.slice (some ⟨b, o, none⟩) n c) (.int .i64 (k : Int))).run Try.prog w = .ok (.pointer (some ⟨b, o + k, none⟩)) w := by
  have h1 : (0 : Int) ≤ (k : Int) := by omega
  have h2 : (k : Int) < (n : Int) := by omega
  go_simp
theorem ix_t (b o n c k : Nat) (h : k < n) (w : World) : (Instr.indexAt 49 (.slice (some ⟨b, o, none⟩) n c) (.int .i64 (k : Int))).run Try.prog w = .ok (.pointer (some ⟨b, o + k, none⟩)) w := by
  have h1 : (0 : Int) ≤ (k : Int) := by omega
  have h2 : (k : Int) < (n : Int) := by omega
  go_simp
theorem ld_u (b k : Nat) (x : Int) (w : World) (h : w.cell? ⟨b, k, none⟩ = some (.int .u64 x)) : (Instr.loadAt 39 (.pointer (some ⟨b, k, none⟩))).run Try.prog w = .ok (.int .u64 x) w := by
  go_simp
theorem ld_i (b k : Nat) (x : Int) (w : World) (h : w.cell? ⟨b, k, none⟩ = some (.int .i64 x)) : (Instr.loadAt 3 (.pointer (some ⟨b, k, none⟩))).run Try.prog w = .ok (.int .i64 x) w := by
  go_simp
theorem ld_t (b k : Nat) (p : Option Addr) (n c : Nat) (w : World) (h : w.cell? ⟨b, k, none⟩ = some (.slice p n c)) : (Instr.loadAt 46 (.pointer (some ⟨b, k, none⟩))).run Try.prog w = .ok (.slice p n c) w := by
  go_simp
theorem add1 (k : Nat) (hb : k < 4611686018427387904) (w : World) : (binOp .add 3 (.int .i64 (k : Int)) (.int .i64 1)).run Try.prog w = .ok (.int .i64 ((k + 1 : Nat) : Int)) w := by
  have e2 : IntKind.i64.wrap ((k + 1 : Nat) : Int) = ((k + 1 : Nat) : Int) := by rw [IntKind.wrap_i64]; omega
  simp only [Int.natCast_add, Int.natCast_one] at e2
  go_simp
theorem one_add (k : Nat) (hb : k < 4611686018427387904) (w : World) : (binOp .add 3 (.int .i64 1) (.int .i64 (k : Int))).run Try.prog w = .ok (.int .i64 ((1 + k : Nat) : Int)) w := by
  have e2 : IntKind.i64.wrap ((1 + k : Nat) : Int) = ((1 + k : Nat) : Int) := by rw [IntKind.wrap_i64]; omega
  simp only [Int.natCast_add, Int.natCast_one] at e2
  go_simp
theorem maxI (x y : Nat) (ts : Array TypeId) (t : TypeId) (w : World) : (Builtin.max_ ts t #[.int .i64 (x : Int), .int .i64 (y : Int)]).run Try.prog w = .ok (.int .i64 ((max x y : Nat) : Int)) w := by
  rw [run_max_int2]
  congr 3
  split <;> omega

end Go.Proofs.Ytpegkalhjnldkaa
