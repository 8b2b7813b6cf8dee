/- A schema's default: the program. -/
import Derived.Test.YteeabfckjjbmkaaVi
import Derived.Test.YteeabfckjjbmkaaRf
namespace Go.Proofs.Yteeabfckjjbmkaa
set_option maxRecDepth 100000
set_option linter.unusedSimpArgs false
set_option linter.unusedVariables false
open Go.RowKit

set_option maxHeartbeats 1600000 in
theorem first_4 (words : List ByteArray) (a c : Option Addr) (la ca len cc : Nat) (hla : 0 < la) (w : World) (h1 : Strs w a la words) :
    Calls Try.prog 88 #[.agg #[.int .i64 4, .slice a la ca, .slice c len cc]] w fun e w' => e = .returned (.agg #[.int .i64 4, .int .i64 0, .string (nth words 0), .slice none 0 0, .slice none 0 0, .slice none 0 0]) ∧ Below w.heap.size w w' := by
  obtain ⟨ad, rfl, hc⟩ := Strs.at_ h1 hla
  rw [Addr.add_zero'] at hc
  have hc3 : (((w.alloc (.cells #[.int .i64 4, .slice (some ad) la ca, .slice c len cc] 41)).alloc (.cells #[.int .i64 0, .int .i64 0, .string { data := #[] }, .slice none 0 0, .slice none 0 0, .slice none 0 0] 26)).alloc (.cells #[.int .i64 4, .int .i64 0, .string { data := #[] }, .slice none 0 0, .slice none 0 0, .slice none 0 0] 26)).cell? ad = some (.string (nth words 0)) := ((Below.alloc3 w _ _ _).cell (lt_of_cell hc)).trans hc
  have g1 : (0 : Int) < (la : Int) := by omega
  generalize nth words 0 = x at *
  clear h1
  go_enter Try.func88, Try.ntmps88
  go_wp2_with fail
  refine bodyPost_ret (results_cell_row (by rfl) _ _ (w.heap.size + 1) _ _ _ _ (by rfl) ((Row.new1 w (.cells #[.int .i64 4, .slice (some ad) la ca, .slice c len cc] 41) [.int .i64 4, .int .i64 0, .string x, .slice none 0 0, .slice none 0 0, .slice none 0 0] 26).alloc (.cells #[.int .i64 4, .int .i64 0, .string x, .slice none 0 0, .slice none 0 0, .slice none 0 0] 26)) Try.underlying26 rfl (v_info rfl)) rfl ?_
  exact ⟨rfl, Below.alloc3 w _ _ _⟩
set_option maxHeartbeats 1600000 in
theorem first_0 (k : Int) (a c : Option Addr) (la ca len cc : Nat) (h4 : ¬ k = 4) (h5 : ¬ k = 5) (w : World) :
    Calls Try.prog 88 #[.agg #[.int .i64 k, .slice a la ca, .slice c len cc]] w fun e w' => e = .returned (.agg #[.int .i64 k, .int .i64 0, .string ByteArray.empty, .slice none 0 0, .slice none 0 0, .slice none 0 0]) ∧ Below w.heap.size w w' := by
  have e4 : (k == 4) = false := beq_eq_false_iff_ne.2 h4
  have e5 : (k == 5) = false := beq_eq_false_iff_ne.2 h5
  go_enter Try.func88, Try.ntmps88
  go_wp2_with fail
  refine bodyPost_ret (results_cell_row (by rfl) _ _ (w.heap.size + 1) _ _ _ _ (by rfl) ((Row.new1 w (.cells #[.int .i64 k, .slice a la ca, .slice c len cc] 41) [.int .i64 k, .int .i64 0, .string ByteArray.empty, .slice none 0 0, .slice none 0 0, .slice none 0 0] 26).alloc (.cells #[.int .i64 k, .int .i64 0, .string ByteArray.empty, .slice none 0 0, .slice none 0 0, .slice none 0 0] 26)) Try.underlying26 rfl (v_info rfl)) rfl ?_
  exact ⟨rfl, Below.alloc3 w _ _ _⟩
end Go.Proofs.Yteeabfckjjbmkaa
