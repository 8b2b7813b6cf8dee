import Derived.Test.YtnpjecdodhkplaaGreatDoorTV
namespace Go.Proofs.YtnpjecdodhkplaaGreatDoor
set_option maxRecDepth 100000
set_option linter.unusedSimpArgs false
set_option linter.unusedVariables false
open Go.RowKit
theorem eq_bool (b : Bool) (w : World) : (binOp .eql 4 (.bool b) (.bool b)).run Tryz.prog w = .ok (.bool true) w := by cases b <;> rfl
theorem eqg_bool (x y : Operand) (b : Bool) (w : World) : (eqGuard .eql 4 x y (.bool b) (.bool b)).run Tryz.prog w = .ok () w := by first | rfl | (cases b <;> rfl) | (go_simp)
theorem wp_bOne {o : Oper} {a : Act} {w : World} {K : Act → World → Prop} {Q : Exit → Act → World → Prop} (x : Operand) (ho : o.op = .buildSlice 57 1 #[(0, x)]) (a1 : Option Addr) (n1 c1 : Nat)
  (hx : a.eval x = .slice a1 n1 c1)
  (h : K (a.put o.dst (.slice (some ⟨w.heap.size, 0, none⟩) 1 1)) (w.alloc (.cells #[.slice a1 n1 c1] 24))) : o.wp Tryz.prog a w K Q := by
 have hi : Tryz.prog.info? 24 = some (Tryz.prog.info? 24).get! := by kernel_rfl
 have hz : (Tryz.prog.info? 24).get!.zero = some (.slice none 0 0) := by kernel_rfl
 have hsz : (Tryz.prog.info? 24).get!.size = 1 := by kernel_rfl
 refine wp_buildSlice 57 24 1 _ ho #[.slice a1 n1 c1] _ _ Tryz.underlying57 hi hz (by rw [hsz]; decide) (by rw [hsz]; decide) ?_ h
 rw [hsz]
 simp only [List.map_toArray, List.map_cons, List.map_nil, hx]
 kernel_rfl
end Go.Proofs.YtnpjecdodhkplaaGreatDoor
