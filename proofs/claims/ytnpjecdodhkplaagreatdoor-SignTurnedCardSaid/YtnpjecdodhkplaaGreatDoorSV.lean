import Derived.Test.YtnpjecdodhkplaaGreatDoorSU
namespace Go.Proofs.YtnpjecdodhkplaaGreatDoor
set_option maxRecDepth 100000
set_option linter.unusedSimpArgs false
set_option linter.unusedVariables false
open Go.RowKit
theorem gr_any (A : Option Addr) (n c : Nat) (w : World) : Calls Tryz.prog 6 #[.slice A n c] w fun e w' => e = .returned (.bool (decide (300 < n))) ∧ w' = w := by
 by_cases h : (n : Int) > 300
 ·have h2 : 300 < n := by omega
  rw [decide_eq_true h2]
  go_enter Tryz.func6, Tryz.ntmps6
  go_wp2
  go_ret
  first | exact ⟨rfl, rfl⟩ | (simp; omega)
 ·have h2 : ¬ 300 < n := by omega
  rw [decide_eq_false h2]
  go_enter Tryz.func6, Tryz.ntmps6
  go_wp2
  go_ret
  first | exact ⟨rfl, rfl⟩ | (simp; omega)
theorem sg_1 (N : Nat) (l : List Nat) {vs : List Value} {ps : List (List Nat)} {A : Option Addr} {m c : Nat} (w : World) (hw : Sv w) (r : Rd w (fun _ => True) A m vs) (p : Parts w (fun _ => True) vs ps) (hm : m ≤ 1000) (hl : ps.flatten = l) (hn : l.length < 1000000) :
  Calls Tryz.prog 10 #[.agg (By N 32).toArray, .slice A m c] w fun e w' => e = .returned (.agg (SL (sgF N l) (sgS N l)).toArray) ∧ Below w.heap.size w w' := by
 have h := sg_any N (c := c) w hw r p hm (hl ▸ hn)
 rw [hl] at h
 exact h
theorem one_row {W : World} {A : Option Addr} {n c : Nat} : Rd (W.alloc (.cells #[.slice A n c] 24)) (fun _ => True) (some ⟨W.heap.size, 0, none⟩) 1 [.slice A n c] :=
 (Rd.lit W [.slice A n c] #[.slice A n c] 24 rfl 1 rfl).mono (fun _ _ _ => trivial)
theorem seed_len (N : Nat) : (Tryz.prog.info? 23).map (·.size) = some (By N 32).length := by rw [By_length]; kernel_rfl
def N8 (l : List Nat) : List Value := l.map fun x => .int .u8 ((x : Nat) : Int)
theorem N8_len (l : List Nat) : (N8 l).length = l.length := by simp [N8]
end Go.Proofs.YtnpjecdodhkplaaGreatDoor
