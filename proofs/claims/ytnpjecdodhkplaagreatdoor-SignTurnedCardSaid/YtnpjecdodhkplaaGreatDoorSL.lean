import Derived.Test.YtnpjecdodhkplaaGreatDoorSK
namespace Go.Proofs.YtnpjecdodhkplaaGreatDoor
set_option maxRecDepth 100000
set_option linter.unusedSimpArgs false
set_option linter.unusedVariables false
open Go.RowKit
open List renaming setIfInBounds_toArray → yA, set_cons_zero → yB, set_cons_succ → yC
open Lib renaming hid → yH
section
section
open Go.RowKit
theorem z00 : (0 : Fin pp) - 0 = 0 := by decide
theorem as_end {a b q1 q2 q3 : Fin pp} (h : a - b = 0 - (q1 * 0 + q2 * 0 + q3 * 0)) : a = b := by
 have e : a = (a - b) + b := by grind
 rw [e, h]
 simp only [Fin.mul_zero, Fin.add_zero]
 rw [z00, Fin.zero_add]
theorem cl_end {a q1 q2 : Fin pp} (h : a = 0 - (q1 * 0 + q2 * 0)) : a = 0 := by
 rw [h]
 simp only [Fin.mul_zero, Fin.add_zero]
 exact z00
set_option maxHeartbeats 4000000 in
theorem as_x0 (d x1 y1 x2 y2 x3 y3 : Fin pp) : ((x1 * y2 + y1 * x2) * (1 - d * (x1 * x2) * (y1 * y2)) * y3 + (y1 * y2 + x1 * x2) * (1 + d * (x1 * x2) * (y1 * y2)) * x3) * ((1 - d * (x2 * x3) * (y2 * y3)) * (1 + d * (x2 * x3) * (y2 * y3)) + d * ((x2 * y3 + y2 * x3) * x1) * ((y2 * y3 + x2 * x3) * y1)) - ((x2 * y3 + y2 * x3) * (1 - d * (x2 * x3) * (y2 * y3)) * y1 + (y2 * y3 + x2 * x3) * (1 + d * (x2 * x3) * (y2 * y3)) * x1) * ((1 - d * (x1 * x2) * (y1 * y2)) * (1 + d * (x1 * x2) * (y1 * y2)) + d * ((x1 * y2 + y1 * x2) * x3) * ((y1 * y2 + x1 * x2) * y3)) = 0 - ((d * y1 * x2 * y2 * y2 * y2 * y2 * x3 * x3 * y3 + d * y1 * x2 * x2 * y2 * y2 * y2 * x3 + d * y1 * x2 * x2 * y2 * y2 * y2 * x3 * x3 * x3 + d * y1 * x2 * x2 * x2 * y2 * y2 * y3 - d * y1 * x2 * x2 * x2 * y2 * y2 * y3 * y3 * y3 - d * y1 * x2 * x2 * x2 * x2 * y2 * x3 * y3 * y3 - d * x1 * x2 * y2 * y2 * y2 * y2 * x3 * y3 * y3 + d * x1 * x2 * x2 * y2 * y2 * y2 * y3 - d * x1 * x2 * x2 * y2 * y2 * y2 * y3 * y3 * y3 + d * x1 * x2 * x2 * x2 * y2 * y2 * x3 + d * x1 * x2 * x2 * x2 * y2 * y2 * x3 * x3 * x3 + d * x1 * x2 * x2 * x2 * x2 * y2 * x3 * x3 * y3 - d * d * y1 * x2 * x2 * x2 * y2 * y2 * y2 * y2 * x3 * x3 * y3 - d * d * y1 * x2 * x2 * x2 * x2 * y2 * y2 * y2 * x3 * y3 * y3 + d * d * x1 * x2 * x2 * x2 * y2 * y2 * y2 * y2 * x3 * y3 * y3 + d * d * x1 * x2 * x2 * x2 * x2 * y2 * y2 * y2 * x3 * x3 * y3) * (y1 * y1 - x1 * x1 - 1 - d * (x1 * x1) * (y1 * y1)) + (0 - y1 * y2 * x3 + y1 * y2 * x3 * y3 * y3 - y1 * y2 * x3 * x3 * x3 - y1 * x2 * y3 + y1 * x2 * y3 * y3 * y3 - y1 * x2 * x3 * x3 * y3 + y1 * y1 * y1 * y2 * x3 - y1 * y1 * y1 * y2 * x3 * y3 * y3 + y1 * y1 * y1 * y2 * x3 * x3 * x3 + y1 * y1 * y1 * x2 * y3 - y1 * y1 * y1 * x2 * y3 * y3 * y3 + y1 * y1 * y1 * x2 * x3 * x3 * y3 - x1 * y2 * y3 + x1 * y2 * y3 * y3 * y3 - x1 * y2 * x3 * x3 * y3 - x1 * x2 * x3 + x1 * x2 * x3 * y3 * y3 - x1 * x2 * x3 * x3 * x3 + x1 * y1 * y1 * y2 * y3 - x1 * y1 * y1 * y2 * y3 * y3 * y3 + x1 * y1 * y1 * y2 * x3 * x3 * y3 + x1 * y1 * y1 * x2 * x3 - x1 * y1 * y1 * x2 * x3 * y3 * y3 + x1 * y1 * y1 * x2 * x3 * x3 * x3 - x1 * x1 * y1 * y2 * x3 + x1 * x1 * y1 * y2 * x3 * y3 * y3 - x1 * x1 * y1 * y2 * x3 * x3 * x3 - x1 * x1 * y1 * x2 * y3 + x1 * x1 * y1 * x2 * y3 * y3 * y3 - x1 * x1 * y1 * x2 * x3 * x3 * y3 - x1 * x1 * x1 * y2 * y3 + x1 * x1 * x1 * y2 * y3 * y3 * y3 - x1 * x1 * x1 * y2 * x3 * x3 * y3 - x1 * x1 * x1 * x2 * x3 + x1 * x1 * x1 * x2 * x3 * y3 * y3 - x1 * x1 * x1 * x2 * x3 * x3 * x3 - d * y1 * y2 * x3 * x3 * x3 * y3 * y3 - d * y1 * x2 * x3 * x3 * y3 * y3 * y3 + d * y1 * x2 * y2 * y2 * x3 * x3 * y3 + d * y1 * x2 * x2 * y2 * x3 * y3 * y3 + d * y1 * y1 * y1 * y2 * x3 * x3 * x3 * y3 * y3 + d * y1 * y1 * y1 * x2 * x3 * x3 * y3 * y3 * y3 - d * y1 * y1 * y1 * x2 * y2 * y2 * x3 * x3 * y3 - d * y1 * y1 * y1 * x2 * x2 * y2 * x3 * y3 * y3 - d * x1 * y2 * x3 * x3 * y3 * y3 * y3 - d * x1 * x2 * x3 * x3 * x3 * y3 * y3 - d * x1 * x2 * y2 * y2 * x3 * y3 * y3 - d * x1 * x2 * x2 * y2 * x3 * x3 * y3 + d * x1 * y1 * y1 * y2 * x3 * x3 * y3 * y3 * y3 + d * x1 * y1 * y1 * x2 * x3 * x3 * x3 * y3 * y3 + d * x1 * y1 * y1 * x2 * y2 * y2 * x3 * y3 * y3 + d * x1 * y1 * y1 * x2 * x2 * y2 * x3 * x3 * y3 - d * x1 * x1 * y1 * y2 * x3 * x3 * x3 * y3 * y3 - d * x1 * x1 * y1 * x2 * x3 * x3 * y3 * y3 * y3 + d * x1 * x1 * y1 * x2 * y2 * y2 * x3 * x3 * y3 + d * x1 * x1 * y1 * x2 * x2 * y2 * x3 * y3 * y3 - d * x1 * x1 * x1 * y2 * x3 * x3 * y3 * y3 * y3 - d * x1 * x1 * x1 * x2 * x3 * x3 * x3 * y3 * y3 - d * x1 * x1 * x1 * x2 * y2 * y2 * x3 * y3 * y3 - d * x1 * x1 * x1 * x2 * x2 * y2 * x3 * x3 * y3 - d * d * x1 * y1 * y1 * x2 * y2 * y2 * x3 * x3 * x3 * y3 * y3 + d * d * x1 * y1 * y1 * x2 * x2 * y2 * x3 * x3 * y3 * y3 * y3 + d * d * x1 * x1 * y1 * x2 * y2 * y2 * x3 * x3 * y3 * y3 * y3 - d * d * x1 * x1 * y1 * x2 * x2 * y2 * x3 * x3 * x3 * y3 * y3) * (y2 * y2 - x2 * x2 - 1 - d * (x2 * x2) * (y2 * y2)) + (y1 * y2 * x3 - y1 * y2 * y2 * y2 * x3 + y1 * x2 * y3 - y1 * x2 * y2 * y2 * y3 + y1 * x2 * x2 * y2 * x3 + y1 * x2 * x2 * x2 * y3 - y1 * y1 * y1 * y2 * x3 + y1 * y1 * y1 * y2 * y2 * y2 * x3 - y1 * y1 * y1 * x2 * y3 + y1 * y1 * y1 * x2 * y2 * y2 * y3 - y1 * y1 * y1 * x2 * x2 * y2 * x3 - y1 * y1 * y1 * x2 * x2 * x2 * y3 + x1 * y2 * y3 - x1 * y2 * y2 * y2 * y3 + x1 * x2 * x3 - x1 * x2 * y2 * y2 * x3 + x1 * x2 * x2 * y2 * y3 + x1 * x2 * x2 * x2 * x3 - x1 * y1 * y1 * y2 * y3 + x1 * y1 * y1 * y2 * y2 * y2 * y3 - x1 * y1 * y1 * x2 * x3 + x1 * y1 * y1 * x2 * y2 * y2 * x3 - x1 * y1 * y1 * x2 * x2 * y2 * y3 - x1 * y1 * y1 * x2 * x2 * x2 * x3 + x1 * x1 * y1 * y2 * x3 - x1 * x1 * y1 * y2 * y2 * y2 * x3 + x1 * x1 * y1 * x2 * y3 - x1 * x1 * y1 * x2 * y2 * y2 * y3 + x1 * x1 * y1 * x2 * x2 * y2 * x3 + x1 * x1 * y1 * x2 * x2 * x2 * y3 + x1 * x1 * x1 * y2 * y3 - x1 * x1 * x1 * y2 * y2 * y2 * y3 + x1 * x1 * x1 * x2 * x3 - x1 * x1 * x1 * x2 * y2 * y2 * x3 + x1 * x1 * x1 * x2 * x2 * y2 * y3 + x1 * x1 * x1 * x2 * x2 * x2 * x3 + d * x1 * y1 * y1 * x2 * y2 * y2 * x3 - d * x1 * y1 * y1 * x2 * x2 * y2 * y3 - d * x1 * x1 * y1 * x2 * y2 * y2 * y3 + d * x1 * x1 * y1 * x2 * x2 * y2 * x3) * (y3 * y3 - x3 * x3 - 1 - d * (x3 * x3) * (y3 * y3))) := by grind
theorem as_x {d x1 y1 x2 y2 x3 y3 : Fin pp} (h1 : (y1 * y1 - x1 * x1 - 1 - d * (x1 * x1) * (y1 * y1)) = 0) (h2 : (y2 * y2 - x2 * x2 - 1 - d * (x2 * x2) * (y2 * y2)) = 0) (h3 : (y3 * y3 - x3 * x3 - 1 - d * (x3 * x3) * (y3 * y3)) = 0) : ((x1 * y2 + y1 * x2) * (1 - d * (x1 * x2) * (y1 * y2)) * y3 + (y1 * y2 + x1 * x2) * (1 + d * (x1 * x2) * (y1 * y2)) * x3) * ((1 - d * (x2 * x3) * (y2 * y3)) * (1 + d * (x2 * x3) * (y2 * y3)) + d * ((x2 * y3 + y2 * x3) * x1) * ((y2 * y3 + x2 * x3) * y1)) = ((x2 * y3 + y2 * x3) * (1 - d * (x2 * x3) * (y2 * y3)) * y1 + (y2 * y3 + x2 * x3) * (1 + d * (x2 * x3) * (y2 * y3)) * x1) * ((1 - d * (x1 * x2) * (y1 * y2)) * (1 + d * (x1 * x2) * (y1 * y2)) + d * ((x1 * y2 + y1 * x2) * x3) * ((y1 * y2 + x1 * x2) * y3)) := by
 have k := as_x0 d x1 y1 x2 y2 x3 y3
 rw [h1, h2, h3] at k
 exact as_end k
set_option maxHeartbeats 4000000 in
theorem as_y0 (d x1 y1 x2 y2 x3 y3 : Fin pp) : ((y1 * y2 + x1 * x2) * (1 + d * (x1 * x2) * (y1 * y2)) * y3 + (x1 * y2 + y1 * x2) * (1 - d * (x1 * x2) * (y1 * y2)) * x3) * ((1 - d * (x2 * x3) * (y2 * y3)) * (1 + d * (x2 * x3) * (y2 * y3)) - d * ((x2 * y3 + y2 * x3) * x1) * ((y2 * y3 + x2 * x3) * y1)) - ((y2 * y3 + x2 * x3) * (1 + d * (x2 * x3) * (y2 * y3)) * y1 + (x2 * y3 + y2 * x3) * (1 - d * (x2 * x3) * (y2 * y3)) * x1) * ((1 - d * (x1 * x2) * (y1 * y2)) * (1 + d * (x1 * x2) * (y1 * y2)) - d * ((x1 * y2 + y1 * x2) * x3) * ((y1 * y2 + x1 * x2) * y3)) = 0 - ((0 - d * y1 * x2 * y2 * y2 * y2 * y2 * x3 * y3 * y3 + d * y1 * x2 * x2 * y2 * y2 * y2 * y3 - d * y1 * x2 * x2 * y2 * y2 * y2 * y3 * y3 * y3 + d * y1 * x2 * x2 * x2 * y2 * y2 * x3 + d * y1 * x2 * x2 * x2 * y2 * y2 * x3 * x3 * x3 + d * y1 * x2 * x2 * x2 * x2 * y2 * x3 * x3 * y3 + d * x1 * x2 * y2 * y2 * y2 * y2 * x3 * x3 * y3 + d * x1 * x2 * x2 * y2 * y2 * y2 * x3 + d * x1 * x2 * x2 * y2 * y2 * y2 * x3 * x3 * x3 + d * x1 * x2 * x2 * x2 * y2 * y2 * y3 - d * x1 * x2 * x2 * x2 * y2 * y2 * y3 * y3 * y3 - d * x1 * x2 * x2 * x2 * x2 * y2 * x3 * y3 * y3 + d * d * y1 * x2 * x2 * x2 * y2 * y2 * y2 * y2 * x3 * y3 * y3 + d * d * y1 * x2 * x2 * x2 * x2 * y2 * y2 * y2 * x3 * x3 * y3 - d * d * x1 * x2 * x2 * x2 * y2 * y2 * y2 * y2 * x3 * x3 * y3 - d * d * x1 * x2 * x2 * x2 * x2 * y2 * y2 * y2 * x3 * y3 * y3) * (y1 * y1 - x1 * x1 - 1 - d * (x1 * x1) * (y1 * y1)) + (0 - y1 * y2 * y3 + y1 * y2 * y3 * y3 * y3 - y1 * y2 * x3 * x3 * y3 - y1 * x2 * x3 + y1 * x2 * x3 * y3 * y3 - y1 * x2 * x3 * x3 * x3 + y1 * y1 * y1 * y2 * y3 - y1 * y1 * y1 * y2 * y3 * y3 * y3 + y1 * y1 * y1 * y2 * x3 * x3 * y3 + y1 * y1 * y1 * x2 * x3 - y1 * y1 * y1 * x2 * x3 * y3 * y3 + y1 * y1 * y1 * x2 * x3 * x3 * x3 - x1 * y2 * x3 + x1 * y2 * x3 * y3 * y3 - x1 * y2 * x3 * x3 * x3 - x1 * x2 * y3 + x1 * x2 * y3 * y3 * y3 - x1 * x2 * x3 * x3 * y3 + x1 * y1 * y1 * y2 * x3 - x1 * y1 * y1 * y2 * x3 * y3 * y3 + x1 * y1 * y1 * y2 * x3 * x3 * x3 + x1 * y1 * y1 * x2 * y3 - x1 * y1 * y1 * x2 * y3 * y3 * y3 + x1 * y1 * y1 * x2 * x3 * x3 * y3 - x1 * x1 * y1 * y2 * y3 + x1 * x1 * y1 * y2 * y3 * y3 * y3 - x1 * x1 * y1 * y2 * x3 * x3 * y3 - x1 * x1 * y1 * x2 * x3 + x1 * x1 * y1 * x2 * x3 * y3 * y3 - x1 * x1 * y1 * x2 * x3 * x3 * x3 - x1 * x1 * x1 * y2 * x3 + x1 * x1 * x1 * y2 * x3 * y3 * y3 - x1 * x1 * x1 * y2 * x3 * x3 * x3 - x1 * x1 * x1 * x2 * y3 + x1 * x1 * x1 * x2 * y3 * y3 * y3 - x1 * x1 * x1 * x2 * x3 * x3 * y3 - d * y1 * y2 * x3 * x3 * y3 * y3 * y3 - d * y1 * x2 * x3 * x3 * x3 * y3 * y3 - d * y1 * x2 * y2 * y2 * x3 * y3 * y3 - d * y1 * x2 * x2 * y2 * x3 * x3 * y3 + d * y1 * y1 * y1 * y2 * x3 * x3 * y3 * y3 * y3 + d * y1 * y1 * y1 * x2 * x3 * x3 * x3 * y3 * y3 + d * y1 * y1 * y1 * x2 * y2 * y2 * x3 * y3 * y3 + d * y1 * y1 * y1 * x2 * x2 * y2 * x3 * x3 * y3 - d * x1 * y2 * x3 * x3 * x3 * y3 * y3 - d * x1 * x2 * x3 * x3 * y3 * y3 * y3 + d * x1 * x2 * y2 * y2 * x3 * x3 * y3 + d * x1 * x2 * x2 * y2 * x3 * y3 * y3 + d * x1 * y1 * y1 * y2 * x3 * x3 * x3 * y3 * y3 + d * x1 * y1 * y1 * x2 * x3 * x3 * y3 * y3 * y3 - d * x1 * y1 * y1 * x2 * y2 * y2 * x3 * x3 * y3 - d * x1 * y1 * y1 * x2 * x2 * y2 * x3 * y3 * y3 - d * x1 * x1 * y1 * y2 * x3 * x3 * y3 * y3 * y3 - d * x1 * x1 * y1 * x2 * x3 * x3 * x3 * y3 * y3 - d * x1 * x1 * y1 * x2 * y2 * y2 * x3 * y3 * y3 - d * x1 * x1 * y1 * x2 * x2 * y2 * x3 * x3 * y3 - d * x1 * x1 * x1 * y2 * x3 * x3 * x3 * y3 * y3 - d * x1 * x1 * x1 * x2 * x3 * x3 * y3 * y3 * y3 + d * x1 * x1 * x1 * x2 * y2 * y2 * x3 * x3 * y3 + d * x1 * x1 * x1 * x2 * x2 * y2 * x3 * y3 * y3 - d * d * x1 * y1 * y1 * x2 * y2 * y2 * x3 * x3 * y3 * y3 * y3 + d * d * x1 * y1 * y1 * x2 * x2 * y2 * x3 * x3 * x3 * y3 * y3 + d * d * x1 * x1 * y1 * x2 * y2 * y2 * x3 * x3 * x3 * y3 * y3 - d * d * x1 * x1 * y1 * x2 * x2 * y2 * x3 * x3 * y3 * y3 * y3) * (y2 * y2 - x2 * x2 - 1 - d * (x2 * x2) * (y2 * y2)) + (y1 * y2 * y3 - y1 * y2 * y2 * y2 * y3 + y1 * x2 * x3 - y1 * x2 * y2 * y2 * x3 + y1 * x2 * x2 * y2 * y3 + y1 * x2 * x2 * x2 * x3 - y1 * y1 * y1 * y2 * y3 + y1 * y1 * y1 * y2 * y2 * y2 * y3 - y1 * y1 * y1 * x2 * x3 + y1 * y1 * y1 * x2 * y2 * y2 * x3 - y1 * y1 * y1 * x2 * x2 * y2 * y3 - y1 * y1 * y1 * x2 * x2 * x2 * x3 + x1 * y2 * x3 - x1 * y2 * y2 * y2 * x3 + x1 * x2 * y3 - x1 * x2 * y2 * y2 * y3 + x1 * x2 * x2 * y2 * x3 + x1 * x2 * x2 * x2 * y3 - x1 * y1 * y1 * y2 * x3 + x1 * y1 * y1 * y2 * y2 * y2 * x3 - x1 * y1 * y1 * x2 * y3 + x1 * y1 * y1 * x2 * y2 * y2 * y3 - x1 * y1 * y1 * x2 * x2 * y2 * x3 - x1 * y1 * y1 * x2 * x2 * x2 * y3 + x1 * x1 * y1 * y2 * y3 - x1 * x1 * y1 * y2 * y2 * y2 * y3 + x1 * x1 * y1 * x2 * x3 - x1 * x1 * y1 * x2 * y2 * y2 * x3 + x1 * x1 * y1 * x2 * x2 * y2 * y3 + x1 * x1 * y1 * x2 * x2 * x2 * x3 + x1 * x1 * x1 * y2 * x3 - x1 * x1 * x1 * y2 * y2 * y2 * x3 + x1 * x1 * x1 * x2 * y3 - x1 * x1 * x1 * x2 * y2 * y2 * y3 + x1 * x1 * x1 * x2 * x2 * y2 * x3 + x1 * x1 * x1 * x2 * x2 * x2 * y3 + d * x1 * y1 * y1 * x2 * y2 * y2 * y3 - d * x1 * y1 * y1 * x2 * x2 * y2 * x3 - d * x1 * x1 * y1 * x2 * y2 * y2 * x3 + d * x1 * x1 * y1 * x2 * x2 * y2 * y3) * (y3 * y3 - x3 * x3 - 1 - d * (x3 * x3) * (y3 * y3))) := by grind
theorem as_y {d x1 y1 x2 y2 x3 y3 : Fin pp} (h1 : (y1 * y1 - x1 * x1 - 1 - d * (x1 * x1) * (y1 * y1)) = 0) (h2 : (y2 * y2 - x2 * x2 - 1 - d * (x2 * x2) * (y2 * y2)) = 0) (h3 : (y3 * y3 - x3 * x3 - 1 - d * (x3 * x3) * (y3 * y3)) = 0) : ((y1 * y2 + x1 * x2) * (1 + d * (x1 * x2) * (y1 * y2)) * y3 + (x1 * y2 + y1 * x2) * (1 - d * (x1 * x2) * (y1 * y2)) * x3) * ((1 - d * (x2 * x3) * (y2 * y3)) * (1 + d * (x2 * x3) * (y2 * y3)) - d * ((x2 * y3 + y2 * x3) * x1) * ((y2 * y3 + x2 * x3) * y1)) = ((y2 * y3 + x2 * x3) * (1 + d * (x2 * x3) * (y2 * y3)) * y1 + (x2 * y3 + y2 * x3) * (1 - d * (x2 * x3) * (y2 * y3)) * x1) * ((1 - d * (x1 * x2) * (y1 * y2)) * (1 + d * (x1 * x2) * (y1 * y2)) - d * ((x1 * y2 + y1 * x2) * x3) * ((y1 * y2 + x1 * x2) * y3)) := by
 have k := as_y0 d x1 y1 x2 y2 x3 y3
 rw [h1, h2, h3] at k
 exact as_end k
set_option maxHeartbeats 4000000 in
theorem cl_0 (d x1 y1 x2 y2 : Fin pp) : ((y1 * y2 + x1 * x2) * (1 + d * (x1 * x2) * (y1 * y2))) * ((y1 * y2 + x1 * x2) * (1 + d * (x1 * x2) * (y1 * y2))) - ((x1 * y2 + y1 * x2) * (1 - d * (x1 * x2) * (y1 * y2))) * ((x1 * y2 + y1 * x2) * (1 - d * (x1 * x2) * (y1 * y2))) - (((1 - d * (x1 * x2) * (y1 * y2)) * (1 + d * (x1 * x2) * (y1 * y2))) * ((1 - d * (x1 * x2) * (y1 * y2)) * (1 + d * (x1 * x2) * (y1 * y2))) + d * ((x1 * y2 + y1 * x2) * (x1 * y2 + y1 * x2)) * ((y1 * y2 + x1 * x2) * (y1 * y2 + x1 * x2))) = 0 - ((0 - y2 * y2 * y2 * y2 + x2 * x2 * y2 * y2 + x2 * x2 * y2 * y2 + x2 * x2 * y2 * y2 + x2 * x2 * y2 * y2 - x2 * x2 * y2 * y2 * y2 * y2 - x2 * x2 * y2 * y2 * y2 * y2 - x2 * x2 * x2 * x2 + x2 * x2 * x2 * x2 * y2 * y2 + x2 * x2 * x2 * x2 * y2 * y2 + d * x2 * x2 * y2 * y2 + d * x2 * x2 * y2 * y2 + d * x2 * x2 * x2 * x2 * y2 * y2 * y2 * y2 + d * x2 * x2 * x2 * x2 * y2 * y2 * y2 * y2 + d * y1 * y1 * x2 * x2 * y2 * y2 * y2 * y2 - d * y1 * y1 * x2 * x2 * x2 * x2 * y2 * y2 - d * x1 * x1 * x2 * x2 * y2 * y2 * y2 * y2 + d * x1 * x1 * x2 * x2 * x2 * x2 * y2 * y2 + d * d * x2 * x2 * x2 * x2 * y2 * y2 * y2 * y2 - d * d * y1 * y1 * x2 * x2 * x2 * x2 * y2 * y2 * y2 * y2 + d * d * x1 * x1 * x2 * x2 * x2 * x2 * y2 * y2 * y2 * y2 - d * d * d * x1 * x1 * y1 * y1 * x2 * x2 * x2 * x2 * y2 * y2 * y2 * y2) * (y1 * y1 - x1 * x1 - 1 - d * (x1 * x1) * (y1 * y1)) + (0 - y2 * y2 + x2 * x2 - x2 * x2 * y2 * y2 - x2 * x2 * y2 * y2 + y1 * y1 * y2 * y2 - y1 * y1 * x2 * x2 + y1 * y1 * x2 * x2 * y2 * y2 + y1 * y1 * x2 * x2 * y2 * y2 - x1 * x1 * y2 * y2 + x1 * x1 * x2 * x2 - x1 * x1 * x2 * x2 * y2 * y2 - x1 * x1 * x2 * x2 * y2 * y2 - d * x2 * x2 * y2 * y2 + d * y1 * y1 * x2 * x2 * y2 * y2 + d * y1 * y1 * x2 * x2 * y2 * y2 - d * y1 * y1 * y1 * y1 * x2 * x2 * y2 * y2 - d * x1 * x1 * x2 * x2 * y2 * y2 - d * x1 * x1 * x2 * x2 * y2 * y2 - d * x1 * x1 * x1 * x1 * x2 * x2 * y2 * y2 - 1) * (y2 * y2 - x2 * x2 - 1 - d * (x2 * x2) * (y2 * y2))) := by grind
theorem cl {d x1 y1 x2 y2 : Fin pp} (h1 : (y1 * y1 - x1 * x1 - 1 - d * (x1 * x1) * (y1 * y1)) = 0) (h2 : (y2 * y2 - x2 * x2 - 1 - d * (x2 * x2) * (y2 * y2)) = 0) : ((y1 * y2 + x1 * x2) * (1 + d * (x1 * x2) * (y1 * y2))) * ((y1 * y2 + x1 * x2) * (1 + d * (x1 * x2) * (y1 * y2))) - ((x1 * y2 + y1 * x2) * (1 - d * (x1 * x2) * (y1 * y2))) * ((x1 * y2 + y1 * x2) * (1 - d * (x1 * x2) * (y1 * y2))) - (((1 - d * (x1 * x2) * (y1 * y2)) * (1 + d * (x1 * x2) * (y1 * y2))) * ((1 - d * (x1 * x2) * (y1 * y2)) * (1 + d * (x1 * x2) * (y1 * y2))) + d * ((x1 * y2 + y1 * x2) * (x1 * y2 + y1 * x2)) * ((y1 * y2 + x1 * x2) * (y1 * y2 + x1 * x2))) = 0 := by
 have k := cl_0 d x1 y1 x2 y2
 rw [h1, h2] at k
 exact cl_end k
theorem canc {a b z : Fin pp} (hz : z ≠ 0) (h : a * z = b * z) : a = b := by
 have e : (a - b) * z = 0 := by grind
 rcases fp_dom e with e | e
 ·grind
 ·exact absurd e hz
def fi (a : Fin pp) : Fin pp := ⟨a.val ^ (pp - 2) % pp, Nat.mod_lt _ (by decide)⟩
theorem fi_mul {a : Fin pp} (h : a ≠ 0) : fi a * a = 1 := by
 have hv : a.val % pp ≠ 0 := fun e => h (Fin.ext (by rw [Nat.mod_eq_of_lt a.isLt] at e; rw [e]; rfl))
 apply Fin.ext
 rw [Fin.val_mul]
 show a.val ^ (pp - 2) % pp * a.val % pp = 1 % pp
 rw [Nat.mul_comm, Nat.mul_mod_mod, inv_mul pp_prime hv]
 rfl
def dF : Fin pp := fp dL
theorem d_pow : dN ^ ((pp - 1) / 2) % pp = pp - 1 := by
 rw [← pm_eq pp 255 dN ((pp - 1) / 2) (by decide)]
 decide +kernel
theorem d_ns {s r : Fin pp} (hs : s ≠ 0) : dF * (s * s) ≠ r * r := by
 intro h
 have hv : s.val % pp ≠ 0 := fun e => hs (Fin.ext (by rw [Nat.mod_eq_of_lt s.isLt] at e; rw [e]; rfl))
 have h1 : dN * (s.val * s.val) % pp = r.val * r.val % pp := by
  have := congrArg Fin.val h
  unfold dF at this
  rw [d_f, Fin.val_mul, Fin.val_mul, Fin.val_mul] at this
  rw [← this]
  show _ = dN * (s.val * s.val % pp) % pp
  rw [Nat.mul_mod_mod]
 have h2 := mp (P := pp) ((pp - 1) / 2) h1
 have hh : (pp - 1) / 2 + (pp - 1) / 2 = pp - 1 := by decide
 have sq : ∀ v : Nat, (v * v) ^ ((pp - 1) / 2) = v ^ (pp - 1) := fun v => by rw [Nat.mul_pow, ← Nat.pow_add, hh]
 rw [Nat.mul_pow, sq, sq, Nat.mul_mod, d_pow, pp_prime.fermat hv] at h2
 by_cases hr : r.val % pp = 0
 ·have : r.val = 0 := by rw [Nat.mod_eq_of_lt r.isLt] at hr; exact hr
  rw [this, Nat.zero_pow (by decide)] at h2
  exact absurd h2 (by decide)
 ·rw [pp_prime.fermat hr] at h2
  exact absurd h2 (by decide)
def jF : Fin pp := fp rtL
theorem j_sq : jF * jF + 1 = 0 := Fin.ext (by
 rw [Fin.val_add, Fin.val_mul]
 show (nu rtL * nu rtL % pp + 1 % pp) % pp = 0
 rw [← Nat.add_mod]
 exact jj)
abbrev A2 := Fin pp × Fin pp
def On (P : A2) : Prop := P.2 * P.2 - P.1 * P.1 - 1 - dF * (P.1 * P.1) * (P.2 * P.2) = 0
def tt (P Q : A2) : Fin pp := dF * (P.1 * Q.1) * (P.2 * Q.2)
def adA (P Q : A2) : A2 := ((P.1 * Q.2 + P.2 * Q.1) * fi (1 + tt P Q), (P.2 * Q.2 + P.1 * Q.1) * fi (1 - tt P Q))
theorem cp1 {j t d x1 y1 x2 y2 : Fin pp} (hj : j * j + 1 = 0) (h1 : (y1 * y1 - x1 * x1 - 1 - d * (x1 * x1) * (y1 * y1)) = 0) (h2 : (y2 * y2 - x2 * x2 - 1 - d * (x2 * x2) * (y2 * y2)) = 0) (ht : t = d * (x1 * x2) * (y1 * y2)) (h : t * t = 1) : d * ((x1 * y1 * (j * x2 + y2)) * (x1 * y1 * (j * x2 + y2))) = (j * x1 + t * y1) * (j * x1 + t * y1) := by grind
theorem cp2 {j t d x1 y1 x2 y2 : Fin pp} (hj : j * j + 1 = 0) (h1 : (y1 * y1 - x1 * x1 - 1 - d * (x1 * x1) * (y1 * y1)) = 0) (h2 : (y2 * y2 - x2 * x2 - 1 - d * (x2 * x2) * (y2 * y2)) = 0) (ht : t = d * (x1 * x2) * (y1 * y2)) (h : t * t = 1) : d * ((x1 * y1 * (j * x2 - y2)) * (x1 * y1 * (j * x2 - y2))) = (j * x1 - t * y1) * (j * x1 - t * y1) := by grind
theorem tt_sq {P Q : A2} (hP : On P) (hQ : On Q) : tt P Q * tt P Q ≠ 1 := by
 intro h
 have t0 : tt P Q ≠ 0 := fun e => by rw [e] at h; exact absurd h (by decide)
 have a1 := cp1 j_sq hP hQ rfl h
 have a2 := cp2 j_sq hP hQ rfl h
 by_cases b1 : P.1 * P.2 * (jF * Q.1 + Q.2) = 0
 ·by_cases b2 : P.1 * P.2 * (jF * Q.1 - Q.2) = 0
  ·by_cases b3 : P.1 * P.2 = 0
   ·exact t0 (by unfold tt; grind)
   ·have c1 : jF * Q.1 + Q.2 = 0 := (fp_dom b1).resolve_left b3
    have c2 : jF * Q.1 - Q.2 = 0 := (fp_dom b2).resolve_left b3
    have c3 : 2 * Q.2 = 0 := by grind
    have c4 : Q.2 = 0 := (fp_dom c3).resolve_left two_ne
    exact t0 (by unfold tt; rw [c4]; grind)
  ·exact d_ns b2 a2
 ·exact d_ns b1 a1
theorem cplus {P Q : A2} (hP : On P) (hQ : On Q) : 1 + tt P Q ≠ 0 := fun e => tt_sq hP hQ (by grind)
theorem cminus {P Q : A2} (hP : On P) (hQ : On Q) : 1 - tt P Q ≠ 0 := fun e => tt_sq hP hQ (by grind)
theorem ad_1 {P Q : A2} (hP : On P) (hQ : On Q) : (adA P Q).1 * (1 + tt P Q) = P.1 * Q.2 + P.2 * Q.1 := by
 have := fi_mul (cplus hP hQ)
 show _ * fi (1 + tt P Q) * (1 + tt P Q) = _
 grind
theorem ad_2 {P Q : A2} (hP : On P) (hQ : On Q) : (adA P Q).2 * (1 - tt P Q) = P.2 * Q.2 + P.1 * Q.1 := by
 have := fi_mul (cminus hP hQ)
 show _ * fi (1 - tt P Q) * (1 - tt P Q) = _
 grind
theorem on_lem {d X Y a b u v : Fin pp} (hx : X * u = a) (hy : Y * v = b) (h : (b * u) * (b * u) - (a * v) * (a * v) - ((v * u) * (v * u) + d * (a * a) * (b * b)) = 0) : (Y * Y - X * X - 1 - d * (X * X) * (Y * Y)) * ((u * v) * (u * v)) = 0 := by
 subst hx hy
 grind
theorem on_ad {P Q : A2} (hP : On P) (hQ : On Q) : On (adA P Q) := by
 have h := on_lem (d := dF) (ad_1 hP hQ) (ad_2 hP hQ) (cl hP hQ)
 have n := mul_ne (cplus hP hQ) (cminus hP hQ)
 exact (fp_dom h).resolve_right (mul_ne n n)
theorem ad_comm (P Q : A2) : adA P Q = adA Q P := by
 have e : tt P Q = tt Q P := by unfold tt; grind
 unfold adA
 rw [e]
 congr 1 <;> congr 1 <;> grind
theorem tx_lem {d X Y a b t x y T : Fin pp} (hx : X * (1 + t) = a) (hy : Y * (1 - t) = b) (h : T * (1 + d * (X * x) * (Y * y)) = X * y + Y * x) : T * ((1 - t) * (1 + t) + d * (a * x) * (b * y)) = a * (1 - t) * y + b * (1 + t) * x := by
 subst hx hy
 grind
theorem ty_lem {d X Y a b t x y T : Fin pp} (hx : X * (1 + t) = a) (hy : Y * (1 - t) = b) (h : T * (1 - d * (X * x) * (Y * y)) = Y * y + X * x) : T * ((1 - t) * (1 + t) - d * (a * x) * (b * y)) = b * (1 + t) * y + a * (1 - t) * x := by
 subst hx hy
 grind
theorem dx_lem {d X Y a b t x y : Fin pp} (hx : X * (1 + t) = a) (hy : Y * (1 - t) = b) : (1 - t) * (1 + t) + d * (a * x) * (b * y) = (1 + d * (X * x) * (Y * y)) * ((1 - t) * (1 + t)) := by
 subst hx hy
 grind
theorem dy_lem {d X Y a b t x y : Fin pp} (hx : X * (1 + t) = a) (hy : Y * (1 - t) = b) : (1 - t) * (1 + t) - d * (a * x) * (b * y) = (1 - d * (X * x) * (Y * y)) * ((1 - t) * (1 + t)) := by
 subst hx hy
 grind
theorem fin_lem {T T' D1 D2 N1 N2 : Fin pp} (h1 : T * D1 = N1) (h2 : T' * D2 = N2) (h : N1 * D2 = N2 * D1) (n1 : D1 ≠ 0) (n2 : D2 ≠ 0) : T = T' := by
 refine canc (mul_ne n1 n2) ?_
 subst h1 h2
 grind
theorem dx_ne {d X Y a b t x y : Fin pp} (hx : X * (1 + t) = a) (hy : Y * (1 - t) = b) (n : 1 + d * (X * x) * (Y * y) ≠ 0) (m : 1 - t ≠ 0) (m' : 1 + t ≠ 0) : (1 - t) * (1 + t) + d * (a * x) * (b * y) ≠ 0 := by
 rw [dx_lem hx hy]
 exact mul_ne n (mul_ne m m')
theorem dy_ne {d X Y a b t x y : Fin pp} (hx : X * (1 + t) = a) (hy : Y * (1 - t) = b) (n : 1 - d * (X * x) * (Y * y) ≠ 0) (m : 1 - t ≠ 0) (m' : 1 + t ≠ 0) : (1 - t) * (1 + t) - d * (a * x) * (b * y) ≠ 0 := by
 rw [dy_lem hx hy]
 exact mul_ne n (mul_ne m m')
theorem ad_assoc {P Q R : A2} (hP : On P) (hQ : On Q) (hR : On R) : adA (adA P Q) R = adA P (adA Q R) := by
 rw [ad_comm P (adA Q R)]
 have s1 := on_ad hP hQ
 have s2 := on_ad hQ hR
 have a1 := ad_1 hP hQ
 have a2 := ad_2 hP hQ
 have b1 := ad_1 hQ hR
 have b2 := ad_2 hQ hR
 refine Prod.ext ?_ ?_
 ·exact fin_lem (tx_lem a1 a2 (ad_1 s1 hR)) (tx_lem b1 b2 (ad_1 s2 hP)) (as_x hP hQ hR) (dx_ne a1 a2 (cplus s1 hR) (cminus hP hQ) (cplus hP hQ)) (dx_ne b1 b2 (cplus s2 hP) (cminus hQ hR) (cplus hQ hR))
 ·exact fin_lem (ty_lem a1 a2 (ad_2 s1 hR)) (ty_lem b1 b2 (ad_2 s2 hP)) (as_y hP hQ hR) (dy_ne a1 a2 (cminus s1 hR) (cminus hP hQ) (cplus hP hQ)) (dy_ne b1 b2 (cminus s2 hP) (cminus hQ hR) (cplus hQ hR))
end
section
open Go.RowKit
structure Is (p : Pm) (P : A2) : Prop where
 z : fp p.z ≠ 0
 x : fp p.x = P.1 * fp p.z
 y : fp p.y = P.2 * fp p.z
 t : fp p.t = P.1 * P.2 * fp p.z
 on : On P
theorem ia1 {d x1 y1 z1 x2 y2 z2 S : Fin pp} (hs : S * (1 + d * (x1 * x2) * (y1 * y2)) = x1 * y2 + y1 * x2) : (y1 * z1 + x1 * z1) * (y2 * z2 + x2 * z2) - (y1 * z1 - x1 * z1) * (y2 * z2 - x2 * z2) = S * (z1 * z2 + z1 * z2 + (x1 * y1 * z1 * (x2 * y2 * z2) * d + x1 * y1 * z1 * (x2 * y2 * z2) * d)) := by grind
theorem ia2 {d x1 y1 z1 x2 y2 z2 S : Fin pp} (hs : S * (1 - d * (x1 * x2) * (y1 * y2)) = y1 * y2 + x1 * x2) : (y1 * z1 + x1 * z1) * (y2 * z2 + x2 * z2) + (y1 * z1 - x1 * z1) * (y2 * z2 - x2 * z2) = S * (z1 * z2 + z1 * z2 - (x1 * y1 * z1 * (x2 * y2 * z2) * d + x1 * y1 * z1 * (x2 * y2 * z2) * d)) := by grind
theorem ia3 (d x1 y1 z1 x2 y2 z2 : Fin pp) : z1 * z2 + z1 * z2 + (x1 * y1 * z1 * (x2 * y2 * z2) * d + x1 * y1 * z1 * (x2 * y2 * z2) * d) = (2 * (z1 * z2)) * (1 + d * (x1 * x2) * (y1 * y2)) := by grind
theorem ia4 (d x1 y1 z1 x2 y2 z2 : Fin pp) : z1 * z2 + z1 * z2 - (x1 * y1 * z1 * (x2 * y2 * z2) * d + x1 * y1 * z1 * (x2 * y2 * z2) * d) = (2 * (z1 * z2)) * (1 - d * (x1 * x2) * (y1 * y2)) := by grind
theorem ie1 (S f g : Fin pp) : S * f * g = S * (f * g) := by grind
theorem ie2 (S f g : Fin pp) : S * g * f = S * (f * g) := by grind
theorem ie3 (S T f g : Fin pp) : S * f * (T * g) = S * T * (f * g) := by grind
theorem is_ad {p q : Pm} {P Q : A2} (hp : p.ok) (hq : q.ok) (h : Is p P) (k : Is q Q) : Is (adP p q) (adA P Q) := by
 have e1 : fp (plA p q) - fp (miA p q) = (adA P Q).1 * (fp (onA p q) + fp (moA p q)) := by
  rw [pl_f, mi_f hp hq, on_f, mo_f, h.x, h.y, h.t, k.x, k.y, k.t]
  exact ia1 (ad_1 h.on k.on)
 have e2 : fp (plA p q) + fp (miA p q) = (adA P Q).2 * (fp (onA p q) - fp (moA p q)) := by
  rw [pl_f, mi_f hp hq, on_f, mo_f, h.x, h.y, h.t, k.x, k.y, k.t]
  exact ia2 (ad_2 h.on k.on)
 have e3 : fp (onA p q) + fp (moA p q) ≠ 0 := by
  rw [on_f, mo_f, h.t, k.t]
  exact fun e => mul_ne (mul_ne two_ne (mul_ne h.z k.z)) (cplus h.on k.on) ((ia3 _ _ _ _ _ _ _).symm.trans e)
 have e4 : fp (onA p q) - fp (moA p q) ≠ 0 := by
  rw [on_f, mo_f, h.t, k.t]
  exact fun e => mul_ne (mul_ne two_ne (mul_ne h.z k.z)) (cminus h.on k.on) ((ia4 _ _ _ _ _ _ _).symm.trans e)
 refine ⟨?_, ?_, ?_, ?_, on_ad h.on k.on⟩
 ·rw [ad_z hp hq]
  exact mul_ne e3 e4
 ·rw [ad_x hp hq, ad_z hp hq, e1]
  exact ie1 _ _ _
 ·rw [ad_y hp hq, ad_z hp hq, e2]
  exact ie2 _ _ _
 ·rw [ad_t hp hq, ad_z hp hq, e1, e2]
  exact ie3 _ _ _ _
theorem id0 {d x y z : Fin pp} (ho : y * y - x * x - 1 - d * (x * x) * (y * y) = 0) : y * z * (y * z) - x * z * (x * z) = (z * z) * (1 + d * (x * x) * (y * y)) := by grind
theorem id1 {d x y z S : Fin pp} (hs : S * (1 + d * (x * x) * (y * y)) = x * y + y * x) (ho : y * y - x * x - 1 - d * (x * x) * (y * y) = 0) : x * z * (y * z) + x * z * (y * z) = S * (y * z * (y * z) - x * z * (x * z)) := by
 rw [id0 ho]
 grind
theorem id4 {d x y z : Fin pp} (ho : y * y - x * x - 1 - d * (x * x) * (y * y) = 0) : z * z + z * z - (y * z * (y * z) - x * z * (x * z)) = (z * z) * (1 - d * (x * x) * (y * y)) := by
 rw [id0 ho]
 grind
theorem id2 {d x y z S : Fin pp} (hs : S * (1 - d * (x * x) * (y * y)) = y * y + x * x) (ho : y * y - x * x - 1 - d * (x * x) * (y * y) = 0) : y * z * (y * z) + x * z * (x * z) = S * (z * z + z * z - (y * z * (y * z) - x * z * (x * z))) := by
 rw [id4 ho]
 grind
theorem is_do {p : Pm} {P : A2} (hp : p.ok) (h : Is p P) : Is (doP p) (adA P P) := by
 have e1 : fp p.x * fp p.y + fp p.x * fp p.y = (adA P P).1 * fp (unD p) := by
  rw [un_f hp, h.x, h.y]
  exact id1 (ad_1 h.on h.on) h.on
 have e2 : fp p.y * fp p.y + fp p.x * fp p.x = (adA P P).2 * (fp p.z * fp p.z + fp p.z * fp p.z - fp (unD p)) := by
  rw [un_f hp, h.x, h.y]
  exact id2 (ad_2 h.on h.on) h.on
 have e3 : fp (unD p) ≠ 0 := by
  rw [un_f hp, h.x, h.y, id0 h.on]
  exact mul_ne (mul_ne h.z h.z) (cplus h.on h.on)
 have e4 : fp p.z * fp p.z + fp p.z * fp p.z - fp (unD p) ≠ 0 := by
  rw [un_f hp, h.x, h.y, id4 h.on]
  exact mul_ne (mul_ne h.z h.z) (cminus h.on h.on)
 refine ⟨?_, ?_, ?_, ?_, on_ad h.on h.on⟩
 ·rw [do_z hp]
  exact mul_ne e3 e4
 ·rw [do_x hp, do_z hp, e1]
  exact ie1 _ _ _
 ·rw [do_y hp, do_z hp, e2]
  exact ie2 _ _ _
 ·rw [do_t hp, do_z hp, e1, e2]
  exact ie3 _ _ _ _
def O2 : A2 := (0, 1)
theorem on_O : On O2 := by
 unfold On O2 dF
 rw [d_f]
 decide
theorem is_ze : Is ze1 O2 := ⟨by rw [ze_z]; decide, by rw [ze_x]; exact (Fin.zero_mul _).symm, by rw [ze_y, ze_z]; decide, by rw [ze_t]; unfold O2; grind, on_O⟩
theorem is_at {x y : Lm} (h : On (fp x, fp y)) : Is (atP x y) (fp x, fp y) := by
 have hz : fp (atP x y).z = 1 := fp_1
 refine ⟨by rw [hz]; decide, by rw [hz]; exact (Fin.mul_one _).symm, by rw [hz]; exact (Fin.mul_one _).symm, ?_, h⟩
 rw [hz]
 exact (fp_mul x y).trans (Fin.mul_one _).symm
def ngA (P : A2) : A2 := (-P.1, P.2)
theorem on_ng {P : A2} (h : On P) : On (ngA P) := by
 have h' : P.2 * P.2 - P.1 * P.1 - 1 - dF * (P.1 * P.1) * (P.2 * P.2) = 0 := h
 show P.2 * P.2 - -P.1 * -P.1 - 1 - dF * (-P.1 * -P.1) * (P.2 * P.2) = 0
 grind
theorem in1 (x z : Fin pp) : -(x * z) = -x * z := by grind
theorem in2 (x y z : Fin pp) : -(x * y * z) = -x * y * z := by grind
theorem is_ng {p : Pm} {P : A2} (hp : p.ok) (h : Is p P) : Is (ngP p) (ngA P) := by
 refine ⟨h.z, ?_, h.y, ?_, on_ng h.on⟩
 ·exact (fp_neg hp.x).trans (by rw [h.x]; exact in1 _ _)
 ·exact (fp_neg hp.t).trans (by rw [h.t]; exact in2 _ _ _)
theorem ba_on : On (fp baP.x, fp baP.y) := by
 have := ba_curve
 show fp baP.y * fp baP.y - fp baP.x * fp baP.x - 1 - fp dL * (fp baP.x * fp baP.x) * (fp baP.y * fp baP.y) = 0
 grind
def bA : A2 := (fp (ofB bxN), fp (ofB byN))
theorem is_ba : Is baP bA := is_at ba_on
theorem ad_zero (P : A2) : adA P O2 = P := by
 have f1 : fi 1 = 1 := by
  have := fi_mul (a := 1) (by decide)
  rwa [Fin.mul_one] at this
 have t0 : tt P O2 = 0 := by
  show dF * (P.1 * 0) * (P.2 * 1) = 0
  rw [Fin.mul_zero, Fin.mul_zero, Fin.zero_mul]
 have e1 : (1 : Fin pp) + tt P O2 = 1 := by rw [t0]; decide
 have e2 : (1 : Fin pp) - tt P O2 = 1 := by rw [t0]; decide
 unfold adA
 rw [e1, e2, f1]
 refine Prod.ext ?_ ?_
 ·show (P.1 * 1 + P.2 * 0) * 1 = P.1
  grind
 ·show (P.2 * 1 + P.1 * 0) * 1 = P.2
  grind
theorem zero_ad (P : A2) : adA O2 P = P := by rw [ad_comm, ad_zero]
def sm : Nat → A2 → A2
 | 0, _ => O2
 | n + 1, P => adA (sm n P) P
theorem on_sm {P : A2} (h : On P) : ∀ n, On (sm n P)
 | 0 => on_O
 | n + 1 => on_ad (on_sm h n) h
theorem sm_one (P : A2) : sm 1 P = P := zero_ad P
theorem sm_add {P : A2} (h : On P) (m : Nat) : ∀ n, sm (m + n) P = adA (sm m P) (sm n P)
 | 0 => (ad_zero _).symm
 | n + 1 => by
  show adA (sm (m + n) P) P = adA (sm m P) (adA (sm n P) P)
  rw [sm_add h m n, ad_assoc (on_sm h m) (on_sm h n) h]
theorem sm_mul {P : A2} (h : On P) (m : Nat) : ∀ n, sm (n * m) P = sm n (sm m P)
 | 0 => by rw [Nat.zero_mul]; rfl
 | n + 1 => by
  rw [Nat.add_mul, Nat.one_mul, sm_add h, sm_mul h m n]
  rfl
theorem ad_mid {A B C D : A2} (hA : On A) (hB : On B) (hC : On C) (hD : On D) : adA (adA A B) (adA C D) = adA (adA A C) (adA B D) := by
 rw [ad_assoc hA hB (on_ad hC hD), ← ad_assoc hB hC hD, ad_comm B C, ad_assoc hC hB hD, ← ad_assoc hA hC (on_ad hB hD)]
theorem sm_ad {P Q : A2} (h : On P) (k : On Q) : ∀ n, sm n (adA P Q) = adA (sm n P) (sm n Q)
 | 0 => (ad_zero O2).symm
 | n + 1 => by
  show adA (sm n (adA P Q)) (adA P Q) = adA (adA (sm n P) P) (adA (sm n Q) Q)
  rw [sm_ad h k n, ad_mid (on_sm h n) (on_sm k n) h k]
theorem sm_16 {P : A2} (h : On P) : adA (adA (adA (adA P P) (adA P P)) (adA (adA P P) (adA P P))) (adA (adA (adA P P) (adA P P)) (adA (adA P P) (adA P P))) = sm 16 P := by
 have e2 : adA P P = sm 2 P := by rw [show 2 = 1 + 1 from rfl, sm_add h, sm_one]
 rw [e2, ← sm_add h, ← sm_add h, ← sm_add h]
theorem is_do4 {p : Pm} {P : A2} (hp : p.ok) (h : Is p P) : Is (do4 p) (sm 16 P) := by
 rw [← sm_16 h.on]
 have h1 := is_do hp h
 have h2 := is_do (doP_ok hp) h1
 have h3 := is_do (doP_ok (doP_ok hp)) h2
 exact is_do (doP_ok (doP_ok (doP_ok hp))) h3
theorem is_tab {p : Pm} {P : A2} (hp : p.ok) (h : Is p P) : ∀ n, Is (tabP p n) (sm n P)
 | 0 => is_ze
 | n + 1 => is_ad (tabP_ok hp n) hp (is_tab hp h n) h
theorem dig_up (N m : Nat) : N / 2 ^ (4 * m) = N / 2 ^ (4 * (m + 1)) * 16 + N / 2 ^ (4 * m) % 16 := by
 rw [Nat.mul_add, Nat.pow_add, ← Nat.div_div_eq_div_mul]
 generalize N / 2 ^ (4 * m) = v
 show v = v / 16 * 16 + v % 16
 omega
theorem is_tog1 {p : Pm} {P : A2} {N : Nat} (hp : p.ok) (hN : N < 2 ^ 256) (h : Is p P) : ∀ k, k ≤ 64 → Is (togU [(N, p)] k) (sm (N / 2 ^ (4 * (64 - k))) P)
 | 0, _ => by
  rw [show 4 * (64 - 0) = 256 from rfl, Nat.div_eq_of_lt hN]
  exact is_ze
 | k + 1, hk => by
  have ih := is_tog1 hp hN h k (by omega)
  have hok : (togU [(N, p)] k).ok := togU_ok _ (fun s hs => by rw [List.mem_singleton.1 hs]; exact hp) _
  have e1 : 64 - (k + 1) = 63 - k := by omega
  have e2 : 64 - k = (63 - k) + 1 := by omega
  rw [e2] at ih
  rw [e1, dig_up, sm_add h.on, Nat.mul_comm, sm_mul h.on]
  show Is (adP (do4 (togU [(N, p)] k)) (tabP p (N / 2 ^ (4 * (63 - k)) % 16))) _
  exact is_ad (do4_ok hok) (tabP_ok hp _) (is_do4 hok ih) (is_tab hp h _)
theorem is_mu {p : Pm} {P : A2} {N : Nat} (hp : p.ok) (hN : N < 2 ^ 256) (h : Is p P) : Is (muP p N) (sm N P) := by
 have := is_tog1 hp hN h 64 (by omega)
 rwa [show 4 * (64 - 64) = 0 from rfl, Nat.pow_zero, Nat.div_one] at this
theorem is_tog2 {p q : Pm} {P Q : A2} {N M : Nat} (hp : p.ok) (hq : q.ok) (hN : N < 2 ^ 256) (hM : M < 2 ^ 256) (h : Is p P) (g : Is q Q) : ∀ k, k ≤ 64 → Is (togU [(N, p), (M, q)] k) (adA (sm (N / 2 ^ (4 * (64 - k))) P) (sm (M / 2 ^ (4 * (64 - k))) Q))
 | 0, _ => by
  rw [show 4 * (64 - 0) = 256 from rfl, Nat.div_eq_of_lt hN, Nat.div_eq_of_lt hM]
  show Is ze1 (adA O2 O2)
  rw [ad_zero]
  exact is_ze
 | k + 1, hk => by
  have ih := is_tog2 hp hq hN hM h g k (by omega)
  have hok : (togU [(N, p), (M, q)] k).ok := togU_ok _ (fun s hs => by
   rcases List.mem_cons.1 hs with rfl | hs
   ·exact hp
   ·rw [List.mem_singleton.1 hs]; exact hq) _
  have e1 : 64 - (k + 1) = 63 - k := by omega
  have e2 : 64 - k = (63 - k) + 1 := by omega
  rw [e2] at ih
  rw [e1, dig_up N, dig_up M, sm_add h.on, sm_add g.on, Nat.mul_comm, sm_mul h.on, Nat.mul_comm (M / _), sm_mul g.on]
  have r := is_do4 hok ih
  rw [sm_ad (on_sm h.on _) (on_sm g.on _)] at r
  have r1 := is_ad (do4_ok hok) (tabP_ok hp (N / 2 ^ (4 * (63 - k)) % 16)) r (is_tab hp h (N / 2 ^ (4 * (63 - k)) % 16))
  have r2 := is_ad (adP_ok (do4_ok hok) (tabP_ok hp (N / 2 ^ (4 * (63 - k)) % 16))) (tabP_ok hq (M / 2 ^ (4 * (63 - k)) % 16)) r1 (is_tab hq g (M / 2 ^ (4 * (63 - k)) % 16))
  have oA := on_sm (on_sm h.on (N / 2 ^ (4 * (63 - k + 1)))) 16
  have oB := on_sm (on_sm g.on (M / 2 ^ (4 * (63 - k + 1)))) 16
  have oC := on_sm h.on (N / 2 ^ (4 * (63 - k)) % 16)
  have oD := on_sm g.on (M / 2 ^ (4 * (63 - k)) % 16)
  rw [ad_assoc (on_ad oA oB) oC oD, ad_mid oA oB oC oD] at r2
  exact r2
theorem is_bo {p : Pm} {P : A2} {N M : Nat} (hp : p.ok) (hN : N < 2 ^ 256) (hM : M < 2 ^ 256) (h : Is p P) : Is (boP p N M) (adA (sm N P) (sm M bA)) := by
 have := is_tog2 hp baP_ok hN hM h is_ba 64 (by omega)
 rwa [show 4 * (64 - 64) = 0 from rfl, Nat.pow_zero, Nat.div_one, Nat.div_one] at this
end
section
open Go.RowKit
def frc {α : Type} (s : Nat) (F : Nat → α) : α :=
 match s with
 | 0 => F 0
 | n + 1 => F (n + 1)
theorem frc_eq {α : Type} (s : Nat) (F : Nat → α) : frc s F = F s := by cases s <;> rfl
def fN (n : Nat) : Fin pp := ⟨n % pp, Nat.mod_lt _ (by decide)⟩
theorem fN_mod (n : Nat) : fN (n % pp) = fN n := Fin.ext (Nat.mod_mod _ _)
theorem fN_mul (a b : Nat) : fN (a * b) = fN a * fN b := Fin.ext (by rw [Fin.val_mul]; exact Nat.mul_mod _ _ _)
theorem fN_add (a b : Nat) : fN (a + b) = fN a + fN b := Fin.ext (by rw [Fin.val_add]; exact Nat.add_mod _ _ _)
theorem fN_pp : fN pp = 0 := by decide
theorem fN_sub {a b : Nat} (h : b ≤ pp) : fN (a + (pp - b)) = fN a - fN b := by
 have e : fN (pp - b) + fN b = 0 := by rw [← fN_add, Nat.sub_add_cancel h, fN_pp]
 rw [fN_add]
 grind
def BB : Nat := 115792089237316195423570985008687907853269984665640564039457584007913129639936
def cdN (x y z : Nat) : Nat := x + BB * (y + BB * z)
def dwN : Nat := dN * (bxN * byN) % pp
def dbN (x y z : Nat) : Nat :=
 frc (y * y % pp) fun b => frc (x * x % pp) fun a => frc ((b + (pp - a)) % pp) fun u => frc (2 * (z * z) % pp) fun c => frc ((c + (pp - u)) % pp) fun g =>
  frc (2 * (x * y) * g % pp) fun X => frc ((b + a) * u % pp) fun Y => frc (u * g % pp) fun Z => cdN X Y Z
def adN (x y z : Nat) : Nat :=
 frc ((x * byN + y * bxN) * z % pp) fun a => frc ((y * byN + x * bxN) * z % pp) fun b => frc (z * z % pp) fun c => frc (dwN * (x * y) % pp) fun w => frc ((c + w) % pp) fun f => frc ((c + (pp - w)) % pp) fun g =>
  frc (a * g % pp) fun X => frc (b * f % pp) fun Y => frc (f * g % pp) fun Z => cdN X Y Z
def opn (s : Nat) (F : Nat → Nat → Nat → Nat) : Nat := frc (s % BB) fun x => frc (s / BB % BB) fun y => frc (s / BB / BB) fun z => F x y z
def qN : Nat := 7237005577332262213973186563042994240857116359379907606001950938285454250989
def runN : Nat → Nat
 | 0 => cdN 0 1 1
 | k + 1 => frc (runN k) fun s => frc (opn s dbN) fun t => if qN / 2 ^ (252 - k) % 2 = 1 then opn t adN else t
def I3 (x y z : Nat) (P : A2) : Prop := fN z ≠ 0 ∧ fN x = P.1 * fN z ∧ fN y = P.2 * fN z ∧ On P
theorem pp_BB : pp < BB := by decide
theorem opn_cd {x y z : Nat} (hx : x < BB) (hy : y < BB) (F : Nat → Nat → Nat → Nat) : opn (cdN x y z) F = F x y z := by
 have h0 : 0 < BB := by decide
 have e1 : cdN x y z % BB = x := by unfold cdN; rw [Nat.add_mul_mod_self_left, Nat.mod_eq_of_lt hx]
 have e2 : cdN x y z / BB = y + BB * z := by unfold cdN; rw [Nat.add_mul_div_left _ _ h0, Nat.div_eq_of_lt hx, Nat.zero_add]
 unfold opn
 rw [frc_eq, frc_eq, frc_eq, e1, e2, Nat.add_mul_mod_self_left, Nat.mod_eq_of_lt hy, Nat.add_mul_div_left _ _ h0, Nat.div_eq_of_lt hy, Nat.zero_add]
def I4 (s : Nat) (P : A2) : Prop := ∃ x y z, s = cdN x y z ∧ x < BB ∧ y < BB ∧ I3 x y z P
theorem mlt (n : Nat) : n % pp < BB := Nat.lt_trans (Nat.mod_lt _ (by decide)) pp_BB
theorem mle (n : Nat) : n % pp ≤ pp := Nat.le_of_lt (Nat.mod_lt _ (by decide))
theorem fN_2 : fN 2 = 2 := by decide
theorem two_xy (x y : Fin pp) : 2 * (x * y) = x * y + x * y := by grind
theorem two_zz (z : Fin pp) : 2 * (z * z) = z * z + z * z := by grind
theorem i_db {x y z : Nat} {P : A2} (h : I3 x y z P) : I4 (dbN x y z) (adA P P) := by
 obtain ⟨hz, hx, hy, ho⟩ := h
 unfold dbN
 simp only [frc_eq]
 refine ⟨_, _, _, rfl, mlt _, mlt _, ?_⟩
 have eu : fN ((y * y % pp + (pp - x * x % pp)) % pp) = fN y * fN y - fN x * fN x := by
  rw [fN_mod, fN_sub (mle _), fN_mod, fN_mod, fN_mul, fN_mul]
 have eg : fN ((2 * (z * z) % pp + (pp - (y * y % pp + (pp - x * x % pp)) % pp)) % pp) = fN z * fN z + fN z * fN z - (fN y * fN y - fN x * fN x) := by
  rw [fN_mod, fN_sub (mle _), eu, fN_mod, fN_mul, fN_mul, fN_2, two_zz]
 generalize (2 * (z * z) % pp + (pp - (y * y % pp + (pp - x * x % pp)) % pp)) % pp = G at *
 generalize (y * y % pp + (pp - x * x % pp)) % pp = U at *
 have e3 : fN U ≠ 0 := by
  rw [eu, hx, hy, id0 ho]
  exact mul_ne (mul_ne hz hz) (cplus ho ho)
 have e4 : fN G ≠ 0 := by
  rw [eg, hx, hy, id4 ho]
  exact mul_ne (mul_ne hz hz) (cminus ho ho)
 have e1 : fN x * fN y + fN x * fN y = (adA P P).1 * fN U := by
  rw [eu, hx, hy]
  exact id1 (ad_1 ho ho) ho
 have e2 : fN y * fN y + fN x * fN x = (adA P P).2 * fN G := by
  rw [eg, hx, hy]
  exact id2 (ad_2 ho ho) ho
 refine ⟨?_, ?_, ?_, on_ad ho ho⟩
 ·rw [fN_mod, fN_mul]
  exact mul_ne e3 e4
 ·rw [fN_mod, fN_mod, fN_mul, fN_mul, fN_mul, fN_mul, fN_2, two_xy, e1]
  exact ie1 _ _ _
 ·rw [fN_mod, fN_mod, fN_mul, fN_mul, fN_add, fN_mod, fN_mod, fN_mul, fN_mul, e2]
  exact ie2 _ _ _
theorem bA_1 : bA.1 = fN bxN := by
 show fp (ofB bxN) = fN bxN
 exact ba_x.trans (by decide)
theorem bA_2 : bA.2 = fN byN := by
 show fp (ofB byN) = fN byN
 exact ba_y.trans (by decide)
theorem on_bA : On bA := ba_on
theorem dF_N : dF = fN dN := d_f.trans (by decide)
theorem ib1 {d X Y bx by' z S : Fin pp} (hs : S * (1 + d * (X * bx) * (Y * by')) = X * by' + Y * bx) : (X * z * by' + Y * z * bx) * z = S * (z * z + d * (bx * by') * (X * z * (Y * z))) := by grind
theorem ib2 {d X Y bx by' z S : Fin pp} (hs : S * (1 - d * (X * bx) * (Y * by')) = Y * by' + X * bx) : (Y * z * by' + X * z * bx) * z = S * (z * z - d * (bx * by') * (X * z * (Y * z))) := by grind
theorem ib3 (d X Y bx by' z : Fin pp) : z * z + d * (bx * by') * (X * z * (Y * z)) = (z * z) * (1 + d * (X * bx) * (Y * by')) := by grind
theorem ib4 (d X Y bx by' z : Fin pp) : z * z - d * (bx * by') * (X * z * (Y * z)) = (z * z) * (1 - d * (X * bx) * (Y * by')) := by grind
theorem i_ad {x y z : Nat} {P : A2} (h : I3 x y z P) : I4 (adN x y z) (adA P bA) := by
 obtain ⟨hz, hx, hy, ho⟩ := h
 unfold adN
 simp only [frc_eq]
 refine ⟨_, _, _, rfl, mlt _, mlt _, ?_⟩
 have ew : fN (dwN * (x * y) % pp) = dF * (bA.1 * bA.2) * (fN x * fN y) := by
  unfold dwN
  rw [fN_mod, fN_mul, fN_mod, fN_mul, fN_mul, fN_mul, ← dF_N, ← bA_1, ← bA_2]
 have ef : fN ((z * z % pp + dwN * (x * y) % pp) % pp) = fN z * fN z + dF * (bA.1 * bA.2) * (fN x * fN y) := by
  rw [fN_mod, fN_add, ew, fN_mod, fN_mul]
 have eg : fN ((z * z % pp + (pp - dwN * (x * y) % pp)) % pp) = fN z * fN z - dF * (bA.1 * bA.2) * (fN x * fN y) := by
  rw [fN_mod, fN_sub (mle _), ew, fN_mod, fN_mul]
 generalize (z * z % pp + dwN * (x * y) % pp) % pp = U at *
 generalize (z * z % pp + (pp - dwN * (x * y) % pp)) % pp = G at *
 have e3 : fN U ≠ 0 := by
  rw [ef, hx, hy, ib3]
  exact mul_ne (mul_ne hz hz) (cplus ho on_bA)
 have e4 : fN G ≠ 0 := by
  rw [eg, hx, hy, ib4]
  exact mul_ne (mul_ne hz hz) (cminus ho on_bA)
 have e1 : (fN x * bA.2 + fN y * bA.1) * fN z = (adA P bA).1 * fN U := by
  rw [ef, hx, hy]
  exact ib1 (ad_1 ho on_bA)
 have e2 : (fN y * bA.2 + fN x * bA.1) * fN z = (adA P bA).2 * fN G := by
  rw [eg, hx, hy]
  exact ib2 (ad_2 ho on_bA)
 refine ⟨?_, ?_, ?_, on_ad ho on_bA⟩
 ·rw [fN_mod, fN_mul]
  exact mul_ne e3 e4
 ·rw [fN_mod, fN_mod, fN_mul, fN_mul, fN_mod, fN_mul, fN_add, fN_mul, fN_mul, ← bA_1, ← bA_2, e1]
  exact ie1 _ _ _
 ·rw [fN_mod, fN_mod, fN_mul, fN_mul, fN_mod, fN_mul, fN_add, fN_mul, fN_mul, ← bA_1, ← bA_2, e2]
  exact ie2 _ _ _
theorem bit_up (N m : Nat) : N / 2 ^ m = N / 2 ^ (m + 1) * 2 + N / 2 ^ m % 2 := by
 rw [Nat.pow_add, ← Nat.div_div_eq_div_mul]
 generalize N / 2 ^ m = v
 show v = v / 2 * 2 + v % 2
 omega
theorem sm_two {P : A2} (h : On P) (n : Nat) : sm (n * 2) P = adA (sm n P) (sm n P) := by rw [Nat.mul_two, sm_add h]
theorem run_is : ∀ k, k ≤ 253 → I4 (runN k) (sm (qN / 2 ^ (253 - k)) bA)
 | 0, _ => by
  rw [show sm (qN / 2 ^ (253 - 0)) bA = O2 from by rw [show qN / 2 ^ (253 - 0) = 0 from by decide]; rfl]
  exact ⟨0, 1, 1, rfl, by decide, by decide, by decide, by decide, by decide, on_O⟩
 | k + 1, hk => by
  have ih := run_is k (by omega)
  have e1 : 253 - (k + 1) = 252 - k := by omega
  have e2 : 253 - k = (252 - k) + 1 := by omega
  rw [e2] at ih
  rw [e1, bit_up, sm_add on_bA, sm_two on_bA]
  generalize sm (qN / 2 ^ (252 - k + 1)) bA = A at *
  obtain ⟨x, y, z, hs, hx, hy, h3⟩ := ih
  obtain ⟨x', y', z', hs', hx', hy', h3'⟩ := i_db h3
  show I4 (frc (runN k) fun s => frc (opn s dbN) fun t => if qN / 2 ^ (252 - k) % 2 = 1 then opn t adN else t) _
  rw [frc_eq, frc_eq, hs, opn_cd hx hy, hs']
  have hb : qN / 2 ^ (252 - k) % 2 = 0 ∨ qN / 2 ^ (252 - k) % 2 = 1 := by
   have := Nat.mod_lt (qN / 2 ^ (252 - k)) (by decide : 0 < 2)
   omega
  rcases hb with hb | hb
  ·rw [hb, if_neg (by decide)]
   show I4 _ (adA (adA A A) O2)
   rw [ad_zero]
   exact ⟨x', y', z', rfl, hx', hy', h3'⟩
  ·rw [hb, if_pos rfl, opn_cd hx' hy', sm_one]
   exact i_ad h3'
theorem run_end : (runN 253 % BB == 0 && runN 253 / BB % BB == runN 253 / BB / BB) = true := by decide +kernel
theorem sm_q : sm qN bA = O2 := by
 obtain ⟨x, y, z, hs, hx, hy, hz, h1, h2, _⟩ := run_is 253 (by omega)
 rw [show 253 - 253 = 0 from rfl, Nat.pow_zero, Nat.div_one] at h1 h2
 have he := run_end
 have a1 : cdN x y z % BB = x := by unfold cdN; rw [Nat.add_mul_mod_self_left, Nat.mod_eq_of_lt hx]
 have a2 : cdN x y z / BB = y + BB * z := by unfold cdN; rw [Nat.add_mul_div_left _ _ (by decide), Nat.div_eq_of_lt hx, Nat.zero_add]
 rw [hs, a1, a2, Nat.add_mul_mod_self_left, Nat.mod_eq_of_lt hy, Nat.add_mul_div_left _ _ (by decide), Nat.div_eq_of_lt hy, Nat.zero_add, Bool.and_eq_true, beq_iff_eq, beq_iff_eq] at he
 obtain ⟨rfl, rfl⟩ := he
 refine Prod.ext ?_ ?_
 ·have e : (sm qN bA).1 * fN y = 0 := h1.symm.trans (by decide)
  exact (fp_dom e).resolve_right hz
 ·refine canc hz ?_
  rw [← h2]
  exact (Fin.one_mul _).symm
end
end
section
section
open Go.RowKit
structure Rp.ok (r : Rp) : Prop where
 x : r.x.ok
 y : r.y.ok
 z : r.z.ok
theorem z24 : (#[.int .u32 0, .int .u32 0, .int .u32 0, .int .u32 0, .int .u32 0, .int .u32 0, .int .u32 0, .int .u32 0, .int .u32 0, .int .u32 0, .int .u32 0, .int .u32 0, .int .u32 0, .int .u32 0, .int .u32 0, .int .u32 0, .int .u32 0, .int .u32 0, .int .u32 0, .int .u32 0, .int .u32 0, .int .u32 0, .int .u32 0, .int .u32 0] : Array Value) = (RL zeR).toArray := by rw [RL_zero]
theorem rt_x (r : Rp) : ∀ j v, (Nw (nu r.x))[j]? = some v → (RL r)[0 + j]? = some v := part0
theorem rt_y (r : Rp) : ∀ j v, (Nw (nu r.y))[j]? = some v → (RL r)[8 + j]? = some v := part_skip (n := 8) (m := 0) (Nw_length _) part0
theorem rt_z (r : Rp) : ∀ j v, (Nw (nu r.z))[j]? = some v → (RL r)[16 + j]? = some v := part_skip (n := 8) (m := 8) (Nw_length _) (part_skip (n := 8) (m := 0) (Nw_length _) (fun j v h => by rw [Nat.zero_add]; exact h))
theorem fr_x (g : Nat) (w : World) : (Instr.fieldAt 39 (.pointer (some ⟨g, 0, none⟩)) 0).run Tryz.prog w = .ok (.pointer (some ⟨g, 0, none⟩)) w := by kernel_rfl
theorem fr_y (g : Nat) (w : World) : (Instr.fieldAt 39 (.pointer (some ⟨g, 0, none⟩)) 1).run Tryz.prog w = .ok (.pointer (some ⟨g, 8, none⟩)) w := by kernel_rfl
theorem fr_z (g : Nat) (w : World) : (Instr.fieldAt 39 (.pointer (some ⟨g, 0, none⟩)) 2).run Tryz.prog w = .ok (.pointer (some ⟨g, 16, none⟩)) w := by kernel_rfl
theorem nw_len (N : Nat) : (Tryz.prog.info? 37).map (·.size) = some (Nw N).length := nw_size.trans (by rw [Nw_length])
theorem Gives.build3 {P : Program} {S : World → Prop} {o : Oper} {a : Act} (T : TypeId) (x0 x1 x2 : Operand) (ho : o.op = .build T #[(0, x0), (1, x1), (2, x2)]) (u0 u1 u2 v : Value) (h0 : a.eval x0 = u0) (h1 : a.eval x1 = u1) (h2 : a.eval x2 = u2)
  (hrun : ∀ w, (Instr.build T #[(0, u0), (1, u1), (2, u2)]).run P w = .ok v w) : Gives P S o v a :=
 Gives.run fun w _ => by
  unfold execOp
  simp only [ho, Sem.run_bind, Sem.run_pure, List.map_toArray, List.map_cons, List.map_nil, h0, h1, h2, hrun, Result.andThen_ok]
def radP (p q : Rp) (d : Lm) : Rp :=
 ⟨mulL (mulL (addL (mulL p.x q.y) (mulL p.y q.x)) (mulL p.z q.z)) (subL (mulL (mulL p.z q.z) (mulL p.z q.z)) (mulL d (mulL (mulL p.x q.x) (mulL p.y q.y)))),
 mulL (mulL (addL (mulL p.y q.y) (mulL p.x q.x)) (mulL p.z q.z)) (addL (mulL (mulL p.z q.z) (mulL p.z q.z)) (mulL d (mulL (mulL p.x q.x) (mulL p.y q.y)))),
 mulL (addL (mulL (mulL p.z q.z) (mulL p.z q.z)) (mulL d (mulL (mulL p.x q.x) (mulL p.y q.y)))) (subL (mulL (mulL p.z q.z) (mulL p.z q.z)) (mulL d (mulL (mulL p.x q.x) (mulL p.y q.y))))⟩
set_option maxHeartbeats 6400000 in
theorem addp_ref {p q : Rp} {d : Lm} (hp : p.ok) (hk : q.ok) (hd : d.ok) (w : World) :
  Calls Tryz.prog 47 #[.agg (RL p).toArray, .agg (RL q).toArray, .agg (Nw (nu d)).toArray] w fun e w' => e = .returned (.agg (RL (radP p q d)).toArray) ∧ Below w.heap.size w w' := by
 have hb0 := ((((Row.new w (RL p) 39)).alloc (.cells (RL q).toArray 39)).alloc (.cells (Nw (nu d)).toArray 37)).alloc (.cells (RL zeR).toArray 39)
 have hb1 := (((Row.new1 w (.cells (RL p).toArray 39) (RL q) 39)).alloc (.cells (Nw (nu d)).toArray 37)).alloc (.cells (RL zeR).toArray 39)
 have hb2 := ((Row.new2 w (.cells (RL p).toArray 39) (.cells (RL q).toArray 39) (Nw (nu d)) 37)).alloc (.cells (RL zeR).toArray 39)
 have hz := (Row.new3 w (.cells (RL p).toArray 39) (.cells (RL q).toArray 39) (.cells (Nw (nu d)).toArray 37) (RL zeR) 39)
 have hw := Below.alloc4 w (.cells (RL p).toArray 39) (.cells (RL q).toArray 39) (.cells (Nw (nu d)).toArray 37) (.cells (RL zeR).toArray 39)
 go_enter Tryz.func47, Tryz.ntmps47
 go_wp2_with fail
 rw [z24]
 generalize ((((w.alloc (.cells (RL p).toArray 39)).alloc (.cells (RL q).toArray 39)).alloc (.cells (Nw (nu d)).toArray 37)).alloc (.cells (RL zeR).toArray 39)) = W0 at *
 have lt_hb0 := hb0.lt
 have lt_hb1 := hb1.lt
 have lt_hb2 := hb2.lt
 have lt_hz := hz.lt
 refine wp_vars_one (aD := ?aD1) (B := W0.heap.size) (S := fun w' => Below W0.heap.size W0 w') (k1 := 11) (s1 := 12) (T1 := 37) (L1 := 37) (z1 := Nw 0) (c1 := Nw (nu (addL (mulL p.x q.y) (mulL p.y q.x)))) (x1 := .tmp 7) (y1 := .tmp 26)
  (vs := [(0, .pointer (some ⟨w.heap.size, 0, none⟩)), (1, .agg (Nw (nu p.x)).toArray), (2, .pointer (some ⟨w.heap.size + 1, 8, none⟩)), (3, .agg (Nw (nu q.y)).toArray), (4, .agg (Nw (nu (mulL p.x q.y))).toArray), (5, .pointer (some ⟨w.heap.size, 8, none⟩)), (6, .agg (Nw (nu p.y)).toArray), (7, .pointer (some ⟨w.heap.size + 1, 0, none⟩)), (8, .agg (Nw (nu q.x)).toArray), (9, .agg (Nw (nu (mulL p.y q.x))).toArray), (10, .agg (Nw (nu (addL (mulL p.x q.y) (mulL p.y q.x)))).toArray)]) (by kernel_rfl) ((Below.refl _ _).drew) (fun _ _ h k => S_trans h k) (fun _ _ cs h hg => S_row h hg cs) (fun _ h => h.size) ?hD1 (.of rfl rfl rfl (fun w' => nw_alloc w')) ?hk1 rfl rfl (some 7) rfl rfl rfl ?e11 ?f11 (nw_info _) (Nw_sz _ _) (Nw_one _) ?h1
 case hD1 =>
  refine .s 16 rfl (Gives.fieldAt 39 (.tmp 3) 0 rfl _ _ rfl (fun w' => fr_x (w.heap.size) w')) ?_
  refine .s 17 rfl (Gives.load_at 37 (.tmp 16) rfl ⟨w.heap.size, 0, none⟩ rfl (Nw (nu p.x)) _ (fun w' h => (hb0.belowAll h).part 0 (Nw (nu p.x)) (rt_x _)) Tryz.underlying37 rfl (nw_len _)) ?_
  refine .s 18 rfl (Gives.fieldAt 39 (.tmp 4) 1 rfl _ _ rfl (fun w' => fr_y (w.heap.size + 1) w')) ?_
  refine .s 19 rfl (Gives.load_at 37 (.tmp 18) rfl ⟨w.heap.size + 1, 8, none⟩ rfl (Nw (nu q.y)) _ (fun w' h => (hb1.belowAll h).part 8 (Nw (nu q.y)) (rt_y _)) Tryz.underlying37 rfl (nw_len _)) ?_
  refine .s 20 rfl (Gives.c (args := [.agg (Nw (nu p.x)).toArray, .agg (Nw (nu q.y)).toArray]) rfl Tryz.func36 (fun w' h => mulr_nu p.x q.y w')) ?_
  refine .s 21 rfl (Gives.fieldAt 39 (.tmp 3) 1 rfl _ _ rfl (fun w' => fr_y (w.heap.size) w')) ?_
  refine .s 22 rfl (Gives.load_at 37 (.tmp 21) rfl ⟨w.heap.size, 8, none⟩ rfl (Nw (nu p.y)) _ (fun w' h => (hb0.belowAll h).part 8 (Nw (nu p.y)) (rt_y _)) Tryz.underlying37 rfl (nw_len _)) ?_
  refine .s 23 rfl (Gives.fieldAt 39 (.tmp 4) 0 rfl _ _ rfl (fun w' => fr_x (w.heap.size + 1) w')) ?_
  refine .s 24 rfl (Gives.load_at 37 (.tmp 23) rfl ⟨w.heap.size + 1, 0, none⟩ rfl (Nw (nu q.x)) _ (fun w' h => (hb1.belowAll h).part 0 (Nw (nu q.x)) (rt_x _)) Tryz.underlying37 rfl (nw_len _)) ?_
  refine .s 25 rfl (Gives.c (args := [.agg (Nw (nu p.y)).toArray, .agg (Nw (nu q.x)).toArray]) rfl Tryz.func36 (fun w' h => mulr_nu p.y q.x w')) ?_
  refine .s 26 rfl (Gives.c (args := [.agg (Nw (nu (mulL p.x q.y))).toArray, .agg (Nw (nu (mulL p.y q.x))).toArray]) rfl Tryz.func39 (fun w' h => addr_nu (mulL p.x q.y) (mulL p.y q.x) w')) ?_
  exact .nil
 case hk1 => kernel_rfl
 case e11 => intro i1; rfl
 case f11 => intro i1; rfl
 case h1 =>
 intro g7 W1 hb hg1 h7
 have ge_g7 := Nat.le_trans hw.size hg1
 have ne_hb0_g7 : w.heap.size ≠ g7 := by omega
 have ne_hb1_g7 : w.heap.size + 1 ≠ g7 := by omega
 have ne_hb2_g7 : w.heap.size + 1 + 1 ≠ g7 := by omega
 have ne_hz_g7 : w.heap.size + 1 + 1 + 1 ≠ g7 := by omega
 clear lt_hb0 lt_hb1 lt_hb2 lt_hz
 replace hb0 := hb0.belowAll hb
 replace hb1 := hb1.belowAll hb
 replace hb2 := hb2.belowAll hb
 replace hz := hz.belowAll hb
 replace hw := hw.trans (hb.mono hw.size)
 clear hb
 go_wp2_with fail
 have lt_hb0 := hb0.lt
 have lt_hb1 := hb1.lt
 have lt_hb2 := hb2.lt
 have lt_hz := hz.lt
 have lt_h7 := h7.lt
 refine wp_vars_two (aD := ?aD2) (B := W1.heap.size) (S := fun w' => Below W1.heap.size W1 w') (k1 := 10) (s1 := 12) (T1 := 37) (L1 := 37) (z1 := Nw 0) (c1 := Nw (nu (mulL p.x q.x))) (x1 := .tmp 8) (y1 := .tmp 31) (k2 := 11) (s2 := 13) (T2 := 37) (L2 := 37) (z2 := Nw 0) (c2 := Nw (nu (mulL p.y q.y))) (x2 := .tmp 9) (y2 := .tmp 36)
  (vs := [(0, .pointer (some ⟨w.heap.size, 0, none⟩)), (1, .agg (Nw (nu p.x)).toArray), (2, .pointer (some ⟨w.heap.size + 1, 0, none⟩)), (3, .agg (Nw (nu q.x)).toArray), (4, .agg (Nw (nu (mulL p.x q.x))).toArray), (5, .pointer (some ⟨w.heap.size, 8, none⟩)), (6, .agg (Nw (nu p.y)).toArray), (7, .pointer (some ⟨w.heap.size + 1, 8, none⟩)), (8, .agg (Nw (nu q.y)).toArray), (9, .agg (Nw (nu (mulL p.y q.y))).toArray)]) (by kernel_rfl) ((Below.refl _ _).drew) (fun _ _ h k => S_trans h k) (fun _ _ cs h hg => S_row h hg cs) (fun _ h => h.size) ?hD2 (.of rfl rfl rfl (fun w' => nw_alloc w')) (.of rfl rfl rfl (fun w' => nw_alloc w')) ?hk2 (by decide) rfl rfl rfl rfl (some 8) (some 9) rfl rfl rfl rfl rfl rfl ?e21 ?f21 ?e22 ?f22 (nw_info _) (Nw_sz _ _) (Nw_one _) (nw_info _) (Nw_sz _ _) (Nw_one _) ?h2
 case hD2 =>
  refine .s 27 rfl (Gives.fieldAt 39 (.tmp 3) 0 rfl _ _ rfl (fun w' => fr_x (w.heap.size) w')) ?_
  refine .s 28 rfl (Gives.load_at 37 (.tmp 27) rfl ⟨w.heap.size, 0, none⟩ rfl (Nw (nu p.x)) _ (fun w' h => (hb0.belowAll h).part 0 (Nw (nu p.x)) (rt_x _)) Tryz.underlying37 rfl (nw_len _)) ?_
  refine .s 29 rfl (Gives.fieldAt 39 (.tmp 4) 0 rfl _ _ rfl (fun w' => fr_x (w.heap.size + 1) w')) ?_
  refine .s 30 rfl (Gives.load_at 37 (.tmp 29) rfl ⟨w.heap.size + 1, 0, none⟩ rfl (Nw (nu q.x)) _ (fun w' h => (hb1.belowAll h).part 0 (Nw (nu q.x)) (rt_x _)) Tryz.underlying37 rfl (nw_len _)) ?_
  refine .s 31 rfl (Gives.c (args := [.agg (Nw (nu p.x)).toArray, .agg (Nw (nu q.x)).toArray]) rfl Tryz.func36 (fun w' h => mulr_nu p.x q.x w')) ?_
  refine .s 32 rfl (Gives.fieldAt 39 (.tmp 3) 1 rfl _ _ rfl (fun w' => fr_y (w.heap.size) w')) ?_
  refine .s 33 rfl (Gives.load_at 37 (.tmp 32) rfl ⟨w.heap.size, 8, none⟩ rfl (Nw (nu p.y)) _ (fun w' h => (hb0.belowAll h).part 8 (Nw (nu p.y)) (rt_y _)) Tryz.underlying37 rfl (nw_len _)) ?_
  refine .s 34 rfl (Gives.fieldAt 39 (.tmp 4) 1 rfl _ _ rfl (fun w' => fr_y (w.heap.size + 1) w')) ?_
  refine .s 35 rfl (Gives.load_at 37 (.tmp 34) rfl ⟨w.heap.size + 1, 8, none⟩ rfl (Nw (nu q.y)) _ (fun w' h => (hb1.belowAll h).part 8 (Nw (nu q.y)) (rt_y _)) Tryz.underlying37 rfl (nw_len _)) ?_
  refine .s 36 rfl (Gives.c (args := [.agg (Nw (nu p.y)).toArray, .agg (Nw (nu q.y)).toArray]) rfl Tryz.func36 (fun w' h => mulr_nu p.y q.y w')) ?_
  exact .nil
 case hk2 => kernel_rfl
 case e21 => intro i1 i2; rfl
 case f21 => intro i1 i2; rfl
 case e22 => intro i1 i2; rfl
 case f22 => intro i1 i2; rfl
 case h2 =>
 intro g8 g9 W2 hb hg20 hg21 hn201 h8 h9
 simp only [Act.put, yA, yB, yC]
 have ge_g8 := Nat.le_trans hw.size hg20
 have ne_hb0_g8 : w.heap.size ≠ g8 := by omega
 have ne_hb1_g8 : w.heap.size + 1 ≠ g8 := by omega
 have ne_hb2_g8 : w.heap.size + 1 + 1 ≠ g8 := by omega
 have ne_hz_g8 : w.heap.size + 1 + 1 + 1 ≠ g8 := by omega
 have ne_h7_g8 : g7 ≠ g8 := by omega
 have ge_g9 := Nat.le_trans hw.size hg21
 have ne_hb0_g9 : w.heap.size ≠ g9 := by omega
 have ne_hb1_g9 : w.heap.size + 1 ≠ g9 := by omega
 have ne_hb2_g9 : w.heap.size + 1 + 1 ≠ g9 := by omega
 have ne_hz_g9 : w.heap.size + 1 + 1 + 1 ≠ g9 := by omega
 have ne_h7_g9 : g7 ≠ g9 := by omega
 clear lt_hb0 lt_hb1 lt_hb2 lt_hz lt_h7
 replace hb0 := hb0.belowAll hb
 replace hb1 := hb1.belowAll hb
 replace hb2 := hb2.belowAll hb
 replace hz := hz.belowAll hb
 replace h7 := h7.belowAll hb
 replace hw := hw.trans (hb.mono hw.size)
 clear hb
 go_wp2_with (first
  | (refine wpList_load_row rfl 37 (.tmp 9) rfl (g9) rfl 37 _ (0, 0) _ h9 Tryz.underlying37 rfl (nw_info _) ?_)
  | (refine wpList_load_row rfl 37 (.tmp 8) rfl (g8) rfl 37 _ (0, 0) _ h8 Tryz.underlying37 rfl (nw_info _) ?_))
 refine (addr_nu (mulL p.y q.y) (mulL p.x q.x) _).mono ?_
 rintro e W3 ⟨rfl, hb⟩
 replace hb0 := hb0.belowAll hb
 replace hb1 := hb1.belowAll hb
 replace hb2 := hb2.belowAll hb
 replace hz := hz.belowAll hb
 replace h7 := h7.belowAll hb
 replace h8 := h8.belowAll hb
 replace h9 := h9.belowAll hb
 replace hw := hw.trans (hb.mono hw.size)
 clear hb
 have lt_hb0 := hb0.lt
 have lt_hb1 := hb1.lt
 have lt_hb2 := hb2.lt
 have lt_hz := hz.lt
 have lt_h7 := h7.lt
 have lt_h8 := h8.lt
 have lt_h9 := h9.lt
 have ne_hb0_3 : w.heap.size ≠ W3.heap.size := by omega
 have ne_hb1_3 : w.heap.size + 1 ≠ W3.heap.size := by omega
 have ne_hb2_3 : w.heap.size + 1 + 1 ≠ W3.heap.size := by omega
 have ne_hz_3 : w.heap.size + 1 + 1 + 1 ≠ W3.heap.size := by omega
 have ne_h7_3 : g7 ≠ W3.heap.size := by omega
 have ne_h8_3 : g8 ≠ W3.heap.size := by omega
 have ne_h9_3 : g9 ≠ W3.heap.size := by omega
 have new_3 := Row.new W3 (Nw 0) 37
 replace hb0 := (hb0.alloc (.cells (Nw 0).toArray 37)).setRowOther (k := W3.heap.size) ne_hb0_3 (Nw (nu (addL (mulL p.y q.y) (mulL p.x q.x)))).toArray
 replace hb1 := (hb1.alloc (.cells (Nw 0).toArray 37)).setRowOther (k := W3.heap.size) ne_hb1_3 (Nw (nu (addL (mulL p.y q.y) (mulL p.x q.x)))).toArray
 replace hb2 := (hb2.alloc (.cells (Nw 0).toArray 37)).setRowOther (k := W3.heap.size) ne_hb2_3 (Nw (nu (addL (mulL p.y q.y) (mulL p.x q.x)))).toArray
 replace hz := (hz.alloc (.cells (Nw 0).toArray 37)).setRowOther (k := W3.heap.size) ne_hz_3 (Nw (nu (addL (mulL p.y q.y) (mulL p.x q.x)))).toArray
 replace h7 := (h7.alloc (.cells (Nw 0).toArray 37)).setRowOther (k := W3.heap.size) ne_h7_3 (Nw (nu (addL (mulL p.y q.y) (mulL p.x q.x)))).toArray
 replace h8 := (h8.alloc (.cells (Nw 0).toArray 37)).setRowOther (k := W3.heap.size) ne_h8_3 (Nw (nu (addL (mulL p.y q.y) (mulL p.x q.x)))).toArray
 replace h9 := (h9.alloc (.cells (Nw 0).toArray 37)).setRowOther (k := W3.heap.size) ne_h9_3 (Nw (nu (addL (mulL p.y q.y) (mulL p.x q.x)))).toArray
 have h10 := new_3.setRow (Nw (nu (addL (mulL p.y q.y) (mulL p.x q.x))))
 have ge_3 := hw.size
 replace hw := below_setRow (g := W3.heap.size) (hw.alloc hw.size (.cells (Nw 0).toArray 37)) hw.size (Nw (nu (addL (mulL p.y q.y) (mulL p.x q.x)))).toArray
 have NEW := yH new_3
 clear new_3 lt_hb0 lt_hb1 lt_hb2 lt_hz lt_h7 lt_h8 lt_h9
 go_wp2_with (first
  | (refine wpList_store_row rfl 37 (.tmp 10) (.tmp 39) rfl W3.heap.size _ rfl rfl 37 _ NEW.out (nw_info _) (Nw_sz _ _) (Nw_one _) ?_)
  | (refine wpList_load_at rfl 37 (.tmp 40) rfl ⟨w.heap.size, 16, none⟩ rfl (Nw (nu p.z)) _ (hb0.part 16 (Nw (nu p.z)) (rt_z _)) Tryz.underlying37 rfl (nw_len _) ?_)
  | (refine wpList_load_at rfl 37 (.tmp 42) rfl ⟨w.heap.size + 1, 16, none⟩ rfl (Nw (nu q.z)) _ (hb1.part 16 (Nw (nu q.z)) (rt_z _)) Tryz.underlying37 rfl (nw_len _) ?_))
 clear NEW
 rw [zero8]
 generalize (W3.alloc (.cells (Nw 0).toArray 37)).setRow W3.heap.size (Nw (nu (addL (mulL p.y q.y) (mulL p.x q.x)))).toArray = V3 at *
 generalize W3.heap.size = g10 at *
 refine (mulr_nu p.z q.z _).mono ?_
 rintro e W4 ⟨rfl, hb⟩
 replace hb0 := hb0.belowAll hb
 replace hb1 := hb1.belowAll hb
 replace hb2 := hb2.belowAll hb
 replace hz := hz.belowAll hb
 replace h7 := h7.belowAll hb
 replace h8 := h8.belowAll hb
 replace h9 := h9.belowAll hb
 replace h10 := h10.belowAll hb
 replace hw := hw.trans (hb.mono hw.size)
 clear hb
 have lt_hb0 := hb0.lt
 have lt_hb1 := hb1.lt
 have lt_hb2 := hb2.lt
 have lt_hz := hz.lt
 have lt_h7 := h7.lt
 have lt_h8 := h8.lt
 have lt_h9 := h9.lt
 have lt_h10 := h10.lt
 have ne_hb0_4 : w.heap.size ≠ W4.heap.size := by omega
 have ne_hb1_4 : w.heap.size + 1 ≠ W4.heap.size := by omega
 have ne_hb2_4 : w.heap.size + 1 + 1 ≠ W4.heap.size := by omega
 have ne_hz_4 : w.heap.size + 1 + 1 + 1 ≠ W4.heap.size := by omega
 have ne_h7_4 : g7 ≠ W4.heap.size := by omega
 have ne_h8_4 : g8 ≠ W4.heap.size := by omega
 have ne_h9_4 : g9 ≠ W4.heap.size := by omega
 have ne_h10_4 : g10 ≠ W4.heap.size := by omega
 have new_4 := Row.new W4 (Nw 0) 37
 replace hb0 := (hb0.alloc (.cells (Nw 0).toArray 37)).setRowOther (k := W4.heap.size) ne_hb0_4 (Nw (nu (mulL p.z q.z))).toArray
 replace hb1 := (hb1.alloc (.cells (Nw 0).toArray 37)).setRowOther (k := W4.heap.size) ne_hb1_4 (Nw (nu (mulL p.z q.z))).toArray
 replace hb2 := (hb2.alloc (.cells (Nw 0).toArray 37)).setRowOther (k := W4.heap.size) ne_hb2_4 (Nw (nu (mulL p.z q.z))).toArray
 replace hz := (hz.alloc (.cells (Nw 0).toArray 37)).setRowOther (k := W4.heap.size) ne_hz_4 (Nw (nu (mulL p.z q.z))).toArray
 replace h7 := (h7.alloc (.cells (Nw 0).toArray 37)).setRowOther (k := W4.heap.size) ne_h7_4 (Nw (nu (mulL p.z q.z))).toArray
 replace h8 := (h8.alloc (.cells (Nw 0).toArray 37)).setRowOther (k := W4.heap.size) ne_h8_4 (Nw (nu (mulL p.z q.z))).toArray
 replace h9 := (h9.alloc (.cells (Nw 0).toArray 37)).setRowOther (k := W4.heap.size) ne_h9_4 (Nw (nu (mulL p.z q.z))).toArray
 replace h10 := (h10.alloc (.cells (Nw 0).toArray 37)).setRowOther (k := W4.heap.size) ne_h10_4 (Nw (nu (mulL p.z q.z))).toArray
 have h11 := new_4.setRow (Nw (nu (mulL p.z q.z)))
 have ge_4 := hw.size
 replace hw := below_setRow (g := W4.heap.size) (hw.alloc hw.size (.cells (Nw 0).toArray 37)) hw.size (Nw (nu (mulL p.z q.z))).toArray
 have NEW := yH new_4
 clear new_4 lt_hb0 lt_hb1 lt_hb2 lt_hz lt_h7 lt_h8 lt_h9 lt_h10
 go_wp2_with (first
  | (refine wpList_store_row rfl 37 (.tmp 11) (.tmp 44) rfl W4.heap.size _ rfl rfl 37 _ NEW.out (nw_info _) (Nw_sz _ _) (Nw_one _) ?_)
  | (refine wpList_load_row rfl 37 (.tmp 11) rfl (W4.heap.size) rfl 37 _ (0, 0) _ h11 Tryz.underlying37 rfl (nw_info _) ?_))
 clear NEW
 rw [zero8]
 generalize (W4.alloc (.cells (Nw 0).toArray 37)).setRow W4.heap.size (Nw (nu (mulL p.z q.z))).toArray = V4 at *
 generalize W4.heap.size = g11 at *
 refine (mulr_nu (mulL p.z q.z) (mulL p.z q.z) _).mono ?_
 rintro e W5 ⟨rfl, hb⟩
 replace hb0 := hb0.belowAll hb
 replace hb1 := hb1.belowAll hb
 replace hb2 := hb2.belowAll hb
 replace hz := hz.belowAll hb
 replace h7 := h7.belowAll hb
 replace h8 := h8.belowAll hb
 replace h9 := h9.belowAll hb
 replace h10 := h10.belowAll hb
 replace h11 := h11.belowAll hb
 replace hw := hw.trans (hb.mono hw.size)
 clear hb
 have lt_hb0 := hb0.lt
 have lt_hb1 := hb1.lt
 have lt_hb2 := hb2.lt
 have lt_hz := hz.lt
 have lt_h7 := h7.lt
 have lt_h8 := h8.lt
 have lt_h9 := h9.lt
 have lt_h10 := h10.lt
 have lt_h11 := h11.lt
 have ne_hb0_5 : w.heap.size ≠ W5.heap.size := by omega
 have ne_hb1_5 : w.heap.size + 1 ≠ W5.heap.size := by omega
 have ne_hb2_5 : w.heap.size + 1 + 1 ≠ W5.heap.size := by omega
 have ne_hz_5 : w.heap.size + 1 + 1 + 1 ≠ W5.heap.size := by omega
 have ne_h7_5 : g7 ≠ W5.heap.size := by omega
 have ne_h8_5 : g8 ≠ W5.heap.size := by omega
 have ne_h9_5 : g9 ≠ W5.heap.size := by omega
 have ne_h10_5 : g10 ≠ W5.heap.size := by omega
 have ne_h11_5 : g11 ≠ W5.heap.size := by omega
 have new_5 := Row.new W5 (Nw 0) 37
 replace hb0 := (hb0.alloc (.cells (Nw 0).toArray 37)).setRowOther (k := W5.heap.size) ne_hb0_5 (Nw (nu (mulL (mulL p.z q.z) (mulL p.z q.z)))).toArray
 replace hb1 := (hb1.alloc (.cells (Nw 0).toArray 37)).setRowOther (k := W5.heap.size) ne_hb1_5 (Nw (nu (mulL (mulL p.z q.z) (mulL p.z q.z)))).toArray
 replace hb2 := (hb2.alloc (.cells (Nw 0).toArray 37)).setRowOther (k := W5.heap.size) ne_hb2_5 (Nw (nu (mulL (mulL p.z q.z) (mulL p.z q.z)))).toArray
 replace hz := (hz.alloc (.cells (Nw 0).toArray 37)).setRowOther (k := W5.heap.size) ne_hz_5 (Nw (nu (mulL (mulL p.z q.z) (mulL p.z q.z)))).toArray
 replace h7 := (h7.alloc (.cells (Nw 0).toArray 37)).setRowOther (k := W5.heap.size) ne_h7_5 (Nw (nu (mulL (mulL p.z q.z) (mulL p.z q.z)))).toArray
 replace h8 := (h8.alloc (.cells (Nw 0).toArray 37)).setRowOther (k := W5.heap.size) ne_h8_5 (Nw (nu (mulL (mulL p.z q.z) (mulL p.z q.z)))).toArray
 replace h9 := (h9.alloc (.cells (Nw 0).toArray 37)).setRowOther (k := W5.heap.size) ne_h9_5 (Nw (nu (mulL (mulL p.z q.z) (mulL p.z q.z)))).toArray
 replace h10 := (h10.alloc (.cells (Nw 0).toArray 37)).setRowOther (k := W5.heap.size) ne_h10_5 (Nw (nu (mulL (mulL p.z q.z) (mulL p.z q.z)))).toArray
 replace h11 := (h11.alloc (.cells (Nw 0).toArray 37)).setRowOther (k := W5.heap.size) ne_h11_5 (Nw (nu (mulL (mulL p.z q.z) (mulL p.z q.z)))).toArray
 have h12 := new_5.setRow (Nw (nu (mulL (mulL p.z q.z) (mulL p.z q.z))))
 have ge_5 := hw.size
 replace hw := below_setRow (g := W5.heap.size) (hw.alloc hw.size (.cells (Nw 0).toArray 37)) hw.size (Nw (nu (mulL (mulL p.z q.z) (mulL p.z q.z)))).toArray
 have NEW := yH new_5
 clear new_5 lt_hb0 lt_hb1 lt_hb2 lt_hz lt_h7 lt_h8 lt_h9 lt_h10 lt_h11
 go_wp2_with (first
  | (refine wpList_store_row rfl 37 (.tmp 12) (.tmp 47) rfl W5.heap.size _ rfl rfl 37 _ NEW.out (nw_info _) (Nw_sz _ _) (Nw_one _) ?_))
 clear NEW
 rw [zero8]
 generalize (W5.alloc (.cells (Nw 0).toArray 37)).setRow W5.heap.size (Nw (nu (mulL (mulL p.z q.z) (mulL p.z q.z)))).toArray = V5 at *
 generalize W5.heap.size = g12 at *
 clear hb0 hb1
 have lt_hb2 := hb2.lt
 have lt_hz := hz.lt
 have lt_h7 := h7.lt
 have lt_h8 := h8.lt
 have lt_h9 := h9.lt
 have lt_h10 := h10.lt
 have lt_h11 := h11.lt
 have lt_h12 := h12.lt
 refine wp_vars_one (aD := ?aD6) (B := V5.heap.size) (S := fun w' => Below V5.heap.size V5 w') (k1 := 5) (s1 := 6) (T1 := 37) (L1 := 37) (z1 := Nw 0) (c1 := Nw (nu (mulL d (mulL (mulL p.x q.x) (mulL p.y q.y))))) (x1 := .tmp 13) (y1 := .tmp 52)
  (vs := [(0, .agg (Nw (nu d)).toArray), (1, .agg (Nw (nu (mulL p.x q.x))).toArray), (2, .agg (Nw (nu (mulL p.y q.y))).toArray), (3, .agg (Nw (nu (mulL (mulL p.x q.x) (mulL p.y q.y)))).toArray), (4, .agg (Nw (nu (mulL d (mulL (mulL p.x q.x) (mulL p.y q.y))))).toArray)]) (by kernel_rfl) ((Below.refl _ _).drew) (fun _ _ h k => S_trans h k) (fun _ _ cs h hg => S_row h hg cs) (fun _ h => h.size) ?hD6 (.of rfl rfl rfl (fun w' => nw_alloc w')) ?hk6 rfl rfl (some 13) rfl rfl rfl ?e61 ?f61 (nw_info _) (Nw_sz _ _) (Nw_one _) ?h6
 case hD6 =>
  refine .s 48 rfl (Gives.l 37 (.tmp 5) (w.heap.size + 1 + 1) (fun w' h => hb2.belowAll h) Tryz.underlying37 (nw_info _)) ?_
  refine .s 49 rfl (Gives.l 37 (.tmp 8) (g8) (fun w' h => h8.belowAll h) Tryz.underlying37 (nw_info _)) ?_
  refine .s 50 rfl (Gives.l 37 (.tmp 9) (g9) (fun w' h => h9.belowAll h) Tryz.underlying37 (nw_info _)) ?_
  refine .s 51 rfl (Gives.c (args := [.agg (Nw (nu (mulL p.x q.x))).toArray, .agg (Nw (nu (mulL p.y q.y))).toArray]) rfl Tryz.func36 (fun w' h => mulr_nu (mulL p.x q.x) (mulL p.y q.y) w')) ?_
  refine .s 52 rfl (Gives.c (args := [.agg (Nw (nu d)).toArray, .agg (Nw (nu (mulL (mulL p.x q.x) (mulL p.y q.y)))).toArray]) rfl Tryz.func36 (fun w' h => mulr_nu d (mulL (mulL p.x q.x) (mulL p.y q.y)) w')) ?_
  exact .nil
 case hk6 => kernel_rfl
 case e61 => intro i1; rfl
 case f61 => intro i1; rfl
 case h6 =>
 intro g13 W6 hb hg6 h13
 have ge_g13 := Nat.le_trans hw.size hg6
 have ne_hb2_g13 : w.heap.size + 1 + 1 ≠ g13 := by omega
 have ne_hz_g13 : w.heap.size + 1 + 1 + 1 ≠ g13 := by omega
 have ne_h7_g13 : g7 ≠ g13 := by omega
 have ne_h8_g13 : g8 ≠ g13 := by omega
 have ne_h9_g13 : g9 ≠ g13 := by omega
 have ne_h10_g13 : g10 ≠ g13 := by omega
 have ne_h11_g13 : g11 ≠ g13 := by omega
 have ne_h12_g13 : g12 ≠ g13 := by omega
 clear lt_hb2 lt_hz lt_h7 lt_h8 lt_h9 lt_h10 lt_h11 lt_h12
 replace hb2 := hb2.belowAll hb
 replace hz := hz.belowAll hb
 replace h7 := h7.belowAll hb
 replace h8 := h8.belowAll hb
 replace h9 := h9.belowAll hb
 replace h10 := h10.belowAll hb
 replace h11 := h11.belowAll hb
 replace h12 := h12.belowAll hb
 replace hw := hw.trans (hb.mono hw.size)
 clear hb
 clear h8 h9
 go_wp2_with fail
 have lt_hb2 := hb2.lt
 have lt_hz := hz.lt
 have lt_h7 := h7.lt
 have lt_h10 := h10.lt
 have lt_h11 := h11.lt
 have lt_h12 := h12.lt
 have lt_h13 := h13.lt
 refine wp_vars_two (aD := ?aD7) (B := W6.heap.size) (S := fun w' => Below W6.heap.size W6 w') (k1 := 6) (s1 := 8) (T1 := 37) (L1 := 37) (z1 := Nw 0) (c1 := Nw (nu (addL (mulL (mulL p.z q.z) (mulL p.z q.z)) (mulL d (mulL (mulL p.x q.x) (mulL p.y q.y)))))) (x1 := .tmp 14) (y1 := .tmp 55) (k2 := 7) (s2 := 9) (T2 := 37) (L2 := 37) (z2 := Nw 0) (c2 := Nw (nu (subL (mulL (mulL p.z q.z) (mulL p.z q.z)) (mulL d (mulL (mulL p.x q.x) (mulL p.y q.y)))))) (x2 := .tmp 15) (y2 := .tmp 58)
  (vs := [(0, .agg (Nw (nu (mulL (mulL p.z q.z) (mulL p.z q.z)))).toArray), (1, .agg (Nw (nu (mulL d (mulL (mulL p.x q.x) (mulL p.y q.y))))).toArray), (2, .agg (Nw (nu (addL (mulL (mulL p.z q.z) (mulL p.z q.z)) (mulL d (mulL (mulL p.x q.x) (mulL p.y q.y)))))).toArray), (3, .agg (Nw (nu (mulL (mulL p.z q.z) (mulL p.z q.z)))).toArray), (4, .agg (Nw (nu (mulL d (mulL (mulL p.x q.x) (mulL p.y q.y))))).toArray), (5, .agg (Nw (nu (subL (mulL (mulL p.z q.z) (mulL p.z q.z)) (mulL d (mulL (mulL p.x q.x) (mulL p.y q.y)))))).toArray)]) (by kernel_rfl) ((Below.refl _ _).drew) (fun _ _ h k => S_trans h k) (fun _ _ cs h hg => S_row h hg cs) (fun _ h => h.size) ?hD7 (.of rfl rfl rfl (fun w' => nw_alloc w')) (.of rfl rfl rfl (fun w' => nw_alloc w')) ?hk7 (by decide) rfl rfl rfl rfl (some 14) (some 15) rfl rfl rfl rfl rfl rfl ?e71 ?f71 ?e72 ?f72 (nw_info _) (Nw_sz _ _) (Nw_one _) (nw_info _) (Nw_sz _ _) (Nw_one _) ?h7
 case hD7 =>
  refine .s 53 rfl (Gives.l 37 (.tmp 12) (g12) (fun w' h => h12.belowAll h) Tryz.underlying37 (nw_info _)) ?_
  refine .s 54 rfl (Gives.l 37 (.tmp 13) (g13) (fun w' h => h13.belowAll h) Tryz.underlying37 (nw_info _)) ?_
  refine .s 55 rfl (Gives.c (args := [.agg (Nw (nu (mulL (mulL p.z q.z) (mulL p.z q.z)))).toArray, .agg (Nw (nu (mulL d (mulL (mulL p.x q.x) (mulL p.y q.y))))).toArray]) rfl Tryz.func39 (fun w' h => addr_nu (mulL (mulL p.z q.z) (mulL p.z q.z)) (mulL d (mulL (mulL p.x q.x) (mulL p.y q.y))) w')) ?_
  refine .s 56 rfl (Gives.l 37 (.tmp 12) (g12) (fun w' h => h12.belowAll h) Tryz.underlying37 (nw_info _)) ?_
  refine .s 57 rfl (Gives.l 37 (.tmp 13) (g13) (fun w' h => h13.belowAll h) Tryz.underlying37 (nw_info _)) ?_
  refine .s 58 rfl (Gives.c (args := [.agg (Nw (nu (mulL (mulL p.z q.z) (mulL p.z q.z)))).toArray, .agg (Nw (nu (mulL d (mulL (mulL p.x q.x) (mulL p.y q.y))))).toArray]) rfl Tryz.func38 (fun w' h => subr_nu (mulL (mulL p.z q.z) (mulL p.z q.z)) (mulL_ok hd (mulL_ok (mulL_ok hp.x hk.x) (mulL_ok hp.y hk.y))) w')) ?_
  exact .nil
 case hk7 => kernel_rfl
 case e71 => intro i1 i2; rfl
 case f71 => intro i1 i2; rfl
 case e72 => intro i1 i2; rfl
 case f72 => intro i1 i2; rfl
 case h7 =>
 intro g14 g15 W7 hb hg70 hg71 hn701 h14 h15
 simp only [Act.put, yA, yB, yC]
 have ge_g14 := Nat.le_trans hw.size hg70
 have ne_hb2_g14 : w.heap.size + 1 + 1 ≠ g14 := by omega
 have ne_hz_g14 : w.heap.size + 1 + 1 + 1 ≠ g14 := by omega
 have ne_h7_g14 : g7 ≠ g14 := by omega
 have ne_h10_g14 : g10 ≠ g14 := by omega
 have ne_h11_g14 : g11 ≠ g14 := by omega
 have ne_h12_g14 : g12 ≠ g14 := by omega
 have ne_h13_g14 : g13 ≠ g14 := by omega
 have ge_g15 := Nat.le_trans hw.size hg71
 have ne_hb2_g15 : w.heap.size + 1 + 1 ≠ g15 := by omega
 have ne_hz_g15 : w.heap.size + 1 + 1 + 1 ≠ g15 := by omega
 have ne_h7_g15 : g7 ≠ g15 := by omega
 have ne_h10_g15 : g10 ≠ g15 := by omega
 have ne_h11_g15 : g11 ≠ g15 := by omega
 have ne_h12_g15 : g12 ≠ g15 := by omega
 have ne_h13_g15 : g13 ≠ g15 := by omega
 clear lt_hb2 lt_hz lt_h7 lt_h10 lt_h11 lt_h12 lt_h13
 replace hb2 := hb2.belowAll hb
 replace hz := hz.belowAll hb
 replace h7 := h7.belowAll hb
 replace h10 := h10.belowAll hb
 replace h11 := h11.belowAll hb
 replace h12 := h12.belowAll hb
 replace h13 := h13.belowAll hb
 replace hw := hw.trans (hb.mono hw.size)
 clear hb
 go_wp2_with fail
 refine wp_flat_store (aD := ?aD8) (S := fun w' => Below W7.heap.size W7 w') (s := 14) (T := 39) (T' := 39) (g := w.heap.size + 1 + 1 + 1) (z := RL zeR) (c := RL ⟨(mulL (mulL (addL (mulL p.x q.y) (mulL p.y q.x)) (mulL p.z q.z)) (subL (mulL (mulL p.z q.z) (mulL p.z q.z)) (mulL d (mulL (mulL p.x q.x) (mulL p.y q.y))))), (mulL (mulL (addL (mulL p.y q.y) (mulL p.x q.x)) (mulL p.z q.z)) (addL (mulL (mulL p.z q.z) (mulL p.z q.z)) (mulL d (mulL (mulL p.x q.x) (mulL p.y q.y))))), (mulL (addL (mulL (mulL p.z q.z) (mulL p.z q.z)) (mulL d (mulL (mulL p.x q.x) (mulL p.y q.y)))) (subL (mulL (mulL p.z q.z) (mulL p.z q.z)) (mulL d (mulL (mulL p.x q.x) (mulL p.y q.y)))))⟩) (x := .tmp 6) (y := .tmp 72)
  (vs := [(0, .agg (Nw (nu (addL (mulL p.x q.y) (mulL p.y q.x)))).toArray), (1, .agg (Nw (nu (mulL p.z q.z))).toArray), (2, .agg (Nw (nu (mulL (addL (mulL p.x q.y) (mulL p.y q.x)) (mulL p.z q.z)))).toArray), (3, .agg (Nw (nu (subL (mulL (mulL p.z q.z) (mulL p.z q.z)) (mulL d (mulL (mulL p.x q.x) (mulL p.y q.y)))))).toArray), (4, .agg (Nw (nu (mulL (mulL (addL (mulL p.x q.y) (mulL p.y q.x)) (mulL p.z q.z)) (subL (mulL (mulL p.z q.z) (mulL p.z q.z)) (mulL d (mulL (mulL p.x q.x) (mulL p.y q.y))))))).toArray), (5, .agg (Nw (nu (addL (mulL p.y q.y) (mulL p.x q.x)))).toArray), (6, .agg (Nw (nu (mulL p.z q.z))).toArray), (7, .agg (Nw (nu (mulL (addL (mulL p.y q.y) (mulL p.x q.x)) (mulL p.z q.z)))).toArray), (8, .agg (Nw (nu (addL (mulL (mulL p.z q.z) (mulL p.z q.z)) (mulL d (mulL (mulL p.x q.x) (mulL p.y q.y)))))).toArray), (9, .agg (Nw (nu (mulL (mulL (addL (mulL p.y q.y) (mulL p.x q.x)) (mulL p.z q.z)) (addL (mulL (mulL p.z q.z) (mulL p.z q.z)) (mulL d (mulL (mulL p.x q.x) (mulL p.y q.y))))))).toArray), (10, .agg (Nw (nu (addL (mulL (mulL p.z q.z) (mulL p.z q.z)) (mulL d (mulL (mulL p.x q.x) (mulL p.y q.y)))))).toArray), (11, .agg (Nw (nu (subL (mulL (mulL p.z q.z) (mulL p.z q.z)) (mulL d (mulL (mulL p.x q.x) (mulL p.y q.y)))))).toArray), (12, .agg (Nw (nu (mulL (addL (mulL (mulL p.z q.z) (mulL p.z q.z)) (mulL d (mulL (mulL p.x q.x) (mulL p.y q.y)))) (subL (mulL (mulL p.z q.z) (mulL p.z q.z)) (mulL d (mulL (mulL p.x q.x) (mulL p.y q.y))))))).toArray), (13, .agg (RL ⟨(mulL (mulL (addL (mulL p.x q.y) (mulL p.y q.x)) (mulL p.z q.z)) (subL (mulL (mulL p.z q.z) (mulL p.z q.z)) (mulL d (mulL (mulL p.x q.x) (mulL p.y q.y))))), (mulL (mulL (addL (mulL p.y q.y) (mulL p.x q.x)) (mulL p.z q.z)) (addL (mulL (mulL p.z q.z) (mulL p.z q.z)) (mulL d (mulL (mulL p.x q.x) (mulL p.y q.y))))), (mulL (addL (mulL (mulL p.z q.z) (mulL p.z q.z)) (mulL d (mulL (mulL p.x q.x) (mulL p.y q.y)))) (subL (mulL (mulL p.z q.z) (mulL p.z q.z)) (mulL d (mulL (mulL p.x q.x) (mulL p.y q.y)))))⟩).toArray)]) (by kernel_rfl) ((Below.refl _ _).drew) (fun _ _ h k => S_trans h k) ?hD8 ?hk8 rfl rfl rfl rfl ?ea8 ?eb8 (fun w' h => hz.belowAll h) (rl_info _) (RL_sz _ _) (RL_one _) ?h8
 case hD8 =>
  refine .s 59 rfl (Gives.l 37 (.tmp 7) (g7) (fun w' h => h7.belowAll h) Tryz.underlying37 (nw_info _)) ?_
  refine .s 60 rfl (Gives.l 37 (.tmp 11) (g11) (fun w' h => h11.belowAll h) Tryz.underlying37 (nw_info _)) ?_
  refine .s 61 rfl (Gives.c (args := [.agg (Nw (nu (addL (mulL p.x q.y) (mulL p.y q.x)))).toArray, .agg (Nw (nu (mulL p.z q.z))).toArray]) rfl Tryz.func36 (fun w' h => mulr_nu (addL (mulL p.x q.y) (mulL p.y q.x)) (mulL p.z q.z) w')) ?_
  refine .s 62 rfl (Gives.l 37 (.tmp 15) (g15) (fun w' h => h15.belowAll h) Tryz.underlying37 (nw_info _)) ?_
  refine .s 63 rfl (Gives.c (args := [.agg (Nw (nu (mulL (addL (mulL p.x q.y) (mulL p.y q.x)) (mulL p.z q.z)))).toArray, .agg (Nw (nu (subL (mulL (mulL p.z q.z) (mulL p.z q.z)) (mulL d (mulL (mulL p.x q.x) (mulL p.y q.y)))))).toArray]) rfl Tryz.func36 (fun w' h => mulr_nu (mulL (addL (mulL p.x q.y) (mulL p.y q.x)) (mulL p.z q.z)) (subL (mulL (mulL p.z q.z) (mulL p.z q.z)) (mulL d (mulL (mulL p.x q.x) (mulL p.y q.y)))) w')) ?_
  refine .s 64 rfl (Gives.l 37 (.tmp 10) (g10) (fun w' h => h10.belowAll h) Tryz.underlying37 (nw_info _)) ?_
  refine .s 65 rfl (Gives.l 37 (.tmp 11) (g11) (fun w' h => h11.belowAll h) Tryz.underlying37 (nw_info _)) ?_
  refine .s 66 rfl (Gives.c (args := [.agg (Nw (nu (addL (mulL p.y q.y) (mulL p.x q.x)))).toArray, .agg (Nw (nu (mulL p.z q.z))).toArray]) rfl Tryz.func36 (fun w' h => mulr_nu (addL (mulL p.y q.y) (mulL p.x q.x)) (mulL p.z q.z) w')) ?_
  refine .s 67 rfl (Gives.l 37 (.tmp 14) (g14) (fun w' h => h14.belowAll h) Tryz.underlying37 (nw_info _)) ?_
  refine .s 68 rfl (Gives.c (args := [.agg (Nw (nu (mulL (addL (mulL p.y q.y) (mulL p.x q.x)) (mulL p.z q.z)))).toArray, .agg (Nw (nu (addL (mulL (mulL p.z q.z) (mulL p.z q.z)) (mulL d (mulL (mulL p.x q.x) (mulL p.y q.y)))))).toArray]) rfl Tryz.func36 (fun w' h => mulr_nu (mulL (addL (mulL p.y q.y) (mulL p.x q.x)) (mulL p.z q.z)) (addL (mulL (mulL p.z q.z) (mulL p.z q.z)) (mulL d (mulL (mulL p.x q.x) (mulL p.y q.y)))) w')) ?_
  refine .s 69 rfl (Gives.l 37 (.tmp 14) (g14) (fun w' h => h14.belowAll h) Tryz.underlying37 (nw_info _)) ?_
  refine .s 70 rfl (Gives.l 37 (.tmp 15) (g15) (fun w' h => h15.belowAll h) Tryz.underlying37 (nw_info _)) ?_
  refine .s 71 rfl (Gives.c (args := [.agg (Nw (nu (addL (mulL (mulL p.z q.z) (mulL p.z q.z)) (mulL d (mulL (mulL p.x q.x) (mulL p.y q.y)))))).toArray, .agg (Nw (nu (subL (mulL (mulL p.z q.z) (mulL p.z q.z)) (mulL d (mulL (mulL p.x q.x) (mulL p.y q.y)))))).toArray]) rfl Tryz.func36 (fun w' h => mulr_nu (addL (mulL (mulL p.z q.z) (mulL p.z q.z)) (mulL d (mulL (mulL p.x q.x) (mulL p.y q.y)))) (subL (mulL (mulL p.z q.z) (mulL p.z q.z)) (mulL d (mulL (mulL p.x q.x) (mulL p.y q.y)))) w')) ?_
  refine .s 72 rfl (Gives.build3 39 (.tmp 63) (.tmp 68) (.tmp 71) rfl _ _ _ _ rfl rfl rfl (fun w' => rl_mk _ _ _ w')) ?_
  exact .nil
 case hk8 => kernel_rfl
 case ea8 => rfl
 case eb8 => rfl
 case h8 =>
 intro W8 hb
 replace hb2 := hb2.belowAll hb
 replace hz := hz.belowAll hb
 replace h7 := h7.belowAll hb
 replace h10 := h10.belowAll hb
 replace h11 := h11.belowAll hb
 replace h12 := h12.belowAll hb
 replace h13 := h13.belowAll hb
 replace h14 := h14.belowAll hb
 replace h15 := h15.belowAll hb
 replace hw := hw.trans (hb.mono hw.size)
 clear hb
 replace hz := hz.setRow (RL ⟨(mulL (mulL (addL (mulL p.x q.y) (mulL p.y q.x)) (mulL p.z q.z)) (subL (mulL (mulL p.z q.z) (mulL p.z q.z)) (mulL d (mulL (mulL p.x q.x) (mulL p.y q.y))))), (mulL (mulL (addL (mulL p.y q.y) (mulL p.x q.x)) (mulL p.z q.z)) (addL (mulL (mulL p.z q.z) (mulL p.z q.z)) (mulL d (mulL (mulL p.x q.x) (mulL p.y q.y))))), (mulL (addL (mulL (mulL p.z q.z) (mulL p.z q.z)) (mulL d (mulL (mulL p.x q.x) (mulL p.y q.y)))) (subL (mulL (mulL p.z q.z) (mulL p.z q.z)) (mulL d (mulL (mulL p.x q.x) (mulL p.y q.y)))))⟩)
 replace hw := below_setRow (g := w.heap.size + 1 + 1 + 1) hw (by omega) (RL ⟨(mulL (mulL (addL (mulL p.x q.y) (mulL p.y q.x)) (mulL p.z q.z)) (subL (mulL (mulL p.z q.z) (mulL p.z q.z)) (mulL d (mulL (mulL p.x q.x) (mulL p.y q.y))))), (mulL (mulL (addL (mulL p.y q.y) (mulL p.x q.x)) (mulL p.z q.z)) (addL (mulL (mulL p.z q.z) (mulL p.z q.z)) (mulL d (mulL (mulL p.x q.x) (mulL p.y q.y))))), (mulL (addL (mulL (mulL p.z q.z) (mulL p.z q.z)) (mulL d (mulL (mulL p.x q.x) (mulL p.y q.y)))) (subL (mulL (mulL p.z q.z) (mulL p.z q.z)) (mulL d (mulL (mulL p.x q.x) (mulL p.y q.y)))))⟩).toArray
 have hgot := hz
 have HGOT := yH hgot
 have HW := yH hw
 clear hgot hw hb2 hz h7 h10 h11 h12 h13 h14 h15
 go_wp2_with fail
 refine bodyPost_ret (results_cell_row (by rfl) _ _ (w.heap.size + 1 + 1 + 1) _ _ _ _ (by rfl) HGOT.out Tryz.underlying39 rfl (rl_info _)) rfl ?_
 exact ⟨rfl, HW.out⟩
def rngP (p : Rp) : Rp := ⟨negL p.x, p.y, p.z⟩
set_option maxHeartbeats 3200000 in
theorem ngp_ref {p : Rp} (hp : p.ok) (w : World) :
  Calls Tryz.prog 48 #[.agg (RL p).toArray] w fun e w' => e = .returned (.agg (RL (rngP p)).toArray) ∧ Below w.heap.size w w' := by
 have hb0 := ((Row.new w (RL p) 39)).alloc (.cells (RL zeR).toArray 39)
 have hz := (Row.new1 w (.cells (RL p).toArray 39) (RL zeR) 39)
 have hw := Below.alloc2 w (.cells (RL p).toArray 39) (.cells (RL zeR).toArray 39)
 go_enter Tryz.func48, Tryz.ntmps48
 go_wp2_with fail
 rw [z24]
 generalize ((w.alloc (.cells (RL p).toArray 39)).alloc (.cells (RL zeR).toArray 39)) = W0 at *
 refine wp_flat_store (aD := ?aD1) (S := fun w' => Below W0.heap.size W0 w') (s := 9) (T := 39) (T' := 39) (g := w.heap.size + 1) (z := RL zeR) (c := RL ⟨(negL p.x), p.y, p.z⟩) (x := .tmp 2) (y := .tmp 11)
  (vs := [(0, .agg (Nw 0).toArray), (1, .pointer (some ⟨w.heap.size, 0, none⟩)), (2, .agg (Nw (nu p.x)).toArray), (3, .agg (Nw (nu (negL p.x))).toArray), (4, .pointer (some ⟨w.heap.size, 8, none⟩)), (5, .agg (Nw (nu p.y)).toArray), (6, .pointer (some ⟨w.heap.size, 16, none⟩)), (7, .agg (Nw (nu p.z)).toArray), (8, .agg (RL ⟨(negL p.x), p.y, p.z⟩).toArray)]) (by kernel_rfl) ((Below.refl _ _).drew) (fun _ _ h k => S_trans h k) ?hD1 ?hk1 rfl rfl rfl rfl ?ea1 ?eb1 (fun w' h => hz.belowAll h) (rl_info _) (RL_sz _ _) (RL_one _) ?h1
 case hD1 =>
  refine .s 3 rfl (Gives.build0 37 rfl _ (fun w' => nw_build w')) ?_
  refine .s 4 rfl (Gives.fieldAt 39 (.tmp 1) 0 rfl _ _ rfl (fun w' => fr_x (w.heap.size) w')) ?_
  refine .s 5 rfl (Gives.load_at 37 (.tmp 4) rfl ⟨w.heap.size, 0, none⟩ rfl (Nw (nu p.x)) _ (fun w' h => (hb0.belowAll h).part 0 (Nw (nu p.x)) (rt_x _)) Tryz.underlying37 rfl (nw_len _)) ?_
  refine .s 6 rfl (Gives.c (args := [.agg (Nw 0).toArray, .agg (Nw (nu p.x)).toArray]) rfl Tryz.func38 (fun w' h => negr_nu hp.x w')) ?_
  refine .s 7 rfl (Gives.fieldAt 39 (.tmp 1) 1 rfl _ _ rfl (fun w' => fr_y (w.heap.size) w')) ?_
  refine .s 8 rfl (Gives.load_at 37 (.tmp 7) rfl ⟨w.heap.size, 8, none⟩ rfl (Nw (nu p.y)) _ (fun w' h => (hb0.belowAll h).part 8 (Nw (nu p.y)) (rt_y _)) Tryz.underlying37 rfl (nw_len _)) ?_
  refine .s 9 rfl (Gives.fieldAt 39 (.tmp 1) 2 rfl _ _ rfl (fun w' => fr_z (w.heap.size) w')) ?_
  refine .s 10 rfl (Gives.load_at 37 (.tmp 9) rfl ⟨w.heap.size, 16, none⟩ rfl (Nw (nu p.z)) _ (fun w' h => (hb0.belowAll h).part 16 (Nw (nu p.z)) (rt_z _)) Tryz.underlying37 rfl (nw_len _)) ?_
  refine .s 11 rfl (Gives.build3 39 (.tmp 6) (.tmp 8) (.tmp 10) rfl _ _ _ _ rfl rfl rfl (fun w' => rl_mk _ _ _ w')) ?_
  exact .nil
 case hk1 => kernel_rfl
 case ea1 => rfl
 case eb1 => rfl
 case h1 =>
 intro W1 hb
 replace hb0 := hb0.belowAll hb
 replace hz := hz.belowAll hb
 replace hw := hw.trans (hb.mono hw.size)
 clear hb
 replace hz := hz.setRow (RL ⟨(negL p.x), p.y, p.z⟩)
 replace hw := below_setRow (g := w.heap.size + 1) hw (by omega) (RL ⟨(negL p.x), p.y, p.z⟩).toArray
 have hgot := hz
 have HGOT := yH hgot
 have HW := yH hw
 clear hgot hw hb0 hz
 go_wp2_with fail
 refine bodyPost_ret (results_cell_row (by rfl) _ _ (w.heap.size + 1) _ _ _ _ (by rfl) HGOT.out Tryz.underlying39 rfl (rl_info _)) rfl ?_
 exact ⟨rfl, HW.out⟩
end
section
open Go.RowKit
structure Ir (p : Rp) (P : A2) : Prop where
 z : fp p.z ≠ 0
 x : fp p.x = P.1 * fp p.z
 y : fp p.y = P.2 * fp p.z
 on : On P
theorem ra_ok {p q : Rp} {d : Lm} (hp : p.ok) (hq : q.ok) (hd : d.ok) : (radP p q d).ok := by
 have c := mulL_ok hp.z hq.z
 have e := mulL_ok hd (mulL_ok (mulL_ok hp.x hq.x) (mulL_ok hp.y hq.y))
 have f := addL_ok (mulL_ok c c) e
 have g := subL_ok (y := mulL d (mulL (mulL p.x q.x) (mulL p.y q.y))) (mulL_ok c c)
 exact ⟨mulL_ok (mulL_ok (addL_ok (mulL_ok hp.x hq.y) (mulL_ok hp.y hq.x)) c) g, mulL_ok (mulL_ok (addL_ok (mulL_ok hp.y hq.y) (mulL_ok hp.x hq.x)) c) f, mulL_ok f g⟩
theorem ri1 {d x1 y1 z1 x2 y2 z2 S : Fin pp} (hs : S * (1 + d * (x1 * x2) * (y1 * y2)) = x1 * y2 + y1 * x2) : (x1 * z1 * (y2 * z2) + y1 * z1 * (x2 * z2)) * (z1 * z2) = S * (z1 * z2 * (z1 * z2) + d * (x1 * z1 * (x2 * z2) * (y1 * z1 * (y2 * z2)))) := by grind
theorem ri2 {d x1 y1 z1 x2 y2 z2 S : Fin pp} (hs : S * (1 - d * (x1 * x2) * (y1 * y2)) = y1 * y2 + x1 * x2) : (y1 * z1 * (y2 * z2) + x1 * z1 * (x2 * z2)) * (z1 * z2) = S * (z1 * z2 * (z1 * z2) - d * (x1 * z1 * (x2 * z2) * (y1 * z1 * (y2 * z2)))) := by grind
theorem ri3 (d x1 y1 z1 x2 y2 z2 : Fin pp) : z1 * z2 * (z1 * z2) + d * (x1 * z1 * (x2 * z2) * (y1 * z1 * (y2 * z2))) = (z1 * z2) * (z1 * z2) * (1 + d * (x1 * x2) * (y1 * y2)) := by grind
theorem ri4 (d x1 y1 z1 x2 y2 z2 : Fin pp) : z1 * z2 * (z1 * z2) - d * (x1 * z1 * (x2 * z2) * (y1 * z1 * (y2 * z2))) = (z1 * z2) * (z1 * z2) * (1 - d * (x1 * x2) * (y1 * y2)) := by grind
theorem ir_ad {p q : Rp} {P Q : A2} (hp : p.ok) (hq : q.ok) (h : Ir p P) (k : Ir q Q) : Ir (radP p q dL) (adA P Q) := by
 have eok := mulL_ok dL_ok (mulL_ok (mulL_ok hp.x hq.x) (mulL_ok hp.y hq.y))
 have ef : fp (addL (mulL (mulL p.z q.z) (mulL p.z q.z)) (mulL dL (mulL (mulL p.x q.x) (mulL p.y q.y)))) = fp p.z * fp q.z * (fp p.z * fp q.z) + dF * (P.1 * fp p.z * (Q.1 * fp q.z) * (P.2 * fp p.z * (Q.2 * fp q.z))) := by
  rw [fp_add, fp_mul, fp_mul, fp_mul, fp_mul, fp_mul, fp_mul, h.x, h.y, k.x, k.y]
  rfl
 have eg : fp (subL (mulL (mulL p.z q.z) (mulL p.z q.z)) (mulL dL (mulL (mulL p.x q.x) (mulL p.y q.y)))) = fp p.z * fp q.z * (fp p.z * fp q.z) - dF * (P.1 * fp p.z * (Q.1 * fp q.z) * (P.2 * fp p.z * (Q.2 * fp q.z))) := by
  rw [fp_sub _ eok, fp_mul, fp_mul, fp_mul, fp_mul, fp_mul, fp_mul, h.x, h.y, k.x, k.y]
  rfl
 have ea : fp (mulL (addL (mulL p.x q.y) (mulL p.y q.x)) (mulL p.z q.z)) = (adA P Q).1 * fp (addL (mulL (mulL p.z q.z) (mulL p.z q.z)) (mulL dL (mulL (mulL p.x q.x) (mulL p.y q.y)))) := by
  rw [ef, fp_mul, fp_add, fp_mul, fp_mul, fp_mul, h.x, h.y, k.x, k.y]
  exact ri1 (ad_1 h.on k.on)
 have eb : fp (mulL (addL (mulL p.y q.y) (mulL p.x q.x)) (mulL p.z q.z)) = (adA P Q).2 * fp (subL (mulL (mulL p.z q.z) (mulL p.z q.z)) (mulL dL (mulL (mulL p.x q.x) (mulL p.y q.y)))) := by
  rw [eg, fp_mul, fp_add, fp_mul, fp_mul, fp_mul, h.x, h.y, k.x, k.y]
  exact ri2 (ad_2 h.on k.on)
 have e3 : fp (addL (mulL (mulL p.z q.z) (mulL p.z q.z)) (mulL dL (mulL (mulL p.x q.x) (mulL p.y q.y)))) ≠ 0 := by
  rw [ef, ri3]
  exact mul_ne (mul_ne (mul_ne h.z k.z) (mul_ne h.z k.z)) (cplus h.on k.on)
 have e4 : fp (subL (mulL (mulL p.z q.z) (mulL p.z q.z)) (mulL dL (mulL (mulL p.x q.x) (mulL p.y q.y)))) ≠ 0 := by
  rw [eg, ri4]
  exact mul_ne (mul_ne (mul_ne h.z k.z) (mul_ne h.z k.z)) (cminus h.on k.on)
 unfold radP
 refine ⟨?_, ?_, ?_, on_ad h.on k.on⟩
 ·show fp (mulL _ _) ≠ 0
  rw [fp_mul]
  exact mul_ne e3 e4
 ·show fp (mulL (mulL _ _) _) = _ * fp (mulL _ _)
  rw [fp_mul, fp_mul (addL (mulL (mulL p.z q.z) (mulL p.z q.z)) _), ea]
  exact ie1 _ _ _
 ·show fp (mulL (mulL _ _) _) = _ * fp (mulL _ _)
  rw [fp_mul, fp_mul (addL (mulL (mulL p.z q.z) (mulL p.z q.z)) _), eb]
  exact ie2 _ _ _
theorem ir_ng {p : Rp} {P : A2} (hp : p.ok) (h : Ir p P) : Ir (rngP p) (ngA P) :=
 ⟨h.z, (fp_neg hp.x).trans (by rw [h.x]; exact in1 _ _), h.y, on_ng h.on⟩
def rzP : Rp := ⟨zeL, smL 1, smL 1⟩
theorem rz_ok : rzP.ok := ⟨zeL_ok, sm_ok1, sm_ok1⟩
theorem fp_ze : fp zeL = 0 := Fin.ext (by show nu zeL = _; rw [nu_zeL]; rfl)
theorem ir_ze : Ir rzP O2 := by
 have hz : fp rzP.z = 1 := fp_1
 have hy : fp rzP.y = 1 := fp_1
 have hx : fp rzP.x = 0 := fp_ze
 exact ⟨by rw [hz]; decide, by rw [hx]; exact (Fin.zero_mul _).symm, by rw [hy, hz]; decide, on_O⟩
theorem ir_div {x z a : Lm} {X : Fin pp} (hz : fp z ≠ 0) (hx : fp x = X * fp z) : nu (mulL x (invL z)) = X.val := by
 have hv : nu z ≠ 0 := fun e => hz (Fin.ext e)
 have h1 := inv_one z
 rw [if_neg hv] at h1
 have h2 : fp z * fp (invL z) = 1 := by
  rw [← fp_mul]
  exact Fin.ext (h1.trans (by decide))
 have h3 : fp (mulL x (invL z)) = X := by
  rw [fp_mul, hx]
  grind
 exact congrArg Fin.val h3
def told (P : A2) : Nat := P.2.val + (if P.1.val % 2 = 1 then 57896044618658097711785492504343953926634992332820282019728792003956564819968 else 0)
theorem is_told {p : Pm} {P : A2} (h : Is p P) : ptN p = told P := by
 unfold ptN told
 rw [ir_div (a := p.x) h.z h.x, ir_div (a := p.x) h.z h.y]
theorem x_sq {d x y u : Fin pp} (h1 : y * y - x * x - 1 - d * (x * x) * (y * y) = 0) (h2 : y * y - u * u - 1 - d * (u * u) * (y * y) = 0) : (x - u) * (x + u) * (1 + d * (y * y)) = 0 := by grind
theorem dy_ne0 {y : Fin pp} : 1 + dF * (y * y) ≠ 0 := by
 intro e
 by_cases hy : y = 0
 ·rw [hy, Fin.mul_zero, Fin.mul_zero, Fin.add_zero] at e
  exact absurd e (by decide)
 ·refine d_ns hy (r := jF) ?_
  have := j_sq
  grind
theorem told_inj {P Q : A2} (hP : On P) (hQ : On Q) (h : told P = told Q) : P = Q := by
 have a1 := P.2.isLt
 have a2 := Q.2.isLt
 have hb : pp < 57896044618658097711785492504343953926634992332820282019728792003956564819968 := by decide
 have hy : P.2.val = Q.2.val := by
  unfold told at h
  split at h <;> split at h <;> omega
 have hpar : P.1.val % 2 = Q.1.val % 2 := by
  unfold told at h
  split at h <;> split at h <;> omega
 have ey : P.2 = Q.2 := Fin.ext hy
 refine Prod.ext ?_ ey
 have hQ' : P.2 * P.2 - Q.1 * Q.1 - 1 - dF * (Q.1 * Q.1) * (P.2 * P.2) = 0 := by rw [ey]; exact hQ
 have hx := (fp_dom (x_sq hP hQ')).resolve_right dy_ne0
 rcases fp_dom hx with e | e
 ·grind
 ·have e2 : (P.1.val + Q.1.val) % pp = 0 := by
   have := congrArg Fin.val e
   rwa [Fin.val_add] at this
  have b1 := P.1.isLt
  have b2 := Q.1.isLt
  have hodd : pp % 2 = 1 := by decide
  refine Fin.ext ?_
  generalize P.1.val = u at *
  generalize Q.1.val = v at *
  have h3 : u + v = 0 ∨ u + v = pp := by
   have h4 : u + v < 2 * pp := by omega
   rcases Nat.lt_or_ge (u + v) pp with h5 | h5
   ·rw [Nat.mod_eq_of_lt h5] at e2; exact .inl e2
   ·rw [Nat.mod_eq_sub_mod h5, Nat.mod_eq_of_lt (by omega)] at e2
    exact .inr (by omega)
  rcases h3 with h3 | h3
  ·omega
  ·omega
end
section
open Go.RowKit
def rmA (p : Rp) : Nat → Rp
 | 0 => p
 | k + 1 => radP (rmA p k) (rmA p k) dL
def rmO (p : Rp) (e : Nat) : Nat → Rp
 | 0 => rzP
 | k + 1 => if e / 2 ^ k % 2 = 1 then radP (rmO p e k) (rmA p k) dL else rmO p e k
theorem rmA_ok {p : Rp} (h : p.ok) : ∀ k, (rmA p k).ok
 | 0 => h
 | k + 1 => ra_ok (rmA_ok h k) (rmA_ok h k) dL_ok
theorem rmO_one {p : Rp} {e k : Nat} (h : e / 2 ^ k % 2 = 1) : rmO p e (k + 1) = radP (rmO p e k) (rmA p k) dL := by rw [rmO, if_pos h]
theorem rmO_no {p : Rp} {e k : Nat} (h : ¬ e / 2 ^ k % 2 = 1) : rmO p e (k + 1) = rmO p e k := by rw [rmO, if_neg h]
theorem rmO_ok {p : Rp} (e : Nat) (h : p.ok) : ∀ k, (rmO p e k).ok
 | 0 => rz_ok
 | k + 1 => by
  by_cases hb : e / 2 ^ k % 2 = 1
  ·rw [rmO_one hb]; exact ra_ok (rmO_ok e h k) (rmA_ok h k) dL_ok
  ·rw [rmO_no hb]; exact rmO_ok e h k
def rmuP (p : Rp) (e : Nat) : Rp := rmO p e 256
theorem ir_mA {p : Rp} {P : A2} (hp : p.ok) (h : Ir p P) : ∀ k, Ir (rmA p k) (sm (2 ^ k) P)
 | 0 => by rw [Nat.pow_zero, sm_one]; exact h
 | k + 1 => by
  rw [Nat.pow_succ, sm_two h.on]
  exact ir_ad (rmA_ok hp k) (rmA_ok hp k) (ir_mA hp h k) (ir_mA hp h k)
theorem ir_mO {p : Rp} {P : A2} (hp : p.ok) (h : Ir p P) (e : Nat) : ∀ k, Ir (rmO p e k) (sm (e % 2 ^ k) P)
 | 0 => by rw [Nat.pow_zero, Nat.mod_one]; exact ir_ze
 | k + 1 => by
  by_cases hb : e / 2 ^ k % 2 = 1
  ·rw [rmO_one hb, Nat.pow_succ 2 k, Nat.mod_mul, hb, Nat.mul_one, sm_add h.on]
   exact ir_ad (rmO_ok e hp k) (rmA_ok hp k) (ir_mO hp h e k) (ir_mA hp h k)
  ·rw [rmO_no hb, Nat.pow_succ 2 k, Nat.mod_mul, show e / 2 ^ k % 2 = 0 by omega, Nat.mul_zero, Nat.add_zero]
   exact ir_mO hp h e k
theorem ir_mu {p : Rp} {P : A2} {e : Nat} (hp : p.ok) (he : e < 2 ^ 256) (h : Ir p P) : Ir (rmuP p e) (sm e P) := by
 have := ir_mO hp h e 256
 rwa [Nat.mod_eq_of_lt he] at this
theorem zrp_ref (w : World) : Calls Tryz.prog 33 #[] w fun e w' => e = .returned (.agg (RL rzP).toArray) ∧ Below w.heap.size w w' := zr_ref w
theorem rl_zero_row (w : World) : Row (w.alloc (.cells #[.int .u32 0, .int .u32 0, .int .u32 0, .int .u32 0, .int .u32 0, .int .u32 0, .int .u32 0, .int .u32 0, .int .u32 0, .int .u32 0, .int .u32 0, .int .u32 0, .int .u32 0, .int .u32 0, .int .u32 0, .int .u32 0, .int .u32 0, .int .u32 0, .int .u32 0, .int .u32 0, .int .u32 0, .int .u32 0, .int .u32 0, .int .u32 0] 39)) w.heap.size 39 (RL zeR) := by
 rw [RL_zero]
 exact Row.new w _ _
set_option maxHeartbeats 6400000 in
theorem mup_ref {p : Rp} (hp : p.ok) (e : Nat) (w : World) :
  Calls Tryz.prog 20 #[.agg (RL p).toArray, .agg (By e 32).toArray] w fun e' w' => e' = .returned (.agg (RL (rmuP p e)).toArray) ∧ Below w.heap.size w w' := by
 have HSB := yH by_info
 have hr1 := ((Row.new w (RL p) 39).alloc (.cells (By e 32).toArray 22)).alloc (.cells #[.int .u32 0, .int .u32 0, .int .u32 0, .int .u32 0, .int .u32 0, .int .u32 0, .int .u32 0, .int .u32 0, .int .u32 0, .int .u32 0, .int .u32 0, .int .u32 0, .int .u32 0, .int .u32 0, .int .u32 0, .int .u32 0, .int .u32 0, .int .u32 0, .int .u32 0, .int .u32 0, .int .u32 0, .int .u32 0, .int .u32 0, .int .u32 0] 39)
 have hr2 := (Row.new1 w (.cells (RL p).toArray 39) (By e 32) 22).alloc (.cells #[.int .u32 0, .int .u32 0, .int .u32 0, .int .u32 0, .int .u32 0, .int .u32 0, .int .u32 0, .int .u32 0, .int .u32 0, .int .u32 0, .int .u32 0, .int .u32 0, .int .u32 0, .int .u32 0, .int .u32 0, .int .u32 0, .int .u32 0, .int .u32 0, .int .u32 0, .int .u32 0, .int .u32 0, .int .u32 0, .int .u32 0, .int .u32 0] 39)
 have hr3 : Row (((w.alloc (.cells (RL p).toArray 39)).alloc (.cells (By e 32).toArray 22)).alloc (.cells #[.int .u32 0, .int .u32 0, .int .u32 0, .int .u32 0, .int .u32 0, .int .u32 0, .int .u32 0, .int .u32 0, .int .u32 0, .int .u32 0, .int .u32 0, .int .u32 0, .int .u32 0, .int .u32 0, .int .u32 0, .int .u32 0, .int .u32 0, .int .u32 0, .int .u32 0, .int .u32 0, .int .u32 0, .int .u32 0, .int .u32 0, .int .u32 0] 39)) (w.heap.size + 1 + 1) 39 (RL zeR) := by
  rw [RL_zero]
  exact Row.new2 w _ _ _ _
 have hb0 := Below.alloc3 w (.cells (RL p).toArray 39) (.cells (By e 32).toArray 22) (.cells #[.int .u32 0, .int .u32 0, .int .u32 0, .int .u32 0, .int .u32 0, .int .u32 0, .int .u32 0, .int .u32 0, .int .u32 0, .int .u32 0, .int .u32 0, .int .u32 0, .int .u32 0, .int .u32 0, .int .u32 0, .int .u32 0, .int .u32 0, .int .u32 0, .int .u32 0, .int .u32 0, .int .u32 0, .int .u32 0, .int .u32 0, .int .u32 0] 39)
 have hs0 : (((w.alloc (.cells (RL p).toArray 39)).alloc (.cells (By e 32).toArray 22)).alloc (.cells #[.int .u32 0, .int .u32 0, .int .u32 0, .int .u32 0, .int .u32 0, .int .u32 0, .int .u32 0, .int .u32 0, .int .u32 0, .int .u32 0, .int .u32 0, .int .u32 0, .int .u32 0, .int .u32 0, .int .u32 0, .int .u32 0, .int .u32 0, .int .u32 0, .int .u32 0, .int .u32 0, .int .u32 0, .int .u32 0, .int .u32 0, .int .u32 0] 39)).heap.size = w.heap.size + 1 + 1 + 1 := by simp
 have HR1 := yH hr1
 have HR2 := yH hr2
 have HR3 := yH hr3
 have HB0 := yH hb0
 have HS0 := yH hs0
 clear hr1 hr2 hr3 hb0 hs0
 go_enter Tryz.func20, Tryz.ntmps20
 go_wp2_with fail
 refine (d_ref _).mono ?_
 rintro e1 w1 ⟨rfl, hb1⟩
 have hsz := hb1.size
 rw [HS0.out] at hsz
 have hx1 := HR1.out.belowAll hb1
 have hn1 := HR2.out.belowAll hb1
 have hz1 := HR3.out.belowAll hb1
 have hw1 := HB0.out.trans (hb1.mono HB0.out.size)
 have hv0 := nw_zero_row w1
 have hd2 := hv0.setRow (Nw (nu dL))
 have hx2 := (hx1.alloc (.cells #[.int .u32 0, .int .u32 0, .int .u32 0, .int .u32 0, .int .u32 0, .int .u32 0, .int .u32 0, .int .u32 0] 37)).setRowOther (k := w1.heap.size) (by omega) (Nw (nu dL)).toArray
 have hn2 := (hn1.alloc (.cells #[.int .u32 0, .int .u32 0, .int .u32 0, .int .u32 0, .int .u32 0, .int .u32 0, .int .u32 0, .int .u32 0] 37)).setRowOther (k := w1.heap.size) (by omega) (Nw (nu dL)).toArray
 have hz2 := (hz1.alloc (.cells #[.int .u32 0, .int .u32 0, .int .u32 0, .int .u32 0, .int .u32 0, .int .u32 0, .int .u32 0, .int .u32 0] 37)).setRowOther (k := w1.heap.size) (by omega) (Nw (nu dL)).toArray
 have hw2 := below_setRow (g := w1.heap.size) (hw1.alloc (by omega) (.cells #[.int .u32 0, .int .u32 0, .int .u32 0, .int .u32 0, .int .u32 0, .int .u32 0, .int .u32 0, .int .u32 0] 37)) (by omega) (Nw (nu dL)).toArray
 have HV0 := yH hv0
 clear hb1 hx1 hn1 hz1 hw1 hv0 HR1 HR2 HR3 HB0 HS0
 go_wp2_with (refine wpList_store_row rfl 37 (.tmp 5) (.tmp 8) rfl w1.heap.size _ rfl rfl 37 _ HV0.out (nw_info _) (Nw_sz _ _) (Nw_one _) ?_)
 clear HV0
 have hg5 : w1.heap.size < ((w1.alloc (.cells #[.int .u32 0, .int .u32 0, .int .u32 0, .int .u32 0, .int .u32 0, .int .u32 0, .int .u32 0, .int .u32 0] 37)).setRow w1.heap.size (Nw (nu dL)).toArray).heap.size := hd2.lt
 generalize (w1.alloc (.cells #[.int .u32 0, .int .u32 0, .int .u32 0, .int .u32 0, .int .u32 0, .int .u32 0, .int .u32 0, .int .u32 0] 37)).setRow w1.heap.size (Nw (nu dL)).toArray = V1 at *
 generalize w1.heap.size = g5 at *
 refine (zrp_ref _).mono ?_
 rintro e2 w2 ⟨rfl, hb2⟩
 have hsz2 := hb2.size
 have hx3 := hx2.belowAll hb2
 have hn3 := hn2.belowAll hb2
 have hz3 := hz2.belowAll hb2
 have hd3 := hd2.belowAll hb2
 have hw3 := hw2.trans (hb2.mono hw2.size)
 have hv0 := rl_zero_row w2
 have hv1 := hv0.setRow (RL rzP)
 have hx4 := (hx3.alloc (.cells #[.int .u32 0, .int .u32 0, .int .u32 0, .int .u32 0, .int .u32 0, .int .u32 0, .int .u32 0, .int .u32 0, .int .u32 0, .int .u32 0, .int .u32 0, .int .u32 0, .int .u32 0, .int .u32 0, .int .u32 0, .int .u32 0, .int .u32 0, .int .u32 0, .int .u32 0, .int .u32 0, .int .u32 0, .int .u32 0, .int .u32 0, .int .u32 0] 39)).setRowOther (k := w2.heap.size) (by omega) (RL rzP).toArray
 have hn4 := (hn3.alloc (.cells #[.int .u32 0, .int .u32 0, .int .u32 0, .int .u32 0, .int .u32 0, .int .u32 0, .int .u32 0, .int .u32 0, .int .u32 0, .int .u32 0, .int .u32 0, .int .u32 0, .int .u32 0, .int .u32 0, .int .u32 0, .int .u32 0, .int .u32 0, .int .u32 0, .int .u32 0, .int .u32 0, .int .u32 0, .int .u32 0, .int .u32 0, .int .u32 0] 39)).setRowOther (k := w2.heap.size) (by omega) (RL rzP).toArray
 have hz4 := (hz3.alloc (.cells #[.int .u32 0, .int .u32 0, .int .u32 0, .int .u32 0, .int .u32 0, .int .u32 0, .int .u32 0, .int .u32 0, .int .u32 0, .int .u32 0, .int .u32 0, .int .u32 0, .int .u32 0, .int .u32 0, .int .u32 0, .int .u32 0, .int .u32 0, .int .u32 0, .int .u32 0, .int .u32 0, .int .u32 0, .int .u32 0, .int .u32 0, .int .u32 0] 39)).setRowOther (k := w2.heap.size) (by omega) (RL rzP).toArray
 have hd4 := (hd3.alloc (.cells #[.int .u32 0, .int .u32 0, .int .u32 0, .int .u32 0, .int .u32 0, .int .u32 0, .int .u32 0, .int .u32 0, .int .u32 0, .int .u32 0, .int .u32 0, .int .u32 0, .int .u32 0, .int .u32 0, .int .u32 0, .int .u32 0, .int .u32 0, .int .u32 0, .int .u32 0, .int .u32 0, .int .u32 0, .int .u32 0, .int .u32 0, .int .u32 0] 39)).setRowOther (k := w2.heap.size) (by omega) (RL rzP).toArray
 have hw4 := below_setRow (g := w2.heap.size) (hw3.alloc (by omega) (.cells #[.int .u32 0, .int .u32 0, .int .u32 0, .int .u32 0, .int .u32 0, .int .u32 0, .int .u32 0, .int .u32 0, .int .u32 0, .int .u32 0, .int .u32 0, .int .u32 0, .int .u32 0, .int .u32 0, .int .u32 0, .int .u32 0, .int .u32 0, .int .u32 0, .int .u32 0, .int .u32 0, .int .u32 0, .int .u32 0, .int .u32 0, .int .u32 0] 39)) (by omega) (RL rzP).toArray
 have h56 : g5 < w2.heap.size := by omega
 have HV0 := yH hv0
 have HV1 := yH hv1
 have HX2 := yH hx4
 have HN2 := yH hn4
 have HZ2 := yH hz4
 have HD2 := yH hd4
 have HW2 := yH hw4
 have HSZ := yH hsz
 have H56 := yH h56
 clear hb2 hsz hsz2 hx2 hn2 hz2 hd2 hw2 hx3 hn3 hz3 hd3 hw3 hv0 hv1 hx4 hn4 hz4 hd4 hw4 hg5 h56
 go_wp2_with (refine wpList_store_row rfl 39 (.tmp 6) (.tmp 9) rfl w2.heap.size _ rfl rfl 39 _ HV0.out (rl_info _) (RL_sz _ _) (RL_one _) ?_)
 generalize (w2.alloc (.cells #[.int .u32 0, .int .u32 0, .int .u32 0, .int .u32 0, .int .u32 0, .int .u32 0, .int .u32 0, .int .u32 0, .int .u32 0, .int .u32 0, .int .u32 0, .int .u32 0, .int .u32 0, .int .u32 0, .int .u32 0, .int .u32 0, .int .u32 0, .int .u32 0, .int .u32 0, .int .u32 0, .int .u32 0, .int .u32 0, .int .u32 0, .int .u32 0] 39)).setRow w2.heap.size (RL rzP).toArray = W2 at *
 generalize w2.heap.size = g6 at *
 go_loopw [7] (fun i wr => ∃ k : Nat, k ≤ 256 ∧ i = .int .i64 (k : Int) ∧ Row wr w.heap.size 39 (RL (rmA p k)) ∧ Row wr (w.heap.size + 1) 22 (By e 32) ∧ Row wr (w.heap.size + 1 + 1) 39 (RL zeR) ∧ Row wr g5 37 (Nw (nu dL)) ∧ Row wr g6 39 (RL (rmO p e k)) ∧ Below w.heap.size w wr) (fun i _ => 256 - (intOf i).toNat)
 case atStart =>
  exact ⟨0, Nat.zero_le _, rfl, HX2.out, HN2.out, HZ2.out, HD2.out, HV1.out, HW2.out⟩
 case round =>
  obtain ⟨k, hk6, rfl, ha, hb, hz, hd, ho, hbe⟩ := hrel
  have hsz := HSZ.out
  have h56 := H56.out
  by_cases hlt : k < 256
  ·have hcb := hb.cell (By_get e 32 (k := k / 8) (by omega))
   have hbit := byt_bit e k
   have lb := byt_lt e (k / 8)
   have hsh : ((byt e (k / 8) : Nat) : Int) / 2 ^ (k % 8) = ((byt e (k / 8) / 2 ^ (k % 8) : Nat) : Int) := by simp
   have hdv : Int.tdiv (k : Int) 8 = ((k / 8 : Nat) : Int) := by rw [Int.tdiv_eq_ediv_of_nonneg (by omega)]; omega
   have hm : Int.tmod (k : Int) 8 = ((k % 8 : Nat) : Int) := by rw [Int.tmod_eq_emod_of_nonneg (by omega)]; omega
   have hd' : (k : Int) / 8 = ((k / 8 : Nat) : Int) := by omega
   have hm' : (k : Int) % 8 = ((k % 8 : Nat) : Int) := by omega
   have h8 : k / 8 < 32 := by omega
   have him : k % 8 < 8 := Nat.mod_lt _ (by decide)
   have b0 : (0 : Int) ≤ (k : Int) := by omega
   have b6 : (k : Int) < 256 := by omega
   have hav := rmA_ok hp k
   have hov := rmO_ok e hp k
   have hsq : rmA p (k + 1) = radP (rmA p k) (rmA p k) dL := rfl
   have hw1 : IntKind.i64.wrap ((k / 8 : Nat) : Int) = ((k / 8 : Nat) : Int) := IntWalk.i64_in _ (by omega)
   have HA := yH ha
   have HB := yH hb
   have HZ := yH hz
   have HD := yH hd
   have HO := yH ho
   have HBE := yH hbe
   by_cases hone : e / 2 ^ k % 2 = 1
   ·have hnext := rmO_one (p := p) hone
    rw [hone] at hbit
    have hq : ((((byt e (k / 8) : Nat) : Int) / 2 ^ (k % 8)) % 2 == 1) = true := by
     rw [hsh, beq_iff_eq]
     omega
    have hpos : (0 : Int) ≤ ((byt e (k / 8) : Nat) : Int) / 2 ^ (k % 8) := by rw [hsh]; exact Int.natCast_nonneg _
    clear hsh hbit hone
    generalize byt e (k / 8) = x8 at *
    generalize k / 8 = q at *
    generalize k % 8 = r at *
    have b2 : (0 : Int) ≤ (q : Int) := by omega
    have b3 : (q : Int) < 32 := by omega
    have b4 : (0 : Int) ≤ (r : Int) := by omega
    have b5 : (r : Int) < 64 := by omega
    have HNX := yH hnext
    have HSQ := yH hsq
    clear ha hb hz hd ho hbe hnext hsq
    generalize rmA p k = av at *
    generalize rmO p e k = ov at *
    go_wp2_with (first
     | (refine wpList_load_row rfl 39 (.tmp 6) rfl (g6) rfl 39 _ (0, 0) _ HO.out Tryz.underlying39 rfl (rl_info _) ?_)
     | (refine wpList_load_row rfl 39 (.tmp 2) rfl (w.heap.size) rfl 39 _ (0, 0) _ HA.out Tryz.underlying39 rfl (rl_info _) ?_)
     | (refine wpList_load_row rfl 37 (.tmp 5) rfl (g5) rfl 37 _ (0, 0) _ HD.out Tryz.underlying37 rfl (nw_info _) ?_))
    refine (addp_ref hov hav dL_ok _).mono ?_
    rintro e2 w3 ⟨rfl, hb2⟩
    have ho2 := HO.out.belowAll hb2
    have ha3 := (HA.out.belowAll hb2).setRowOther (k := g6) (by omega) (RL (radP ov av dL)).toArray
    have hb3 := (HB.out.belowAll hb2).setRowOther (k := g6) (by omega) (RL (radP ov av dL)).toArray
    have hz3 := (HZ.out.belowAll hb2).setRowOther (k := g6) (by omega) (RL (radP ov av dL)).toArray
    have hd3 := (HD.out.belowAll hb2).setRowOther (k := g6) (by omega) (RL (radP ov av dL)).toArray
    have ho3 := ho2.setRow (RL (radP ov av dL))
    have hbe3 := below_setRow (g := g6) (HBE.out.trans (hb2.mono HBE.out.size)) (by omega) (RL (radP ov av dL)).toArray
    have HO2 := yH ho2
    have HA3 := yH ha3
    have HB3 := yH hb3
    have HZ3 := yH hz3
    have HD3 := yH hd3
    have HO3 := yH ho3
    have HBE3 := yH hbe3
    clear ho2 ha3 hb3 hz3 hd3 ho3 hbe3 hb2
    go_wp2_with (first
     | (refine wpList_store_row rfl 39 (.tmp 6) (.tmp 26) rfl (g6) _ rfl rfl 39 _ HO2.out (rl_info _) (RL_sz _ _) (RL_one _) ?_)
     | (refine wpList_load_row rfl 39 (.tmp 2) rfl (w.heap.size) rfl 39 _ (0, 0) _ HA3.out Tryz.underlying39 rfl (rl_info _) ?_)
     | (refine wpList_load_row rfl 37 (.tmp 5) rfl (g5) rfl 37 _ (0, 0) _ HD3.out Tryz.underlying37 rfl (nw_info _) ?_))
    refine (addp_ref hav hav dL_ok _).mono ?_
    rintro e4 w4 ⟨rfl, hb4⟩
    have ha4 := HA3.out.belowAll hb4
    have hb5 := (HB3.out.belowAll hb4).setRowOther (k := w.heap.size) (by omega) (RL (radP av av dL)).toArray
    have hz5 := (HZ3.out.belowAll hb4).setRowOther (k := w.heap.size) (by omega) (RL (radP av av dL)).toArray
    have hd5 := (HD3.out.belowAll hb4).setRowOther (k := w.heap.size) (by omega) (RL (radP av av dL)).toArray
    have ho5 := (HO3.out.belowAll hb4).setRowOther (k := w.heap.size) (by omega) (RL (radP av av dL)).toArray
    have ha5 := ha4.setRow (RL (radP av av dL))
    have hbe5 := below_setRow (g := w.heap.size) (HBE3.out.trans (hb4.mono HBE3.out.size)) (Nat.le_refl _) (RL (radP av av dL)).toArray
    have HA4 := yH ha4
    have HA5 := yH ha5
    have HB5 := yH hb5
    have HZ5 := yH hz5
    have HD5 := yH hd5
    have HO5 := yH ho5
    have HBE5 := yH hbe5
    clear ha4 ha5 hb5 hz5 hd5 ho5 hbe5 hb4
    go_wp2_with (refine wpList_store_row rfl 39 (.tmp 2) (.tmp 30) rfl (w.heap.size) _ rfl rfl 39 _ HA4.out (rl_info _) (RL_sz _ _) (RL_one _) ?_)
    go_roundw
    case rel => exact ⟨k + 1, by omega, by go_num, by rw [HSQ.out]; exact HA5.out, HB5.out, HZ5.out, HD5.out, by rw [HNX.out]; exact HO5.out, HBE5.out⟩
    case measure => simp [intOf] <;> omega
   ·have hnext := rmO_no (p := p) hone
    have hb0' : e / 2 ^ k % 2 = 0 := by omega
    rw [hb0'] at hbit
    have hq : ((((byt e (k / 8) : Nat) : Int) / 2 ^ (k % 8)) % 2 == 1) = false := by
     rw [hsh, beq_eq_false_iff_ne]
     omega
    have hpos : (0 : Int) ≤ ((byt e (k / 8) : Nat) : Int) / 2 ^ (k % 8) := by rw [hsh]; exact Int.natCast_nonneg _
    clear hsh hbit hone hb0'
    generalize byt e (k / 8) = x8 at *
    generalize k / 8 = q at *
    generalize k % 8 = r at *
    have b2 : (0 : Int) ≤ (q : Int) := by omega
    have b3 : (q : Int) < 32 := by omega
    have b4 : (0 : Int) ≤ (r : Int) := by omega
    have b5 : (r : Int) < 64 := by omega
    have HNX := yH hnext
    have HSQ := yH hsq
    clear ha hb hz hd ho hbe hnext hsq
    generalize rmA p k = av at *
    generalize rmO p e k = ov at *
    go_wp2_with (first
     | (refine wpList_load_row rfl 39 (.tmp 2) rfl (w.heap.size) rfl 39 _ (0, 0) _ HA.out Tryz.underlying39 rfl (rl_info _) ?_)
     | (refine wpList_load_row rfl 37 (.tmp 5) rfl (g5) rfl 37 _ (0, 0) _ HD.out Tryz.underlying37 rfl (nw_info _) ?_))
    refine (addp_ref hav hav dL_ok _).mono ?_
    rintro e4 w4 ⟨rfl, hb4⟩
    have ha4 := HA.out.belowAll hb4
    have hb5 := (HB.out.belowAll hb4).setRowOther (k := w.heap.size) (by omega) (RL (radP av av dL)).toArray
    have hz5 := (HZ.out.belowAll hb4).setRowOther (k := w.heap.size) (by omega) (RL (radP av av dL)).toArray
    have hd5 := (HD.out.belowAll hb4).setRowOther (k := w.heap.size) (by omega) (RL (radP av av dL)).toArray
    have ho5 := (HO.out.belowAll hb4).setRowOther (k := w.heap.size) (by omega) (RL (radP av av dL)).toArray
    have ha5 := ha4.setRow (RL (radP av av dL))
    have hbe5 := below_setRow (g := w.heap.size) (HBE.out.trans (hb4.mono HBE.out.size)) (Nat.le_refl _) (RL (radP av av dL)).toArray
    have HA4 := yH ha4
    have HA5 := yH ha5
    have HB5 := yH hb5
    have HZ5 := yH hz5
    have HD5 := yH hd5
    have HO5 := yH ho5
    have HBE5 := yH hbe5
    clear ha4 ha5 hb5 hz5 hd5 ho5 hbe5 hb4
    go_wp2_with (refine wpList_store_row rfl 39 (.tmp 2) (.tmp 30) rfl (w.heap.size) _ rfl rfl 39 _ HA4.out (rl_info _) (RL_sz _ _) (RL_one _) ?_)
    go_roundw
    case rel => exact ⟨k + 1, by omega, by go_num, by rw [HSQ.out]; exact HA5.out, HB5.out, HZ5.out, HD5.out, by rw [HNX.out]; exact HO5.out, HBE5.out⟩
    case measure => simp [intOf] <;> omega
  ·obtain rfl : k = 256 := by omega
   have HZ := yH hz
   have HO := yH ho
   have HBE := yH hbe
   clear ha hb hz hd ho hbe hsz HV0 HV1 HX2 HN2 HZ2 HW2 HD2
   go_wp2_with (first
     | (refine wpList_load_row rfl 39 (.tmp 6) rfl (g6) rfl 39 _ (0, 0) _ HO.out Tryz.underlying39 rfl (rl_info _) ?_)
     | (refine wpList_store_row rfl 39 (.tmp 4) (.tmp 31) rfl (w.heap.size + 1 + 1) _ rfl rfl 39 _ HZ.out (rl_info _) (RL_sz _ _) (RL_one _) ?_))
   have hgot := setRow_heap wr (w.heap.size + 1 + 1) _ (RL (rmO p e 256)).toArray _ _ HZ.out
   refine bodyPost_ret (results_cell_row (by rfl) _ _ (w.heap.size + 1 + 1) _ _ _ _ (by rfl) hgot Tryz.underlying39 rfl (rl_info _)) rfl ?_
   exact ⟨rfl, below_setRow HBE.out (by omega) _⟩
end
section
open Go.RowKit
theorem oddp_is {N : Nat} {b : Bool} (h : decide (N % 2 = 1) = b) (w : World) :
  Calls Tryz.prog 53 #[.agg (Nw N).toArray] w fun e w' => e = .returned (.bool b) ∧ Below w.heap.size w w' := by
 rw [← h]; exact oddr_ref N w
def ptR (p : Rp) : Nat := nu (mulL p.y (invL p.z)) + (if nu (mulL p.x (invL p.z)) % 2 = 1 then 57896044618658097711785492504343953926634992332820282019728792003956564819968 else 0)
theorem ir_told {p : Rp} {P : A2} (h : Ir p P) : ptR p = told P := by
 unfold ptR told
 rw [ir_div (a := p.x) h.z h.x, ir_div (a := p.x) h.z h.y]
set_option maxHeartbeats 3200000 in
theorem bytp_ref (p : Rp) (w : World) :
  Calls Tryz.prog 19 #[.agg (RL p).toArray] w fun e w' => e = .returned (.agg (By (ptR p) 32).toArray) ∧ Below w.heap.size w w' := by
 have hb0 := ((Row.new w (RL p) 39)).alloc (.cells #[.int .u8 0, .int .u8 0, .int .u8 0, .int .u8 0, .int .u8 0, .int .u8 0, .int .u8 0, .int .u8 0, .int .u8 0, .int .u8 0, .int .u8 0, .int .u8 0, .int .u8 0, .int .u8 0, .int .u8 0, .int .u8 0, .int .u8 0, .int .u8 0, .int .u8 0, .int .u8 0, .int .u8 0, .int .u8 0, .int .u8 0, .int .u8 0, .int .u8 0, .int .u8 0, .int .u8 0, .int .u8 0, .int .u8 0, .int .u8 0, .int .u8 0, .int .u8 0] 22)
 have hz : Row ((w.alloc (.cells (RL p).toArray 39)).alloc (.cells #[.int .u8 0, .int .u8 0, .int .u8 0, .int .u8 0, .int .u8 0, .int .u8 0, .int .u8 0, .int .u8 0, .int .u8 0, .int .u8 0, .int .u8 0, .int .u8 0, .int .u8 0, .int .u8 0, .int .u8 0, .int .u8 0, .int .u8 0, .int .u8 0, .int .u8 0, .int .u8 0, .int .u8 0, .int .u8 0, .int .u8 0, .int .u8 0, .int .u8 0, .int .u8 0, .int .u8 0, .int .u8 0, .int .u8 0, .int .u8 0, .int .u8 0, .int .u8 0] 22)) (w.heap.size + 1) 22 (By 0 32) := by
  rw [By_zero]
  exact Row.new1 w _ _ _
 have hw := Below.alloc2 w (.cells (RL p).toArray 39) (.cells #[.int .u8 0, .int .u8 0, .int .u8 0, .int .u8 0, .int .u8 0, .int .u8 0, .int .u8 0, .int .u8 0, .int .u8 0, .int .u8 0, .int .u8 0, .int .u8 0, .int .u8 0, .int .u8 0, .int .u8 0, .int .u8 0, .int .u8 0, .int .u8 0, .int .u8 0, .int .u8 0, .int .u8 0, .int .u8 0, .int .u8 0, .int .u8 0, .int .u8 0, .int .u8 0, .int .u8 0, .int .u8 0, .int .u8 0, .int .u8 0, .int .u8 0, .int .u8 0] 22)
 go_enter Tryz.func19, Tryz.ntmps19
 go_wp2_with (first
  | (refine wpList_load_at rfl 37 (.tmp 5) rfl ⟨w.heap.size, 16, none⟩ rfl (Nw (nu p.z)) _ (hb0.part 16 (Nw (nu p.z)) (rt_z _)) Tryz.underlying37 rfl (nw_len _) ?_))
 refine (invr_nu p.z _).mono ?_
 rintro e W1 ⟨rfl, hb⟩
 replace hb0 := hb0.belowAll hb
 replace hz := hz.belowAll hb
 replace hw := hw.trans (hb.mono hw.size)
 clear hb
 have lt_hb0 := hb0.lt
 have lt_hz := hz.lt
 have ne_hb0_1 : w.heap.size ≠ W1.heap.size := by omega
 have ne_hz_1 : w.heap.size + 1 ≠ W1.heap.size := by omega
 have new_1 := Row.new W1 (Nw 0) 37
 replace hb0 := (hb0.alloc (.cells (Nw 0).toArray 37)).setRowOther (k := W1.heap.size) ne_hb0_1 (Nw (nu (invL p.z))).toArray
 replace hz := (hz.alloc (.cells (Nw 0).toArray 37)).setRowOther (k := W1.heap.size) ne_hz_1 (Nw (nu (invL p.z))).toArray
 have h3 := new_1.setRow (Nw (nu (invL p.z)))
 have ge_1 := hw.size
 replace hw := below_setRow (g := W1.heap.size) (hw.alloc hw.size (.cells (Nw 0).toArray 37)) hw.size (Nw (nu (invL p.z))).toArray
 have NEW := yH new_1
 clear new_1 lt_hb0 lt_hz
 go_wp2_with (first
  | (refine wpList_store_row rfl 37 (.tmp 3) (.tmp 7) rfl W1.heap.size _ rfl rfl 37 _ NEW.out (nw_info _) (Nw_sz _ _) (Nw_one _) ?_)
  | (refine wpList_load_at rfl 37 (.tmp 8) rfl ⟨w.heap.size, 8, none⟩ rfl (Nw (nu p.y)) _ (hb0.part 8 (Nw (nu p.y)) (rt_y _)) Tryz.underlying37 rfl (nw_len _) ?_)
  | (refine wpList_load_row rfl 37 (.tmp 3) rfl (W1.heap.size) rfl 37 _ (0, 0) _ h3 Tryz.underlying37 rfl (nw_info _) ?_))
 clear NEW
 rw [zero8]
 generalize (W1.alloc (.cells (Nw 0).toArray 37)).setRow W1.heap.size (Nw (nu (invL p.z))).toArray = V1 at *
 generalize W1.heap.size = g3 at *
 refine (mulr_nu p.y (invL p.z) _).mono ?_
 rintro e W2 ⟨rfl, hb⟩
 replace hb0 := hb0.belowAll hb
 replace hz := hz.belowAll hb
 replace h3 := h3.belowAll hb
 replace hw := hw.trans (hb.mono hw.size)
 clear hb
 go_wp2_with fail
 refine (rbytes_ref (nu (mulL p.y (invL p.z))) _).mono ?_
 rintro e W3 ⟨rfl, hb⟩
 replace hb0 := hb0.belowAll hb
 replace hz := hz.belowAll hb
 replace h3 := h3.belowAll hb
 replace hw := hw.trans (hb.mono hw.size)
 clear hb
 have lt_hb0 := hb0.lt
 have lt_hz := hz.lt
 have lt_h3 := h3.lt
 have ne_hb0_3 : w.heap.size ≠ W3.heap.size := by omega
 have ne_hz_3 : w.heap.size + 1 ≠ W3.heap.size := by omega
 have ne_h3_3 : g3 ≠ W3.heap.size := by omega
 have new_3 := Row.new W3 (By 0 32) 22
 replace hb0 := (hb0.alloc (.cells (By 0 32).toArray 22)).setRowOther (k := W3.heap.size) ne_hb0_3 (By (nu (mulL p.y (invL p.z))) 32).toArray
 replace hz := (hz.alloc (.cells (By 0 32).toArray 22)).setRowOther (k := W3.heap.size) ne_hz_3 (By (nu (mulL p.y (invL p.z))) 32).toArray
 replace h3 := (h3.alloc (.cells (By 0 32).toArray 22)).setRowOther (k := W3.heap.size) ne_h3_3 (By (nu (mulL p.y (invL p.z))) 32).toArray
 have h4 := new_3.setRow (By (nu (mulL p.y (invL p.z))) 32)
 have ge_3 := hw.size
 replace hw := below_setRow (g := W3.heap.size) (hw.alloc hw.size (.cells (By 0 32).toArray 22)) hw.size (By (nu (mulL p.y (invL p.z))) 32).toArray
 have NEW := yH new_3
 clear new_3 lt_hb0 lt_hz lt_h3
 go_wp2_with (first
  | (refine wpList_store_row rfl 22 (.tmp 4) (.tmp 12) rfl W3.heap.size _ rfl rfl 22 _ NEW.out (by_info _) (By_sz _ _) (By_one32 _) ?_)
  | (refine wpList_load_at rfl 37 (.tmp 13) rfl ⟨w.heap.size, 0, none⟩ rfl (Nw (nu p.x)) _ (hb0.part 0 (Nw (nu p.x)) (rt_x _)) Tryz.underlying37 rfl (nw_len _) ?_)
  | (refine wpList_load_row rfl 37 (.tmp 3) rfl (g3) rfl 37 _ (0, 0) _ h3 Tryz.underlying37 rfl (nw_info _) ?_))
 clear NEW
 rw [z32]
 generalize (W3.alloc (.cells (By 0 32).toArray 22)).setRow W3.heap.size (By (nu (mulL p.y (invL p.z))) 32).toArray = V3 at *
 generalize W3.heap.size = g4 at *
 refine (mulr_nu p.x (invL p.z) _).mono ?_
 rintro e W4 ⟨rfl, hb⟩
 replace hb0 := hb0.belowAll hb
 replace hz := hz.belowAll hb
 replace h3 := h3.belowAll hb
 replace h4 := h4.belowAll hb
 replace hw := hw.trans (hb.mono hw.size)
 clear hb
 clear hb0 h3
 have hlt : nu (mulL p.y (invL p.z)) < 57896044618658097711785492504343953926634992332820282019728792003956564819968 := Nat.lt_trans (nu_lt _) (by decide)
 by_cases hodd : nu (mulL p.x (invL p.z)) % 2 = 1
 ·skip
  have hod : decide (nu (mulL p.x (invL p.z)) % 2 = 1) = true := decide_eq_true hodd
  have hpt : ptR p = nu (mulL p.y (invL p.z)) + 57896044618658097711785492504343953926634992332820282019728792003956564819968 := by unfold ptR; rw [if_pos hodd]
  go_wp2_with fail
  refine (oddp_is hod _).mono ?_
  rintro e Wo5 ⟨rfl, hb⟩
  replace hz := hz.belowAll hb
  replace h4 := h4.belowAll hb
  replace hw := hw.trans (hb.mono hw.size)
  clear hb
  have hset := By_hi hlt
  have hcell := h4.cell (By_get (nu (mulL p.y (invL p.z))) 32 (k := 31) (by decide))
  have hfree := h4.free 31
  have hbv := byt_lt (nu (mulL p.y (invL p.z))) 31
  have hsm := ge_hi_false (N := (nu (mulL p.y (invL p.z)))) (by omega)
  have hor : ((byt (nu (mulL p.y (invL p.z))) 31 : Nat) : Int) + 128 = ((byt (nu (mulL p.y (invL p.z))) 31 % 128 + 128 : Nat) : Int) := by omega
  replace h4 := h4.set 31 (.int .u8 ((byt (nu (mulL p.y (invL p.z))) 31 % 128 + 128 : Nat) : Int))
  rw [hset] at h4
  replace hz := hz.setCell (p := ⟨g4, 31, none⟩) ne_hz_3 (.int .u8 ((byt (nu (mulL p.y (invL p.z))) 31 % 128 + 128 : Nat) : Int))
  replace hw := hw.setCell (p := ⟨g4, 31, none⟩) ge_3 (.int .u8 ((byt (nu (mulL p.y (invL p.z))) 31 % 128 + 128 : Nat) : Int))
  rw [← hor] at h4 hz hw
  have hpt2 := hpt
  generalize nu (mulL p.y (invL p.z)) + 57896044618658097711785492504343953926634992332820282019728792003956564819968 = N1 at *
  clear hset hpt2 hor
  generalize byt (nu (mulL p.y (invL p.z))) 31 = bv at *
  have HPT := yH hpt
  clear hpt hod hodd
  have hgot := setRow_heap _ (w.heap.size + 1) _ (By N1 32).toArray _ _ hz
  have HGOT := yH hgot
  have HW := yH hw
  have H4 := yH h4
  have HZ := yH hz
  clear hgot hw h4 hz
  go_wp2_with (first
   | (refine wpList_load_row rfl 22 (.tmp 4) rfl g4 rfl 22 _ (0, 0) _ H4.out Tryz.underlying22 rfl (by_info _) ?_)
   | (refine wpList_store_row rfl 22 (.tmp 2) (.tmp 22) rfl (w.heap.size + 1) _ rfl rfl 22 _ HZ.out (by_info _) (By_sz _ _) (By_one _ _) ?_))
  refine bodyPost_ret (results_cell_row (by rfl) _ _ (w.heap.size + 1) _ _ _ _ (by rfl) HGOT.out Tryz.underlying22 rfl (by_info _)) rfl ?_
  exact ⟨by rw [HPT.out], below_setRow HW.out (by omega) _⟩
 ·skip
  have hod : decide (nu (mulL p.x (invL p.z)) % 2 = 1) = false := decide_eq_false hodd
  have hpt : ptR p = nu (mulL p.y (invL p.z)) + 0 := by unfold ptR; rw [if_neg hodd]
  go_wp2_with fail
  refine (oddp_is hod _).mono ?_
  rintro e We5 ⟨rfl, hb⟩
  replace hz := hz.belowAll hb
  replace h4 := h4.belowAll hb
  replace hw := hw.trans (hb.mono hw.size)
  clear hb
  rw [Nat.add_zero] at hpt
  have HPT := yH hpt
  clear hpt hod hodd
  have hgot := setRow_heap _ (w.heap.size + 1) _ (By (nu (mulL p.y (invL p.z))) 32).toArray _ _ hz
  have HGOT := yH hgot
  have HW := yH hw
  clear hgot hw
  go_wp2_with (first
   | (refine wpList_load_row rfl 22 (.tmp 4) rfl (g4) rfl 22 _ (0, 0) _ h4 Tryz.underlying22 rfl (by_info _) ?_)
   | (refine wpList_store_row rfl 22 (.tmp 2) (.tmp 22) rfl (w.heap.size + 1) _ rfl rfl 22 _ hz (by_info _) (By_sz _ _) (By_one _ _) ?_))
  refine bodyPost_ret (results_cell_row (by rfl) _ _ (w.heap.size + 1) _ _ _ _ (by rfl) HGOT.out Tryz.underlying22 rfl (by_info _)) rfl ?_
  exact ⟨by rw [HPT.out], below_setRow HW.out (by omega) _⟩
end
section
open Go.RowKit
theorem fr_v {y : Lm} (hy : y.ok) : fp (frV y) = dF * (fp y * fp y) + 1 := by
 unfold frV dF
 rw [fp_add, fp_mul, fp_mul, fp_1]
theorem fr_u {y : Lm} (hy : y.ok) : fp (frU y) = fp y * fp y - 1 := by
 unfold frU
 rw [fp_sub _ sm_ok1, fp_mul, fp_1]
theorem on_root {d x y : Fin pp} (h : x * x * (d * (y * y) + 1) = y * y - 1) : y * y - x * x - 1 - d * (x * x) * (y * y) = 0 := by grind
theorem dec_on {y : Lm} (hy : y.ok) (h : rootOk (frU y) (frV y) = true) : On (fp (rootL (frU y) (frV y)), fp y) := by
 have hv0 : nu (frV y) ≠ 0 := by
  intro e
  have e2 : fp (frV y) = 0 := Fin.ext e
  rw [fr_v hy] at e2
  exact dy_ne0 (y := fp y) (by grind)
 have h1 := rootL_sq (frU_ok hy) (frV_ok hy) hv0 h
 have h2 := quo_v (u := frU y) hv0
 refine on_root ?_
 rw [← fr_v hy, ← fr_u hy]
 refine Fin.ext ?_
 rw [Fin.val_mul, Fin.val_mul]
 show nu (rootL (frU y) (frV y)) * nu (rootL (frU y) (frV y)) % pp * nu (frV y) % pp = nu (frU y)
 rw [h1, Nat.mod_mul_mod, h2, nu_mod]
def dcA (N : Nat) : A2 :=
 (fp (if N / 57896044618658097711785492504343953926634992332820282019728792003956564819968 % 2 = 1 then negL (rootL (frU (ofB (N % 57896044618658097711785492504343953926634992332820282019728792003956564819968))) (frV (ofB (N % 57896044618658097711785492504343953926634992332820282019728792003956564819968)))) else rootL (frU (ofB (N % 57896044618658097711785492504343953926634992332820282019728792003956564819968))) (frV (ofB (N % 57896044618658097711785492504343953926634992332820282019728792003956564819968)))), fp (ofB (N % 57896044618658097711785492504343953926634992332820282019728792003956564819968)))
theorem dcA_on {N : Nat} (h : decOk N = true) : On (dcA N) := by
 have hr : rootOk (frU (ofB (N % 57896044618658097711785492504343953926634992332820282019728792003956564819968))) (frV (ofB (N % 57896044618658097711785492504343953926634992332820282019728792003956564819968))) = true := by
  unfold decOk at h
  exact (Bool.and_eq_true _ _ ▸ h).1
 have hy := ofB_ok (N % 57896044618658097711785492504343953926634992332820282019728792003956564819968)
 have ho := dec_on hy hr
 unfold dcA
 split
 ·have := on_ng ho
  unfold ngA at this
  rw [fp_neg (rootL_ok (frU_ok hy) (frV_ok hy))]
  exact this
 ·exact ho
theorem is_dec {N : Nat} (h : decOk N = true) : Is (decPt N) (dcA N) := by
 have ho := dcA_on h
 unfold decPt
 rw [h, if_pos rfl]
 exact is_at ho
theorem ir_dec {N : Nat} (h : decOk N = true) {r : Rp} (hx : fp r.x = (dcA N).1) (hy : fp r.y = (dcA N).2) (hz : r.z = smL 1) : Ir r (dcA N) := by
 have z1 : fp r.z = 1 := by rw [hz]; exact fp_1
 exact ⟨by rw [z1]; decide, by rw [hx, z1]; exact (Fin.mul_one _).symm, by rw [hy, z1]; exact (Fin.mul_one _).symm, dcA_on h⟩
end
end
section
section
open Go.RowKit
section
variable {P : Program} {ops : Array Oper} {Q : Exit → Act → World → Prop} {S : World → Prop} {R : Nat → World → Prop} {val : Nat → Value} {k : Nat}
def Makes (P : Program) (S : World → Prop) (R : Nat → World → Prop) (val : Nat → Value) (o : Oper) (a : Act) : Prop :=
 ∀ w, S w → ∀ K : Act → World → Prop, (∀ g w', Below w.heap.size w w' → R g w' → K (a.put o.dst (val g)) w') → o.wp P a w K (fun _ _ _ => False)
theorem Makes.wp {o : Oper} {a a' : Act} (h : Makes P S R val o a) (he : execOp a'.eval o = execOp a.eval o) (hs : ∀ d, o.dst = some d → d < a.tmps.size) {w : World} (hS : S w) :
  o.wp P a' w (fun a'' w' => ∃ g, a'' = a'.put o.dst (val g) ∧ Below w.heap.size w w' ∧ R g w') Q := by
 have h1 := h w hS (fun a'' w' => ∃ g, a'' = a.put o.dst (val g) ∧ Below w.heap.size w w' ∧ R g w') (fun g w' hb hr => ⟨g, rfl, hb, hr⟩)
 unfold Oper.wp at *
 rw [he]
 generalize (execOp a.eval o).run P w = r at *
 cases r with
 | ok n w' =>
  cases n <;> simp only [Oper.upon] at h1 ⊢
  case value u => exact h1.imp fun g h => ⟨put_same hs h.1, h.2⟩
  case skip => exact h1.imp fun g h => ⟨put_same hs h.1, h.2⟩
  case defer d =>
   exfalso
   obtain ⟨g, h1, _⟩ := h1
   have h2 := congrArg (fun b : Act => b.defers.length) h1
   cases hd : o.dst <;> simp [Act.put, hd] at h2
  case enter f args =>
   refine Calls.mono h1 fun e w'' he => ?_
   cases e with
   | returned u => exact he.imp fun g h => ⟨put_same hs h.1, h.2⟩
   | panicked c => exact he.elim
   | outgrown => obtain ⟨_, _, hf⟩ := he; exact hf.elim
  case row row args => exact Rows.mono h1 fun u w'' he => he.imp fun g h => ⟨put_same hs h.1, h.2⟩
 | halt x w' =>
  cases x <;> simp only [Oper.upon] at h1 ⊢
def GAt (P : Program) (ops : Array Oper) (S : World → Prop) (R : Nat → World → Prop) (val : Nat → Value) (k g i : Nat) (o : Oper) (v : Value) (a : Act) : Prop :=
 (Region.wanted o (yielded ops a.tmps) = true ∧ ((i = k ∧ v = val g ∧ Makes P S R val o a) ∨ (i ≠ k ∧ Gives P S o v a) ∨ (i ≠ k ∧ waits ops i k = true ∧ Gives P (fun w => S w ∧ R g w) o v a))) ∨ (i ≠ k ∧ Region.wanted o (yielded ops a.tmps) = false ∧ v = undef)
inductive DetsK (P : Program) (ops : Array Oper) (S : World → Prop) (R : Nat → World → Prop) (val : Nat → Value) (k g : Nat) : List (Nat × Value) → Act → Act → Prop
 | nil {a : Act} : DetsK P ops S R val k g [] a a
 | cons {i : Nat} {o : Oper} {v : Value} {vs : List (Nat × Value)} {a b : Act} (ho : ops[i]? = some o) (hg : GAt P ops S R val k g i o v a)
   (hr : DetsK P ops S R val k g vs (a.put o.dst v) b) : DetsK P ops S R val k g ((i, v) :: vs) a b
theorem DetsK.step {g i : Nat} {o : Oper} {v : Value} {vs : List (Nat × Value)} {a b : Act} (d : Option Tmp) (ho : ops[i]? = some o) (hd : o.dst = d) (hw : Region.wanted o (yielded ops a.tmps) = true) (hi : i ≠ k) (hg : Gives P S o v a)
  (hr : DetsK P ops S R val k g vs (a.put d v) b) : DetsK P ops S R val k g ((i, v) :: vs) a b := .cons ho (.inl ⟨hw, .inr (.inl ⟨hi, hg⟩)⟩) (by rw [hd]; exact hr)
theorem DetsK.all {g : Nat} {a0 : Act} : ∀ {vs : List (Nat × Value)} {a b : Act} {M : Nat → Value → Prop}, DetsK P ops S R val k g vs a b → Has ops a0 M a → detsOk ops [] (vs.map (·.1)) = true →
  (∀ j u i v t, M j u → (i, v) ∈ vs → dstOf ops i = some t → dstOf ops j ≠ some t) → (∀ j u i v, M j u → (i, v) ∈ vs → dstSeen ops j i = true → waits ops i j = true) → (∀ j u i v, M j u → (i, v) ∈ vs → dstSeen ops i j = true → waits ops i j = true) →
  Has ops a0 (fun j u => M j u ∨ (j, u) ∈ vs) b ∧
  ∀ i v, (i, v) ∈ vs → ∃ (o : Oper) (ai : Act) (N : Nat → Value → Prop), ops[i]? = some o ∧ GAt P ops S R val k g i o v ai ∧ Has ops a0 N ai ∧ (∀ j u, N j u → M j u ∨ (j, u) ∈ vs) ∧
   (∀ j u, N j u → dstSeen ops j i = true → waits ops i j = true) ∧ (∀ j u, (M j u ∨ (j, u) ∈ vs) → dstSeen ops j i = true → N j u ∨ waits ops j i = true) := by
 intro vs
 induction vs with
 | nil =>
  intro a b M h hM _ _ _ _
  cases h
  exact ⟨⟨hM.defers, hM.size, fun t j u hm => hM.there t j u (hm.resolve_right (by simp)), fun t ht => hM.else_ t fun j u hm => ht j u (.inl hm)⟩, fun i v h => by cases h⟩
 | cons iv vs ih =>
  intro a b M h hM hok hdst hseen hback
  obtain ⟨i, v⟩ := iv
  obtain ⟨o, ho, hg, hr⟩ : ∃ o, ops[i]? = some o ∧ GAt P ops S R val k g i o v a ∧ DetsK P ops S R val k g vs (a.put o.dst v) b := by
   cases h with
   | cons ho hg hr => exact ⟨_, ho, hg, hr⟩
  have hdo : dstOf ops i = o.dst := by simp [dstOf, ho]
  rw [List.map_cons] at hok
  simp only [detsOk, Bool.and_eq_true, List.all_eq_true] at hok
  obtain ⟨⟨⟨hrest, hself⟩, -⟩, hok'⟩ := hok
  have hrest' : ∀ j u, (j, u) ∈ vs → j ≠ i ∧ dstsApart ops i j = true ∧ (dstSeen ops j i = true → waits ops j i = true) ∧ (dstSeen ops i j = true → waits ops j i = true) := fun j u hj => by
   have h1 := hrest j (List.mem_map.2 ⟨(j, u), hj, rfl⟩)
   simp only [Bool.or_eq_true, Bool.not_eq_true', bne_iff_ne] at h1
   exact ⟨h1.1.1.1, h1.1.1.2, fun e => h1.1.2.resolve_left (by rw [e]; simp), fun e => h1.2.resolve_left (by rw [e]; simp)⟩
  have hself' : dstSeen ops i i = false := by simpa using hself
  have hap : ∀ j u t, (j, u) ∈ vs → dstOf ops i = some t → dstOf ops j ≠ some t := fun j u t hj ht => by
   have h1 := (hrest' j u hj).2.1
   simp only [dstsApart, ht, bne_iff_ne] at h1
   exact h1
  have hM' : Has ops a0 (fun j u => M j u ∨ (j = i ∧ u = v)) (a.put o.dst v) := hdo ▸ hM.put (fun j u t hm ht => hdst j u i v t hm (List.mem_cons_self ..) ht) (fun _ _ => Iff.rfl)
  have hih := ih hr hM' hok' (fun j u i' v' t hm hi' ht => by
    rcases hm with hm | ⟨rfl, rfl⟩
    ·exact hdst j u i' v' t hm (List.mem_cons_of_mem _ hi') ht
    ·exact fun e => hap i' v' t hi' e ht)
   (fun j u i' v' hm hi' he => by
    rcases hm with hm | ⟨rfl, rfl⟩
    ·exact hseen j u i' v' hm (List.mem_cons_of_mem _ hi') he
    ·exact (hrest' i' v' hi').2.2.2 he)
   (fun j u i' v' hm hi' he => by
    rcases hm with hm | ⟨rfl, rfl⟩
    ·exact hback j u i' v' hm (List.mem_cons_of_mem _ hi') he
    ·exact (hrest' i' v' hi').2.2.1 he)
  have hiff : ∀ j u, ((M j u ∨ (j = i ∧ u = v)) ∨ (j, u) ∈ vs) ↔ (M j u ∨ (j, u) ∈ (i, v) :: vs) := fun j u => by
   rw [List.mem_cons, Prod.mk.injEq, or_assoc]
  refine ⟨?_, fun i' v' hm => ?_⟩
  ·have h1 := hih.1
   exact ⟨h1.defers, h1.size, fun t j u hm => h1.there t j u ((hiff j u).2 hm), fun t ht => h1.else_ t fun j u hm => ht j u ((hiff j u).1 hm)⟩
  ·rcases List.mem_cons.1 hm with e | hm
   ·cases e
    refine ⟨o, a, M, ho, hg, hM, fun j u h => .inl h, fun j u h he => hseen j u i v h (List.mem_cons_self ..) he, fun j u h he => ?_⟩
    rcases h with h | h
    ·exact .inl h
    ·rcases List.mem_cons.1 h with e | h
     ·cases e; rw [hself'] at he; cases he
     ·exact .inr ((hrest' j u h).2.2.1 he)
   ·obtain ⟨o', ai, N, ho', hg', hN, hN1, hN2, hN3⟩ := hih.2 i' v' hm
    exact ⟨o', ai, N, ho', hg', hN, fun j u h => (hiff j u).1 (hN1 j u h), hN2, fun j u h he => hN3 j u ((hiff j u).2 h) he⟩
end
end
section
open Go.RowKit
theorem hh_lt : pp < 57896044618658097711785492504343953926634992332820282019728792003956564819968 := by decide
theorem told_mod (P : A2) : told P % 57896044618658097711785492504343953926634992332820282019728792003956564819968 = P.2.val := by
 have a := P.2.isLt
 have b := hh_lt
 unfold told
 split <;> omega
theorem told_div (P : A2) : told P / 57896044618658097711785492504343953926634992332820282019728792003956564819968 % 2 = 1 ↔ P.1.val % 2 = 1 := by
 have a := P.2.isLt
 have b := hh_lt
 unfold told
 split <;> omega
theorem told_lt (P : A2) : told P < 256 ^ 32 := by
 have a := P.2.isLt
 have b := hh_lt
 have c : (256 : Nat) ^ 32 = 115792089237316195423570985008687907853269984665640564039457584007913129639936 := by decide
 rw [c]
 unfold told
 split <;> omega
theorem mul_on {d x y : Fin pp} (h : y * y - x * x - 1 - d * (x * x) * (y * y) = 0) : x * x * (d * (y * y) + 1) = y * y - 1 := by grind
theorem dec_told {P : A2} (hP : On P) : decOk (told P) = true := by
 have e0 := told_mod P
 have e1 := told_div P
 have hlt := P.2.isLt
 unfold decOk
 rw [e0]
 have hyk := ofB_ok P.2.val
 have hy : fp (ofB P.2.val) = P.2 := Fin.ext (by
  show nu (ofB P.2.val) = P.2.val
  rw [nu_ofB, Nat.mod_eq_of_lt (Nat.lt_trans hlt hh_lt)]
  exact Nat.mod_eq_of_lt hlt)
 generalize ofB P.2.val = y at *
 have hv0 : nu (frV y) ≠ 0 := by
  intro e
  have e2 : fp (frV y) = 0 := Fin.ext e
  rw [fr_v hyk] at e2
  exact dy_ne0 (y := fp y) (by grind)
 have hs : quo (frU y) (frV y) % pp = P.1.val * P.1.val % pp := by
  have h1 := quo_v (u := frU y) hv0
  have h2 := mul_on hP
  rw [← hy, ← fr_v hyk, ← fr_u hyk] at h2
  have h3 : (fN (quo (frU y) (frV y))) * fp (frV y) = P.1 * P.1 * fp (frV y) := by
   rw [h2]
   refine Fin.ext ?_
   rw [Fin.val_mul]
   show quo (frU y) (frV y) % pp * nu (frV y) % pp = nu (frU y)
   rw [Nat.mod_mul_mod, h1, nu_mod]
  have h4 := canc (fun e => hv0 (congrArg Fin.val e)) h3
  have h5 := congrArg Fin.val h4
  rw [Fin.val_mul] at h5
  exact h5
 have hr := root_some hv0 hs
 rw [hr, decide_eq_true hlt, Bool.true_and, Bool.true_and, Bool.not_eq_true', Bool.and_eq_false_iff]
 by_cases ho : P.1.val % 2 = 1
 ·right
  rw [decide_eq_false_iff_not]
  intro e
  have h6 := rootL_sq (frU_ok hyk) (frV_ok hyk) hv0 hr
  rw [e, hs, Nat.zero_mul] at h6
  have h7 : P.1 * P.1 = 0 := Fin.ext (by
   rw [Fin.val_mul]
   exact h6.symm)
  have h8 : P.1 = 0 := by rcases fp_dom h7 with h | h <;> exact h
  rw [h8] at ho
  exact absurd ho (by decide)
 ·left
  rw [decide_eq_false_iff_not, e1]
  exact ho
theorem dcA_told {P : A2} (hP : On P) : dcA (told P) = P := by
 have h := dec_told hP
 have h1 := is_told (is_dec h)
 rw [dec_back (told_lt P) h] at h1
 exact told_inj (dcA_on h) hP h1.symm
theorem ba_told : told bA = byN := by
 unfold told bA
 show nu (ofB byN) + (if nu (ofB bxN) % 2 = 1 then _ else 0) = _
 rw [nu_ofB, nu_ofB]
 decide
theorem b45 : nu (mulL (smL 4) (invL (smL 5))) = byN := by
 have h1 := nu_mulP (invL (smL 5)) (smL 5)
 have h2 := inv_one (smL 5)
 have n5 : nu (smL 5) = 5 := nu_smL (by decide)
 have n4 : nu (smL 4) = 4 := nu_smL (by decide)
 rw [n5, if_neg (by decide), nu_mulP, n5] at h2
 have h3 : fp (mulL (smL 4) (invL (smL 5))) = fN byN := by
  refine canc (z := fp (smL 5)) (fun e => absurd (n5.symm.trans (congrArg Fin.val e)) (by decide)) ?_
  refine Fin.ext ?_
  rw [Fin.val_mul, Fin.val_mul]
  show nu (mulL (smL 4) (invL (smL 5))) * nu (smL 5) % pp = byN % pp * nu (smL 5) % pp
  rw [nu_mulP, n4, n5, Nat.mod_mul_mod, Nat.mul_assoc, Nat.mul_mod, Nat.mul_comm (nu _) 5, h2]
  decide
 have h4 : nu (mulL (smL 4) (invL (smL 5))) = byN % pp := congrArg Fin.val h3
 rw [h4]
 decide
def decR (N : Nat) : Rp := ⟨if N / 57896044618658097711785492504343953926634992332820282019728792003956564819968 % 2 = 1 then negL (rootL (frU (ofB (N % 57896044618658097711785492504343953926634992332820282019728792003956564819968))) (frV (ofB (N % 57896044618658097711785492504343953926634992332820282019728792003956564819968)))) else rootL (frU (ofB (N % 57896044618658097711785492504343953926634992332820282019728792003956564819968))) (frV (ofB (N % 57896044618658097711785492504343953926634992332820282019728792003956564819968))), ofB (N % 57896044618658097711785492504343953926634992332820282019728792003956564819968), smL 1⟩
theorem decR_ok (N : Nat) : (decR N).ok := by
 refine ⟨?_, ofB_ok _, sm_ok1⟩
 show Lm.ok (if _ then _ else _)
 split
 ·exact negL_ok _
 ·exact rootL_ok (frU_ok (ofB_ok _)) (frV_ok (ofB_ok _))
theorem decR_ir {N : Nat} (h : decOk N = true) : Ir (decR N) (dcA N) := ir_dec h rfl rfl rfl
theorem dr_x {N : Nat} (h : decOk N = true) (w : World) :
  Calls Tryz.prog 12 #[.agg (By N 32).toArray] w fun e w' => e = .returned (.tuple #[.agg (RL (decR N)).toArray, .bool true]) ∧ Below w.heap.size w w' := by
 refine (drx_ref N w).mono ?_
 rintro e w' ⟨⟨r, he, hr⟩, hb⟩
 exact ⟨by rw [he, hr h, h]; rfl, hb⟩
theorem byN_ok : decOk byN = true := by rw [← ba_told]; exact dec_told on_bA
def baR : Rp := decR byN
theorem baR_ok : baR.ok := decR_ok _
theorem baR_ir : Ir baR bA := by
 have h := decR_ir byN_ok
 have e : dcA byN = bA := by rw [← ba_told]; exact dcA_told on_bA
 rwa [e] at h
set_option maxHeartbeats 3200000 in
theorem bap_ref  (w : World) :
  Calls Tryz.prog 21 #[] w fun e w' => e = .returned (.agg (RL baR).toArray) ∧ Below w.heap.size w w' := by
 have hz : Row (w.alloc (.cells #[.int .u32 0, .int .u32 0, .int .u32 0, .int .u32 0, .int .u32 0, .int .u32 0, .int .u32 0, .int .u32 0, .int .u32 0, .int .u32 0, .int .u32 0, .int .u32 0, .int .u32 0, .int .u32 0, .int .u32 0, .int .u32 0, .int .u32 0, .int .u32 0, .int .u32 0, .int .u32 0, .int .u32 0, .int .u32 0, .int .u32 0, .int .u32 0] 39)) (w.heap.size) 39 (RL zeR) := by
  rw [RL_zero]
  exact Row.new w _ _
 have hw := Below.alloc1 w (.cells #[.int .u32 0, .int .u32 0, .int .u32 0, .int .u32 0, .int .u32 0, .int .u32 0, .int .u32 0, .int .u32 0, .int .u32 0, .int .u32 0, .int .u32 0, .int .u32 0, .int .u32 0, .int .u32 0, .int .u32 0, .int .u32 0, .int .u32 0, .int .u32 0, .int .u32 0, .int .u32 0, .int .u32 0, .int .u32 0, .int .u32 0, .int .u32 0] 39)
 go_enter Tryz.func21, Tryz.ntmps21
 go_wp2_with fail
 refine (smallr_nu 4 (by decide) _).mono ?_
 rintro e W1 ⟨rfl, hb⟩
 replace hz := hz.belowAll hb
 replace hw := hw.trans (hb.mono hw.size)
 clear hb
 go_wp2_with fail
 refine (smallr_nu 5 (by decide) _).mono ?_
 rintro e W2 ⟨rfl, hb⟩
 replace hz := hz.belowAll hb
 replace hw := hw.trans (hb.mono hw.size)
 clear hb
 go_wp2_with fail
 refine (invr_nu (smL 5) _).mono ?_
 rintro e W3 ⟨rfl, hb⟩
 replace hz := hz.belowAll hb
 replace hw := hw.trans (hb.mono hw.size)
 clear hb
 go_wp2_with fail
 refine (mulr_nu (smL 4) (invL (smL 5)) _).mono ?_
 rintro e W4 ⟨rfl, hb⟩
 replace hz := hz.belowAll hb
 replace hw := hw.trans (hb.mono hw.size)
 clear hb
 have lt_hz := hz.lt
 have ne_hz_4 : w.heap.size ≠ W4.heap.size := by omega
 have new_4 := Row.new W4 (Nw 0) 37
 replace hz := (hz.alloc (.cells (Nw 0).toArray 37)).setRowOther (k := W4.heap.size) ne_hz_4 (Nw (nu (mulL (smL 4) (invL (smL 5))))).toArray
 have h1 := new_4.setRow (Nw (nu (mulL (smL 4) (invL (smL 5)))))
 have ge_4 := hw.size
 replace hw := below_setRow (g := W4.heap.size) (hw.alloc hw.size (.cells (Nw 0).toArray 37)) hw.size (Nw (nu (mulL (smL 4) (invL (smL 5))))).toArray
 have NEW := yH new_4
 clear new_4 lt_hz
 go_wp2_with (first
  | (refine wpList_store_row rfl 37 (.tmp 1) (.tmp 7) rfl W4.heap.size _ rfl rfl 37 _ NEW.out (nw_info _) (Nw_sz _ _) (Nw_one _) ?_)
  | (refine wpList_load_row rfl 37 (.tmp 1) rfl (W4.heap.size) rfl 37 _ (0, 0) _ h1 Tryz.underlying37 rfl (nw_info _) ?_))
 clear NEW
 rw [zero8]
 generalize (W4.alloc (.cells (Nw 0).toArray 37)).setRow W4.heap.size (Nw (nu (mulL (smL 4) (invL (smL 5))))).toArray = V4 at *
 generalize W4.heap.size = g1 at *
 refine (rbytes_ref (nu (mulL (smL 4) (invL (smL 5)))) _).mono ?_
 rintro e W5 ⟨rfl, hb⟩
 replace hz := hz.belowAll hb
 replace h1 := h1.belowAll hb
 replace hw := hw.trans (hb.mono hw.size)
 clear hb
 rw [b45]
 go_wp2_with fail
 refine (dr_x byN_ok _).mono ?_
 rintro e W6 ⟨rfl, hb⟩
 replace hz := hz.belowAll hb
 replace h1 := h1.belowAll hb
 replace hw := hw.trans (hb.mono hw.size)
 clear hb
 have lz := hz.lt
 have e2 := rl_zero_row W6
 have h2 := e2.setRow (RL baR)
 replace hz := (hz.alloc (.cells #[.int .u32 0, .int .u32 0, .int .u32 0, .int .u32 0, .int .u32 0, .int .u32 0, .int .u32 0, .int .u32 0, .int .u32 0, .int .u32 0, .int .u32 0, .int .u32 0, .int .u32 0, .int .u32 0, .int .u32 0, .int .u32 0, .int .u32 0, .int .u32 0, .int .u32 0, .int .u32 0, .int .u32 0, .int .u32 0, .int .u32 0, .int .u32 0] 39)).setRowOther (k := W6.heap.size) (by omega) (RL baR).toArray
 replace hw := below_setRow (g := W6.heap.size) (hw.alloc hw.size (.cells #[.int .u32 0, .int .u32 0, .int .u32 0, .int .u32 0, .int .u32 0, .int .u32 0, .int .u32 0, .int .u32 0, .int .u32 0, .int .u32 0, .int .u32 0, .int .u32 0, .int .u32 0, .int .u32 0, .int .u32 0, .int .u32 0, .int .u32 0, .int .u32 0, .int .u32 0, .int .u32 0, .int .u32 0, .int .u32 0, .int .u32 0, .int .u32 0] 39)) hw.size (RL baR).toArray
 have hgot := setRow_heap _ (w.heap.size) _ (RL baR).toArray _ _ hz
 have HGOT := yH hgot
 have HW := yH hw
 have E2 := yH e2
 have H2 := yH h2
 have HZ := yH hz
 clear hgot hw e2 h2 hz lz h1
 go_wp2_with (first
  | (refine wpList_store_row rfl 39 (.tmp 2) (.tmp 12) rfl W6.heap.size _ rfl rfl 39 _ E2.out (rl_info _) (RL_sz _ _) (RL_one _) ?_)
  | (refine wpList_load_row rfl 39 (.tmp 2) rfl W6.heap.size rfl 39 _ (0, 0) _ H2.out Tryz.underlying39 rfl (rl_info _) ?_)
  | (refine wpList_store_row rfl 39 (.tmp 0) (.tmp 14) rfl (w.heap.size) _ rfl rfl 39 _ HZ.out (rl_info _) (RL_sz _ _) (RL_one _) ?_))
 refine bodyPost_ret (results_cell_row (by rfl) _ _ (w.heap.size) _ _ _ _ (by rfl) HGOT.out Tryz.underlying39 rfl (rl_info _)) rfl ?_
 exact ⟨rfl, below_setRow HW.out (by omega) _⟩
end
section
open Go.RowKit
def PtRd (w : World) (b : Nat) (l : List Pm) : Prop := b < w.heap.size ∧ ∀ (k : Nat) (s : Pm), l[k]? = some s → ∀ (j : Nat) (v : Value), (PL s)[j]? = some v → w.cell? ⟨b, 20 * k + j, none⟩ = some v
theorem PtRd.below {w w' : World} {b : Nat} {l : List Pm} (h : PtRd w b l) (hb : Below w.heap.size w w') : PtRd w' b l :=
 ⟨Nat.lt_of_lt_of_le h.1 hb.size, fun k s hs j v hv => (hb.cell (p := ⟨b, 20 * k + j, none⟩) h.1).trans (h.2 k s hs j v hv)⟩
end
end
theorem beq_dec {N M : Nat} (hN : N < 256 ^ 32) (hM : M < 256 ^ 32) {b : Bool} (h : decide (N = M) = b) (w : World) : (binOp .eql 22 (.agg (By N 32).toArray) (.agg (By M 32).toArray)).run Tryz.prog w = .ok (.bool b) w := by rw [beq_num hN hM, h]
theorem ng_x (x y : Fin pp) : x * y + y * -x = 0 := by grind
theorem ng_y {d x y : Fin pp} (h : y * y - x * x - 1 - d * (x * x) * (y * y) = 0) : y * y + x * -x = 1 * (1 - (0 - d * (x * x) * (y * y))) := by grind
theorem ng_t (d x y : Fin pp) : d * (x * -x) * (y * y) = 0 - d * (x * x) * (y * y) := by grind
theorem ng_0 (z : Fin pp) : 0 * z = 0 := Fin.zero_mul z
theorem ad_ng {P : A2} (h : On P) : adA P (ngA P) = O2 := by
 have ho := on_ng h
 have e1 : tt P (ngA P) = 0 - dF * (P.1 * P.1) * (P.2 * P.2) := ng_t dF P.1 P.2
 have h1 : (adA P (ngA P)).1 * (1 + tt P (ngA P)) = P.1 * P.2 + P.2 * -P.1 := ad_1 h ho
 have h2 : (adA P (ngA P)).2 * (1 - tt P (ngA P)) = P.2 * P.2 + P.1 * -P.1 := ad_2 h ho
 refine Prod.ext ?_ ?_
 ·refine canc (cplus h ho) ?_
  rw [h1]
  exact (ng_x P.1 P.2).trans (ng_0 _).symm
 ·refine canc (cminus h ho) ?_
  rw [h2, e1]
  exact ng_y h
theorem Makes.call {P : Program} {S : World → Prop} {R : Nat → World → Prop} {val : Nat → Value} {o : Oper} {a : Act} {f : FuncId} {fn : Func} {xs : List Operand} {ts : Array TypeId} {args : List Value} (ho : o.op = .call { callee := .value (.func f), args := xs.toArray, argTypes := ts })
  (hf : P.funcs[f]? = some fn) (hn : (fn.name == "runtime.NumGoroutine") = false) (hb : fn.body.isNone = false) (hargs : xs.map a.eval = args)
  (hc : ∀ w, S w → Calls P f args.toArray w fun e w' => ∃ g, e = .returned (val g) ∧ R g w' ∧ Below w.heap.size w w') : Makes P S R val o a := by
 intro w hS K hK
 have hrun : (execOp a.eval o).run P w = .ok (.enter f args.toArray) w := by
  have hn' : ¬ fn.name = "runtime.NumGoroutine" := by simpa using hn
  have hb' : ¬ fn.body = none := fun e => by rw [e] at hb; cases hb
  unfold execOp
  simp [ho, resolve, Act.eval, Deferred.ofValue, invoke, callFunc, hf, hn', hb', ← hargs]
 unfold Oper.wp
 rw [hrun]
 refine Calls.mono (hc w hS) fun e w' he => ?_
 obtain ⟨g, rfl, hr, hbe⟩ := he
 exact hK g w' hbe hr
end Go.Proofs.YtnpjecdodhkplaaGreatDoor
