/- The sum of two points of the curve, as two coordinates: it is always there, it is a point of the curve, and it doesn't matter how three are put together. The program's points as points of the curve: its sum, double, neg, multiples and both are the curve's. The order of the base: so many times the base is zero. -/
import Derived.Test.YthpbipebpaeagaaDoorDcF
namespace Go.Proofs.YthpbipebpaeagaaDoor
section
set_option maxRecDepth 100000
set_option linter.unusedVariables false
open Go.RowKit

theorem z00 : (0 : Fin pp) - 0 = 0 := by decide
theorem as_end {a b q1 q2 q3 : Fin pp} (h : a - b = 0 - (q1 * 0 + q2 * 0 + q3 * 0)) : a = b := by
  have e : a = (a - b) + b := by grind
  rw [e, h]
  simp only [Fin.mul_zero, Fin.add_zero]
  rw [z00, Fin.zero_add]
theorem cl_end {a q1 q2 : Fin pp} (h : a = 0 - (q1 * 0 + q2 * 0)) : a = 0 := by
  rw [h]
  simp only [Fin.mul_zero, Fin.add_zero]
  exact z00
set_option maxHeartbeats 4000000 in
theorem as_x0 (d x1 y1 x2 y2 x3 y3 : Fin pp) : ((x1 * y2 + y1 * x2) * (1 - d * (x1 * x2) * (y1 * y2)) * y3 + (y1 * y2 + x1 * x2) * (1 + d * (x1 * x2) * (y1 * y2)) * x3) * ((1 - d * (x2 * x3) * (y2 * y3)) * (1 + d * (x2 * x3) * (y2 * y3)) + d * ((x2 * y3 + y2 * x3) * x1) * ((y2 * y3 + x2 * x3) * y1)) - ((x2 * y3 + y2 * x3) * (1 - d * (x2 * x3) * (y2 * y3)) * y1 + (y2 * y3 + x2 * x3) * (1 + d * (x2 * x3) * (y2 * y3)) * x1) * ((1 - d * (x1 * x2) * (y1 * y2)) * (1 + d * (x1 * x2) * (y1 * y2)) + d * ((x1 * y2 + y1 * x2) * x3) * ((y1 * y2 + x1 * x2) * y3)) = 0 - ((d * y1 * x2 * y2 * y2 * y2 * y2 * x3 * x3 * y3 + d * y1 * x2 * x2 * y2 * y2 * y2 * x3 + d * y1 * x2 * x2 * y2 * y2 * y2 * x3 * x3 * x3 + d * y1 * x2 * x2 * x2 * y2 * y2 * y3 - d * y1 * x2 * x2 * x2 * y2 * y2 * y3 * y3 * y3 - d * y1 * x2 * x2 * x2 * x2 * y2 * x3 * y3 * y3 - d * x1 * x2 * y2 * y2 * y2 * y2 * x3 * y3 * y3 + d * x1 * x2 * x2 * y2 * y2 * y2 * y3 - d * x1 * x2 * x2 * y2 * y2 * y2 * y3 * y3 * y3 + d * x1 * x2 * x2 * x2 * y2 * y2 * x3 + d * x1 * x2 * x2 * x2 * y2 * y2 * x3 * x3 * x3 + d * x1 * x2 * x2 * x2 * x2 * y2 * x3 * x3 * y3 - d * d * y1 * x2 * x2 * x2 * y2 * y2 * y2 * y2 * x3 * x3 * y3 - d * d * y1 * x2 * x2 * x2 * x2 * y2 * y2 * y2 * x3 * y3 * y3 + d * d * x1 * x2 * x2 * x2 * y2 * y2 * y2 * y2 * x3 * y3 * y3 + d * d * x1 * x2 * x2 * x2 * x2 * y2 * y2 * y2 * x3 * x3 * y3) * (y1 * y1 - x1 * x1 - 1 - d * (x1 * x1) * (y1 * y1)) + (0 - y1 * y2 * x3 + y1 * y2 * x3 * y3 * y3 - y1 * y2 * x3 * x3 * x3 - y1 * x2 * y3 + y1 * x2 * y3 * y3 * y3 - y1 * x2 * x3 * x3 * y3 + y1 * y1 * y1 * y2 * x3 - y1 * y1 * y1 * y2 * x3 * y3 * y3 + y1 * y1 * y1 * y2 * x3 * x3 * x3 + y1 * y1 * y1 * x2 * y3 - y1 * y1 * y1 * x2 * y3 * y3 * y3 + y1 * y1 * y1 * x2 * x3 * x3 * y3 - x1 * y2 * y3 + x1 * y2 * y3 * y3 * y3 - x1 * y2 * x3 * x3 * y3 - x1 * x2 * x3 + x1 * x2 * x3 * y3 * y3 - x1 * x2 * x3 * x3 * x3 + x1 * y1 * y1 * y2 * y3 - x1 * y1 * y1 * y2 * y3 * y3 * y3 + x1 * y1 * y1 * y2 * x3 * x3 * y3 + x1 * y1 * y1 * x2 * x3 - x1 * y1 * y1 * x2 * x3 * y3 * y3 + x1 * y1 * y1 * x2 * x3 * x3 * x3 - x1 * x1 * y1 * y2 * x3 + x1 * x1 * y1 * y2 * x3 * y3 * y3 - x1 * x1 * y1 * y2 * x3 * x3 * x3 - x1 * x1 * y1 * x2 * y3 + x1 * x1 * y1 * x2 * y3 * y3 * y3 - x1 * x1 * y1 * x2 * x3 * x3 * y3 - x1 * x1 * x1 * y2 * y3 + x1 * x1 * x1 * y2 * y3 * y3 * y3 - x1 * x1 * x1 * y2 * x3 * x3 * y3 - x1 * x1 * x1 * x2 * x3 + x1 * x1 * x1 * x2 * x3 * y3 * y3 - x1 * x1 * x1 * x2 * x3 * x3 * x3 - d * y1 * y2 * x3 * x3 * x3 * y3 * y3 - d * y1 * x2 * x3 * x3 * y3 * y3 * y3 + d * y1 * x2 * y2 * y2 * x3 * x3 * y3 + d * y1 * x2 * x2 * y2 * x3 * y3 * y3 + d * y1 * y1 * y1 * y2 * x3 * x3 * x3 * y3 * y3 + d * y1 * y1 * y1 * x2 * x3 * x3 * y3 * y3 * y3 - d * y1 * y1 * y1 * x2 * y2 * y2 * x3 * x3 * y3 - d * y1 * y1 * y1 * x2 * x2 * y2 * x3 * y3 * y3 - d * x1 * y2 * x3 * x3 * y3 * y3 * y3 - d * x1 * x2 * x3 * x3 * x3 * y3 * y3 - d * x1 * x2 * y2 * y2 * x3 * y3 * y3 - d * x1 * x2 * x2 * y2 * x3 * x3 * y3 + d * x1 * y1 * y1 * y2 * x3 * x3 * y3 * y3 * y3 + d * x1 * y1 * y1 * x2 * x3 * x3 * x3 * y3 * y3 + d * x1 * y1 * y1 * x2 * y2 * y2 * x3 * y3 * y3 + d * x1 * y1 * y1 * x2 * x2 * y2 * x3 * x3 * y3 - d * x1 * x1 * y1 * y2 * x3 * x3 * x3 * y3 * y3 - d * x1 * x1 * y1 * x2 * x3 * x3 * y3 * y3 * y3 + d * x1 * x1 * y1 * x2 * y2 * y2 * x3 * x3 * y3 + d * x1 * x1 * y1 * x2 * x2 * y2 * x3 * y3 * y3 - d * x1 * x1 * x1 * y2 * x3 * x3 * y3 * y3 * y3 - d * x1 * x1 * x1 * x2 * x3 * x3 * x3 * y3 * y3 - d * x1 * x1 * x1 * x2 * y2 * y2 * x3 * y3 * y3 - d * x1 * x1 * x1 * x2 * x2 * y2 * x3 * x3 * y3 - d * d * x1 * y1 * y1 * x2 * y2 * y2 * x3 * x3 * x3 * y3 * y3 + d * d * x1 * y1 * y1 * x2 * x2 * y2 * x3 * x3 * y3 * y3 * y3 + d * d * x1 * x1 * y1 * x2 * y2 * y2 * x3 * x3 * y3 * y3 * y3 - d * d * x1 * x1 * y1 * x2 * x2 * y2 * x3 * x3 * x3 * y3 * y3) * (y2 * y2 - x2 * x2 - 1 - d * (x2 * x2) * (y2 * y2)) + (y1 * y2 * x3 - y1 * y2 * y2 * y2 * x3 + y1 * x2 * y3 - y1 * x2 * y2 * y2 * y3 + y1 * x2 * x2 * y2 * x3 + y1 * x2 * x2 * x2 * y3 - y1 * y1 * y1 * y2 * x3 + y1 * y1 * y1 * y2 * y2 * y2 * x3 - y1 * y1 * y1 * x2 * y3 + y1 * y1 * y1 * x2 * y2 * y2 * y3 - y1 * y1 * y1 * x2 * x2 * y2 * x3 - y1 * y1 * y1 * x2 * x2 * x2 * y3 + x1 * y2 * y3 - x1 * y2 * y2 * y2 * y3 + x1 * x2 * x3 - x1 * x2 * y2 * y2 * x3 + x1 * x2 * x2 * y2 * y3 + x1 * x2 * x2 * x2 * x3 - x1 * y1 * y1 * y2 * y3 + x1 * y1 * y1 * y2 * y2 * y2 * y3 - x1 * y1 * y1 * x2 * x3 + x1 * y1 * y1 * x2 * y2 * y2 * x3 - x1 * y1 * y1 * x2 * x2 * y2 * y3 - x1 * y1 * y1 * x2 * x2 * x2 * x3 + x1 * x1 * y1 * y2 * x3 - x1 * x1 * y1 * y2 * y2 * y2 * x3 + x1 * x1 * y1 * x2 * y3 - x1 * x1 * y1 * x2 * y2 * y2 * y3 + x1 * x1 * y1 * x2 * x2 * y2 * x3 + x1 * x1 * y1 * x2 * x2 * x2 * y3 + x1 * x1 * x1 * y2 * y3 - x1 * x1 * x1 * y2 * y2 * y2 * y3 + x1 * x1 * x1 * x2 * x3 - x1 * x1 * x1 * x2 * y2 * y2 * x3 + x1 * x1 * x1 * x2 * x2 * y2 * y3 + x1 * x1 * x1 * x2 * x2 * x2 * x3 + d * x1 * y1 * y1 * x2 * y2 * y2 * x3 - d * x1 * y1 * y1 * x2 * x2 * y2 * y3 - d * x1 * x1 * y1 * x2 * y2 * y2 * y3 + d * x1 * x1 * y1 * x2 * x2 * y2 * x3) * (y3 * y3 - x3 * x3 - 1 - d * (x3 * x3) * (y3 * y3))) := by grind
theorem as_x {d x1 y1 x2 y2 x3 y3 : Fin pp} (h1 : (y1 * y1 - x1 * x1 - 1 - d * (x1 * x1) * (y1 * y1)) = 0) (h2 : (y2 * y2 - x2 * x2 - 1 - d * (x2 * x2) * (y2 * y2)) = 0) (h3 : (y3 * y3 - x3 * x3 - 1 - d * (x3 * x3) * (y3 * y3)) = 0) : ((x1 * y2 + y1 * x2) * (1 - d * (x1 * x2) * (y1 * y2)) * y3 + (y1 * y2 + x1 * x2) * (1 + d * (x1 * x2) * (y1 * y2)) * x3) * ((1 - d * (x2 * x3) * (y2 * y3)) * (1 + d * (x2 * x3) * (y2 * y3)) + d * ((x2 * y3 + y2 * x3) * x1) * ((y2 * y3 + x2 * x3) * y1)) = ((x2 * y3 + y2 * x3) * (1 - d * (x2 * x3) * (y2 * y3)) * y1 + (y2 * y3 + x2 * x3) * (1 + d * (x2 * x3) * (y2 * y3)) * x1) * ((1 - d * (x1 * x2) * (y1 * y2)) * (1 + d * (x1 * x2) * (y1 * y2)) + d * ((x1 * y2 + y1 * x2) * x3) * ((y1 * y2 + x1 * x2) * y3)) := by
  have k := as_x0 d x1 y1 x2 y2 x3 y3
  rw [h1, h2, h3] at k
  exact as_end k
set_option maxHeartbeats 4000000 in
theorem as_y0 (d x1 y1 x2 y2 x3 y3 : Fin pp) : ((y1 * y2 + x1 * x2) * (1 + d * (x1 * x2) * (y1 * y2)) * y3 + (x1 * y2 + y1 * x2) * (1 - d * (x1 * x2) * (y1 * y2)) * x3) * ((1 - d * (x2 * x3) * (y2 * y3)) * (1 + d * (x2 * x3) * (y2 * y3)) - d * ((x2 * y3 + y2 * x3) * x1) * ((y2 * y3 + x2 * x3) * y1)) - ((y2 * y3 + x2 * x3) * (1 + d * (x2 * x3) * (y2 * y3)) * y1 + (x2 * y3 + y2 * x3) * (1 - d * (x2 * x3) * (y2 * y3)) * x1) * ((1 - d * (x1 * x2) * (y1 * y2)) * (1 + d * (x1 * x2) * (y1 * y2)) - d * ((x1 * y2 + y1 * x2) * x3) * ((y1 * y2 + x1 * x2) * y3)) = 0 - ((0 - d * y1 * x2 * y2 * y2 * y2 * y2 * x3 * y3 * y3 + d * y1 * x2 * x2 * y2 * y2 * y2 * y3 - d * y1 * x2 * x2 * y2 * y2 * y2 * y3 * y3 * y3 + d * y1 * x2 * x2 * x2 * y2 * y2 * x3 + d * y1 * x2 * x2 * x2 * y2 * y2 * x3 * x3 * x3 + d * y1 * x2 * x2 * x2 * x2 * y2 * x3 * x3 * y3 + d * x1 * x2 * y2 * y2 * y2 * y2 * x3 * x3 * y3 + d * x1 * x2 * x2 * y2 * y2 * y2 * x3 + d * x1 * x2 * x2 * y2 * y2 * y2 * x3 * x3 * x3 + d * x1 * x2 * x2 * x2 * y2 * y2 * y3 - d * x1 * x2 * x2 * x2 * y2 * y2 * y3 * y3 * y3 - d * x1 * x2 * x2 * x2 * x2 * y2 * x3 * y3 * y3 + d * d * y1 * x2 * x2 * x2 * y2 * y2 * y2 * y2 * x3 * y3 * y3 + d * d * y1 * x2 * x2 * x2 * x2 * y2 * y2 * y2 * x3 * x3 * y3 - d * d * x1 * x2 * x2 * x2 * y2 * y2 * y2 * y2 * x3 * x3 * y3 - d * d * x1 * x2 * x2 * x2 * x2 * y2 * y2 * y2 * x3 * y3 * y3) * (y1 * y1 - x1 * x1 - 1 - d * (x1 * x1) * (y1 * y1)) + (0 - y1 * y2 * y3 + y1 * y2 * y3 * y3 * y3 - y1 * y2 * x3 * x3 * y3 - y1 * x2 * x3 + y1 * x2 * x3 * y3 * y3 - y1 * x2 * x3 * x3 * x3 + y1 * y1 * y1 * y2 * y3 - y1 * y1 * y1 * y2 * y3 * y3 * y3 + y1 * y1 * y1 * y2 * x3 * x3 * y3 + y1 * y1 * y1 * x2 * x3 - y1 * y1 * y1 * x2 * x3 * y3 * y3 + y1 * y1 * y1 * x2 * x3 * x3 * x3 - x1 * y2 * x3 + x1 * y2 * x3 * y3 * y3 - x1 * y2 * x3 * x3 * x3 - x1 * x2 * y3 + x1 * x2 * y3 * y3 * y3 - x1 * x2 * x3 * x3 * y3 + x1 * y1 * y1 * y2 * x3 - x1 * y1 * y1 * y2 * x3 * y3 * y3 + x1 * y1 * y1 * y2 * x3 * x3 * x3 + x1 * y1 * y1 * x2 * y3 - x1 * y1 * y1 * x2 * y3 * y3 * y3 + x1 * y1 * y1 * x2 * x3 * x3 * y3 - x1 * x1 * y1 * y2 * y3 + x1 * x1 * y1 * y2 * y3 * y3 * y3 - x1 * x1 * y1 * y2 * x3 * x3 * y3 - x1 * x1 * y1 * x2 * x3 + x1 * x1 * y1 * x2 * x3 * y3 * y3 - x1 * x1 * y1 * x2 * x3 * x3 * x3 - x1 * x1 * x1 * y2 * x3 + x1 * x1 * x1 * y2 * x3 * y3 * y3 - x1 * x1 * x1 * y2 * x3 * x3 * x3 - x1 * x1 * x1 * x2 * y3 + x1 * x1 * x1 * x2 * y3 * y3 * y3 - x1 * x1 * x1 * x2 * x3 * x3 * y3 - d * y1 * y2 * x3 * x3 * y3 * y3 * y3 - d * y1 * x2 * x3 * x3 * x3 * y3 * y3 - d * y1 * x2 * y2 * y2 * x3 * y3 * y3 - d * y1 * x2 * x2 * y2 * x3 * x3 * y3 + d * y1 * y1 * y1 * y2 * x3 * x3 * y3 * y3 * y3 + d * y1 * y1 * y1 * x2 * x3 * x3 * x3 * y3 * y3 + d * y1 * y1 * y1 * x2 * y2 * y2 * x3 * y3 * y3 + d * y1 * y1 * y1 * x2 * x2 * y2 * x3 * x3 * y3 - d * x1 * y2 * x3 * x3 * x3 * y3 * y3 - d * x1 * x2 * x3 * x3 * y3 * y3 * y3 + d * x1 * x2 * y2 * y2 * x3 * x3 * y3 + d * x1 * x2 * x2 * y2 * x3 * y3 * y3 + d * x1 * y1 * y1 * y2 * x3 * x3 * x3 * y3 * y3 + d * x1 * y1 * y1 * x2 * x3 * x3 * y3 * y3 * y3 - d * x1 * y1 * y1 * x2 * y2 * y2 * x3 * x3 * y3 - d * x1 * y1 * y1 * x2 * x2 * y2 * x3 * y3 * y3 - d * x1 * x1 * y1 * y2 * x3 * x3 * y3 * y3 * y3 - d * x1 * x1 * y1 * x2 * x3 * x3 * x3 * y3 * y3 - d * x1 * x1 * y1 * x2 * y2 * y2 * x3 * y3 * y3 - d * x1 * x1 * y1 * x2 * x2 * y2 * x3 * x3 * y3 - d * x1 * x1 * x1 * y2 * x3 * x3 * x3 * y3 * y3 - d * x1 * x1 * x1 * x2 * x3 * x3 * y3 * y3 * y3 + d * x1 * x1 * x1 * x2 * y2 * y2 * x3 * x3 * y3 + d * x1 * x1 * x1 * x2 * x2 * y2 * x3 * y3 * y3 - d * d * x1 * y1 * y1 * x2 * y2 * y2 * x3 * x3 * y3 * y3 * y3 + d * d * x1 * y1 * y1 * x2 * x2 * y2 * x3 * x3 * x3 * y3 * y3 + d * d * x1 * x1 * y1 * x2 * y2 * y2 * x3 * x3 * x3 * y3 * y3 - d * d * x1 * x1 * y1 * x2 * x2 * y2 * x3 * x3 * y3 * y3 * y3) * (y2 * y2 - x2 * x2 - 1 - d * (x2 * x2) * (y2 * y2)) + (y1 * y2 * y3 - y1 * y2 * y2 * y2 * y3 + y1 * x2 * x3 - y1 * x2 * y2 * y2 * x3 + y1 * x2 * x2 * y2 * y3 + y1 * x2 * x2 * x2 * x3 - y1 * y1 * y1 * y2 * y3 + y1 * y1 * y1 * y2 * y2 * y2 * y3 - y1 * y1 * y1 * x2 * x3 + y1 * y1 * y1 * x2 * y2 * y2 * x3 - y1 * y1 * y1 * x2 * x2 * y2 * y3 - y1 * y1 * y1 * x2 * x2 * x2 * x3 + x1 * y2 * x3 - x1 * y2 * y2 * y2 * x3 + x1 * x2 * y3 - x1 * x2 * y2 * y2 * y3 + x1 * x2 * x2 * y2 * x3 + x1 * x2 * x2 * x2 * y3 - x1 * y1 * y1 * y2 * x3 + x1 * y1 * y1 * y2 * y2 * y2 * x3 - x1 * y1 * y1 * x2 * y3 + x1 * y1 * y1 * x2 * y2 * y2 * y3 - x1 * y1 * y1 * x2 * x2 * y2 * x3 - x1 * y1 * y1 * x2 * x2 * x2 * y3 + x1 * x1 * y1 * y2 * y3 - x1 * x1 * y1 * y2 * y2 * y2 * y3 + x1 * x1 * y1 * x2 * x3 - x1 * x1 * y1 * x2 * y2 * y2 * x3 + x1 * x1 * y1 * x2 * x2 * y2 * y3 + x1 * x1 * y1 * x2 * x2 * x2 * x3 + x1 * x1 * x1 * y2 * x3 - x1 * x1 * x1 * y2 * y2 * y2 * x3 + x1 * x1 * x1 * x2 * y3 - x1 * x1 * x1 * x2 * y2 * y2 * y3 + x1 * x1 * x1 * x2 * x2 * y2 * x3 + x1 * x1 * x1 * x2 * x2 * x2 * y3 + d * x1 * y1 * y1 * x2 * y2 * y2 * y3 - d * x1 * y1 * y1 * x2 * x2 * y2 * x3 - d * x1 * x1 * y1 * x2 * y2 * y2 * x3 + d * x1 * x1 * y1 * x2 * x2 * y2 * y3) * (y3 * y3 - x3 * x3 - 1 - d * (x3 * x3) * (y3 * y3))) := by grind
theorem as_y {d x1 y1 x2 y2 x3 y3 : Fin pp} (h1 : (y1 * y1 - x1 * x1 - 1 - d * (x1 * x1) * (y1 * y1)) = 0) (h2 : (y2 * y2 - x2 * x2 - 1 - d * (x2 * x2) * (y2 * y2)) = 0) (h3 : (y3 * y3 - x3 * x3 - 1 - d * (x3 * x3) * (y3 * y3)) = 0) : ((y1 * y2 + x1 * x2) * (1 + d * (x1 * x2) * (y1 * y2)) * y3 + (x1 * y2 + y1 * x2) * (1 - d * (x1 * x2) * (y1 * y2)) * x3) * ((1 - d * (x2 * x3) * (y2 * y3)) * (1 + d * (x2 * x3) * (y2 * y3)) - d * ((x2 * y3 + y2 * x3) * x1) * ((y2 * y3 + x2 * x3) * y1)) = ((y2 * y3 + x2 * x3) * (1 + d * (x2 * x3) * (y2 * y3)) * y1 + (x2 * y3 + y2 * x3) * (1 - d * (x2 * x3) * (y2 * y3)) * x1) * ((1 - d * (x1 * x2) * (y1 * y2)) * (1 + d * (x1 * x2) * (y1 * y2)) - d * ((x1 * y2 + y1 * x2) * x3) * ((y1 * y2 + x1 * x2) * y3)) := by
  have k := as_y0 d x1 y1 x2 y2 x3 y3
  rw [h1, h2, h3] at k
  exact as_end k
set_option maxHeartbeats 4000000 in
theorem cl_0 (d x1 y1 x2 y2 : Fin pp) : ((y1 * y2 + x1 * x2) * (1 + d * (x1 * x2) * (y1 * y2))) * ((y1 * y2 + x1 * x2) * (1 + d * (x1 * x2) * (y1 * y2))) - ((x1 * y2 + y1 * x2) * (1 - d * (x1 * x2) * (y1 * y2))) * ((x1 * y2 + y1 * x2) * (1 - d * (x1 * x2) * (y1 * y2))) - (((1 - d * (x1 * x2) * (y1 * y2)) * (1 + d * (x1 * x2) * (y1 * y2))) * ((1 - d * (x1 * x2) * (y1 * y2)) * (1 + d * (x1 * x2) * (y1 * y2))) + d * ((x1 * y2 + y1 * x2) * (x1 * y2 + y1 * x2)) * ((y1 * y2 + x1 * x2) * (y1 * y2 + x1 * x2))) = 0 - ((0 - y2 * y2 * y2 * y2 + x2 * x2 * y2 * y2 + x2 * x2 * y2 * y2 + x2 * x2 * y2 * y2 + x2 * x2 * y2 * y2 - x2 * x2 * y2 * y2 * y2 * y2 - x2 * x2 * y2 * y2 * y2 * y2 - x2 * x2 * x2 * x2 + x2 * x2 * x2 * x2 * y2 * y2 + x2 * x2 * x2 * x2 * y2 * y2 + d * x2 * x2 * y2 * y2 + d * x2 * x2 * y2 * y2 + d * x2 * x2 * x2 * x2 * y2 * y2 * y2 * y2 + d * x2 * x2 * x2 * x2 * y2 * y2 * y2 * y2 + d * y1 * y1 * x2 * x2 * y2 * y2 * y2 * y2 - d * y1 * y1 * x2 * x2 * x2 * x2 * y2 * y2 - d * x1 * x1 * x2 * x2 * y2 * y2 * y2 * y2 + d * x1 * x1 * x2 * x2 * x2 * x2 * y2 * y2 + d * d * x2 * x2 * x2 * x2 * y2 * y2 * y2 * y2 - d * d * y1 * y1 * x2 * x2 * x2 * x2 * y2 * y2 * y2 * y2 + d * d * x1 * x1 * x2 * x2 * x2 * x2 * y2 * y2 * y2 * y2 - d * d * d * x1 * x1 * y1 * y1 * x2 * x2 * x2 * x2 * y2 * y2 * y2 * y2) * (y1 * y1 - x1 * x1 - 1 - d * (x1 * x1) * (y1 * y1)) + (0 - y2 * y2 + x2 * x2 - x2 * x2 * y2 * y2 - x2 * x2 * y2 * y2 + y1 * y1 * y2 * y2 - y1 * y1 * x2 * x2 + y1 * y1 * x2 * x2 * y2 * y2 + y1 * y1 * x2 * x2 * y2 * y2 - x1 * x1 * y2 * y2 + x1 * x1 * x2 * x2 - x1 * x1 * x2 * x2 * y2 * y2 - x1 * x1 * x2 * x2 * y2 * y2 - d * x2 * x2 * y2 * y2 + d * y1 * y1 * x2 * x2 * y2 * y2 + d * y1 * y1 * x2 * x2 * y2 * y2 - d * y1 * y1 * y1 * y1 * x2 * x2 * y2 * y2 - d * x1 * x1 * x2 * x2 * y2 * y2 - d * x1 * x1 * x2 * x2 * y2 * y2 - d * x1 * x1 * x1 * x1 * x2 * x2 * y2 * y2 - 1) * (y2 * y2 - x2 * x2 - 1 - d * (x2 * x2) * (y2 * y2))) := by grind
theorem cl {d x1 y1 x2 y2 : Fin pp} (h1 : (y1 * y1 - x1 * x1 - 1 - d * (x1 * x1) * (y1 * y1)) = 0) (h2 : (y2 * y2 - x2 * x2 - 1 - d * (x2 * x2) * (y2 * y2)) = 0) : ((y1 * y2 + x1 * x2) * (1 + d * (x1 * x2) * (y1 * y2))) * ((y1 * y2 + x1 * x2) * (1 + d * (x1 * x2) * (y1 * y2))) - ((x1 * y2 + y1 * x2) * (1 - d * (x1 * x2) * (y1 * y2))) * ((x1 * y2 + y1 * x2) * (1 - d * (x1 * x2) * (y1 * y2))) - (((1 - d * (x1 * x2) * (y1 * y2)) * (1 + d * (x1 * x2) * (y1 * y2))) * ((1 - d * (x1 * x2) * (y1 * y2)) * (1 + d * (x1 * x2) * (y1 * y2))) + d * ((x1 * y2 + y1 * x2) * (x1 * y2 + y1 * x2)) * ((y1 * y2 + x1 * x2) * (y1 * y2 + x1 * x2))) = 0 := by
  have k := cl_0 d x1 y1 x2 y2
  rw [h1, h2] at k
  exact cl_end k

theorem canc {a b z : Fin pp} (hz : z ≠ 0) (h : a * z = b * z) : a = b := by
  have e : (a - b) * z = 0 := by grind
  rcases fp_dom e with e | e
  · grind
  · exact absurd e hz
/-- The inverse. -/
def fi (a : Fin pp) : Fin pp := ⟨a.val ^ (pp - 2) % pp, Nat.mod_lt _ (by decide)⟩
theorem fi_mul {a : Fin pp} (h : a ≠ 0) : fi a * a = 1 := by
  have hv : a.val % pp ≠ 0 := fun e => h (Fin.ext (by rw [Nat.mod_eq_of_lt a.isLt] at e; rw [e]; rfl))
  apply Fin.ext
  rw [Fin.val_mul]
  show a.val ^ (pp - 2) % pp * a.val % pp = 1 % pp
  rw [Nat.mul_comm, Nat.mul_mod_mod, inv_mul pp_prime hv]
  rfl
def dF : Fin pp := fp dL
/-- No square times d is a square, but 0. -/
theorem d_pow : dN ^ ((pp - 1) / 2) % pp = pp - 1 := by
  rw [← pm_eq pp 255 dN ((pp - 1) / 2) (by decide)]
  decide +kernel
theorem d_ns {s r : Fin pp} (hs : s ≠ 0) : dF * (s * s) ≠ r * r := by
  intro h
  have hv : s.val % pp ≠ 0 := fun e => hs (Fin.ext (by rw [Nat.mod_eq_of_lt s.isLt] at e; rw [e]; rfl))
  have h1 : dN * (s.val * s.val) % pp = r.val * r.val % pp := by
    have := congrArg Fin.val h
    unfold dF at this
    rw [d_f, Fin.val_mul, Fin.val_mul, Fin.val_mul] at this
    rw [← this]
    show _ = dN * (s.val * s.val % pp) % pp
    rw [Nat.mul_mod_mod]
  have h2 := mp (P := pp) ((pp - 1) / 2) h1
  have hh : (pp - 1) / 2 + (pp - 1) / 2 = pp - 1 := by decide
  have sq : ∀ v : Nat, (v * v) ^ ((pp - 1) / 2) = v ^ (pp - 1) := fun v => by rw [Nat.mul_pow, ← Nat.pow_add, hh]
  rw [Nat.mul_pow, sq, sq, Nat.mul_mod, d_pow, pp_prime.fermat hv] at h2
  by_cases hr : r.val % pp = 0
  · have : r.val = 0 := by rw [Nat.mod_eq_of_lt r.isLt] at hr; exact hr
    rw [this, Nat.zero_pow (by decide)] at h2
    exact absurd h2 (by decide)
  · rw [pp_prime.fermat hr] at h2
    exact absurd h2 (by decide)
def jF : Fin pp := fp rtL
theorem j_sq : jF * jF + 1 = 0 := Fin.ext (by
  rw [Fin.val_add, Fin.val_mul]
  show (nu rtL * nu rtL % pp + 1 % pp) % pp = 0
  rw [← Nat.add_mod]
  exact jj)

abbrev A2 := Fin pp × Fin pp
def On (P : A2) : Prop := P.2 * P.2 - P.1 * P.1 - 1 - dF * (P.1 * P.1) * (P.2 * P.2) = 0
def tt (P Q : A2) : Fin pp := dF * (P.1 * Q.1) * (P.2 * Q.2)
def adA (P Q : A2) : A2 := ((P.1 * Q.2 + P.2 * Q.1) * fi (1 + tt P Q), (P.2 * Q.2 + P.1 * Q.1) * fi (1 - tt P Q))
theorem cp1 {j t d x1 y1 x2 y2 : Fin pp} (hj : j * j + 1 = 0) (h1 : (y1 * y1 - x1 * x1 - 1 - d * (x1 * x1) * (y1 * y1)) = 0) (h2 : (y2 * y2 - x2 * x2 - 1 - d * (x2 * x2) * (y2 * y2)) = 0) (ht : t = d * (x1 * x2) * (y1 * y2)) (h : t * t = 1) : d * ((x1 * y1 * (j * x2 + y2)) * (x1 * y1 * (j * x2 + y2))) = (j * x1 + t * y1) * (j * x1 + t * y1) := by grind
theorem cp2 {j t d x1 y1 x2 y2 : Fin pp} (hj : j * j + 1 = 0) (h1 : (y1 * y1 - x1 * x1 - 1 - d * (x1 * x1) * (y1 * y1)) = 0) (h2 : (y2 * y2 - x2 * x2 - 1 - d * (x2 * x2) * (y2 * y2)) = 0) (ht : t = d * (x1 * x2) * (y1 * y2)) (h : t * t = 1) : d * ((x1 * y1 * (j * x2 - y2)) * (x1 * y1 * (j * x2 - y2))) = (j * x1 - t * y1) * (j * x1 - t * y1) := by grind
theorem tt_sq {P Q : A2} (hP : On P) (hQ : On Q) : tt P Q * tt P Q ≠ 1 := by
  intro h
  have t0 : tt P Q ≠ 0 := fun e => by rw [e] at h; exact absurd h (by decide)
  have a1 := cp1 j_sq hP hQ rfl h
  have a2 := cp2 j_sq hP hQ rfl h
  by_cases b1 : P.1 * P.2 * (jF * Q.1 + Q.2) = 0
  · by_cases b2 : P.1 * P.2 * (jF * Q.1 - Q.2) = 0
    · by_cases b3 : P.1 * P.2 = 0
      · exact t0 (by unfold tt; grind)
      · have c1 : jF * Q.1 + Q.2 = 0 := (fp_dom b1).resolve_left b3
        have c2 : jF * Q.1 - Q.2 = 0 := (fp_dom b2).resolve_left b3
        have c3 : 2 * Q.2 = 0 := by grind
        have c4 : Q.2 = 0 := (fp_dom c3).resolve_left two_ne
        exact t0 (by unfold tt; rw [c4]; grind)
    · exact d_ns b2 a2
  · exact d_ns b1 a1
theorem cplus {P Q : A2} (hP : On P) (hQ : On Q) : 1 + tt P Q ≠ 0 := fun e => tt_sq hP hQ (by grind)
theorem cminus {P Q : A2} (hP : On P) (hQ : On Q) : 1 - tt P Q ≠ 0 := fun e => tt_sq hP hQ (by grind)
theorem ad_1 {P Q : A2} (hP : On P) (hQ : On Q) : (adA P Q).1 * (1 + tt P Q) = P.1 * Q.2 + P.2 * Q.1 := by
  have := fi_mul (cplus hP hQ)
  show _ * fi (1 + tt P Q) * (1 + tt P Q) = _
  grind
theorem ad_2 {P Q : A2} (hP : On P) (hQ : On Q) : (adA P Q).2 * (1 - tt P Q) = P.2 * Q.2 + P.1 * Q.1 := by
  have := fi_mul (cminus hP hQ)
  show _ * fi (1 - tt P Q) * (1 - tt P Q) = _
  grind
theorem on_lem {d X Y a b u v : Fin pp} (hx : X * u = a) (hy : Y * v = b) (h : (b * u) * (b * u) - (a * v) * (a * v) - ((v * u) * (v * u) + d * (a * a) * (b * b)) = 0) : (Y * Y - X * X - 1 - d * (X * X) * (Y * Y)) * ((u * v) * (u * v)) = 0 := by
  subst hx hy
  grind
theorem on_ad {P Q : A2} (hP : On P) (hQ : On Q) : On (adA P Q) := by
  have h := on_lem (d := dF) (ad_1 hP hQ) (ad_2 hP hQ) (cl hP hQ)
  have n := mul_ne (cplus hP hQ) (cminus hP hQ)
  exact (fp_dom h).resolve_right (mul_ne n n)
theorem ad_comm (P Q : A2) : adA P Q = adA Q P := by
  have e : tt P Q = tt Q P := by unfold tt; grind
  unfold adA
  rw [e]
  congr 1 <;> congr 1 <;> grind
theorem tx_lem {d X Y a b t x y T : Fin pp} (hx : X * (1 + t) = a) (hy : Y * (1 - t) = b) (h : T * (1 + d * (X * x) * (Y * y)) = X * y + Y * x) : T * ((1 - t) * (1 + t) + d * (a * x) * (b * y)) = a * (1 - t) * y + b * (1 + t) * x := by
  subst hx hy
  grind
theorem ty_lem {d X Y a b t x y T : Fin pp} (hx : X * (1 + t) = a) (hy : Y * (1 - t) = b) (h : T * (1 - d * (X * x) * (Y * y)) = Y * y + X * x) : T * ((1 - t) * (1 + t) - d * (a * x) * (b * y)) = b * (1 + t) * y + a * (1 - t) * x := by
  subst hx hy
  grind
theorem dx_lem {d X Y a b t x y : Fin pp} (hx : X * (1 + t) = a) (hy : Y * (1 - t) = b) : (1 - t) * (1 + t) + d * (a * x) * (b * y) = (1 + d * (X * x) * (Y * y)) * ((1 - t) * (1 + t)) := by
  subst hx hy
  grind
theorem dy_lem {d X Y a b t x y : Fin pp} (hx : X * (1 + t) = a) (hy : Y * (1 - t) = b) : (1 - t) * (1 + t) - d * (a * x) * (b * y) = (1 - d * (X * x) * (Y * y)) * ((1 - t) * (1 + t)) := by
  subst hx hy
  grind
theorem fin_lem {T T' D1 D2 N1 N2 : Fin pp} (h1 : T * D1 = N1) (h2 : T' * D2 = N2) (h : N1 * D2 = N2 * D1) (n1 : D1 ≠ 0) (n2 : D2 ≠ 0) : T = T' := by
  refine canc (mul_ne n1 n2) ?_
  subst h1 h2
  grind
theorem dx_ne {d X Y a b t x y : Fin pp} (hx : X * (1 + t) = a) (hy : Y * (1 - t) = b) (n : 1 + d * (X * x) * (Y * y) ≠ 0) (m : 1 - t ≠ 0) (m' : 1 + t ≠ 0) : (1 - t) * (1 + t) + d * (a * x) * (b * y) ≠ 0 := by
  rw [dx_lem hx hy]
  exact mul_ne n (mul_ne m m')
theorem dy_ne {d X Y a b t x y : Fin pp} (hx : X * (1 + t) = a) (hy : Y * (1 - t) = b) (n : 1 - d * (X * x) * (Y * y) ≠ 0) (m : 1 - t ≠ 0) (m' : 1 + t ≠ 0) : (1 - t) * (1 + t) - d * (a * x) * (b * y) ≠ 0 := by
  rw [dy_lem hx hy]
  exact mul_ne n (mul_ne m m')
theorem ad_assoc {P Q R : A2} (hP : On P) (hQ : On Q) (hR : On R) : adA (adA P Q) R = adA P (adA Q R) := by
  rw [ad_comm P (adA Q R)]
  have s1 := on_ad hP hQ
  have s2 := on_ad hQ hR
  have a1 := ad_1 hP hQ
  have a2 := ad_2 hP hQ
  have b1 := ad_1 hQ hR
  have b2 := ad_2 hQ hR
  refine Prod.ext ?_ ?_
  · exact fin_lem (tx_lem a1 a2 (ad_1 s1 hR)) (tx_lem b1 b2 (ad_1 s2 hP)) (as_x hP hQ hR) (dx_ne a1 a2 (cplus s1 hR) (cminus hP hQ) (cplus hP hQ)) (dx_ne b1 b2 (cplus s2 hP) (cminus hQ hR) (cplus hQ hR))
  · exact fin_lem (ty_lem a1 a2 (ad_2 s1 hR)) (ty_lem b1 b2 (ad_2 s2 hP)) (as_y hP hQ hR) (dy_ne a1 a2 (cminus s1 hR) (cminus hP hQ) (cplus hP hQ)) (dy_ne b1 b2 (cminus s2 hP) (cminus hQ hR) (cplus hQ hR))
end

section
set_option maxRecDepth 100000
set_option linter.unusedVariables false
open Go.RowKit

/-- What a point of the program stands for. -/
structure Is (p : Pm) (P : A2) : Prop where
  z : fp p.z ≠ 0
  x : fp p.x = P.1 * fp p.z
  y : fp p.y = P.2 * fp p.z
  t : fp p.t = P.1 * P.2 * fp p.z
  on : On P
theorem ia1 {d x1 y1 z1 x2 y2 z2 S : Fin pp} (hs : S * (1 + d * (x1 * x2) * (y1 * y2)) = x1 * y2 + y1 * x2) : (y1 * z1 + x1 * z1) * (y2 * z2 + x2 * z2) - (y1 * z1 - x1 * z1) * (y2 * z2 - x2 * z2) = S * (z1 * z2 + z1 * z2 + (x1 * y1 * z1 * (x2 * y2 * z2) * d + x1 * y1 * z1 * (x2 * y2 * z2) * d)) := by grind
theorem ia2 {d x1 y1 z1 x2 y2 z2 S : Fin pp} (hs : S * (1 - d * (x1 * x2) * (y1 * y2)) = y1 * y2 + x1 * x2) : (y1 * z1 + x1 * z1) * (y2 * z2 + x2 * z2) + (y1 * z1 - x1 * z1) * (y2 * z2 - x2 * z2) = S * (z1 * z2 + z1 * z2 - (x1 * y1 * z1 * (x2 * y2 * z2) * d + x1 * y1 * z1 * (x2 * y2 * z2) * d)) := by grind
theorem ia3 (d x1 y1 z1 x2 y2 z2 : Fin pp) : z1 * z2 + z1 * z2 + (x1 * y1 * z1 * (x2 * y2 * z2) * d + x1 * y1 * z1 * (x2 * y2 * z2) * d) = (2 * (z1 * z2)) * (1 + d * (x1 * x2) * (y1 * y2)) := by grind
theorem ia4 (d x1 y1 z1 x2 y2 z2 : Fin pp) : z1 * z2 + z1 * z2 - (x1 * y1 * z1 * (x2 * y2 * z2) * d + x1 * y1 * z1 * (x2 * y2 * z2) * d) = (2 * (z1 * z2)) * (1 - d * (x1 * x2) * (y1 * y2)) := by grind
theorem ie1 (S f g : Fin pp) : S * f * g = S * (f * g) := by grind
theorem ie2 (S f g : Fin pp) : S * g * f = S * (f * g) := by grind
theorem ie3 (S T f g : Fin pp) : S * f * (T * g) = S * T * (f * g) := by grind
theorem is_ad {p q : Pm} {P Q : A2} (hp : p.ok) (hq : q.ok) (h : Is p P) (k : Is q Q) : Is (adP p q) (adA P Q) := by
  have e1 : fp (plA p q) - fp (miA p q) = (adA P Q).1 * (fp (onA p q) + fp (moA p q)) := by
    rw [pl_f, mi_f hp hq, on_f, mo_f, h.x, h.y, h.t, k.x, k.y, k.t]
    exact ia1 (ad_1 h.on k.on)
  have e2 : fp (plA p q) + fp (miA p q) = (adA P Q).2 * (fp (onA p q) - fp (moA p q)) := by
    rw [pl_f, mi_f hp hq, on_f, mo_f, h.x, h.y, h.t, k.x, k.y, k.t]
    exact ia2 (ad_2 h.on k.on)
  have e3 : fp (onA p q) + fp (moA p q) ≠ 0 := by
    rw [on_f, mo_f, h.t, k.t]
    exact fun e => mul_ne (mul_ne two_ne (mul_ne h.z k.z)) (cplus h.on k.on) ((ia3 _ _ _ _ _ _ _).symm.trans e)
  have e4 : fp (onA p q) - fp (moA p q) ≠ 0 := by
    rw [on_f, mo_f, h.t, k.t]
    exact fun e => mul_ne (mul_ne two_ne (mul_ne h.z k.z)) (cminus h.on k.on) ((ia4 _ _ _ _ _ _ _).symm.trans e)
  refine ⟨?_, ?_, ?_, ?_, on_ad h.on k.on⟩
  · rw [ad_z hp hq]
    exact mul_ne e3 e4
  · rw [ad_x hp hq, ad_z hp hq, e1]
    exact ie1 _ _ _
  · rw [ad_y hp hq, ad_z hp hq, e2]
    exact ie2 _ _ _
  · rw [ad_t hp hq, ad_z hp hq, e1, e2]
    exact ie3 _ _ _ _
theorem id0 {d x y z : Fin pp} (ho : y * y - x * x - 1 - d * (x * x) * (y * y) = 0) : y * z * (y * z) - x * z * (x * z) = (z * z) * (1 + d * (x * x) * (y * y)) := by grind
theorem id1 {d x y z S : Fin pp} (hs : S * (1 + d * (x * x) * (y * y)) = x * y + y * x) (ho : y * y - x * x - 1 - d * (x * x) * (y * y) = 0) : x * z * (y * z) + x * z * (y * z) = S * (y * z * (y * z) - x * z * (x * z)) := by
  rw [id0 ho]
  grind
theorem id4 {d x y z : Fin pp} (ho : y * y - x * x - 1 - d * (x * x) * (y * y) = 0) : z * z + z * z - (y * z * (y * z) - x * z * (x * z)) = (z * z) * (1 - d * (x * x) * (y * y)) := by
  rw [id0 ho]
  grind
theorem id2 {d x y z S : Fin pp} (hs : S * (1 - d * (x * x) * (y * y)) = y * y + x * x) (ho : y * y - x * x - 1 - d * (x * x) * (y * y) = 0) : y * z * (y * z) + x * z * (x * z) = S * (z * z + z * z - (y * z * (y * z) - x * z * (x * z))) := by
  rw [id4 ho]
  grind
theorem is_do {p : Pm} {P : A2} (hp : p.ok) (h : Is p P) : Is (doP p) (adA P P) := by
  have e1 : fp p.x * fp p.y + fp p.x * fp p.y = (adA P P).1 * fp (unD p) := by
    rw [un_f hp, h.x, h.y]
    exact id1 (ad_1 h.on h.on) h.on
  have e2 : fp p.y * fp p.y + fp p.x * fp p.x = (adA P P).2 * (fp p.z * fp p.z + fp p.z * fp p.z - fp (unD p)) := by
    rw [un_f hp, h.x, h.y]
    exact id2 (ad_2 h.on h.on) h.on
  have e3 : fp (unD p) ≠ 0 := by
    rw [un_f hp, h.x, h.y, id0 h.on]
    exact mul_ne (mul_ne h.z h.z) (cplus h.on h.on)
  have e4 : fp p.z * fp p.z + fp p.z * fp p.z - fp (unD p) ≠ 0 := by
    rw [un_f hp, h.x, h.y, id4 h.on]
    exact mul_ne (mul_ne h.z h.z) (cminus h.on h.on)
  refine ⟨?_, ?_, ?_, ?_, on_ad h.on h.on⟩
  · rw [do_z hp]
    exact mul_ne e3 e4
  · rw [do_x hp, do_z hp, e1]
    exact ie1 _ _ _
  · rw [do_y hp, do_z hp, e2]
    exact ie2 _ _ _
  · rw [do_t hp, do_z hp, e1, e2]
    exact ie3 _ _ _ _
def O2 : A2 := (0, 1)
theorem on_O : On O2 := by
  unfold On O2 dF
  rw [d_f]
  decide
theorem is_ze : Is ze1 O2 := ⟨by rw [ze_z]; decide, by rw [ze_x]; exact (Fin.zero_mul _).symm, by rw [ze_y, ze_z]; decide, by rw [ze_t]; unfold O2; grind, on_O⟩
theorem is_at {x y : Lm} (h : On (fp x, fp y)) : Is (atP x y) (fp x, fp y) := by
  have hz : fp (atP x y).z = 1 := fp_1
  refine ⟨by rw [hz]; decide, by rw [hz]; exact (Fin.mul_one _).symm, by rw [hz]; exact (Fin.mul_one _).symm, ?_, h⟩
  rw [hz]
  exact (fp_mul x y).trans (Fin.mul_one _).symm
def ngA (P : A2) : A2 := (-P.1, P.2)
theorem on_ng {P : A2} (h : On P) : On (ngA P) := by
  have h' : P.2 * P.2 - P.1 * P.1 - 1 - dF * (P.1 * P.1) * (P.2 * P.2) = 0 := h
  show P.2 * P.2 - -P.1 * -P.1 - 1 - dF * (-P.1 * -P.1) * (P.2 * P.2) = 0
  grind
theorem in1 (x z : Fin pp) : -(x * z) = -x * z := by grind
theorem in2 (x y z : Fin pp) : -(x * y * z) = -x * y * z := by grind
theorem is_ng {p : Pm} {P : A2} (hp : p.ok) (h : Is p P) : Is (ngP p) (ngA P) := by
  refine ⟨h.z, ?_, h.y, ?_, on_ng h.on⟩
  · exact (fp_neg hp.x).trans (by rw [h.x]; exact in1 _ _)
  · exact (fp_neg hp.t).trans (by rw [h.t]; exact in2 _ _ _)
theorem ba_on : On (fp baP.x, fp baP.y) := by
  have := ba_curve
  show fp baP.y * fp baP.y - fp baP.x * fp baP.x - 1 - fp dL * (fp baP.x * fp baP.x) * (fp baP.y * fp baP.y) = 0
  grind
/-- The base. -/
def bA : A2 := (fp (ofB bxN), fp (ofB byN))
theorem is_ba : Is baP bA := is_at ba_on

/-- The same point, the same numbers told. -/
theorem is_same {p q : Pm} {P Q : A2} (h : Is p P) (k : Is q Q) : sameB p q = decide (P = Q) := by
  unfold sameB
  rw [← Bool.decide_and]
  refine decide_eq_decide.2 ?_
  rw [← fp_ext, ← fp_ext, fp_mul, fp_mul, fp_mul, fp_mul, h.x, h.y, k.x, k.y]
  have hz := mul_ne h.z k.z
  constructor
  · rintro ⟨a, b⟩
    refine Prod.ext (canc hz ?_) (canc hz ?_)
    · grind
    · grind
  · rintro rfl
    constructor <;> grind
/-- Zero, multiples. -/
theorem ad_zero (P : A2) : adA P O2 = P := by
  have f1 : fi 1 = 1 := by
    have := fi_mul (a := 1) (by decide)
    rwa [Fin.mul_one] at this
  have t0 : tt P O2 = 0 := by
    show dF * (P.1 * 0) * (P.2 * 1) = 0
    rw [Fin.mul_zero, Fin.mul_zero, Fin.zero_mul]
  have e1 : (1 : Fin pp) + tt P O2 = 1 := by rw [t0]; decide
  have e2 : (1 : Fin pp) - tt P O2 = 1 := by rw [t0]; decide
  unfold adA
  rw [e1, e2, f1]
  refine Prod.ext ?_ ?_
  · show (P.1 * 1 + P.2 * 0) * 1 = P.1
    grind
  · show (P.2 * 1 + P.1 * 0) * 1 = P.2
    grind
theorem zero_ad (P : A2) : adA O2 P = P := by rw [ad_comm, ad_zero]
def sm : Nat → A2 → A2
  | 0, _ => O2
  | n + 1, P => adA (sm n P) P
theorem on_sm {P : A2} (h : On P) : ∀ n, On (sm n P)
  | 0 => on_O
  | n + 1 => on_ad (on_sm h n) h
theorem sm_one (P : A2) : sm 1 P = P := zero_ad P
theorem sm_add {P : A2} (h : On P) (m : Nat) : ∀ n, sm (m + n) P = adA (sm m P) (sm n P)
  | 0 => (ad_zero _).symm
  | n + 1 => by
    show adA (sm (m + n) P) P = adA (sm m P) (adA (sm n P) P)
    rw [sm_add h m n, ad_assoc (on_sm h m) (on_sm h n) h]
theorem sm_mul {P : A2} (h : On P) (m : Nat) : ∀ n, sm (n * m) P = sm n (sm m P)
  | 0 => by rw [Nat.zero_mul]; rfl
  | n + 1 => by
    rw [Nat.add_mul, Nat.one_mul, sm_add h, sm_mul h m n]
    rfl
theorem ad_mid {A B C D : A2} (hA : On A) (hB : On B) (hC : On C) (hD : On D) : adA (adA A B) (adA C D) = adA (adA A C) (adA B D) := by
  rw [ad_assoc hA hB (on_ad hC hD), ← ad_assoc hB hC hD, ad_comm B C, ad_assoc hC hB hD, ← ad_assoc hA hC (on_ad hB hD)]
theorem sm_ad {P Q : A2} (h : On P) (k : On Q) : ∀ n, sm n (adA P Q) = adA (sm n P) (sm n Q)
  | 0 => (ad_zero O2).symm
  | n + 1 => by
    show adA (sm n (adA P Q)) (adA P Q) = adA (adA (sm n P) P) (adA (sm n Q) Q)
    rw [sm_ad h k n, ad_mid (on_sm h n) (on_sm k n) h k]
theorem sm_16 {P : A2} (h : On P) : adA (adA (adA (adA P P) (adA P P)) (adA (adA P P) (adA P P))) (adA (adA (adA P P) (adA P P)) (adA (adA P P) (adA P P))) = sm 16 P := by
  have e2 : adA P P = sm 2 P := by rw [show 2 = 1 + 1 from rfl, sm_add h, sm_one]
  rw [e2, ← sm_add h, ← sm_add h, ← sm_add h]
theorem is_do4 {p : Pm} {P : A2} (hp : p.ok) (h : Is p P) : Is (do4 p) (sm 16 P) := by
  rw [← sm_16 h.on]
  have h1 := is_do hp h
  have h2 := is_do (doP_ok hp) h1
  have h3 := is_do (doP_ok (doP_ok hp)) h2
  exact is_do (doP_ok (doP_ok (doP_ok hp))) h3
theorem is_tab {p : Pm} {P : A2} (hp : p.ok) (h : Is p P) : ∀ n, Is (tabP p n) (sm n P)
  | 0 => is_ze
  | n + 1 => is_ad (tabP_ok hp n) hp (is_tab hp h n) h
theorem dig_up (N m : Nat) : N / 2 ^ (4 * m) = N / 2 ^ (4 * (m + 1)) * 16 + N / 2 ^ (4 * m) % 16 := by
  rw [Nat.mul_add, Nat.pow_add, ← Nat.div_div_eq_div_mul]
  generalize N / 2 ^ (4 * m) = v
  show v = v / 16 * 16 + v % 16
  omega
theorem is_tog1 {p : Pm} {P : A2} {N : Nat} (hp : p.ok) (hN : N < 2 ^ 256) (h : Is p P) : ∀ k, k ≤ 64 → Is (togU [(N, p)] k) (sm (N / 2 ^ (4 * (64 - k))) P)
  | 0, _ => by
    rw [show 4 * (64 - 0) = 256 from rfl, Nat.div_eq_of_lt hN]
    exact is_ze
  | k + 1, hk => by
    have ih := is_tog1 hp hN h k (by omega)
    have hok : (togU [(N, p)] k).ok := togU_ok _ (fun s hs => by rw [List.mem_singleton.1 hs]; exact hp) _
    have e1 : 64 - (k + 1) = 63 - k := by omega
    have e2 : 64 - k = (63 - k) + 1 := by omega
    rw [e2] at ih
    rw [e1, dig_up, sm_add h.on, Nat.mul_comm, sm_mul h.on]
    show Is (adP (do4 (togU [(N, p)] k)) (tabP p (N / 2 ^ (4 * (63 - k)) % 16))) _
    exact is_ad (do4_ok hok) (tabP_ok hp _) (is_do4 hok ih) (is_tab hp h _)
theorem is_mu {p : Pm} {P : A2} {N : Nat} (hp : p.ok) (hN : N < 2 ^ 256) (h : Is p P) : Is (muP p N) (sm N P) := by
  have := is_tog1 hp hN h 64 (by omega)
  rwa [show 4 * (64 - 64) = 0 from rfl, Nat.pow_zero, Nat.div_one] at this
theorem is_tog2 {p q : Pm} {P Q : A2} {N M : Nat} (hp : p.ok) (hq : q.ok) (hN : N < 2 ^ 256) (hM : M < 2 ^ 256) (h : Is p P) (g : Is q Q) : ∀ k, k ≤ 64 → Is (togU [(N, p), (M, q)] k) (adA (sm (N / 2 ^ (4 * (64 - k))) P) (sm (M / 2 ^ (4 * (64 - k))) Q))
  | 0, _ => by
    rw [show 4 * (64 - 0) = 256 from rfl, Nat.div_eq_of_lt hN, Nat.div_eq_of_lt hM]
    show Is ze1 (adA O2 O2)
    rw [ad_zero]
    exact is_ze
  | k + 1, hk => by
    have ih := is_tog2 hp hq hN hM h g k (by omega)
    have hok : (togU [(N, p), (M, q)] k).ok := togU_ok _ (fun s hs => by
      rcases List.mem_cons.1 hs with rfl | hs
      · exact hp
      · rw [List.mem_singleton.1 hs]; exact hq) _
    have e1 : 64 - (k + 1) = 63 - k := by omega
    have e2 : 64 - k = (63 - k) + 1 := by omega
    rw [e2] at ih
    rw [e1, dig_up N, dig_up M, sm_add h.on, sm_add g.on, Nat.mul_comm, sm_mul h.on, Nat.mul_comm (M / _), sm_mul g.on]
    have r := is_do4 hok ih
    rw [sm_ad (on_sm h.on _) (on_sm g.on _)] at r
    have r1 := is_ad (do4_ok hok) (tabP_ok hp (N / 2 ^ (4 * (63 - k)) % 16)) r (is_tab hp h (N / 2 ^ (4 * (63 - k)) % 16))
    have r2 := is_ad (adP_ok (do4_ok hok) (tabP_ok hp (N / 2 ^ (4 * (63 - k)) % 16))) (tabP_ok hq (M / 2 ^ (4 * (63 - k)) % 16)) r1 (is_tab hq g (M / 2 ^ (4 * (63 - k)) % 16))
    have oA := on_sm (on_sm h.on (N / 2 ^ (4 * (63 - k + 1)))) 16
    have oB := on_sm (on_sm g.on (M / 2 ^ (4 * (63 - k + 1)))) 16
    have oC := on_sm h.on (N / 2 ^ (4 * (63 - k)) % 16)
    have oD := on_sm g.on (M / 2 ^ (4 * (63 - k)) % 16)
    rw [ad_assoc (on_ad oA oB) oC oD, ad_mid oA oB oC oD] at r2
    exact r2
theorem is_bo {p : Pm} {P : A2} {N M : Nat} (hp : p.ok) (hN : N < 2 ^ 256) (hM : M < 2 ^ 256) (h : Is p P) : Is (boP p N M) (adA (sm N P) (sm M bA)) := by
  have := is_tog2 hp baP_ok hN hM h is_ba 64 (by omega)
  rwa [show 4 * (64 - 64) = 0 from rfl, Nat.pow_zero, Nat.div_one, Nat.div_one] at this
end

section
set_option maxRecDepth 100000
set_option linter.unusedVariables false
open Go.RowKit

/-- The kernel reckons s first. -/
def frc {α : Type} (s : Nat) (F : Nat → α) : α :=
  match s with
  | 0 => F 0
  | n + 1 => F (n + 1)
theorem frc_eq {α : Type} (s : Nat) (F : Nat → α) : frc s F = F s := by cases s <;> rfl
def fN (n : Nat) : Fin pp := ⟨n % pp, Nat.mod_lt _ (by decide)⟩
theorem fN_mod (n : Nat) : fN (n % pp) = fN n := Fin.ext (Nat.mod_mod _ _)
theorem fN_mul (a b : Nat) : fN (a * b) = fN a * fN b := Fin.ext (by rw [Fin.val_mul]; exact Nat.mul_mod _ _ _)
theorem fN_add (a b : Nat) : fN (a + b) = fN a + fN b := Fin.ext (by rw [Fin.val_add]; exact Nat.add_mod _ _ _)
theorem fN_pp : fN pp = 0 := by decide
theorem fN_sub {a b : Nat} (h : b ≤ pp) : fN (a + (pp - b)) = fN a - fN b := by
  have e : fN (pp - b) + fN b = 0 := by rw [← fN_add, Nat.sub_add_cancel h, fN_pp]
  rw [fN_add]
  grind
def BB : Nat := 115792089237316195423570985008687907853269984665640564039457584007913129639936
def cdN (x y z : Nat) : Nat := x + BB * (y + BB * z)
def dwN : Nat := dN * (bxN * byN) % pp
/-- The double of x, y over z. -/
def dbN (x y z : Nat) : Nat :=
  frc (y * y % pp) fun b => frc (x * x % pp) fun a => frc ((b + (pp - a)) % pp) fun u => frc (2 * (z * z) % pp) fun c => frc ((c + (pp - u)) % pp) fun g =>
    frc (2 * (x * y) * g % pp) fun X => frc ((b + a) * u % pp) fun Y => frc (u * g % pp) fun Z => cdN X Y Z
/-- The base added. -/
def adN (x y z : Nat) : Nat :=
  frc ((x * byN + y * bxN) * z % pp) fun a => frc ((y * byN + x * bxN) * z % pp) fun b => frc (z * z % pp) fun c => frc (dwN * (x * y) % pp) fun w => frc ((c + w) % pp) fun f => frc ((c + (pp - w)) % pp) fun g =>
    frc (a * g % pp) fun X => frc (b * f % pp) fun Y => frc (f * g % pp) fun Z => cdN X Y Z
def opn (s : Nat) (F : Nat → Nat → Nat → Nat) : Nat := frc (s % BB) fun x => frc (s / BB % BB) fun y => frc (s / BB / BB) fun z => F x y z
def qN : Nat := 7237005577332262213973186563042994240857116359379907606001950938285454250989
def runN : Nat → Nat
  | 0 => cdN 0 1 1
  | k + 1 => frc (runN k) fun s => frc (opn s dbN) fun t => if qN / 2 ^ (252 - k) % 2 = 1 then opn t adN else t
def I3 (x y z : Nat) (P : A2) : Prop := fN z ≠ 0 ∧ fN x = P.1 * fN z ∧ fN y = P.2 * fN z ∧ On P
theorem pp_BB : pp < BB := by decide
theorem opn_cd {x y z : Nat} (hx : x < BB) (hy : y < BB) (F : Nat → Nat → Nat → Nat) : opn (cdN x y z) F = F x y z := by
  have h0 : 0 < BB := by decide
  have e1 : cdN x y z % BB = x := by unfold cdN; rw [Nat.add_mul_mod_self_left, Nat.mod_eq_of_lt hx]
  have e2 : cdN x y z / BB = y + BB * z := by unfold cdN; rw [Nat.add_mul_div_left _ _ h0, Nat.div_eq_of_lt hx, Nat.zero_add]
  unfold opn
  rw [frc_eq, frc_eq, frc_eq, e1, e2, Nat.add_mul_mod_self_left, Nat.mod_eq_of_lt hy, Nat.add_mul_div_left _ _ h0, Nat.div_eq_of_lt hy, Nat.zero_add]
def I4 (s : Nat) (P : A2) : Prop := ∃ x y z, s = cdN x y z ∧ x < BB ∧ y < BB ∧ I3 x y z P
theorem mlt (n : Nat) : n % pp < BB := Nat.lt_trans (Nat.mod_lt _ (by decide)) pp_BB
theorem mle (n : Nat) : n % pp ≤ pp := Nat.le_of_lt (Nat.mod_lt _ (by decide))
theorem fN_2 : fN 2 = 2 := by decide
theorem ex1 {X z S u g : Fin pp} (h : X = S * u) : X * g = S * (u * g) := by rw [h]; grind
theorem ex2 {X z S u g : Fin pp} (h : X = S * g) : X * u = S * (u * g) := by rw [h]; grind
theorem two_xy (x y : Fin pp) : 2 * (x * y) = x * y + x * y := by grind
theorem two_zz (z : Fin pp) : 2 * (z * z) = z * z + z * z := by grind
theorem i_db {x y z : Nat} {P : A2} (h : I3 x y z P) : I4 (dbN x y z) (adA P P) := by
  obtain ⟨hz, hx, hy, ho⟩ := h
  unfold dbN
  simp only [frc_eq]
  refine ⟨_, _, _, rfl, mlt _, mlt _, ?_⟩
  have eu : fN ((y * y % pp + (pp - x * x % pp)) % pp) = fN y * fN y - fN x * fN x := by
    rw [fN_mod, fN_sub (mle _), fN_mod, fN_mod, fN_mul, fN_mul]
  have eg : fN ((2 * (z * z) % pp + (pp - (y * y % pp + (pp - x * x % pp)) % pp)) % pp) = fN z * fN z + fN z * fN z - (fN y * fN y - fN x * fN x) := by
    rw [fN_mod, fN_sub (mle _), eu, fN_mod, fN_mul, fN_mul, fN_2, two_zz]
  generalize (2 * (z * z) % pp + (pp - (y * y % pp + (pp - x * x % pp)) % pp)) % pp = G at *
  generalize (y * y % pp + (pp - x * x % pp)) % pp = U at *
  have e3 : fN U ≠ 0 := by
    rw [eu, hx, hy, id0 ho]
    exact mul_ne (mul_ne hz hz) (cplus ho ho)
  have e4 : fN G ≠ 0 := by
    rw [eg, hx, hy, id4 ho]
    exact mul_ne (mul_ne hz hz) (cminus ho ho)
  have e1 : fN x * fN y + fN x * fN y = (adA P P).1 * fN U := by
    rw [eu, hx, hy]
    exact id1 (ad_1 ho ho) ho
  have e2 : fN y * fN y + fN x * fN x = (adA P P).2 * fN G := by
    rw [eg, hx, hy]
    exact id2 (ad_2 ho ho) ho
  refine ⟨?_, ?_, ?_, on_ad ho ho⟩
  · rw [fN_mod, fN_mul]
    exact mul_ne e3 e4
  · rw [fN_mod, fN_mod, fN_mul, fN_mul, fN_mul, fN_mul, fN_2, two_xy, e1]
    exact ie1 _ _ _
  · rw [fN_mod, fN_mod, fN_mul, fN_mul, fN_add, fN_mod, fN_mod, fN_mul, fN_mul, e2]
    exact ie2 _ _ _
theorem bA_1 : bA.1 = fN bxN := by
  show fp (ofB bxN) = fN bxN
  exact ba_x.trans (by decide)
theorem bA_2 : bA.2 = fN byN := by
  show fp (ofB byN) = fN byN
  exact ba_y.trans (by decide)
theorem on_bA : On bA := ba_on
theorem dF_N : dF = fN dN := d_f.trans (by decide)
theorem ib1 {d X Y bx by' z S : Fin pp} (hs : S * (1 + d * (X * bx) * (Y * by')) = X * by' + Y * bx) : (X * z * by' + Y * z * bx) * z = S * (z * z + d * (bx * by') * (X * z * (Y * z))) := by grind
theorem ib2 {d X Y bx by' z S : Fin pp} (hs : S * (1 - d * (X * bx) * (Y * by')) = Y * by' + X * bx) : (Y * z * by' + X * z * bx) * z = S * (z * z - d * (bx * by') * (X * z * (Y * z))) := by grind
theorem ib3 (d X Y bx by' z : Fin pp) : z * z + d * (bx * by') * (X * z * (Y * z)) = (z * z) * (1 + d * (X * bx) * (Y * by')) := by grind
theorem ib4 (d X Y bx by' z : Fin pp) : z * z - d * (bx * by') * (X * z * (Y * z)) = (z * z) * (1 - d * (X * bx) * (Y * by')) := by grind
theorem i_ad {x y z : Nat} {P : A2} (h : I3 x y z P) : I4 (adN x y z) (adA P bA) := by
  obtain ⟨hz, hx, hy, ho⟩ := h
  unfold adN
  simp only [frc_eq]
  refine ⟨_, _, _, rfl, mlt _, mlt _, ?_⟩
  have ew : fN (dwN * (x * y) % pp) = dF * (bA.1 * bA.2) * (fN x * fN y) := by
    unfold dwN
    rw [fN_mod, fN_mul, fN_mod, fN_mul, fN_mul, fN_mul, ← dF_N, ← bA_1, ← bA_2]
  have ef : fN ((z * z % pp + dwN * (x * y) % pp) % pp) = fN z * fN z + dF * (bA.1 * bA.2) * (fN x * fN y) := by
    rw [fN_mod, fN_add, ew, fN_mod, fN_mul]
  have eg : fN ((z * z % pp + (pp - dwN * (x * y) % pp)) % pp) = fN z * fN z - dF * (bA.1 * bA.2) * (fN x * fN y) := by
    rw [fN_mod, fN_sub (mle _), ew, fN_mod, fN_mul]
  generalize (z * z % pp + dwN * (x * y) % pp) % pp = U at *
  generalize (z * z % pp + (pp - dwN * (x * y) % pp)) % pp = G at *
  have e3 : fN U ≠ 0 := by
    rw [ef, hx, hy, ib3]
    exact mul_ne (mul_ne hz hz) (cplus ho on_bA)
  have e4 : fN G ≠ 0 := by
    rw [eg, hx, hy, ib4]
    exact mul_ne (mul_ne hz hz) (cminus ho on_bA)
  have e1 : (fN x * bA.2 + fN y * bA.1) * fN z = (adA P bA).1 * fN U := by
    rw [ef, hx, hy]
    exact ib1 (ad_1 ho on_bA)
  have e2 : (fN y * bA.2 + fN x * bA.1) * fN z = (adA P bA).2 * fN G := by
    rw [eg, hx, hy]
    exact ib2 (ad_2 ho on_bA)
  refine ⟨?_, ?_, ?_, on_ad ho on_bA⟩
  · rw [fN_mod, fN_mul]
    exact mul_ne e3 e4
  · rw [fN_mod, fN_mod, fN_mul, fN_mul, fN_mod, fN_mul, fN_add, fN_mul, fN_mul, ← bA_1, ← bA_2, e1]
    exact ie1 _ _ _
  · rw [fN_mod, fN_mod, fN_mul, fN_mul, fN_mod, fN_mul, fN_add, fN_mul, fN_mul, ← bA_1, ← bA_2, e2]
    exact ie2 _ _ _
theorem bit_up (N m : Nat) : N / 2 ^ m = N / 2 ^ (m + 1) * 2 + N / 2 ^ m % 2 := by
  rw [Nat.pow_add, ← Nat.div_div_eq_div_mul]
  generalize N / 2 ^ m = v
  show v = v / 2 * 2 + v % 2
  omega
theorem sm_two {P : A2} (h : On P) (n : Nat) : sm (n * 2) P = adA (sm n P) (sm n P) := by rw [Nat.mul_two, sm_add h]
theorem run_is : ∀ k, k ≤ 253 → I4 (runN k) (sm (qN / 2 ^ (253 - k)) bA)
  | 0, _ => by
    rw [show sm (qN / 2 ^ (253 - 0)) bA = O2 from by rw [show qN / 2 ^ (253 - 0) = 0 from by decide]; rfl]
    exact ⟨0, 1, 1, rfl, by decide, by decide, by decide, by decide, by decide, on_O⟩
  | k + 1, hk => by
    have ih := run_is k (by omega)
    have e1 : 253 - (k + 1) = 252 - k := by omega
    have e2 : 253 - k = (252 - k) + 1 := by omega
    rw [e2] at ih
    rw [e1, bit_up, sm_add on_bA, sm_two on_bA]
    generalize sm (qN / 2 ^ (252 - k + 1)) bA = A at *
    obtain ⟨x, y, z, hs, hx, hy, h3⟩ := ih
    obtain ⟨x', y', z', hs', hx', hy', h3'⟩ := i_db h3
    show I4 (frc (runN k) fun s => frc (opn s dbN) fun t => if qN / 2 ^ (252 - k) % 2 = 1 then opn t adN else t) _
    rw [frc_eq, frc_eq, hs, opn_cd hx hy, hs']
    have hb : qN / 2 ^ (252 - k) % 2 = 0 ∨ qN / 2 ^ (252 - k) % 2 = 1 := by
      have := Nat.mod_lt (qN / 2 ^ (252 - k)) (by decide : 0 < 2)
      omega
    rcases hb with hb | hb
    · rw [hb, if_neg (by decide)]
      show I4 _ (adA (adA A A) O2)
      rw [ad_zero]
      exact ⟨x', y', z', rfl, hx', hy', h3'⟩
    · rw [hb, if_pos rfl, opn_cd hx' hy', sm_one]
      exact i_ad h3'
theorem run_end : (runN 253 % BB == 0 && runN 253 / BB % BB == runN 253 / BB / BB) = true := by decide +kernel
/-- The base has this order. -/
theorem sm_q : sm qN bA = O2 := by
  obtain ⟨x, y, z, hs, hx, hy, hz, h1, h2, _⟩ := run_is 253 (by omega)
  rw [show 253 - 253 = 0 from rfl, Nat.pow_zero, Nat.div_one] at h1 h2
  have he := run_end
  have a1 : cdN x y z % BB = x := by unfold cdN; rw [Nat.add_mul_mod_self_left, Nat.mod_eq_of_lt hx]
  have a2 : cdN x y z / BB = y + BB * z := by unfold cdN; rw [Nat.add_mul_div_left _ _ (by decide), Nat.div_eq_of_lt hx, Nat.zero_add]
  rw [hs, a1, a2, Nat.add_mul_mod_self_left, Nat.mod_eq_of_lt hy, Nat.add_mul_div_left _ _ (by decide), Nat.div_eq_of_lt hy, Nat.zero_add, Bool.and_eq_true, beq_iff_eq, beq_iff_eq] at he
  obtain ⟨rfl, rfl⟩ := he
  refine Prod.ext ?_ ?_
  · have e : (sm qN bA).1 * fN y = 0 := h1.symm.trans (by decide)
    exact (fp_dom e).resolve_right hz
  · refine canc hz ?_
    rw [← h2]
    exact (Fin.one_mul _).symm
end

end Go.Proofs.YthpbipebpaeagaaDoor
