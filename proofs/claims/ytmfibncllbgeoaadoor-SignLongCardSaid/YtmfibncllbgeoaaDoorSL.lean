/- cur/Ed, cur/Rs, cur/Rb, cur/GrF -/
import Derived.Test.YtmfibncllbgeoaaDoorSK
import Derived.Test.YtmfibncllbgeoaaDoorSH
import Derived.Test.YtmfibncllbgeoaaDoorSA
import Derived.Test.YtmfibncllbgeoaaDoorSF
import Derived.Test.YtmfibncllbgeoaaDoorSG
import Derived.Test.YtmfibncllbgeoaaDoorSI
import Derived.Test.YtmfibncllbgeoaaDoorSC
import Derived.Test.YtmfibncllbgeoaaDoorSE
import Derived.Test.YtmfibncllbgeoaaDoorSJ
namespace Go.Proofs.YtmfibncllbgeoaaDoor
section
section
set_option maxRecDepth 100000
set_option linter.unusedVariables false
open Go.RowKit
theorem z00 : (0 : Fin pp) - 0 = 0 := by decide
theorem as_end {a b q1 q2 q3 : Fin pp} (h : a - b = 0 - (q1 * 0 + q2 * 0 + q3 * 0)) : a = b := by
  have e : a = (a - b) + b := by grind
  rw [e, h]
  simp only [Fin.mul_zero, Fin.add_zero]
  rw [z00, Fin.zero_add]
theorem cl_end {a q1 q2 : Fin pp} (h : a = 0 - (q1 * 0 + q2 * 0)) : a = 0 := by
  rw [h]
  simp only [Fin.mul_zero, Fin.add_zero]
  exact z00
set_option maxHeartbeats 4000000 in
theorem as_x0 (d x1 y1 x2 y2 x3 y3 : Fin pp) : ((x1 * y2 + y1 * x2) * (1 - d * (x1 * x2) * (y1 * y2)) * y3 + (y1 * y2 + x1 * x2) * (1 + d * (x1 * x2) * (y1 * y2)) * x3) * ((1 - d * (x2 * x3) * (y2 * y3)) * (1 + d * (x2 * x3) * (y2 * y3)) + d * ((x2 * y3 + y2 * x3) * x1) * ((y2 * y3 + x2 * x3) * y1)) - ((x2 * y3 + y2 * x3) * (1 - d * (x2 * x3) * (y2 * y3)) * y1 + (y2 * y3 + x2 * x3) * (1 + d * (x2 * x3) * (y2 * y3)) * x1) * ((1 - d * (x1 * x2) * (y1 * y2)) * (1 + d * (x1 * x2) * (y1 * y2)) + d * ((x1 * y2 + y1 * x2) * x3) * ((y1 * y2 + x1 * x2) * y3)) = 0 - ((d * y1 * x2 * y2 * y2 * y2 * y2 * x3 * x3 * y3 + d * y1 * x2 * x2 * y2 * y2 * y2 * x3 + d * y1 * x2 * x2 * y2 * y2 * y2 * x3 * x3 * x3 + d * y1 * x2 * x2 * x2 * y2 * y2 * y3 - d * y1 * x2 * x2 * x2 * y2 * y2 * y3 * y3 * y3 - d * y1 * x2 * x2 * x2 * x2 * y2 * x3 * y3 * y3 - d * x1 * x2 * y2 * y2 * y2 * y2 * x3 * y3 * y3 + d * x1 * x2 * x2 * y2 * y2 * y2 * y3 - d * x1 * x2 * x2 * y2 * y2 * y2 * y3 * y3 * y3 + d * x1 * x2 * x2 * x2 * y2 * y2 * x3 + d * x1 * x2 * x2 * x2 * y2 * y2 * x3 * x3 * x3 + d * x1 * x2 * x2 * x2 * x2 * y2 * x3 * x3 * y3 - d * d * y1 * x2 * x2 * x2 * y2 * y2 * y2 * y2 * x3 * x3 * y3 - d * d * y1 * x2 * x2 * x2 * x2 * y2 * y2 * y2 * x3 * y3 * y3 + d * d * x1 * x2 * x2 * x2 * y2 * y2 * y2 * y2 * x3 * y3 * y3 + d * d * x1 * x2 * x2 * x2 * x2 * y2 * y2 * y2 * x3 * x3 * y3) * (y1 * y1 - x1 * x1 - 1 - d * (x1 * x1) * (y1 * y1)) + (0 - y1 * y2 * x3 + y1 * y2 * x3 * y3 * y3 - y1 * y2 * x3 * x3 * x3 - y1 * x2 * y3 + y1 * x2 * y3 * y3 * y3 - y1 * x2 * x3 * x3 * y3 + y1 * y1 * y1 * y2 * x3 - y1 * y1 * y1 * y2 * x3 * y3 * y3 + y1 * y1 * y1 * y2 * x3 * x3 * x3 + y1 * y1 * y1 * x2 * y3 - y1 * y1 * y1 * x2 * y3 * y3 * y3 + y1 * y1 * y1 * x2 * x3 * x3 * y3 - x1 * y2 * y3 + x1 * y2 * y3 * y3 * y3 - x1 * y2 * x3 * x3 * y3 - x1 * x2 * x3 + x1 * x2 * x3 * y3 * y3 - x1 * x2 * x3 * x3 * x3 + x1 * y1 * y1 * y2 * y3 - x1 * y1 * y1 * y2 * y3 * y3 * y3 + x1 * y1 * y1 * y2 * x3 * x3 * y3 + x1 * y1 * y1 * x2 * x3 - x1 * y1 * y1 * x2 * x3 * y3 * y3 + x1 * y1 * y1 * x2 * x3 * x3 * x3 - x1 * x1 * y1 * y2 * x3 + x1 * x1 * y1 * y2 * x3 * y3 * y3 - x1 * x1 * y1 * y2 * x3 * x3 * x3 - x1 * x1 * y1 * x2 * y3 + x1 * x1 * y1 * x2 * y3 * y3 * y3 - x1 * x1 * y1 * x2 * x3 * x3 * y3 - x1 * x1 * x1 * y2 * y3 + x1 * x1 * x1 * y2 * y3 * y3 * y3 - x1 * x1 * x1 * y2 * x3 * x3 * y3 - x1 * x1 * x1 * x2 * x3 + x1 * x1 * x1 * x2 * x3 * y3 * y3 - x1 * x1 * x1 * x2 * x3 * x3 * x3 - d * y1 * y2 * x3 * x3 * x3 * y3 * y3 - d * y1 * x2 * x3 * x3 * y3 * y3 * y3 + d * y1 * x2 * y2 * y2 * x3 * x3 * y3 + d * y1 * x2 * x2 * y2 * x3 * y3 * y3 + d * y1 * y1 * y1 * y2 * x3 * x3 * x3 * y3 * y3 + d * y1 * y1 * y1 * x2 * x3 * x3 * y3 * y3 * y3 - d * y1 * y1 * y1 * x2 * y2 * y2 * x3 * x3 * y3 - d * y1 * y1 * y1 * x2 * x2 * y2 * x3 * y3 * y3 - d * x1 * y2 * x3 * x3 * y3 * y3 * y3 - d * x1 * x2 * x3 * x3 * x3 * y3 * y3 - d * x1 * x2 * y2 * y2 * x3 * y3 * y3 - d * x1 * x2 * x2 * y2 * x3 * x3 * y3 + d * x1 * y1 * y1 * y2 * x3 * x3 * y3 * y3 * y3 + d * x1 * y1 * y1 * x2 * x3 * x3 * x3 * y3 * y3 + d * x1 * y1 * y1 * x2 * y2 * y2 * x3 * y3 * y3 + d * x1 * y1 * y1 * x2 * x2 * y2 * x3 * x3 * y3 - d * x1 * x1 * y1 * y2 * x3 * x3 * x3 * y3 * y3 - d * x1 * x1 * y1 * x2 * x3 * x3 * y3 * y3 * y3 + d * x1 * x1 * y1 * x2 * y2 * y2 * x3 * x3 * y3 + d * x1 * x1 * y1 * x2 * x2 * y2 * x3 * y3 * y3 - d * x1 * x1 * x1 * y2 * x3 * x3 * y3 * y3 * y3 - d * x1 * x1 * x1 * x2 * x3 * x3 * x3 * y3 * y3 - d * x1 * x1 * x1 * x2 * y2 * y2 * x3 * y3 * y3 - d * x1 * x1 * x1 * x2 * x2 * y2 * x3 * x3 * y3 - d * d * x1 * y1 * y1 * x2 * y2 * y2 * x3 * x3 * x3 * y3 * y3 + d * d * x1 * y1 * y1 * x2 * x2 * y2 * x3 * x3 * y3 * y3 * y3 + d * d * x1 * x1 * y1 * x2 * y2 * y2 * x3 * x3 * y3 * y3 * y3 - d * d * x1 * x1 * y1 * x2 * x2 * y2 * x3 * x3 * x3 * y3 * y3) * (y2 * y2 - x2 * x2 - 1 - d * (x2 * x2) * (y2 * y2)) + (y1 * y2 * x3 - y1 * y2 * y2 * y2 * x3 + y1 * x2 * y3 - y1 * x2 * y2 * y2 * y3 + y1 * x2 * x2 * y2 * x3 + y1 * x2 * x2 * x2 * y3 - y1 * y1 * y1 * y2 * x3 + y1 * y1 * y1 * y2 * y2 * y2 * x3 - y1 * y1 * y1 * x2 * y3 + y1 * y1 * y1 * x2 * y2 * y2 * y3 - y1 * y1 * y1 * x2 * x2 * y2 * x3 - y1 * y1 * y1 * x2 * x2 * x2 * y3 + x1 * y2 * y3 - x1 * y2 * y2 * y2 * y3 + x1 * x2 * x3 - x1 * x2 * y2 * y2 * x3 + x1 * x2 * x2 * y2 * y3 + x1 * x2 * x2 * x2 * x3 - x1 * y1 * y1 * y2 * y3 + x1 * y1 * y1 * y2 * y2 * y2 * y3 - x1 * y1 * y1 * x2 * x3 + x1 * y1 * y1 * x2 * y2 * y2 * x3 - x1 * y1 * y1 * x2 * x2 * y2 * y3 - x1 * y1 * y1 * x2 * x2 * x2 * x3 + x1 * x1 * y1 * y2 * x3 - x1 * x1 * y1 * y2 * y2 * y2 * x3 + x1 * x1 * y1 * x2 * y3 - x1 * x1 * y1 * x2 * y2 * y2 * y3 + x1 * x1 * y1 * x2 * x2 * y2 * x3 + x1 * x1 * y1 * x2 * x2 * x2 * y3 + x1 * x1 * x1 * y2 * y3 - x1 * x1 * x1 * y2 * y2 * y2 * y3 + x1 * x1 * x1 * x2 * x3 - x1 * x1 * x1 * x2 * y2 * y2 * x3 + x1 * x1 * x1 * x2 * x2 * y2 * y3 + x1 * x1 * x1 * x2 * x2 * x2 * x3 + d * x1 * y1 * y1 * x2 * y2 * y2 * x3 - d * x1 * y1 * y1 * x2 * x2 * y2 * y3 - d * x1 * x1 * y1 * x2 * y2 * y2 * y3 + d * x1 * x1 * y1 * x2 * x2 * y2 * x3) * (y3 * y3 - x3 * x3 - 1 - d * (x3 * x3) * (y3 * y3))) := by grind
theorem as_x {d x1 y1 x2 y2 x3 y3 : Fin pp} (h1 : (y1 * y1 - x1 * x1 - 1 - d * (x1 * x1) * (y1 * y1)) = 0) (h2 : (y2 * y2 - x2 * x2 - 1 - d * (x2 * x2) * (y2 * y2)) = 0) (h3 : (y3 * y3 - x3 * x3 - 1 - d * (x3 * x3) * (y3 * y3)) = 0) : ((x1 * y2 + y1 * x2) * (1 - d * (x1 * x2) * (y1 * y2)) * y3 + (y1 * y2 + x1 * x2) * (1 + d * (x1 * x2) * (y1 * y2)) * x3) * ((1 - d * (x2 * x3) * (y2 * y3)) * (1 + d * (x2 * x3) * (y2 * y3)) + d * ((x2 * y3 + y2 * x3) * x1) * ((y2 * y3 + x2 * x3) * y1)) = ((x2 * y3 + y2 * x3) * (1 - d * (x2 * x3) * (y2 * y3)) * y1 + (y2 * y3 + x2 * x3) * (1 + d * (x2 * x3) * (y2 * y3)) * x1) * ((1 - d * (x1 * x2) * (y1 * y2)) * (1 + d * (x1 * x2) * (y1 * y2)) + d * ((x1 * y2 + y1 * x2) * x3) * ((y1 * y2 + x1 * x2) * y3)) := by
  have k := as_x0 d x1 y1 x2 y2 x3 y3
  rw [h1, h2, h3] at k
  exact as_end k
set_option maxHeartbeats 4000000 in
theorem as_y0 (d x1 y1 x2 y2 x3 y3 : Fin pp) : ((y1 * y2 + x1 * x2) * (1 + d * (x1 * x2) * (y1 * y2)) * y3 + (x1 * y2 + y1 * x2) * (1 - d * (x1 * x2) * (y1 * y2)) * x3) * ((1 - d * (x2 * x3) * (y2 * y3)) * (1 + d * (x2 * x3) * (y2 * y3)) - d * ((x2 * y3 + y2 * x3) * x1) * ((y2 * y3 + x2 * x3) * y1)) - ((y2 * y3 + x2 * x3) * (1 + d * (x2 * x3) * (y2 * y3)) * y1 + (x2 * y3 + y2 * x3) * (1 - d * (x2 * x3) * (y2 * y3)) * x1) * ((1 - d * (x1 * x2) * (y1 * y2)) * (1 + d * (x1 * x2) * (y1 * y2)) - d * ((x1 * y2 + y1 * x2) * x3) * ((y1 * y2 + x1 * x2) * y3)) = 0 - ((0 - d * y1 * x2 * y2 * y2 * y2 * y2 * x3 * y3 * y3 + d * y1 * x2 * x2 * y2 * y2 * y2 * y3 - d * y1 * x2 * x2 * y2 * y2 * y2 * y3 * y3 * y3 + d * y1 * x2 * x2 * x2 * y2 * y2 * x3 + d * y1 * x2 * x2 * x2 * y2 * y2 * x3 * x3 * x3 + d * y1 * x2 * x2 * x2 * x2 * y2 * x3 * x3 * y3 + d * x1 * x2 * y2 * y2 * y2 * y2 * x3 * x3 * y3 + d * x1 * x2 * x2 * y2 * y2 * y2 * x3 + d * x1 * x2 * x2 * y2 * y2 * y2 * x3 * x3 * x3 + d * x1 * x2 * x2 * x2 * y2 * y2 * y3 - d * x1 * x2 * x2 * x2 * y2 * y2 * y3 * y3 * y3 - d * x1 * x2 * x2 * x2 * x2 * y2 * x3 * y3 * y3 + d * d * y1 * x2 * x2 * x2 * y2 * y2 * y2 * y2 * x3 * y3 * y3 + d * d * y1 * x2 * x2 * x2 * x2 * y2 * y2 * y2 * x3 * x3 * y3 - d * d * x1 * x2 * x2 * x2 * y2 * y2 * y2 * y2 * x3 * x3 * y3 - d * d * x1 * x2 * x2 * x2 * x2 * y2 * y2 * y2 * x3 * y3 * y3) * (y1 * y1 - x1 * x1 - 1 - d * (x1 * x1) * (y1 * y1)) + (0 - y1 * y2 * y3 + y1 * y2 * y3 * y3 * y3 - y1 * y2 * x3 * x3 * y3 - y1 * x2 * x3 + y1 * x2 * x3 * y3 * y3 - y1 * x2 * x3 * x3 * x3 + y1 * y1 * y1 * y2 * y3 - y1 * y1 * y1 * y2 * y3 * y3 * y3 + y1 * y1 * y1 * y2 * x3 * x3 * y3 + y1 * y1 * y1 * x2 * x3 - y1 * y1 * y1 * x2 * x3 * y3 * y3 + y1 * y1 * y1 * x2 * x3 * x3 * x3 - x1 * y2 * x3 + x1 * y2 * x3 * y3 * y3 - x1 * y2 * x3 * x3 * x3 - x1 * x2 * y3 + x1 * x2 * y3 * y3 * y3 - x1 * x2 * x3 * x3 * y3 + x1 * y1 * y1 * y2 * x3 - x1 * y1 * y1 * y2 * x3 * y3 * y3 + x1 * y1 * y1 * y2 * x3 * x3 * x3 + x1 * y1 * y1 * x2 * y3 - x1 * y1 * y1 * x2 * y3 * y3 * y3 + x1 * y1 * y1 * x2 * x3 * x3 * y3 - x1 * x1 * y1 * y2 * y3 + x1 * x1 * y1 * y2 * y3 * y3 * y3 - x1 * x1 * y1 * y2 * x3 * x3 * y3 - x1 * x1 * y1 * x2 * x3 + x1 * x1 * y1 * x2 * x3 * y3 * y3 - x1 * x1 * y1 * x2 * x3 * x3 * x3 - x1 * x1 * x1 * y2 * x3 + x1 * x1 * x1 * y2 * x3 * y3 * y3 - x1 * x1 * x1 * y2 * x3 * x3 * x3 - x1 * x1 * x1 * x2 * y3 + x1 * x1 * x1 * x2 * y3 * y3 * y3 - x1 * x1 * x1 * x2 * x3 * x3 * y3 - d * y1 * y2 * x3 * x3 * y3 * y3 * y3 - d * y1 * x2 * x3 * x3 * x3 * y3 * y3 - d * y1 * x2 * y2 * y2 * x3 * y3 * y3 - d * y1 * x2 * x2 * y2 * x3 * x3 * y3 + d * y1 * y1 * y1 * y2 * x3 * x3 * y3 * y3 * y3 + d * y1 * y1 * y1 * x2 * x3 * x3 * x3 * y3 * y3 + d * y1 * y1 * y1 * x2 * y2 * y2 * x3 * y3 * y3 + d * y1 * y1 * y1 * x2 * x2 * y2 * x3 * x3 * y3 - d * x1 * y2 * x3 * x3 * x3 * y3 * y3 - d * x1 * x2 * x3 * x3 * y3 * y3 * y3 + d * x1 * x2 * y2 * y2 * x3 * x3 * y3 + d * x1 * x2 * x2 * y2 * x3 * y3 * y3 + d * x1 * y1 * y1 * y2 * x3 * x3 * x3 * y3 * y3 + d * x1 * y1 * y1 * x2 * x3 * x3 * y3 * y3 * y3 - d * x1 * y1 * y1 * x2 * y2 * y2 * x3 * x3 * y3 - d * x1 * y1 * y1 * x2 * x2 * y2 * x3 * y3 * y3 - d * x1 * x1 * y1 * y2 * x3 * x3 * y3 * y3 * y3 - d * x1 * x1 * y1 * x2 * x3 * x3 * x3 * y3 * y3 - d * x1 * x1 * y1 * x2 * y2 * y2 * x3 * y3 * y3 - d * x1 * x1 * y1 * x2 * x2 * y2 * x3 * x3 * y3 - d * x1 * x1 * x1 * y2 * x3 * x3 * x3 * y3 * y3 - d * x1 * x1 * x1 * x2 * x3 * x3 * y3 * y3 * y3 + d * x1 * x1 * x1 * x2 * y2 * y2 * x3 * x3 * y3 + d * x1 * x1 * x1 * x2 * x2 * y2 * x3 * y3 * y3 - d * d * x1 * y1 * y1 * x2 * y2 * y2 * x3 * x3 * y3 * y3 * y3 + d * d * x1 * y1 * y1 * x2 * x2 * y2 * x3 * x3 * x3 * y3 * y3 + d * d * x1 * x1 * y1 * x2 * y2 * y2 * x3 * x3 * x3 * y3 * y3 - d * d * x1 * x1 * y1 * x2 * x2 * y2 * x3 * x3 * y3 * y3 * y3) * (y2 * y2 - x2 * x2 - 1 - d * (x2 * x2) * (y2 * y2)) + (y1 * y2 * y3 - y1 * y2 * y2 * y2 * y3 + y1 * x2 * x3 - y1 * x2 * y2 * y2 * x3 + y1 * x2 * x2 * y2 * y3 + y1 * x2 * x2 * x2 * x3 - y1 * y1 * y1 * y2 * y3 + y1 * y1 * y1 * y2 * y2 * y2 * y3 - y1 * y1 * y1 * x2 * x3 + y1 * y1 * y1 * x2 * y2 * y2 * x3 - y1 * y1 * y1 * x2 * x2 * y2 * y3 - y1 * y1 * y1 * x2 * x2 * x2 * x3 + x1 * y2 * x3 - x1 * y2 * y2 * y2 * x3 + x1 * x2 * y3 - x1 * x2 * y2 * y2 * y3 + x1 * x2 * x2 * y2 * x3 + x1 * x2 * x2 * x2 * y3 - x1 * y1 * y1 * y2 * x3 + x1 * y1 * y1 * y2 * y2 * y2 * x3 - x1 * y1 * y1 * x2 * y3 + x1 * y1 * y1 * x2 * y2 * y2 * y3 - x1 * y1 * y1 * x2 * x2 * y2 * x3 - x1 * y1 * y1 * x2 * x2 * x2 * y3 + x1 * x1 * y1 * y2 * y3 - x1 * x1 * y1 * y2 * y2 * y2 * y3 + x1 * x1 * y1 * x2 * x3 - x1 * x1 * y1 * x2 * y2 * y2 * x3 + x1 * x1 * y1 * x2 * x2 * y2 * y3 + x1 * x1 * y1 * x2 * x2 * x2 * x3 + x1 * x1 * x1 * y2 * x3 - x1 * x1 * x1 * y2 * y2 * y2 * x3 + x1 * x1 * x1 * x2 * y3 - x1 * x1 * x1 * x2 * y2 * y2 * y3 + x1 * x1 * x1 * x2 * x2 * y2 * x3 + x1 * x1 * x1 * x2 * x2 * x2 * y3 + d * x1 * y1 * y1 * x2 * y2 * y2 * y3 - d * x1 * y1 * y1 * x2 * x2 * y2 * x3 - d * x1 * x1 * y1 * x2 * y2 * y2 * x3 + d * x1 * x1 * y1 * x2 * x2 * y2 * y3) * (y3 * y3 - x3 * x3 - 1 - d * (x3 * x3) * (y3 * y3))) := by grind
theorem as_y {d x1 y1 x2 y2 x3 y3 : Fin pp} (h1 : (y1 * y1 - x1 * x1 - 1 - d * (x1 * x1) * (y1 * y1)) = 0) (h2 : (y2 * y2 - x2 * x2 - 1 - d * (x2 * x2) * (y2 * y2)) = 0) (h3 : (y3 * y3 - x3 * x3 - 1 - d * (x3 * x3) * (y3 * y3)) = 0) : ((y1 * y2 + x1 * x2) * (1 + d * (x1 * x2) * (y1 * y2)) * y3 + (x1 * y2 + y1 * x2) * (1 - d * (x1 * x2) * (y1 * y2)) * x3) * ((1 - d * (x2 * x3) * (y2 * y3)) * (1 + d * (x2 * x3) * (y2 * y3)) - d * ((x2 * y3 + y2 * x3) * x1) * ((y2 * y3 + x2 * x3) * y1)) = ((y2 * y3 + x2 * x3) * (1 + d * (x2 * x3) * (y2 * y3)) * y1 + (x2 * y3 + y2 * x3) * (1 - d * (x2 * x3) * (y2 * y3)) * x1) * ((1 - d * (x1 * x2) * (y1 * y2)) * (1 + d * (x1 * x2) * (y1 * y2)) - d * ((x1 * y2 + y1 * x2) * x3) * ((y1 * y2 + x1 * x2) * y3)) := by
  have k := as_y0 d x1 y1 x2 y2 x3 y3
  rw [h1, h2, h3] at k
  exact as_end k
set_option maxHeartbeats 4000000 in
theorem cl_0 (d x1 y1 x2 y2 : Fin pp) : ((y1 * y2 + x1 * x2) * (1 + d * (x1 * x2) * (y1 * y2))) * ((y1 * y2 + x1 * x2) * (1 + d * (x1 * x2) * (y1 * y2))) - ((x1 * y2 + y1 * x2) * (1 - d * (x1 * x2) * (y1 * y2))) * ((x1 * y2 + y1 * x2) * (1 - d * (x1 * x2) * (y1 * y2))) - (((1 - d * (x1 * x2) * (y1 * y2)) * (1 + d * (x1 * x2) * (y1 * y2))) * ((1 - d * (x1 * x2) * (y1 * y2)) * (1 + d * (x1 * x2) * (y1 * y2))) + d * ((x1 * y2 + y1 * x2) * (x1 * y2 + y1 * x2)) * ((y1 * y2 + x1 * x2) * (y1 * y2 + x1 * x2))) = 0 - ((0 - y2 * y2 * y2 * y2 + x2 * x2 * y2 * y2 + x2 * x2 * y2 * y2 + x2 * x2 * y2 * y2 + x2 * x2 * y2 * y2 - x2 * x2 * y2 * y2 * y2 * y2 - x2 * x2 * y2 * y2 * y2 * y2 - x2 * x2 * x2 * x2 + x2 * x2 * x2 * x2 * y2 * y2 + x2 * x2 * x2 * x2 * y2 * y2 + d * x2 * x2 * y2 * y2 + d * x2 * x2 * y2 * y2 + d * x2 * x2 * x2 * x2 * y2 * y2 * y2 * y2 + d * x2 * x2 * x2 * x2 * y2 * y2 * y2 * y2 + d * y1 * y1 * x2 * x2 * y2 * y2 * y2 * y2 - d * y1 * y1 * x2 * x2 * x2 * x2 * y2 * y2 - d * x1 * x1 * x2 * x2 * y2 * y2 * y2 * y2 + d * x1 * x1 * x2 * x2 * x2 * x2 * y2 * y2 + d * d * x2 * x2 * x2 * x2 * y2 * y2 * y2 * y2 - d * d * y1 * y1 * x2 * x2 * x2 * x2 * y2 * y2 * y2 * y2 + d * d * x1 * x1 * x2 * x2 * x2 * x2 * y2 * y2 * y2 * y2 - d * d * d * x1 * x1 * y1 * y1 * x2 * x2 * x2 * x2 * y2 * y2 * y2 * y2) * (y1 * y1 - x1 * x1 - 1 - d * (x1 * x1) * (y1 * y1)) + (0 - y2 * y2 + x2 * x2 - x2 * x2 * y2 * y2 - x2 * x2 * y2 * y2 + y1 * y1 * y2 * y2 - y1 * y1 * x2 * x2 + y1 * y1 * x2 * x2 * y2 * y2 + y1 * y1 * x2 * x2 * y2 * y2 - x1 * x1 * y2 * y2 + x1 * x1 * x2 * x2 - x1 * x1 * x2 * x2 * y2 * y2 - x1 * x1 * x2 * x2 * y2 * y2 - d * x2 * x2 * y2 * y2 + d * y1 * y1 * x2 * x2 * y2 * y2 + d * y1 * y1 * x2 * x2 * y2 * y2 - d * y1 * y1 * y1 * y1 * x2 * x2 * y2 * y2 - d * x1 * x1 * x2 * x2 * y2 * y2 - d * x1 * x1 * x2 * x2 * y2 * y2 - d * x1 * x1 * x1 * x1 * x2 * x2 * y2 * y2 - 1) * (y2 * y2 - x2 * x2 - 1 - d * (x2 * x2) * (y2 * y2))) := by grind
theorem cl {d x1 y1 x2 y2 : Fin pp} (h1 : (y1 * y1 - x1 * x1 - 1 - d * (x1 * x1) * (y1 * y1)) = 0) (h2 : (y2 * y2 - x2 * x2 - 1 - d * (x2 * x2) * (y2 * y2)) = 0) : ((y1 * y2 + x1 * x2) * (1 + d * (x1 * x2) * (y1 * y2))) * ((y1 * y2 + x1 * x2) * (1 + d * (x1 * x2) * (y1 * y2))) - ((x1 * y2 + y1 * x2) * (1 - d * (x1 * x2) * (y1 * y2))) * ((x1 * y2 + y1 * x2) * (1 - d * (x1 * x2) * (y1 * y2))) - (((1 - d * (x1 * x2) * (y1 * y2)) * (1 + d * (x1 * x2) * (y1 * y2))) * ((1 - d * (x1 * x2) * (y1 * y2)) * (1 + d * (x1 * x2) * (y1 * y2))) + d * ((x1 * y2 + y1 * x2) * (x1 * y2 + y1 * x2)) * ((y1 * y2 + x1 * x2) * (y1 * y2 + x1 * x2))) = 0 := by
  have k := cl_0 d x1 y1 x2 y2
  rw [h1, h2] at k
  exact cl_end k
theorem canc {a b z : Fin pp} (hz : z ≠ 0) (h : a * z = b * z) : a = b := by
  have e : (a - b) * z = 0 := by grind
  rcases fp_dom e with e | e
  · grind
  · exact absurd e hz
/-- The inverse. -/
def fi (a : Fin pp) : Fin pp := ⟨a.val ^ (pp - 2) % pp, Nat.mod_lt _ (by decide)⟩
theorem fi_mul {a : Fin pp} (h : a ≠ 0) : fi a * a = 1 := by
  have hv : a.val % pp ≠ 0 := fun e => h (Fin.ext (by rw [Nat.mod_eq_of_lt a.isLt] at e; rw [e]; rfl))
  apply Fin.ext
  rw [Fin.val_mul]
  show a.val ^ (pp - 2) % pp * a.val % pp = 1 % pp
  rw [Nat.mul_comm, Nat.mul_mod_mod, inv_mul pp_prime hv]
  rfl
def dF : Fin pp := fp dL
/-- No square times d is a square, but 0. -/
theorem d_pow : dN ^ ((pp - 1) / 2) % pp = pp - 1 := by
  rw [← pm_eq pp 255 dN ((pp - 1) / 2) (by decide)]
  decide +kernel
theorem d_ns {s r : Fin pp} (hs : s ≠ 0) : dF * (s * s) ≠ r * r := by
  intro h
  have hv : s.val % pp ≠ 0 := fun e => hs (Fin.ext (by rw [Nat.mod_eq_of_lt s.isLt] at e; rw [e]; rfl))
  have h1 : dN * (s.val * s.val) % pp = r.val * r.val % pp := by
    have := congrArg Fin.val h
    unfold dF at this
    rw [d_f, Fin.val_mul, Fin.val_mul, Fin.val_mul] at this
    rw [← this]
    show _ = dN * (s.val * s.val % pp) % pp
    rw [Nat.mul_mod_mod]
  have h2 := mp (P := pp) ((pp - 1) / 2) h1
  have hh : (pp - 1) / 2 + (pp - 1) / 2 = pp - 1 := by decide
  have sq : ∀ v : Nat, (v * v) ^ ((pp - 1) / 2) = v ^ (pp - 1) := fun v => by rw [Nat.mul_pow, ← Nat.pow_add, hh]
  rw [Nat.mul_pow, sq, sq, Nat.mul_mod, d_pow, pp_prime.fermat hv] at h2
  by_cases hr : r.val % pp = 0
  · have : r.val = 0 := by rw [Nat.mod_eq_of_lt r.isLt] at hr; exact hr
    rw [this, Nat.zero_pow (by decide)] at h2
    exact absurd h2 (by decide)
  · rw [pp_prime.fermat hr] at h2
    exact absurd h2 (by decide)
def jF : Fin pp := fp rtL
theorem j_sq : jF * jF + 1 = 0 := Fin.ext (by
  rw [Fin.val_add, Fin.val_mul]
  show (nu rtL * nu rtL % pp + 1 % pp) % pp = 0
  rw [← Nat.add_mod]
  exact jj)
abbrev A2 := Fin pp × Fin pp
def On (P : A2) : Prop := P.2 * P.2 - P.1 * P.1 - 1 - dF * (P.1 * P.1) * (P.2 * P.2) = 0
def tt (P Q : A2) : Fin pp := dF * (P.1 * Q.1) * (P.2 * Q.2)
def adA (P Q : A2) : A2 := ((P.1 * Q.2 + P.2 * Q.1) * fi (1 + tt P Q), (P.2 * Q.2 + P.1 * Q.1) * fi (1 - tt P Q))
theorem cp1 {j t d x1 y1 x2 y2 : Fin pp} (hj : j * j + 1 = 0) (h1 : (y1 * y1 - x1 * x1 - 1 - d * (x1 * x1) * (y1 * y1)) = 0) (h2 : (y2 * y2 - x2 * x2 - 1 - d * (x2 * x2) * (y2 * y2)) = 0) (ht : t = d * (x1 * x2) * (y1 * y2)) (h : t * t = 1) : d * ((x1 * y1 * (j * x2 + y2)) * (x1 * y1 * (j * x2 + y2))) = (j * x1 + t * y1) * (j * x1 + t * y1) := by grind
theorem cp2 {j t d x1 y1 x2 y2 : Fin pp} (hj : j * j + 1 = 0) (h1 : (y1 * y1 - x1 * x1 - 1 - d * (x1 * x1) * (y1 * y1)) = 0) (h2 : (y2 * y2 - x2 * x2 - 1 - d * (x2 * x2) * (y2 * y2)) = 0) (ht : t = d * (x1 * x2) * (y1 * y2)) (h : t * t = 1) : d * ((x1 * y1 * (j * x2 - y2)) * (x1 * y1 * (j * x2 - y2))) = (j * x1 - t * y1) * (j * x1 - t * y1) := by grind
theorem tt_sq {P Q : A2} (hP : On P) (hQ : On Q) : tt P Q * tt P Q ≠ 1 := by
  intro h
  have t0 : tt P Q ≠ 0 := fun e => by rw [e] at h; exact absurd h (by decide)
  have a1 := cp1 j_sq hP hQ rfl h
  have a2 := cp2 j_sq hP hQ rfl h
  by_cases b1 : P.1 * P.2 * (jF * Q.1 + Q.2) = 0
  · by_cases b2 : P.1 * P.2 * (jF * Q.1 - Q.2) = 0
    · by_cases b3 : P.1 * P.2 = 0
      · exact t0 (by unfold tt; grind)
      · have c1 : jF * Q.1 + Q.2 = 0 := (fp_dom b1).resolve_left b3
        have c2 : jF * Q.1 - Q.2 = 0 := (fp_dom b2).resolve_left b3
        have c3 : 2 * Q.2 = 0 := by grind
        have c4 : Q.2 = 0 := (fp_dom c3).resolve_left two_ne
        exact t0 (by unfold tt; rw [c4]; grind)
    · exact d_ns b2 a2
  · exact d_ns b1 a1
theorem cplus {P Q : A2} (hP : On P) (hQ : On Q) : 1 + tt P Q ≠ 0 := fun e => tt_sq hP hQ (by grind)
theorem cminus {P Q : A2} (hP : On P) (hQ : On Q) : 1 - tt P Q ≠ 0 := fun e => tt_sq hP hQ (by grind)
theorem ad_1 {P Q : A2} (hP : On P) (hQ : On Q) : (adA P Q).1 * (1 + tt P Q) = P.1 * Q.2 + P.2 * Q.1 := by
  have := fi_mul (cplus hP hQ)
  show _ * fi (1 + tt P Q) * (1 + tt P Q) = _
  grind
theorem ad_2 {P Q : A2} (hP : On P) (hQ : On Q) : (adA P Q).2 * (1 - tt P Q) = P.2 * Q.2 + P.1 * Q.1 := by
  have := fi_mul (cminus hP hQ)
  show _ * fi (1 - tt P Q) * (1 - tt P Q) = _
  grind
theorem on_lem {d X Y a b u v : Fin pp} (hx : X * u = a) (hy : Y * v = b) (h : (b * u) * (b * u) - (a * v) * (a * v) - ((v * u) * (v * u) + d * (a * a) * (b * b)) = 0) : (Y * Y - X * X - 1 - d * (X * X) * (Y * Y)) * ((u * v) * (u * v)) = 0 := by
  subst hx hy
  grind
theorem on_ad {P Q : A2} (hP : On P) (hQ : On Q) : On (adA P Q) := by
  have h := on_lem (d := dF) (ad_1 hP hQ) (ad_2 hP hQ) (cl hP hQ)
  have n := mul_ne (cplus hP hQ) (cminus hP hQ)
  exact (fp_dom h).resolve_right (mul_ne n n)
theorem ad_comm (P Q : A2) : adA P Q = adA Q P := by
  have e : tt P Q = tt Q P := by unfold tt; grind
  unfold adA
  rw [e]
  congr 1 <;> congr 1 <;> grind
theorem tx_lem {d X Y a b t x y T : Fin pp} (hx : X * (1 + t) = a) (hy : Y * (1 - t) = b) (h : T * (1 + d * (X * x) * (Y * y)) = X * y + Y * x) : T * ((1 - t) * (1 + t) + d * (a * x) * (b * y)) = a * (1 - t) * y + b * (1 + t) * x := by
  subst hx hy
  grind
theorem ty_lem {d X Y a b t x y T : Fin pp} (hx : X * (1 + t) = a) (hy : Y * (1 - t) = b) (h : T * (1 - d * (X * x) * (Y * y)) = Y * y + X * x) : T * ((1 - t) * (1 + t) - d * (a * x) * (b * y)) = b * (1 + t) * y + a * (1 - t) * x := by
  subst hx hy
  grind
theorem dx_lem {d X Y a b t x y : Fin pp} (hx : X * (1 + t) = a) (hy : Y * (1 - t) = b) : (1 - t) * (1 + t) + d * (a * x) * (b * y) = (1 + d * (X * x) * (Y * y)) * ((1 - t) * (1 + t)) := by
  subst hx hy
  grind
theorem dy_lem {d X Y a b t x y : Fin pp} (hx : X * (1 + t) = a) (hy : Y * (1 - t) = b) : (1 - t) * (1 + t) - d * (a * x) * (b * y) = (1 - d * (X * x) * (Y * y)) * ((1 - t) * (1 + t)) := by
  subst hx hy
  grind
theorem fin_lem {T T' D1 D2 N1 N2 : Fin pp} (h1 : T * D1 = N1) (h2 : T' * D2 = N2) (h : N1 * D2 = N2 * D1) (n1 : D1 ≠ 0) (n2 : D2 ≠ 0) : T = T' := by
  refine canc (mul_ne n1 n2) ?_
  subst h1 h2
  grind
theorem dx_ne {d X Y a b t x y : Fin pp} (hx : X * (1 + t) = a) (hy : Y * (1 - t) = b) (n : 1 + d * (X * x) * (Y * y) ≠ 0) (m : 1 - t ≠ 0) (m' : 1 + t ≠ 0) : (1 - t) * (1 + t) + d * (a * x) * (b * y) ≠ 0 := by
  rw [dx_lem hx hy]
  exact mul_ne n (mul_ne m m')
theorem dy_ne {d X Y a b t x y : Fin pp} (hx : X * (1 + t) = a) (hy : Y * (1 - t) = b) (n : 1 - d * (X * x) * (Y * y) ≠ 0) (m : 1 - t ≠ 0) (m' : 1 + t ≠ 0) : (1 - t) * (1 + t) - d * (a * x) * (b * y) ≠ 0 := by
  rw [dy_lem hx hy]
  exact mul_ne n (mul_ne m m')
theorem ad_assoc {P Q R : A2} (hP : On P) (hQ : On Q) (hR : On R) : adA (adA P Q) R = adA P (adA Q R) := by
  rw [ad_comm P (adA Q R)]
  have s1 := on_ad hP hQ
  have s2 := on_ad hQ hR
  have a1 := ad_1 hP hQ
  have a2 := ad_2 hP hQ
  have b1 := ad_1 hQ hR
  have b2 := ad_2 hQ hR
  refine Prod.ext ?_ ?_
  · exact fin_lem (tx_lem a1 a2 (ad_1 s1 hR)) (tx_lem b1 b2 (ad_1 s2 hP)) (as_x hP hQ hR) (dx_ne a1 a2 (cplus s1 hR) (cminus hP hQ) (cplus hP hQ)) (dx_ne b1 b2 (cplus s2 hP) (cminus hQ hR) (cplus hQ hR))
  · exact fin_lem (ty_lem a1 a2 (ad_2 s1 hR)) (ty_lem b1 b2 (ad_2 s2 hP)) (as_y hP hQ hR) (dy_ne a1 a2 (cminus s1 hR) (cminus hP hQ) (cplus hP hQ)) (dy_ne b1 b2 (cminus s2 hP) (cminus hQ hR) (cplus hQ hR))
end
section
set_option maxRecDepth 100000
set_option linter.unusedVariables false
open Go.RowKit
/-- What a point of the program stands for. -/
structure Is (p : Pm) (P : A2) : Prop where
  z : fp p.z ≠ 0
  x : fp p.x = P.1 * fp p.z
  y : fp p.y = P.2 * fp p.z
  t : fp p.t = P.1 * P.2 * fp p.z
  on : On P
theorem ia1 {d x1 y1 z1 x2 y2 z2 S : Fin pp} (hs : S * (1 + d * (x1 * x2) * (y1 * y2)) = x1 * y2 + y1 * x2) : (y1 * z1 + x1 * z1) * (y2 * z2 + x2 * z2) - (y1 * z1 - x1 * z1) * (y2 * z2 - x2 * z2) = S * (z1 * z2 + z1 * z2 + (x1 * y1 * z1 * (x2 * y2 * z2) * d + x1 * y1 * z1 * (x2 * y2 * z2) * d)) := by grind
theorem ia2 {d x1 y1 z1 x2 y2 z2 S : Fin pp} (hs : S * (1 - d * (x1 * x2) * (y1 * y2)) = y1 * y2 + x1 * x2) : (y1 * z1 + x1 * z1) * (y2 * z2 + x2 * z2) + (y1 * z1 - x1 * z1) * (y2 * z2 - x2 * z2) = S * (z1 * z2 + z1 * z2 - (x1 * y1 * z1 * (x2 * y2 * z2) * d + x1 * y1 * z1 * (x2 * y2 * z2) * d)) := by grind
theorem ia3 (d x1 y1 z1 x2 y2 z2 : Fin pp) : z1 * z2 + z1 * z2 + (x1 * y1 * z1 * (x2 * y2 * z2) * d + x1 * y1 * z1 * (x2 * y2 * z2) * d) = (2 * (z1 * z2)) * (1 + d * (x1 * x2) * (y1 * y2)) := by grind
theorem ia4 (d x1 y1 z1 x2 y2 z2 : Fin pp) : z1 * z2 + z1 * z2 - (x1 * y1 * z1 * (x2 * y2 * z2) * d + x1 * y1 * z1 * (x2 * y2 * z2) * d) = (2 * (z1 * z2)) * (1 - d * (x1 * x2) * (y1 * y2)) := by grind
theorem ie1 (S f g : Fin pp) : S * f * g = S * (f * g) := by grind
theorem ie2 (S f g : Fin pp) : S * g * f = S * (f * g) := by grind
theorem ie3 (S T f g : Fin pp) : S * f * (T * g) = S * T * (f * g) := by grind
theorem is_ad {p q : Pm} {P Q : A2} (hp : p.ok) (hq : q.ok) (h : Is p P) (k : Is q Q) : Is (adP p q) (adA P Q) := by
  have e1 : fp (plA p q) - fp (miA p q) = (adA P Q).1 * (fp (onA p q) + fp (moA p q)) := by
    rw [pl_f, mi_f hp hq, on_f, mo_f, h.x, h.y, h.t, k.x, k.y, k.t]
    exact ia1 (ad_1 h.on k.on)
  have e2 : fp (plA p q) + fp (miA p q) = (adA P Q).2 * (fp (onA p q) - fp (moA p q)) := by
    rw [pl_f, mi_f hp hq, on_f, mo_f, h.x, h.y, h.t, k.x, k.y, k.t]
    exact ia2 (ad_2 h.on k.on)
  have e3 : fp (onA p q) + fp (moA p q) ≠ 0 := by
    rw [on_f, mo_f, h.t, k.t]
    exact fun e => mul_ne (mul_ne two_ne (mul_ne h.z k.z)) (cplus h.on k.on) ((ia3 _ _ _ _ _ _ _).symm.trans e)
  have e4 : fp (onA p q) - fp (moA p q) ≠ 0 := by
    rw [on_f, mo_f, h.t, k.t]
    exact fun e => mul_ne (mul_ne two_ne (mul_ne h.z k.z)) (cminus h.on k.on) ((ia4 _ _ _ _ _ _ _).symm.trans e)
  refine ⟨?_, ?_, ?_, ?_, on_ad h.on k.on⟩
  · rw [ad_z hp hq]
    exact mul_ne e3 e4
  · rw [ad_x hp hq, ad_z hp hq, e1]
    exact ie1 _ _ _
  · rw [ad_y hp hq, ad_z hp hq, e2]
    exact ie2 _ _ _
  · rw [ad_t hp hq, ad_z hp hq, e1, e2]
    exact ie3 _ _ _ _
theorem id0 {d x y z : Fin pp} (ho : y * y - x * x - 1 - d * (x * x) * (y * y) = 0) : y * z * (y * z) - x * z * (x * z) = (z * z) * (1 + d * (x * x) * (y * y)) := by grind
theorem id1 {d x y z S : Fin pp} (hs : S * (1 + d * (x * x) * (y * y)) = x * y + y * x) (ho : y * y - x * x - 1 - d * (x * x) * (y * y) = 0) : x * z * (y * z) + x * z * (y * z) = S * (y * z * (y * z) - x * z * (x * z)) := by
  rw [id0 ho]
  grind
theorem id4 {d x y z : Fin pp} (ho : y * y - x * x - 1 - d * (x * x) * (y * y) = 0) : z * z + z * z - (y * z * (y * z) - x * z * (x * z)) = (z * z) * (1 - d * (x * x) * (y * y)) := by
  rw [id0 ho]
  grind
theorem id2 {d x y z S : Fin pp} (hs : S * (1 - d * (x * x) * (y * y)) = y * y + x * x) (ho : y * y - x * x - 1 - d * (x * x) * (y * y) = 0) : y * z * (y * z) + x * z * (x * z) = S * (z * z + z * z - (y * z * (y * z) - x * z * (x * z))) := by
  rw [id4 ho]
  grind
theorem is_do {p : Pm} {P : A2} (hp : p.ok) (h : Is p P) : Is (doP p) (adA P P) := by
  have e1 : fp p.x * fp p.y + fp p.x * fp p.y = (adA P P).1 * fp (unD p) := by
    rw [un_f hp, h.x, h.y]
    exact id1 (ad_1 h.on h.on) h.on
  have e2 : fp p.y * fp p.y + fp p.x * fp p.x = (adA P P).2 * (fp p.z * fp p.z + fp p.z * fp p.z - fp (unD p)) := by
    rw [un_f hp, h.x, h.y]
    exact id2 (ad_2 h.on h.on) h.on
  have e3 : fp (unD p) ≠ 0 := by
    rw [un_f hp, h.x, h.y, id0 h.on]
    exact mul_ne (mul_ne h.z h.z) (cplus h.on h.on)
  have e4 : fp p.z * fp p.z + fp p.z * fp p.z - fp (unD p) ≠ 0 := by
    rw [un_f hp, h.x, h.y, id4 h.on]
    exact mul_ne (mul_ne h.z h.z) (cminus h.on h.on)
  refine ⟨?_, ?_, ?_, ?_, on_ad h.on h.on⟩
  · rw [do_z hp]
    exact mul_ne e3 e4
  · rw [do_x hp, do_z hp, e1]
    exact ie1 _ _ _
  · rw [do_y hp, do_z hp, e2]
    exact ie2 _ _ _
  · rw [do_t hp, do_z hp, e1, e2]
    exact ie3 _ _ _ _
def O2 : A2 := (0, 1)
theorem on_O : On O2 := by
  unfold On O2 dF
  rw [d_f]
  decide
theorem is_ze : Is ze1 O2 := ⟨by rw [ze_z]; decide, by rw [ze_x]; exact (Fin.zero_mul _).symm, by rw [ze_y, ze_z]; decide, by rw [ze_t]; unfold O2; grind, on_O⟩
theorem is_at {x y : Lm} (h : On (fp x, fp y)) : Is (atP x y) (fp x, fp y) := by
  have hz : fp (atP x y).z = 1 := fp_1
  refine ⟨by rw [hz]; decide, by rw [hz]; exact (Fin.mul_one _).symm, by rw [hz]; exact (Fin.mul_one _).symm, ?_, h⟩
  rw [hz]
  exact (fp_mul x y).trans (Fin.mul_one _).symm
def ngA (P : A2) : A2 := (-P.1, P.2)
theorem on_ng {P : A2} (h : On P) : On (ngA P) := by
  have h' : P.2 * P.2 - P.1 * P.1 - 1 - dF * (P.1 * P.1) * (P.2 * P.2) = 0 := h
  show P.2 * P.2 - -P.1 * -P.1 - 1 - dF * (-P.1 * -P.1) * (P.2 * P.2) = 0
  grind
theorem in1 (x z : Fin pp) : -(x * z) = -x * z := by grind
theorem in2 (x y z : Fin pp) : -(x * y * z) = -x * y * z := by grind
theorem is_ng {p : Pm} {P : A2} (hp : p.ok) (h : Is p P) : Is (ngP p) (ngA P) := by
  refine ⟨h.z, ?_, h.y, ?_, on_ng h.on⟩
  · exact (fp_neg hp.x).trans (by rw [h.x]; exact in1 _ _)
  · exact (fp_neg hp.t).trans (by rw [h.t]; exact in2 _ _ _)
theorem ba_on : On (fp baP.x, fp baP.y) := by
  have := ba_curve
  show fp baP.y * fp baP.y - fp baP.x * fp baP.x - 1 - fp dL * (fp baP.x * fp baP.x) * (fp baP.y * fp baP.y) = 0
  grind
/-- The base. -/
def bA : A2 := (fp (ofB bxN), fp (ofB byN))
theorem is_ba : Is baP bA := is_at ba_on
/-- The same point, the same numbers told. -/
theorem is_same {p q : Pm} {P Q : A2} (h : Is p P) (k : Is q Q) : sameB p q = decide (P = Q) := by
  unfold sameB
  rw [← Bool.decide_and]
  refine decide_eq_decide.2 ?_
  rw [← fp_ext, ← fp_ext, fp_mul, fp_mul, fp_mul, fp_mul, h.x, h.y, k.x, k.y]
  have hz := mul_ne h.z k.z
  constructor
  · rintro ⟨a, b⟩
    refine Prod.ext (canc hz ?_) (canc hz ?_)
    · grind
    · grind
  · rintro rfl
    constructor <;> grind
/-- Zero, multiples. -/
theorem ad_zero (P : A2) : adA P O2 = P := by
  have f1 : fi 1 = 1 := by
    have := fi_mul (a := 1) (by decide)
    rwa [Fin.mul_one] at this
  have t0 : tt P O2 = 0 := by
    show dF * (P.1 * 0) * (P.2 * 1) = 0
    rw [Fin.mul_zero, Fin.mul_zero, Fin.zero_mul]
  have e1 : (1 : Fin pp) + tt P O2 = 1 := by rw [t0]; decide
  have e2 : (1 : Fin pp) - tt P O2 = 1 := by rw [t0]; decide
  unfold adA
  rw [e1, e2, f1]
  refine Prod.ext ?_ ?_
  · show (P.1 * 1 + P.2 * 0) * 1 = P.1
    grind
  · show (P.2 * 1 + P.1 * 0) * 1 = P.2
    grind
theorem zero_ad (P : A2) : adA O2 P = P := by rw [ad_comm, ad_zero]
def sm : Nat → A2 → A2
  | 0, _ => O2
  | n + 1, P => adA (sm n P) P
theorem on_sm {P : A2} (h : On P) : ∀ n, On (sm n P)
  | 0 => on_O
  | n + 1 => on_ad (on_sm h n) h
theorem sm_one (P : A2) : sm 1 P = P := zero_ad P
theorem sm_add {P : A2} (h : On P) (m : Nat) : ∀ n, sm (m + n) P = adA (sm m P) (sm n P)
  | 0 => (ad_zero _).symm
  | n + 1 => by
    show adA (sm (m + n) P) P = adA (sm m P) (adA (sm n P) P)
    rw [sm_add h m n, ad_assoc (on_sm h m) (on_sm h n) h]
theorem sm_mul {P : A2} (h : On P) (m : Nat) : ∀ n, sm (n * m) P = sm n (sm m P)
  | 0 => by rw [Nat.zero_mul]; rfl
  | n + 1 => by
    rw [Nat.add_mul, Nat.one_mul, sm_add h, sm_mul h m n]
    rfl
theorem ad_mid {A B C D : A2} (hA : On A) (hB : On B) (hC : On C) (hD : On D) : adA (adA A B) (adA C D) = adA (adA A C) (adA B D) := by
  rw [ad_assoc hA hB (on_ad hC hD), ← ad_assoc hB hC hD, ad_comm B C, ad_assoc hC hB hD, ← ad_assoc hA hC (on_ad hB hD)]
theorem sm_ad {P Q : A2} (h : On P) (k : On Q) : ∀ n, sm n (adA P Q) = adA (sm n P) (sm n Q)
  | 0 => (ad_zero O2).symm
  | n + 1 => by
    show adA (sm n (adA P Q)) (adA P Q) = adA (adA (sm n P) P) (adA (sm n Q) Q)
    rw [sm_ad h k n, ad_mid (on_sm h n) (on_sm k n) h k]
theorem sm_16 {P : A2} (h : On P) : adA (adA (adA (adA P P) (adA P P)) (adA (adA P P) (adA P P))) (adA (adA (adA P P) (adA P P)) (adA (adA P P) (adA P P))) = sm 16 P := by
  have e2 : adA P P = sm 2 P := by rw [show 2 = 1 + 1 from rfl, sm_add h, sm_one]
  rw [e2, ← sm_add h, ← sm_add h, ← sm_add h]
theorem is_do4 {p : Pm} {P : A2} (hp : p.ok) (h : Is p P) : Is (do4 p) (sm 16 P) := by
  rw [← sm_16 h.on]
  have h1 := is_do hp h
  have h2 := is_do (doP_ok hp) h1
  have h3 := is_do (doP_ok (doP_ok hp)) h2
  exact is_do (doP_ok (doP_ok (doP_ok hp))) h3
theorem is_tab {p : Pm} {P : A2} (hp : p.ok) (h : Is p P) : ∀ n, Is (tabP p n) (sm n P)
  | 0 => is_ze
  | n + 1 => is_ad (tabP_ok hp n) hp (is_tab hp h n) h
theorem dig_up (N m : Nat) : N / 2 ^ (4 * m) = N / 2 ^ (4 * (m + 1)) * 16 + N / 2 ^ (4 * m) % 16 := by
  rw [Nat.mul_add, Nat.pow_add, ← Nat.div_div_eq_div_mul]
  generalize N / 2 ^ (4 * m) = v
  show v = v / 16 * 16 + v % 16
  omega
theorem is_tog1 {p : Pm} {P : A2} {N : Nat} (hp : p.ok) (hN : N < 2 ^ 256) (h : Is p P) : ∀ k, k ≤ 64 → Is (togU [(N, p)] k) (sm (N / 2 ^ (4 * (64 - k))) P)
  | 0, _ => by
    rw [show 4 * (64 - 0) = 256 from rfl, Nat.div_eq_of_lt hN]
    exact is_ze
  | k + 1, hk => by
    have ih := is_tog1 hp hN h k (by omega)
    have hok : (togU [(N, p)] k).ok := togU_ok _ (fun s hs => by rw [List.mem_singleton.1 hs]; exact hp) _
    have e1 : 64 - (k + 1) = 63 - k := by omega
    have e2 : 64 - k = (63 - k) + 1 := by omega
    rw [e2] at ih
    rw [e1, dig_up, sm_add h.on, Nat.mul_comm, sm_mul h.on]
    show Is (adP (do4 (togU [(N, p)] k)) (tabP p (N / 2 ^ (4 * (63 - k)) % 16))) _
    exact is_ad (do4_ok hok) (tabP_ok hp _) (is_do4 hok ih) (is_tab hp h _)
theorem is_mu {p : Pm} {P : A2} {N : Nat} (hp : p.ok) (hN : N < 2 ^ 256) (h : Is p P) : Is (muP p N) (sm N P) := by
  have := is_tog1 hp hN h 64 (by omega)
  rwa [show 4 * (64 - 64) = 0 from rfl, Nat.pow_zero, Nat.div_one] at this
theorem is_tog2 {p q : Pm} {P Q : A2} {N M : Nat} (hp : p.ok) (hq : q.ok) (hN : N < 2 ^ 256) (hM : M < 2 ^ 256) (h : Is p P) (g : Is q Q) : ∀ k, k ≤ 64 → Is (togU [(N, p), (M, q)] k) (adA (sm (N / 2 ^ (4 * (64 - k))) P) (sm (M / 2 ^ (4 * (64 - k))) Q))
  | 0, _ => by
    rw [show 4 * (64 - 0) = 256 from rfl, Nat.div_eq_of_lt hN, Nat.div_eq_of_lt hM]
    show Is ze1 (adA O2 O2)
    rw [ad_zero]
    exact is_ze
  | k + 1, hk => by
    have ih := is_tog2 hp hq hN hM h g k (by omega)
    have hok : (togU [(N, p), (M, q)] k).ok := togU_ok _ (fun s hs => by
      rcases List.mem_cons.1 hs with rfl | hs
      · exact hp
      · rw [List.mem_singleton.1 hs]; exact hq) _
    have e1 : 64 - (k + 1) = 63 - k := by omega
    have e2 : 64 - k = (63 - k) + 1 := by omega
    rw [e2] at ih
    rw [e1, dig_up N, dig_up M, sm_add h.on, sm_add g.on, Nat.mul_comm, sm_mul h.on, Nat.mul_comm (M / _), sm_mul g.on]
    have r := is_do4 hok ih
    rw [sm_ad (on_sm h.on _) (on_sm g.on _)] at r
    have r1 := is_ad (do4_ok hok) (tabP_ok hp (N / 2 ^ (4 * (63 - k)) % 16)) r (is_tab hp h (N / 2 ^ (4 * (63 - k)) % 16))
    have r2 := is_ad (adP_ok (do4_ok hok) (tabP_ok hp (N / 2 ^ (4 * (63 - k)) % 16))) (tabP_ok hq (M / 2 ^ (4 * (63 - k)) % 16)) r1 (is_tab hq g (M / 2 ^ (4 * (63 - k)) % 16))
    have oA := on_sm (on_sm h.on (N / 2 ^ (4 * (63 - k + 1)))) 16
    have oB := on_sm (on_sm g.on (M / 2 ^ (4 * (63 - k + 1)))) 16
    have oC := on_sm h.on (N / 2 ^ (4 * (63 - k)) % 16)
    have oD := on_sm g.on (M / 2 ^ (4 * (63 - k)) % 16)
    rw [ad_assoc (on_ad oA oB) oC oD, ad_mid oA oB oC oD] at r2
    exact r2
theorem is_bo {p : Pm} {P : A2} {N M : Nat} (hp : p.ok) (hN : N < 2 ^ 256) (hM : M < 2 ^ 256) (h : Is p P) : Is (boP p N M) (adA (sm N P) (sm M bA)) := by
  have := is_tog2 hp baP_ok hN hM h is_ba 64 (by omega)
  rwa [show 4 * (64 - 64) = 0 from rfl, Nat.pow_zero, Nat.div_one, Nat.div_one] at this
end
section
set_option maxRecDepth 100000
set_option linter.unusedVariables false
open Go.RowKit
/-- The kernel reckons s first. -/
def frc {α : Type} (s : Nat) (F : Nat → α) : α :=
  match s with
  | 0 => F 0
  | n + 1 => F (n + 1)
theorem frc_eq {α : Type} (s : Nat) (F : Nat → α) : frc s F = F s := by cases s <;> rfl
def fN (n : Nat) : Fin pp := ⟨n % pp, Nat.mod_lt _ (by decide)⟩
theorem fN_mod (n : Nat) : fN (n % pp) = fN n := Fin.ext (Nat.mod_mod _ _)
theorem fN_mul (a b : Nat) : fN (a * b) = fN a * fN b := Fin.ext (by rw [Fin.val_mul]; exact Nat.mul_mod _ _ _)
theorem fN_add (a b : Nat) : fN (a + b) = fN a + fN b := Fin.ext (by rw [Fin.val_add]; exact Nat.add_mod _ _ _)
theorem fN_pp : fN pp = 0 := by decide
theorem fN_sub {a b : Nat} (h : b ≤ pp) : fN (a + (pp - b)) = fN a - fN b := by
  have e : fN (pp - b) + fN b = 0 := by rw [← fN_add, Nat.sub_add_cancel h, fN_pp]
  rw [fN_add]
  grind
def BB : Nat := 115792089237316195423570985008687907853269984665640564039457584007913129639936
def cdN (x y z : Nat) : Nat := x + BB * (y + BB * z)
def dwN : Nat := dN * (bxN * byN) % pp
/-- The double of x, y over z. -/
def dbN (x y z : Nat) : Nat :=
  frc (y * y % pp) fun b => frc (x * x % pp) fun a => frc ((b + (pp - a)) % pp) fun u => frc (2 * (z * z) % pp) fun c => frc ((c + (pp - u)) % pp) fun g =>
    frc (2 * (x * y) * g % pp) fun X => frc ((b + a) * u % pp) fun Y => frc (u * g % pp) fun Z => cdN X Y Z
/-- The base added. -/
def adN (x y z : Nat) : Nat :=
  frc ((x * byN + y * bxN) * z % pp) fun a => frc ((y * byN + x * bxN) * z % pp) fun b => frc (z * z % pp) fun c => frc (dwN * (x * y) % pp) fun w => frc ((c + w) % pp) fun f => frc ((c + (pp - w)) % pp) fun g =>
    frc (a * g % pp) fun X => frc (b * f % pp) fun Y => frc (f * g % pp) fun Z => cdN X Y Z
def opn (s : Nat) (F : Nat → Nat → Nat → Nat) : Nat := frc (s % BB) fun x => frc (s / BB % BB) fun y => frc (s / BB / BB) fun z => F x y z
def qN : Nat := 7237005577332262213973186563042994240857116359379907606001950938285454250989
def runN : Nat → Nat
  | 0 => cdN 0 1 1
  | k + 1 => frc (runN k) fun s => frc (opn s dbN) fun t => if qN / 2 ^ (252 - k) % 2 = 1 then opn t adN else t
def I3 (x y z : Nat) (P : A2) : Prop := fN z ≠ 0 ∧ fN x = P.1 * fN z ∧ fN y = P.2 * fN z ∧ On P
theorem pp_BB : pp < BB := by decide
theorem opn_cd {x y z : Nat} (hx : x < BB) (hy : y < BB) (F : Nat → Nat → Nat → Nat) : opn (cdN x y z) F = F x y z := by
  have h0 : 0 < BB := by decide
  have e1 : cdN x y z % BB = x := by unfold cdN; rw [Nat.add_mul_mod_self_left, Nat.mod_eq_of_lt hx]
  have e2 : cdN x y z / BB = y + BB * z := by unfold cdN; rw [Nat.add_mul_div_left _ _ h0, Nat.div_eq_of_lt hx, Nat.zero_add]
  unfold opn
  rw [frc_eq, frc_eq, frc_eq, e1, e2, Nat.add_mul_mod_self_left, Nat.mod_eq_of_lt hy, Nat.add_mul_div_left _ _ h0, Nat.div_eq_of_lt hy, Nat.zero_add]
def I4 (s : Nat) (P : A2) : Prop := ∃ x y z, s = cdN x y z ∧ x < BB ∧ y < BB ∧ I3 x y z P
theorem mlt (n : Nat) : n % pp < BB := Nat.lt_trans (Nat.mod_lt _ (by decide)) pp_BB
theorem mle (n : Nat) : n % pp ≤ pp := Nat.le_of_lt (Nat.mod_lt _ (by decide))
theorem fN_2 : fN 2 = 2 := by decide
theorem ex1 {X z S u g : Fin pp} (h : X = S * u) : X * g = S * (u * g) := by rw [h]; grind
theorem ex2 {X z S u g : Fin pp} (h : X = S * g) : X * u = S * (u * g) := by rw [h]; grind
theorem two_xy (x y : Fin pp) : 2 * (x * y) = x * y + x * y := by grind
theorem two_zz (z : Fin pp) : 2 * (z * z) = z * z + z * z := by grind
theorem i_db {x y z : Nat} {P : A2} (h : I3 x y z P) : I4 (dbN x y z) (adA P P) := by
  obtain ⟨hz, hx, hy, ho⟩ := h
  unfold dbN
  simp only [frc_eq]
  refine ⟨_, _, _, rfl, mlt _, mlt _, ?_⟩
  have eu : fN ((y * y % pp + (pp - x * x % pp)) % pp) = fN y * fN y - fN x * fN x := by
    rw [fN_mod, fN_sub (mle _), fN_mod, fN_mod, fN_mul, fN_mul]
  have eg : fN ((2 * (z * z) % pp + (pp - (y * y % pp + (pp - x * x % pp)) % pp)) % pp) = fN z * fN z + fN z * fN z - (fN y * fN y - fN x * fN x) := by
    rw [fN_mod, fN_sub (mle _), eu, fN_mod, fN_mul, fN_mul, fN_2, two_zz]
  generalize (2 * (z * z) % pp + (pp - (y * y % pp + (pp - x * x % pp)) % pp)) % pp = G at *
  generalize (y * y % pp + (pp - x * x % pp)) % pp = U at *
  have e3 : fN U ≠ 0 := by
    rw [eu, hx, hy, id0 ho]
    exact mul_ne (mul_ne hz hz) (cplus ho ho)
  have e4 : fN G ≠ 0 := by
    rw [eg, hx, hy, id4 ho]
    exact mul_ne (mul_ne hz hz) (cminus ho ho)
  have e1 : fN x * fN y + fN x * fN y = (adA P P).1 * fN U := by
    rw [eu, hx, hy]
    exact id1 (ad_1 ho ho) ho
  have e2 : fN y * fN y + fN x * fN x = (adA P P).2 * fN G := by
    rw [eg, hx, hy]
    exact id2 (ad_2 ho ho) ho
  refine ⟨?_, ?_, ?_, on_ad ho ho⟩
  · rw [fN_mod, fN_mul]
    exact mul_ne e3 e4
  · rw [fN_mod, fN_mod, fN_mul, fN_mul, fN_mul, fN_mul, fN_2, two_xy, e1]
    exact ie1 _ _ _
  · rw [fN_mod, fN_mod, fN_mul, fN_mul, fN_add, fN_mod, fN_mod, fN_mul, fN_mul, e2]
    exact ie2 _ _ _
theorem bA_1 : bA.1 = fN bxN := by
  show fp (ofB bxN) = fN bxN
  exact ba_x.trans (by decide)
theorem bA_2 : bA.2 = fN byN := by
  show fp (ofB byN) = fN byN
  exact ba_y.trans (by decide)
theorem on_bA : On bA := ba_on
theorem dF_N : dF = fN dN := d_f.trans (by decide)
theorem ib1 {d X Y bx by' z S : Fin pp} (hs : S * (1 + d * (X * bx) * (Y * by')) = X * by' + Y * bx) : (X * z * by' + Y * z * bx) * z = S * (z * z + d * (bx * by') * (X * z * (Y * z))) := by grind
theorem ib2 {d X Y bx by' z S : Fin pp} (hs : S * (1 - d * (X * bx) * (Y * by')) = Y * by' + X * bx) : (Y * z * by' + X * z * bx) * z = S * (z * z - d * (bx * by') * (X * z * (Y * z))) := by grind
theorem ib3 (d X Y bx by' z : Fin pp) : z * z + d * (bx * by') * (X * z * (Y * z)) = (z * z) * (1 + d * (X * bx) * (Y * by')) := by grind
theorem ib4 (d X Y bx by' z : Fin pp) : z * z - d * (bx * by') * (X * z * (Y * z)) = (z * z) * (1 - d * (X * bx) * (Y * by')) := by grind
theorem i_ad {x y z : Nat} {P : A2} (h : I3 x y z P) : I4 (adN x y z) (adA P bA) := by
  obtain ⟨hz, hx, hy, ho⟩ := h
  unfold adN
  simp only [frc_eq]
  refine ⟨_, _, _, rfl, mlt _, mlt _, ?_⟩
  have ew : fN (dwN * (x * y) % pp) = dF * (bA.1 * bA.2) * (fN x * fN y) := by
    unfold dwN
    rw [fN_mod, fN_mul, fN_mod, fN_mul, fN_mul, fN_mul, ← dF_N, ← bA_1, ← bA_2]
  have ef : fN ((z * z % pp + dwN * (x * y) % pp) % pp) = fN z * fN z + dF * (bA.1 * bA.2) * (fN x * fN y) := by
    rw [fN_mod, fN_add, ew, fN_mod, fN_mul]
  have eg : fN ((z * z % pp + (pp - dwN * (x * y) % pp)) % pp) = fN z * fN z - dF * (bA.1 * bA.2) * (fN x * fN y) := by
    rw [fN_mod, fN_sub (mle _), ew, fN_mod, fN_mul]
  generalize (z * z % pp + dwN * (x * y) % pp) % pp = U at *
  generalize (z * z % pp + (pp - dwN * (x * y) % pp)) % pp = G at *
  have e3 : fN U ≠ 0 := by
    rw [ef, hx, hy, ib3]
    exact mul_ne (mul_ne hz hz) (cplus ho on_bA)
  have e4 : fN G ≠ 0 := by
    rw [eg, hx, hy, ib4]
    exact mul_ne (mul_ne hz hz) (cminus ho on_bA)
  have e1 : (fN x * bA.2 + fN y * bA.1) * fN z = (adA P bA).1 * fN U := by
    rw [ef, hx, hy]
    exact ib1 (ad_1 ho on_bA)
  have e2 : (fN y * bA.2 + fN x * bA.1) * fN z = (adA P bA).2 * fN G := by
    rw [eg, hx, hy]
    exact ib2 (ad_2 ho on_bA)
  refine ⟨?_, ?_, ?_, on_ad ho on_bA⟩
  · rw [fN_mod, fN_mul]
    exact mul_ne e3 e4
  · rw [fN_mod, fN_mod, fN_mul, fN_mul, fN_mod, fN_mul, fN_add, fN_mul, fN_mul, ← bA_1, ← bA_2, e1]
    exact ie1 _ _ _
  · rw [fN_mod, fN_mod, fN_mul, fN_mul, fN_mod, fN_mul, fN_add, fN_mul, fN_mul, ← bA_1, ← bA_2, e2]
    exact ie2 _ _ _
theorem bit_up (N m : Nat) : N / 2 ^ m = N / 2 ^ (m + 1) * 2 + N / 2 ^ m % 2 := by
  rw [Nat.pow_add, ← Nat.div_div_eq_div_mul]
  generalize N / 2 ^ m = v
  show v = v / 2 * 2 + v % 2
  omega
theorem sm_two {P : A2} (h : On P) (n : Nat) : sm (n * 2) P = adA (sm n P) (sm n P) := by rw [Nat.mul_two, sm_add h]
theorem run_is : ∀ k, k ≤ 253 → I4 (runN k) (sm (qN / 2 ^ (253 - k)) bA)
  | 0, _ => by
    rw [show sm (qN / 2 ^ (253 - 0)) bA = O2 from by rw [show qN / 2 ^ (253 - 0) = 0 from by decide]; rfl]
    exact ⟨0, 1, 1, rfl, by decide, by decide, by decide, by decide, by decide, on_O⟩
  | k + 1, hk => by
    have ih := run_is k (by omega)
    have e1 : 253 - (k + 1) = 252 - k := by omega
    have e2 : 253 - k = (252 - k) + 1 := by omega
    rw [e2] at ih
    rw [e1, bit_up, sm_add on_bA, sm_two on_bA]
    generalize sm (qN / 2 ^ (252 - k + 1)) bA = A at *
    obtain ⟨x, y, z, hs, hx, hy, h3⟩ := ih
    obtain ⟨x', y', z', hs', hx', hy', h3'⟩ := i_db h3
    show I4 (frc (runN k) fun s => frc (opn s dbN) fun t => if qN / 2 ^ (252 - k) % 2 = 1 then opn t adN else t) _
    rw [frc_eq, frc_eq, hs, opn_cd hx hy, hs']
    have hb : qN / 2 ^ (252 - k) % 2 = 0 ∨ qN / 2 ^ (252 - k) % 2 = 1 := by
      have := Nat.mod_lt (qN / 2 ^ (252 - k)) (by decide : 0 < 2)
      omega
    rcases hb with hb | hb
    · rw [hb, if_neg (by decide)]
      show I4 _ (adA (adA A A) O2)
      rw [ad_zero]
      exact ⟨x', y', z', rfl, hx', hy', h3'⟩
    · rw [hb, if_pos rfl, opn_cd hx' hy', sm_one]
      exact i_ad h3'
theorem run_end : (runN 253 % BB == 0 && runN 253 / BB % BB == runN 253 / BB / BB) = true := by decide +kernel
/-- The base has this order. -/
theorem sm_q : sm qN bA = O2 := by
  obtain ⟨x, y, z, hs, hx, hy, hz, h1, h2, _⟩ := run_is 253 (by omega)
  rw [show 253 - 253 = 0 from rfl, Nat.pow_zero, Nat.div_one] at h1 h2
  have he := run_end
  have a1 : cdN x y z % BB = x := by unfold cdN; rw [Nat.add_mul_mod_self_left, Nat.mod_eq_of_lt hx]
  have a2 : cdN x y z / BB = y + BB * z := by unfold cdN; rw [Nat.add_mul_div_left _ _ (by decide), Nat.div_eq_of_lt hx, Nat.zero_add]
  rw [hs, a1, a2, Nat.add_mul_mod_self_left, Nat.mod_eq_of_lt hy, Nat.add_mul_div_left _ _ (by decide), Nat.div_eq_of_lt hy, Nat.zero_add, Bool.and_eq_true, beq_iff_eq, beq_iff_eq] at he
  obtain ⟨rfl, rfl⟩ := he
  refine Prod.ext ?_ ?_
  · have e : (sm qN bA).1 * fN y = 0 := h1.symm.trans (by decide)
    exact (fp_dom e).resolve_right hz
  · refine canc hz ?_
    rw [← h2]
    exact (Fin.one_mul _).symm
end
end
section
section
set_option maxRecDepth 100000
set_option linter.unusedSimpArgs false
set_option linter.unusedVariables false
open Go.RowKit
structure Rp.ok (r : Rp) : Prop where
  x : r.x.ok
  y : r.y.ok
  z : r.z.ok
end
section
set_option maxRecDepth 100000
set_option linter.unusedVariables false
open Go.RowKit
/-- What a point of the document stands for. -/
structure Ir (p : Rp) (P : A2) : Prop where
  z : fp p.z ≠ 0
  x : fp p.x = P.1 * fp p.z
  y : fp p.y = P.2 * fp p.z
  on : On P
/-- A point's coordinates, divided. -/
theorem ir_div {x z a : Lm} {X : Fin pp} (hz : fp z ≠ 0) (hx : fp x = X * fp z) : nu (mulL x (invL z)) = X.val := by
  have hv : nu z ≠ 0 := fun e => hz (Fin.ext e)
  have h1 := inv_one z
  rw [if_neg hv] at h1
  have h2 : fp z * fp (invL z) = 1 := by
    rw [← fp_mul]
    exact Fin.ext (h1.trans (by decide))
  have h3 : fp (mulL x (invL z)) = X := by
    rw [fp_mul, hx]
    grind
  exact congrArg Fin.val h3
/-- The number that a point's bytes tell. -/
def told (P : A2) : Nat := P.2.val + (if P.1.val % 2 = 1 then 57896044618658097711785492504343953926634992332820282019728792003956564819968 else 0)
theorem is_told {p : Pm} {P : A2} (h : Is p P) : ptN p = told P := by
  unfold ptN told
  rw [ir_div (a := p.x) h.z h.x, ir_div (a := p.x) h.z h.y]
theorem x_sq {d x y u : Fin pp} (h1 : y * y - x * x - 1 - d * (x * x) * (y * y) = 0) (h2 : y * y - u * u - 1 - d * (u * u) * (y * y) = 0) : (x - u) * (x + u) * (1 + d * (y * y)) = 0 := by grind
theorem dy_ne0 {y : Fin pp} : 1 + dF * (y * y) ≠ 0 := by
  intro e
  by_cases hy : y = 0
  · rw [hy, Fin.mul_zero, Fin.mul_zero, Fin.add_zero] at e
    exact absurd e (by decide)
  · refine d_ns hy (r := jF) ?_
    have := j_sq
    grind
theorem told_inj {P Q : A2} (hP : On P) (hQ : On Q) (h : told P = told Q) : P = Q := by
  have a1 := P.2.isLt
  have a2 := Q.2.isLt
  have hb : pp < 57896044618658097711785492504343953926634992332820282019728792003956564819968 := by decide
  have hy : P.2.val = Q.2.val := by
    unfold told at h
    split at h <;> split at h <;> omega
  have hpar : P.1.val % 2 = Q.1.val % 2 := by
    unfold told at h
    split at h <;> split at h <;> omega
  have ey : P.2 = Q.2 := Fin.ext hy
  refine Prod.ext ?_ ey
  have hQ' : P.2 * P.2 - Q.1 * Q.1 - 1 - dF * (Q.1 * Q.1) * (P.2 * P.2) = 0 := by rw [ey]; exact hQ
  have hx := (fp_dom (x_sq hP hQ')).resolve_right dy_ne0
  rcases fp_dom hx with e | e
  · grind
  · have e2 : (P.1.val + Q.1.val) % pp = 0 := by
      have := congrArg Fin.val e
      rwa [Fin.val_add] at this
    have b1 := P.1.isLt
    have b2 := Q.1.isLt
    have hodd : pp % 2 = 1 := by decide
    refine Fin.ext ?_
    generalize P.1.val = u at *
    generalize Q.1.val = v at *
    have h3 : u + v = 0 ∨ u + v = pp := by
      have h4 : u + v < 2 * pp := by omega
      rcases Nat.lt_or_ge (u + v) pp with h5 | h5
      · rw [Nat.mod_eq_of_lt h5] at e2; exact .inl e2
      · rw [Nat.mod_eq_sub_mod h5, Nat.mod_eq_of_lt (by omega)] at e2
        exact .inr (by omega)
    rcases h3 with h3 | h3
    · omega
    · omega
end
section
set_option maxRecDepth 100000
set_option linter.unusedSimpArgs false
set_option linter.unusedVariables false
open Go.RowKit
end
section
set_option maxRecDepth 100000
set_option linter.unusedSimpArgs false
set_option linter.unusedVariables false
open Go.RowKit
end
section
set_option maxRecDepth 100000
set_option linter.unusedVariables false
open Go.RowKit
theorem fr_v {y : Lm} (hy : y.ok) : fp (frV y) = dF * (fp y * fp y) + 1 := by
  unfold frV dF
  rw [fp_add, fp_mul, fp_mul, fp_1]
theorem fr_u {y : Lm} (hy : y.ok) : fp (frU y) = fp y * fp y - 1 := by
  unfold frU
  rw [fp_sub _ sm_ok1, fp_mul, fp_1]
theorem on_root {d x y : Fin pp} (h : x * x * (d * (y * y) + 1) = y * y - 1) : y * y - x * x - 1 - d * (x * x) * (y * y) = 0 := by grind
theorem dec_on {y : Lm} (hy : y.ok) (h : rootOk (frU y) (frV y) = true) : On (fp (rootL (frU y) (frV y)), fp y) := by
  have hv0 : nu (frV y) ≠ 0 := by
    intro e
    have e2 : fp (frV y) = 0 := Fin.ext e
    rw [fr_v hy] at e2
    exact dy_ne0 (y := fp y) (by grind)
  have h1 := rootL_sq (frU_ok hy) (frV_ok hy) hv0 h
  have h2 := quo_v (u := frU y) hv0
  refine on_root ?_
  rw [← fr_v hy, ← fr_u hy]
  refine Fin.ext ?_
  rw [Fin.val_mul, Fin.val_mul]
  show nu (rootL (frU y) (frV y)) * nu (rootL (frU y) (frV y)) % pp * nu (frV y) % pp = nu (frU y)
  rw [h1, Nat.mod_mul_mod, h2, nu_mod]
/-- The point that 32 bytes tell. -/
def dcA (N : Nat) : A2 :=
  (fp (if N / 57896044618658097711785492504343953926634992332820282019728792003956564819968 % 2 = 1 then negL (rootL (frU (ofB (N % 57896044618658097711785492504343953926634992332820282019728792003956564819968))) (frV (ofB (N % 57896044618658097711785492504343953926634992332820282019728792003956564819968)))) else rootL (frU (ofB (N % 57896044618658097711785492504343953926634992332820282019728792003956564819968))) (frV (ofB (N % 57896044618658097711785492504343953926634992332820282019728792003956564819968)))), fp (ofB (N % 57896044618658097711785492504343953926634992332820282019728792003956564819968)))
theorem dcA_on {N : Nat} (h : decOk N = true) : On (dcA N) := by
  have hr : rootOk (frU (ofB (N % 57896044618658097711785492504343953926634992332820282019728792003956564819968))) (frV (ofB (N % 57896044618658097711785492504343953926634992332820282019728792003956564819968))) = true := by
    unfold decOk at h
    exact (Bool.and_eq_true _ _ ▸ h).1
  have hy := ofB_ok (N % 57896044618658097711785492504343953926634992332820282019728792003956564819968)
  have ho := dec_on hy hr
  unfold dcA
  split
  · have := on_ng ho
    unfold ngA at this
    rw [fp_neg (rootL_ok (frU_ok hy) (frV_ok hy))]
    exact this
  · exact ho
theorem is_dec {N : Nat} (h : decOk N = true) : Is (decPt N) (dcA N) := by
  have ho := dcA_on h
  unfold decPt
  rw [h, if_pos rfl]
  exact is_at ho
theorem ir_dec {N : Nat} (h : decOk N = true) {r : Rp} (hx : fp r.x = (dcA N).1) (hy : fp r.y = (dcA N).2) (hz : r.z = smL 1) : Ir r (dcA N) := by
  have z1 : fp r.z = 1 := by rw [hz]; exact fp_1
  exact ⟨by rw [z1]; decide, by rw [hx, z1]; exact (Fin.mul_one _).symm, by rw [hy, z1]; exact (Fin.mul_one _).symm, dcA_on h⟩
end
end
section
section
open Go.RowKit
section
variable {P : Program} {ops : Array Oper} {Q : Exit → Act → World → Prop} {S : World → Prop} {R : Nat → World → Prop} {val : Nat → Value} {k : Nat}
/-- In state a, in each world that meets S, operation o leaves one of these values, of which R holds then. -/
def Makes (P : Program) (S : World → Prop) (R : Nat → World → Prop) (val : Nat → Value) (o : Oper) (a : Act) : Prop :=
  ∀ w, S w → ∀ K : Act → World → Prop, (∀ g w', Below w.heap.size w w' → R g w' → K (a.put o.dst (val g)) w') → o.wp P a w K (fun _ _ _ => False)
theorem Makes.wp {o : Oper} {a a' : Act} (h : Makes P S R val o a) (he : execOp a'.eval o = execOp a.eval o) (hs : ∀ d, o.dst = some d → d < a.tmps.size) {w : World} (hS : S w) :
    o.wp P a' w (fun a'' w' => ∃ g, a'' = a'.put o.dst (val g) ∧ Below w.heap.size w w' ∧ R g w') Q := by
  have h1 := h w hS (fun a'' w' => ∃ g, a'' = a.put o.dst (val g) ∧ Below w.heap.size w w' ∧ R g w') (fun g w' hb hr => ⟨g, rfl, hb, hr⟩)
  unfold Oper.wp at *
  rw [he]
  generalize (execOp a.eval o).run P w = r at *
  cases r with
  | ok n w' =>
    cases n <;> simp only [Oper.upon] at h1 ⊢
    case value u => exact h1.imp fun g h => ⟨put_same hs h.1, h.2⟩
    case skip => exact h1.imp fun g h => ⟨put_same hs h.1, h.2⟩
    case defer d =>
      exfalso
      obtain ⟨g, h1, _⟩ := h1
      have h2 := congrArg (fun b : Act => b.defers.length) h1
      cases hd : o.dst <;> simp [Act.put, hd] at h2
    case enter f args =>
      refine Calls.mono h1 fun e w'' he => ?_
      cases e with
      | returned u => exact he.imp fun g h => ⟨put_same hs h.1, h.2⟩
      | panicked c => exact he.elim
      | outgrown => obtain ⟨_, _, hf⟩ := he; exact hf.elim
    case row row args => exact Rows.mono h1 fun u w'' he => he.imp fun g h => ⟨put_same hs h.1, h.2⟩
  | halt x w' =>
    cases x <;> simp only [Oper.upon] at h1 ⊢
/-- What one operation asks, in its own state. -/
def GAt (P : Program) (ops : Array Oper) (S : World → Prop) (R : Nat → World → Prop) (val : Nat → Value) (k g i : Nat) (o : Oper) (v : Value) (a : Act) : Prop :=
  (Region.wanted o (yielded ops a.tmps) = true ∧ ((i = k ∧ v = val g ∧ Makes P S R val o a) ∨ (i ≠ k ∧ Gives P S o v a) ∨ (i ≠ k ∧ waits ops i k = true ∧ Gives P (fun w => S w ∧ R g w) o v a))) ∨ (i ≠ k ∧ Region.wanted o (yielded ops a.tmps) = false ∧ v = undef)
inductive DetsK (P : Program) (ops : Array Oper) (S : World → Prop) (R : Nat → World → Prop) (val : Nat → Value) (k g : Nat) : List (Nat × Value) → Act → Act → Prop
  | nil {a : Act} : DetsK P ops S R val k g [] a a
  | cons {i : Nat} {o : Oper} {v : Value} {vs : List (Nat × Value)} {a b : Act} (ho : ops[i]? = some o) (hg : GAt P ops S R val k g i o v a)
      (hr : DetsK P ops S R val k g vs (a.put o.dst v) b) : DetsK P ops S R val k g ((i, v) :: vs) a b
theorem DetsK.step {g i : Nat} {o : Oper} {v : Value} {vs : List (Nat × Value)} {a b : Act} (d : Option Tmp) (ho : ops[i]? = some o) (hd : o.dst = d) (hw : Region.wanted o (yielded ops a.tmps) = true) (hi : i ≠ k) (hg : Gives P S o v a)
    (hr : DetsK P ops S R val k g vs (a.put d v) b) : DetsK P ops S R val k g ((i, v) :: vs) a b := .cons ho (.inl ⟨hw, .inr (.inl ⟨hi, hg⟩)⟩) (by rw [hd]; exact hr)
theorem DetsK.stepSkip {g i : Nat} {o : Oper} {vs : List (Nat × Value)} {a b : Act} (d : Option Tmp) (ho : ops[i]? = some o) (hd : o.dst = d) (hw : Region.wanted o (yielded ops a.tmps) = false) (hi : i ≠ k)
    (hr : DetsK P ops S R val k g vs (a.put d undef) b) : DetsK P ops S R val k g ((i, undef) :: vs) a b := .cons ho (.inr ⟨hi, hw, rfl⟩) (by rw [hd]; exact hr)
theorem DetsK.stepLook {g i : Nat} {o : Oper} {v : Value} {vs : List (Nat × Value)} {a b : Act} (d : Option Tmp) (ho : ops[i]? = some o) (hd : o.dst = d) (hw : Region.wanted o (yielded ops a.tmps) = true) (hi : i ≠ k) (hwt : waits ops i k = true)
    (hg : Gives P (fun w => S w ∧ R g w) o v a) (hr : DetsK P ops S R val k g vs (a.put d v) b) : DetsK P ops S R val k g ((i, v) :: vs) a b := .cons ho (.inl ⟨hw, .inr (.inr ⟨hi, hwt, hg⟩)⟩) (by rw [hd]; exact hr)
theorem DetsK.stepMake {g : Nat} {o : Oper} {vs : List (Nat × Value)} {a b : Act} (d : Option Tmp) (ho : ops[k]? = some o) (hd : o.dst = d) (hw : Region.wanted o (yielded ops a.tmps) = true) (hg : Makes P S R val o a)
    (hr : DetsK P ops S R val k g vs (a.put d (val g)) b) : DetsK P ops S R val k g ((k, val g) :: vs) a b := .cons ho (.inl ⟨hw, .inl ⟨rfl, rfl, hg⟩⟩) (by rw [hd]; exact hr)
theorem DetsK.all {g : Nat} {a0 : Act} : ∀ {vs : List (Nat × Value)} {a b : Act} {M : Nat → Value → Prop}, DetsK P ops S R val k g vs a b → Has ops a0 M a → detsOk ops [] (vs.map (·.1)) = true →
    (∀ j u i v t, M j u → (i, v) ∈ vs → dstOf ops i = some t → dstOf ops j ≠ some t) → (∀ j u i v, M j u → (i, v) ∈ vs → dstSeen ops j i = true → waits ops i j = true) → (∀ j u i v, M j u → (i, v) ∈ vs → dstSeen ops i j = true → waits ops i j = true) →
    Has ops a0 (fun j u => M j u ∨ (j, u) ∈ vs) b ∧
    ∀ i v, (i, v) ∈ vs → ∃ (o : Oper) (ai : Act) (N : Nat → Value → Prop), ops[i]? = some o ∧ GAt P ops S R val k g i o v ai ∧ Has ops a0 N ai ∧ (∀ j u, N j u → M j u ∨ (j, u) ∈ vs) ∧
      (∀ j u, N j u → dstSeen ops j i = true → waits ops i j = true) ∧ (∀ j u, (M j u ∨ (j, u) ∈ vs) → dstSeen ops j i = true → N j u ∨ waits ops j i = true) := by
  intro vs
  induction vs with
  | nil =>
    intro a b M h hM _ _ _ _
    cases h
    exact ⟨⟨hM.defers, hM.size, fun t j u hm => hM.there t j u (hm.resolve_right (by simp)), fun t ht => hM.else_ t fun j u hm => ht j u (.inl hm)⟩, fun i v h => by cases h⟩
  | cons iv vs ih =>
    intro a b M h hM hok hdst hseen hback
    obtain ⟨i, v⟩ := iv
    obtain ⟨o, ho, hg, hr⟩ : ∃ o, ops[i]? = some o ∧ GAt P ops S R val k g i o v a ∧ DetsK P ops S R val k g vs (a.put o.dst v) b := by
      cases h with
      | cons ho hg hr => exact ⟨_, ho, hg, hr⟩
    have hdo : dstOf ops i = o.dst := by simp [dstOf, ho]
    rw [List.map_cons] at hok
    simp only [detsOk, Bool.and_eq_true, List.all_eq_true] at hok
    obtain ⟨⟨⟨hrest, hself⟩, -⟩, hok'⟩ := hok
    have hrest' : ∀ j u, (j, u) ∈ vs → j ≠ i ∧ dstsApart ops i j = true ∧ (dstSeen ops j i = true → waits ops j i = true) ∧ (dstSeen ops i j = true → waits ops j i = true) := fun j u hj => by
      have h1 := hrest j (List.mem_map.2 ⟨(j, u), hj, rfl⟩)
      simp only [Bool.or_eq_true, Bool.not_eq_true', bne_iff_ne] at h1
      exact ⟨h1.1.1.1, h1.1.1.2, fun e => h1.1.2.resolve_left (by rw [e]; simp), fun e => h1.2.resolve_left (by rw [e]; simp)⟩
    have hself' : dstSeen ops i i = false := by simpa using hself
    have hap : ∀ j u t, (j, u) ∈ vs → dstOf ops i = some t → dstOf ops j ≠ some t := fun j u t hj ht => by
      have h1 := (hrest' j u hj).2.1
      simp only [dstsApart, ht, bne_iff_ne] at h1
      exact h1
    have hM' : Has ops a0 (fun j u => M j u ∨ (j = i ∧ u = v)) (a.put o.dst v) := hdo ▸ hM.put (fun j u t hm ht => hdst j u i v t hm (List.mem_cons_self ..) ht) (fun _ _ => Iff.rfl)
    have hih := ih hr hM' hok' (fun j u i' v' t hm hi' ht => by
        rcases hm with hm | ⟨rfl, rfl⟩
        · exact hdst j u i' v' t hm (List.mem_cons_of_mem _ hi') ht
        · exact fun e => hap i' v' t hi' e ht)
      (fun j u i' v' hm hi' he => by
        rcases hm with hm | ⟨rfl, rfl⟩
        · exact hseen j u i' v' hm (List.mem_cons_of_mem _ hi') he
        · exact (hrest' i' v' hi').2.2.2 he)
      (fun j u i' v' hm hi' he => by
        rcases hm with hm | ⟨rfl, rfl⟩
        · exact hback j u i' v' hm (List.mem_cons_of_mem _ hi') he
        · exact (hrest' i' v' hi').2.2.1 he)
    have hiff : ∀ j u, ((M j u ∨ (j = i ∧ u = v)) ∨ (j, u) ∈ vs) ↔ (M j u ∨ (j, u) ∈ (i, v) :: vs) := fun j u => by
      rw [List.mem_cons, Prod.mk.injEq, or_assoc]
    refine ⟨?_, fun i' v' hm => ?_⟩
    · have h1 := hih.1
      exact ⟨h1.defers, h1.size, fun t j u hm => h1.there t j u ((hiff j u).2 hm), fun t ht => h1.else_ t fun j u hm => ht j u ((hiff j u).1 hm)⟩
    · rcases List.mem_cons.1 hm with e | hm
      · cases e
        refine ⟨o, a, M, ho, hg, hM, fun j u h => .inl h, fun j u h he => hseen j u i v h (List.mem_cons_self ..) he, fun j u h he => ?_⟩
        rcases h with h | h
        · exact .inl h
        · rcases List.mem_cons.1 h with e | h
          · cases e; rw [hself'] at he; cases he
          · exact .inr ((hrest' j u h).2.2.1 he)
      · obtain ⟨o', ai, N, ho', hg', hN, hN1, hN2, hN3⟩ := hih.2 i' v' hm
        exact ⟨o', ai, N, ho', hg', hN, fun j u h => (hiff j u).1 (hN1 j u h), hN2, fun j u h he => hN3 j u ((hiff j u).2 h) he⟩
theorem mk_all {vs : Nat → List (Nat × Value)} {ids : List Nat} {a0 : Act} {aD : Nat → Act} (hids : ∀ g, (vs g).map (·.1) = ids) (hvs : ∀ g g' i v, i ≠ k → (i, v) ∈ vs g → (i, v) ∈ vs g') (hki : k ∈ ids)
    (hD : ∀ g, DetsK P ops S R val k g (vs g) a0 (aD g)) (hk1 : detsOk ops [] ids = true) (hk3 : lateOk ops ids [] = true) (hk4 : dstsIn ops a0.tmps.size = true) (hns : Region.noSelect ops = true)
    (hSB : ∀ w w', S w → Below w.heap.size w w' → S w') (hRB : ∀ g w w', S w → R g w → Below w.heap.size w w' → R g w') (hend : ∀ g w, S w → R g w → Q .normal (aD g) w) :
    ∀ (fuel : Nat) (L : Array Bool) (a : Act) (w : World) (g : Nat), Has ops a0 (fun j u => L.getD j false = true ∧ (j, u) ∈ vs g) a → S w → (L.getD k false = true → R g w) → L.size = ops.size →
      (∀ i o, ops[i]? = some o → L.getD i false = true → ∀ e ∈ o.after, Region.binds .any e = true → L.getD e.on false = true) → cnt ops L ≤ fuel → wpAny P .any ops Q fuel L a w := by
  have hall := fun g => (hD g).all (a0 := a0) (M := fun _ _ => False) (Has.start a0) (by rw [hids]; exact hk1) (fun _ _ _ _ _ h => h.elim) (fun _ _ _ _ h => h.elim) (fun _ _ _ _ h => h.elim)
  simp only [lateOk, Bool.and_eq_true, List.all_eq_true, List.mem_range] at hk3
  obtain ⟨⟨⟨hcov, hord⟩, hlt⟩, -⟩ := hk3
  have hord' : ∀ i o, ops[i]? = some o → ∀ e ∈ o.after, Region.binds .any e = true → e.on < i := fun i o ho e he hb => by
    have h1 := hord i (Array.getElem?_eq_some_iff.1 ho).1
    simp only [ho, Option.map_some, Option.getD_some, Array.all_eq_true_iff_forall_mem] at h1
    have h2 := h1 e he
    simpa [hb] using h2
  have hlt' : ∀ i ∈ ids, i < ops.size := fun i hi => by simpa using hlt i hi
  have hin : ∀ i, i < ops.size → i ∈ ids := fun i hi => by
    have h1 := hcov i hi
    simpa using h1
  have hval : ∀ g v, (k, v) ∈ vs g → v = val g := fun g v hv => by
    obtain ⟨o, ai, N, ho, hg, _⟩ := (hall g).2 k v hv
    rcases hg with ⟨_, ⟨_, h, _⟩ | ⟨h, _⟩ | ⟨h, _⟩⟩ | ⟨h, _⟩
    · exact h
    · exact absurd rfl h
    · exact absurd rfl h
    · exact absurd rfl h
  have hmem : ∀ g i, i ∈ ids → ∃ v, (i, v) ∈ vs g := fun g i hi => by
    rw [← hids g] at hi
    obtain ⟨⟨i', v⟩, hv, rfl⟩ := List.mem_map.1 hi
    exact ⟨v, hv⟩
  have hready : ∀ (L : Array Bool), L.size = ops.size → ∀ x, x < ops.size → L.getD x true = false → Region.ready .any ops L ≠ [] := by
    intro L hs x
    induction x using Nat.strongRecOn with
    | _ x ihx =>
      intro hx hu hnil
      by_cases hr : ∀ e ∈ (ops[x]'hx).after, Region.binds .any e = true → L.getD e.on false = true
      · have : x ∈ Region.ready .any ops L := mem_ready.2 ⟨hu, ops[x], Array.getElem?_eq_getElem hx, hr⟩
        rw [hnil] at this
        cases this
      · obtain ⟨e, he⟩ := Classical.not_forall.mp hr
        obtain ⟨he, hb⟩ := Classical.not_imp.mp he
        obtain ⟨hb, hf⟩ := Classical.not_imp.mp hb
        have h1 := hord' x _ (Array.getElem?_eq_getElem hx) e he hb
        have h2 : e.on < ops.size := by omega
        exact ihx e.on h1 h2 (by rw [getD_tf (by rw [hs]; exact h2)]; simpa using hf) hnil
  have hdone : ∀ (L : Array Bool) (a : Act) (w : World) (g fuel : Nat), Has ops a0 (fun j u => L.getD j false = true ∧ (j, u) ∈ vs g) a → S w → (L.getD k false = true → R g w) → (∀ x ∈ ids, L.getD x false = true) → L.size = ops.size → wpAny P .any ops Q fuel L a w := by
    intro L a w g fuel hH hS hR hfull hs
    have ha : a = aD g := by
      refine Has.eq (M := fun j u => False ∨ (j, u) ∈ vs g) ⟨hH.defers, hH.size, fun t j u hm => hH.there t j u ⟨hfull j ?_, hm.resolve_left id⟩, fun t ht => hH.else_ t fun j u hm => ht j u (.inr hm.2)⟩ (hall g).1
      rw [← hids g]
      exact List.mem_map.2 ⟨(j, u), hm.resolve_left id, rfl⟩
    have hr : Region.ready .any ops L = [] := by
      refine List.eq_nil_iff_forall_not_mem.2 fun i hi => ?_
      obtain ⟨h1, o, ho, _⟩ := mem_ready.1 hi
      have h2 : i < ops.size := (Array.getElem?_eq_some_iff.1 ho).1
      rw [getD_tf (by rw [hs]; exact h2), hfull i (hin i h2)] at h1
      cases h1
    rw [ha]
    exact wpAny_le (Nat.zero_le _) ⟨hr, hend g w hS (hR (hfull k hki))⟩
  intro fuel
  induction fuel with
  | zero =>
    intro L a w g hH hS hR hs _ hc
    refine hdone L a w g 0 hH hS hR (fun x hx => ?_) hs
    cases hx0 : L.getD x false with
    | true => rfl
    | false =>
      have h1 := hlt' x hx
      have := cnt_pos (L := L) h1 (by rw [getD_tf (by rw [hs]; exact h1)]; exact hx0)
      omega
  | succ fuel ih =>
    intro L a w g hH hS hR hs hdown hc
    by_cases hfull : ∀ x ∈ ids, L.getD x false = true
    · exact hdone L a w g (fuel + 1) hH hS hR hfull hs
    obtain ⟨x0, hx0⟩ := Classical.not_forall.mp hfull
    obtain ⟨hx0, hf0⟩ := Classical.not_imp.mp hx0
    have hx1 := hlt' x0 hx0
    refine ⟨fun h => absurd h (hready L hs x0 hx1 (by rw [getD_tf (by rw [hs]; exact hx1)]; simpa using hf0)), fun i hi => ?_⟩
    obtain ⟨hun, o, ho, hwait⟩ := mem_ready.1 hi
    have hisz : i < ops.size := (Array.getElem?_eq_some_iff.1 ho).1
    have hiL : i < L.size := by rw [hs]; exact hisz
    have hunf : L.getD i false = false := by rw [← getD_tf hiL]; exact hun
    have hdo : dstOf ops i = o.dst := by simp [dstOf, ho]
    have hie := hin i hisz
    have hset : ∀ j, (L.setIfInBounds i true).getD j false = true ↔ L.getD j false = true ∨ j = i := fun j => by
      by_cases e : j = i
      · subst e; simp [hiL]
      · rw [getD_set_ne false (Ne.symm e)]; simp [e]
    have hdown' : ∀ j oj, ops[j]? = some oj → (L.setIfInBounds i true).getD j false = true → ∀ e ∈ oj.after, Region.binds .any e = true → (L.setIfInBounds i true).getD e.on false = true := fun j oj hoj hj e he hb => by
      rw [hset] at hj ⊢
      rcases hj with hj | rfl
      · exact .inl (hdown j oj hoj hj e he hb)
      · rw [ho] at hoj; cases hoj
        exact .inl (hwait e he hb)
    have hcnt : cnt ops (L.setIfInBounds i true) ≤ fuel := by
      have := cnt_set hisz hun hs
      omega
    have hothers : ∀ j u t, (L.getD j false = true ∧ (j, u) ∈ vs g) → dstOf ops i = some t → dstOf ops j ≠ some t := by
      intro j u t ⟨hj, hju⟩ ht
      have hne : j ≠ i := fun e => by rw [e, hunf] at hj; cases hj
      refine detsOk_apart hk1 i hie j ?_ (Ne.symm hne) t ht
      rw [← hids g]
      exact List.mem_map.2 ⟨(j, u), hju, rfl⟩
    obtain ⟨v, hiv⟩ := hmem g i hie
    obtain ⟨o', ai, N, ho', hg, hN, hN1, hN2, hN3⟩ := (hall g).2 i v hiv
    rw [ho] at ho'
    cases ho'
    have hsame : ∀ t, t ∈ o.looksAt ops → a.tmps[t]? = ai.tmps[t]? := by
      intro t ht
      refine hH.congr hN ?_
      by_cases he : ∃ j u, N j u ∧ dstOf ops j = some t
      · obtain ⟨j, u, hnj, hj⟩ := he
        have hw := hN2 j u hnj (dstSeen_of ho ht hj)
        obtain ⟨e, he, hb, rfl⟩ := waits_spec ho hw
        exact .inl ⟨_, u, ⟨hwait e he hb, (hN1 _ u hnj).resolve_left id⟩, hnj, hj⟩
      · have hno : ∀ j u, N j u → dstOf ops j ≠ some t := fun j u hm hj => he ⟨j, u, hm, hj⟩
        refine .inr ⟨fun j u hm hj => ?_, hno⟩
        obtain ⟨hjL, hju⟩ := hm
        have hsn := dstSeen_of ho ht hj
        rcases hN3 j u (.inr hju) hsn with h | h
        · exact hno j u h hj
        · have hjs : j < ops.size := hlt' j (by rw [← hids g]; exact List.mem_map.2 ⟨(j, u), hju, rfl⟩)
          obtain ⟨e, he, hb, h1⟩ := waits_spec (Array.getElem?_eq_getElem hjs) h
          have := hdown j _ (Array.getElem?_eq_getElem hjs) hjL e he hb
          rw [h1, hunf] at this
          cases this
    have huniq : ∀ g' u, (i, u) ∈ vs g' → ∀ u', (i, u') ∈ vs g' → u = u' := fun g' u h u' h' => detsOk_unique (by rw [hids]; exact hk1) h h'
    have hhas : ∀ g', (∀ j u, j ≠ i → ((j, u) ∈ vs g ↔ (j, u) ∈ vs g')) → ∀ v', (i, v') ∈ vs g' → Has ops a0 (fun j u => (L.setIfInBounds i true).getD j false = true ∧ (j, u) ∈ vs g') (a.put o.dst v') := fun g' hgg v' hv' => by
      refine hdo ▸ hH.put hothers fun j u => ?_
      rw [hset]
      constructor
      · rintro ⟨hj | rfl, hju⟩
        · have hne : j ≠ i := fun e => by rw [e, hunf] at hj; cases hj
          exact .inl ⟨hj, (hgg j u hne).2 hju⟩
        · exact .inr ⟨rfl, huniq g' u hju v' hv'⟩
      · rintro (⟨hj, hju⟩ | ⟨rfl, rfl⟩)
        · have hne : j ≠ i := fun e => by rw [e, hunf] at hj; cases hj
          exact ⟨.inl hj, (hgg j u hne).1 hju⟩
        · exact ⟨.inr rfl, hv'⟩
    have hd : ∀ d, o.dst = some d → d < ai.tmps.size := fun d hd => by
      have h1 := (List.all_eq_true.1 hk4) i (List.mem_range.2 hisz)
      rw [hdo, hd] at h1
      rw [hN.size]
      simpa using h1
    have hexec := exec_same (Region.noSelect_spec hns i o · · ho) hsame
    have hnext : i ≠ k → ∀ w', Below w.heap.size w w' → wpAny P .any ops Q fuel (L.setIfInBounds i true) (a.put o.dst v) w' := fun hik w' hb =>
      ih _ _ w' g (hhas g (fun _ _ _ => Iff.rfl) v hiv) (hSB w w' hS hb) (fun h => hRB g w w' hS (hR (((hset k).1 h).resolve_right (Ne.symm hik))) hb) (by simp [hs]) hdown' hcnt
    unfold wpOp
    simp only [ho]
    rw [wanted_same hsame]
    rcases hg with ⟨hw, hg⟩ | ⟨hik, hw, rfl⟩
    · rw [if_pos hw]
      refine .inl ?_
      rcases hg with ⟨rfl, rfl, hg⟩ | ⟨hik, hg⟩ | ⟨hik, hwt, hg⟩
      · refine Oper.wp_mono (fun a' w' h => ?_) (hg.wp (Q := Q) hexec hd hS)
        obtain ⟨g', rfl, hb, hr⟩ := h
        obtain ⟨v', hv'⟩ := hmem g' i hie
        obtain rfl := hval g' v' hv'
        exact ih _ _ w' g' (hhas g' (fun j u hne => ⟨hvs g g' j u hne, hvs g' g j u hne⟩) _ hv') (hSB w w' hS hb) (fun _ => hr) (by simp [hs]) hdown' hcnt
      · refine Oper.wp_mono (fun a' w' h => ?_) (hg.wp (Q := Q) hexec hd hS)
        obtain ⟨rfl, hb⟩ := h
        exact hnext hik w' hb
      · obtain ⟨e, he, hb, rfl⟩ := waits_spec ho hwt
        refine Oper.wp_mono (fun a' w' h => ?_) (hg.wp (Q := Q) hexec hd ⟨hS, hR (hwait e he hb)⟩)
        obtain ⟨rfl, hb⟩ := h
        exact hnext hik w' hb
    · rw [if_neg (by rw [hw]; decide)]
      exact hnext hik w (Below.refl _ _)
theorem vs_at {l1 l2 : List (Nat × Value)} {vs : Nat → List (Nat × Value)} (h : ∀ g, vs g = l1 ++ (k, val g) :: l2) (g g' i : Nat) (v : Value) (hne : i ≠ k) (hm : (i, v) ∈ vs g) : (i, v) ∈ vs g' := by
  rw [h] at hm ⊢
  rcases List.mem_append.1 hm with hm | hm
  · exact List.mem_append_left _ hm
  · rcases List.mem_cons.1 hm with e | hm
    · cases e; exact absurd rfl hne
    · exact List.mem_append_right _ (List.mem_cons_of_mem _ hm)
/-- A region with one such operation, and nothing new or late besides. -/
theorem wp_flat_make {id : Nat} {vs : Nat → List (Nat × Value)} {a0 : Act} {aD : Nat → Act} {w0 : World} (k : Nat) (R : Nat → World → Prop) (val : Nat → Value) (ids : List Nat) (hm : P.follows .mixedOrders = true) (hS : S w0.drew) (hSB : ∀ w w', S w → Below w.heap.size w w' → S w')
    (hRB : ∀ g w w', S w → R g w → Below w.heap.size w w' → R g w') (l1 l2 : List (Nat × Value)) (hids : ∀ g, (vs g).map (·.1) = ids) (hvs : ∀ g, vs g = l1 ++ (k, val g) :: l2)
    (hD : ∀ g, DetsK P ops S R val k g (vs g) a0 (aD g)) (hk : (detsOk ops [] ids && lateOk ops ids [] && dstsIn ops a0.tmps.size && Region.noSelect ops && ids.contains k) = true)
    (hend : ∀ g w, S w → R g w → Q .normal (aD g) w) : (Code.region id ops true).wp P Q a0 w0 := by
  simp only [Bool.and_eq_true] at hk
  obtain ⟨⟨⟨⟨k1, k3⟩, k4⟩, k5⟩, k6⟩ := hk
  refine wp_region_any hm ?_
  have hnone : ∀ j, (Array.replicate ops.size false).getD j false = false := fun j => by
    by_cases h : j < ops.size <;> simp [h]
  refine mk_all hids (vs_at hvs) (List.contains_iff_mem.1 k6) hD k1 k3 k4 k5 hSB hRB hend ops.size _ a0 _ 0 ?_ hS (fun h => ?_) (by simp) (fun i o _ h => ?_) ?_
  · exact ⟨rfl, rfl, fun t j u h => (by rw [hnone] at h; cases h.1), fun _ _ => rfl⟩
  · rw [hnone] at h; cases h
  · rw [hnone] at h; cases h
  · unfold cnt
    exact Nat.le_trans List.countP_le_length (by simp)
end
end
section
set_option maxRecDepth 100000
set_option linter.unusedSimpArgs false
set_option linter.unusedVariables false
open Go.RowKit
theorem hh_lt : pp < 57896044618658097711785492504343953926634992332820282019728792003956564819968 := by decide
theorem told_mod (P : A2) : told P % 57896044618658097711785492504343953926634992332820282019728792003956564819968 = P.2.val := by
  have a := P.2.isLt
  have b := hh_lt
  unfold told
  split <;> omega
theorem told_div (P : A2) : told P / 57896044618658097711785492504343953926634992332820282019728792003956564819968 % 2 = 1 ↔ P.1.val % 2 = 1 := by
  have a := P.2.isLt
  have b := hh_lt
  unfold told
  split <;> omega
theorem told_lt (P : A2) : told P < 256 ^ 32 := by
  have a := P.2.isLt
  have b := hh_lt
  have c : (256 : Nat) ^ 32 = 115792089237316195423570985008687907853269984665640564039457584007913129639936 := by decide
  rw [c]
  unfold told
  split <;> omega
theorem mul_on {d x y : Fin pp} (h : y * y - x * x - 1 - d * (x * x) * (y * y) = 0) : x * x * (d * (y * y) + 1) = y * y - 1 := by grind
/-- A point's bytes are read. -/
theorem dec_told {P : A2} (hP : On P) : decOk (told P) = true := by
  have e0 := told_mod P
  have e1 := told_div P
  have hlt := P.2.isLt
  unfold decOk
  rw [e0]
  have hyk := ofB_ok P.2.val
  have hy : fp (ofB P.2.val) = P.2 := Fin.ext (by
    show nu (ofB P.2.val) = P.2.val
    rw [nu_ofB, Nat.mod_eq_of_lt (Nat.lt_trans hlt hh_lt)]
    exact Nat.mod_eq_of_lt hlt)
  generalize ofB P.2.val = y at *
  have hv0 : nu (frV y) ≠ 0 := by
    intro e
    have e2 : fp (frV y) = 0 := Fin.ext e
    rw [fr_v hyk] at e2
    exact dy_ne0 (y := fp y) (by grind)
  have hs : quo (frU y) (frV y) % pp = P.1.val * P.1.val % pp := by
    have h1 := quo_v (u := frU y) hv0
    have h2 := mul_on hP
    rw [← hy, ← fr_v hyk, ← fr_u hyk] at h2
    have h3 : (fN (quo (frU y) (frV y))) * fp (frV y) = P.1 * P.1 * fp (frV y) := by
      rw [h2]
      refine Fin.ext ?_
      rw [Fin.val_mul]
      show quo (frU y) (frV y) % pp * nu (frV y) % pp = nu (frU y)
      rw [Nat.mod_mul_mod, h1, nu_mod]
    have h4 := canc (fun e => hv0 (congrArg Fin.val e)) h3
    have h5 := congrArg Fin.val h4
    rw [Fin.val_mul] at h5
    exact h5
  have hr := root_some hv0 hs
  rw [hr, decide_eq_true hlt, Bool.true_and, Bool.true_and, Bool.not_eq_true', Bool.and_eq_false_iff]
  by_cases ho : P.1.val % 2 = 1
  · right
    rw [decide_eq_false_iff_not]
    intro e
    have h6 := rootL_sq (frU_ok hyk) (frV_ok hyk) hv0 hr
    rw [e, hs, Nat.zero_mul] at h6
    have h7 : P.1 * P.1 = 0 := Fin.ext (by
      rw [Fin.val_mul]
      exact h6.symm)
    have h8 : P.1 = 0 := by rcases fp_dom h7 with h | h <;> exact h
    rw [h8] at ho
    exact absurd ho (by decide)
  · left
    rw [decide_eq_false_iff_not, e1]
    exact ho
/-- What is read of a point's bytes is that point. -/
theorem dcA_told {P : A2} (hP : On P) : dcA (told P) = P := by
  have h := dec_told hP
  have h1 := is_told (is_dec h)
  rw [dec_back (told_lt P) h] at h1
  exact told_inj (dcA_on h) hP h1.symm
/-- The base's bytes. -/
theorem ba_told : told bA = byN := by
  unfold told bA
  show nu (ofB byN) + (if nu (ofB bxN) % 2 = 1 then _ else 0) = _
  rw [nu_ofB, nu_ofB]
  decide
theorem b45 : nu (mulL (smL 4) (invL (smL 5))) = byN := by
  have h1 := nu_mulP (invL (smL 5)) (smL 5)
  have h2 := inv_one (smL 5)
  have n5 : nu (smL 5) = 5 := nu_smL (by decide)
  have n4 : nu (smL 4) = 4 := nu_smL (by decide)
  rw [n5, if_neg (by decide), nu_mulP, n5] at h2
  have h3 : fp (mulL (smL 4) (invL (smL 5))) = fN byN := by
    refine canc (z := fp (smL 5)) (fun e => absurd (n5.symm.trans (congrArg Fin.val e)) (by decide)) ?_
    refine Fin.ext ?_
    rw [Fin.val_mul, Fin.val_mul]
    show nu (mulL (smL 4) (invL (smL 5))) * nu (smL 5) % pp = byN % pp * nu (smL 5) % pp
    rw [nu_mulP, n4, n5, Nat.mod_mul_mod, Nat.mul_assoc, Nat.mul_mod, Nat.mul_comm (nu _) 5, h2]
    decide
  have h4 : nu (mulL (smL 4) (invL (smL 5))) = byN % pp := congrArg Fin.val h3
  rw [h4]
  decide
/-- The document's point of bytes that tell one. -/
def decR (N : Nat) : Rp := ⟨if N / 57896044618658097711785492504343953926634992332820282019728792003956564819968 % 2 = 1 then negL (rootL (frU (ofB (N % 57896044618658097711785492504343953926634992332820282019728792003956564819968))) (frV (ofB (N % 57896044618658097711785492504343953926634992332820282019728792003956564819968)))) else rootL (frU (ofB (N % 57896044618658097711785492504343953926634992332820282019728792003956564819968))) (frV (ofB (N % 57896044618658097711785492504343953926634992332820282019728792003956564819968))), ofB (N % 57896044618658097711785492504343953926634992332820282019728792003956564819968), smL 1⟩
theorem decR_ok (N : Nat) : (decR N).ok := by
  refine ⟨?_, ofB_ok _, sm_ok1⟩
  show Lm.ok (if _ then _ else _)
  split
  · exact negL_ok _
  · exact rootL_ok (frU_ok (ofB_ok _)) (frV_ok (ofB_ok _))
theorem decR_ir {N : Nat} (h : decOk N = true) : Ir (decR N) (dcA N) := ir_dec h rfl rfl rfl
theorem byN_ok : decOk byN = true := by rw [← ba_told]; exact dec_told on_bA
/-- The document's base. -/
def baR : Rp := decR byN
theorem baR_ok : baR.ok := decR_ok _
theorem baR_ir : Ir baR bA := by
  have h := decR_ir byN_ok
  have e : dcA byN = bA := by rw [← ba_told]; exact dcA_told on_bA
  rwa [e] at h
theorem results_two_rows {P : Program} {fn : Func} {p q : Tmp} {ty tz : TypeId} (h : fn.results = #[.cell p ty, .cell q tz]) (tmps : Array Value) (w : World) (g k : Nat) (t u : TypeId) (cs ds : Array Value) (fr gr : Nat × Nat) (d e : TypeDesc)
    (hp : tmps.getD p undef = .pointer (some ⟨g, 0, none⟩)) (hg : w.heap[g]? = some (.cells cs t fr)) (hu : P.underlying ty = some d) (hd : (match d with | .struct _ | .array _ _ => true | _ => false) = true) (hi : (P.info? ty).map (·.size) = some cs.size)
    (hq : tmps.getD q undef = .pointer (some ⟨k, 0, none⟩)) (hk : w.heap[k]? = some (.cells ds u gr)) (hv : P.underlying tz = some e) (he : (match e with | .struct _ | .array _ _ => true | _ => false) = true) (hj : (P.info? tz).map (·.size) = some ds.size) :
    (results fn tmps).run P w = .ok (.tuple #[.agg cs, .agg ds]) w := by
  have hp' : tmps[p]?.getD undef = .pointer (some ⟨g, 0, none⟩) := by simpa using hp
  have hq' : tmps[q]?.getD undef = .pointer (some ⟨k, 0, none⟩) := by simpa using hq
  simp [results, h, hp', hq', asAddr, run_loadVar_row w g t ty cs fr d hg hu hd hi, run_loadVar_row w k u tz ds gr e hk hv he hj]
end
section
set_option maxRecDepth 100000
set_option linter.unusedSimpArgs false
set_option linter.unusedVariables false
open Go.RowKit
/-- Points that lie one behind the other. -/
def PtRd (w : World) (b : Nat) (l : List Pm) : Prop := b < w.heap.size ∧ ∀ (k : Nat) (s : Pm), l[k]? = some s → ∀ (j : Nat) (v : Value), (PL s)[j]? = some v → w.cell? ⟨b, 20 * k + j, none⟩ = some v
theorem PtRd.below {w w' : World} {b : Nat} {l : List Pm} (h : PtRd w b l) (hb : Below w.heap.size w w') : PtRd w' b l :=
  ⟨Nat.lt_of_lt_of_le h.1 hb.size, fun k s hs j v hv => (hb.cell (p := ⟨b, 20 * k + j, none⟩) h.1).trans (h.2 k s hs j v hv)⟩
/-- The sum of points. -/
def suP (l : List Pm) : Pm := l.foldl adP ze1
theorem suP_take (l : List Pm) {j : Nat} {s : Pm} (hs : l[j]? = some s) : suP (l.take (j + 1)) = adP (suP (l.take j)) s := by
  unfold suP
  rw [List.take_add_one, hs, List.foldl_append]
  rfl
theorem fold_ok : ∀ (l : List Pm) {a : Pm}, (∀ s ∈ l, s.ok) → a.ok → (l.foldl adP a).ok
  | [], _, _, ha => ha
  | s :: r, _, h, ha => fold_ok r (fun t ht => h t (List.mem_cons_of_mem _ ht)) (adP_ok ha (h s (List.mem_cons_self ..)))
theorem suP_ok {l : List Pm} (h : ∀ s ∈ l, s.ok) : (suP l).ok := fold_ok l h ze1_ok
theorem wpList_indexAt {P : Program} {ops : Array Oper} {rest : List Oper} {o : Oper} {a : Act} {w : World} {Q : Exit → Act → World → Prop} (hgd : o.guard = none) (T : TypeId) (x y : Operand) (ho : o.op = .indexAddr T x y) (u v r : Value) (hx : a.eval x = u) (hy : a.eval y = v)
    (hi : (Instr.indexAt T u v).run P w = .ok r w) (h : wpList P ops Q rest (a.put o.dst r) w) : wpList P ops Q (o :: rest) a w := by
  refine wpList_plain hgd fun _ hK => ?_
  unfold Oper.wp execOp
  simp only [ho, Sem.run_bind, Sem.run_pure, Result.andThen_ok, hx, hy, hi]
  exact hK _ _ h
def sideP (l : List Pm) : List Value := l.flatMap PL
theorem sideP_get : ∀ (l : List Pm) (k : Nat) (s : Pm) (j : Nat), l[k]? = some s → j < 20 → (sideP l)[20 * k + j]? = (PL s)[j]?
  | [], k, s, j, h, _ => by simp at h
  | t :: l, 0, s, j, h, hj => by
    obtain rfl : t = s := by simpa using h
    show (PL t ++ sideP l)[20 * 0 + j]? = _
    rw [Nat.mul_zero, Nat.zero_add, List.getElem?_append_left (by rw [PL_length]; exact hj)]
  | t :: l, k + 1, s, j, h, hj => by
    have ih := sideP_get l k s j (by simpa using h) hj
    show (PL t ++ sideP l)[20 * (k + 1) + j]? = _
    rw [List.getElem?_append_right (by rw [PL_length]; omega), PL_length, show 20 * (k + 1) + j - 20 = 20 * k + j by omega, ih]
theorem sideP_rd (w : World) (l : List Pm) (T : TypeId) : PtRd (w.alloc (.cells (sideP l).toArray T)) w.heap.size l := by
  refine ⟨by simp, fun k s hs j v hv => ?_⟩
  have hj : j < 20 := by
    have := (List.getElem?_eq_some_iff.1 hv).1
    rwa [PL_length] at this
  have hr : Row (w.alloc (.cells (sideP l).toArray T)) w.heap.size T (sideP l) := Row.new w (sideP l) T
  refine hr.cell ?_
  rw [sideP_get l k s j hs hj]
  exact hv
theorem fill_pts (len : Nat) (l : List Pm) (hlen : len = l.length) (parts : List (Nat × Value)) (hp : parts = ((l.map fun s => Value.agg (PL s).toArray).zipIdx 0).map fun x => (x.2, x.1)) (z : Value) :
    Instr.fill (fun i => some (i * 20, 20)) ((Array.range (len * 20)).map (z.cells[· % z.cells.size]!)) parts = some (sideP l).toArray := by
  rw [hp]
  have hw := Great.fill_whole (s := 20) (by decide) (l.map fun s => Value.agg (PL s).toArray) ((Array.range (len * 20)).map (z.cells[· % z.cells.size]!)) (fun v hv => by
    obtain ⟨s, _, rfl⟩ := List.mem_map.1 hv
    show (PL s).toArray.size = 20
    rw [List.size_toArray, PL_length]) (by simp [hlen])
  rw [hw]
  congr 2
  unfold sideP
  rw [List.flatMap_map]
  rfl
theorem pt_inf : ((Tryd.prog.info? 47).map fun i => (i.zero.isSome, i.size)) = some (true, 20) := by kernel_rfl
end
end
section
set_option maxRecDepth 100000
set_option linter.unusedSimpArgs false
set_option linter.unusedVariables false
open Go.RowKit
theorem beq_dec {N M : Nat} (hN : N < 256 ^ 32) (hM : M < 256 ^ 32) {b : Bool} (h : decide (N = M) = b) (w : World) : (binOp .eql 22 (.agg (By N 32).toArray) (.agg (By M 32).toArray)).run Tryd.prog w = .ok (.bool b) w := by rw [beq_num hN hM, h]
theorem ng_x (x y : Fin pp) : x * y + y * -x = 0 := by grind
theorem ng_y {d x y : Fin pp} (h : y * y - x * x - 1 - d * (x * x) * (y * y) = 0) : y * y + x * -x = 1 * (1 - (0 - d * (x * x) * (y * y))) := by grind
theorem ng_t (d x y : Fin pp) : d * (x * -x) * (y * y) = 0 - d * (x * x) * (y * y) := by grind
theorem ng_0 (z : Fin pp) : 0 * z = 0 := Fin.zero_mul z
theorem ad_ng {P : A2} (h : On P) : adA P (ngA P) = O2 := by
  have ho := on_ng h
  have e1 : tt P (ngA P) = 0 - dF * (P.1 * P.1) * (P.2 * P.2) := ng_t dF P.1 P.2
  have h1 : (adA P (ngA P)).1 * (1 + tt P (ngA P)) = P.1 * P.2 + P.2 * -P.1 := ad_1 h ho
  have h2 : (adA P (ngA P)).2 * (1 - tt P (ngA P)) = P.2 * P.2 + P.1 * -P.1 := ad_2 h ho
  refine Prod.ext ?_ ?_
  · refine canc (cplus h ho) ?_
    rw [h1]
    exact (ng_x P.1 P.2).trans (ng_0 _).symm
  · refine canc (cminus h ho) ?_
    rw [h2, e1]
    exact ng_y h
theorem qN_2 : qN < 2 ^ 256 := by decide
theorem qN_lt : qN < 256 ^ 32 := by decide
theorem Makes.call {P : Program} {S : World → Prop} {R : Nat → World → Prop} {val : Nat → Value} {o : Oper} {a : Act} {f : FuncId} {fn : Func} {xs : List Operand} {ts : Array TypeId} {args : List Value} (ho : o.op = .call { callee := .value (.func f), args := xs.toArray, argTypes := ts })
    (hf : P.funcs[f]? = some fn) (hn : (fn.name == "runtime.NumGoroutine") = false) (hb : fn.body.isNone = false) (hargs : xs.map a.eval = args)
    (hc : ∀ w, S w → Calls P f args.toArray w fun e w' => ∃ g, e = .returned (val g) ∧ R g w' ∧ Below w.heap.size w w') : Makes P S R val o a := by
  intro w hS K hK
  have hrun : (execOp a.eval o).run P w = .ok (.enter f args.toArray) w := by
    have hn' : ¬ fn.name = "runtime.NumGoroutine" := by simpa using hn
    have hb' : ¬ fn.body = none := fun e => by rw [e] at hb; cases hb
    unfold execOp
    simp [ho, resolve, Act.eval, Deferred.ofValue, invoke, callFunc, hf, hn', hb', ← hargs]
  unfold Oper.wp
  rw [hrun]
  refine Calls.mono (hc w hS) fun e w' he => ?_
  obtain ⟨g, rfl, hr, hbe⟩ := he
  exact hK g w' hbe hr
end
end Go.Proofs.YtmfibncllbgeoaaDoor
