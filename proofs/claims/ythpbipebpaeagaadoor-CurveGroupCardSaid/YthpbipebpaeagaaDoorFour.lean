/- A drawn region at whose end two whole rows are stored into old blocks, one behind the other. Over any program. Regions that draw their order and make four variables. Over any program. -/
import Derived.Test.YthpbipebpaeagaaDoorSide
import Derived.Test.YthpbipebpaeagaaDoorVars
namespace Go.Proofs.YthpbipebpaeagaaDoor
section
set_option maxRecDepth 100000
open Go.RowKit

section
variable {P : Program}
theorem wp_flat_seq {ops : Array Oper} {Q : Exit → Act → World → Prop} {S : World → Prop} {id : Nat} {vs : List (Nat × Value)} {a0 aD : Act} {w0 : World} {s1 s2 : Nat} {o1 o2 : Oper} {L1 L2 T1 T2 : TypeId} {g1 g2 : Nat} {z1 c1 z2 c2 : List Value} {x1 y1 x2 y2 : Operand} (hm : P.follows .mixedOrders = true) (hS : S w0.drew)
    (hSB : ∀ w w', S w → Below w.heap.size w w' → S w') (hD : Dets P ops S vs a0 aD)
    (hk : (detsOk ops [] (vs.map (·.1)) && lateOk ops (vs.map (·.1)) [s1, s2] && dstsIn ops a0.tmps.size && Region.noSelect ops && (cnt ops (lateL ops [s1, s2]) == 2) && (Region.ready .any ops (lateL ops [s1, s2]) == [s1])
      && (Region.ready .any ops ((lateL ops [s1, s2]).setIfInBounds s1 true) == [s2]) && (Region.ready .any ops (((lateL ops [s1, s2]).setIfInBounds s1 true).setIfInBounds s2 true) == [])) = true)
    (h1 : ops[s1]? = some o1) (h2 : ops[s2]? = some o2) (gd1 : o1.guard = none) (gd2 : o2.guard = none)
    (hst1 : o1.op = .store L1 x1 y1) (hst2 : o2.op = .store L2 x2 y2) (hn1 : o1.dst = none) (hn2 : o2.dst = none)
    (hx1 : aD.eval x1 = .pointer (some ⟨g1, 0, none⟩)) (hy1 : aD.eval y1 = .agg c1.toArray) (hx2 : aD.eval x2 = .pointer (some ⟨g2, 0, none⟩)) (hy2 : aD.eval y2 = .agg c2.toArray) (hne : g2 ≠ g1)
    (hr1 : ∀ w, S w → Row w g1 T1 z1) (hr2 : ∀ w, S w → Row w g2 T2 z2)
    (hi1 : (P.info? L1).map (·.size) = some c1.toArray.size) (hz1 : z1.toArray.size = c1.toArray.size) (ho1 : c1.toArray.all (·.oneCell') = true) (hi2 : (P.info? L2).map (·.size) = some c2.toArray.size) (hz2 : z2.toArray.size = c2.toArray.size) (ho2 : c2.toArray.all (·.oneCell') = true)
    (hend : ∀ w, S w → Q .normal aD ((w.setRow g1 c1.toArray).setRow g2 c2.toArray)) : (Code.region id ops true).wp P Q a0 w0 := by
  simp only [Bool.and_eq_true, beq_iff_eq] at hk
  obtain ⟨⟨⟨⟨⟨⟨⟨k1, k3⟩, k4⟩, k5⟩, k6⟩, r0⟩, r1⟩, r2⟩ := hk
  have e1 : s1 < ops.size := (Array.getElem?_eq_some_iff.1 h1).1
  have e2 : s2 < ops.size := (Array.getElem?_eq_some_iff.1 h2).1
  have hone : ∀ (k : Nat) (o : Oper) (a : Act) (w : World) (K : Act → World → Prop), ops[k]? = some o → o.guard = none → o.wp P a w K Q → wpOp P ops Q k K a w := fun k o a w K ho hg h => by
    unfold wpOp
    simp only [ho]
    rw [if_pos (by simp [Region.wanted, hg])]
    exact .inl h
  refine wp_flat (B := 0) (made := []) (late := [s1, s2]) hm hS hD (fun m h => by cases h) k1 rfl (by simpa using k3) k4 k5 k6 (by simp [e1, e2]) hSB (fun _ _ => Nat.zero_le _) fun _ w hS' _ _ => ?_
  show wpAny P .any ops Q 2 (lateL ops [s1, s2]) aD w
  refine ⟨fun e => (by rw [r0] at e; cases e), fun i hmem => ?_⟩
  rw [r0] at hmem
  obtain rfl := List.mem_singleton.1 hmem
  refine hone i o1 _ _ _ h1 gd1 (wp_store_row L1 x1 y1 hst1 g1 c1.toArray hx1 hy1 T1 _ (hr1 w hS') hi1 hz1 ho1 ?_)
  rw [hn1]
  refine ⟨fun e => (by rw [r1] at e; cases e), fun j hj => ?_⟩
  rw [r1] at hj
  obtain rfl := List.mem_singleton.1 hj
  refine hone j o2 _ _ _ h2 gd2 (wp_store_row L2 x2 y2 hst2 g2 c2.toArray hx2 hy2 T2 _ ((setRow_other w g1 g2 _ hne).trans (hr2 w hS')) hi2 hz2 ho2 ?_)
  rw [hn2]
  exact ⟨r2, hend w hS'⟩
end
end

section
open Go.RowKit

section
variable {P : Program} {ops : Array Oper} {Q : Exit → Act → World → Prop} {S : World → Prop}
/-- The same, four variables being new. -/
theorem wp_vars_four {id : Nat} {B : Nat} {vs : List (Nat × Value)} {a0 aD : Act} {w0 : World} {k1 k2 k3 k4 s1 s2 s3 s4 : Nat} {o1 o2 o3 o4 : Oper} {T1 T2 T3 T4 L1 L2 L3 L4 : TypeId} {z1 z2 z3 z4 c1 c2 c3 c4 : List Value} {x1 y1 x2 y2 x3 y3 x4 y4 : Operand} (hm : P.follows .mixedOrders = true) (hS0 : S w0.drew)
    (hSB : ∀ w w', S w → Below w.heap.size w w' → S w') (hSR : ∀ w g cs, S w → B ≤ g → S (w.setRow g cs)) (hB : ∀ w, S w → B ≤ w.heap.size)
    (hD : Dets P ops S vs a0 aD) (hA1 : AllocOp P ops ⟨k1, T1, z1⟩) (hA2 : AllocOp P ops ⟨k2, T2, z2⟩) (hA3 : AllocOp P ops ⟨k3, T3, z3⟩) (hA4 : AllocOp P ops ⟨k4, T4, z4⟩)
    (hk : (detsOk ops [k1, k2, k3, k4] (vs.map (·.1)) && allocsOk ops [k1, k2, k3, k4] && coverOk ops (vs.map (·.1) ++ [k1, k2, k3, k4]) [s1, s2, s3, s4] && dstsIn ops a0.tmps.size && Region.noSelect ops && nodupOk [s1, s2, s3, s4]) = true) (hs12 : s1 ≠ s2) (hs13 : s1 ≠ s3) (hs14 : s1 ≠ s4) (hs23 : s2 ≠ s3) (hs24 : s2 ≠ s4) (hs34 : s3 ≠ s4)
    (h1 : ops[s1]? = some o1) (h2 : ops[s2]? = some o2) (h3 : ops[s3]? = some o3) (h4 : ops[s4]? = some o4) (g1 : o1.guard = none) (g2 : o2.guard = none) (g3 : o3.guard = none) (g4 : o4.guard = none) (d1 d2 d3 d4 : Option Tmp) (hd1 : dstOf ops k1 = d1) (hd2 : dstOf ops k2 = d2) (hd3 : dstOf ops k3 = d3) (hd4 : dstOf ops k4 = d4)
    (hst1 : o1.op = .store L1 x1 y1) (hn1 : o1.dst = none) (hst2 : o2.op = .store L2 x2 y2) (hn2 : o2.dst = none) (hst3 : o3.op = .store L3 x3 y3) (hn3 : o3.dst = none) (hst4 : o4.op = .store L4 x4 y4) (hn4 : o4.dst = none)
    (hx1 : ∀ p q r s : Nat, ((((aD.put d1 (.pointer (some ⟨p, 0, none⟩))).put d2 (.pointer (some ⟨q, 0, none⟩))).put d3 (.pointer (some ⟨r, 0, none⟩))).put d4 (.pointer (some ⟨s, 0, none⟩))).eval x1 = .pointer (some ⟨p, 0, none⟩)) (hy1 : ∀ p q r s : Nat, ((((aD.put d1 (.pointer (some ⟨p, 0, none⟩))).put d2 (.pointer (some ⟨q, 0, none⟩))).put d3 (.pointer (some ⟨r, 0, none⟩))).put d4 (.pointer (some ⟨s, 0, none⟩))).eval y1 = .agg c1.toArray)
    (hx2 : ∀ p q r s : Nat, ((((aD.put d1 (.pointer (some ⟨p, 0, none⟩))).put d2 (.pointer (some ⟨q, 0, none⟩))).put d3 (.pointer (some ⟨r, 0, none⟩))).put d4 (.pointer (some ⟨s, 0, none⟩))).eval x2 = .pointer (some ⟨q, 0, none⟩)) (hy2 : ∀ p q r s : Nat, ((((aD.put d1 (.pointer (some ⟨p, 0, none⟩))).put d2 (.pointer (some ⟨q, 0, none⟩))).put d3 (.pointer (some ⟨r, 0, none⟩))).put d4 (.pointer (some ⟨s, 0, none⟩))).eval y2 = .agg c2.toArray)
    (hx3 : ∀ p q r s : Nat, ((((aD.put d1 (.pointer (some ⟨p, 0, none⟩))).put d2 (.pointer (some ⟨q, 0, none⟩))).put d3 (.pointer (some ⟨r, 0, none⟩))).put d4 (.pointer (some ⟨s, 0, none⟩))).eval x3 = .pointer (some ⟨r, 0, none⟩)) (hy3 : ∀ p q r s : Nat, ((((aD.put d1 (.pointer (some ⟨p, 0, none⟩))).put d2 (.pointer (some ⟨q, 0, none⟩))).put d3 (.pointer (some ⟨r, 0, none⟩))).put d4 (.pointer (some ⟨s, 0, none⟩))).eval y3 = .agg c3.toArray)
    (hx4 : ∀ p q r s : Nat, ((((aD.put d1 (.pointer (some ⟨p, 0, none⟩))).put d2 (.pointer (some ⟨q, 0, none⟩))).put d3 (.pointer (some ⟨r, 0, none⟩))).put d4 (.pointer (some ⟨s, 0, none⟩))).eval x4 = .pointer (some ⟨s, 0, none⟩)) (hy4 : ∀ p q r s : Nat, ((((aD.put d1 (.pointer (some ⟨p, 0, none⟩))).put d2 (.pointer (some ⟨q, 0, none⟩))).put d3 (.pointer (some ⟨r, 0, none⟩))).put d4 (.pointer (some ⟨s, 0, none⟩))).eval y4 = .agg c4.toArray)
    (hi1 : (P.info? L1).map (·.size) = some c1.toArray.size) (hz1 : z1.toArray.size = c1.toArray.size) (ho1 : c1.toArray.all (·.oneCell') = true) (hi2 : (P.info? L2).map (·.size) = some c2.toArray.size) (hz2 : z2.toArray.size = c2.toArray.size) (ho2 : c2.toArray.all (·.oneCell') = true) (hi3 : (P.info? L3).map (·.size) = some c3.toArray.size) (hz3 : z3.toArray.size = c3.toArray.size) (ho3 : c3.toArray.all (·.oneCell') = true) (hi4 : (P.info? L4).map (·.size) = some c4.toArray.size) (hz4 : z4.toArray.size = c4.toArray.size) (ho4 : c4.toArray.all (·.oneCell') = true)
    (hend : ∀ (p q r s : Nat) w, S w → B ≤ p → B ≤ q → B ≤ r → B ≤ s → p ≠ q → p ≠ r → p ≠ s → q ≠ r → q ≠ s → r ≠ s → Row w p T1 c1 → Row w q T2 c2 → Row w r T3 c3 → Row w s T4 c4 → Q .normal ((((aD.put d1 (.pointer (some ⟨p, 0, none⟩))).put d2 (.pointer (some ⟨q, 0, none⟩))).put d3 (.pointer (some ⟨r, 0, none⟩))).put d4 (.pointer (some ⟨s, 0, none⟩))) w) : (Code.region id ops true).wp P Q a0 w0 := by
  refine wp_vars (B := B) (vars := [⟨some k1, 0, T1, z1, c1, s1⟩, ⟨some k2, 0, T2, z2, c2, s2⟩, ⟨some k3, 0, T3, z3, c3, s3⟩, ⟨some k4, 0, T4, z4, c4, s4⟩]) hm hS0 hD ?_ ?_ hk hSB ?_ hB ?_ ?_ ?_
  · intro v hv k hk'
    rcases List.mem_cons.1 hv with rfl | hv
    · cases hk'; exact hA1
    ·
      rcases List.mem_cons.1 hv with rfl | hv
      · cases hk'; exact hA2
      ·
        rcases List.mem_cons.1 hv with rfl | hv
        · cases hk'; exact hA3
        ·
          obtain rfl := List.mem_singleton.1 hv
          cases hk'; exact hA4
  · have hp : ∀ gs : Nat → Nat, putVars ops gs (allocsOf [⟨some k1, 0, T1, z1, c1, s1⟩, ⟨some k2, 0, T2, z2, c2, s2⟩, ⟨some k3, 0, T3, z3, c3, s3⟩, ⟨some k4, 0, T4, z4, c4, s4⟩]) aD = (((aD.put d1 (.pointer (some ⟨gs k1, 0, none⟩))).put d2 (.pointer (some ⟨gs k2, 0, none⟩))).put d3 (.pointer (some ⟨gs k3, 0, none⟩))).put d4 (.pointer (some ⟨gs k4, 0, none⟩)) := fun gs => by
      simp only [allocsOf, List.filterMap_cons, List.filterMap_nil, putVars, hd1, hd2, hd3, hd4]
    intro v hv
    rcases List.mem_cons.1 hv with rfl | hv
    · exact ⟨o1, L1, x1, y1, h1, g1, hn1, hst1, fun gs => (congrArg (fun b : Act => b.eval x1) (hp gs)).trans (hx1 _ _ _ _), fun gs => (congrArg (fun b : Act => b.eval y1) (hp gs)).trans (hy1 _ _ _ _), hi1, hz1, ho1⟩
    ·
      rcases List.mem_cons.1 hv with rfl | hv
      · exact ⟨o2, L2, x2, y2, h2, g2, hn2, hst2, fun gs => (congrArg (fun b : Act => b.eval x2) (hp gs)).trans (hx2 _ _ _ _), fun gs => (congrArg (fun b : Act => b.eval y2) (hp gs)).trans (hy2 _ _ _ _), hi2, hz2, ho2⟩
      ·
        rcases List.mem_cons.1 hv with rfl | hv
        · exact ⟨o3, L3, x3, y3, h3, g3, hn3, hst3, fun gs => (congrArg (fun b : Act => b.eval x3) (hp gs)).trans (hx3 _ _ _ _), fun gs => (congrArg (fun b : Act => b.eval y3) (hp gs)).trans (hy3 _ _ _ _), hi3, hz3, ho3⟩
        ·
          obtain rfl := List.mem_singleton.1 hv
          exact ⟨o4, L4, x4, y4, h4, g4, hn4, hst4, fun gs => (congrArg (fun b : Act => b.eval x4) (hp gs)).trans (hx4 _ _ _ _), fun gs => (congrArg (fun b : Act => b.eval y4) (hp gs)).trans (hy4 _ _ _ _), hi4, hz4, ho4⟩
  · intro w g cs hS hg
    refine hSR w g cs hS (hg.resolve_right ?_)
    rintro ⟨v, hv, hva, _⟩
    rcases List.mem_cons.1 hv with rfl | hv
    · cases hva
    ·
      rcases List.mem_cons.1 hv with rfl | hv
      · cases hva
      ·
        rcases List.mem_cons.1 hv with rfl | hv
        · cases hva
        ·
          obtain rfl := List.mem_singleton.1 hv
          cases hva
  · intro v hv v' hv' hva
    rcases List.mem_cons.1 hv with rfl | hv
    · cases hva
    ·
      rcases List.mem_cons.1 hv with rfl | hv
      · cases hva
      ·
        rcases List.mem_cons.1 hv with rfl | hv
        · cases hva
        ·
          obtain rfl := List.mem_singleton.1 hv
          cases hva
  · intro v hv hva
    rcases List.mem_cons.1 hv with rfl | hv
    · cases hva
    ·
      rcases List.mem_cons.1 hv with rfl | hv
      · cases hva
      ·
        rcases List.mem_cons.1 hv with rfl | hv
        · cases hva
        ·
          obtain rfl := List.mem_singleton.1 hv
          cases hva
  · intro gs w hS' hnew hrows hap
    have hp : putVars ops gs (allocsOf [⟨some k1, 0, T1, z1, c1, s1⟩, ⟨some k2, 0, T2, z2, c2, s2⟩, ⟨some k3, 0, T3, z3, c3, s3⟩, ⟨some k4, 0, T4, z4, c4, s4⟩]) aD = (((aD.put d1 (.pointer (some ⟨gs k1, 0, none⟩))).put d2 (.pointer (some ⟨gs k2, 0, none⟩))).put d3 (.pointer (some ⟨gs k3, 0, none⟩))).put d4 (.pointer (some ⟨gs k4, 0, none⟩)) := by
      simp only [allocsOf, List.filterMap_cons, List.filterMap_nil, putVars, hd1, hd2, hd3, hd4]
    rw [hp]
    exact hend _ _ _ _ w hS' (hnew ⟨some k1, 0, T1, z1, c1, s1⟩ (by simp) k1 rfl) (hnew ⟨some k2, 0, T2, z2, c2, s2⟩ (by simp) k2 rfl) (hnew ⟨some k3, 0, T3, z3, c3, s3⟩ (by simp) k3 rfl) (hnew ⟨some k4, 0, T4, z4, c4, s4⟩ (by simp) k4 rfl) (hap ⟨some k1, 0, T1, z1, c1, s1⟩ (by simp) ⟨some k2, 0, T2, z2, c2, s2⟩ (by simp) hs12) (hap ⟨some k1, 0, T1, z1, c1, s1⟩ (by simp) ⟨some k3, 0, T3, z3, c3, s3⟩ (by simp) hs13) (hap ⟨some k1, 0, T1, z1, c1, s1⟩ (by simp) ⟨some k4, 0, T4, z4, c4, s4⟩ (by simp) hs14) (hap ⟨some k2, 0, T2, z2, c2, s2⟩ (by simp) ⟨some k3, 0, T3, z3, c3, s3⟩ (by simp) hs23) (hap ⟨some k2, 0, T2, z2, c2, s2⟩ (by simp) ⟨some k4, 0, T4, z4, c4, s4⟩ (by simp) hs24) (hap ⟨some k3, 0, T3, z3, c3, s3⟩ (by simp) ⟨some k4, 0, T4, z4, c4, s4⟩ (by simp) hs34)
      (hrows ⟨some k1, 0, T1, z1, c1, s1⟩ (by simp)) (hrows ⟨some k2, 0, T2, z2, c2, s2⟩ (by simp)) (hrows ⟨some k3, 0, T3, z3, c3, s3⟩ (by simp)) (hrows ⟨some k4, 0, T4, z4, c4, s4⟩ (by simp))
end
end

end Go.Proofs.YthpbipebpaeagaaDoor
