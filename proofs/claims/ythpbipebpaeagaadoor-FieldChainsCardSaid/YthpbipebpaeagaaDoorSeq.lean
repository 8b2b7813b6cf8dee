/- A drawn region at whose end two whole rows are stored into old blocks, one behind the other. Over any program. -/
import Derived.Test.YthpbipebpaeagaaDoorSide
namespace Go.Proofs.YthpbipebpaeagaaDoor
set_option maxRecDepth 100000
open Go.RowKit

section
variable {P : Program}
theorem wp_flat_seq {ops : Array Oper} {Q : Exit → Act → World → Prop} {S : World → Prop} {id : Nat} {vs : List (Nat × Value)} {a0 aD : Act} {w0 : World} {s1 s2 : Nat} {o1 o2 : Oper} {L1 L2 T1 T2 : TypeId} {g1 g2 : Nat} {z1 c1 z2 c2 : List Value} {x1 y1 x2 y2 : Operand} (hm : P.follows .mixedOrders = true) (hS : S w0.drew)
    (hSB : ∀ w w', S w → Below w.heap.size w w' → S w') (hD : Dets P ops S vs a0 aD)
    (hk : (detsOk ops [] (vs.map (·.1)) && lateOk ops (vs.map (·.1)) [s1, s2] && dstsIn ops a0.tmps.size && Region.noSelect ops && (cnt ops (lateL ops [s1, s2]) == 2) && (Region.ready .any ops (lateL ops [s1, s2]) == [s1])
      && (Region.ready .any ops ((lateL ops [s1, s2]).setIfInBounds s1 true) == [s2]) && (Region.ready .any ops (((lateL ops [s1, s2]).setIfInBounds s1 true).setIfInBounds s2 true) == [])) = true)
    (h1 : ops[s1]? = some o1) (h2 : ops[s2]? = some o2) (gd1 : o1.guard = none) (gd2 : o2.guard = none)
    (hst1 : o1.op = .store L1 x1 y1) (hst2 : o2.op = .store L2 x2 y2) (hn1 : o1.dst = none) (hn2 : o2.dst = none)
    (hx1 : aD.eval x1 = .pointer (some ⟨g1, 0, none⟩)) (hy1 : aD.eval y1 = .agg c1.toArray) (hx2 : aD.eval x2 = .pointer (some ⟨g2, 0, none⟩)) (hy2 : aD.eval y2 = .agg c2.toArray) (hne : g2 ≠ g1)
    (hr1 : ∀ w, S w → Row w g1 T1 z1) (hr2 : ∀ w, S w → Row w g2 T2 z2)
    (hi1 : (P.info? L1).map (·.size) = some c1.toArray.size) (hz1 : z1.toArray.size = c1.toArray.size) (ho1 : c1.toArray.all (·.oneCell') = true) (hi2 : (P.info? L2).map (·.size) = some c2.toArray.size) (hz2 : z2.toArray.size = c2.toArray.size) (ho2 : c2.toArray.all (·.oneCell') = true)
    (hend : ∀ w, S w → Q .normal aD ((w.setRow g1 c1.toArray).setRow g2 c2.toArray)) : (Code.region id ops true).wp P Q a0 w0 := by
  simp only [Bool.and_eq_true, beq_iff_eq] at hk
  obtain ⟨⟨⟨⟨⟨⟨⟨k1, k3⟩, k4⟩, k5⟩, k6⟩, r0⟩, r1⟩, r2⟩ := hk
  have e1 : s1 < ops.size := (Array.getElem?_eq_some_iff.1 h1).1
  have e2 : s2 < ops.size := (Array.getElem?_eq_some_iff.1 h2).1
  have hone : ∀ (k : Nat) (o : Oper) (a : Act) (w : World) (K : Act → World → Prop), ops[k]? = some o → o.guard = none → o.wp P a w K Q → wpOp P ops Q k K a w := fun k o a w K ho hg h => by
    unfold wpOp
    simp only [ho]
    rw [if_pos (by simp [Region.wanted, hg])]
    exact .inl h
  refine wp_flat (B := 0) (made := []) (late := [s1, s2]) hm hS hD (fun m h => by cases h) k1 rfl (by simpa using k3) k4 k5 k6 (by simp [e1, e2]) hSB (fun _ _ => Nat.zero_le _) fun _ w hS' _ _ => ?_
  show wpAny P .any ops Q 2 (lateL ops [s1, s2]) aD w
  refine ⟨fun e => (by rw [r0] at e; cases e), fun i hmem => ?_⟩
  rw [r0] at hmem
  obtain rfl := List.mem_singleton.1 hmem
  refine hone i o1 _ _ _ h1 gd1 (wp_store_row L1 x1 y1 hst1 g1 c1.toArray hx1 hy1 T1 _ (hr1 w hS') hi1 hz1 ho1 ?_)
  rw [hn1]
  refine ⟨fun e => (by rw [r1] at e; cases e), fun j hj => ?_⟩
  rw [r1] at hj
  obtain rfl := List.mem_singleton.1 hj
  refine hone j o2 _ _ _ h2 gd2 (wp_store_row L2 x2 y2 hst2 g2 c2.toArray hx2 hy2 T2 _ ((setRow_other w g1 g2 _ hne).trans (hr2 w hS')) hi2 hz2 ho2 ?_)
  rw [hn2]
  exact ⟨r2, hend w hS'⟩
end

end Go.Proofs.YthpbipebpaeagaaDoor
