/- A drawn region that stores into an old block at its end, where one value may be taken before or after. -/
import Derived.Test.YthpbipebpaeagaaDoorVars
namespace Go.Proofs.YthpbipebpaeagaaDoor
set_option maxRecDepth 100000
set_option linter.unusedSimpArgs false
open Go.RowKit

section
variable {P : Program}

theorem wp_flat_side {ops : Array Oper} {Q : Exit → Act → World → Prop} {S : World → Prop} {id : Nat} {vs : List (Nat × Value)} {a0 aD : Act} {w0 : World} {x y s : Nat} {ox oy os : Oper} {u v : Value} {T T' : TypeId} {g : Nat} {z c : List Value} {p q : Operand} (hm : P.follows .mixedOrders = true) (hS : S w0.drew)
    (hSB : ∀ w w', S w → Below w.heap.size w w' → S w') (hD : Dets P ops S vs a0 aD)
    (hk : (detsOk ops [] (vs.map (·.1)) && lateOk ops (vs.map (·.1)) [x, y, s] && dstsIn ops a0.tmps.size && Region.noSelect ops && (cnt ops (lateL ops [x, y, s]) == 3) && (Region.ready .any ops (lateL ops [x, y, s]) == [x, y])
      && (Region.ready .any ops ((lateL ops [x, y, s]).setIfInBounds x true) == [y, s]) && (Region.ready .any ops ((lateL ops [x, y, s]).setIfInBounds y true) == [x])
      && (Region.ready .any ops (((lateL ops [x, y, s]).setIfInBounds x true).setIfInBounds y true) == [s]) && (Region.ready .any ops (((lateL ops [x, y, s]).setIfInBounds y true).setIfInBounds x true) == [s]) && (Region.ready .any ops (((lateL ops [x, y, s]).setIfInBounds x true).setIfInBounds s true) == [y])
      && (Region.ready .any ops ((((lateL ops [x, y, s]).setIfInBounds x true).setIfInBounds y true).setIfInBounds s true) == []) && (Region.ready .any ops ((((lateL ops [x, y, s]).setIfInBounds y true).setIfInBounds x true).setIfInBounds s true) == []) && (Region.ready .any ops ((((lateL ops [x, y, s]).setIfInBounds x true).setIfInBounds s true).setIfInBounds y true) == [])) = true)
    (hx : ops[x]? = some ox) (hy : ops[y]? = some oy) (hs : ops[s]? = some os) (gx : ox.guard = none) (gy : oy.guard = none) (gs : os.guard = none)
    (dx dy : Option Tmp) (hdx : ox.dst = dx) (hdy : oy.dst = dy)
    (hX : ∀ w, (execOp aD.eval ox).run P w = .ok (.value u) w) (hY : ∀ w, (execOp aD.eval oy).run P w = .ok (.value v) w)
    (hXY : ∀ w, (execOp (aD.put dy v).eval ox).run P w = .ok (.value u) w) (hYX : ∀ w, (execOp (aD.put dx u).eval oy).run P w = .ok (.value v) w)
    (hcomm : (aD.put dy v).put dx u = (aD.put dx u).put dy v)
    (hst : os.op = .store T p q) (hdn : os.dst = none)
    (hp : (aD.put dx u).eval p = .pointer (some ⟨g, 0, none⟩)) (hq : (aD.put dx u).eval q = .agg c.toArray) (hp2 : ((aD.put dx u).put dy v).eval p = .pointer (some ⟨g, 0, none⟩)) (hq2 : ((aD.put dx u).put dy v).eval q = .agg c.toArray)
    (hr : ∀ w, S w → Row w g T' z) (hi : (P.info? T).map (·.size) = some c.toArray.size) (hsz : z.toArray.size = c.toArray.size) (h1 : c.toArray.all (·.oneCell') = true)
    (hend : ∀ w, S w → Q .normal ((aD.put dx u).put dy v) (w.setRow g c.toArray)) : (Code.region id ops true).wp P Q a0 w0 := by
  simp only [Bool.and_eq_true, beq_iff_eq] at hk
  obtain ⟨⟨⟨⟨⟨⟨⟨⟨⟨⟨⟨⟨⟨c1, c3⟩, c4⟩, c5⟩, c6⟩, r0⟩, rx⟩, ry⟩, rxy⟩, ryx⟩, rxs⟩, f1⟩, f2⟩, f3⟩ := hk
  have ex : x < ops.size := (Array.getElem?_eq_some_iff.1 hx).1
  have ey : y < ops.size := (Array.getElem?_eq_some_iff.1 hy).1
  have es : s < ops.size := (Array.getElem?_eq_some_iff.1 hs).1
  have hone : ∀ (k : Nat) (o : Oper) (a : Act) (w : World) (K : Act → World → Prop), ops[k]? = some o → o.guard = none → o.wp P a w K Q → wpOp P ops Q k K a w := fun k o a w K ho hg h => by
    unfold wpOp
    simp only [ho]
    rw [if_pos (by simp [Region.wanted, hg])]
    exact .inl h
  have hval : ∀ (o : Oper) (a : Act) (w : World) (t : Value) (K : Act → World → Prop), (execOp a.eval o).run P w = .ok (.value t) w → K (a.put o.dst t) w → o.wp P a w K Q := fun o a w t K h hK => by
    unfold Oper.wp
    rw [h]
    exact hK
  refine wp_flat (B := 0) (made := []) (late := [x, y, s]) hm hS hD (fun m h => by cases h) c1 rfl (by simpa using c3) c4 c5 c6 (by simp [ex, ey, es]) hSB (fun _ _ => Nat.zero_le _) fun _ w hS' _ _ => ?_
  have hrow := hr w hS'
  show wpAny P .any ops Q 3 (lateL ops [x, y, s]) aD w
  refine ⟨fun e => (by rw [r0] at e; cases e), fun i hmem => ?_⟩
  rw [r0] at hmem
  rcases List.mem_cons.1 hmem with rfl | hmem
  · refine hone i ox _ _ _ hx gx (hval ox _ _ u _ (hX w) ?_)
    rw [hdx]
    refine ⟨fun e => (by rw [rx] at e; cases e), fun j hj => ?_⟩
    rw [rx] at hj
    rcases List.mem_cons.1 hj with rfl | hj
    · refine hone j oy _ _ _ hy gy (hval oy _ _ v _ (hYX w) ?_)
      rw [hdy]
      refine ⟨fun e => (by rw [rxy] at e; cases e), fun k hk => ?_⟩
      rw [rxy] at hk
      obtain rfl := List.mem_singleton.1 hk
      refine hone k os _ _ _ hs gs (wp_store_row T p q hst g c.toArray hp2 hq2 T' _ hrow hi hsz h1 ?_)
      rw [hdn]
      exact ⟨f1, hend w hS'⟩
    · obtain rfl := List.mem_singleton.1 hj
      refine hone j os _ _ _ hs gs (wp_store_row T p q hst g c.toArray hp hq T' _ hrow hi hsz h1 ?_)
      rw [hdn]
      refine ⟨fun e => (by rw [rxs] at e; cases e), fun k hk => ?_⟩
      rw [rxs] at hk
      obtain rfl := List.mem_singleton.1 hk
      refine hone k oy _ _ _ hy gy (hval oy _ _ v _ (hYX _) ?_)
      rw [hdy]
      exact ⟨f3, hend w hS'⟩
  · obtain rfl := List.mem_singleton.1 hmem
    refine hone i oy _ _ _ hy gy (hval oy _ _ v _ (hY w) ?_)
    rw [hdy]
    refine ⟨fun e => (by rw [ry] at e; cases e), fun j hj => ?_⟩
    rw [ry] at hj
    obtain rfl := List.mem_singleton.1 hj
    refine hone j ox _ _ _ hx gx (hval ox _ _ u _ (hXY w) ?_)
    rw [hdx, hcomm]
    refine ⟨fun e => (by rw [ryx] at e; cases e), fun k hk => ?_⟩
    rw [ryx] at hk
    obtain rfl := List.mem_singleton.1 hk
    refine hone k os _ _ _ hs gs (wp_store_row T p q hst g c.toArray hp2 hq2 T' _ hrow hi hsz h1 ?_)
    rw [hdn]
    exact ⟨f2, hend w hS'⟩

theorem exec_extract {o : Oper} {a : Act} (x : Operand) (n : Nat) (ho : o.op = .extract x n) (u r : Value) (hx : a.eval x = u) (hi : ∀ w, (Instr.extract u n).run P w = .ok r w) : ∀ w, (execOp a.eval o).run P w = .ok (.value r) w := fun w => by
  unfold execOp
  simp only [ho, Sem.run_bind, Sem.run_pure, Result.andThen_ok, hx, hi]
/-- One new variable, stored into while other values may still be taken. -/
theorem wp_vars_one {ops : Array Oper} {Q : Exit → Act → World → Prop} {S : World → Prop} {id : Nat} {B : Nat} {vs : List (Nat × Value)} {a0 aD : Act} {w0 : World} {k1 s1 : Nat} {o1 : Oper} {T1 L1 : TypeId} {z1 c1 : List Value} {x1 y1 : Operand} (hm : P.follows .mixedOrders = true) (hS0 : S w0.drew)
    (hSB : ∀ w w', S w → Below w.heap.size w w' → S w') (hSR : ∀ w g cs, S w → B ≤ g → S (w.setRow g cs)) (hB : ∀ w, S w → B ≤ w.heap.size)
    (hD : Dets P ops S vs a0 aD) (hA1 : AllocOp P ops ⟨k1, T1, z1⟩)
    (hk : (detsOk ops [k1] (vs.map (·.1)) && allocsOk ops [k1] && coverOk ops (vs.map (·.1) ++ [k1]) [s1] && dstsIn ops a0.tmps.size && Region.noSelect ops && nodupOk [s1]) = true)
    (h1 : ops[s1]? = some o1) (g1 : o1.guard = none) (d1 : Option Tmp) (hd1 : dstOf ops k1 = d1) (hst1 : o1.op = .store L1 x1 y1) (hn1 : o1.dst = none)
    (hx1 : ∀ p : Nat, (aD.put d1 (.pointer (some ⟨p, 0, none⟩))).eval x1 = .pointer (some ⟨p, 0, none⟩)) (hy1 : ∀ p : Nat, (aD.put d1 (.pointer (some ⟨p, 0, none⟩))).eval y1 = .agg c1.toArray)
    (hi1 : (P.info? L1).map (·.size) = some c1.toArray.size) (hz1 : z1.toArray.size = c1.toArray.size) (ho1 : c1.toArray.all (·.oneCell') = true)
    (hend : ∀ (p : Nat) w, S w → B ≤ p → Row w p T1 c1 → Q .normal (aD.put d1 (.pointer (some ⟨p, 0, none⟩))) w) : (Code.region id ops true).wp P Q a0 w0 := by
  refine wp_vars (B := B) (vars := [⟨some k1, 0, T1, z1, c1, s1⟩]) hm hS0 hD ?_ ?_ hk hSB ?_ hB ?_ ?_ ?_
  · intro v hv k hk'
    obtain rfl := List.mem_singleton.1 hv
    cases hk'; exact hA1
  · have hp : ∀ gs : Nat → Nat, putVars ops gs (allocsOf [⟨some k1, 0, T1, z1, c1, s1⟩]) aD = aD.put d1 (.pointer (some ⟨gs k1, 0, none⟩)) := fun gs => by
      simp only [allocsOf, List.filterMap_cons, List.filterMap_nil, putVars, hd1]
    intro v hv
    obtain rfl := List.mem_singleton.1 hv
    exact ⟨o1, L1, x1, y1, h1, g1, hn1, hst1, fun gs => (congrArg (fun b : Act => b.eval x1) (hp gs)).trans (hx1 _), fun gs => (congrArg (fun b : Act => b.eval y1) (hp gs)).trans (hy1 _), hi1, hz1, ho1⟩
  · intro w g cs hS hg
    refine hSR w g cs hS (hg.resolve_right ?_)
    rintro ⟨v, hv, hva, _⟩
    obtain rfl := List.mem_singleton.1 hv
    cases hva
  · intro v hv v' hv' hva
    obtain rfl := List.mem_singleton.1 hv
    cases hva
  · intro v hv hva
    obtain rfl := List.mem_singleton.1 hv
    cases hva
  · intro gs w hS' hge hrows _
    have r1 := hrows ⟨some k1, 0, T1, z1, c1, s1⟩ (by simp)
    have b1 := hge ⟨some k1, 0, T1, z1, c1, s1⟩ (by simp) k1 rfl
    have := hend (gs k1) w hS' b1 r1
    simpa only [allocsOf, List.filterMap_cons, List.filterMap_nil, putVars, hd1] using this
end
end Go.Proofs.YthpbipebpaeagaaDoor
