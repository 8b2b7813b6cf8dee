/- The document's points: Add, Neg. The document's points as points of the curve: its sum, its neg, its zero; the numbers stay in their bounds. The document's Mul of points: twice and twice again, the lowest bit first. The document's Bytes of a point. A point that was read lies on the curve, in the program and in the document. -/
import Derived.Test.YthpbipebpaeagaaDoorRq
import Derived.Test.YthpbipebpaeagaaDoorEd
import Derived.Test.YthpbipebpaeagaaDoorPowF
namespace Go.Proofs.YthpbipebpaeagaaDoor
section
set_option maxRecDepth 100000
set_option linter.unusedSimpArgs false
set_option linter.unusedVariables false
open Go.RowKit

structure Rp.ok (r : Rp) : Prop where
  x : r.x.ok
  y : r.y.ok
  z : r.z.ok
theorem z24 : (#[.int .u32 0, .int .u32 0, .int .u32 0, .int .u32 0, .int .u32 0, .int .u32 0, .int .u32 0, .int .u32 0, .int .u32 0, .int .u32 0, .int .u32 0, .int .u32 0, .int .u32 0, .int .u32 0, .int .u32 0, .int .u32 0, .int .u32 0, .int .u32 0, .int .u32 0, .int .u32 0, .int .u32 0, .int .u32 0, .int .u32 0, .int .u32 0] : Array Value) = (RL zeR).toArray := by rw [RL_zero]
theorem rt_x (r : Rp) : ∀ j v, (Nw (nu r.x))[j]? = some v → (RL r)[0 + j]? = some v := part0
theorem rt_y (r : Rp) : ∀ j v, (Nw (nu r.y))[j]? = some v → (RL r)[8 + j]? = some v := part_skip (n := 8) (m := 0) (Nw_length _) part0
theorem rt_z (r : Rp) : ∀ j v, (Nw (nu r.z))[j]? = some v → (RL r)[16 + j]? = some v := part_skip (n := 8) (m := 8) (Nw_length _) (part_skip (n := 8) (m := 0) (Nw_length _) (fun j v h => by rw [Nat.zero_add]; exact h))
theorem fr_x (g : Nat) (w : World) : (Instr.fieldAt 62 (.pointer (some ⟨g, 0, none⟩)) 0).run Tryd.prog w = .ok (.pointer (some ⟨g, 0, none⟩)) w := by kernel_rfl
theorem fr_y (g : Nat) (w : World) : (Instr.fieldAt 62 (.pointer (some ⟨g, 0, none⟩)) 1).run Tryd.prog w = .ok (.pointer (some ⟨g, 8, none⟩)) w := by kernel_rfl
theorem fr_z (g : Nat) (w : World) : (Instr.fieldAt 62 (.pointer (some ⟨g, 0, none⟩)) 2).run Tryd.prog w = .ok (.pointer (some ⟨g, 16, none⟩)) w := by kernel_rfl
theorem nw_len (N : Nat) : (Tryd.prog.info? 30).map (·.size) = some (Nw N).length := nw_size.trans (by rw [Nw_length])
theorem Gives.build3 {P : Program} {S : World → Prop} {o : Oper} {a : Act} (T : TypeId) (x0 x1 x2 : Operand) (ho : o.op = .build T #[(0, x0), (1, x1), (2, x2)]) (u0 u1 u2 v : Value) (h0 : a.eval x0 = u0) (h1 : a.eval x1 = u1) (h2 : a.eval x2 = u2)
    (hrun : ∀ w, (Instr.build T #[(0, u0), (1, u1), (2, u2)]).run P w = .ok v w) : Gives P S o v a :=
  Gives.run fun w _ => by
    unfold execOp
    simp only [ho, Sem.run_bind, Sem.run_pure, List.map_toArray, List.map_cons, List.map_nil, h0, h1, h2, hrun, Result.andThen_ok]
/-- The document's sum of two points. -/
def radP (p q : Rp) (d : Lm) : Rp :=
  ⟨mulL (mulL (addL (mulL p.x q.y) (mulL p.y q.x)) (mulL p.z q.z)) (subL (mulL (mulL p.z q.z) (mulL p.z q.z)) (mulL d (mulL (mulL p.x q.x) (mulL p.y q.y)))),
   mulL (mulL (addL (mulL p.y q.y) (mulL p.x q.x)) (mulL p.z q.z)) (addL (mulL (mulL p.z q.z) (mulL p.z q.z)) (mulL d (mulL (mulL p.x q.x) (mulL p.y q.y)))),
   mulL (addL (mulL (mulL p.z q.z) (mulL p.z q.z)) (mulL d (mulL (mulL p.x q.x) (mulL p.y q.y)))) (subL (mulL (mulL p.z q.z) (mulL p.z q.z)) (mulL d (mulL (mulL p.x q.x) (mulL p.y q.y))))⟩

set_option maxHeartbeats 6400000 in
theorem addp_ref {p q : Rp} {d : Lm} (hp : p.ok) (hk : q.ok) (hd : d.ok) (w : World) :
    Calls Tryd.prog 54 #[.agg (RL p).toArray, .agg (RL q).toArray, .agg (Nw (nu d)).toArray] w fun e w' => e = .returned (.agg (RL (radP p q d)).toArray) ∧ Below w.heap.size w w' := by
  have hb0 := ((((Row.new w (RL p) 62)).alloc (.cells (RL q).toArray 62)).alloc (.cells (Nw (nu d)).toArray 30)).alloc (.cells (RL zeR).toArray 62)
  have hb1 := (((Row.new1 w (.cells (RL p).toArray 62) (RL q) 62)).alloc (.cells (Nw (nu d)).toArray 30)).alloc (.cells (RL zeR).toArray 62)
  have hb2 := ((Row.new2 w (.cells (RL p).toArray 62) (.cells (RL q).toArray 62) (Nw (nu d)) 30)).alloc (.cells (RL zeR).toArray 62)
  have hz := (Row.new3 w (.cells (RL p).toArray 62) (.cells (RL q).toArray 62) (.cells (Nw (nu d)).toArray 30) (RL zeR) 62)
  have hw := Below.alloc4 w (.cells (RL p).toArray 62) (.cells (RL q).toArray 62) (.cells (Nw (nu d)).toArray 30) (.cells (RL zeR).toArray 62)
  go_enter Tryd.func54, Tryd.ntmps54
  go_wp2_with fail
  rw [z24]
  generalize ((((w.alloc (.cells (RL p).toArray 62)).alloc (.cells (RL q).toArray 62)).alloc (.cells (Nw (nu d)).toArray 30)).alloc (.cells (RL zeR).toArray 62)) = W0 at *
  have lt_hb0 := hb0.lt
  have lt_hb1 := hb1.lt
  have lt_hb2 := hb2.lt
  have lt_hz := hz.lt
  refine wp_vars_one (aD := ?aD1) (B := W0.heap.size) (S := fun w' => Below W0.heap.size W0 w') (k1 := 11) (s1 := 12) (T1 := 30) (L1 := 30) (z1 := Nw 0) (c1 := Nw (nu (addL (mulL p.x q.y) (mulL p.y q.x)))) (x1 := .tmp 7) (y1 := .tmp 26)
    (vs := [(0, .pointer (some ⟨w.heap.size, 0, none⟩)), (1, .agg (Nw (nu p.x)).toArray), (2, .pointer (some ⟨w.heap.size + 1, 8, none⟩)), (3, .agg (Nw (nu q.y)).toArray), (4, .agg (Nw (nu (mulL p.x q.y))).toArray), (5, .pointer (some ⟨w.heap.size, 8, none⟩)), (6, .agg (Nw (nu p.y)).toArray), (7, .pointer (some ⟨w.heap.size + 1, 0, none⟩)), (8, .agg (Nw (nu q.x)).toArray), (9, .agg (Nw (nu (mulL p.y q.x))).toArray), (10, .agg (Nw (nu (addL (mulL p.x q.y) (mulL p.y q.x)))).toArray)]) (by kernel_rfl) ((Below.refl _ _).drew) (fun _ _ h k => S_trans h k) (fun _ _ cs h hg => S_row h hg cs) (fun _ h => h.size) ?hD1 (.of rfl rfl rfl (fun w' => nw_alloc w')) ?hk1 rfl rfl (some 7) rfl rfl rfl ?e11 ?f11 (nw_info _) (Nw_sz _ _) (Nw_one _) ?h1
  case hD1 =>
    refine .step (some 16) rfl rfl (by kernel_rfl) (Gives.fieldAt 62 (.tmp 3) 0 rfl _ _ rfl (fun w' => fr_x (w.heap.size) w')) ?_
    simp only [Act.put, List.setIfInBounds_toArray, List.set_cons_zero, List.set_cons_succ]
    refine .step (some 17) rfl rfl (by kernel_rfl) (Gives.load_at 30 (.tmp 16) rfl ⟨w.heap.size, 0, none⟩ rfl (Nw (nu p.x)) _ (fun w' h => (hb0.belowAll h).part 0 (Nw (nu p.x)) (rt_x _)) Tryd.underlying30 rfl (nw_len _)) ?_
    simp only [Act.put, List.setIfInBounds_toArray, List.set_cons_zero, List.set_cons_succ]
    refine .step (some 18) rfl rfl (by kernel_rfl) (Gives.fieldAt 62 (.tmp 4) 1 rfl _ _ rfl (fun w' => fr_y (w.heap.size + 1) w')) ?_
    simp only [Act.put, List.setIfInBounds_toArray, List.set_cons_zero, List.set_cons_succ]
    refine .step (some 19) rfl rfl (by kernel_rfl) (Gives.load_at 30 (.tmp 18) rfl ⟨w.heap.size + 1, 8, none⟩ rfl (Nw (nu q.y)) _ (fun w' h => (hb1.belowAll h).part 8 (Nw (nu q.y)) (rt_y _)) Tryd.underlying30 rfl (nw_len _)) ?_
    simp only [Act.put, List.setIfInBounds_toArray, List.set_cons_zero, List.set_cons_succ]
    refine .step (some 20) rfl rfl (by kernel_rfl) (Gives.call (args := [.agg (Nw (nu p.x)).toArray, .agg (Nw (nu q.y)).toArray]) rfl Tryd.func32 (by kernel_rfl) (by kernel_rfl) rfl (fun w' h => mulr_nu p.x q.y w')) ?_
    simp only [Act.put, List.setIfInBounds_toArray, List.set_cons_zero, List.set_cons_succ]
    refine .step (some 21) rfl rfl (by kernel_rfl) (Gives.fieldAt 62 (.tmp 3) 1 rfl _ _ rfl (fun w' => fr_y (w.heap.size) w')) ?_
    simp only [Act.put, List.setIfInBounds_toArray, List.set_cons_zero, List.set_cons_succ]
    refine .step (some 22) rfl rfl (by kernel_rfl) (Gives.load_at 30 (.tmp 21) rfl ⟨w.heap.size, 8, none⟩ rfl (Nw (nu p.y)) _ (fun w' h => (hb0.belowAll h).part 8 (Nw (nu p.y)) (rt_y _)) Tryd.underlying30 rfl (nw_len _)) ?_
    simp only [Act.put, List.setIfInBounds_toArray, List.set_cons_zero, List.set_cons_succ]
    refine .step (some 23) rfl rfl (by kernel_rfl) (Gives.fieldAt 62 (.tmp 4) 0 rfl _ _ rfl (fun w' => fr_x (w.heap.size + 1) w')) ?_
    simp only [Act.put, List.setIfInBounds_toArray, List.set_cons_zero, List.set_cons_succ]
    refine .step (some 24) rfl rfl (by kernel_rfl) (Gives.load_at 30 (.tmp 23) rfl ⟨w.heap.size + 1, 0, none⟩ rfl (Nw (nu q.x)) _ (fun w' h => (hb1.belowAll h).part 0 (Nw (nu q.x)) (rt_x _)) Tryd.underlying30 rfl (nw_len _)) ?_
    simp only [Act.put, List.setIfInBounds_toArray, List.set_cons_zero, List.set_cons_succ]
    refine .step (some 25) rfl rfl (by kernel_rfl) (Gives.call (args := [.agg (Nw (nu p.y)).toArray, .agg (Nw (nu q.x)).toArray]) rfl Tryd.func32 (by kernel_rfl) (by kernel_rfl) rfl (fun w' h => mulr_nu p.y q.x w')) ?_
    simp only [Act.put, List.setIfInBounds_toArray, List.set_cons_zero, List.set_cons_succ]
    refine .step (some 26) rfl rfl (by kernel_rfl) (Gives.call (args := [.agg (Nw (nu (mulL p.x q.y))).toArray, .agg (Nw (nu (mulL p.y q.x))).toArray]) rfl Tryd.func28 (by kernel_rfl) (by kernel_rfl) rfl (fun w' h => addr_nu (mulL p.x q.y) (mulL p.y q.x) w')) ?_
    simp only [Act.put, List.setIfInBounds_toArray, List.set_cons_zero, List.set_cons_succ]
    exact .nil
  case hk1 => kernel_rfl
  case e11 => intro i1; rfl
  case f11 => intro i1; rfl
  case h1 =>
  intro g7 W1 hb hg1 h7
  have ge_g7 := Nat.le_trans hw.size hg1
  have ne_hb0_g7 : w.heap.size ≠ g7 := by omega
  have ne_hb1_g7 : w.heap.size + 1 ≠ g7 := by omega
  have ne_hb2_g7 : w.heap.size + 1 + 1 ≠ g7 := by omega
  have ne_hz_g7 : w.heap.size + 1 + 1 + 1 ≠ g7 := by omega
  clear lt_hb0 lt_hb1 lt_hb2 lt_hz
  replace hb0 := hb0.belowAll hb
  replace hb1 := hb1.belowAll hb
  replace hb2 := hb2.belowAll hb
  replace hz := hz.belowAll hb
  replace hw := hw.trans (hb.mono hw.size)
  clear hb
  go_wp2_with fail
  have lt_hb0 := hb0.lt
  have lt_hb1 := hb1.lt
  have lt_hb2 := hb2.lt
  have lt_hz := hz.lt
  have lt_h7 := h7.lt
  refine wp_vars_two (aD := ?aD2) (B := W1.heap.size) (S := fun w' => Below W1.heap.size W1 w') (k1 := 10) (s1 := 12) (T1 := 30) (L1 := 30) (z1 := Nw 0) (c1 := Nw (nu (mulL p.x q.x))) (x1 := .tmp 8) (y1 := .tmp 31) (k2 := 11) (s2 := 13) (T2 := 30) (L2 := 30) (z2 := Nw 0) (c2 := Nw (nu (mulL p.y q.y))) (x2 := .tmp 9) (y2 := .tmp 36)
    (vs := [(0, .pointer (some ⟨w.heap.size, 0, none⟩)), (1, .agg (Nw (nu p.x)).toArray), (2, .pointer (some ⟨w.heap.size + 1, 0, none⟩)), (3, .agg (Nw (nu q.x)).toArray), (4, .agg (Nw (nu (mulL p.x q.x))).toArray), (5, .pointer (some ⟨w.heap.size, 8, none⟩)), (6, .agg (Nw (nu p.y)).toArray), (7, .pointer (some ⟨w.heap.size + 1, 8, none⟩)), (8, .agg (Nw (nu q.y)).toArray), (9, .agg (Nw (nu (mulL p.y q.y))).toArray)]) (by kernel_rfl) ((Below.refl _ _).drew) (fun _ _ h k => S_trans h k) (fun _ _ cs h hg => S_row h hg cs) (fun _ h => h.size) ?hD2 (.of rfl rfl rfl (fun w' => nw_alloc w')) (.of rfl rfl rfl (fun w' => nw_alloc w')) ?hk2 (by decide) rfl rfl rfl rfl (some 8) (some 9) rfl rfl rfl rfl rfl rfl ?e21 ?f21 ?e22 ?f22 (nw_info _) (Nw_sz _ _) (Nw_one _) (nw_info _) (Nw_sz _ _) (Nw_one _) ?h2
  case hD2 =>
    refine .step (some 27) rfl rfl (by kernel_rfl) (Gives.fieldAt 62 (.tmp 3) 0 rfl _ _ rfl (fun w' => fr_x (w.heap.size) w')) ?_
    simp only [Act.put, List.setIfInBounds_toArray, List.set_cons_zero, List.set_cons_succ]
    refine .step (some 28) rfl rfl (by kernel_rfl) (Gives.load_at 30 (.tmp 27) rfl ⟨w.heap.size, 0, none⟩ rfl (Nw (nu p.x)) _ (fun w' h => (hb0.belowAll h).part 0 (Nw (nu p.x)) (rt_x _)) Tryd.underlying30 rfl (nw_len _)) ?_
    simp only [Act.put, List.setIfInBounds_toArray, List.set_cons_zero, List.set_cons_succ]
    refine .step (some 29) rfl rfl (by kernel_rfl) (Gives.fieldAt 62 (.tmp 4) 0 rfl _ _ rfl (fun w' => fr_x (w.heap.size + 1) w')) ?_
    simp only [Act.put, List.setIfInBounds_toArray, List.set_cons_zero, List.set_cons_succ]
    refine .step (some 30) rfl rfl (by kernel_rfl) (Gives.load_at 30 (.tmp 29) rfl ⟨w.heap.size + 1, 0, none⟩ rfl (Nw (nu q.x)) _ (fun w' h => (hb1.belowAll h).part 0 (Nw (nu q.x)) (rt_x _)) Tryd.underlying30 rfl (nw_len _)) ?_
    simp only [Act.put, List.setIfInBounds_toArray, List.set_cons_zero, List.set_cons_succ]
    refine .step (some 31) rfl rfl (by kernel_rfl) (Gives.call (args := [.agg (Nw (nu p.x)).toArray, .agg (Nw (nu q.x)).toArray]) rfl Tryd.func32 (by kernel_rfl) (by kernel_rfl) rfl (fun w' h => mulr_nu p.x q.x w')) ?_
    simp only [Act.put, List.setIfInBounds_toArray, List.set_cons_zero, List.set_cons_succ]
    refine .step (some 32) rfl rfl (by kernel_rfl) (Gives.fieldAt 62 (.tmp 3) 1 rfl _ _ rfl (fun w' => fr_y (w.heap.size) w')) ?_
    simp only [Act.put, List.setIfInBounds_toArray, List.set_cons_zero, List.set_cons_succ]
    refine .step (some 33) rfl rfl (by kernel_rfl) (Gives.load_at 30 (.tmp 32) rfl ⟨w.heap.size, 8, none⟩ rfl (Nw (nu p.y)) _ (fun w' h => (hb0.belowAll h).part 8 (Nw (nu p.y)) (rt_y _)) Tryd.underlying30 rfl (nw_len _)) ?_
    simp only [Act.put, List.setIfInBounds_toArray, List.set_cons_zero, List.set_cons_succ]
    refine .step (some 34) rfl rfl (by kernel_rfl) (Gives.fieldAt 62 (.tmp 4) 1 rfl _ _ rfl (fun w' => fr_y (w.heap.size + 1) w')) ?_
    simp only [Act.put, List.setIfInBounds_toArray, List.set_cons_zero, List.set_cons_succ]
    refine .step (some 35) rfl rfl (by kernel_rfl) (Gives.load_at 30 (.tmp 34) rfl ⟨w.heap.size + 1, 8, none⟩ rfl (Nw (nu q.y)) _ (fun w' h => (hb1.belowAll h).part 8 (Nw (nu q.y)) (rt_y _)) Tryd.underlying30 rfl (nw_len _)) ?_
    simp only [Act.put, List.setIfInBounds_toArray, List.set_cons_zero, List.set_cons_succ]
    refine .step (some 36) rfl rfl (by kernel_rfl) (Gives.call (args := [.agg (Nw (nu p.y)).toArray, .agg (Nw (nu q.y)).toArray]) rfl Tryd.func32 (by kernel_rfl) (by kernel_rfl) rfl (fun w' h => mulr_nu p.y q.y w')) ?_
    simp only [Act.put, List.setIfInBounds_toArray, List.set_cons_zero, List.set_cons_succ]
    exact .nil
  case hk2 => kernel_rfl
  case e21 => intro i1 i2; rfl
  case f21 => intro i1 i2; rfl
  case e22 => intro i1 i2; rfl
  case f22 => intro i1 i2; rfl
  case h2 =>
  intro g8 g9 W2 hb hg20 hg21 hn201 h8 h9
  simp only [Act.put, List.setIfInBounds_toArray, List.set_cons_zero, List.set_cons_succ]
  have ge_g8 := Nat.le_trans hw.size hg20
  have ne_hb0_g8 : w.heap.size ≠ g8 := by omega
  have ne_hb1_g8 : w.heap.size + 1 ≠ g8 := by omega
  have ne_hb2_g8 : w.heap.size + 1 + 1 ≠ g8 := by omega
  have ne_hz_g8 : w.heap.size + 1 + 1 + 1 ≠ g8 := by omega
  have ne_h7_g8 : g7 ≠ g8 := by omega
  have ge_g9 := Nat.le_trans hw.size hg21
  have ne_hb0_g9 : w.heap.size ≠ g9 := by omega
  have ne_hb1_g9 : w.heap.size + 1 ≠ g9 := by omega
  have ne_hb2_g9 : w.heap.size + 1 + 1 ≠ g9 := by omega
  have ne_hz_g9 : w.heap.size + 1 + 1 + 1 ≠ g9 := by omega
  have ne_h7_g9 : g7 ≠ g9 := by omega
  clear lt_hb0 lt_hb1 lt_hb2 lt_hz lt_h7
  replace hb0 := hb0.belowAll hb
  replace hb1 := hb1.belowAll hb
  replace hb2 := hb2.belowAll hb
  replace hz := hz.belowAll hb
  replace h7 := h7.belowAll hb
  replace hw := hw.trans (hb.mono hw.size)
  clear hb
  go_wp2_with (first
    | (refine wpList_load_row rfl 30 (.tmp 9) rfl (g9) rfl 30 _ (0, 0) _ h9 Tryd.underlying30 rfl (nw_info _) ?_)
    | (refine wpList_load_row rfl 30 (.tmp 8) rfl (g8) rfl 30 _ (0, 0) _ h8 Tryd.underlying30 rfl (nw_info _) ?_))
  refine (addr_nu (mulL p.y q.y) (mulL p.x q.x) _).mono ?_
  rintro e W3 ⟨rfl, hb⟩
  replace hb0 := hb0.belowAll hb
  replace hb1 := hb1.belowAll hb
  replace hb2 := hb2.belowAll hb
  replace hz := hz.belowAll hb
  replace h7 := h7.belowAll hb
  replace h8 := h8.belowAll hb
  replace h9 := h9.belowAll hb
  replace hw := hw.trans (hb.mono hw.size)
  clear hb
  have lt_hb0 := hb0.lt
  have lt_hb1 := hb1.lt
  have lt_hb2 := hb2.lt
  have lt_hz := hz.lt
  have lt_h7 := h7.lt
  have lt_h8 := h8.lt
  have lt_h9 := h9.lt
  have ne_hb0_3 : w.heap.size ≠ W3.heap.size := by omega
  have ne_hb1_3 : w.heap.size + 1 ≠ W3.heap.size := by omega
  have ne_hb2_3 : w.heap.size + 1 + 1 ≠ W3.heap.size := by omega
  have ne_hz_3 : w.heap.size + 1 + 1 + 1 ≠ W3.heap.size := by omega
  have ne_h7_3 : g7 ≠ W3.heap.size := by omega
  have ne_h8_3 : g8 ≠ W3.heap.size := by omega
  have ne_h9_3 : g9 ≠ W3.heap.size := by omega
  have new_3 := Row.new W3 (Nw 0) 30
  replace hb0 := (hb0.alloc (.cells (Nw 0).toArray 30)).setRowOther (k := W3.heap.size) ne_hb0_3 (Nw (nu (addL (mulL p.y q.y) (mulL p.x q.x)))).toArray
  replace hb1 := (hb1.alloc (.cells (Nw 0).toArray 30)).setRowOther (k := W3.heap.size) ne_hb1_3 (Nw (nu (addL (mulL p.y q.y) (mulL p.x q.x)))).toArray
  replace hb2 := (hb2.alloc (.cells (Nw 0).toArray 30)).setRowOther (k := W3.heap.size) ne_hb2_3 (Nw (nu (addL (mulL p.y q.y) (mulL p.x q.x)))).toArray
  replace hz := (hz.alloc (.cells (Nw 0).toArray 30)).setRowOther (k := W3.heap.size) ne_hz_3 (Nw (nu (addL (mulL p.y q.y) (mulL p.x q.x)))).toArray
  replace h7 := (h7.alloc (.cells (Nw 0).toArray 30)).setRowOther (k := W3.heap.size) ne_h7_3 (Nw (nu (addL (mulL p.y q.y) (mulL p.x q.x)))).toArray
  replace h8 := (h8.alloc (.cells (Nw 0).toArray 30)).setRowOther (k := W3.heap.size) ne_h8_3 (Nw (nu (addL (mulL p.y q.y) (mulL p.x q.x)))).toArray
  replace h9 := (h9.alloc (.cells (Nw 0).toArray 30)).setRowOther (k := W3.heap.size) ne_h9_3 (Nw (nu (addL (mulL p.y q.y) (mulL p.x q.x)))).toArray
  have h10 := new_3.setRow (Nw (nu (addL (mulL p.y q.y) (mulL p.x q.x))))
  have ge_3 := hw.size
  replace hw := below_setRow (g := W3.heap.size) (hw.alloc hw.size (.cells (Nw 0).toArray 30)) hw.size (Nw (nu (addL (mulL p.y q.y) (mulL p.x q.x)))).toArray
  have NEW := Lib.hid new_3
  clear new_3 lt_hb0 lt_hb1 lt_hb2 lt_hz lt_h7 lt_h8 lt_h9
  go_wp2_with (first
    | (refine wpList_store_row rfl 30 (.tmp 10) (.tmp 39) rfl W3.heap.size _ rfl rfl 30 _ NEW.out (nw_info _) (Nw_sz _ _) (Nw_one _) ?_)
    | (refine wpList_load_at rfl 30 (.tmp 40) rfl ⟨w.heap.size, 16, none⟩ rfl (Nw (nu p.z)) _ (hb0.part 16 (Nw (nu p.z)) (rt_z _)) Tryd.underlying30 rfl (nw_len _) ?_)
    | (refine wpList_load_at rfl 30 (.tmp 42) rfl ⟨w.heap.size + 1, 16, none⟩ rfl (Nw (nu q.z)) _ (hb1.part 16 (Nw (nu q.z)) (rt_z _)) Tryd.underlying30 rfl (nw_len _) ?_))
  clear NEW
  rw [zero8]
  generalize (W3.alloc (.cells (Nw 0).toArray 30)).setRow W3.heap.size (Nw (nu (addL (mulL p.y q.y) (mulL p.x q.x)))).toArray = V3 at *
  generalize W3.heap.size = g10 at *
  refine (mulr_nu p.z q.z _).mono ?_
  rintro e W4 ⟨rfl, hb⟩
  replace hb0 := hb0.belowAll hb
  replace hb1 := hb1.belowAll hb
  replace hb2 := hb2.belowAll hb
  replace hz := hz.belowAll hb
  replace h7 := h7.belowAll hb
  replace h8 := h8.belowAll hb
  replace h9 := h9.belowAll hb
  replace h10 := h10.belowAll hb
  replace hw := hw.trans (hb.mono hw.size)
  clear hb
  have lt_hb0 := hb0.lt
  have lt_hb1 := hb1.lt
  have lt_hb2 := hb2.lt
  have lt_hz := hz.lt
  have lt_h7 := h7.lt
  have lt_h8 := h8.lt
  have lt_h9 := h9.lt
  have lt_h10 := h10.lt
  have ne_hb0_4 : w.heap.size ≠ W4.heap.size := by omega
  have ne_hb1_4 : w.heap.size + 1 ≠ W4.heap.size := by omega
  have ne_hb2_4 : w.heap.size + 1 + 1 ≠ W4.heap.size := by omega
  have ne_hz_4 : w.heap.size + 1 + 1 + 1 ≠ W4.heap.size := by omega
  have ne_h7_4 : g7 ≠ W4.heap.size := by omega
  have ne_h8_4 : g8 ≠ W4.heap.size := by omega
  have ne_h9_4 : g9 ≠ W4.heap.size := by omega
  have ne_h10_4 : g10 ≠ W4.heap.size := by omega
  have new_4 := Row.new W4 (Nw 0) 30
  replace hb0 := (hb0.alloc (.cells (Nw 0).toArray 30)).setRowOther (k := W4.heap.size) ne_hb0_4 (Nw (nu (mulL p.z q.z))).toArray
  replace hb1 := (hb1.alloc (.cells (Nw 0).toArray 30)).setRowOther (k := W4.heap.size) ne_hb1_4 (Nw (nu (mulL p.z q.z))).toArray
  replace hb2 := (hb2.alloc (.cells (Nw 0).toArray 30)).setRowOther (k := W4.heap.size) ne_hb2_4 (Nw (nu (mulL p.z q.z))).toArray
  replace hz := (hz.alloc (.cells (Nw 0).toArray 30)).setRowOther (k := W4.heap.size) ne_hz_4 (Nw (nu (mulL p.z q.z))).toArray
  replace h7 := (h7.alloc (.cells (Nw 0).toArray 30)).setRowOther (k := W4.heap.size) ne_h7_4 (Nw (nu (mulL p.z q.z))).toArray
  replace h8 := (h8.alloc (.cells (Nw 0).toArray 30)).setRowOther (k := W4.heap.size) ne_h8_4 (Nw (nu (mulL p.z q.z))).toArray
  replace h9 := (h9.alloc (.cells (Nw 0).toArray 30)).setRowOther (k := W4.heap.size) ne_h9_4 (Nw (nu (mulL p.z q.z))).toArray
  replace h10 := (h10.alloc (.cells (Nw 0).toArray 30)).setRowOther (k := W4.heap.size) ne_h10_4 (Nw (nu (mulL p.z q.z))).toArray
  have h11 := new_4.setRow (Nw (nu (mulL p.z q.z)))
  have ge_4 := hw.size
  replace hw := below_setRow (g := W4.heap.size) (hw.alloc hw.size (.cells (Nw 0).toArray 30)) hw.size (Nw (nu (mulL p.z q.z))).toArray
  have NEW := Lib.hid new_4
  clear new_4 lt_hb0 lt_hb1 lt_hb2 lt_hz lt_h7 lt_h8 lt_h9 lt_h10
  go_wp2_with (first
    | (refine wpList_store_row rfl 30 (.tmp 11) (.tmp 44) rfl W4.heap.size _ rfl rfl 30 _ NEW.out (nw_info _) (Nw_sz _ _) (Nw_one _) ?_)
    | (refine wpList_load_row rfl 30 (.tmp 11) rfl (W4.heap.size) rfl 30 _ (0, 0) _ h11 Tryd.underlying30 rfl (nw_info _) ?_))
  clear NEW
  rw [zero8]
  generalize (W4.alloc (.cells (Nw 0).toArray 30)).setRow W4.heap.size (Nw (nu (mulL p.z q.z))).toArray = V4 at *
  generalize W4.heap.size = g11 at *
  refine (mulr_nu (mulL p.z q.z) (mulL p.z q.z) _).mono ?_
  rintro e W5 ⟨rfl, hb⟩
  replace hb0 := hb0.belowAll hb
  replace hb1 := hb1.belowAll hb
  replace hb2 := hb2.belowAll hb
  replace hz := hz.belowAll hb
  replace h7 := h7.belowAll hb
  replace h8 := h8.belowAll hb
  replace h9 := h9.belowAll hb
  replace h10 := h10.belowAll hb
  replace h11 := h11.belowAll hb
  replace hw := hw.trans (hb.mono hw.size)
  clear hb
  have lt_hb0 := hb0.lt
  have lt_hb1 := hb1.lt
  have lt_hb2 := hb2.lt
  have lt_hz := hz.lt
  have lt_h7 := h7.lt
  have lt_h8 := h8.lt
  have lt_h9 := h9.lt
  have lt_h10 := h10.lt
  have lt_h11 := h11.lt
  have ne_hb0_5 : w.heap.size ≠ W5.heap.size := by omega
  have ne_hb1_5 : w.heap.size + 1 ≠ W5.heap.size := by omega
  have ne_hb2_5 : w.heap.size + 1 + 1 ≠ W5.heap.size := by omega
  have ne_hz_5 : w.heap.size + 1 + 1 + 1 ≠ W5.heap.size := by omega
  have ne_h7_5 : g7 ≠ W5.heap.size := by omega
  have ne_h8_5 : g8 ≠ W5.heap.size := by omega
  have ne_h9_5 : g9 ≠ W5.heap.size := by omega
  have ne_h10_5 : g10 ≠ W5.heap.size := by omega
  have ne_h11_5 : g11 ≠ W5.heap.size := by omega
  have new_5 := Row.new W5 (Nw 0) 30
  replace hb0 := (hb0.alloc (.cells (Nw 0).toArray 30)).setRowOther (k := W5.heap.size) ne_hb0_5 (Nw (nu (mulL (mulL p.z q.z) (mulL p.z q.z)))).toArray
  replace hb1 := (hb1.alloc (.cells (Nw 0).toArray 30)).setRowOther (k := W5.heap.size) ne_hb1_5 (Nw (nu (mulL (mulL p.z q.z) (mulL p.z q.z)))).toArray
  replace hb2 := (hb2.alloc (.cells (Nw 0).toArray 30)).setRowOther (k := W5.heap.size) ne_hb2_5 (Nw (nu (mulL (mulL p.z q.z) (mulL p.z q.z)))).toArray
  replace hz := (hz.alloc (.cells (Nw 0).toArray 30)).setRowOther (k := W5.heap.size) ne_hz_5 (Nw (nu (mulL (mulL p.z q.z) (mulL p.z q.z)))).toArray
  replace h7 := (h7.alloc (.cells (Nw 0).toArray 30)).setRowOther (k := W5.heap.size) ne_h7_5 (Nw (nu (mulL (mulL p.z q.z) (mulL p.z q.z)))).toArray
  replace h8 := (h8.alloc (.cells (Nw 0).toArray 30)).setRowOther (k := W5.heap.size) ne_h8_5 (Nw (nu (mulL (mulL p.z q.z) (mulL p.z q.z)))).toArray
  replace h9 := (h9.alloc (.cells (Nw 0).toArray 30)).setRowOther (k := W5.heap.size) ne_h9_5 (Nw (nu (mulL (mulL p.z q.z) (mulL p.z q.z)))).toArray
  replace h10 := (h10.alloc (.cells (Nw 0).toArray 30)).setRowOther (k := W5.heap.size) ne_h10_5 (Nw (nu (mulL (mulL p.z q.z) (mulL p.z q.z)))).toArray
  replace h11 := (h11.alloc (.cells (Nw 0).toArray 30)).setRowOther (k := W5.heap.size) ne_h11_5 (Nw (nu (mulL (mulL p.z q.z) (mulL p.z q.z)))).toArray
  have h12 := new_5.setRow (Nw (nu (mulL (mulL p.z q.z) (mulL p.z q.z))))
  have ge_5 := hw.size
  replace hw := below_setRow (g := W5.heap.size) (hw.alloc hw.size (.cells (Nw 0).toArray 30)) hw.size (Nw (nu (mulL (mulL p.z q.z) (mulL p.z q.z)))).toArray
  have NEW := Lib.hid new_5
  clear new_5 lt_hb0 lt_hb1 lt_hb2 lt_hz lt_h7 lt_h8 lt_h9 lt_h10 lt_h11
  go_wp2_with (first
    | (refine wpList_store_row rfl 30 (.tmp 12) (.tmp 47) rfl W5.heap.size _ rfl rfl 30 _ NEW.out (nw_info _) (Nw_sz _ _) (Nw_one _) ?_))
  clear NEW
  rw [zero8]
  generalize (W5.alloc (.cells (Nw 0).toArray 30)).setRow W5.heap.size (Nw (nu (mulL (mulL p.z q.z) (mulL p.z q.z)))).toArray = V5 at *
  generalize W5.heap.size = g12 at *
  clear hb0 hb1
  have lt_hb2 := hb2.lt
  have lt_hz := hz.lt
  have lt_h7 := h7.lt
  have lt_h8 := h8.lt
  have lt_h9 := h9.lt
  have lt_h10 := h10.lt
  have lt_h11 := h11.lt
  have lt_h12 := h12.lt
  refine wp_vars_one (aD := ?aD6) (B := V5.heap.size) (S := fun w' => Below V5.heap.size V5 w') (k1 := 5) (s1 := 6) (T1 := 30) (L1 := 30) (z1 := Nw 0) (c1 := Nw (nu (mulL d (mulL (mulL p.x q.x) (mulL p.y q.y))))) (x1 := .tmp 13) (y1 := .tmp 52)
    (vs := [(0, .agg (Nw (nu d)).toArray), (1, .agg (Nw (nu (mulL p.x q.x))).toArray), (2, .agg (Nw (nu (mulL p.y q.y))).toArray), (3, .agg (Nw (nu (mulL (mulL p.x q.x) (mulL p.y q.y)))).toArray), (4, .agg (Nw (nu (mulL d (mulL (mulL p.x q.x) (mulL p.y q.y))))).toArray)]) (by kernel_rfl) ((Below.refl _ _).drew) (fun _ _ h k => S_trans h k) (fun _ _ cs h hg => S_row h hg cs) (fun _ h => h.size) ?hD6 (.of rfl rfl rfl (fun w' => nw_alloc w')) ?hk6 rfl rfl (some 13) rfl rfl rfl ?e61 ?f61 (nw_info _) (Nw_sz _ _) (Nw_one _) ?h6
  case hD6 =>
    refine .step (some 48) rfl rfl (by kernel_rfl) (Gives.load_row 30 (.tmp 5) rfl (w.heap.size + 1 + 1) rfl 30 _ (fun w' h => hb2.belowAll h) Tryd.underlying30 rfl (nw_info _)) ?_
    simp only [Act.put, List.setIfInBounds_toArray, List.set_cons_zero, List.set_cons_succ]
    refine .step (some 49) rfl rfl (by kernel_rfl) (Gives.load_row 30 (.tmp 8) rfl (g8) rfl 30 _ (fun w' h => h8.belowAll h) Tryd.underlying30 rfl (nw_info _)) ?_
    simp only [Act.put, List.setIfInBounds_toArray, List.set_cons_zero, List.set_cons_succ]
    refine .step (some 50) rfl rfl (by kernel_rfl) (Gives.load_row 30 (.tmp 9) rfl (g9) rfl 30 _ (fun w' h => h9.belowAll h) Tryd.underlying30 rfl (nw_info _)) ?_
    simp only [Act.put, List.setIfInBounds_toArray, List.set_cons_zero, List.set_cons_succ]
    refine .step (some 51) rfl rfl (by kernel_rfl) (Gives.call (args := [.agg (Nw (nu (mulL p.x q.x))).toArray, .agg (Nw (nu (mulL p.y q.y))).toArray]) rfl Tryd.func32 (by kernel_rfl) (by kernel_rfl) rfl (fun w' h => mulr_nu (mulL p.x q.x) (mulL p.y q.y) w')) ?_
    simp only [Act.put, List.setIfInBounds_toArray, List.set_cons_zero, List.set_cons_succ]
    refine .step (some 52) rfl rfl (by kernel_rfl) (Gives.call (args := [.agg (Nw (nu d)).toArray, .agg (Nw (nu (mulL (mulL p.x q.x) (mulL p.y q.y)))).toArray]) rfl Tryd.func32 (by kernel_rfl) (by kernel_rfl) rfl (fun w' h => mulr_nu d (mulL (mulL p.x q.x) (mulL p.y q.y)) w')) ?_
    simp only [Act.put, List.setIfInBounds_toArray, List.set_cons_zero, List.set_cons_succ]
    exact .nil
  case hk6 => kernel_rfl
  case e61 => intro i1; rfl
  case f61 => intro i1; rfl
  case h6 =>
  intro g13 W6 hb hg6 h13
  have ge_g13 := Nat.le_trans hw.size hg6
  have ne_hb2_g13 : w.heap.size + 1 + 1 ≠ g13 := by omega
  have ne_hz_g13 : w.heap.size + 1 + 1 + 1 ≠ g13 := by omega
  have ne_h7_g13 : g7 ≠ g13 := by omega
  have ne_h8_g13 : g8 ≠ g13 := by omega
  have ne_h9_g13 : g9 ≠ g13 := by omega
  have ne_h10_g13 : g10 ≠ g13 := by omega
  have ne_h11_g13 : g11 ≠ g13 := by omega
  have ne_h12_g13 : g12 ≠ g13 := by omega
  clear lt_hb2 lt_hz lt_h7 lt_h8 lt_h9 lt_h10 lt_h11 lt_h12
  replace hb2 := hb2.belowAll hb
  replace hz := hz.belowAll hb
  replace h7 := h7.belowAll hb
  replace h8 := h8.belowAll hb
  replace h9 := h9.belowAll hb
  replace h10 := h10.belowAll hb
  replace h11 := h11.belowAll hb
  replace h12 := h12.belowAll hb
  replace hw := hw.trans (hb.mono hw.size)
  clear hb
  clear h8 h9
  go_wp2_with fail
  have lt_hb2 := hb2.lt
  have lt_hz := hz.lt
  have lt_h7 := h7.lt
  have lt_h10 := h10.lt
  have lt_h11 := h11.lt
  have lt_h12 := h12.lt
  have lt_h13 := h13.lt
  refine wp_vars_two (aD := ?aD7) (B := W6.heap.size) (S := fun w' => Below W6.heap.size W6 w') (k1 := 6) (s1 := 8) (T1 := 30) (L1 := 30) (z1 := Nw 0) (c1 := Nw (nu (addL (mulL (mulL p.z q.z) (mulL p.z q.z)) (mulL d (mulL (mulL p.x q.x) (mulL p.y q.y)))))) (x1 := .tmp 14) (y1 := .tmp 55) (k2 := 7) (s2 := 9) (T2 := 30) (L2 := 30) (z2 := Nw 0) (c2 := Nw (nu (subL (mulL (mulL p.z q.z) (mulL p.z q.z)) (mulL d (mulL (mulL p.x q.x) (mulL p.y q.y)))))) (x2 := .tmp 15) (y2 := .tmp 58)
    (vs := [(0, .agg (Nw (nu (mulL (mulL p.z q.z) (mulL p.z q.z)))).toArray), (1, .agg (Nw (nu (mulL d (mulL (mulL p.x q.x) (mulL p.y q.y))))).toArray), (2, .agg (Nw (nu (addL (mulL (mulL p.z q.z) (mulL p.z q.z)) (mulL d (mulL (mulL p.x q.x) (mulL p.y q.y)))))).toArray), (3, .agg (Nw (nu (mulL (mulL p.z q.z) (mulL p.z q.z)))).toArray), (4, .agg (Nw (nu (mulL d (mulL (mulL p.x q.x) (mulL p.y q.y))))).toArray), (5, .agg (Nw (nu (subL (mulL (mulL p.z q.z) (mulL p.z q.z)) (mulL d (mulL (mulL p.x q.x) (mulL p.y q.y)))))).toArray)]) (by kernel_rfl) ((Below.refl _ _).drew) (fun _ _ h k => S_trans h k) (fun _ _ cs h hg => S_row h hg cs) (fun _ h => h.size) ?hD7 (.of rfl rfl rfl (fun w' => nw_alloc w')) (.of rfl rfl rfl (fun w' => nw_alloc w')) ?hk7 (by decide) rfl rfl rfl rfl (some 14) (some 15) rfl rfl rfl rfl rfl rfl ?e71 ?f71 ?e72 ?f72 (nw_info _) (Nw_sz _ _) (Nw_one _) (nw_info _) (Nw_sz _ _) (Nw_one _) ?h7
  case hD7 =>
    refine .step (some 53) rfl rfl (by kernel_rfl) (Gives.load_row 30 (.tmp 12) rfl (g12) rfl 30 _ (fun w' h => h12.belowAll h) Tryd.underlying30 rfl (nw_info _)) ?_
    simp only [Act.put, List.setIfInBounds_toArray, List.set_cons_zero, List.set_cons_succ]
    refine .step (some 54) rfl rfl (by kernel_rfl) (Gives.load_row 30 (.tmp 13) rfl (g13) rfl 30 _ (fun w' h => h13.belowAll h) Tryd.underlying30 rfl (nw_info _)) ?_
    simp only [Act.put, List.setIfInBounds_toArray, List.set_cons_zero, List.set_cons_succ]
    refine .step (some 55) rfl rfl (by kernel_rfl) (Gives.call (args := [.agg (Nw (nu (mulL (mulL p.z q.z) (mulL p.z q.z)))).toArray, .agg (Nw (nu (mulL d (mulL (mulL p.x q.x) (mulL p.y q.y))))).toArray]) rfl Tryd.func28 (by kernel_rfl) (by kernel_rfl) rfl (fun w' h => addr_nu (mulL (mulL p.z q.z) (mulL p.z q.z)) (mulL d (mulL (mulL p.x q.x) (mulL p.y q.y))) w')) ?_
    simp only [Act.put, List.setIfInBounds_toArray, List.set_cons_zero, List.set_cons_succ]
    refine .step (some 56) rfl rfl (by kernel_rfl) (Gives.load_row 30 (.tmp 12) rfl (g12) rfl 30 _ (fun w' h => h12.belowAll h) Tryd.underlying30 rfl (nw_info _)) ?_
    simp only [Act.put, List.setIfInBounds_toArray, List.set_cons_zero, List.set_cons_succ]
    refine .step (some 57) rfl rfl (by kernel_rfl) (Gives.load_row 30 (.tmp 13) rfl (g13) rfl 30 _ (fun w' h => h13.belowAll h) Tryd.underlying30 rfl (nw_info _)) ?_
    simp only [Act.put, List.setIfInBounds_toArray, List.set_cons_zero, List.set_cons_succ]
    refine .step (some 58) rfl rfl (by kernel_rfl) (Gives.call (args := [.agg (Nw (nu (mulL (mulL p.z q.z) (mulL p.z q.z)))).toArray, .agg (Nw (nu (mulL d (mulL (mulL p.x q.x) (mulL p.y q.y))))).toArray]) rfl Tryd.func30 (by kernel_rfl) (by kernel_rfl) rfl (fun w' h => subr_nu (mulL (mulL p.z q.z) (mulL p.z q.z)) (mulL_ok hd (mulL_ok (mulL_ok hp.x hk.x) (mulL_ok hp.y hk.y))) w')) ?_
    simp only [Act.put, List.setIfInBounds_toArray, List.set_cons_zero, List.set_cons_succ]
    exact .nil
  case hk7 => kernel_rfl
  case e71 => intro i1 i2; rfl
  case f71 => intro i1 i2; rfl
  case e72 => intro i1 i2; rfl
  case f72 => intro i1 i2; rfl
  case h7 =>
  intro g14 g15 W7 hb hg70 hg71 hn701 h14 h15
  simp only [Act.put, List.setIfInBounds_toArray, List.set_cons_zero, List.set_cons_succ]
  have ge_g14 := Nat.le_trans hw.size hg70
  have ne_hb2_g14 : w.heap.size + 1 + 1 ≠ g14 := by omega
  have ne_hz_g14 : w.heap.size + 1 + 1 + 1 ≠ g14 := by omega
  have ne_h7_g14 : g7 ≠ g14 := by omega
  have ne_h10_g14 : g10 ≠ g14 := by omega
  have ne_h11_g14 : g11 ≠ g14 := by omega
  have ne_h12_g14 : g12 ≠ g14 := by omega
  have ne_h13_g14 : g13 ≠ g14 := by omega
  have ge_g15 := Nat.le_trans hw.size hg71
  have ne_hb2_g15 : w.heap.size + 1 + 1 ≠ g15 := by omega
  have ne_hz_g15 : w.heap.size + 1 + 1 + 1 ≠ g15 := by omega
  have ne_h7_g15 : g7 ≠ g15 := by omega
  have ne_h10_g15 : g10 ≠ g15 := by omega
  have ne_h11_g15 : g11 ≠ g15 := by omega
  have ne_h12_g15 : g12 ≠ g15 := by omega
  have ne_h13_g15 : g13 ≠ g15 := by omega
  clear lt_hb2 lt_hz lt_h7 lt_h10 lt_h11 lt_h12 lt_h13
  replace hb2 := hb2.belowAll hb
  replace hz := hz.belowAll hb
  replace h7 := h7.belowAll hb
  replace h10 := h10.belowAll hb
  replace h11 := h11.belowAll hb
  replace h12 := h12.belowAll hb
  replace h13 := h13.belowAll hb
  replace hw := hw.trans (hb.mono hw.size)
  clear hb
  go_wp2_with fail
  refine wp_flat_store (aD := ?aD8) (S := fun w' => Below W7.heap.size W7 w') (s := 14) (T := 62) (T' := 62) (g := w.heap.size + 1 + 1 + 1) (z := RL zeR) (c := RL ⟨(mulL (mulL (addL (mulL p.x q.y) (mulL p.y q.x)) (mulL p.z q.z)) (subL (mulL (mulL p.z q.z) (mulL p.z q.z)) (mulL d (mulL (mulL p.x q.x) (mulL p.y q.y))))), (mulL (mulL (addL (mulL p.y q.y) (mulL p.x q.x)) (mulL p.z q.z)) (addL (mulL (mulL p.z q.z) (mulL p.z q.z)) (mulL d (mulL (mulL p.x q.x) (mulL p.y q.y))))), (mulL (addL (mulL (mulL p.z q.z) (mulL p.z q.z)) (mulL d (mulL (mulL p.x q.x) (mulL p.y q.y)))) (subL (mulL (mulL p.z q.z) (mulL p.z q.z)) (mulL d (mulL (mulL p.x q.x) (mulL p.y q.y)))))⟩) (x := .tmp 6) (y := .tmp 72)
    (vs := [(0, .agg (Nw (nu (addL (mulL p.x q.y) (mulL p.y q.x)))).toArray), (1, .agg (Nw (nu (mulL p.z q.z))).toArray), (2, .agg (Nw (nu (mulL (addL (mulL p.x q.y) (mulL p.y q.x)) (mulL p.z q.z)))).toArray), (3, .agg (Nw (nu (subL (mulL (mulL p.z q.z) (mulL p.z q.z)) (mulL d (mulL (mulL p.x q.x) (mulL p.y q.y)))))).toArray), (4, .agg (Nw (nu (mulL (mulL (addL (mulL p.x q.y) (mulL p.y q.x)) (mulL p.z q.z)) (subL (mulL (mulL p.z q.z) (mulL p.z q.z)) (mulL d (mulL (mulL p.x q.x) (mulL p.y q.y))))))).toArray), (5, .agg (Nw (nu (addL (mulL p.y q.y) (mulL p.x q.x)))).toArray), (6, .agg (Nw (nu (mulL p.z q.z))).toArray), (7, .agg (Nw (nu (mulL (addL (mulL p.y q.y) (mulL p.x q.x)) (mulL p.z q.z)))).toArray), (8, .agg (Nw (nu (addL (mulL (mulL p.z q.z) (mulL p.z q.z)) (mulL d (mulL (mulL p.x q.x) (mulL p.y q.y)))))).toArray), (9, .agg (Nw (nu (mulL (mulL (addL (mulL p.y q.y) (mulL p.x q.x)) (mulL p.z q.z)) (addL (mulL (mulL p.z q.z) (mulL p.z q.z)) (mulL d (mulL (mulL p.x q.x) (mulL p.y q.y))))))).toArray), (10, .agg (Nw (nu (addL (mulL (mulL p.z q.z) (mulL p.z q.z)) (mulL d (mulL (mulL p.x q.x) (mulL p.y q.y)))))).toArray), (11, .agg (Nw (nu (subL (mulL (mulL p.z q.z) (mulL p.z q.z)) (mulL d (mulL (mulL p.x q.x) (mulL p.y q.y)))))).toArray), (12, .agg (Nw (nu (mulL (addL (mulL (mulL p.z q.z) (mulL p.z q.z)) (mulL d (mulL (mulL p.x q.x) (mulL p.y q.y)))) (subL (mulL (mulL p.z q.z) (mulL p.z q.z)) (mulL d (mulL (mulL p.x q.x) (mulL p.y q.y))))))).toArray), (13, .agg (RL ⟨(mulL (mulL (addL (mulL p.x q.y) (mulL p.y q.x)) (mulL p.z q.z)) (subL (mulL (mulL p.z q.z) (mulL p.z q.z)) (mulL d (mulL (mulL p.x q.x) (mulL p.y q.y))))), (mulL (mulL (addL (mulL p.y q.y) (mulL p.x q.x)) (mulL p.z q.z)) (addL (mulL (mulL p.z q.z) (mulL p.z q.z)) (mulL d (mulL (mulL p.x q.x) (mulL p.y q.y))))), (mulL (addL (mulL (mulL p.z q.z) (mulL p.z q.z)) (mulL d (mulL (mulL p.x q.x) (mulL p.y q.y)))) (subL (mulL (mulL p.z q.z) (mulL p.z q.z)) (mulL d (mulL (mulL p.x q.x) (mulL p.y q.y)))))⟩).toArray)]) (by kernel_rfl) ((Below.refl _ _).drew) (fun _ _ h k => S_trans h k) ?hD8 ?hk8 rfl rfl rfl rfl ?ea8 ?eb8 (fun w' h => hz.belowAll h) (rl_info _) (RL_sz _ _) (RL_one _) ?h8
  case hD8 =>
    refine .step (some 59) rfl rfl (by kernel_rfl) (Gives.load_row 30 (.tmp 7) rfl (g7) rfl 30 _ (fun w' h => h7.belowAll h) Tryd.underlying30 rfl (nw_info _)) ?_
    simp only [Act.put, List.setIfInBounds_toArray, List.set_cons_zero, List.set_cons_succ]
    refine .step (some 60) rfl rfl (by kernel_rfl) (Gives.load_row 30 (.tmp 11) rfl (g11) rfl 30 _ (fun w' h => h11.belowAll h) Tryd.underlying30 rfl (nw_info _)) ?_
    simp only [Act.put, List.setIfInBounds_toArray, List.set_cons_zero, List.set_cons_succ]
    refine .step (some 61) rfl rfl (by kernel_rfl) (Gives.call (args := [.agg (Nw (nu (addL (mulL p.x q.y) (mulL p.y q.x)))).toArray, .agg (Nw (nu (mulL p.z q.z))).toArray]) rfl Tryd.func32 (by kernel_rfl) (by kernel_rfl) rfl (fun w' h => mulr_nu (addL (mulL p.x q.y) (mulL p.y q.x)) (mulL p.z q.z) w')) ?_
    simp only [Act.put, List.setIfInBounds_toArray, List.set_cons_zero, List.set_cons_succ]
    refine .step (some 62) rfl rfl (by kernel_rfl) (Gives.load_row 30 (.tmp 15) rfl (g15) rfl 30 _ (fun w' h => h15.belowAll h) Tryd.underlying30 rfl (nw_info _)) ?_
    simp only [Act.put, List.setIfInBounds_toArray, List.set_cons_zero, List.set_cons_succ]
    refine .step (some 63) rfl rfl (by kernel_rfl) (Gives.call (args := [.agg (Nw (nu (mulL (addL (mulL p.x q.y) (mulL p.y q.x)) (mulL p.z q.z)))).toArray, .agg (Nw (nu (subL (mulL (mulL p.z q.z) (mulL p.z q.z)) (mulL d (mulL (mulL p.x q.x) (mulL p.y q.y)))))).toArray]) rfl Tryd.func32 (by kernel_rfl) (by kernel_rfl) rfl (fun w' h => mulr_nu (mulL (addL (mulL p.x q.y) (mulL p.y q.x)) (mulL p.z q.z)) (subL (mulL (mulL p.z q.z) (mulL p.z q.z)) (mulL d (mulL (mulL p.x q.x) (mulL p.y q.y)))) w')) ?_
    simp only [Act.put, List.setIfInBounds_toArray, List.set_cons_zero, List.set_cons_succ]
    refine .step (some 64) rfl rfl (by kernel_rfl) (Gives.load_row 30 (.tmp 10) rfl (g10) rfl 30 _ (fun w' h => h10.belowAll h) Tryd.underlying30 rfl (nw_info _)) ?_
    simp only [Act.put, List.setIfInBounds_toArray, List.set_cons_zero, List.set_cons_succ]
    refine .step (some 65) rfl rfl (by kernel_rfl) (Gives.load_row 30 (.tmp 11) rfl (g11) rfl 30 _ (fun w' h => h11.belowAll h) Tryd.underlying30 rfl (nw_info _)) ?_
    simp only [Act.put, List.setIfInBounds_toArray, List.set_cons_zero, List.set_cons_succ]
    refine .step (some 66) rfl rfl (by kernel_rfl) (Gives.call (args := [.agg (Nw (nu (addL (mulL p.y q.y) (mulL p.x q.x)))).toArray, .agg (Nw (nu (mulL p.z q.z))).toArray]) rfl Tryd.func32 (by kernel_rfl) (by kernel_rfl) rfl (fun w' h => mulr_nu (addL (mulL p.y q.y) (mulL p.x q.x)) (mulL p.z q.z) w')) ?_
    simp only [Act.put, List.setIfInBounds_toArray, List.set_cons_zero, List.set_cons_succ]
    refine .step (some 67) rfl rfl (by kernel_rfl) (Gives.load_row 30 (.tmp 14) rfl (g14) rfl 30 _ (fun w' h => h14.belowAll h) Tryd.underlying30 rfl (nw_info _)) ?_
    simp only [Act.put, List.setIfInBounds_toArray, List.set_cons_zero, List.set_cons_succ]
    refine .step (some 68) rfl rfl (by kernel_rfl) (Gives.call (args := [.agg (Nw (nu (mulL (addL (mulL p.y q.y) (mulL p.x q.x)) (mulL p.z q.z)))).toArray, .agg (Nw (nu (addL (mulL (mulL p.z q.z) (mulL p.z q.z)) (mulL d (mulL (mulL p.x q.x) (mulL p.y q.y)))))).toArray]) rfl Tryd.func32 (by kernel_rfl) (by kernel_rfl) rfl (fun w' h => mulr_nu (mulL (addL (mulL p.y q.y) (mulL p.x q.x)) (mulL p.z q.z)) (addL (mulL (mulL p.z q.z) (mulL p.z q.z)) (mulL d (mulL (mulL p.x q.x) (mulL p.y q.y)))) w')) ?_
    simp only [Act.put, List.setIfInBounds_toArray, List.set_cons_zero, List.set_cons_succ]
    refine .step (some 69) rfl rfl (by kernel_rfl) (Gives.load_row 30 (.tmp 14) rfl (g14) rfl 30 _ (fun w' h => h14.belowAll h) Tryd.underlying30 rfl (nw_info _)) ?_
    simp only [Act.put, List.setIfInBounds_toArray, List.set_cons_zero, List.set_cons_succ]
    refine .step (some 70) rfl rfl (by kernel_rfl) (Gives.load_row 30 (.tmp 15) rfl (g15) rfl 30 _ (fun w' h => h15.belowAll h) Tryd.underlying30 rfl (nw_info _)) ?_
    simp only [Act.put, List.setIfInBounds_toArray, List.set_cons_zero, List.set_cons_succ]
    refine .step (some 71) rfl rfl (by kernel_rfl) (Gives.call (args := [.agg (Nw (nu (addL (mulL (mulL p.z q.z) (mulL p.z q.z)) (mulL d (mulL (mulL p.x q.x) (mulL p.y q.y)))))).toArray, .agg (Nw (nu (subL (mulL (mulL p.z q.z) (mulL p.z q.z)) (mulL d (mulL (mulL p.x q.x) (mulL p.y q.y)))))).toArray]) rfl Tryd.func32 (by kernel_rfl) (by kernel_rfl) rfl (fun w' h => mulr_nu (addL (mulL (mulL p.z q.z) (mulL p.z q.z)) (mulL d (mulL (mulL p.x q.x) (mulL p.y q.y)))) (subL (mulL (mulL p.z q.z) (mulL p.z q.z)) (mulL d (mulL (mulL p.x q.x) (mulL p.y q.y)))) w')) ?_
    simp only [Act.put, List.setIfInBounds_toArray, List.set_cons_zero, List.set_cons_succ]
    refine .step (some 72) rfl rfl (by kernel_rfl) (Gives.build3 62 (.tmp 63) (.tmp 68) (.tmp 71) rfl _ _ _ _ rfl rfl rfl (fun w' => rl_mk _ _ _ w')) ?_
    simp only [Act.put, List.setIfInBounds_toArray, List.set_cons_zero, List.set_cons_succ]
    exact .nil
  case hk8 => kernel_rfl
  case ea8 => rfl
  case eb8 => rfl
  case h8 =>
  intro W8 hb
  replace hb2 := hb2.belowAll hb
  replace hz := hz.belowAll hb
  replace h7 := h7.belowAll hb
  replace h10 := h10.belowAll hb
  replace h11 := h11.belowAll hb
  replace h12 := h12.belowAll hb
  replace h13 := h13.belowAll hb
  replace h14 := h14.belowAll hb
  replace h15 := h15.belowAll hb
  replace hw := hw.trans (hb.mono hw.size)
  clear hb
  replace hz := hz.setRow (RL ⟨(mulL (mulL (addL (mulL p.x q.y) (mulL p.y q.x)) (mulL p.z q.z)) (subL (mulL (mulL p.z q.z) (mulL p.z q.z)) (mulL d (mulL (mulL p.x q.x) (mulL p.y q.y))))), (mulL (mulL (addL (mulL p.y q.y) (mulL p.x q.x)) (mulL p.z q.z)) (addL (mulL (mulL p.z q.z) (mulL p.z q.z)) (mulL d (mulL (mulL p.x q.x) (mulL p.y q.y))))), (mulL (addL (mulL (mulL p.z q.z) (mulL p.z q.z)) (mulL d (mulL (mulL p.x q.x) (mulL p.y q.y)))) (subL (mulL (mulL p.z q.z) (mulL p.z q.z)) (mulL d (mulL (mulL p.x q.x) (mulL p.y q.y)))))⟩)
  replace hw := below_setRow (g := w.heap.size + 1 + 1 + 1) hw (by omega) (RL ⟨(mulL (mulL (addL (mulL p.x q.y) (mulL p.y q.x)) (mulL p.z q.z)) (subL (mulL (mulL p.z q.z) (mulL p.z q.z)) (mulL d (mulL (mulL p.x q.x) (mulL p.y q.y))))), (mulL (mulL (addL (mulL p.y q.y) (mulL p.x q.x)) (mulL p.z q.z)) (addL (mulL (mulL p.z q.z) (mulL p.z q.z)) (mulL d (mulL (mulL p.x q.x) (mulL p.y q.y))))), (mulL (addL (mulL (mulL p.z q.z) (mulL p.z q.z)) (mulL d (mulL (mulL p.x q.x) (mulL p.y q.y)))) (subL (mulL (mulL p.z q.z) (mulL p.z q.z)) (mulL d (mulL (mulL p.x q.x) (mulL p.y q.y)))))⟩).toArray
  have hgot := hz
  have HGOT := Lib.hid hgot
  have HW := Lib.hid hw
  clear hgot hw hb2 hz h7 h10 h11 h12 h13 h14 h15
  go_wp2_with fail
  refine bodyPost_ret (results_cell_row (by rfl) _ _ (w.heap.size + 1 + 1 + 1) _ _ _ _ (by rfl) HGOT.out Tryd.underlying62 rfl (rl_info _)) rfl ?_
  exact ⟨rfl, HW.out⟩

/-- The document's neg. -/
def rngP (p : Rp) : Rp := ⟨negL p.x, p.y, p.z⟩

set_option maxHeartbeats 3200000 in
theorem ngp_ref {p : Rp} (hp : p.ok) (w : World) :
    Calls Tryd.prog 51 #[.agg (RL p).toArray] w fun e w' => e = .returned (.agg (RL (rngP p)).toArray) ∧ Below w.heap.size w w' := by
  have hb0 := ((Row.new w (RL p) 62)).alloc (.cells (RL zeR).toArray 62)
  have hz := (Row.new1 w (.cells (RL p).toArray 62) (RL zeR) 62)
  have hw := Below.alloc2 w (.cells (RL p).toArray 62) (.cells (RL zeR).toArray 62)
  go_enter Tryd.func51, Tryd.ntmps51
  go_wp2_with fail
  rw [z24]
  generalize ((w.alloc (.cells (RL p).toArray 62)).alloc (.cells (RL zeR).toArray 62)) = W0 at *
  refine wp_flat_store (aD := ?aD1) (S := fun w' => Below W0.heap.size W0 w') (s := 9) (T := 62) (T' := 62) (g := w.heap.size + 1) (z := RL zeR) (c := RL ⟨(negL p.x), p.y, p.z⟩) (x := .tmp 2) (y := .tmp 11)
    (vs := [(0, .agg (Nw 0).toArray), (1, .pointer (some ⟨w.heap.size, 0, none⟩)), (2, .agg (Nw (nu p.x)).toArray), (3, .agg (Nw (nu (negL p.x))).toArray), (4, .pointer (some ⟨w.heap.size, 8, none⟩)), (5, .agg (Nw (nu p.y)).toArray), (6, .pointer (some ⟨w.heap.size, 16, none⟩)), (7, .agg (Nw (nu p.z)).toArray), (8, .agg (RL ⟨(negL p.x), p.y, p.z⟩).toArray)]) (by kernel_rfl) ((Below.refl _ _).drew) (fun _ _ h k => S_trans h k) ?hD1 ?hk1 rfl rfl rfl rfl ?ea1 ?eb1 (fun w' h => hz.belowAll h) (rl_info _) (RL_sz _ _) (RL_one _) ?h1
  case hD1 =>
    refine .step (some 3) rfl rfl (by kernel_rfl) (Gives.build0 30 rfl _ (fun w' => nw_build w')) ?_
    simp only [Act.put, List.setIfInBounds_toArray, List.set_cons_zero, List.set_cons_succ]
    refine .step (some 4) rfl rfl (by kernel_rfl) (Gives.fieldAt 62 (.tmp 1) 0 rfl _ _ rfl (fun w' => fr_x (w.heap.size) w')) ?_
    simp only [Act.put, List.setIfInBounds_toArray, List.set_cons_zero, List.set_cons_succ]
    refine .step (some 5) rfl rfl (by kernel_rfl) (Gives.load_at 30 (.tmp 4) rfl ⟨w.heap.size, 0, none⟩ rfl (Nw (nu p.x)) _ (fun w' h => (hb0.belowAll h).part 0 (Nw (nu p.x)) (rt_x _)) Tryd.underlying30 rfl (nw_len _)) ?_
    simp only [Act.put, List.setIfInBounds_toArray, List.set_cons_zero, List.set_cons_succ]
    refine .step (some 6) rfl rfl (by kernel_rfl) (Gives.call (args := [.agg (Nw 0).toArray, .agg (Nw (nu p.x)).toArray]) rfl Tryd.func30 (by kernel_rfl) (by kernel_rfl) rfl (fun w' h => negr_nu hp.x w')) ?_
    simp only [Act.put, List.setIfInBounds_toArray, List.set_cons_zero, List.set_cons_succ]
    refine .step (some 7) rfl rfl (by kernel_rfl) (Gives.fieldAt 62 (.tmp 1) 1 rfl _ _ rfl (fun w' => fr_y (w.heap.size) w')) ?_
    simp only [Act.put, List.setIfInBounds_toArray, List.set_cons_zero, List.set_cons_succ]
    refine .step (some 8) rfl rfl (by kernel_rfl) (Gives.load_at 30 (.tmp 7) rfl ⟨w.heap.size, 8, none⟩ rfl (Nw (nu p.y)) _ (fun w' h => (hb0.belowAll h).part 8 (Nw (nu p.y)) (rt_y _)) Tryd.underlying30 rfl (nw_len _)) ?_
    simp only [Act.put, List.setIfInBounds_toArray, List.set_cons_zero, List.set_cons_succ]
    refine .step (some 9) rfl rfl (by kernel_rfl) (Gives.fieldAt 62 (.tmp 1) 2 rfl _ _ rfl (fun w' => fr_z (w.heap.size) w')) ?_
    simp only [Act.put, List.setIfInBounds_toArray, List.set_cons_zero, List.set_cons_succ]
    refine .step (some 10) rfl rfl (by kernel_rfl) (Gives.load_at 30 (.tmp 9) rfl ⟨w.heap.size, 16, none⟩ rfl (Nw (nu p.z)) _ (fun w' h => (hb0.belowAll h).part 16 (Nw (nu p.z)) (rt_z _)) Tryd.underlying30 rfl (nw_len _)) ?_
    simp only [Act.put, List.setIfInBounds_toArray, List.set_cons_zero, List.set_cons_succ]
    refine .step (some 11) rfl rfl (by kernel_rfl) (Gives.build3 62 (.tmp 6) (.tmp 8) (.tmp 10) rfl _ _ _ _ rfl rfl rfl (fun w' => rl_mk _ _ _ w')) ?_
    simp only [Act.put, List.setIfInBounds_toArray, List.set_cons_zero, List.set_cons_succ]
    exact .nil
  case hk1 => kernel_rfl
  case ea1 => rfl
  case eb1 => rfl
  case h1 =>
  intro W1 hb
  replace hb0 := hb0.belowAll hb
  replace hz := hz.belowAll hb
  replace hw := hw.trans (hb.mono hw.size)
  clear hb
  replace hz := hz.setRow (RL ⟨(negL p.x), p.y, p.z⟩)
  replace hw := below_setRow (g := w.heap.size + 1) hw (by omega) (RL ⟨(negL p.x), p.y, p.z⟩).toArray
  have hgot := hz
  have HGOT := Lib.hid hgot
  have HW := Lib.hid hw
  clear hgot hw hb0 hz
  go_wp2_with fail
  refine bodyPost_ret (results_cell_row (by rfl) _ _ (w.heap.size + 1) _ _ _ _ (by rfl) HGOT.out Tryd.underlying62 rfl (rl_info _)) rfl ?_
  exact ⟨rfl, HW.out⟩
end

section
set_option maxRecDepth 100000
set_option linter.unusedVariables false
open Go.RowKit

/-- What a point of the document stands for. -/
structure Ir (p : Rp) (P : A2) : Prop where
  z : fp p.z ≠ 0
  x : fp p.x = P.1 * fp p.z
  y : fp p.y = P.2 * fp p.z
  on : On P
theorem ra_ok {p q : Rp} {d : Lm} (hp : p.ok) (hq : q.ok) (hd : d.ok) : (radP p q d).ok := by
  have c := mulL_ok hp.z hq.z
  have e := mulL_ok hd (mulL_ok (mulL_ok hp.x hq.x) (mulL_ok hp.y hq.y))
  have f := addL_ok (mulL_ok c c) e
  have g := subL_ok (y := mulL d (mulL (mulL p.x q.x) (mulL p.y q.y))) (mulL_ok c c)
  exact ⟨mulL_ok (mulL_ok (addL_ok (mulL_ok hp.x hq.y) (mulL_ok hp.y hq.x)) c) g, mulL_ok (mulL_ok (addL_ok (mulL_ok hp.y hq.y) (mulL_ok hp.x hq.x)) c) f, mulL_ok f g⟩
theorem ri1 {d x1 y1 z1 x2 y2 z2 S : Fin pp} (hs : S * (1 + d * (x1 * x2) * (y1 * y2)) = x1 * y2 + y1 * x2) : (x1 * z1 * (y2 * z2) + y1 * z1 * (x2 * z2)) * (z1 * z2) = S * (z1 * z2 * (z1 * z2) + d * (x1 * z1 * (x2 * z2) * (y1 * z1 * (y2 * z2)))) := by grind
theorem ri2 {d x1 y1 z1 x2 y2 z2 S : Fin pp} (hs : S * (1 - d * (x1 * x2) * (y1 * y2)) = y1 * y2 + x1 * x2) : (y1 * z1 * (y2 * z2) + x1 * z1 * (x2 * z2)) * (z1 * z2) = S * (z1 * z2 * (z1 * z2) - d * (x1 * z1 * (x2 * z2) * (y1 * z1 * (y2 * z2)))) := by grind
theorem ri3 (d x1 y1 z1 x2 y2 z2 : Fin pp) : z1 * z2 * (z1 * z2) + d * (x1 * z1 * (x2 * z2) * (y1 * z1 * (y2 * z2))) = (z1 * z2) * (z1 * z2) * (1 + d * (x1 * x2) * (y1 * y2)) := by grind
theorem ri4 (d x1 y1 z1 x2 y2 z2 : Fin pp) : z1 * z2 * (z1 * z2) - d * (x1 * z1 * (x2 * z2) * (y1 * z1 * (y2 * z2))) = (z1 * z2) * (z1 * z2) * (1 - d * (x1 * x2) * (y1 * y2)) := by grind
theorem ir_ad {p q : Rp} {P Q : A2} (hp : p.ok) (hq : q.ok) (h : Ir p P) (k : Ir q Q) : Ir (radP p q dL) (adA P Q) := by
  have eok := mulL_ok dL_ok (mulL_ok (mulL_ok hp.x hq.x) (mulL_ok hp.y hq.y))
  have ef : fp (addL (mulL (mulL p.z q.z) (mulL p.z q.z)) (mulL dL (mulL (mulL p.x q.x) (mulL p.y q.y)))) = fp p.z * fp q.z * (fp p.z * fp q.z) + dF * (P.1 * fp p.z * (Q.1 * fp q.z) * (P.2 * fp p.z * (Q.2 * fp q.z))) := by
    rw [fp_add, fp_mul, fp_mul, fp_mul, fp_mul, fp_mul, fp_mul, h.x, h.y, k.x, k.y]
    rfl
  have eg : fp (subL (mulL (mulL p.z q.z) (mulL p.z q.z)) (mulL dL (mulL (mulL p.x q.x) (mulL p.y q.y)))) = fp p.z * fp q.z * (fp p.z * fp q.z) - dF * (P.1 * fp p.z * (Q.1 * fp q.z) * (P.2 * fp p.z * (Q.2 * fp q.z))) := by
    rw [fp_sub _ eok, fp_mul, fp_mul, fp_mul, fp_mul, fp_mul, fp_mul, h.x, h.y, k.x, k.y]
    rfl
  have ea : fp (mulL (addL (mulL p.x q.y) (mulL p.y q.x)) (mulL p.z q.z)) = (adA P Q).1 * fp (addL (mulL (mulL p.z q.z) (mulL p.z q.z)) (mulL dL (mulL (mulL p.x q.x) (mulL p.y q.y)))) := by
    rw [ef, fp_mul, fp_add, fp_mul, fp_mul, fp_mul, h.x, h.y, k.x, k.y]
    exact ri1 (ad_1 h.on k.on)
  have eb : fp (mulL (addL (mulL p.y q.y) (mulL p.x q.x)) (mulL p.z q.z)) = (adA P Q).2 * fp (subL (mulL (mulL p.z q.z) (mulL p.z q.z)) (mulL dL (mulL (mulL p.x q.x) (mulL p.y q.y)))) := by
    rw [eg, fp_mul, fp_add, fp_mul, fp_mul, fp_mul, h.x, h.y, k.x, k.y]
    exact ri2 (ad_2 h.on k.on)
  have e3 : fp (addL (mulL (mulL p.z q.z) (mulL p.z q.z)) (mulL dL (mulL (mulL p.x q.x) (mulL p.y q.y)))) ≠ 0 := by
    rw [ef, ri3]
    exact mul_ne (mul_ne (mul_ne h.z k.z) (mul_ne h.z k.z)) (cplus h.on k.on)
  have e4 : fp (subL (mulL (mulL p.z q.z) (mulL p.z q.z)) (mulL dL (mulL (mulL p.x q.x) (mulL p.y q.y)))) ≠ 0 := by
    rw [eg, ri4]
    exact mul_ne (mul_ne (mul_ne h.z k.z) (mul_ne h.z k.z)) (cminus h.on k.on)
  unfold radP
  refine ⟨?_, ?_, ?_, on_ad h.on k.on⟩
  · show fp (mulL _ _) ≠ 0
    rw [fp_mul]
    exact mul_ne e3 e4
  · show fp (mulL (mulL _ _) _) = _ * fp (mulL _ _)
    rw [fp_mul, fp_mul (addL (mulL (mulL p.z q.z) (mulL p.z q.z)) _), ea]
    exact ie1 _ _ _
  · show fp (mulL (mulL _ _) _) = _ * fp (mulL _ _)
    rw [fp_mul, fp_mul (addL (mulL (mulL p.z q.z) (mulL p.z q.z)) _), eb]
    exact ie2 _ _ _
theorem ir_ng {p : Rp} {P : A2} (hp : p.ok) (h : Ir p P) : Ir (rngP p) (ngA P) :=
  ⟨h.z, (fp_neg hp.x).trans (by rw [h.x]; exact in1 _ _), h.y, on_ng h.on⟩
/-- The document's zero. -/
def rzP : Rp := ⟨zeL, smL 1, smL 1⟩
theorem rz_ok : rzP.ok := ⟨zeL_ok, sm_ok1, sm_ok1⟩
theorem fp_ze : fp zeL = 0 := Fin.ext (by show nu zeL = _; rw [nu_zeL]; rfl)
theorem ir_ze : Ir rzP O2 := by
  have hz : fp rzP.z = 1 := fp_1
  have hy : fp rzP.y = 1 := fp_1
  have hx : fp rzP.x = 0 := fp_ze
  exact ⟨by rw [hz]; decide, by rw [hx]; exact (Fin.zero_mul _).symm, by rw [hy, hz]; decide, on_O⟩
/-- A point's coordinates, divided. -/
theorem ir_div {x z a : Lm} {X : Fin pp} (hz : fp z ≠ 0) (hx : fp x = X * fp z) : nu (mulL x (invL z)) = X.val := by
  have hv : nu z ≠ 0 := fun e => hz (Fin.ext e)
  have h1 := inv_one z
  rw [if_neg hv] at h1
  have h2 : fp z * fp (invL z) = 1 := by
    rw [← fp_mul]
    exact Fin.ext (h1.trans (by decide))
  have h3 : fp (mulL x (invL z)) = X := by
    rw [fp_mul, hx]
    grind
  exact congrArg Fin.val h3
/-- The number that a point's bytes tell. -/
def told (P : A2) : Nat := P.2.val + (if P.1.val % 2 = 1 then 57896044618658097711785492504343953926634992332820282019728792003956564819968 else 0)
theorem is_told {p : Pm} {P : A2} (h : Is p P) : ptN p = told P := by
  unfold ptN told
  rw [ir_div (a := p.x) h.z h.x, ir_div (a := p.x) h.z h.y]
theorem x_sq {d x y u : Fin pp} (h1 : y * y - x * x - 1 - d * (x * x) * (y * y) = 0) (h2 : y * y - u * u - 1 - d * (u * u) * (y * y) = 0) : (x - u) * (x + u) * (1 + d * (y * y)) = 0 := by grind
theorem dy_ne0 {y : Fin pp} : 1 + dF * (y * y) ≠ 0 := by
  intro e
  by_cases hy : y = 0
  · rw [hy, Fin.mul_zero, Fin.mul_zero, Fin.add_zero] at e
    exact absurd e (by decide)
  · refine d_ns hy (r := jF) ?_
    have := j_sq
    grind
theorem told_inj {P Q : A2} (hP : On P) (hQ : On Q) (h : told P = told Q) : P = Q := by
  have a1 := P.2.isLt
  have a2 := Q.2.isLt
  have hb : pp < 57896044618658097711785492504343953926634992332820282019728792003956564819968 := by decide
  have hy : P.2.val = Q.2.val := by
    unfold told at h
    split at h <;> split at h <;> omega
  have hpar : P.1.val % 2 = Q.1.val % 2 := by
    unfold told at h
    split at h <;> split at h <;> omega
  have ey : P.2 = Q.2 := Fin.ext hy
  refine Prod.ext ?_ ey
  have hQ' : P.2 * P.2 - Q.1 * Q.1 - 1 - dF * (Q.1 * Q.1) * (P.2 * P.2) = 0 := by rw [ey]; exact hQ
  have hx := (fp_dom (x_sq hP hQ')).resolve_right dy_ne0
  rcases fp_dom hx with e | e
  · grind
  · have e2 : (P.1.val + Q.1.val) % pp = 0 := by
      have := congrArg Fin.val e
      rwa [Fin.val_add] at this
    have b1 := P.1.isLt
    have b2 := Q.1.isLt
    have hodd : pp % 2 = 1 := by decide
    refine Fin.ext ?_
    generalize P.1.val = u at *
    generalize Q.1.val = v at *
    have h3 : u + v = 0 ∨ u + v = pp := by
      have h4 : u + v < 2 * pp := by omega
      rcases Nat.lt_or_ge (u + v) pp with h5 | h5
      · rw [Nat.mod_eq_of_lt h5] at e2; exact .inl e2
      · rw [Nat.mod_eq_sub_mod h5, Nat.mod_eq_of_lt (by omega)] at e2
        exact .inr (by omega)
    rcases h3 with h3 | h3
    · omega
    · omega
end

section
set_option maxRecDepth 100000
set_option linter.unusedSimpArgs false
set_option linter.unusedVariables false
open Go.RowKit

def rmA (p : Rp) : Nat → Rp
  | 0 => p
  | k + 1 => radP (rmA p k) (rmA p k) dL
def rmO (p : Rp) (e : Nat) : Nat → Rp
  | 0 => rzP
  | k + 1 => if e / 2 ^ k % 2 = 1 then radP (rmO p e k) (rmA p k) dL else rmO p e k
theorem rmA_ok {p : Rp} (h : p.ok) : ∀ k, (rmA p k).ok
  | 0 => h
  | k + 1 => ra_ok (rmA_ok h k) (rmA_ok h k) dL_ok
theorem rmO_one {p : Rp} {e k : Nat} (h : e / 2 ^ k % 2 = 1) : rmO p e (k + 1) = radP (rmO p e k) (rmA p k) dL := by rw [rmO, if_pos h]
theorem rmO_no {p : Rp} {e k : Nat} (h : ¬ e / 2 ^ k % 2 = 1) : rmO p e (k + 1) = rmO p e k := by rw [rmO, if_neg h]
theorem rmO_ok {p : Rp} (e : Nat) (h : p.ok) : ∀ k, (rmO p e k).ok
  | 0 => rz_ok
  | k + 1 => by
    by_cases hb : e / 2 ^ k % 2 = 1
    · rw [rmO_one hb]; exact ra_ok (rmO_ok e h k) (rmA_ok h k) dL_ok
    · rw [rmO_no hb]; exact rmO_ok e h k
def rmuP (p : Rp) (e : Nat) : Rp := rmO p e 256
theorem ir_mA {p : Rp} {P : A2} (hp : p.ok) (h : Ir p P) : ∀ k, Ir (rmA p k) (sm (2 ^ k) P)
  | 0 => by rw [Nat.pow_zero, sm_one]; exact h
  | k + 1 => by
    rw [Nat.pow_succ, sm_two h.on]
    exact ir_ad (rmA_ok hp k) (rmA_ok hp k) (ir_mA hp h k) (ir_mA hp h k)
theorem ir_mO {p : Rp} {P : A2} (hp : p.ok) (h : Ir p P) (e : Nat) : ∀ k, Ir (rmO p e k) (sm (e % 2 ^ k) P)
  | 0 => by rw [Nat.pow_zero, Nat.mod_one]; exact ir_ze
  | k + 1 => by
    by_cases hb : e / 2 ^ k % 2 = 1
    · rw [rmO_one hb, Nat.pow_succ 2 k, Nat.mod_mul, hb, Nat.mul_one, sm_add h.on]
      exact ir_ad (rmO_ok e hp k) (rmA_ok hp k) (ir_mO hp h e k) (ir_mA hp h k)
    · rw [rmO_no hb, Nat.pow_succ 2 k, Nat.mod_mul, show e / 2 ^ k % 2 = 0 by omega, Nat.mul_zero, Nat.add_zero]
      exact ir_mO hp h e k
theorem ir_mu {p : Rp} {P : A2} {e : Nat} (hp : p.ok) (he : e < 2 ^ 256) (h : Ir p P) : Ir (rmuP p e) (sm e P) := by
  have := ir_mO hp h e 256
  rwa [Nat.mod_eq_of_lt he] at this
theorem zrp_ref (w : World) : Calls Tryd.prog 79 #[] w fun e w' => e = .returned (.agg (RL rzP).toArray) ∧ Below w.heap.size w w' := zr_ref w
theorem rl_zero_row (w : World) : Row (w.alloc (.cells #[.int .u32 0, .int .u32 0, .int .u32 0, .int .u32 0, .int .u32 0, .int .u32 0, .int .u32 0, .int .u32 0, .int .u32 0, .int .u32 0, .int .u32 0, .int .u32 0, .int .u32 0, .int .u32 0, .int .u32 0, .int .u32 0, .int .u32 0, .int .u32 0, .int .u32 0, .int .u32 0, .int .u32 0, .int .u32 0, .int .u32 0, .int .u32 0] 62)) w.heap.size 62 (RL zeR) := by
  rw [RL_zero]
  exact Row.new w _ _

set_option maxHeartbeats 6400000 in
theorem mup_ref {p : Rp} (hp : p.ok) (e : Nat) (w : World) :
    Calls Tryd.prog 57 #[.agg (RL p).toArray, .agg (By e 32).toArray] w fun e' w' => e' = .returned (.agg (RL (rmuP p e)).toArray) ∧ Below w.heap.size w w' := by
  have HSB := Lib.hid by_info
  have hr1 := ((Row.new w (RL p) 62).alloc (.cells (By e 32).toArray 22)).alloc (.cells #[.int .u32 0, .int .u32 0, .int .u32 0, .int .u32 0, .int .u32 0, .int .u32 0, .int .u32 0, .int .u32 0, .int .u32 0, .int .u32 0, .int .u32 0, .int .u32 0, .int .u32 0, .int .u32 0, .int .u32 0, .int .u32 0, .int .u32 0, .int .u32 0, .int .u32 0, .int .u32 0, .int .u32 0, .int .u32 0, .int .u32 0, .int .u32 0] 62)
  have hr2 := (Row.new1 w (.cells (RL p).toArray 62) (By e 32) 22).alloc (.cells #[.int .u32 0, .int .u32 0, .int .u32 0, .int .u32 0, .int .u32 0, .int .u32 0, .int .u32 0, .int .u32 0, .int .u32 0, .int .u32 0, .int .u32 0, .int .u32 0, .int .u32 0, .int .u32 0, .int .u32 0, .int .u32 0, .int .u32 0, .int .u32 0, .int .u32 0, .int .u32 0, .int .u32 0, .int .u32 0, .int .u32 0, .int .u32 0] 62)
  have hr3 : Row (((w.alloc (.cells (RL p).toArray 62)).alloc (.cells (By e 32).toArray 22)).alloc (.cells #[.int .u32 0, .int .u32 0, .int .u32 0, .int .u32 0, .int .u32 0, .int .u32 0, .int .u32 0, .int .u32 0, .int .u32 0, .int .u32 0, .int .u32 0, .int .u32 0, .int .u32 0, .int .u32 0, .int .u32 0, .int .u32 0, .int .u32 0, .int .u32 0, .int .u32 0, .int .u32 0, .int .u32 0, .int .u32 0, .int .u32 0, .int .u32 0] 62)) (w.heap.size + 1 + 1) 62 (RL zeR) := by
    rw [RL_zero]
    exact Row.new2 w _ _ _ _
  have hb0 := Below.alloc3 w (.cells (RL p).toArray 62) (.cells (By e 32).toArray 22) (.cells #[.int .u32 0, .int .u32 0, .int .u32 0, .int .u32 0, .int .u32 0, .int .u32 0, .int .u32 0, .int .u32 0, .int .u32 0, .int .u32 0, .int .u32 0, .int .u32 0, .int .u32 0, .int .u32 0, .int .u32 0, .int .u32 0, .int .u32 0, .int .u32 0, .int .u32 0, .int .u32 0, .int .u32 0, .int .u32 0, .int .u32 0, .int .u32 0] 62)
  have hs0 : (((w.alloc (.cells (RL p).toArray 62)).alloc (.cells (By e 32).toArray 22)).alloc (.cells #[.int .u32 0, .int .u32 0, .int .u32 0, .int .u32 0, .int .u32 0, .int .u32 0, .int .u32 0, .int .u32 0, .int .u32 0, .int .u32 0, .int .u32 0, .int .u32 0, .int .u32 0, .int .u32 0, .int .u32 0, .int .u32 0, .int .u32 0, .int .u32 0, .int .u32 0, .int .u32 0, .int .u32 0, .int .u32 0, .int .u32 0, .int .u32 0] 62)).heap.size = w.heap.size + 1 + 1 + 1 := by simp
  have HR1 := Lib.hid hr1
  have HR2 := Lib.hid hr2
  have HR3 := Lib.hid hr3
  have HB0 := Lib.hid hb0
  have HS0 := Lib.hid hs0
  clear hr1 hr2 hr3 hb0 hs0
  go_enter Tryd.func57, Tryd.ntmps57
  go_wp2_with fail
  refine (d_ref _).mono ?_
  rintro e1 w1 ⟨rfl, hb1⟩
  have hsz := hb1.size
  rw [HS0.out] at hsz
  have hx1 := HR1.out.belowAll hb1
  have hn1 := HR2.out.belowAll hb1
  have hz1 := HR3.out.belowAll hb1
  have hw1 := HB0.out.trans (hb1.mono HB0.out.size)
  have hv0 := nw_zero_row w1
  have hd2 := hv0.setRow (Nw (nu dL))
  have hx2 := (hx1.alloc (.cells #[.int .u32 0, .int .u32 0, .int .u32 0, .int .u32 0, .int .u32 0, .int .u32 0, .int .u32 0, .int .u32 0] 30)).setRowOther (k := w1.heap.size) (by omega) (Nw (nu dL)).toArray
  have hn2 := (hn1.alloc (.cells #[.int .u32 0, .int .u32 0, .int .u32 0, .int .u32 0, .int .u32 0, .int .u32 0, .int .u32 0, .int .u32 0] 30)).setRowOther (k := w1.heap.size) (by omega) (Nw (nu dL)).toArray
  have hz2 := (hz1.alloc (.cells #[.int .u32 0, .int .u32 0, .int .u32 0, .int .u32 0, .int .u32 0, .int .u32 0, .int .u32 0, .int .u32 0] 30)).setRowOther (k := w1.heap.size) (by omega) (Nw (nu dL)).toArray
  have hw2 := below_setRow (g := w1.heap.size) (hw1.alloc (by omega) (.cells #[.int .u32 0, .int .u32 0, .int .u32 0, .int .u32 0, .int .u32 0, .int .u32 0, .int .u32 0, .int .u32 0] 30)) (by omega) (Nw (nu dL)).toArray
  have HV0 := Lib.hid hv0
  clear hb1 hx1 hn1 hz1 hw1 hv0 HR1 HR2 HR3 HB0 HS0
  go_wp2_with (refine wpList_store_row rfl 30 (.tmp 5) (.tmp 8) rfl w1.heap.size _ rfl rfl 30 _ HV0.out (nw_info _) (Nw_sz _ _) (Nw_one _) ?_)
  clear HV0
  have hg5 : w1.heap.size < ((w1.alloc (.cells #[.int .u32 0, .int .u32 0, .int .u32 0, .int .u32 0, .int .u32 0, .int .u32 0, .int .u32 0, .int .u32 0] 30)).setRow w1.heap.size (Nw (nu dL)).toArray).heap.size := hd2.lt
  generalize (w1.alloc (.cells #[.int .u32 0, .int .u32 0, .int .u32 0, .int .u32 0, .int .u32 0, .int .u32 0, .int .u32 0, .int .u32 0] 30)).setRow w1.heap.size (Nw (nu dL)).toArray = V1 at *
  generalize w1.heap.size = g5 at *
  refine (zrp_ref _).mono ?_
  rintro e2 w2 ⟨rfl, hb2⟩
  have hsz2 := hb2.size
  have hx3 := hx2.belowAll hb2
  have hn3 := hn2.belowAll hb2
  have hz3 := hz2.belowAll hb2
  have hd3 := hd2.belowAll hb2
  have hw3 := hw2.trans (hb2.mono hw2.size)
  have hv0 := rl_zero_row w2
  have hv1 := hv0.setRow (RL rzP)
  have hx4 := (hx3.alloc (.cells #[.int .u32 0, .int .u32 0, .int .u32 0, .int .u32 0, .int .u32 0, .int .u32 0, .int .u32 0, .int .u32 0, .int .u32 0, .int .u32 0, .int .u32 0, .int .u32 0, .int .u32 0, .int .u32 0, .int .u32 0, .int .u32 0, .int .u32 0, .int .u32 0, .int .u32 0, .int .u32 0, .int .u32 0, .int .u32 0, .int .u32 0, .int .u32 0] 62)).setRowOther (k := w2.heap.size) (by omega) (RL rzP).toArray
  have hn4 := (hn3.alloc (.cells #[.int .u32 0, .int .u32 0, .int .u32 0, .int .u32 0, .int .u32 0, .int .u32 0, .int .u32 0, .int .u32 0, .int .u32 0, .int .u32 0, .int .u32 0, .int .u32 0, .int .u32 0, .int .u32 0, .int .u32 0, .int .u32 0, .int .u32 0, .int .u32 0, .int .u32 0, .int .u32 0, .int .u32 0, .int .u32 0, .int .u32 0, .int .u32 0] 62)).setRowOther (k := w2.heap.size) (by omega) (RL rzP).toArray
  have hz4 := (hz3.alloc (.cells #[.int .u32 0, .int .u32 0, .int .u32 0, .int .u32 0, .int .u32 0, .int .u32 0, .int .u32 0, .int .u32 0, .int .u32 0, .int .u32 0, .int .u32 0, .int .u32 0, .int .u32 0, .int .u32 0, .int .u32 0, .int .u32 0, .int .u32 0, .int .u32 0, .int .u32 0, .int .u32 0, .int .u32 0, .int .u32 0, .int .u32 0, .int .u32 0] 62)).setRowOther (k := w2.heap.size) (by omega) (RL rzP).toArray
  have hd4 := (hd3.alloc (.cells #[.int .u32 0, .int .u32 0, .int .u32 0, .int .u32 0, .int .u32 0, .int .u32 0, .int .u32 0, .int .u32 0, .int .u32 0, .int .u32 0, .int .u32 0, .int .u32 0, .int .u32 0, .int .u32 0, .int .u32 0, .int .u32 0, .int .u32 0, .int .u32 0, .int .u32 0, .int .u32 0, .int .u32 0, .int .u32 0, .int .u32 0, .int .u32 0] 62)).setRowOther (k := w2.heap.size) (by omega) (RL rzP).toArray
  have hw4 := below_setRow (g := w2.heap.size) (hw3.alloc (by omega) (.cells #[.int .u32 0, .int .u32 0, .int .u32 0, .int .u32 0, .int .u32 0, .int .u32 0, .int .u32 0, .int .u32 0, .int .u32 0, .int .u32 0, .int .u32 0, .int .u32 0, .int .u32 0, .int .u32 0, .int .u32 0, .int .u32 0, .int .u32 0, .int .u32 0, .int .u32 0, .int .u32 0, .int .u32 0, .int .u32 0, .int .u32 0, .int .u32 0] 62)) (by omega) (RL rzP).toArray
  have h56 : g5 < w2.heap.size := by omega
  have HV0 := Lib.hid hv0
  have HV1 := Lib.hid hv1
  have HX2 := Lib.hid hx4
  have HN2 := Lib.hid hn4
  have HZ2 := Lib.hid hz4
  have HD2 := Lib.hid hd4
  have HW2 := Lib.hid hw4
  have HSZ := Lib.hid hsz
  have H56 := Lib.hid h56
  clear hb2 hsz hsz2 hx2 hn2 hz2 hd2 hw2 hx3 hn3 hz3 hd3 hw3 hv0 hv1 hx4 hn4 hz4 hd4 hw4 hg5 h56
  go_wp2_with (refine wpList_store_row rfl 62 (.tmp 6) (.tmp 9) rfl w2.heap.size _ rfl rfl 62 _ HV0.out (rl_info _) (RL_sz _ _) (RL_one _) ?_)
  generalize (w2.alloc (.cells #[.int .u32 0, .int .u32 0, .int .u32 0, .int .u32 0, .int .u32 0, .int .u32 0, .int .u32 0, .int .u32 0, .int .u32 0, .int .u32 0, .int .u32 0, .int .u32 0, .int .u32 0, .int .u32 0, .int .u32 0, .int .u32 0, .int .u32 0, .int .u32 0, .int .u32 0, .int .u32 0, .int .u32 0, .int .u32 0, .int .u32 0, .int .u32 0] 62)).setRow w2.heap.size (RL rzP).toArray = W2 at *
  generalize w2.heap.size = g6 at *
  go_loopw [7] (fun i wr => ∃ k : Nat, k ≤ 256 ∧ i = .int .i64 (k : Int) ∧ Row wr w.heap.size 62 (RL (rmA p k)) ∧ Row wr (w.heap.size + 1) 22 (By e 32) ∧ Row wr (w.heap.size + 1 + 1) 62 (RL zeR) ∧ Row wr g5 30 (Nw (nu dL)) ∧ Row wr g6 62 (RL (rmO p e k)) ∧ Below w.heap.size w wr) (fun i _ => 256 - (intOf i).toNat)
  case atStart =>
    exact ⟨0, Nat.zero_le _, rfl, HX2.out, HN2.out, HZ2.out, HD2.out, HV1.out, HW2.out⟩
  case round =>
    obtain ⟨k, hk6, rfl, ha, hb, hz, hd, ho, hbe⟩ := hrel
    have hsz := HSZ.out
    have h56 := H56.out
    by_cases hlt : k < 256
    · have hcb := hb.cell (By_get e 32 (k := k / 8) (by omega))
      have hbit := byt_bit e k
      have lb := byt_lt e (k / 8)
      have hsh : ((byt e (k / 8) : Nat) : Int) / 2 ^ (k % 8) = ((byt e (k / 8) / 2 ^ (k % 8) : Nat) : Int) := by simp
      have hdv : Int.tdiv (k : Int) 8 = ((k / 8 : Nat) : Int) := by rw [Int.tdiv_eq_ediv_of_nonneg (by omega)]; omega
      have hm : Int.tmod (k : Int) 8 = ((k % 8 : Nat) : Int) := by rw [Int.tmod_eq_emod_of_nonneg (by omega)]; omega
      have hd' : (k : Int) / 8 = ((k / 8 : Nat) : Int) := by omega
      have hm' : (k : Int) % 8 = ((k % 8 : Nat) : Int) := by omega
      have h8 : k / 8 < 32 := by omega
      have him : k % 8 < 8 := Nat.mod_lt _ (by decide)
      have b0 : (0 : Int) ≤ (k : Int) := by omega
      have b6 : (k : Int) < 256 := by omega
      have hav := rmA_ok hp k
      have hov := rmO_ok e hp k
      have hsq : rmA p (k + 1) = radP (rmA p k) (rmA p k) dL := rfl
      have hw1 : IntKind.i64.wrap ((k / 8 : Nat) : Int) = ((k / 8 : Nat) : Int) := IntWalk.i64_in _ (by omega)
      have HA := Lib.hid ha
      have HB := Lib.hid hb
      have HZ := Lib.hid hz
      have HD := Lib.hid hd
      have HO := Lib.hid ho
      have HBE := Lib.hid hbe
      by_cases hone : e / 2 ^ k % 2 = 1
      · have hnext := rmO_one (p := p) hone
        rw [hone] at hbit
        have hq : ((((byt e (k / 8) : Nat) : Int) / 2 ^ (k % 8)) % 2 == 1) = true := by
          rw [hsh, beq_iff_eq]
          omega
        have hpos : (0 : Int) ≤ ((byt e (k / 8) : Nat) : Int) / 2 ^ (k % 8) := by rw [hsh]; exact Int.natCast_nonneg _
        clear hsh hbit hone
        generalize byt e (k / 8) = x8 at *
        generalize k / 8 = q at *
        generalize k % 8 = r at *
        have b2 : (0 : Int) ≤ (q : Int) := by omega
        have b3 : (q : Int) < 32 := by omega
        have b4 : (0 : Int) ≤ (r : Int) := by omega
        have b5 : (r : Int) < 64 := by omega
        have HNX := Lib.hid hnext
        have HSQ := Lib.hid hsq
        clear ha hb hz hd ho hbe hnext hsq
        generalize rmA p k = av at *
        generalize rmO p e k = ov at *
        go_wp2_with (first
          | (refine wpList_load_row rfl 62 (.tmp 6) rfl (g6) rfl 62 _ (0, 0) _ HO.out Tryd.underlying62 rfl (rl_info _) ?_)
          | (refine wpList_load_row rfl 62 (.tmp 2) rfl (w.heap.size) rfl 62 _ (0, 0) _ HA.out Tryd.underlying62 rfl (rl_info _) ?_)
          | (refine wpList_load_row rfl 30 (.tmp 5) rfl (g5) rfl 30 _ (0, 0) _ HD.out Tryd.underlying30 rfl (nw_info _) ?_))
        refine (addp_ref hov hav dL_ok _).mono ?_
        rintro e2 w3 ⟨rfl, hb2⟩
        have ho2 := HO.out.belowAll hb2
        have ha3 := (HA.out.belowAll hb2).setRowOther (k := g6) (by omega) (RL (radP ov av dL)).toArray
        have hb3 := (HB.out.belowAll hb2).setRowOther (k := g6) (by omega) (RL (radP ov av dL)).toArray
        have hz3 := (HZ.out.belowAll hb2).setRowOther (k := g6) (by omega) (RL (radP ov av dL)).toArray
        have hd3 := (HD.out.belowAll hb2).setRowOther (k := g6) (by omega) (RL (radP ov av dL)).toArray
        have ho3 := ho2.setRow (RL (radP ov av dL))
        have hbe3 := below_setRow (g := g6) (HBE.out.trans (hb2.mono HBE.out.size)) (by omega) (RL (radP ov av dL)).toArray
        have HO2 := Lib.hid ho2
        have HA3 := Lib.hid ha3
        have HB3 := Lib.hid hb3
        have HZ3 := Lib.hid hz3
        have HD3 := Lib.hid hd3
        have HO3 := Lib.hid ho3
        have HBE3 := Lib.hid hbe3
        clear ho2 ha3 hb3 hz3 hd3 ho3 hbe3 hb2
        go_wp2_with (first
          | (refine wpList_store_row rfl 62 (.tmp 6) (.tmp 26) rfl (g6) _ rfl rfl 62 _ HO2.out (rl_info _) (RL_sz _ _) (RL_one _) ?_)
          | (refine wpList_load_row rfl 62 (.tmp 2) rfl (w.heap.size) rfl 62 _ (0, 0) _ HA3.out Tryd.underlying62 rfl (rl_info _) ?_)
          | (refine wpList_load_row rfl 30 (.tmp 5) rfl (g5) rfl 30 _ (0, 0) _ HD3.out Tryd.underlying30 rfl (nw_info _) ?_))
        refine (addp_ref hav hav dL_ok _).mono ?_
        rintro e4 w4 ⟨rfl, hb4⟩
        have ha4 := HA3.out.belowAll hb4
        have hb5 := (HB3.out.belowAll hb4).setRowOther (k := w.heap.size) (by omega) (RL (radP av av dL)).toArray
        have hz5 := (HZ3.out.belowAll hb4).setRowOther (k := w.heap.size) (by omega) (RL (radP av av dL)).toArray
        have hd5 := (HD3.out.belowAll hb4).setRowOther (k := w.heap.size) (by omega) (RL (radP av av dL)).toArray
        have ho5 := (HO3.out.belowAll hb4).setRowOther (k := w.heap.size) (by omega) (RL (radP av av dL)).toArray
        have ha5 := ha4.setRow (RL (radP av av dL))
        have hbe5 := below_setRow (g := w.heap.size) (HBE3.out.trans (hb4.mono HBE3.out.size)) (Nat.le_refl _) (RL (radP av av dL)).toArray
        have HA4 := Lib.hid ha4
        have HA5 := Lib.hid ha5
        have HB5 := Lib.hid hb5
        have HZ5 := Lib.hid hz5
        have HD5 := Lib.hid hd5
        have HO5 := Lib.hid ho5
        have HBE5 := Lib.hid hbe5
        clear ha4 ha5 hb5 hz5 hd5 ho5 hbe5 hb4
        go_wp2_with (refine wpList_store_row rfl 62 (.tmp 2) (.tmp 30) rfl (w.heap.size) _ rfl rfl 62 _ HA4.out (rl_info _) (RL_sz _ _) (RL_one _) ?_)
        go_roundw
        case rel => exact ⟨k + 1, by omega, by go_num, by rw [HSQ.out]; exact HA5.out, HB5.out, HZ5.out, HD5.out, by rw [HNX.out]; exact HO5.out, HBE5.out⟩
        case measure => simp [intOf] <;> omega
      · have hnext := rmO_no (p := p) hone
        have hb0' : e / 2 ^ k % 2 = 0 := by omega
        rw [hb0'] at hbit
        have hq : ((((byt e (k / 8) : Nat) : Int) / 2 ^ (k % 8)) % 2 == 1) = false := by
          rw [hsh, beq_eq_false_iff_ne]
          omega
        have hpos : (0 : Int) ≤ ((byt e (k / 8) : Nat) : Int) / 2 ^ (k % 8) := by rw [hsh]; exact Int.natCast_nonneg _
        clear hsh hbit hone hb0'
        generalize byt e (k / 8) = x8 at *
        generalize k / 8 = q at *
        generalize k % 8 = r at *
        have b2 : (0 : Int) ≤ (q : Int) := by omega
        have b3 : (q : Int) < 32 := by omega
        have b4 : (0 : Int) ≤ (r : Int) := by omega
        have b5 : (r : Int) < 64 := by omega
        have HNX := Lib.hid hnext
        have HSQ := Lib.hid hsq
        clear ha hb hz hd ho hbe hnext hsq
        generalize rmA p k = av at *
        generalize rmO p e k = ov at *
        go_wp2_with (first
          | (refine wpList_load_row rfl 62 (.tmp 2) rfl (w.heap.size) rfl 62 _ (0, 0) _ HA.out Tryd.underlying62 rfl (rl_info _) ?_)
          | (refine wpList_load_row rfl 30 (.tmp 5) rfl (g5) rfl 30 _ (0, 0) _ HD.out Tryd.underlying30 rfl (nw_info _) ?_))
        refine (addp_ref hav hav dL_ok _).mono ?_
        rintro e4 w4 ⟨rfl, hb4⟩
        have ha4 := HA.out.belowAll hb4
        have hb5 := (HB.out.belowAll hb4).setRowOther (k := w.heap.size) (by omega) (RL (radP av av dL)).toArray
        have hz5 := (HZ.out.belowAll hb4).setRowOther (k := w.heap.size) (by omega) (RL (radP av av dL)).toArray
        have hd5 := (HD.out.belowAll hb4).setRowOther (k := w.heap.size) (by omega) (RL (radP av av dL)).toArray
        have ho5 := (HO.out.belowAll hb4).setRowOther (k := w.heap.size) (by omega) (RL (radP av av dL)).toArray
        have ha5 := ha4.setRow (RL (radP av av dL))
        have hbe5 := below_setRow (g := w.heap.size) (HBE.out.trans (hb4.mono HBE.out.size)) (Nat.le_refl _) (RL (radP av av dL)).toArray
        have HA4 := Lib.hid ha4
        have HA5 := Lib.hid ha5
        have HB5 := Lib.hid hb5
        have HZ5 := Lib.hid hz5
        have HD5 := Lib.hid hd5
        have HO5 := Lib.hid ho5
        have HBE5 := Lib.hid hbe5
        clear ha4 ha5 hb5 hz5 hd5 ho5 hbe5 hb4
        go_wp2_with (refine wpList_store_row rfl 62 (.tmp 2) (.tmp 30) rfl (w.heap.size) _ rfl rfl 62 _ HA4.out (rl_info _) (RL_sz _ _) (RL_one _) ?_)
        go_roundw
        case rel => exact ⟨k + 1, by omega, by go_num, by rw [HSQ.out]; exact HA5.out, HB5.out, HZ5.out, HD5.out, by rw [HNX.out]; exact HO5.out, HBE5.out⟩
        case measure => simp [intOf] <;> omega
    · obtain rfl : k = 256 := by omega
      have HZ := Lib.hid hz
      have HO := Lib.hid ho
      have HBE := Lib.hid hbe
      clear ha hb hz hd ho hbe hsz HV0 HV1 HX2 HN2 HZ2 HW2 HD2
      go_wp2_with (first
          | (refine wpList_load_row rfl 62 (.tmp 6) rfl (g6) rfl 62 _ (0, 0) _ HO.out Tryd.underlying62 rfl (rl_info _) ?_)
          | (refine wpList_store_row rfl 62 (.tmp 4) (.tmp 31) rfl (w.heap.size + 1 + 1) _ rfl rfl 62 _ HZ.out (rl_info _) (RL_sz _ _) (RL_one _) ?_))
      have hgot := setRow_heap wr (w.heap.size + 1 + 1) _ (RL (rmO p e 256)).toArray _ _ HZ.out
      refine bodyPost_ret (results_cell_row (by rfl) _ _ (w.heap.size + 1 + 1) _ _ _ _ (by rfl) hgot Tryd.underlying62 rfl (rl_info _)) rfl ?_
      exact ⟨rfl, below_setRow HBE.out (by omega) _⟩
end

section
set_option maxRecDepth 100000
set_option linter.unusedSimpArgs false
set_option linter.unusedVariables false
open Go.RowKit

theorem oddp_is {N : Nat} {b : Bool} (h : decide (N % 2 = 1) = b) (w : World) :
    Calls Tryd.prog 19 #[.agg (Nw N).toArray] w fun e w' => e = .returned (.bool b) ∧ Below w.heap.size w w' := by
  rw [← h]; exact oddr_ref N w
/-- The bytes of a point of the document, as a number. -/
def ptR (p : Rp) : Nat := nu (mulL p.y (invL p.z)) + (if nu (mulL p.x (invL p.z)) % 2 = 1 then 57896044618658097711785492504343953926634992332820282019728792003956564819968 else 0)
theorem ir_told {p : Rp} {P : A2} (h : Ir p P) : ptR p = told P := by
  unfold ptR told
  rw [ir_div (a := p.x) h.z h.x, ir_div (a := p.x) h.z h.y]

set_option maxHeartbeats 3200000 in
theorem bytp_ref (p : Rp) (w : World) :
    Calls Tryd.prog 49 #[.agg (RL p).toArray] w fun e w' => e = .returned (.agg (By (ptR p) 32).toArray) ∧ Below w.heap.size w w' := by
  have hb0 := ((Row.new w (RL p) 62)).alloc (.cells #[.int .u8 0, .int .u8 0, .int .u8 0, .int .u8 0, .int .u8 0, .int .u8 0, .int .u8 0, .int .u8 0, .int .u8 0, .int .u8 0, .int .u8 0, .int .u8 0, .int .u8 0, .int .u8 0, .int .u8 0, .int .u8 0, .int .u8 0, .int .u8 0, .int .u8 0, .int .u8 0, .int .u8 0, .int .u8 0, .int .u8 0, .int .u8 0, .int .u8 0, .int .u8 0, .int .u8 0, .int .u8 0, .int .u8 0, .int .u8 0, .int .u8 0, .int .u8 0] 22)
  have hz : Row ((w.alloc (.cells (RL p).toArray 62)).alloc (.cells #[.int .u8 0, .int .u8 0, .int .u8 0, .int .u8 0, .int .u8 0, .int .u8 0, .int .u8 0, .int .u8 0, .int .u8 0, .int .u8 0, .int .u8 0, .int .u8 0, .int .u8 0, .int .u8 0, .int .u8 0, .int .u8 0, .int .u8 0, .int .u8 0, .int .u8 0, .int .u8 0, .int .u8 0, .int .u8 0, .int .u8 0, .int .u8 0, .int .u8 0, .int .u8 0, .int .u8 0, .int .u8 0, .int .u8 0, .int .u8 0, .int .u8 0, .int .u8 0] 22)) (w.heap.size + 1) 22 (By 0 32) := by
    rw [By_zero]
    exact Row.new1 w _ _ _
  have hw := Below.alloc2 w (.cells (RL p).toArray 62) (.cells #[.int .u8 0, .int .u8 0, .int .u8 0, .int .u8 0, .int .u8 0, .int .u8 0, .int .u8 0, .int .u8 0, .int .u8 0, .int .u8 0, .int .u8 0, .int .u8 0, .int .u8 0, .int .u8 0, .int .u8 0, .int .u8 0, .int .u8 0, .int .u8 0, .int .u8 0, .int .u8 0, .int .u8 0, .int .u8 0, .int .u8 0, .int .u8 0, .int .u8 0, .int .u8 0, .int .u8 0, .int .u8 0, .int .u8 0, .int .u8 0, .int .u8 0, .int .u8 0] 22)
  go_enter Tryd.func49, Tryd.ntmps49
  go_wp2_with (first
    | (refine wpList_load_at rfl 30 (.tmp 5) rfl ⟨w.heap.size, 16, none⟩ rfl (Nw (nu p.z)) _ (hb0.part 16 (Nw (nu p.z)) (rt_z _)) Tryd.underlying30 rfl (nw_len _) ?_))
  refine (invr_nu p.z _).mono ?_
  rintro e W1 ⟨rfl, hb⟩
  replace hb0 := hb0.belowAll hb
  replace hz := hz.belowAll hb
  replace hw := hw.trans (hb.mono hw.size)
  clear hb
  have lt_hb0 := hb0.lt
  have lt_hz := hz.lt
  have ne_hb0_1 : w.heap.size ≠ W1.heap.size := by omega
  have ne_hz_1 : w.heap.size + 1 ≠ W1.heap.size := by omega
  have new_1 := Row.new W1 (Nw 0) 30
  replace hb0 := (hb0.alloc (.cells (Nw 0).toArray 30)).setRowOther (k := W1.heap.size) ne_hb0_1 (Nw (nu (invL p.z))).toArray
  replace hz := (hz.alloc (.cells (Nw 0).toArray 30)).setRowOther (k := W1.heap.size) ne_hz_1 (Nw (nu (invL p.z))).toArray
  have h3 := new_1.setRow (Nw (nu (invL p.z)))
  have ge_1 := hw.size
  replace hw := below_setRow (g := W1.heap.size) (hw.alloc hw.size (.cells (Nw 0).toArray 30)) hw.size (Nw (nu (invL p.z))).toArray
  have NEW := Lib.hid new_1
  clear new_1 lt_hb0 lt_hz
  go_wp2_with (first
    | (refine wpList_store_row rfl 30 (.tmp 3) (.tmp 7) rfl W1.heap.size _ rfl rfl 30 _ NEW.out (nw_info _) (Nw_sz _ _) (Nw_one _) ?_)
    | (refine wpList_load_at rfl 30 (.tmp 8) rfl ⟨w.heap.size, 8, none⟩ rfl (Nw (nu p.y)) _ (hb0.part 8 (Nw (nu p.y)) (rt_y _)) Tryd.underlying30 rfl (nw_len _) ?_)
    | (refine wpList_load_row rfl 30 (.tmp 3) rfl (W1.heap.size) rfl 30 _ (0, 0) _ h3 Tryd.underlying30 rfl (nw_info _) ?_))
  clear NEW
  rw [zero8]
  generalize (W1.alloc (.cells (Nw 0).toArray 30)).setRow W1.heap.size (Nw (nu (invL p.z))).toArray = V1 at *
  generalize W1.heap.size = g3 at *
  refine (mulr_nu p.y (invL p.z) _).mono ?_
  rintro e W2 ⟨rfl, hb⟩
  replace hb0 := hb0.belowAll hb
  replace hz := hz.belowAll hb
  replace h3 := h3.belowAll hb
  replace hw := hw.trans (hb.mono hw.size)
  clear hb
  go_wp2_with fail
  refine (rbytes_ref (nu (mulL p.y (invL p.z))) _).mono ?_
  rintro e W3 ⟨rfl, hb⟩
  replace hb0 := hb0.belowAll hb
  replace hz := hz.belowAll hb
  replace h3 := h3.belowAll hb
  replace hw := hw.trans (hb.mono hw.size)
  clear hb
  have lt_hb0 := hb0.lt
  have lt_hz := hz.lt
  have lt_h3 := h3.lt
  have ne_hb0_3 : w.heap.size ≠ W3.heap.size := by omega
  have ne_hz_3 : w.heap.size + 1 ≠ W3.heap.size := by omega
  have ne_h3_3 : g3 ≠ W3.heap.size := by omega
  have new_3 := Row.new W3 (By 0 32) 22
  replace hb0 := (hb0.alloc (.cells (By 0 32).toArray 22)).setRowOther (k := W3.heap.size) ne_hb0_3 (By (nu (mulL p.y (invL p.z))) 32).toArray
  replace hz := (hz.alloc (.cells (By 0 32).toArray 22)).setRowOther (k := W3.heap.size) ne_hz_3 (By (nu (mulL p.y (invL p.z))) 32).toArray
  replace h3 := (h3.alloc (.cells (By 0 32).toArray 22)).setRowOther (k := W3.heap.size) ne_h3_3 (By (nu (mulL p.y (invL p.z))) 32).toArray
  have h4 := new_3.setRow (By (nu (mulL p.y (invL p.z))) 32)
  have ge_3 := hw.size
  replace hw := below_setRow (g := W3.heap.size) (hw.alloc hw.size (.cells (By 0 32).toArray 22)) hw.size (By (nu (mulL p.y (invL p.z))) 32).toArray
  have NEW := Lib.hid new_3
  clear new_3 lt_hb0 lt_hz lt_h3
  go_wp2_with (first
    | (refine wpList_store_row rfl 22 (.tmp 4) (.tmp 12) rfl W3.heap.size _ rfl rfl 22 _ NEW.out (by_info _) (By_sz _ _) (By_one32 _) ?_)
    | (refine wpList_load_at rfl 30 (.tmp 13) rfl ⟨w.heap.size, 0, none⟩ rfl (Nw (nu p.x)) _ (hb0.part 0 (Nw (nu p.x)) (rt_x _)) Tryd.underlying30 rfl (nw_len _) ?_)
    | (refine wpList_load_row rfl 30 (.tmp 3) rfl (g3) rfl 30 _ (0, 0) _ h3 Tryd.underlying30 rfl (nw_info _) ?_))
  clear NEW
  rw [z32]
  generalize (W3.alloc (.cells (By 0 32).toArray 22)).setRow W3.heap.size (By (nu (mulL p.y (invL p.z))) 32).toArray = V3 at *
  generalize W3.heap.size = g4 at *
  refine (mulr_nu p.x (invL p.z) _).mono ?_
  rintro e W4 ⟨rfl, hb⟩
  replace hb0 := hb0.belowAll hb
  replace hz := hz.belowAll hb
  replace h3 := h3.belowAll hb
  replace h4 := h4.belowAll hb
  replace hw := hw.trans (hb.mono hw.size)
  clear hb
  clear hb0 h3
  have hlt : nu (mulL p.y (invL p.z)) < 57896044618658097711785492504343953926634992332820282019728792003956564819968 := Nat.lt_trans (nu_lt _) (by decide)
  by_cases hodd : nu (mulL p.x (invL p.z)) % 2 = 1
  · skip
    have hod : decide (nu (mulL p.x (invL p.z)) % 2 = 1) = true := decide_eq_true hodd
    have hpt : ptR p = nu (mulL p.y (invL p.z)) + 57896044618658097711785492504343953926634992332820282019728792003956564819968 := by unfold ptR; rw [if_pos hodd]
    go_wp2_with fail
    refine (oddp_is hod _).mono ?_
    rintro e Wo5 ⟨rfl, hb⟩
    replace hz := hz.belowAll hb
    replace h4 := h4.belowAll hb
    replace hw := hw.trans (hb.mono hw.size)
    clear hb
    have hset := By_hi hlt
    have hcell := h4.cell (By_get (nu (mulL p.y (invL p.z))) 32 (k := 31) (by decide))
    have hfree := h4.free 31
    have hbv := byt_lt (nu (mulL p.y (invL p.z))) 31
    have hsm := ge_hi_false (N := (nu (mulL p.y (invL p.z)))) (by omega)
    have hor : ((byt (nu (mulL p.y (invL p.z))) 31 : Nat) : Int) + 128 = ((byt (nu (mulL p.y (invL p.z))) 31 % 128 + 128 : Nat) : Int) := by omega
    replace h4 := h4.set 31 (.int .u8 ((byt (nu (mulL p.y (invL p.z))) 31 % 128 + 128 : Nat) : Int))
    rw [hset] at h4
    replace hz := hz.setCell (p := ⟨g4, 31, none⟩) ne_hz_3 (.int .u8 ((byt (nu (mulL p.y (invL p.z))) 31 % 128 + 128 : Nat) : Int))
    replace hw := hw.setCell (p := ⟨g4, 31, none⟩) ge_3 (.int .u8 ((byt (nu (mulL p.y (invL p.z))) 31 % 128 + 128 : Nat) : Int))
    rw [← hor] at h4 hz hw
    have hpt2 := hpt
    generalize nu (mulL p.y (invL p.z)) + 57896044618658097711785492504343953926634992332820282019728792003956564819968 = N1 at *
    clear hset hpt2 hor
    generalize byt (nu (mulL p.y (invL p.z))) 31 = bv at *
    have HPT := Lib.hid hpt
    clear hpt hod hodd
    have hgot := setRow_heap _ (w.heap.size + 1) _ (By N1 32).toArray _ _ hz
    have HGOT := Lib.hid hgot
    have HW := Lib.hid hw
    have H4 := Lib.hid h4
    have HZ := Lib.hid hz
    clear hgot hw h4 hz
    go_wp2_with (first
      | (refine wpList_load_row rfl 22 (.tmp 4) rfl g4 rfl 22 _ (0, 0) _ H4.out Tryd.underlying22 rfl (by_info _) ?_)
      | (refine wpList_store_row rfl 22 (.tmp 2) (.tmp 22) rfl (w.heap.size + 1) _ rfl rfl 22 _ HZ.out (by_info _) (By_sz _ _) (By_one _ _) ?_))
    refine bodyPost_ret (results_cell_row (by rfl) _ _ (w.heap.size + 1) _ _ _ _ (by rfl) HGOT.out Tryd.underlying22 rfl (by_info _)) rfl ?_
    exact ⟨by rw [HPT.out], below_setRow HW.out (by omega) _⟩
  · skip
    have hod : decide (nu (mulL p.x (invL p.z)) % 2 = 1) = false := decide_eq_false hodd
    have hpt : ptR p = nu (mulL p.y (invL p.z)) + 0 := by unfold ptR; rw [if_neg hodd]
    go_wp2_with fail
    refine (oddp_is hod _).mono ?_
    rintro e We5 ⟨rfl, hb⟩
    replace hz := hz.belowAll hb
    replace h4 := h4.belowAll hb
    replace hw := hw.trans (hb.mono hw.size)
    clear hb
    rw [Nat.add_zero] at hpt
    have HPT := Lib.hid hpt
    clear hpt hod hodd
    have hgot := setRow_heap _ (w.heap.size + 1) _ (By (nu (mulL p.y (invL p.z))) 32).toArray _ _ hz
    have HGOT := Lib.hid hgot
    have HW := Lib.hid hw
    clear hgot hw
    go_wp2_with (first
      | (refine wpList_load_row rfl 22 (.tmp 4) rfl (g4) rfl 22 _ (0, 0) _ h4 Tryd.underlying22 rfl (by_info _) ?_)
      | (refine wpList_store_row rfl 22 (.tmp 2) (.tmp 22) rfl (w.heap.size + 1) _ rfl rfl 22 _ hz (by_info _) (By_sz _ _) (By_one _ _) ?_))
    refine bodyPost_ret (results_cell_row (by rfl) _ _ (w.heap.size + 1) _ _ _ _ (by rfl) HGOT.out Tryd.underlying22 rfl (by_info _)) rfl ?_
    exact ⟨by rw [HPT.out], below_setRow HW.out (by omega) _⟩
end

section
set_option maxRecDepth 100000
set_option linter.unusedVariables false
open Go.RowKit

theorem fr_v {y : Lm} (hy : y.ok) : fp (frV y) = dF * (fp y * fp y) + 1 := by
  unfold frV dF
  rw [fp_add, fp_mul, fp_mul, fp_1]
theorem fr_u {y : Lm} (hy : y.ok) : fp (frU y) = fp y * fp y - 1 := by
  unfold frU
  rw [fp_sub _ sm_ok1, fp_mul, fp_1]
theorem on_root {d x y : Fin pp} (h : x * x * (d * (y * y) + 1) = y * y - 1) : y * y - x * x - 1 - d * (x * x) * (y * y) = 0 := by grind
theorem dec_on {y : Lm} (hy : y.ok) (h : rootOk (frU y) (frV y) = true) : On (fp (rootL (frU y) (frV y)), fp y) := by
  have hv0 : nu (frV y) ≠ 0 := by
    intro e
    have e2 : fp (frV y) = 0 := Fin.ext e
    rw [fr_v hy] at e2
    exact dy_ne0 (y := fp y) (by grind)
  have h1 := rootL_sq (frU_ok hy) (frV_ok hy) hv0 h
  have h2 := quo_v (u := frU y) hv0
  refine on_root ?_
  rw [← fr_v hy, ← fr_u hy]
  refine Fin.ext ?_
  rw [Fin.val_mul, Fin.val_mul]
  show nu (rootL (frU y) (frV y)) * nu (rootL (frU y) (frV y)) % pp * nu (frV y) % pp = nu (frU y)
  rw [h1, Nat.mod_mul_mod, h2, nu_mod]
/-- The point that 32 bytes tell. -/
def dcA (N : Nat) : A2 :=
  (fp (if N / 57896044618658097711785492504343953926634992332820282019728792003956564819968 % 2 = 1 then negL (rootL (frU (ofB (N % 57896044618658097711785492504343953926634992332820282019728792003956564819968))) (frV (ofB (N % 57896044618658097711785492504343953926634992332820282019728792003956564819968)))) else rootL (frU (ofB (N % 57896044618658097711785492504343953926634992332820282019728792003956564819968))) (frV (ofB (N % 57896044618658097711785492504343953926634992332820282019728792003956564819968)))), fp (ofB (N % 57896044618658097711785492504343953926634992332820282019728792003956564819968)))
theorem dcA_on {N : Nat} (h : decOk N = true) : On (dcA N) := by
  have hr : rootOk (frU (ofB (N % 57896044618658097711785492504343953926634992332820282019728792003956564819968))) (frV (ofB (N % 57896044618658097711785492504343953926634992332820282019728792003956564819968))) = true := by
    unfold decOk at h
    exact (Bool.and_eq_true _ _ ▸ h).1
  have hy := ofB_ok (N % 57896044618658097711785492504343953926634992332820282019728792003956564819968)
  have ho := dec_on hy hr
  unfold dcA
  split
  · have := on_ng ho
    unfold ngA at this
    rw [fp_neg (rootL_ok (frU_ok hy) (frV_ok hy))]
    exact this
  · exact ho
theorem is_dec {N : Nat} (h : decOk N = true) : Is (decPt N) (dcA N) := by
  have ho := dcA_on h
  unfold decPt
  rw [h, if_pos rfl]
  exact is_at ho
theorem ir_dec {N : Nat} (h : decOk N = true) {r : Rp} (hx : fp r.x = (dcA N).1) (hy : fp r.y = (dcA N).2) (hz : r.z = smL 1) : Ir r (dcA N) := by
  have z1 : fp r.z = 1 := by rw [hz]; exact fp_1
  exact ⟨by rw [z1]; decide, by rw [hx, z1]; exact (Fin.mul_one _).symm, by rw [hy, z1]; exact (Fin.mul_one _).symm, dcA_on h⟩
end

end Go.Proofs.YthpbipebpaeagaaDoor
