/- A number and its negative: the law's own walk. -/
import Derived.Test.YtklbcpaoccdmeaaDoorRfG
import Derived.Laws.BitsAllLaws
import Derived.Deep.CutRange
import Derived.Deep.CutBlock
import Derived.RegionTactic
import Derived.Lib.Hide
import Derived.IntWalk
namespace Go.Proofs.YtklbcpaoccdmeaaDoor
set_option maxRecDepth 100000
open Go.RowKit

theorem wpList_load_rowG {P : Program} {ops : Array Oper} {rest : List Oper} {o : Oper} {a : Act} {w : World} {Q : Exit → Act → World → Prop} (hw : Region.wanted o (yielded ops a.tmps) = true) (ty : TypeId) (x : Operand) (ho : o.op = .load ty x)
    (g : Nat) (hx : a.eval x = .pointer (some ⟨g, 0, none⟩)) (t : TypeId) (cs : Array Value) (fr : Nat × Nat) (d : TypeDesc) (hg : w.heap[g]? = some (.cells cs t fr))
    (hu : P.underlying ty = some d) (hd : (match d with | .struct _ | .array _ _ => true | _ => false) = true) (hi : (P.info? ty).map (·.size) = some cs.size)
    (h : wpList P ops Q rest (a.put o.dst (.agg cs)) w) : wpList P ops Q (o :: rest) a w :=
  BigFrame.wpList_want hw fun _ hK => wp_load_row ty x ho g hx t cs fr d hg hu hd hi (hK _ _ h)
theorem By_1a : (By 1 32).toArray = #[.int .u8 1, .int .u8 0, .int .u8 0, .int .u8 0, .int .u8 0, .int .u8 0, .int .u8 0, .int .u8 0, .int .u8 0, .int .u8 0, .int .u8 0, .int .u8 0, .int .u8 0, .int .u8 0, .int .u8 0, .int .u8 0, .int .u8 0, .int .u8 0, .int .u8 0, .int .u8 0, .int .u8 0, .int .u8 0, .int .u8 0, .int .u8 0, .int .u8 0, .int .u8 0, .int .u8 0, .int .u8 0, .int .u8 0, .int .u8 0, .int .u8 0, .int .u8 0] := by kernel_rfl
theorem By_0a : (By 0 32).toArray = #[.int .u8 0, .int .u8 0, .int .u8 0, .int .u8 0, .int .u8 0, .int .u8 0, .int .u8 0, .int .u8 0, .int .u8 0, .int .u8 0, .int .u8 0, .int .u8 0, .int .u8 0, .int .u8 0, .int .u8 0, .int .u8 0, .int .u8 0, .int .u8 0, .int .u8 0, .int .u8 0, .int .u8 0, .int .u8 0, .int .u8 0, .int .u8 0, .int .u8 0, .int .u8 0, .int .u8 0, .int .u8 0, .int .u8 0, .int .u8 0, .int .u8 0, .int .u8 0] := by kernel_rfl
theorem build0 (w : World) : (Instr.build 23 #[]).run Tryd.prog w = .ok (.agg #[.int .u8 0, .int .u8 0, .int .u8 0, .int .u8 0, .int .u8 0, .int .u8 0, .int .u8 0, .int .u8 0, .int .u8 0, .int .u8 0, .int .u8 0, .int .u8 0, .int .u8 0, .int .u8 0, .int .u8 0, .int .u8 0, .int .u8 0, .int .u8 0, .int .u8 0, .int .u8 0, .int .u8 0, .int .u8 0, .int .u8 0, .int .u8 0, .int .u8 0, .int .u8 0, .int .u8 0, .int .u8 0, .int .u8 0, .int .u8 0, .int .u8 0, .int .u8 0]) w := run_build w 23 _ _ (by kernel_rfl)
theorem neg_sum (X : Nat) : mulq 1 (negq X) X = 0 := by
  have h := r5 X
  unfold sumq at h
  unfold mulq
  simp only [List.sum_cons, List.sum_nil, Nat.add_zero] at h
  rw [Nat.one_mul, Nat.add_comm, h]

set_option maxHeartbeats 3200000 in
theorem negs_law (X : Nat) (hX : X < 256 ^ 32) (w : World) (hq : Qt w) :
    Calls Tryd.prog 5 #[.agg (By X 32).toArray] w fun e w' => e = .returned (.bool true) ∧ Below w.heap.size w w' := by
  have ha := Row.new w (By X 32) 23
  have hb0 := (Below.refl w.heap.size w).alloc (Nat.le_refl _) (.cells (By X 32).toArray 23)
  have hqw := hq.below hb0 hq.lt
  have hS8 : ∀ x, (Tryd.prog.info? 23).map (·.size) = some (By x 32).toArray.size := by_info
  have hO8 : ∀ x, (List.replicate 32 (Value.int .u8 0)).toArray.size = (By x 32).toArray.size := fun x => by rw [List.size_toArray, List.size_toArray, By_length, List.length_replicate]
  have hone := fun (w : World) => muladd_doc 1 (negq X) X (n_lt (by decide)) (negq_lt X) hX w
  rw [By_1a, neg_sum] at hone
  have heq := beq_same (N := 0) (M := 0) rfl
  conv at heq => intro w; arg 1; arg 2; arg 4; rw [By_0a]
  have hbel := fun (w : World) => below_doc (negq X) (negq_lt X) w
  rw [decide_eq_true (negq_below X)] at hbel
  have B1 := build1 1
  have B0 := build0
  have HA := Lib.hid ha
  have HB0 := Lib.hid hb0
  have HQW := Lib.hid hqw
  have HS8 := Lib.hid hS8
  have HO8 := Lib.hid hO8
  have HXL := Lib.hid hX
  have HONE := Lib.hid hone
  have HEQ := Lib.hid heq
  have HBEL := Lib.hid hbel
  clear ha hb0 hqw hS8 hO8 hX hq hone heq hbel
  go_enter Tryd.func5, Tryd.ntmps5
  go_wp2_with (refine wpList_load_row rfl 23 (.tmp 1) rfl w.heap.size rfl 23 _ (0, 0) _ HA.out Tryd.underlying23 rfl (HS8.out _) ?_)
  refine (neg_q X HXL.out _ HQW.out).mono ?_
  rintro e W1 ⟨rfl, hb1⟩
  have ha1 := (HA.out.belowAll hb1).alloc (.cells (List.replicate 32 (Value.int .u8 0)).toArray 23)
  have hsz1 : w.heap.size < W1.heap.size := (HA.out.belowAll hb1).lt
  have hn1 := Row.new W1 (List.replicate 32 (Value.int .u8 0)) 23
  have hbe1 := (HB0.out.trans (hb1.mono HB0.out.size)).alloc (by omega) (.cells (List.replicate 32 (Value.int .u8 0)).toArray 23)
  have hq1 := (HQW.out.below hb1 HQW.out.lt).below ((Below.refl W1.heap.size W1).alloc (Nat.le_refl _) (.cells (List.replicate 32 (Value.int .u8 0)).toArray 23)) (HQW.out.below hb1 HQW.out.lt).lt
  have ha2 := ha1.setRowOther (k := W1.heap.size) (by omega) (By (negq X) 32).toArray
  have hn2 := hn1.setRow (By (negq X) 32)
  have hbe2 := below_setRow (g := W1.heap.size) hbe1 (by omega) (By (negq X) 32).toArray
  have hq2 : Qt ((W1.alloc (.cells (List.replicate 32 (Value.int .u8 0)).toArray 23)).setRow W1.heap.size (By (negq X) 32).toArray) := by
    obtain ⟨t, h⟩ := hq1
    exact ⟨t, (setRow_other _ _ _ _ (by omega)).trans h⟩
  have HN1 := Lib.hid hn1
  have HA2 := Lib.hid ha2
  have HN2 := Lib.hid hn2
  have HBE2 := Lib.hid hbe2
  have HQ2 := Lib.hid hq2
  have HSZ1 := Lib.hid hsz1
  clear hb1 ha1 hsz1 hn1 hbe1 hq1 ha2 hn2 hbe2 hq2
  go_wp2_with (first
    | (refine wpList_store_row rfl 23 (.tmp 3) (.tmp 5) rfl W1.heap.size _ rfl rfl 23 _ HN1.out (HS8.out _) (HO8.out _) (By_one _ _) ?_)
    | (refine wpList_load_row rfl 23 (.tmp 3) rfl W1.heap.size rfl 23 _ (0, 0) _ HN2.out Tryd.underlying23 rfl (HS8.out _) ?_))
  refine (HBEL.out _).mono ?_
  rintro e W3 ⟨rfl, hb3⟩
  have ha3 := HA2.out.belowAll hb3
  have hn3 := HN2.out.belowAll hb3
  have hbe3 := HBE2.out.trans (hb3.mono HBE2.out.size)
  have hq3 := HQ2.out.below hb3 HQ2.out.lt
  have HA3 := Lib.hid ha3
  have HN3 := Lib.hid hn3
  have HBE3 := Lib.hid hbe3
  have HQ3 := Lib.hid hq3
  clear hb3 ha3 hn3 hbe3 hq3
  go_wp2_with (first
    | (refine wpList_load_rowG (by rfl) 23 (.tmp 3) rfl W1.heap.size rfl 23 _ (0, 0) _ HN3.out Tryd.underlying23 rfl (HS8.out _) ?_)
    | (refine wpList_load_rowG (by rfl) 23 (.tmp 1) rfl w.heap.size rfl 23 _ (0, 0) _ HA3.out Tryd.underlying23 rfl (HS8.out _) ?_))
  refine (HONE.out _).mono ?_
  rintro e W4 ⟨rfl, hb4⟩
  have hbe4 := HBE3.out.trans (hb4.mono HBE3.out.size)
  have hq4 := HQ3.out.below hb4 HQ3.out.lt
  have HBE4 := Lib.hid hbe4
  have HQ4 := Lib.hid hq4
  clear hb4 hbe4 hq4
  go_wp2_with (refine wpList_binop _ .eql 23 23 (.tmp 12) (.tmp 13) rfl (by rfl) _ _ (.bool true) rfl rfl (bgrd _ _ _ _ _ _) (HEQ.out _) ?_)
  refine (awake_any _ HQ4.out).mono ?_
  rintro e W5 ⟨rfl, hb5⟩
  have hbe5 := HBE4.out.trans (hb5.mono HBE4.out.size)
  have HBE5 := Lib.hid hbe5
  clear hb5 hbe5
  go_wp2_with fail
  go_ret
  exact ⟨rfl, HBE5.out⟩

end Go.Proofs.YtklbcpaoccdmeaaDoor
