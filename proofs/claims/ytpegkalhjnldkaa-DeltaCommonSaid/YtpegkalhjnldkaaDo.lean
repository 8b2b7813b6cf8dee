/- The example: Between of two leaves. -/
import Derived.Test.YtpegkalhjnldkaaDn
import Derived.Laws.AppendOwn
namespace Go.Proofs.Ytpegkalhjnldkaa
set_option maxRecDepth 100000
set_option linter.unusedSimpArgs false
set_option linter.unusedVariables false
open Go.RowKit

abbrev opL : List Value := [.int .i64 1, .slice none 0 0, .int .u64 0, .int .u64 0, .int .i64 2, .int .i64 3, .string ⟨#[]⟩, .slice none 0 0, .slice none 0 0, .slice none 0 0]
theorem op_info : ∃ i : TypeInfo, Try.prog.info? 41 = some i ∧ i.zero = some (.agg #[.int .i64 0, .slice none 0 0, .int .u64 0, .int .u64 0, .int .i64 0, .int .i64 0, .string ⟨#[]⟩, .slice none 0 0, .slice none 0 0, .slice none 0 0]) ∧ i.size = 10 ∧ i.bytes = 152 := by
  refine ⟨_, rfl, ?_, ?_, ?_⟩ <;> kernel_rfl
/-- What lay there: the operation was told. -/
def Told (w : World) (q : Nat) : Prop := ∃ g c, w.cell? ⟨q, 0, none⟩ = some (.slice (some ⟨g, 0, none⟩) 1 c) ∧ w.cell? ⟨g, 0, none⟩ = some (.int .i64 1) ∧ w.cell? ⟨g, 5, none⟩ = some (.int .i64 3)
set_option maxHeartbeats 3200000 in
theorem btw1_leaf (q : Nat) (w : World) (hq : Row w q 30 [.slice none 0 0]) :
    Calls Try.prog 13 #[.slice none 0 0, .agg (lfV 2), .agg (lfV 3), .pointer (some ⟨q, 0, none⟩)] w fun e w' => e = .returned (.tuple #[]) ∧ Told w' q ∧ Only (fun j => j = q) w w' := by
  have HB := Lib.hid (below2D w (.cells (lfV 2) 37) (.cells (lfV 3) 37))
  have HQ := Lib.hid (hq.belowAll HB.out)
  have hqlt := hq.lt
  obtain ⟨i, hi, hz, hs, hb⟩ := op_info
  have HI := Lib.hid hi
  have HZ := Lib.hid hz
  have HSZ := Lib.hid hs
  have HBY := Lib.hid hb
  have hq0 := HQ.out.cell (k := 0) rfl
  have hsz : ((w.alloc (.cells (lfV 2) 37)).alloc (.cells (lfV 3) 37)).heap.size = w.heap.size + 2 := by simp
  have HB3 := Lib.hid (below_newD ((w.alloc (.cells (lfV 2) 37)).alloc (.cells (lfV 3) 37)) (.cells opL.toArray 41))
  have HRN := Lib.hid (Row.new ((w.alloc (.cells (lfV 2) 37)).alloc (.cells (lfV 3) 37)) opL 41)
  have HQW := Lib.hid hq
  have HNW := Lib.hid (fun (j : Nat) (u : Value) (hj : opL[j]? = some u) => (show (((w.alloc (.cells (lfV 2) 37)).alloc (.cells (lfV 3) 37)).alloc (.cells opL.toArray 41)).cell? ((⟨w.heap.size + 2, 0, none⟩ : Addr).add j) = some u from by
    have e : (⟨w.heap.size + 2, 0, none⟩ : Addr).add j = ⟨w.heap.size + 2, j, none⟩ := by unfold Addr.add; split <;> simp_all
    rw [e, ← hsz]
    exact HRN.out.cell hj))
  clear hq hi hz hs hb
  go_enter Try.func13, Try.ntmps13
  go_wp2_with (at_builtin; refine wpList_append_own _ rfl (.tmp 9) (.tmp 13) 30 rfl w.heap.size 41 _ _ 10 152 Try.underlying30 HI.out HZ.out HSZ.out HBY.out (by simp [Value.cells]) (by omega) (.slice none 0 0) 0 [] rfl (World.ownsRow_nil _ _ _ _) ⟨w.heap.size + 2, 0, none⟩ 1 1 opL rfl rfl HNW.out (by simp [Value.oneCell']) (by unfold maxLen; omega) (by omega) (by simp; omega) ?_)
  intro v' w' ho hg _
  have hbx : Below w.heap.size w w' := (HB.out.trans (HB3.out.mono HB.out.size)).grown hg (Nat.le_trans HB.out.size HB3.out.size) (fun k hk => by cases hk)
  obtain ⟨g, c, rfl⟩ := own_some ho (by omega)
  have hgw : w.heap.size ≤ g := (ho.lt g rfl).1
  have hcs := ho.cells (g := g) rfl
  have hadd : ∀ j, (⟨g, 0, none⟩ : Addr).add j = ⟨g, j, none⟩ := fun j => by unfold Addr.add; split <;> simp_all
  have hc0 := hcs 0 _ rfl
  have hc5 := hcs 5 _ rfl
  rw [hadd] at hc0 hc5
  have hqx : Row w' q 30 [.slice none 0 0] := HQW.out.belowAll hbx
  have HQX := Lib.hid hqx
  have HBX := Lib.hid hbx
  have HC0 := Lib.hid hc0
  have HC5 := Lib.hid hc5
  clear hq0
  have hq0 := hqx.cell (k := 0) rfl
  have hqf := hqx.free 0
  clear ho hg hcs hc0 hc5 hqx hbx
  go_wp2_with fail
  go_end0
  refine ⟨rfl, ⟨g, c, (HQX.out.set 0 _).cell (k := 0) rfl, ?_, ?_⟩, Only.setCell (S := fun j => j = q) (p := ⟨q, 0, none⟩) (Only.of_below HBX.out _) (Or.inl rfl) _⟩
  · rw [World.cell?_setCell_far _ _ _ _ (show q ≠ g by omega)]; exact HC0.out
  · rw [World.cell?_setCell_far _ _ _ _ (show q ≠ g by omega)]; exact HC5.out

abbrev zV : List Value := [.int .i64 0, .int .i64 0, .string ⟨#[]⟩, .slice none 0 0, .slice none 0 0, .slice none 0 0]
/-- A value's variable that was made, and what was stored there. -/
theorem var_lf (w : World) (n : Int) : Row ((w.alloc (.cells zV.toArray 37)).setRow w.heap.size (lfV n)) w.heap.size 37 (lfV n).toList :=
  setRow_heap _ _ _ _ _ _ (Row.new w zV 37)
theorem var_lf_below (w : World) (n : Int) : Below w.heap.size w ((w.alloc (.cells zV.toArray 37)).setRow w.heap.size (lfV n)) :=
  below_setRow (below_newD w _) (Nat.le_refl _) _
set_option maxHeartbeats 6400000 in
theorem diff_leaf (q : Nat) (w : World) (hq : Row w q 30 [.slice none 0 0]) :
    Calls Try.prog 12 #[.agg (lfV 2), .agg (lfV 3), .func (.func 13) #[] #[.pointer (some ⟨q, 0, none⟩)]] w fun e w' => e = .returned (.tuple #[]) ∧ Told w' q ∧ Only (fun j => j = q) w w' := by
  have HB := Lib.hid (below2D w (.cells (lfV 2) 37) (.cells (lfV 3) 37))
  have HRA := Lib.hid ((Row.new w (lfV 2).toList 37).belowAll (below_newD _ (.cells (lfV 3) 37)))
  have HRB := Lib.hid (row_new1 w (.cells (lfV 2) 37) (lfV 3).toList 37)
  have HQ := Lib.hid hq
  have HG2 := Lib.hid (pget_leaf 2)
  have HG3 := Lib.hid (pget_leaf 3)
  have HSM := Lib.hid vsame_leaf
  clear hq
  go_enter Try.func12, Try.ntmps12
  go_wp2_with fail
  refine (pAll_leaf 2 _).mono ?_
  rintro e W1 ⟨g, rfl, hc, hb⟩
  have HRA1 := Lib.hid (HRA.out.belowAll hb)
  have HRB1 := Lib.hid (HRB.out.belowAll hb)
  have HB1 := Lib.hid (HB.out.trans (hb.mono HB.out.size))
  clear hb
  go_wp2_with fail
  refine wp_loop_rounds 2 ?_
  rw [rounds_succ]
  have c0 := HRA1.out.cell (k := 0) rfl
  have c1 := HRA1.out.cell (k := 1) rfl
  have c2 := HRA1.out.cell (k := 2) rfl
  have c3 := HRA1.out.cell (k := 3) rfl
  have c4 := HRA1.out.cell (k := 4) rfl
  have c5 := HRA1.out.cell (k := 5) rfl
  go_wp2_with fail
  refine (HG2.out _ _).mono ?_
  rintro e W2 ⟨rfl, hb⟩
  have HRA2 := Lib.hid (HRA1.out.belowAll hb)
  have HRB2 := Lib.hid (HRB1.out.belowAll hb)
  have HB2 := Lib.hid (HB1.out.trans (hb.mono HB1.out.size))
  clear hb c0 c1 c2 c3 c4 c5 hc
  have HV8 := Lib.hid (var_lf W2 2)
  have HV8B := Lib.hid (var_lf_below W2 2)
  have HRZ := Lib.hid (Row.new W2 zV 37)
  have HRB3 := Lib.hid (HRB2.out.belowAll HV8B.out)
  have d0 := HRB3.out.cell (k := 0) rfl
  have d1 := HRB3.out.cell (k := 1) rfl
  have d2 := HRB3.out.cell (k := 2) rfl
  have d3 := HRB3.out.cell (k := 3) rfl
  have d4 := HRB3.out.cell (k := 4) rfl
  have d5 := HRB3.out.cell (k := 5) rfl
  go_wp2_with (refine wpList_store_row rfl 37 (.tmp 8) (.tmp 23) rfl W2.heap.size (lfV 2) rfl rfl 37 _ HRZ.out (infoV 2) rfl (leaf_one _ _ _) ?_)
  refine (HG3.out _ _).mono ?_
  rintro e W3 ⟨rfl, hb⟩
  have HV83 := Lib.hid (HV8.out.belowAll hb)
  have HB3 := Lib.hid (HB2.out.trans ((HV8B.out.trans (hb.mono HV8B.out.size)).mono HB2.out.size))
  clear hb d0 d1 d2 d3 d4 d5
  have HV10 := Lib.hid (var_lf W3 3)
  have HV10B := Lib.hid (var_lf_below W3 3)
  have HRZ3 := Lib.hid (Row.new W3 zV 37)
  have HV84 := Lib.hid (HV83.out.belowAll HV10B.out)
  have HB4 := Lib.hid (HB3.out.trans (HV10B.out.mono HB3.out.size))
  have c0 := HV84.out.cell (k := 0) rfl
  have c1 := HV84.out.cell (k := 1) rfl
  have c2 := HV84.out.cell (k := 2) rfl
  have c3 := HV84.out.cell (k := 3) rfl
  have c4 := HV84.out.cell (k := 4) rfl
  have c5 := HV84.out.cell (k := 5) rfl
  have d0 := HV10.out.cell (k := 0) rfl
  have d1 := HV10.out.cell (k := 1) rfl
  have d2 := HV10.out.cell (k := 2) rfl
  have d3 := HV10.out.cell (k := 3) rfl
  have d4 := HV10.out.cell (k := 4) rfl
  have d5 := HV10.out.cell (k := 5) rfl
  go_wp2_with (refine wpList_store_row rfl 37 (.tmp 10) (.tmp 29) rfl W3.heap.size (lfV 3) rfl rfl 37 _ HRZ3.out (infoV 3) rfl (leaf_one _ _ _) ?_)
  refine (HSM.out _).mono ?_
  rintro e W5 ⟨rfl, hb⟩
  have HV85 := Lib.hid (HV84.out.belowAll hb)
  have HV105 := Lib.hid (HV10.out.belowAll hb)
  have HB5 := Lib.hid (HB4.out.trans (hb.mono HB4.out.size))
  have HT := Lib.hid (btw1_leaf q W5 (HQ.out.belowAll HB5.out))
  clear hb c0 c1 c2 c3 c4 c5 d0 d1 d2 d3 d4 d5
  have c0 := HV85.out.cell (k := 0) rfl
  have c1 := HV85.out.cell (k := 1) rfl
  have c2 := HV85.out.cell (k := 2) rfl
  have c3 := HV85.out.cell (k := 3) rfl
  have c4 := HV85.out.cell (k := 4) rfl
  have c5 := HV85.out.cell (k := 5) rfl
  have d0 := HV105.out.cell (k := 0) rfl
  have d1 := HV105.out.cell (k := 1) rfl
  have d2 := HV105.out.cell (k := 2) rfl
  have d3 := HV105.out.cell (k := 3) rfl
  have d4 := HV105.out.cell (k := 4) rfl
  have d5 := HV105.out.cell (k := 5) rfl
  go_wp2_with fail
  refine HT.out.mono ?_
  rintro e W6 ⟨rfl, ht, ho⟩
  have HTT := Lib.hid ht
  have HO := Lib.hid ((Only.of_below HB5.out _).trans ho fun _ _ h => h)
  clear ht ho
  go_wp2_with fail
  rw [rounds_succ]
  go_wp2_with fail
  go_end0
  exact ⟨rfl, HTT.out, HO.out⟩

set_option maxHeartbeats 6400000 in
theorem between_leaf (w : World) :
    Calls Try.prog 7 #[.agg lfS, .agg (lfV 2), .agg (lfV 3)] w fun e w' => ∃ g c, e = .returned (.tuple #[.slice (some ⟨g, 0, none⟩) 1 c, .nilIface]) ∧ w'.cell? ⟨g, 0, none⟩ = some (.int .i64 1) ∧ w'.cell? ⟨g, 5, none⟩ = some (.int .i64 3) ∧ Below w.heap.size w w' := by
  have HB := Lib.hid ((below2D w (.cells lfS 29) (.cells (lfV 2) 37)).alloc (by simp; omega) (.cells (lfV 3) 37))
  have HS0 := Lib.hid (((Row.new w lfS.toList 29).belowAll (below_newD _ (.cells (lfV 2) 37))).belowAll (below_newD _ (.cells (lfV 3) 37)))
  have HA0 := Lib.hid ((row_new1 w (.cells lfS 29) (lfV 2).toList 37).belowAll (below_newD _ (.cells (lfV 3) 37)))
  have HB0 := Lib.hid (show Row (((w.alloc (.cells lfS 29)).alloc (.cells (lfV 2) 37)).alloc (.cells (lfV 3) 37)) (w.heap.size + 2) 37 (lfV 3).toList from by
    have h := row_new1 (w.alloc (.cells lfS 29)) (.cells (lfV 2) 37) (lfV 3).toList 37
    have e : (w.alloc (.cells lfS 29)).heap.size = w.heap.size + 1 := by simp
    rwa [e] at h)
  have HSR := Lib.hid sRight_leaf
  have HF2 := Lib.hid (sFits_leaf 2)
  have HF3 := Lib.hid (sFits_leaf 3)
  go_enter Try.func7, Try.ntmps7
  go_wp2_with fail
  refine (HSR.out _).mono ?_
  rintro e W1 ⟨rfl, hb⟩
  have HS1 := Lib.hid (HS0.out.belowAll hb)
  have HA1 := Lib.hid (HA0.out.belowAll hb)
  have HB1 := Lib.hid (HB0.out.belowAll hb)
  have HW1 := Lib.hid (HB.out.trans (hb.mono HB.out.size))
  clear hb
  have s0 := HS1.out.cell (k := 0) rfl
  have s1 := HS1.out.cell (k := 1) rfl
  have s2 := HS1.out.cell (k := 2) rfl
  have a0 := HA1.out.cell (k := 0) rfl
  have a1 := HA1.out.cell (k := 1) rfl
  have a2 := HA1.out.cell (k := 2) rfl
  have a3 := HA1.out.cell (k := 3) rfl
  have a4 := HA1.out.cell (k := 4) rfl
  have a5 := HA1.out.cell (k := 5) rfl
  have b0 := HB1.out.cell (k := 0) rfl
  have b1 := HB1.out.cell (k := 1) rfl
  have b2 := HB1.out.cell (k := 2) rfl
  have b3 := HB1.out.cell (k := 3) rfl
  have b4 := HB1.out.cell (k := 4) rfl
  have b5 := HB1.out.cell (k := 5) rfl
  go_wp2_with fail
  refine (HF2.out _).mono ?_
  rintro e W2 ⟨rfl, hb⟩
  have HS2 := Lib.hid (HS1.out.belowAll hb)
  have HA2 := Lib.hid (HA1.out.belowAll hb)
  have HB2 := Lib.hid (HB1.out.belowAll hb)
  have HW2 := Lib.hid (HW1.out.trans (hb.mono HW1.out.size))
  clear hb s0 s1 s2 a0 a1 a2 a3 a4 a5 b0 b1 b2 b3 b4 b5
  have s0 := HS2.out.cell (k := 0) rfl
  have s1 := HS2.out.cell (k := 1) rfl
  have s2 := HS2.out.cell (k := 2) rfl
  have a0 := HA2.out.cell (k := 0) rfl
  have a1 := HA2.out.cell (k := 1) rfl
  have a2 := HA2.out.cell (k := 2) rfl
  have a3 := HA2.out.cell (k := 3) rfl
  have a4 := HA2.out.cell (k := 4) rfl
  have a5 := HA2.out.cell (k := 5) rfl
  have b0 := HB2.out.cell (k := 0) rfl
  have b1 := HB2.out.cell (k := 1) rfl
  have b2 := HB2.out.cell (k := 2) rfl
  have b3 := HB2.out.cell (k := 3) rfl
  have b4 := HB2.out.cell (k := 4) rfl
  have b5 := HB2.out.cell (k := 5) rfl
  go_wp2_with fail
  refine (HF3.out _).mono ?_
  rintro e W3 ⟨rfl, hb⟩
  have HA3 := Lib.hid (HA2.out.belowAll hb)
  have HB3 := Lib.hid (HB2.out.belowAll hb)
  have HW3 := Lib.hid (HW2.out.trans (hb.mono HW2.out.size))
  clear hb s0 s1 s2 a0 a1 a2 a3 a4 a5 b0 b1 b2 b3 b4 b5
  have HQB := Lib.hid (below_newD W3 (.cells #[.slice none 0 0] 30))
  have HT := Lib.hid (diff_leaf W3.heap.size _ (Row.new W3 [.slice none 0 0] 30))
  have HA4 := Lib.hid (HA3.out.belowAll HQB.out)
  have HB4 := Lib.hid (HB3.out.belowAll HQB.out)
  have a0 := HA4.out.cell (k := 0) rfl
  have a1 := HA4.out.cell (k := 1) rfl
  have a2 := HA4.out.cell (k := 2) rfl
  have a3 := HA4.out.cell (k := 3) rfl
  have a4 := HA4.out.cell (k := 4) rfl
  have a5 := HA4.out.cell (k := 5) rfl
  have b0 := HB4.out.cell (k := 0) rfl
  have b1 := HB4.out.cell (k := 1) rfl
  have b2 := HB4.out.cell (k := 2) rfl
  have b3 := HB4.out.cell (k := 3) rfl
  have b4 := HB4.out.cell (k := 4) rfl
  have b5 := HB4.out.cell (k := 5) rfl
  go_wp2_with fail
  refine HT.out.mono ?_
  rintro e W4 ⟨rfl, ⟨g, c, hq, h0, h5⟩, ho⟩
  have HH0 := Lib.hid h0
  have HH5 := Lib.hid h5
  have HW4 := Lib.hid ((HW3.out.trans (HQB.out.mono HW3.out.size)).trans (ho.below (Nat.le_trans HW3.out.size HQB.out.size) fun k hk => by have h2 : k = W3.heap.size := hk; rw [h2]; exact HW3.out.size))
  clear h0 h5 ho a0 a1 a2 a3 a4 a5 b0 b1 b2 b3 b4 b5
  go_wp2_with fail
  go_ret2
  exact ⟨g, c, rfl, HH0.out, HH5.out, HW4.out⟩

theorem awake13 (w : World) : Calls Try.prog 4 #[] w fun e w' => e = .returned (.bool true) ∧ Below w.heap.size w w' := by
  have HVB := Lib.hid (below_newD w (.cells lfS 29))
  have HBT := Lib.hid between_leaf
  go_enter Try.func4, Try.ntmps4
  go_wp2_with fail
  refine (HBT.out _).mono ?_
  rintro e W1 ⟨g, c, rfl, h0, h5, hb⟩
  have HB1 := Lib.hid (HVB.out.trans (hb.mono HVB.out.size))
  clear hb
  go_wp2_with fail
  go_ret
  exact ⟨rfl, HB1.out⟩

end Go.Proofs.Ytpegkalhjnldkaa
