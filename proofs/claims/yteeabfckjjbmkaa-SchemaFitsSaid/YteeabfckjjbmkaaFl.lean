/- The walk of SchemaFits. -/
import Derived.Test.YteeabfckjjbmkaaAw
import Derived.Test.YteeabfckjjbmkaaRy
namespace Go.Proofs.Yteeabfckjjbmkaa
set_option maxRecDepth 100000
set_option linter.unusedSimpArgs false
set_option linter.unusedVariables false
open Go.RowKit

theorem row_at {w : World} {g : Nat} {T : TypeId} {l : List Value} (h : Row w g T l) (j : Nat) (v : Value) (hv : l[j]? = some v) : w.cell? ((⟨g, 0, none⟩ : Addr).add j) = some v := by
  rw [show (⟨g, 0, none⟩ : Addr).add j = ⟨g, j, none⟩ by unfold Addr.add; split <;> simp_all]
  exact h.cell hv
theorem Reads.assign {P : Program} {S : World → Prop} {o : Oper} {a : Act} {x : Operand} {v : Value} (ho : o.op = .assign x) (hx : a.eval x = v) : Reads P S o v a := fun w _ => by unfold execOp; simp only [ho, hx, Sem.run_pure]
theorem eql_b (b : Bool) (w : World) : (binOp .eql 4 (.bool b) (.bool b)).run Try.prog w = .ok (.bool true) w := by cases b <;> rfl
theorem eqg_b (x y : Operand) (b : Bool) (w : World) : (eqGuard .eql 4 x y (.bool b) (.bool b)).run Try.prog w = .ok () w := by rfl
theorem zeroV_no (s : St) : (zeroV.rightAt 1 && s.rightAt 1 && fitsV zeroV s) = false := by
  rw [show zeroV.rightAt 1 = false by decide +kernel]
  rfl
theorem dflt_fits (s : St) : ((if s.rightAt 1 then s.dflt else zeroV).rightAt 1 && s.rightAt 1 && fitsV (if s.rightAt 1 then s.dflt else zeroV) s) = s.rightAt 1 := by
  cases h : s.rightAt 1
  · rw [Bool.and_false, Bool.false_and]
  · obtain ⟨h1, h2, h3⟩ := dflt_ok (St.sound_of h)
    have h4 : s.dflt.rightAt 1 = true := by
      unfold Vt.rightAt
      unfold St.rightAt at h
      rw [Bool.and_eq_true, decide_eq_true_eq] at h ⊢
      exact ⟨by omega, h1⟩
    rw [if_pos rfl, h4, h3]
    rfl
set_option maxHeartbeats 3200000 in
theorem fits_walk (v : Vt) (s : St) (cs ds : List Value) (w : World) (h : VAt w v cs) (h' : SAt w s ds) :
    Calls Try.prog 6 #[.agg cs.toArray, .agg ds.toArray] w fun e w' => e = .returned (.bool true) ∧ Below w.heap.size w w' := by
  have hw := Below.alloc2 w (.cells cs.toArray 26) (.cells ds.toArray 41)
  have HB0 := Lib.hid ((Row.new w cs 26).alloc (.cells ds.toArray 41))
  have HB1 := Lib.hid (Row.new1 w (.cells cs.toArray 26) ds 41)
  have HI := Lib.hid (v_info h.length)
  have HJ := Lib.hid (s_info h'.length)
  have HL := Lib.hid (v_len h.length)
  have HM := Lib.hid (s_len h'.length)
  have HV := Lib.hid (fun wx (hx : Below w.heap.size w wx) => h.later hx)
  have HS := Lib.hid (fun wx (hx : Below w.heap.size w wx) => h'.later hx)
  have HW := Lib.hid hw
  clear hw h h'
  go_enter Try.func6, Try.ntmps6
  go_wp2_with (refine wpList_load_row rfl 41 (.tmp 3) rfl (w.heap.size + 1) rfl 41 _ (0, 0) _ HB1.out Try.underlying41 rfl HJ.out ?_)
  refine (sgreat_ref s ds _ (HS.out _ HW.out)).mono ?_
  rintro e W1 ⟨⟨b1, rfl, hg1⟩, hb⟩
  have HW1 := Lib.hid (HW.out.trans (hb.mono HW.out.size))
  have HB01 := Lib.hid (HB0.out.belowAll hb)
  have HB11 := Lib.hid (HB1.out.belowAll hb)
  clear hb
  cases b1
  · have HG1 := Lib.hid (hg1 rfl)
    clear hg1
    go_wp2_with (refine wpList_load_guarded (by rfl) 26 (.tmp 2) rfl w.heap.size rfl 26 _ HB01.out Try.underlying26 rfl HI.out ?_)
    refine (great_ref v cs _ (HV.out _ HW1.out)).mono ?_
    rintro e W2 ⟨⟨b2, rfl, hg2⟩, hb⟩
    have HW2 := Lib.hid (HW1.out.trans (hb.mono HW1.out.size))
    have HB02 := Lib.hid (HB01.out.belowAll hb)
    have HB12 := Lib.hid (HB11.out.belowAll hb)
    clear hb
    cases b2
    · have HG2 := Lib.hid (hg2 rfl)
      clear hg2
      go_wp2_with fail
      refine startT (fun w' => Below W2.heap.size W2 w') [] (by kernel_rfl) ?_
      have hS0 : Below W2.heap.size W2 W2.drew := (Below.refl _ _).drew
      refine takeT 0 (some 12) rfl rfl (by kernel_rfl) (by kernel_rfl) (fun _ _ _ h => h) (Reads.load_at 26 (.tmp 2) rfl ⟨w.heap.size, 0, none⟩ rfl (cs) _ (fun w' h => row_at (HB02.out.belowAll h)) Try.underlying26 rfl HL.out) hS0 ?_
      simp only [Act.put, List.setIfInBounds_toArray, List.set_cons_zero, List.set_cons_succ]
      refine takeT 1 (some 13) rfl rfl (by kernel_rfl) (by kernel_rfl) (fun _ _ _ h => h) (Reads.load_at 41 (.tmp 3) rfl ⟨w.heap.size + 1, 0, none⟩ rfl (ds) _ (fun w' h => row_at (HB12.out.belowAll h)) Try.underlying41 rfl HM.out) hS0 ?_
      simp only [Act.put, List.setIfInBounds_toArray, List.set_cons_zero, List.set_cons_succ]
      refine takeT 3 (some 15) rfl rfl (by kernel_rfl) (by kernel_rfl) (fun _ _ _ h => h) (Reads.load_at 26 (.tmp 2) rfl ⟨w.heap.size, 0, none⟩ rfl (cs) _ (fun w' h => row_at (HB02.out.belowAll h)) Try.underlying26 rfl HL.out) hS0 ?_
      simp only [Act.put, List.setIfInBounds_toArray, List.set_cons_zero, List.set_cons_succ]
      refine takeT 4 (some 16) rfl rfl (by kernel_rfl) (by kernel_rfl) (fun _ _ _ h => h) (Reads.load_at 41 (.tmp 3) rfl ⟨w.heap.size + 1, 0, none⟩ rfl (ds) _ (fun w' h => row_at (HB12.out.belowAll h)) Try.underlying41 rfl HM.out) hS0 ?_
      simp only [Act.put, List.setIfInBounds_toArray, List.set_cons_zero, List.set_cons_succ]
      refine oneT 2 (by kernel_rfl) rfl (by kernel_rfl) (fun K hK => ?_)
      refine wp_call_any (args := [.agg cs.toArray, .agg ds.toArray]) rfl Try.func38 (by kernel_rfl) (by kernel_rfl) rfl (fits_all v s cs ds _ (HV.out _ (HW2.out.trans (hS0.mono HW2.out.size))) (HS.out _ (HW2.out.trans (hS0.mono HW2.out.size)))) ?_
      rintro e W3 ⟨rfl, hb⟩
      refine ⟨_, rfl, ?_⟩
      have hS1 := S_trans hS0 hb
      refine hK.out _ _ (fun _ => hS1) ?_
      clear hK K
      change wpAnyT _ _ _ _ _ _ _ _ (Act.put _ (some 14) _) _
      simp only [Act.put, List.setIfInBounds_toArray, List.set_cons_zero, List.set_cons_succ]
      clear hb
      refine oneT 5 (by kernel_rfl) rfl (by kernel_rfl) (fun K hK => ?_)
      refine wp_call_any (args := [.agg cs.toArray, .agg ds.toArray]) rfl Try.func39 (by kernel_rfl) (by kernel_rfl) rfl (rfits_all v s cs ds _ (HV.out _ (HW2.out.trans (hS1.mono HW2.out.size))) (HS.out _ (HW2.out.trans (hS1.mono HW2.out.size))) (by have := HG2.out; omega) (by have := HG1.out; omega)) ?_
      rintro e W4 ⟨rfl, hb⟩
      refine ⟨_, rfl, ?_⟩
      have hS2 := S_trans hS1 hb
      refine hK.out _ _ (fun _ => hS2) ?_
      clear hK K
      change wpAnyT _ _ _ _ _ _ _ _ (Act.put _ (some 17) _) _
      simp only [Act.put, List.setIfInBounds_toArray, List.set_cons_zero, List.set_cons_succ]
      clear hb
      refine takeT 6 (some 18) rfl rfl (by kernel_rfl) (by kernel_rfl) (fun _ _ _ h => h) (Reads.binop .eql 4 4 (.tmp 14) (.tmp 17) rfl _ _ _ rfl rfl (fun w' => eqg_b _ _ _ w') (fun w' => eql_b _ w')) hS2 ?_
      simp only [Act.put, List.setIfInBounds_toArray, List.set_cons_zero, List.set_cons_succ]
      refine takeT 7 (some 19) rfl rfl (by kernel_rfl) (by kernel_rfl) (fun _ _ _ h => h) (Reads.move (x := .tmp 18) rfl rfl) hS2 ?_
      simp only [Act.put, List.setIfInBounds_toArray, List.set_cons_zero, List.set_cons_succ]
      refine takeT 8 (some 20) rfl rfl (by kernel_rfl) (by kernel_rfl) (fun _ _ _ h => h) (Reads.load_at 41 (.tmp 3) rfl ⟨w.heap.size + 1, 0, none⟩ rfl (ds) _ (fun w' h => row_at (HB12.out.belowAll h)) Try.underlying41 rfl HM.out) hS2 ?_
      simp only [Act.put, List.setIfInBounds_toArray, List.set_cons_zero, List.set_cons_succ]
      refine takeT 10 (some 22) rfl rfl (by kernel_rfl) (by kernel_rfl) (fun _ _ _ h => h) (Reads.load_at 41 (.tmp 3) rfl ⟨w.heap.size + 1, 0, none⟩ rfl (ds) _ (fun w' h => row_at (HB12.out.belowAll h)) Try.underlying41 rfl HM.out) hS2 ?_
      simp only [Act.put, List.setIfInBounds_toArray, List.set_cons_zero, List.set_cons_succ]
      refine takeT 12 (some 24) rfl rfl (by kernel_rfl) (by kernel_rfl) (fun _ _ _ h => h) (Reads.load_at 41 (.tmp 3) rfl ⟨w.heap.size + 1, 0, none⟩ rfl (ds) _ (fun w' h => row_at (HB12.out.belowAll h)) Try.underlying41 rfl HM.out) hS2 ?_
      simp only [Act.put, List.setIfInBounds_toArray, List.set_cons_zero, List.set_cons_succ]
      refine oneT 9 (by kernel_rfl) rfl (by kernel_rfl) (fun K hK => ?_)
      refine wp_call_any (args := [.agg ds.toArray]) rfl Try.func36 (by kernel_rfl) (by kernel_rfl) rfl (default_any s ds _ (HS.out _ (HW2.out.trans (hS2.mono HW2.out.size)))) ?_
      rintro e W5 ⟨⟨dd, rfl, hv3⟩, hb⟩
      refine ⟨_, rfl, ?_⟩
      have hS3 := S_trans hS2 hb
      refine hK.out _ _ (fun _ => hS3) ?_
      clear hK K
      change wpAnyT _ _ _ _ _ _ _ _ (Act.put _ (some 21) _) _
      simp only [Act.put, List.setIfInBounds_toArray, List.set_cons_zero, List.set_cons_succ]
      clear hb
      have hf4 := fits_all _ s dd ds W5 hv3.vat (HS.out _ (HW2.out.trans (hS3.mono HW2.out.size)))
      rw [dflt_fits] at hf4
      refine oneT 11 (by kernel_rfl) rfl (by kernel_rfl) (fun K hK => ?_)
      refine wp_call_any (args := [.agg dd.toArray, .agg ds.toArray]) rfl Try.func38 (by kernel_rfl) (by kernel_rfl) rfl (hf4) ?_
      rintro e W6 ⟨rfl, hb⟩
      refine ⟨_, rfl, ?_⟩
      have hS4 := S_trans hS3 hb
      refine hK.out _ _ (fun _ => hS4) ?_
      clear hK K
      change wpAnyT _ _ _ _ _ _ _ _ (Act.put _ (some 23) _) _
      simp only [Act.put, List.setIfInBounds_toArray, List.set_cons_zero, List.set_cons_succ]
      clear hb
      refine oneT 13 (by kernel_rfl) rfl (by kernel_rfl) (fun K hK => ?_)
      refine wp_call_any (args := [.agg ds.toArray]) rfl Try.func28 (by kernel_rfl) (by kernel_rfl) rfl (sright_ref s ds _ (HS.out _ (HW2.out.trans (hS4.mono HW2.out.size))) (by have := HG1.out; omega)) ?_
      rintro e W7 ⟨rfl, hb⟩
      refine ⟨_, rfl, ?_⟩
      have hS5 := S_trans hS4 hb
      refine hK.out _ _ (fun _ => hS5) ?_
      clear hK K
      change wpAnyT _ _ _ _ _ _ _ _ (Act.put _ (some 25) _) _
      simp only [Act.put, List.setIfInBounds_toArray, List.set_cons_zero, List.set_cons_succ]
      clear hb
      refine takeT 14 (some 26) rfl rfl (by kernel_rfl) (by kernel_rfl) (fun _ _ _ h => h) (Reads.binop .eql 4 4 (.tmp 23) (.tmp 25) rfl _ _ _ rfl rfl (fun w' => eqg_b _ _ _ w') (fun w' => eql_b _ w')) hS5 ?_
      simp only [Act.put, List.setIfInBounds_toArray, List.set_cons_zero, List.set_cons_succ]
      refine takeT 15 (some 27) rfl rfl (by kernel_rfl) (by kernel_rfl) (fun _ _ _ h => h) (Reads.pick (.tmp 19) (.tmp 26) (.const (.bool false)) rfl true (.bool true) rfl rfl) hS5 ?_
      simp only [Act.put, List.setIfInBounds_toArray, List.set_cons_zero, List.set_cons_succ]
      refine takeT 16 (some 28) rfl rfl (by kernel_rfl) (by kernel_rfl) (fun _ _ _ h => h) (Reads.move (x := .tmp 27) rfl rfl) hS5 ?_
      simp only [Act.put, List.setIfInBounds_toArray, List.set_cons_zero, List.set_cons_succ]
      refine oneT 17 (by kernel_rfl) rfl (by kernel_rfl) (fun K hK => ?_)
      refine wp_call_any (args := []) rfl Try.func27 (by kernel_rfl) (by kernel_rfl) rfl (sawake_any _) ?_
      rintro e W8 ⟨rfl, hb⟩
      refine ⟨_, rfl, ?_⟩
      have hS6 := S_trans hS5 hb
      refine hK.out _ _ (fun _ => hS6) ?_
      clear hK K
      change wpAnyT _ _ _ _ _ _ _ _ (Act.put _ (some 29) _) _
      simp only [Act.put, List.setIfInBounds_toArray, List.set_cons_zero, List.set_cons_succ]
      refine takeT 18 (some 30) rfl rfl (by kernel_rfl) (by kernel_rfl) (fun _ _ _ h => h) (Reads.pick (.tmp 28) (.tmp 29) (.const (.bool false)) rfl true (.bool true) rfl rfl) hS6 ?_
      simp only [Act.put, List.setIfInBounds_toArray, List.set_cons_zero, List.set_cons_succ]
      refine takeT 19 (some 4) rfl rfl (by kernel_rfl) (by kernel_rfl) (fun _ _ _ h => h) (Reads.assign (x := .tmp 30) rfl rfl) hS6 ?_
      simp only [Act.put, List.setIfInBounds_toArray, List.set_cons_zero, List.set_cons_succ]
      refine doneT (by kernel_rfl) ?_ _
      have HWE := Lib.hid (HW2.out.trans (hS6.mono HW2.out.size))
      clear hS0 hS1 hS2 hS3 hS4 hS5 hS6 hv3 hf4 hb
      go_wp2_with fail
      go_ret
      exact ⟨rfl, HWE.out⟩
    · clear hg2
      go_wp2_with fail
      refine (sawake_any _).mono ?_
      rintro e W3 ⟨rfl, hb⟩
      have HB := Lib.hid hb
      clear hb
      go_wp2_with fail
      go_ret
      exact ⟨rfl, HW2.out.trans (HB.out.mono HW2.out.size)⟩
  · clear hg1
    go_wp2_with fail
    refine (sawake_any _).mono ?_
    rintro e W3 ⟨rfl, hb⟩
    have HB := Lib.hid hb
    clear hb
    go_wp2_with fail
    go_ret
    exact ⟨rfl, HW1.out.trans (HB.out.mono HW1.out.size)⟩

end Go.Proofs.Yteeabfckjjbmkaa
