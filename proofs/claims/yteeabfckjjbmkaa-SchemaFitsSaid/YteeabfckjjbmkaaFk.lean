/- A schema's default: the program. -/
import Derived.Test.YteeabfckjjbmkaaFj
namespace Go.Proofs.Yteeabfckjjbmkaa
set_option maxRecDepth 100000
set_option linter.unusedSimpArgs false
set_option linter.unusedVariables false
open Go.RowKit

theorem headS_4 {words : List ByteArray} {len : Nat} (h : headS 4 words len = true) : 1 ≤ words.length := by
  unfold headS at h
  rw [if_neg (by decide), if_pos rfl] at h
  simp only [Bool.and_eq_true, decide_eq_true_eq] at h
  exact h.1.1.1
theorem headS_58 {words : List ByteArray} {len : Nat} (h : headS 5 words len = true) : words.length ≤ 8 := by
  unfold headS at h
  rw [if_neg (by decide), if_neg (by decide), if_pos rfl] at h
  simp only [Bool.and_eq_true, decide_eq_true_eq] at h
  exact h.1.1
theorem first_any : ∀ (sc : St) (cs : List Value) (w : World), SAt w sc cs → sc.sound = true →
    Calls Try.prog 88 #[.agg cs.toArray] w fun e w' => (∃ ds : List Value, e = .returned (.agg ds.toArray) ∧ VIn (fun g => w.heap.size ≤ g) w' sc.dflt ds) ∧ Below w.heap.size w w' := by
  intro sc
  induction sc with
  | nul => intro cs w h; cases h
  | mk k words len parts ih =>
    intro cs w h hso
    obtain ⟨hh, hpp⟩ := St.sound_mk hso
    cases h with
    | mk css hk h1 h1c hss h3 h3c hp =>
    rename_i a c la ca cc
    have hl := Strs.len h1
    by_cases c4 : k = 4
    · subst c4
      have h0 := headS_4 hh
      refine (first_4 words a c la ca len cc (by omega) w h1).mono ?_
      rintro e w' ⟨rfl, hb⟩
      refine ⟨⟨_, rfl, ?_⟩, hb⟩
      rw [St.dflt, if_pos rfl, if_neg (show ¬ (4 : Int) = 5 by decide), if_neg (show ¬ (4 : Int) = 5 by decide)]
      exact VIn.bare _ _ _ _ _ _ rfl rfl (nth_sz hss 0)
    by_cases c5 : k = 5
    · subst c5
      have h8 := headS_58 hh
      have hll := headS_5 hh
      refine (first_5 words a c la ca len cc css (fun i => (parts i).dflt) (by omega) (by omega) hss w h1 h3 (fun j hj w' hb => ih j (css j) w' ((hp j hj).later hb) (hpp j hj))).mono ?_
      rintro e w' ⟨⟨ds, rfl, hv⟩, hb⟩
      refine ⟨⟨_, rfl, ?_⟩, hb⟩
      rw [St.dflt, if_neg (show ¬ (5 : Int) = 4 by decide), if_pos rfl, if_pos rfl]
      exact hv
    refine (first_0 k a c la ca len cc c4 c5 w).mono ?_
    rintro e w' ⟨rfl, hb⟩
    refine ⟨⟨_, rfl, ?_⟩, hb⟩
    rw [St.dflt, if_neg c4, if_neg c5, if_neg c5]
    exact VIn.bare _ _ _ _ _ _ hk rfl (Nat.zero_le _)
def zeroV : Vt := .mk 0 0 ByteArray.empty [] [] 0 fun _ => .nul
theorem six_all {w : World} {X : Nat → Prop} {v : Vt} {cs : List Value} (h : VIn X w v cs) : cs.toArray.all (·.oneCell') = true := by
  cases h; rw [List.all_toArray]; rfl
theorem build_zero (w : World) : (Instr.build 26 #[]).run Try.prog w = .ok (.agg #[.int .i64 0, .int .i64 0, .string { data := #[] }, .slice none 0 0, .slice none 0 0, .slice none 0 0]) w := by kernel_rfl
set_option maxHeartbeats 1600000 in
theorem default_any (v : St) (cs : List Value) (w : World) (h : SAt w v cs) :
    Calls Try.prog 36 #[.agg cs.toArray] w fun e w' => (∃ ds : List Value, e = .returned (.agg ds.toArray) ∧ VIn (fun g => w.heap.size ≤ g) w' (if v.rightAt 1 then v.dflt else zeroV) ds) ∧ Below w.heap.size w w' := by
  have hw := Below.alloc2 w (.cells cs.toArray 41) (.cells #[.int .i64 0, .int .i64 0, .string { data := #[] }, .slice none 0 0, .slice none 0 0, .slice none 0 0] 26)
  have HD := Lib.hid (fun wx hx => sRight_any v cs wx (h.later hx))
  have HF := Lib.hid (fun (hr : v.rightAt 1 = true) wx hx => first_any v cs wx (h.later hx) (St.sound_of hr))
  have HW := Lib.hid hw
  have HB0 := Lib.hid ((Row.new w cs 41).alloc (.cells #[.int .i64 0, .int .i64 0, .string { data := #[] }, .slice none 0 0, .slice none 0 0, .slice none 0 0] 26))
  have HB1 := Lib.hid (Row.new1 w (.cells cs.toArray 41) [.int .i64 0, .int .i64 0, .string { data := #[] }, .slice none 0 0, .slice none 0 0, .slice none 0 0] 26)
  have HI := Lib.hid (s_info h.length)
  have HI2 := Lib.hid (v_info (cs := [.int .i64 0, .int .i64 0, .string { data := #[] }, .slice none 0 0, .slice none 0 0, .slice none 0 0]) rfl)
  clear hw h
  obtain ⟨b, hb⟩ : ∃ b, v.rightAt 1 = b := ⟨_, rfl⟩
  rw [hb] at HD HF ⊢
  cases b
  · go_enter Try.func36, Try.ntmps36
    go_wp2_with (refine wpList_load_row rfl 41 (.tmp 1) rfl w.heap.size rfl 41 _ (0, 0) _ HB0.out Try.underlying41 rfl HI.out ?_)
    refine (HD.out _ HW.out).mono ?_
    rintro e W1 ⟨rfl, hb⟩
    have HW1 := Lib.hid (HW.out.trans (hb.mono HW.out.size))
    have HB2 := Lib.hid (HB1.out.belowAll hb)
    clear hb
    go_upto_region 2 with fail
    go_step
    refine wpList_build0 rfl 26 rfl (.agg #[.int .i64 0, .int .i64 0, .string { data := #[] }, .slice none 0 0, .slice none 0 0, .slice none 0 0]) (build_zero _) ?_
    simp only [Act.put, List.setIfInBounds_toArray, List.set_cons_zero, List.set_cons_succ]
    refine wpList_store_row rfl 26 (.tmp 2) (.tmp 6) rfl (w.heap.size + 1) _ rfl rfl 26 _ HB2.out HI2.out rfl (by rw [List.all_toArray]; rfl) ?_
    go_wp2_with fail
    have hgot := setRow_heap W1 (w.heap.size + 1) _ ([.int .i64 0, .int .i64 0, .string { data := #[] }, .slice none 0 0, .slice none 0 0, .slice none 0 0] : List Value).toArray _ _ HB2.out
    refine bodyPost_ret (results_cell_row (by rfl) _ _ (w.heap.size + 1) _ _ _ _ (by rfl) hgot Try.underlying26 rfl (v_info rfl)) rfl ?_
    exact ⟨⟨_, rfl, VIn.bare _ _ _ _ _ _ rfl rfl (Nat.zero_le _)⟩, below_setRow HW1.out (by omega) _⟩
  · have HF2 := Lib.hid (HF.out rfl)
    clear HF
    go_enter Try.func36, Try.ntmps36
    go_wp2_with (refine wpList_load_row rfl 41 (.tmp 1) rfl w.heap.size rfl 41 _ (0, 0) _ HB0.out Try.underlying41 rfl HI.out ?_)
    refine (HD.out _ HW.out).mono ?_
    rintro e W1 ⟨rfl, hb⟩
    have HW1 := Lib.hid (HW.out.trans (hb.mono HW.out.size))
    have HB2 := Lib.hid (HB1.out.belowAll hb)
    have HB3 := Lib.hid (HB0.out.belowAll hb)
    clear hb
    go_wp2_with (refine wpList_load_row rfl 41 (.tmp 1) rfl w.heap.size rfl 41 _ (0, 0) _ HB3.out Try.underlying41 rfl HI.out ?_)
    refine (HF2.out _ HW1.out).mono ?_
    rintro e W2 ⟨⟨ds, rfl, hv⟩, hb⟩
    have HW2 := Lib.hid (HW1.out.trans (hb.mono HW1.out.size))
    have HB4 := Lib.hid (HB2.out.belowAll hb)
    have HI3 := Lib.hid (v_info hv.length)
    have HO := Lib.hid (show ([.int .i64 0, .int .i64 0, .string { data := #[] }, .slice none 0 0, .slice none 0 0, .slice none 0 0] : List Value).toArray.size = ds.toArray.size by rw [List.size_toArray, List.size_toArray, hv.length]; rfl)
    have HV := Lib.hid hv
    have HSZ := Lib.hid (show w.heap.size + 1 < W1.heap.size by have := HB2.out.lt; omega)
    clear hb hv
    go_wp2_with (refine wpList_store_row rfl 26 (.tmp 2) (.tmp 8) rfl (w.heap.size + 1) _ rfl rfl 26 _ HB4.out HI3.out HO.out (six_all HV.out) ?_)
    have hgot := setRow_heap W2 (w.heap.size + 1) _ ds.toArray _ _ HB4.out
    refine bodyPost_ret (results_cell_row (by rfl) _ _ (w.heap.size + 1) _ _ _ _ (by rfl) hgot Try.underlying26 rfl HI3.out) rfl ?_
    have hsz := HSZ.out
    exact ⟨⟨_, rfl, HV.out.kept (by simp) (fun g h1 h2 => ⟨by omega, setRow_other W2 _ _ _ (by omega)⟩)⟩, below_setRow HW2.out (by omega) _⟩

end Go.Proofs.Yteeabfckjjbmkaa
