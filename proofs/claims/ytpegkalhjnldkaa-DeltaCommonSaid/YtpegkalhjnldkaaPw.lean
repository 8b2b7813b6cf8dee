/- Whether a value is right: the program. -/
import Derived.Test.YtpegkalhjnldkaaPv
namespace Go.Proofs.Ytpegkalhjnldkaa
set_option maxRecDepth 100000
set_option linter.unusedSimpArgs false
set_option linter.unusedVariables false
open Go.RowKit

theorem wpList_load_guarded {P : Program} {ops : Array Oper} {rest : List Oper} {o : Oper} {a : Act} {w : World} {Q : Exit → Act → World → Prop} (hw : Region.wanted o (yielded ops a.tmps) = true) (ty : TypeId) (x : Operand) (ho : o.op = .load ty x)
    (g : Nat) (hx : a.eval x = .pointer (some ⟨g, 0, none⟩)) (T : TypeId) (l : List Value) (hr : Row w g T l) {d : TypeDesc}
    (hu : P.underlying ty = some d) (hd : (match d with | .struct _ | .array _ _ => true | _ => false) = true) (hi : (P.info? ty).map (·.size) = some l.toArray.size)
    (h : wpList P ops Q rest (a.put o.dst (.agg l.toArray)) w) : wpList P ops Q (o :: rest) a w :=
  BigFrame.wpList_want hw fun _ hK => wp_load_row ty x ho g hx T _ (0, 0) _ hr hu hd hi (hK _ _ h)
theorem not_any (f : Nat → Bool) (n : Nat) : (!(List.range n).any fun j => !f j) = (List.range n).all f := by
  rw [Bool.eq_iff_iff, Bool.not_eq_true', ← Bool.not_eq_true, List.any_eq_true, List.all_eq_true]
  constructor
  · intro h j hj
    cases hf : f j with
    | true => rfl
    | false => exact absurd ⟨j, hj, by simp [hf]⟩ h
  · rintro h ⟨j, hj, hf⟩
    rw [h j hj] at hf
    cases hf

set_option maxHeartbeats 1600000 in
theorem right_any : ∀ (v : Vt) (cs : List Value) (d : Nat) (w : World), VAt w v cs → d ≤ 900 →
    Calls Try.prog 32 #[.agg cs.toArray, .int .i64 (d : Int)] w fun e w' => e = .returned (.bool (v.rightAt d)) ∧ Below w.heap.size w w' := by
  intro v
  induction v with
  | nul => intro cs d w h; cases h
  | mk k n s names ids len parts ih =>
    intro cs d w h hd
    cases h with
    | mk css hk hn hs h1 h1c hss h2 h2c hi h3 h3c hp =>
    rename_i a b c la ca lb cb cc
    have hmk : (Vt.mk k n s names ids len parts).rightAt d = (decide (d ≤ 5) && (bareB k n s la lb len && fitB k n s names ids len) && (List.range len).all fun i => (parts i).rightAt (d + 1)) := by
      rw [Vt.rightAt_mk, head_eq, Strs.len h1, Nums.len h2]
    generalize (Vt.mk k n s names ids len parts).rightAt d = res at *
    have hlc : len ≤ 9223372036854775807 := by have := h3c.1; have := h3c.2; unfold maxLen at this; omega
    have hw := Below.alloc2 w (.cells [.int .i64 k, .int .i64 n, .string s, .slice a la ca, .slice b lb cb, .slice c len cc].toArray 37) (.cells #[.int .i64 (d : Int)] 3)
    have hb0 := (Row.new w [.int .i64 k, .int .i64 n, .string s, .slice a la ca, .slice b lb cb, .slice c len cc] 37).alloc (.cells #[.int .i64 (d : Int)] 3)
    have hb1 := Row.new1 w (.cells [.int .i64 k, .int .i64 n, .string s, .slice a la ca, .slice b lb cb, .slice c len cc].toArray 37) [.int .i64 (d : Int)] 3
    have HI := Lib.hid (v_info (cs := [.int .i64 k, .int .i64 n, .string s, .slice a la ca, .slice b lb cb, .slice c len cc]) rfl)
    by_cases h5 : d ≤ 5
    · have g5 : (d : Int) ≤ 5 := by omega
      rw [decide_eq_true h5, Bool.true_and] at hmk
      have HBA := Lib.hid (fun wx => bare_any k n s a b c la ca lb cb len cc wx)
      have HFI := Lib.hid (fun wx hx hy => fit_any k n s names ids a b c la ca lb cb len cc hs hss h1c h2c wx hx hy)
      have HCF := Lib.hid (fun wx hx q p hf => cf_right c len cc css q p hlc wx hx hf)
      have H1 := Lib.hid h1
      have H2 := Lib.hid h2
      have H3 := Lib.hid h3
      have HP := Lib.hid hp
      have IH := Lib.hid ih
      have HMK := Lib.hid hmk
      have HB0 := Lib.hid hb0
      have HB1 := Lib.hid hb1
      have HW := Lib.hid hw
      clear ih hp h1 h2 h3 hmk hb0 hb1 hw hs hss h1c h2c hi hk hn h3c
      generalize bareB k n s la lb len = bb at *
      generalize fitB k n s names ids len = bf at *
      cases bb
      · skip
        go_enter Try.func32, Try.ntmps32
        go_wp2_with (refine wpList_load_guarded (by rfl) 37 (.tmp 2) rfl w.heap.size rfl 37 _ HB0.out Try.underlying37 rfl HI.out ?_)
        refine (HBA.out _).mono ?_
        rintro e W1 ⟨rfl, hb⟩
        have HB := Lib.hid hb
        clear hb
        go_wp2_with fail
        go_ret
        exact ⟨by rw [HMK.out]; rfl, HW.out.trans (HB.out.mono HW.out.size)⟩
      · cases bf
        · skip
          go_enter Try.func32, Try.ntmps32
          go_wp2_with (refine wpList_load_guarded (by rfl) 37 (.tmp 2) rfl w.heap.size rfl 37 _ HB0.out Try.underlying37 rfl HI.out ?_)
          refine (HBA.out _).mono ?_
          rintro e W1 ⟨rfl, hb⟩
          have HW1 := Lib.hid (HW.out.trans (hb.mono HW.out.size))
          have HB01 := Lib.hid (HB0.out.belowAll hb)
          clear hb
          go_wp2_with (refine wpList_load_guarded (by rfl) 37 (.tmp 2) rfl w.heap.size rfl 37 _ HB01.out Try.underlying37 rfl HI.out ?_)
          refine (HFI.out _ (H1.out.belowAll HW1.out) (H2.out.belowAll HW1.out)).mono ?_
          rintro e W2 ⟨rfl, hb⟩
          have HW2 := Lib.hid (HW1.out.trans (hb.mono HW1.out.size))
          clear hb
          go_wp2_with fail
          go_ret
          exact ⟨by rw [HMK.out]; rfl, HW2.out⟩
        · skip
          go_enter Try.func32, Try.ntmps32
          go_wp2_with (refine wpList_load_guarded (by rfl) 37 (.tmp 2) rfl w.heap.size rfl 37 _ HB0.out Try.underlying37 rfl HI.out ?_)
          refine (HBA.out _).mono ?_
          rintro e W1 ⟨rfl, hb⟩
          have HW1 := Lib.hid (HW.out.trans (hb.mono HW.out.size))
          have HB01 := Lib.hid (HB0.out.belowAll hb)
          have HB11 := Lib.hid (HB1.out.belowAll hb)
          clear hb
          go_wp2_with (refine wpList_load_guarded (by rfl) 37 (.tmp 2) rfl w.heap.size rfl 37 _ HB01.out Try.underlying37 rfl HI.out ?_)
          refine (HFI.out _ (H1.out.belowAll HW1.out) (H2.out.belowAll HW1.out)).mono ?_
          rintro e W2 ⟨rfl, hb⟩
          have HW2 := Lib.hid (HW1.out.trans (hb.mono HW1.out.size))
          have hb02 := HB01.out.belowAll hb
          have hb12 := HB11.out.belowAll hb
          have hc5 := hb02.cell (k := 5) (v := .slice c len cc) rfl
          have hc1 := hb12.cell (k := 0) (v := .int .i64 (d : Int)) rfl
          have hcf := HCF.out W2 (H3.out.below HW2.out) (.pointer (some ⟨w.heap.size + 1, 0, none⟩)) (fun j => !(parts j).rightAt (d + 1)) (fun j hj w' hbw =>
            rightc_any (css j) (HP.out j hj).length (w.heap.size + 1) d _ (by omega) w' ((hbw.cell (p := ⟨w.heap.size + 1, 0, none⟩) (lt_of_cell hc1)).trans hc1) (fun w1 hb1 =>
              IH.out j (css j) (d + 1) w1 ((HP.out j hj).later (HW2.out.trans ((hbw.trans (hb1.mono hbw.size)).mono HW2.out.size))) (by omega)))
          rw [show (List.range len).any (fun j => !(parts j).rightAt (d + 1)) = !(List.range len).all fun i => (parts i).rightAt (d + 1) by rw [← not_any, Bool.not_not]] at hcf
          have HCF2 := Lib.hid hcf
          clear hb hcf hb02 hb12
          generalize ((List.range len).all fun i => (parts i).rightAt (d + 1)) = ba at *
          go_wp2_with fail
          refine HCF2.out.mono ?_
          rintro e W3 ⟨rfl, hb⟩
          have HB := Lib.hid hb
          clear hb
          cases ba
          · go_wp2_with fail
            go_ret
            exact ⟨by rw [HMK.out]; rfl, HW2.out.trans (HB.out.mono HW2.out.size)⟩
          · go_wp2_with fail
            go_ret
            exact ⟨by rw [HMK.out]; rfl, HW2.out.trans (HB.out.mono HW2.out.size)⟩
    · have g5 : ¬ (d : Int) ≤ 5 := by omega
      rw [decide_eq_false h5] at hmk
      have HMK := Lib.hid hmk
      have HW := Lib.hid hw
      clear ih hp h1 h2 h3 hmk hb0 hb1 hw
      go_enter Try.func32, Try.ntmps32
      go_wp2_with fail
      go_ret
      exact ⟨by rw [HMK.out]; rfl, HW.out⟩
theorem vright_any (v : Vt) (cs : List Value) (w : World) (h : VAt w v cs) :
    Calls Try.prog 19 #[.agg cs.toArray] w fun e w' => e = .returned (.bool (v.rightAt 1)) ∧ Below w.heap.size w w' := by
  have hw := Below.alloc1 w (.cells cs.toArray 37)
  have HR := Lib.hid (right_any v cs 1 _ (h.later hw) (by decide))
  have HW := Lib.hid hw
  have HB0 := Lib.hid (Row.new w cs 37)
  have HI := Lib.hid (v_info h.length)
  clear hw h
  go_enter Try.func19, Try.ntmps19
  go_wp2_with (refine wpList_load_row rfl 37 (.tmp 1) rfl w.heap.size rfl 37 _ (0, 0) _ HB0.out Try.underlying37 rfl HI.out ?_)
  refine HR.out.mono ?_
  rintro e W1 ⟨rfl, hb⟩
  have HB := Lib.hid hb
  clear hb
  go_wp2_with fail
  go_ret
  exact ⟨rfl, HW.out.trans (HB.out.mono HW.out.size)⟩

end Go.Proofs.Ytpegkalhjnldkaa
