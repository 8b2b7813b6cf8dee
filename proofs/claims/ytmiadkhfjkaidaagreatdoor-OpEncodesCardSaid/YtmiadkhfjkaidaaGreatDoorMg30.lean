/- Whether a value is sound: the document (kind 5). -/
import Derived.Test.YtmiadkhfjkaidaaGreatDoorMg29
namespace Go.Proofs.YtmiadkhfjkaidaaGreatDoor
section
set_option maxRecDepth 100000
set_option linter.unusedSimpArgs false
set_option linter.unusedVariables false
open Go.RowKit

theorem gt_r {j : Nat} (h : 0 < (j : Int)) (w : World) : (binOp .gtr 3 (.int .i64 (j : Int)) (.int .i64 0)).run Tryz.prog w = .ok (.bool true) w := by
  have h2 : 0 < j := by omega
  go_simp
theorem gt_n {j : Nat} (h : (j : Int) ≤ 0) (w : World) : (binOp .gtr 3 (.int .i64 (j : Int)) (.int .i64 0)).run Tryz.prog w = .ok (.bool false) w := by
  have h2 : j = 0 := by omega
  subst h2
  rfl
theorem sub_r {j : Nat} (h : 1 ≤ j) (h2 : (j : Int) ≤ 9223372036854775807) (w : World) : (binOp .sub 3 (.int .i64 (j : Int)) (.int .i64 1)).run Tryz.prog w = .ok (.int .i64 ((j - 1 : Nat) : Int)) w := by
  rw [show ((j - 1 : Nat) : Int) = (j : Int) - 1 by omega]
  have hw : IntKind.i64.wrap ((j : Int) - 1) = (j : Int) - 1 := IntWalk.i64_in _ (by omega)
  go_simp
theorem le_eq (u v : ByteArray) : (ltS u v || eqS u v) = !ltS v u := by
  rw [Bool.or_comm]
  cases h : ltS v u
  · cases h2 : (eqS u v || ltS u v)
    · rw [ltS_iff.2 h2] at h; cases h
    · rfl
  · rw [ltS_iff.1 h]; rfl
theorem le_r (u v : ByteArray) {b : Bool} (h : ltS v u = b) (w : World) : (binOp .leq 9 (.string u) (.string v)).run Tryz.prog w = .ok (.bool (!b)) w := by
  have e : (binOp .leq 9 (.string u) (.string v)).run Tryz.prog w = .ok (.bool (ltS u v || eqS u v)) w := rfl
  rw [e, le_eq, h]
set_option maxHeartbeats 3200000 in
theorem rs_5 (n : Int) (s : ByteArray) (names : List ByteArray) (ids : List Int) (a b c : Option Addr) (la ca lb cb len cc : Nat) (css : Nat → List Value) (ps : Nat → Bool) (hs : s.size ≤ maxLen) (hss : ∀ x ∈ names, x.size ≤ maxLen) (hla : (la : Int) ≤ 9223372036854775807) (hlb : (lb : Int) ≤ 9223372036854775807) (hlc : (len : Int) ≤ 9223372036854775807) (w : World) (h1 : Strs w a la names) (h2 : Nums w b lb ids) (h3 : Parts w 6 c len css)
    (ih : ∀ j, j < len → ∀ w', Below w.heap.size w w' → Calls Tryz.prog 50 #[.agg (css j).toArray] w' fun e w'' => e = .returned (.bool (ps j)) ∧ Below w'.heap.size w' w'') :
    Calls Tryz.prog 50 #[.agg #[.int .i64 5, .int .i64 n, .string s, .slice a la ca, .slice b lb cb, .slice c len cc]] w fun e w' => e = .returned (.bool (headV 5 n s names ids len && allN ps len)) ∧ Below w.heap.size w w' := by
  have hl := Strs.len h1
  have hl2 := Nums.len h2
  have HB0 := Lib.hid (Row.new w [.int .i64 5, .int .i64 n, .string s, .slice a la ca, .slice b lb cb, .slice c len cc] 28)
  have HW := Lib.hid (Below.alloc1 w (.cells #[.int .i64 5, .int .i64 n, .string s, .slice a la ca, .slice b lb cb, .slice c len cc] 28))
  have H1 := Lib.hid h1
  have H2 := Lib.hid h2
  have H3 := Lib.hid h3
  have IH := Lib.hid ih
  have HSS := Lib.hid hss
  clear h1 h2 h3 ih hss
  by_cases hn0 : n = 0
  rotate_left
  · have gn : (n != 0) = true := bne_iff_ne.2 hn0
    have HF := Lib.hid (show (headV 5 n s names ids len && allN ps len) = false by unfold headV; simp [hl, hl2, sz0, hn0])
    clear hl hl2 H1 H2 H3 IH HSS HB0
    go_enter Tryz.func50, Tryz.ntmps50
    go_wp2_with fail
    go_ret
    exact ⟨by rw [HF.out]; rfl, HW.out⟩
  subst hn0
  by_cases hs0 : s = ByteArray.empty
  rotate_left
  · have gs0 : ¬ s.toList = [] := fun h => hs0 ((toL_nil s).1 h)
    have gs1 : (s.toList == []) = false := beq_eq_false_iff_ne.2 gs0
    have gs2 : (s.toList != []) = true := bne_iff_ne.2 gs0
    have gs4 : ¬ s.size = 0 := fun h => hs0 (sz_nil h)
    have HF := Lib.hid (show (headV 5 0 s names ids len && allN ps len) = false by unfold headV; simp [hl, hl2, sz0, gs4])
    clear hl hl2 H1 H2 H3 IH HSS HB0
    go_enter Tryz.func50, Tryz.ntmps50
    go_wp2_with fail
    go_ret
    exact ⟨by rw [HF.out]; rfl, HW.out⟩
  subst hs0
  by_cases hlb0 : lb = 0
  rotate_left
  · have g1 : (lb : Int) > 0 := by omega
    have g2 : (0 : Int) < (lb : Int) := by omega
    have g3 : 0 < lb := by omega
    have HF := Lib.hid (show (headV 5 0 ByteArray.empty names ids len && allN ps len) = false by unfold headV; simp [hl, hl2, sz0, hlb0])
    clear hl hl2 H1 H2 H3 IH HSS HB0
    go_enter Tryz.func50, Tryz.ntmps50
    go_wp2_with fail
    go_ret
    exact ⟨by rw [HF.out]; rfl, HW.out⟩
  subst hlb0
  by_cases hm : la ≤ 8
  rotate_left
  · have g1 : (la : Int) > 8 := by omega
    have g2 : (8 : Int) < (la : Int) := by omega
    have HF := Lib.hid (show (headV 5 0 ByteArray.empty names ids len && allN ps len) = false by unfold headV; simp [hl, hl2, sz0, hm])
    clear hl hl2 H1 H2 H3 IH HSS HB0
    go_enter Tryz.func50, Tryz.ntmps50
    go_wp2_with fail
    go_ret
    exact ⟨by rw [HF.out]; rfl, HW.out⟩
  have gm1 : ¬ (la : Int) > 8 := by omega
  have gm2 : (la : Int) ≤ 8 := by omega
  by_cases hll : la = len
  rotate_left
  · have g1 : ((len : Int) != (la : Int)) = true := bne_iff_ne.2 (by omega)
    have hll2 : ¬ len = la := by omega
    have HF := Lib.hid (show (headV 5 0 ByteArray.empty names ids len && allN ps len) = false by unfold headV; simp [hl, hl2, sz0, hll2])
    clear hl hl2 H1 H2 H3 IH HSS HB0
    go_enter Tryz.func50, Tryz.ntmps50
    go_wp2_with fail
    go_ret
    exact ⟨by rw [HF.out]; rfl, HW.out⟩
  subst hll
  have HF0 := Lib.hid (show (headV 5 0 ByteArray.empty names ids la && allN ps la) = (ris names la && allN ps la) by have e := rise_ris names; rw [hl] at e; unfold headV; simp [hl, hl2, sz0, hm, e])
  clear hl hl2 H2
  go_enter Tryz.func50, Tryz.ntmps50
  go_wp2_with fail
  go_loopw [4] (fun i wr => ∃ j : Nat, j ≤ la ∧ i = .int .i64 (j : Int) ∧ ris names j = true ∧ Row wr w.heap.size 28 [.int .i64 5, .int .i64 0, .string ByteArray.empty, .slice a la ca, .slice b 0 cb, .slice c la cc] ∧ Below w.heap.size w wr) (fun i _ => la - (intOf i).toNat)
  case atStart => exact ⟨0, Nat.zero_le _, rfl, rfl, HB0.out, HW.out⟩
  case round =>
    obtain ⟨j, hjn, rfl, hall, hb0, hw⟩ := hrel
    have bj0 : (0 : Int) ≤ (j : Int) := by omega
    have hc3 := hb0.cell (k := 3) (v := .slice a la ca) rfl
    by_cases hj : j < la
    · have hji : (j : Int) < (la : Int) := by omega
      obtain ⟨ad, hade, hcx⟩ := Strs.at_ (H1.out.belowAll hw) hj
      subst hade
      have hmo := ris_more names j
      rw [hall, Bool.true_and] at hmo
      have HNO := Lib.hid (fun h => ris_no (l := names) (n := j + 1) (m := la) h (by omega))
      have HNA := Lib.hid (fun wx (_ : Below wr.heap.size wr wx) => (rname_ref (nth names j) (nth_sz HSS.out j) wx).mono (fun e w' (h : e = .returned (.bool (nameB (nth names j))) ∧ w' = wx) => (⟨h.1, by rw [h.2]; exact Below.refl _ _⟩ : e = .returned (.bool (nameB (nth names j))) ∧ Below wx.heap.size wx w')))
      have HB1 := Lib.hid hb0
      have HW1 := Lib.hid hw
      obtain ⟨x, hx⟩ : ∃ x, nth names j = x := ⟨_, rfl⟩
      rw [hx] at hcx HNA hmo
      obtain ⟨bn, hna⟩ : ∃ b, nameB x = b := ⟨_, rfl⟩
      rw [hna] at HNA hmo
      cases bn
      · rw [Bool.false_and] at hmo
        have HMO := Lib.hid hmo
        clear hmo hall hb0 hw
        go_wp2_with fail
        refine wp_flat_none (aD := ?aDa) (S := fun w' => Below wr.heap.size wr w')
          (vs := [(0, .pointer (some ⟨w.heap.size, 3, none⟩)), (1, .slice (some ad) la ca), (2, .int .i64 (j : Int)), (3, .pointer (some (ad.add (j)))), (4, .string x), (5, .bool false), (6, .bool (!false)), (7, .bool (!false)), (8, undef), (9, undef), (10, undef), (11, undef), (12, undef), (13, undef), (14, undef), (15, undef), (16, undef), (17, undef), (18, undef), (19, undef), (20, undef), (21, undef), (22, undef), (23, undef), (24, .bool true)]) (by kernel_rfl) ((Below.refl _ _).drew) (fun _ _ h k => S_trans h k) ?hDa ?hka ?ha
        case hDa =>
          refine .step (some 126) rfl rfl (by kernel_rfl) (Gives.fieldAt 28 (.tmp 1) 3 rfl _ _ rfl (fun w' => fv_3 _ w')) ?_
          simp only [Act.put, List.setIfInBounds_toArray, List.set_cons_zero, List.set_cons_succ]
          refine .step (some 127) rfl rfl (by kernel_rfl) (Gives.load 24 (.tmp 126) rfl _ _ rfl (fun w' h => ld_strs ((h.cell (lt_of_cell hc3)).trans hc3))) ?_
          simp only [Act.put, List.setIfInBounds_toArray, List.set_cons_zero, List.set_cons_succ]
          refine .step (some 128) rfl rfl (by kernel_rfl) (Gives.move (x := .tmp 4) rfl rfl) ?_
          simp only [Act.put, List.setIfInBounds_toArray, List.set_cons_zero, List.set_cons_succ]
          refine .step (some 129) rfl rfl (by kernel_rfl) (Gives.indexAt 24 (.tmp 127) (.tmp 128) rfl _ _ _ rfl rfl (fun w' => ix_str ad la ca (j) hj w')) ?_
          simp only [Act.put, List.setIfInBounds_toArray, List.set_cons_zero, List.set_cons_succ]
          refine .step (some 130) rfl rfl (by kernel_rfl) (Gives.load 9 (.tmp 129) rfl _ _ rfl (fun w' h => ld_str ((h.cell (lt_of_cell hcx)).trans hcx))) ?_
          simp only [Act.put, List.setIfInBounds_toArray, List.set_cons_zero, List.set_cons_succ]
          refine .step (some 131) rfl rfl (by kernel_rfl) (Gives.call (args := [.string x]) rfl Tryz.func48 (by kernel_rfl) (by kernel_rfl) rfl (fun w' h => HNA.out w' h)) ?_
          simp only [Act.put, List.setIfInBounds_toArray, List.set_cons_zero, List.set_cons_succ]
          refine .step (some 132) rfl rfl (by kernel_rfl) (Gives.unop .not 4 (.tmp 131) rfl (.bool false) (.bool !false) rfl (fun w' => un_not false w')) ?_
          simp only [Act.put, List.setIfInBounds_toArray, List.set_cons_zero, List.set_cons_succ]
          refine .step (some 133) rfl rfl (by kernel_rfl) (Gives.move (x := .tmp 132) rfl rfl) ?_
          simp only [Act.put, List.setIfInBounds_toArray, List.set_cons_zero, List.set_cons_succ]
          refine .stepSkip (some 134) rfl rfl (by kernel_rfl) ?_
          simp only [Act.put, List.setIfInBounds_toArray, List.set_cons_zero, List.set_cons_succ]
          refine .stepSkip (some 135) rfl rfl (by kernel_rfl) ?_
          simp only [Act.put, List.setIfInBounds_toArray, List.set_cons_zero, List.set_cons_succ]
          refine .stepSkip (some 136) rfl rfl (by kernel_rfl) ?_
          simp only [Act.put, List.setIfInBounds_toArray, List.set_cons_zero, List.set_cons_succ]
          refine .stepSkip (some 137) rfl rfl (by kernel_rfl) ?_
          simp only [Act.put, List.setIfInBounds_toArray, List.set_cons_zero, List.set_cons_succ]
          refine .stepSkip (some 138) rfl rfl (by kernel_rfl) ?_
          simp only [Act.put, List.setIfInBounds_toArray, List.set_cons_zero, List.set_cons_succ]
          refine .stepSkip (some 139) rfl rfl (by kernel_rfl) ?_
          simp only [Act.put, List.setIfInBounds_toArray, List.set_cons_zero, List.set_cons_succ]
          refine .stepSkip (some 140) rfl rfl (by kernel_rfl) ?_
          simp only [Act.put, List.setIfInBounds_toArray, List.set_cons_zero, List.set_cons_succ]
          refine .stepSkip (some 141) rfl rfl (by kernel_rfl) ?_
          simp only [Act.put, List.setIfInBounds_toArray, List.set_cons_zero, List.set_cons_succ]
          refine .stepSkip (some 142) rfl rfl (by kernel_rfl) ?_
          simp only [Act.put, List.setIfInBounds_toArray, List.set_cons_zero, List.set_cons_succ]
          refine .stepSkip (some 143) rfl rfl (by kernel_rfl) ?_
          simp only [Act.put, List.setIfInBounds_toArray, List.set_cons_zero, List.set_cons_succ]
          refine .stepSkip (some 144) rfl rfl (by kernel_rfl) ?_
          simp only [Act.put, List.setIfInBounds_toArray, List.set_cons_zero, List.set_cons_succ]
          refine .stepSkip (some 145) rfl rfl (by kernel_rfl) ?_
          simp only [Act.put, List.setIfInBounds_toArray, List.set_cons_zero, List.set_cons_succ]
          refine .stepSkip (some 146) rfl rfl (by kernel_rfl) ?_
          simp only [Act.put, List.setIfInBounds_toArray, List.set_cons_zero, List.set_cons_succ]
          refine .stepSkip (some 147) rfl rfl (by kernel_rfl) ?_
          simp only [Act.put, List.setIfInBounds_toArray, List.set_cons_zero, List.set_cons_succ]
          refine .stepSkip (some 148) rfl rfl (by kernel_rfl) ?_
          simp only [Act.put, List.setIfInBounds_toArray, List.set_cons_zero, List.set_cons_succ]
          refine .stepSkip (some 149) rfl rfl (by kernel_rfl) ?_
          simp only [Act.put, List.setIfInBounds_toArray, List.set_cons_zero, List.set_cons_succ]
          refine .step (some 150) rfl rfl (by kernel_rfl) (Gives.pick (.tmp 133) (.const (.bool true)) (.tmp 149) rfl true (.bool true) rfl rfl) ?_
          simp only [Act.put, List.setIfInBounds_toArray, List.set_cons_zero, List.set_cons_succ]
          exact .nil
        case hka => kernel_rfl
        case ha =>
          intro Wq hb
          have HWQ := Lib.hid (HW1.out.trans (hb.mono HW1.out.size))
          clear hb hc3 hcx
          go_wp2_with fail
          go_ret
          exact ⟨by rw [HF0.out, HNO.out HMO.out]; rfl, HWQ.out⟩
      · rw [Bool.true_and] at hmo
        by_cases hj0 : j = 0
        · rw [decide_eq_true hj0, Bool.true_or] at hmo
          have HPO := Lib.hid (show (j : Int) ≤ 0 by omega)
          clear hj0
          have HMO := Lib.hid hmo
          clear hmo hall hb0 hw
          go_wp2_with fail
          refine wp_flat_none (aD := ?aDb) (S := fun w' => Below wr.heap.size wr w')
            (vs := [(0, .pointer (some ⟨w.heap.size, 3, none⟩)), (1, .slice (some ad) la ca), (2, .int .i64 (j : Int)), (3, .pointer (some (ad.add (j)))), (4, .string x), (5, .bool true), (6, .bool (!true)), (7, .bool (!true)), (8, .int .i64 (j : Int)), (9, .bool false), (10, .bool false), (11, undef), (12, undef), (13, undef), (14, undef), (15, undef), (16, undef), (17, undef), (18, undef), (19, undef), (20, undef), (21, undef), (22, undef), (23, .bool false), (24, .bool false)]) (by kernel_rfl) ((Below.refl _ _).drew) (fun _ _ h k => S_trans h k) ?hDb ?hkb ?hb
          case hDb =>
            refine .step (some 126) rfl rfl (by kernel_rfl) (Gives.fieldAt 28 (.tmp 1) 3 rfl _ _ rfl (fun w' => fv_3 _ w')) ?_
            simp only [Act.put, List.setIfInBounds_toArray, List.set_cons_zero, List.set_cons_succ]
            refine .step (some 127) rfl rfl (by kernel_rfl) (Gives.load 24 (.tmp 126) rfl _ _ rfl (fun w' h => ld_strs ((h.cell (lt_of_cell hc3)).trans hc3))) ?_
            simp only [Act.put, List.setIfInBounds_toArray, List.set_cons_zero, List.set_cons_succ]
            refine .step (some 128) rfl rfl (by kernel_rfl) (Gives.move (x := .tmp 4) rfl rfl) ?_
            simp only [Act.put, List.setIfInBounds_toArray, List.set_cons_zero, List.set_cons_succ]
            refine .step (some 129) rfl rfl (by kernel_rfl) (Gives.indexAt 24 (.tmp 127) (.tmp 128) rfl _ _ _ rfl rfl (fun w' => ix_str ad la ca (j) hj w')) ?_
            simp only [Act.put, List.setIfInBounds_toArray, List.set_cons_zero, List.set_cons_succ]
            refine .step (some 130) rfl rfl (by kernel_rfl) (Gives.load 9 (.tmp 129) rfl _ _ rfl (fun w' h => ld_str ((h.cell (lt_of_cell hcx)).trans hcx))) ?_
            simp only [Act.put, List.setIfInBounds_toArray, List.set_cons_zero, List.set_cons_succ]
            refine .step (some 131) rfl rfl (by kernel_rfl) (Gives.call (args := [.string x]) rfl Tryz.func48 (by kernel_rfl) (by kernel_rfl) rfl (fun w' h => HNA.out w' h)) ?_
            simp only [Act.put, List.setIfInBounds_toArray, List.set_cons_zero, List.set_cons_succ]
            refine .step (some 132) rfl rfl (by kernel_rfl) (Gives.unop .not 4 (.tmp 131) rfl (.bool true) (.bool !true) rfl (fun w' => un_not true w')) ?_
            simp only [Act.put, List.setIfInBounds_toArray, List.set_cons_zero, List.set_cons_succ]
            refine .step (some 133) rfl rfl (by kernel_rfl) (Gives.move (x := .tmp 132) rfl rfl) ?_
            simp only [Act.put, List.setIfInBounds_toArray, List.set_cons_zero, List.set_cons_succ]
            refine .step (some 134) rfl rfl (by kernel_rfl) (Gives.move (x := .tmp 4) rfl rfl) ?_
            simp only [Act.put, List.setIfInBounds_toArray, List.set_cons_zero, List.set_cons_succ]
            refine .step (some 135) rfl rfl (by kernel_rfl) (Gives.binop .gtr 3 3 (.tmp 134) (.const (.int .i64 0)) rfl _ _ _ rfl rfl (fun w' => rfl) (fun w' => gt_n HPO.out w')) ?_
            simp only [Act.put, List.setIfInBounds_toArray, List.set_cons_zero, List.set_cons_succ]
            refine .step (some 136) rfl rfl (by kernel_rfl) (Gives.move (x := .tmp 135) rfl rfl) ?_
            simp only [Act.put, List.setIfInBounds_toArray, List.set_cons_zero, List.set_cons_succ]
            refine .stepSkip (some 137) rfl rfl (by kernel_rfl) ?_
            simp only [Act.put, List.setIfInBounds_toArray, List.set_cons_zero, List.set_cons_succ]
            refine .stepSkip (some 138) rfl rfl (by kernel_rfl) ?_
            simp only [Act.put, List.setIfInBounds_toArray, List.set_cons_zero, List.set_cons_succ]
            refine .stepSkip (some 139) rfl rfl (by kernel_rfl) ?_
            simp only [Act.put, List.setIfInBounds_toArray, List.set_cons_zero, List.set_cons_succ]
            refine .stepSkip (some 140) rfl rfl (by kernel_rfl) ?_
            simp only [Act.put, List.setIfInBounds_toArray, List.set_cons_zero, List.set_cons_succ]
            refine .stepSkip (some 141) rfl rfl (by kernel_rfl) ?_
            simp only [Act.put, List.setIfInBounds_toArray, List.set_cons_zero, List.set_cons_succ]
            refine .stepSkip (some 142) rfl rfl (by kernel_rfl) ?_
            simp only [Act.put, List.setIfInBounds_toArray, List.set_cons_zero, List.set_cons_succ]
            refine .stepSkip (some 143) rfl rfl (by kernel_rfl) ?_
            simp only [Act.put, List.setIfInBounds_toArray, List.set_cons_zero, List.set_cons_succ]
            refine .stepSkip (some 144) rfl rfl (by kernel_rfl) ?_
            simp only [Act.put, List.setIfInBounds_toArray, List.set_cons_zero, List.set_cons_succ]
            refine .stepSkip (some 145) rfl rfl (by kernel_rfl) ?_
            simp only [Act.put, List.setIfInBounds_toArray, List.set_cons_zero, List.set_cons_succ]
            refine .stepSkip (some 146) rfl rfl (by kernel_rfl) ?_
            simp only [Act.put, List.setIfInBounds_toArray, List.set_cons_zero, List.set_cons_succ]
            refine .stepSkip (some 147) rfl rfl (by kernel_rfl) ?_
            simp only [Act.put, List.setIfInBounds_toArray, List.set_cons_zero, List.set_cons_succ]
            refine .stepSkip (some 148) rfl rfl (by kernel_rfl) ?_
            simp only [Act.put, List.setIfInBounds_toArray, List.set_cons_zero, List.set_cons_succ]
            refine .step (some 149) rfl rfl (by kernel_rfl) (Gives.pick (.tmp 136) (.tmp 148) (.const (.bool false)) rfl false (.bool false) rfl rfl) ?_
            simp only [Act.put, List.setIfInBounds_toArray, List.set_cons_zero, List.set_cons_succ]
            refine .step (some 150) rfl rfl (by kernel_rfl) (Gives.pick (.tmp 133) (.const (.bool true)) (.tmp 149) rfl false (.bool false) rfl rfl) ?_
            simp only [Act.put, List.setIfInBounds_toArray, List.set_cons_zero, List.set_cons_succ]
            exact .nil
          case hkb => kernel_rfl
          case hb =>
            intro Wq hb
            have HWQ := Lib.hid (HW1.out.trans (hb.mono HW1.out.size))
            have HBQ := Lib.hid (HB1.out.belowAll hb)
            clear hb hc3 hcx
            go_wp2_with fail
            go_roundw
            case rel => exact ⟨j + 1, by omega, by go_num, HMO.out, HBQ.out, HWQ.out⟩
            case measure => simp [intOf] <;> omega
        have hpos : 0 < (j : Int) := by omega
        rw [decide_eq_false hj0, Bool.false_or] at hmo
        obtain ⟨af, hafe, hcy⟩ := Strs.at_ (H1.out.belowAll hw) (show j - 1 < la by omega)
        cases hafe
        obtain ⟨y, hy⟩ : ∃ y, nth names (j - 1) = y := ⟨_, rfl⟩
        rw [hy] at hcy hmo
        obtain ⟨bl, hle⟩ : ∃ b, ltS y x = b := ⟨_, rfl⟩
        rw [hle] at hmo
        cases bl
        · skip
          have HMO := Lib.hid hmo
          clear hmo hall hb0 hw
          go_wp2_with fail
          refine wp_flat_none (aD := ?aDc) (S := fun w' => Below wr.heap.size wr w')
            (vs := [(0, .pointer (some ⟨w.heap.size, 3, none⟩)), (1, .slice (some ad) la ca), (2, .int .i64 (j : Int)), (3, .pointer (some (ad.add (j)))), (4, .string x), (5, .bool true), (6, .bool (!true)), (7, .bool (!true)), (8, .int .i64 (j : Int)), (9, .bool true), (10, .bool true), (11, .pointer (some ⟨w.heap.size, 3, none⟩)), (12, .slice (some ad) la ca), (13, .int .i64 (j : Int)), (14, .pointer (some (ad.add (j)))), (15, .string x), (16, .pointer (some ⟨w.heap.size, 3, none⟩)), (17, .slice (some ad) la ca), (18, .int .i64 (j : Int)), (19, .int .i64 ((j - 1 : Nat) : Int)), (20, .pointer (some (ad.add (j - 1)))), (21, .string y), (22, .bool (!false)), (23, .bool (!false)), (24, .bool (!false))]) (by kernel_rfl) ((Below.refl _ _).drew) (fun _ _ h k => S_trans h k) ?hDc ?hkc ?hc
          case hDc =>
            refine .step (some 126) rfl rfl (by kernel_rfl) (Gives.fieldAt 28 (.tmp 1) 3 rfl _ _ rfl (fun w' => fv_3 _ w')) ?_
            simp only [Act.put, List.setIfInBounds_toArray, List.set_cons_zero, List.set_cons_succ]
            refine .step (some 127) rfl rfl (by kernel_rfl) (Gives.load 24 (.tmp 126) rfl _ _ rfl (fun w' h => ld_strs ((h.cell (lt_of_cell hc3)).trans hc3))) ?_
            simp only [Act.put, List.setIfInBounds_toArray, List.set_cons_zero, List.set_cons_succ]
            refine .step (some 128) rfl rfl (by kernel_rfl) (Gives.move (x := .tmp 4) rfl rfl) ?_
            simp only [Act.put, List.setIfInBounds_toArray, List.set_cons_zero, List.set_cons_succ]
            refine .step (some 129) rfl rfl (by kernel_rfl) (Gives.indexAt 24 (.tmp 127) (.tmp 128) rfl _ _ _ rfl rfl (fun w' => ix_str ad la ca (j) hj w')) ?_
            simp only [Act.put, List.setIfInBounds_toArray, List.set_cons_zero, List.set_cons_succ]
            refine .step (some 130) rfl rfl (by kernel_rfl) (Gives.load 9 (.tmp 129) rfl _ _ rfl (fun w' h => ld_str ((h.cell (lt_of_cell hcx)).trans hcx))) ?_
            simp only [Act.put, List.setIfInBounds_toArray, List.set_cons_zero, List.set_cons_succ]
            refine .step (some 131) rfl rfl (by kernel_rfl) (Gives.call (args := [.string x]) rfl Tryz.func48 (by kernel_rfl) (by kernel_rfl) rfl (fun w' h => HNA.out w' h)) ?_
            simp only [Act.put, List.setIfInBounds_toArray, List.set_cons_zero, List.set_cons_succ]
            refine .step (some 132) rfl rfl (by kernel_rfl) (Gives.unop .not 4 (.tmp 131) rfl (.bool true) (.bool !true) rfl (fun w' => un_not true w')) ?_
            simp only [Act.put, List.setIfInBounds_toArray, List.set_cons_zero, List.set_cons_succ]
            refine .step (some 133) rfl rfl (by kernel_rfl) (Gives.move (x := .tmp 132) rfl rfl) ?_
            simp only [Act.put, List.setIfInBounds_toArray, List.set_cons_zero, List.set_cons_succ]
            refine .step (some 134) rfl rfl (by kernel_rfl) (Gives.move (x := .tmp 4) rfl rfl) ?_
            simp only [Act.put, List.setIfInBounds_toArray, List.set_cons_zero, List.set_cons_succ]
            refine .step (some 135) rfl rfl (by kernel_rfl) (Gives.binop .gtr 3 3 (.tmp 134) (.const (.int .i64 0)) rfl _ _ _ rfl rfl (fun w' => rfl) (fun w' => gt_r hpos w')) ?_
            simp only [Act.put, List.setIfInBounds_toArray, List.set_cons_zero, List.set_cons_succ]
            refine .step (some 136) rfl rfl (by kernel_rfl) (Gives.move (x := .tmp 135) rfl rfl) ?_
            simp only [Act.put, List.setIfInBounds_toArray, List.set_cons_zero, List.set_cons_succ]
            refine .step (some 137) rfl rfl (by kernel_rfl) (Gives.fieldAt 28 (.tmp 1) 3 rfl _ _ rfl (fun w' => fv_3 _ w')) ?_
            simp only [Act.put, List.setIfInBounds_toArray, List.set_cons_zero, List.set_cons_succ]
            refine .step (some 138) rfl rfl (by kernel_rfl) (Gives.load 24 (.tmp 137) rfl _ _ rfl (fun w' h => ld_strs ((h.cell (lt_of_cell hc3)).trans hc3))) ?_
            simp only [Act.put, List.setIfInBounds_toArray, List.set_cons_zero, List.set_cons_succ]
            refine .step (some 139) rfl rfl (by kernel_rfl) (Gives.move (x := .tmp 4) rfl rfl) ?_
            simp only [Act.put, List.setIfInBounds_toArray, List.set_cons_zero, List.set_cons_succ]
            refine .step (some 140) rfl rfl (by kernel_rfl) (Gives.indexAt 24 (.tmp 138) (.tmp 139) rfl _ _ _ rfl rfl (fun w' => ix_str ad la ca (j) hj w')) ?_
            simp only [Act.put, List.setIfInBounds_toArray, List.set_cons_zero, List.set_cons_succ]
            refine .step (some 141) rfl rfl (by kernel_rfl) (Gives.load 9 (.tmp 140) rfl _ _ rfl (fun w' h => ld_str ((h.cell (lt_of_cell hcx)).trans hcx))) ?_
            simp only [Act.put, List.setIfInBounds_toArray, List.set_cons_zero, List.set_cons_succ]
            refine .step (some 142) rfl rfl (by kernel_rfl) (Gives.fieldAt 28 (.tmp 1) 3 rfl _ _ rfl (fun w' => fv_3 _ w')) ?_
            simp only [Act.put, List.setIfInBounds_toArray, List.set_cons_zero, List.set_cons_succ]
            refine .step (some 143) rfl rfl (by kernel_rfl) (Gives.load 24 (.tmp 142) rfl _ _ rfl (fun w' h => ld_strs ((h.cell (lt_of_cell hc3)).trans hc3))) ?_
            simp only [Act.put, List.setIfInBounds_toArray, List.set_cons_zero, List.set_cons_succ]
            refine .step (some 144) rfl rfl (by kernel_rfl) (Gives.move (x := .tmp 4) rfl rfl) ?_
            simp only [Act.put, List.setIfInBounds_toArray, List.set_cons_zero, List.set_cons_succ]
            refine .step (some 145) rfl rfl (by kernel_rfl) (Gives.binop .sub 3 3 (.tmp 144) (.const (.int .i64 1)) rfl _ _ _ rfl rfl (fun w' => rfl) (fun w' => sub_r (by omega) (by omega) w')) ?_
            simp only [Act.put, List.setIfInBounds_toArray, List.set_cons_zero, List.set_cons_succ]
            refine .step (some 146) rfl rfl (by kernel_rfl) (Gives.indexAt 24 (.tmp 143) (.tmp 145) rfl _ _ _ rfl rfl (fun w' => ix_str ad la ca (j - 1) (by omega) w')) ?_
            simp only [Act.put, List.setIfInBounds_toArray, List.set_cons_zero, List.set_cons_succ]
            refine .step (some 147) rfl rfl (by kernel_rfl) (Gives.load 9 (.tmp 146) rfl _ _ rfl (fun w' h => ld_str ((h.cell (lt_of_cell hcy)).trans hcy))) ?_
            simp only [Act.put, List.setIfInBounds_toArray, List.set_cons_zero, List.set_cons_succ]
            refine .step (some 148) rfl rfl (by kernel_rfl) (Gives.binop .leq 9 9 (.tmp 141) (.tmp 147) rfl (.string x) (.string y) _ rfl rfl (fun w' => rfl) (fun w' => le_r _ _ hle w')) ?_
            simp only [Act.put, List.setIfInBounds_toArray, List.set_cons_zero, List.set_cons_succ]
            refine .step (some 149) rfl rfl (by kernel_rfl) (Gives.pick (.tmp 136) (.tmp 148) (.const (.bool false)) rfl true (.bool (!false)) rfl rfl) ?_
            simp only [Act.put, List.setIfInBounds_toArray, List.set_cons_zero, List.set_cons_succ]
            refine .step (some 150) rfl rfl (by kernel_rfl) (Gives.pick (.tmp 133) (.const (.bool true)) (.tmp 149) rfl false (.bool (!false)) rfl rfl) ?_
            simp only [Act.put, List.setIfInBounds_toArray, List.set_cons_zero, List.set_cons_succ]
            exact .nil
          case hkc => kernel_rfl
          case hc =>
            intro Wq hb
            have HWQ := Lib.hid (HW1.out.trans (hb.mono HW1.out.size))
            clear hb hc3 hcx
            go_wp2_with fail
            go_ret
            exact ⟨by rw [HF0.out, HNO.out HMO.out]; rfl, HWQ.out⟩
        · skip
          have HMO := Lib.hid hmo
          clear hmo hall hb0 hw
          go_wp2_with fail
          refine wp_flat_none (aD := ?aDd) (S := fun w' => Below wr.heap.size wr w')
            (vs := [(0, .pointer (some ⟨w.heap.size, 3, none⟩)), (1, .slice (some ad) la ca), (2, .int .i64 (j : Int)), (3, .pointer (some (ad.add (j)))), (4, .string x), (5, .bool true), (6, .bool (!true)), (7, .bool (!true)), (8, .int .i64 (j : Int)), (9, .bool true), (10, .bool true), (11, .pointer (some ⟨w.heap.size, 3, none⟩)), (12, .slice (some ad) la ca), (13, .int .i64 (j : Int)), (14, .pointer (some (ad.add (j)))), (15, .string x), (16, .pointer (some ⟨w.heap.size, 3, none⟩)), (17, .slice (some ad) la ca), (18, .int .i64 (j : Int)), (19, .int .i64 ((j - 1 : Nat) : Int)), (20, .pointer (some (ad.add (j - 1)))), (21, .string y), (22, .bool (!true)), (23, .bool (!true)), (24, .bool (!true))]) (by kernel_rfl) ((Below.refl _ _).drew) (fun _ _ h k => S_trans h k) ?hDd ?hkd ?hd
          case hDd =>
            refine .step (some 126) rfl rfl (by kernel_rfl) (Gives.fieldAt 28 (.tmp 1) 3 rfl _ _ rfl (fun w' => fv_3 _ w')) ?_
            simp only [Act.put, List.setIfInBounds_toArray, List.set_cons_zero, List.set_cons_succ]
            refine .step (some 127) rfl rfl (by kernel_rfl) (Gives.load 24 (.tmp 126) rfl _ _ rfl (fun w' h => ld_strs ((h.cell (lt_of_cell hc3)).trans hc3))) ?_
            simp only [Act.put, List.setIfInBounds_toArray, List.set_cons_zero, List.set_cons_succ]
            refine .step (some 128) rfl rfl (by kernel_rfl) (Gives.move (x := .tmp 4) rfl rfl) ?_
            simp only [Act.put, List.setIfInBounds_toArray, List.set_cons_zero, List.set_cons_succ]
            refine .step (some 129) rfl rfl (by kernel_rfl) (Gives.indexAt 24 (.tmp 127) (.tmp 128) rfl _ _ _ rfl rfl (fun w' => ix_str ad la ca (j) hj w')) ?_
            simp only [Act.put, List.setIfInBounds_toArray, List.set_cons_zero, List.set_cons_succ]
            refine .step (some 130) rfl rfl (by kernel_rfl) (Gives.load 9 (.tmp 129) rfl _ _ rfl (fun w' h => ld_str ((h.cell (lt_of_cell hcx)).trans hcx))) ?_
            simp only [Act.put, List.setIfInBounds_toArray, List.set_cons_zero, List.set_cons_succ]
            refine .step (some 131) rfl rfl (by kernel_rfl) (Gives.call (args := [.string x]) rfl Tryz.func48 (by kernel_rfl) (by kernel_rfl) rfl (fun w' h => HNA.out w' h)) ?_
            simp only [Act.put, List.setIfInBounds_toArray, List.set_cons_zero, List.set_cons_succ]
            refine .step (some 132) rfl rfl (by kernel_rfl) (Gives.unop .not 4 (.tmp 131) rfl (.bool true) (.bool !true) rfl (fun w' => un_not true w')) ?_
            simp only [Act.put, List.setIfInBounds_toArray, List.set_cons_zero, List.set_cons_succ]
            refine .step (some 133) rfl rfl (by kernel_rfl) (Gives.move (x := .tmp 132) rfl rfl) ?_
            simp only [Act.put, List.setIfInBounds_toArray, List.set_cons_zero, List.set_cons_succ]
            refine .step (some 134) rfl rfl (by kernel_rfl) (Gives.move (x := .tmp 4) rfl rfl) ?_
            simp only [Act.put, List.setIfInBounds_toArray, List.set_cons_zero, List.set_cons_succ]
            refine .step (some 135) rfl rfl (by kernel_rfl) (Gives.binop .gtr 3 3 (.tmp 134) (.const (.int .i64 0)) rfl _ _ _ rfl rfl (fun w' => rfl) (fun w' => gt_r hpos w')) ?_
            simp only [Act.put, List.setIfInBounds_toArray, List.set_cons_zero, List.set_cons_succ]
            refine .step (some 136) rfl rfl (by kernel_rfl) (Gives.move (x := .tmp 135) rfl rfl) ?_
            simp only [Act.put, List.setIfInBounds_toArray, List.set_cons_zero, List.set_cons_succ]
            refine .step (some 137) rfl rfl (by kernel_rfl) (Gives.fieldAt 28 (.tmp 1) 3 rfl _ _ rfl (fun w' => fv_3 _ w')) ?_
            simp only [Act.put, List.setIfInBounds_toArray, List.set_cons_zero, List.set_cons_succ]
            refine .step (some 138) rfl rfl (by kernel_rfl) (Gives.load 24 (.tmp 137) rfl _ _ rfl (fun w' h => ld_strs ((h.cell (lt_of_cell hc3)).trans hc3))) ?_
            simp only [Act.put, List.setIfInBounds_toArray, List.set_cons_zero, List.set_cons_succ]
            refine .step (some 139) rfl rfl (by kernel_rfl) (Gives.move (x := .tmp 4) rfl rfl) ?_
            simp only [Act.put, List.setIfInBounds_toArray, List.set_cons_zero, List.set_cons_succ]
            refine .step (some 140) rfl rfl (by kernel_rfl) (Gives.indexAt 24 (.tmp 138) (.tmp 139) rfl _ _ _ rfl rfl (fun w' => ix_str ad la ca (j) hj w')) ?_
            simp only [Act.put, List.setIfInBounds_toArray, List.set_cons_zero, List.set_cons_succ]
            refine .step (some 141) rfl rfl (by kernel_rfl) (Gives.load 9 (.tmp 140) rfl _ _ rfl (fun w' h => ld_str ((h.cell (lt_of_cell hcx)).trans hcx))) ?_
            simp only [Act.put, List.setIfInBounds_toArray, List.set_cons_zero, List.set_cons_succ]
            refine .step (some 142) rfl rfl (by kernel_rfl) (Gives.fieldAt 28 (.tmp 1) 3 rfl _ _ rfl (fun w' => fv_3 _ w')) ?_
            simp only [Act.put, List.setIfInBounds_toArray, List.set_cons_zero, List.set_cons_succ]
            refine .step (some 143) rfl rfl (by kernel_rfl) (Gives.load 24 (.tmp 142) rfl _ _ rfl (fun w' h => ld_strs ((h.cell (lt_of_cell hc3)).trans hc3))) ?_
            simp only [Act.put, List.setIfInBounds_toArray, List.set_cons_zero, List.set_cons_succ]
            refine .step (some 144) rfl rfl (by kernel_rfl) (Gives.move (x := .tmp 4) rfl rfl) ?_
            simp only [Act.put, List.setIfInBounds_toArray, List.set_cons_zero, List.set_cons_succ]
            refine .step (some 145) rfl rfl (by kernel_rfl) (Gives.binop .sub 3 3 (.tmp 144) (.const (.int .i64 1)) rfl _ _ _ rfl rfl (fun w' => rfl) (fun w' => sub_r (by omega) (by omega) w')) ?_
            simp only [Act.put, List.setIfInBounds_toArray, List.set_cons_zero, List.set_cons_succ]
            refine .step (some 146) rfl rfl (by kernel_rfl) (Gives.indexAt 24 (.tmp 143) (.tmp 145) rfl _ _ _ rfl rfl (fun w' => ix_str ad la ca (j - 1) (by omega) w')) ?_
            simp only [Act.put, List.setIfInBounds_toArray, List.set_cons_zero, List.set_cons_succ]
            refine .step (some 147) rfl rfl (by kernel_rfl) (Gives.load 9 (.tmp 146) rfl _ _ rfl (fun w' h => ld_str ((h.cell (lt_of_cell hcy)).trans hcy))) ?_
            simp only [Act.put, List.setIfInBounds_toArray, List.set_cons_zero, List.set_cons_succ]
            refine .step (some 148) rfl rfl (by kernel_rfl) (Gives.binop .leq 9 9 (.tmp 141) (.tmp 147) rfl (.string x) (.string y) _ rfl rfl (fun w' => rfl) (fun w' => le_r _ _ hle w')) ?_
            simp only [Act.put, List.setIfInBounds_toArray, List.set_cons_zero, List.set_cons_succ]
            refine .step (some 149) rfl rfl (by kernel_rfl) (Gives.pick (.tmp 136) (.tmp 148) (.const (.bool false)) rfl true (.bool (!true)) rfl rfl) ?_
            simp only [Act.put, List.setIfInBounds_toArray, List.set_cons_zero, List.set_cons_succ]
            refine .step (some 150) rfl rfl (by kernel_rfl) (Gives.pick (.tmp 133) (.const (.bool true)) (.tmp 149) rfl false (.bool (!true)) rfl rfl) ?_
            simp only [Act.put, List.setIfInBounds_toArray, List.set_cons_zero, List.set_cons_succ]
            exact .nil
          case hkd => kernel_rfl
          case hd =>
            intro Wq hb
            have HWQ := Lib.hid (HW1.out.trans (hb.mono HW1.out.size))
            have HBQ := Lib.hid (HB1.out.belowAll hb)
            clear hb hc3 hcx
            go_wp2_with fail
            go_roundw
            case rel => exact ⟨j + 1, by omega, by go_num, HMO.out, HBQ.out, HWQ.out⟩
            case measure => simp [intOf] <;> omega
    · obtain rfl : la = j := by omega
      have HA := Lib.hid hall
      have HB4 := Lib.hid hb0
      have HW4 := Lib.hid hw
      clear hall hb0 hw
      have RES := Lib.hid (show (headV 5 0 ByteArray.empty names ids la && allN ps la) = allN ps la by rw [HF0.out, HA.out]; rfl)
      go_wp2_with fail
      go_loopw [5] (fun i wr => i = .int .i64 0 ∧ Row wr w.heap.size 28 [.int .i64 5, .int .i64 0, .string ByteArray.empty, .slice a la ca, .slice b 0 cb, .slice c la cc] ∧ Below w.heap.size w wr) (fun i _ => 0)
      case atStart => exact ⟨rfl, HB4.out, HW4.out⟩
      case round =>
        obtain ⟨rfl, hb0, hw⟩ := hrel
        have hc5 := hb0.cell (k := 4) (v := .slice b 0 cb) rfl
        have HB5 := Lib.hid hb0
        have HW5 := Lib.hid hw
        clear hb0 hw
        go_wp2_with fail
        go_loopw [7] (fun i wr => ∃ j : Nat, j ≤ la ∧ i = .int .i64 (j : Int) ∧ allN ps j = true ∧ Row wr w.heap.size 28 [.int .i64 5, .int .i64 0, .string ByteArray.empty, .slice a la ca, .slice b 0 cb, .slice c la cc] ∧ Below w.heap.size w wr) (fun i _ => la - (intOf i).toNat)
        case atStart => exact ⟨0, Nat.zero_le _, rfl, rfl, HB5.out, HW5.out⟩
        case round =>
          obtain ⟨p, hpn, rfl, hpall, hpb, hpw⟩ := hrel
          have bp0 : (0 : Int) ≤ (p : Int) := by omega
          have hpc := hpb.cell (k := 5) (v := .slice c la cc) rfl
          by_cases hp : p < la
          · have hpi : (p : Int) < (la : Int) := by omega
            obtain ⟨ad, hade, hlen, hcell⟩ := (H3.out.below hpw).at_ hp
            subst hade
            have hm := allN_more ps p
            rw [hpall, Bool.true_and] at hm
            have HM := Lib.hid hm
            have HNO := Lib.hid (fun h => allN_no (f := ps) (n := p + 1) (k := la) h (by omega))
            have HIX := Lib.hid (ix_v ad la cc p hp wr)
            have HC := Lib.hid hcell
            have HL := Lib.hid (v_len hlen)
            have HREC := Lib.hid (IH.out p hp wr hpw)
            have HPB := Lib.hid hpb
            have HPW := Lib.hid hpw
            clear hm hpall hcell hlen hpb hpw
            generalize ps p = bp at *
            cases bp
            · go_wp2_with (first
                | (refine wpList_indexAt rfl 26 (.tmp 188) (.tmp 189) rfl _ _ _ rfl rfl HIX.out ?_)
                | (refine wpList_load_at rfl 28 (.tmp 190) rfl (ad.add (p * 6)) rfl (css p) _ HC.out Tryz.underlying28 rfl HL.out ?_))
              refine HREC.out.mono ?_
              rintro e W1 ⟨rfl, hb⟩
              have HB := Lib.hid hb
              clear hb
              go_wp2_with fail
              go_ret
              exact ⟨by rw [RES.out, HNO.out HM.out]; rfl, HPW.out.trans (HB.out.mono HPW.out.size)⟩
            · go_wp2_with (first
                | (refine wpList_indexAt rfl 26 (.tmp 188) (.tmp 189) rfl _ _ _ rfl rfl HIX.out ?_)
                | (refine wpList_load_at rfl 28 (.tmp 190) rfl (ad.add (p * 6)) rfl (css p) _ HC.out Tryz.underlying28 rfl HL.out ?_))
              refine HREC.out.mono ?_
              rintro e W1 ⟨rfl, hb⟩
              have HB := Lib.hid hb
              clear hb
              go_wp2_with fail
              go_roundw
              case rel => exact ⟨p + 1, by omega, by go_num, HM.out, HPB.out.belowAll HB.out, HPW.out.trans (HB.out.mono HPW.out.size)⟩
              case measure => simp [intOf] <;> omega
          · obtain rfl : la = p := by omega
            have HA := Lib.hid hpall
            have HPW := Lib.hid hpw
            clear hpall hpw
            go_wp2_with fail
            go_ret
            exact ⟨by rw [RES.out, HA.out]; rfl, HPW.out⟩
end

end Go.Proofs.YtmiadkhfjkaidaaGreatDoor
