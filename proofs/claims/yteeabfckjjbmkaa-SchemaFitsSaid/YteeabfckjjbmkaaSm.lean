/- Whether two values are the same: the document. -/
import Derived.Test.YteeabfckjjbmkaaRf
namespace Go.Proofs.Yteeabfckjjbmkaa
set_option maxRecDepth 100000
set_option linter.unusedSimpArgs false
set_option linter.unusedVariables false
open Go.RowKit

def eqI (l m : List Int) : Bool := decide (l.length = m.length) && (List.range l.length).all fun i => decide (l.getD i 0 = m.getD i 0)
def eqM (l m : List Int) (n : Nat) : Bool := (List.range n).all fun i => decide (l.getD i 0 = m.getD i 0)
theorem eqM_more (l m : List Int) (n : Nat) : eqM l m (n + 1) = (eqM l m n && decide (l.getD n 0 = m.getD n 0)) := by
  unfold eqM
  rw [List.range_succ, List.all_append]
  simp only [List.all_cons, List.all_nil, Bool.and_true]
theorem eqM_no {l m : List Int} {n k : Nat} (h : eqM l m n = false) (hm : n ≤ k) : eqM l m k = false := by
  unfold eqM at *
  rw [← Bool.not_eq_true, List.all_eq_true] at *
  exact fun h' => h fun i hi => h' i (List.mem_range.2 (by have := List.mem_range.1 hi; omega))
theorem eqL_N {l m : List ByteArray} {n : Nat} (h : l.length = n) (k : m.length = n) : eqL l m = eqN l m n := by unfold eqL eqN; rw [h, k, decide_eq_true rfl, Bool.true_and]
theorem eqI_M {l m : List Int} {n : Nat} (h : l.length = n) (k : m.length = n) : eqI l m = eqM l m n := by unfold eqI eqM; rw [h, k, decide_eq_true rfl, Bool.true_and]
/-- Whether two values are the same. -/
def sameV : Vt → Vt → Bool
  | .mk k n s names ids len parts, .mk k' n' s' names' ids' len' parts' =>
    decide (k = k') && decide (n = n') && eqS s s' && eqL names names' && eqI ids ids' && decide (len = len') && (List.range len).all fun i => sameV (parts i) (parts' i)
  | _, _ => false
def sameS : St → St → Bool
  | .mk k names len parts, .mk k' names' len' parts' =>
    decide (k = k') && eqL names names' && decide (len = len') && (List.range len).all fun i => sameS (parts i) (parts' i)
  | _, _ => false
set_option maxHeartbeats 6400000 in
theorem rsameV_ref : ∀ (v v2 : Vt) (cs ds : List Value) (w : World), VAt w v cs → VAt w v2 ds →
    Calls Try.prog 21 #[.agg cs.toArray, .agg ds.toArray] w fun e w' => e = .returned (.bool (sameV v v2)) ∧ Below w.heap.size w w' := by
  intro v
  induction v with
  | nul => intro v2 cs ds w h; cases h
  | mk k n s names ids len parts ih =>
    intro v2 cs ds w h h2
    cases h with
    | mk css hk hn hs h1 h1c hsz hi1 hi1c hi h3 h3c hp =>
    rename_i a b c la ca lb cb cc
    cases h2 with
    | mk dss hk2 hn2 hs2 w1 w1c wsz wi1 wi1c wi w3 w3c wp =>
    rename_i k2 n2 s2 names2 ids2 len2 parts2 a2 b2 c2 la2 ca2 lb2 cb2 cc2
    have hfv : sameV (.mk k n s names ids len parts) (.mk k2 n2 s2 names2 ids2 len2 parts2) = (decide (k = k2) && decide (n = n2) && eqS s s2 && eqL names names2 && eqI ids ids2 && decide (len = len2) && allN (fun i => sameV (parts i) (parts2 i)) len) := by rw [sameV]; rfl
    generalize sameV (.mk k n s names ids len parts) (.mk k2 n2 s2 names2 ids2 len2 parts2) = res at *
    have hlc : (len : Int) ≤ 9223372036854775807 := by have := h3c.1; have := h3c.2; unfold maxLen at this; omega
    have hla : (la : Int) ≤ 9223372036854775807 := by have := h1c.1; have := h1c.2; unfold maxLen at this; omega
    have hlb : (lb : Int) ≤ 9223372036854775807 := by have := hi1c.1; have := hi1c.2; unfold maxLen at this; omega
    have hl1 := Strs.len h1
    have hl2 := Strs.len w1
    have hm1 := Nums.len hi1
    have hm2 := Nums.len wi1
    have H1 := Lib.hid h1
    have H3 := Lib.hid h3
    have HP := Lib.hid hp
    have IH := Lib.hid ih
    have W1 := Lib.hid w1
    have W3 := Lib.hid w3
    have WP := Lib.hid wp
    have I1 := Lib.hid hi1
    have J1 := Lib.hid wi1
    clear h1 h3 hp ih w1 w3 wp hk hk2 h1c hsz w1c wsz h3c w3c hi1 wi1 hn hs hi1c hi hn2 hs2 wi1c wi
    have HW := Lib.hid (Below.alloc2 w (.cells #[.int .i64 k, .int .i64 n, .string s, .slice a la ca, .slice b lb cb, .slice c len cc] 26) (.cells #[.int .i64 k2, .int .i64 n2, .string s2, .slice a2 la2 ca2, .slice b2 lb2 cb2, .slice c2 len2 cc2] 26))
    have HB0 := Lib.hid ((Row.new w [.int .i64 k, .int .i64 n, .string s, .slice a la ca, .slice b lb cb, .slice c len cc] 26).alloc (.cells #[.int .i64 k2, .int .i64 n2, .string s2, .slice a2 la2 ca2, .slice b2 lb2 cb2, .slice c2 len2 cc2] 26))
    have HB1 := Lib.hid (Row.new1 w (.cells #[.int .i64 k, .int .i64 n, .string s, .slice a la ca, .slice b lb cb, .slice c len cc] 26) [.int .i64 k2, .int .i64 n2, .string s2, .slice a2 la2 ca2, .slice b2 lb2 cb2, .slice c2 len2 cc2] 26)
    by_cases ck : k = k2
    rotate_left
    · have g : (k != k2) = true := bne_iff_ne.2 ck
      have HF := Lib.hid (show res = false by rw [hfv]; simp [ck])
      clear hfv hl1 hl2 hm1 hm2 HB0 HB1 H1 H3 HP IH W1 W3 WP I1 J1
      go_enter Try.func21, Try.ntmps21
      go_wp2_with fail
      go_ret
      exact ⟨by rw [HF.out]; rfl, HW.out⟩
    subst ck
    have gck : (k != k) = false := bne_self_eq_false _
    by_cases cn : n = n2
    rotate_left
    · have g : (n != n2) = true := bne_iff_ne.2 cn
      have HF := Lib.hid (show res = false by rw [hfv]; simp [cn])
      clear hfv hl1 hl2 hm1 hm2 HB0 HB1 H1 H3 HP IH W1 W3 WP I1 J1
      go_enter Try.func21, Try.ntmps21
      go_wp2_with fail
      go_ret
      exact ⟨by rw [HF.out]; rfl, HW.out⟩
    subst cn
    have gcn : (n != n) = false := bne_self_eq_false _
    by_cases cs0 : s.toList = s2.toList
    rotate_left
    · have g : (s.toList != s2.toList) = true := bne_iff_ne.2 cs0
      have ge : (s.toList == s2.toList) = false := beq_eq_false_iff_ne.2 cs0
      have g9 : eqS s s2 = false := ge
      have HF := Lib.hid (show res = false by rw [hfv]; simp [g9])
      clear hfv hl1 hl2 hm1 hm2 HB0 HB1 H1 H3 HP IH W1 W3 WP I1 J1
      go_enter Try.func21, Try.ntmps21
      go_wp2_with fail
      go_ret
      exact ⟨by rw [HF.out]; rfl, HW.out⟩
    have gs : (s.toList != s2.toList) = false := bne_eq_false_iff_eq.2 cs0
    have gs1 : (s.toList == s2.toList) = true := beq_iff_eq.2 cs0
    have gs9 : eqS s s2 = true := gs1
    by_cases cla : la = la2
    rotate_left
    · have g : ((la : Int) != (la2 : Int)) = true := bne_iff_ne.2 (by omega)
      have HF := Lib.hid (show res = false by rw [hfv]; simp [eqL, hl1, hl2, cla])
      clear hfv hl1 hl2 hm1 hm2 HB0 HB1 H1 H3 HP IH W1 W3 WP I1 J1
      go_enter Try.func21, Try.ntmps21
      go_wp2_with fail
      go_ret
      exact ⟨by rw [HF.out]; rfl, HW.out⟩
    subst cla
    have gcla : ((la : Int) != (la : Int)) = false := bne_self_eq_false _
    by_cases clb : lb = lb2
    rotate_left
    · have g : ((lb : Int) != (lb2 : Int)) = true := bne_iff_ne.2 (by omega)
      have HF := Lib.hid (show res = false by rw [hfv]; simp [eqI, hm1, hm2, clb])
      clear hfv hl1 hl2 hm1 hm2 HB0 HB1 H1 H3 HP IH W1 W3 WP I1 J1
      go_enter Try.func21, Try.ntmps21
      go_wp2_with fail
      go_ret
      exact ⟨by rw [HF.out]; rfl, HW.out⟩
    subst clb
    have gclb : ((lb : Int) != (lb : Int)) = false := bne_self_eq_false _
    by_cases cle : len = len2
    rotate_left
    · have g : ((len : Int) != (len2 : Int)) = true := bne_iff_ne.2 (by omega)
      have HF := Lib.hid (show res = false by rw [hfv]; simp [cle])
      clear hfv hl1 hl2 hm1 hm2 HB0 HB1 H1 H3 HP IH W1 W3 WP I1 J1
      go_enter Try.func21, Try.ntmps21
      go_wp2_with fail
      go_ret
      exact ⟨by rw [HF.out]; rfl, HW.out⟩
    subst cle
    have gcle : ((len : Int) != (len : Int)) = false := bne_self_eq_false _
    have HF := Lib.hid (show res = (eqN names names2 la && (eqM ids ids2 lb && allN (fun i => sameV (parts i) (parts2 i)) len)) by rw [hfv, eqL_N hl1 hl2, eqI_M hm1 hm2]; simp [gs9, Bool.and_assoc])
    clear hfv hl1 hl2 hm1 hm2 gs9
    go_enter Try.func21, Try.ntmps21
    go_wp2_with fail
    go_loopw [5] (fun i wr => ∃ j : Nat, j ≤ la ∧ i = .int .i64 (j : Int) ∧ eqN names names2 j = true ∧ Row wr w.heap.size 26 [.int .i64 k, .int .i64 n, .string s, .slice a la ca, .slice b lb cb, .slice c len cc] ∧ Row wr (w.heap.size + 1) 26 [.int .i64 k, .int .i64 n, .string s2, .slice a2 la ca2, .slice b2 lb cb2, .slice c2 len cc2] ∧ Below w.heap.size w wr) (fun i _ => la - (intOf i).toNat)
    case atStart => exact ⟨0, Nat.zero_le _, rfl, rfl, HB0.out, HB1.out, HW.out⟩
    case round =>
      obtain ⟨j, hjn, rfl, hall, hb0, hb1, hw⟩ := hrel
      have bj0 : (0 : Int) ≤ (j : Int) := by omega
      have hc0 := hb0.cell (k := 3) (v := .slice a la ca) rfl
      have hc1 := hb1.cell (k := 3) (v := .slice a2 la ca2) rfl
      by_cases hj : j < la
      · have hji : (j : Int) < (la : Int) := by omega
        obtain ⟨ad, hade, hcx⟩ := Strs.at_ (H1.out.belowAll hw) hj
        obtain ⟨ae, haee, hcy⟩ := Strs.at_ (W1.out.belowAll hw) hj
        subst hade haee
        have hm := eqN_more names names2 j
        rw [hall, Bool.true_and] at hm
        have HNO := Lib.hid (fun h => eqN_no (l := names) (m := names2) (n := j + 1) (k := la) h (show j + 1 ≤ la by omega))
        have HB0R := Lib.hid (hb0.belowAll (Below.refl _ _).drew)
        have HB1R := Lib.hid (hb1.belowAll (Below.refl _ _).drew)
        have HWR := Lib.hid hw.drew
        clear hall hb0 hb1 hw
        generalize nth names j = x at *
        generalize nth names2 j = y at *
        by_cases he : x.toList = y.toList
        · have heb : (x.toList == y.toList) = true := beq_iff_eq.2 he
          have hec : (x.toList != y.toList) = false := bne_eq_false_iff_eq.2 he
          rw [show eqS x y = true from heb] at hm
          have HM := Lib.hid hm
          clear hm
          go_wp2_with fail
          go_region
          go_wp2_with fail
          go_roundw
          case rel => exact ⟨j + 1, by omega, by go_num, HM.out, HB0R.out, HB1R.out, HWR.out⟩
          case measure => simp [intOf] <;> omega
        · have heb : (x.toList == y.toList) = false := beq_eq_false_iff_ne.2 he
          have hec : (x.toList != y.toList) = true := bne_iff_ne.2 he
          rw [show eqS x y = false from heb] at hm
          have HM := Lib.hid hm
          clear hm
          go_wp2_with fail
          go_region
          go_wp2_with fail
          go_ret
          exact ⟨by rw [HF.out, HNO.out HM.out]; rfl, HWR.out⟩
      · obtain rfl : la = j := by omega
        have HALLn := Lib.hid hall
        have HB0n := Lib.hid hb0
        have HB1n := Lib.hid hb1
        have HWn := Lib.hid hw
        clear hall hb0 hb1 hw
        go_wp2_with fail
        go_loopw [6] (fun i wr => ∃ j : Nat, j ≤ lb ∧ i = .int .i64 (j : Int) ∧ eqM ids ids2 j = true ∧ Row wr w.heap.size 26 [.int .i64 k, .int .i64 n, .string s, .slice a la ca, .slice b lb cb, .slice c len cc] ∧ Row wr (w.heap.size + 1) 26 [.int .i64 k, .int .i64 n, .string s2, .slice a2 la ca2, .slice b2 lb cb2, .slice c2 len cc2] ∧ Below w.heap.size w wr) (fun i _ => lb - (intOf i).toNat)
        case atStart => exact ⟨0, Nat.zero_le _, rfl, rfl, HB0n.out, HB1n.out, HWn.out⟩
        case round =>
          obtain ⟨j, hjn, rfl, hall, hb0, hb1, hw⟩ := hrel
          have bj0 : (0 : Int) ≤ (j : Int) := by omega
          have hc0 := hb0.cell (k := 4) (v := .slice b lb cb) rfl
          have hc1 := hb1.cell (k := 4) (v := .slice b2 lb cb2) rfl
          by_cases hj : j < lb
          · have hji : (j : Int) < (lb : Int) := by omega
            obtain ⟨ad, hade, hcx⟩ := Nums.at_ (I1.out.belowAll hw) hj
            obtain ⟨ae, haee, hcy⟩ := Nums.at_ (J1.out.belowAll hw) hj
            subst hade haee
            have hm := eqM_more ids ids2 j
            rw [hall, Bool.true_and] at hm
            have HNO := Lib.hid (fun h => eqM_no (l := ids) (m := ids2) (n := j + 1) (k := lb) h (show j + 1 ≤ lb by omega))
            have HB0R := Lib.hid (hb0.belowAll (Below.refl _ _).drew)
            have HB1R := Lib.hid (hb1.belowAll (Below.refl _ _).drew)
            have HWR := Lib.hid hw.drew
            clear hall hb0 hb1 hw
            generalize ids.getD j 0 = x at *
            generalize ids2.getD j 0 = y at *
            by_cases he : x = y
            · have hec : (x != y) = false := bne_eq_false_iff_eq.2 he
              rw [decide_eq_true he] at hm
              clear he
              have HM := Lib.hid hm
              clear hm
              go_wp2_with fail
              go_region
              go_wp2_with fail
              go_roundw
              case rel => exact ⟨j + 1, by omega, by go_num, HM.out, HB0R.out, HB1R.out, HWR.out⟩
              case measure => simp [intOf] <;> omega
            · have hec : (x != y) = true := bne_iff_ne.2 he
              rw [decide_eq_false he] at hm
              have HM := Lib.hid hm
              clear hm
              go_wp2_with fail
              go_region
              go_wp2_with fail
              go_ret
              exact ⟨by rw [HF.out, HALLn.out, Bool.true_and, HNO.out HM.out]; rfl, HWR.out⟩
          · obtain rfl : lb = j := by omega
            have HALLi := Lib.hid hall
            have HB0i := Lib.hid hb0
            have HB1i := Lib.hid hb1
            have HWi := Lib.hid hw
            clear hall hb0 hb1 hw
            go_wp2_with fail
            go_loopw [7] (fun i wr => ∃ j : Nat, j ≤ len ∧ i = .int .i64 (j : Int) ∧ allN (fun i => sameV (parts i) (parts2 i)) j = true ∧ Row wr w.heap.size 26 [.int .i64 k, .int .i64 n, .string s, .slice a la ca, .slice b lb cb, .slice c len cc] ∧ Row wr (w.heap.size + 1) 26 [.int .i64 k, .int .i64 n, .string s2, .slice a2 la ca2, .slice b2 lb cb2, .slice c2 len cc2] ∧ Below w.heap.size w wr) (fun i _ => len - (intOf i).toNat)
            case atStart => exact ⟨0, Nat.zero_le _, rfl, rfl, HB0i.out, HB1i.out, HWi.out⟩
            case round =>
              obtain ⟨j, hjn, rfl, hall, hb0, hb1, hw⟩ := hrel
              have bj0 : (0 : Int) ≤ (j : Int) := by omega
              have hq5 := hb0.cell (k := 5) (v := .slice c len cc) rfl
              have hq2 := hb1.cell (k := 5) (v := .slice c2 len cc2) rfl
              by_cases hj : j < len
              · have hji : (j : Int) < (len : Int) := by omega
                obtain ⟨af, hafe, hlen, hcell⟩ := (H3.out.below hw).at_ hj
                obtain ⟨ag, hage, hlen2, hcell2⟩ := (W3.out.below hw).at_ hj
                subst hafe hage
                have hm : allN (fun i => sameV (parts i) (parts2 i)) (j + 1) = sameV (parts j) (parts2 j) := by rw [allN_more, hall, Bool.true_and]
                have HNO := Lib.hid (fun h => allN_no (f := (fun i => sameV (parts i) (parts2 i))) (n := j + 1) (k := len) h (by omega))
                have HCE := Lib.hid hcell
                have HCF := Lib.hid hcell2
                have HL := Lib.hid (v_len hlen)
                have HM := Lib.hid (v_len hlen2)
                have HREC := Lib.hid (fun wx (hx : Below wr.heap.size wr wx) => IH.out j (parts2 j) (css j) (dss j) wx (((HP.out j hj).later hw).later hx) (((WP.out j hj).later hw).later hx))
                have HB0R := Lib.hid hb0
                have HB1R := Lib.hid hb1
                have HWR := Lib.hid hw
                clear hall hlen hlen2 hcell hcell2 hb0 hb1 hw
                generalize sameV (parts j) (parts2 j) = bj at *
                go_wp2_with fail
                refine wp_flat_none (aD := ?aDq) (S := fun w' => Below wr.heap.size wr w')
                  (vs := [(0, .pointer (some ⟨w.heap.size, 5, none⟩)), (1, .slice (some af) len cc), (2, .int .i64 (j : Int)), (3, .pointer (some (af.add (j * 6)))), (4, .agg (css j).toArray), (5, .pointer (some ⟨w.heap.size + 1, 5, none⟩)), (6, .slice (some ag) len cc2), (7, .int .i64 (j : Int)), (8, .pointer (some (ag.add (j * 6)))), (9, .agg (dss j).toArray), (10, .bool bj), (11, .bool (!bj))]) (by kernel_rfl) ((Below.refl _ _).drew) (fun _ _ h k => S_trans h k) ?hDq ?hkq ?hq
                case hDq =>
                  refine .step (some 97) rfl rfl (by kernel_rfl) (Gives.fieldAt 26 (.tmp 2) 5 rfl _ _ rfl (fun w' => fv_5 _ w')) ?_
                  simp only [Act.put, List.setIfInBounds_toArray, List.set_cons_zero, List.set_cons_succ]
                  refine .step (some 98) rfl rfl (by kernel_rfl) (Gives.load 24 (.tmp 97) rfl _ _ rfl (fun w' h => ld_vals ((h.cell (lt_of_cell hq5)).trans hq5))) ?_
                  simp only [Act.put, List.setIfInBounds_toArray, List.set_cons_zero, List.set_cons_succ]
                  refine .step (some 99) rfl rfl (by kernel_rfl) (Gives.move (x := .tmp 7) rfl rfl) ?_
                  simp only [Act.put, List.setIfInBounds_toArray, List.set_cons_zero, List.set_cons_succ]
                  refine .step (some 100) rfl rfl (by kernel_rfl) (Gives.indexAt 24 (.tmp 98) (.tmp 99) rfl _ _ _ rfl rfl (fun w' => ix_v af len cc j hj w')) ?_
                  simp only [Act.put, List.setIfInBounds_toArray, List.set_cons_zero, List.set_cons_succ]
                  refine .step (some 101) rfl rfl (by kernel_rfl) (Gives.load_at 26 (.tmp 100) rfl (af.add (j * 6)) rfl (css j) _ (fun w' h i u hu => (h.cell (lt_of_cell (HCE.out i u hu))).trans (HCE.out i u hu)) Try.underlying26 rfl HL.out) ?_
                  simp only [Act.put, List.setIfInBounds_toArray, List.set_cons_zero, List.set_cons_succ]
                  refine .step (some 102) rfl rfl (by kernel_rfl) (Gives.fieldAt 26 (.tmp 3) 5 rfl _ _ rfl (fun w' => fv_5 _ w')) ?_
                  simp only [Act.put, List.setIfInBounds_toArray, List.set_cons_zero, List.set_cons_succ]
                  refine .step (some 103) rfl rfl (by kernel_rfl) (Gives.load 24 (.tmp 102) rfl _ _ rfl (fun w' h => ld_vals ((h.cell (lt_of_cell hq2)).trans hq2))) ?_
                  simp only [Act.put, List.setIfInBounds_toArray, List.set_cons_zero, List.set_cons_succ]
                  refine .step (some 104) rfl rfl (by kernel_rfl) (Gives.move (x := .tmp 7) rfl rfl) ?_
                  simp only [Act.put, List.setIfInBounds_toArray, List.set_cons_zero, List.set_cons_succ]
                  refine .step (some 105) rfl rfl (by kernel_rfl) (Gives.indexAt 24 (.tmp 103) (.tmp 104) rfl _ _ _ rfl rfl (fun w' => ix_v ag len cc2 j hj w')) ?_
                  simp only [Act.put, List.setIfInBounds_toArray, List.set_cons_zero, List.set_cons_succ]
                  refine .step (some 106) rfl rfl (by kernel_rfl) (Gives.load_at 26 (.tmp 105) rfl (ag.add (j * 6)) rfl (dss j) _ (fun w' h i u hu => (h.cell (lt_of_cell (HCF.out i u hu))).trans (HCF.out i u hu)) Try.underlying26 rfl HM.out) ?_
                  simp only [Act.put, List.setIfInBounds_toArray, List.set_cons_zero, List.set_cons_succ]
                  refine .step (some 107) rfl rfl (by kernel_rfl) (Gives.call (args := [.agg (css j).toArray, .agg (dss j).toArray]) rfl Try.func21 (by kernel_rfl) (by kernel_rfl) rfl (fun w' h => HREC.out w' h)) ?_
                  simp only [Act.put, List.setIfInBounds_toArray, List.set_cons_zero, List.set_cons_succ]
                  refine .step (some 108) rfl rfl (by kernel_rfl) (Gives.unop .not 4 (.tmp 107) rfl (.bool bj) (.bool !bj) rfl (fun w' => un_not bj w')) ?_
                  simp only [Act.put, List.setIfInBounds_toArray, List.set_cons_zero, List.set_cons_succ]
                  exact .nil
                case hkq => kernel_rfl
                case hq =>
                  intro Wq hb
                  have HWQ := Lib.hid (HWR.out.trans (hb.mono HWR.out.size))
                  have HB0Q := Lib.hid (HB0R.out.belowAll hb)
                  have HB1Q := Lib.hid (HB1R.out.belowAll hb)
                  have HMM := Lib.hid hm
                  clear hb hq5 hq2 hm
                  cases bj
                  · go_wp2_with fail
                    go_ret
                    exact ⟨by rw [HF.out, HALLn.out, Bool.true_and, HALLi.out, HNO.out HMM.out]; rfl, HWQ.out⟩
                  · go_wp2_with fail
                    go_roundw
                    case rel => exact ⟨j + 1, by omega, by go_num, HMM.out, HB0Q.out, HB1Q.out, HWQ.out⟩
                    case measure => simp [intOf] <;> omega
              · obtain rfl : len = j := by omega
                have HA := Lib.hid hall
                have HWR := Lib.hid hw
                clear hall hb0 hb1 hw
                go_wp2_with fail
                go_ret
                exact ⟨by rw [HF.out, HALLn.out, Bool.true_and, HALLi.out, HA.out]; rfl, HWR.out⟩

end Go.Proofs.Yteeabfckjjbmkaa
