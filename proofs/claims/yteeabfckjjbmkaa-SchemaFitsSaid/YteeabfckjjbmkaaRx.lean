/- Whether a value is sound: the document (kind 6). -/
import Derived.Test.YteeabfckjjbmkaaRw
namespace Go.Proofs.Yteeabfckjjbmkaa
set_option maxRecDepth 100000
set_option linter.unusedSimpArgs false
set_option linter.unusedVariables false
open Go.RowKit
set_option maxHeartbeats 3200000 in
theorem rs_6 (n : Int) (s : ByteArray) (names : List ByteArray) (ids : List Int) (a b c : Option Addr) (la ca lb cb len cc : Nat) (css : Nat → List Value) (ps : Nat → Bool) (hs : s.size ≤ maxLen) (hss : ∀ x ∈ names, x.size ≤ maxLen) (hla : (la : Int) ≤ 9223372036854775807) (hlb : (lb : Int) ≤ 9223372036854775807) (hlc : (len : Int) ≤ 9223372036854775807) (w : World) (h1 : Strs w a la names) (h2 : Nums w b lb ids) (h3 : Parts w 6 c len css)
    (ih : ∀ j, j < len → ∀ w', Below w.heap.size w w' → Calls Try.prog 67 #[.agg (css j).toArray] w' fun e w'' => e = .returned (.bool (ps j)) ∧ Below w'.heap.size w' w'') :
    Calls Try.prog 67 #[.agg #[.int .i64 6, .int .i64 n, .string s, .slice a la ca, .slice b lb cb, .slice c len cc]] w fun e w' => e = .returned (.bool (headV 6 n s names ids len && allN ps len)) ∧ Below w.heap.size w w' := by
  have hl := Strs.len h1
  have hl2 := Nums.len h2
  have HB0 := Lib.hid (Row.new w [.int .i64 6, .int .i64 n, .string s, .slice a la ca, .slice b lb cb, .slice c len cc] 26)
  have HW := Lib.hid (Below.alloc1 w (.cells #[.int .i64 6, .int .i64 n, .string s, .slice a la ca, .slice b lb cb, .slice c len cc] 26))
  have H1 := Lib.hid h1
  have H2 := Lib.hid h2
  have H3 := Lib.hid h3
  have IH := Lib.hid ih
  have HSS := Lib.hid hss
  clear h1 h2 h3 ih hss
  by_cases hn0 : n = 0
  rotate_left
  · have gn : (n != 0) = true := bne_iff_ne.2 hn0
    have HF := Lib.hid (show (headV 6 n s names ids len && allN ps len) = false by unfold headV; simp [hl, hl2, sz0, hn0])
    clear hl hl2 H1 H2 H3 IH HSS HB0
    go_enter Try.func67, Try.ntmps67
    go_wp2_with fail
    go_ret
    exact ⟨by rw [HF.out]; rfl, HW.out⟩
  subst hn0
  by_cases hs0 : s = ByteArray.empty
  rotate_left
  · have gs0 : ¬ s.toList = [] := fun h => hs0 ((toL_nil s).1 h)
    have gs1 : (s.toList == []) = false := beq_eq_false_iff_ne.2 gs0
    have gs2 : (s.toList != []) = true := bne_iff_ne.2 gs0
    have gs4 : ¬ s.size = 0 := fun h => hs0 (sz_nil h)
    have HF := Lib.hid (show (headV 6 0 s names ids len && allN ps len) = false by unfold headV; simp [hl, hl2, sz0, gs4])
    clear hl hl2 H1 H2 H3 IH HSS HB0
    go_enter Try.func67, Try.ntmps67
    go_wp2_with fail
    go_ret
    exact ⟨by rw [HF.out]; rfl, HW.out⟩
  subst hs0
  by_cases hla0 : la = 0
  rotate_left
  · have g1 : (la : Int) > 0 := by omega
    have g2 : (0 : Int) < (la : Int) := by omega
    have g3 : 0 < la := by omega
    have HF := Lib.hid (show (headV 6 0 ByteArray.empty names ids len && allN ps len) = false by unfold headV; simp [hl, hl2, sz0, hla0])
    clear hl hl2 H1 H2 H3 IH HSS HB0
    go_enter Try.func67, Try.ntmps67
    go_wp2_with fail
    go_ret
    exact ⟨by rw [HF.out]; rfl, HW.out⟩
  subst hla0
  by_cases hm : lb ≤ 12
  rotate_left
  · have g1 : (lb : Int) > 12 := by omega
    have g2 : (12 : Int) < (lb : Int) := by omega
    have HF := Lib.hid (show (headV 6 0 ByteArray.empty names ids len && allN ps len) = false by unfold headV; simp [hl, hl2, sz0, hm])
    clear hl hl2 H1 H2 H3 IH HSS HB0
    go_enter Try.func67, Try.ntmps67
    go_wp2_with fail
    go_ret
    exact ⟨by rw [HF.out]; rfl, HW.out⟩
  have gm1 : ¬ (lb : Int) > 12 := by omega
  have gm2 : (lb : Int) ≤ 12 := by omega
  by_cases hll : lb = len
  rotate_left
  · have g1 : ((len : Int) != (lb : Int)) = true := bne_iff_ne.2 (by omega)
    have hll2 : ¬ len = lb := by omega
    have HF := Lib.hid (show (headV 6 0 ByteArray.empty names ids len && allN ps len) = false by unfold headV; simp [hl, hl2, sz0, hll2])
    clear hl hl2 H1 H2 H3 IH HSS HB0
    go_enter Try.func67, Try.ntmps67
    go_wp2_with fail
    go_ret
    exact ⟨by rw [HF.out]; rfl, HW.out⟩
  subst hll
  have HF0 := Lib.hid (show (headV 6 0 ByteArray.empty names ids lb && allN ps lb) = (idn ids lb && allN ps lb) by have e := ids_idn ids; rw [hl2] at e; unfold headV; simp [hl, hl2, sz0, hm, e])
  clear hl hl2 H1
  go_enter Try.func67, Try.ntmps67
  go_wp2_with fail
  go_loopw [4] (fun i wr => i = .int .i64 0 ∧ Row wr w.heap.size 26 [.int .i64 6, .int .i64 0, .string ByteArray.empty, .slice a 0 ca, .slice b lb cb, .slice c lb cc] ∧ Below w.heap.size w wr) (fun i _ => 0)
  case atStart => exact ⟨rfl, HB0.out, HW.out⟩
  case round =>
    obtain ⟨rfl, hb0, hw⟩ := hrel
    have hc4 := hb0.cell (k := 3) (v := .slice a 0 ca) rfl
    have HB4 := Lib.hid hb0
    have HW4 := Lib.hid hw
    clear hb0 hw
    go_wp2_with fail
    go_loopw [5] (fun i wr => ∃ j : Nat, j ≤ lb ∧ i = .int .i64 (j : Int) ∧ idn ids j = true ∧ Row wr w.heap.size 26 [.int .i64 6, .int .i64 0, .string ByteArray.empty, .slice a 0 ca, .slice b lb cb, .slice c lb cc] ∧ Below w.heap.size w wr) (fun i _ => lb - (intOf i).toNat)
    case atStart => exact ⟨0, Nat.zero_le _, rfl, rfl, HB4.out, HW4.out⟩
    case round =>
      obtain ⟨j, hjn, rfl, hall, hb0, hw⟩ := hrel
      have bj0 : (0 : Int) ≤ (j : Int) := by omega
      have hc4 := hb0.cell (k := 4) (v := .slice b lb cb) rfl
      by_cases hj : j < lb
      · have hji : (j : Int) < (lb : Int) := by omega
        have hmo := idn_more ids j
        rw [hall, Bool.true_and] at hmo
        have HMO := Lib.hid hmo
        have HNO := Lib.hid (fun h => idn_no (l := ids) (n := j + 1) (m := lb) h (by omega))
        have HB1 := Lib.hid hb0
        have HW1 := Lib.hid hw
        clear hall hmo hb0 hw
        obtain ⟨x, hx⟩ : ∃ x, ids.getD j 0 = x := ⟨_, rfl⟩
        rw [hx] at HMO
        have HX := Lib.hid hx
        clear hx
        go_wp2_with fail
        go_loopw [6] (fun i wr => ∃ q : Nat, q ≤ j ∧ i = .int .i64 (q : Int) ∧ allN (fun q => decide (x ≠ ids.getD q 0)) q = true ∧ Row wr w.heap.size 26 [.int .i64 6, .int .i64 0, .string ByteArray.empty, .slice a 0 ca, .slice b lb cb, .slice c lb cc] ∧ Below w.heap.size w wr) (fun i _ => j - (intOf i).toNat)
        case atStart => exact ⟨0, Nat.zero_le _, rfl, rfl, HB1.out, HW1.out⟩
        case round =>
          obtain ⟨q, hqn, rfl, hqall, hqb, hqw⟩ := hrel
          have bq0 : (0 : Int) ≤ (q : Int) := by omega
          obtain ⟨af, haf, hc'⟩ := Nums.at_ (H2.out.belowAll hqw) hj
          subst haf
          rw [HX.out] at hc'
          have hq4 := hqb.cell (k := 4) (v := .slice (some af) lb cb) rfl
          by_cases hq : q < j
          · have hqi : (q : Int) < (j : Int) := by omega
            have hqi2 : (q : Int) < (lb : Int) := by omega
            obtain ⟨ae, hae, hd⟩ := Nums.at_ (H2.out.belowAll hqw) (show q < lb by omega)
            cases hae
            have hmi := allN_more (fun q => decide (x ≠ ids.getD q 0)) q
            rw [hqall, Bool.true_and] at hmi
            have HNI := Lib.hid (fun h => allN_no (f := fun q => decide (x ≠ ids.getD q 0)) (n := q + 1) (k := j) h (by omega))
            have HQB := Lib.hid hqb
            have HQW := Lib.hid hqw
            clear hqall hqb hqw
            generalize ids.getD q 0 = y at *
            by_cases he : x = y
            · have heb : (x == y) = true := beq_iff_eq.2 he
              rw [decide_eq_false (show ¬ (x ≠ y) from fun h => h he)] at hmi
              have HMI := Lib.hid hmi
              clear hmi he
              go_wp2_with fail
              go_region
              go_wp2_with fail
              go_ret
              exact ⟨by rw [HF0.out, HNO.out (by rw [HMO.out, show ((List.range j).all fun q => decide (x ≠ ids.getD q 0)) = false from HNI.out HMI.out, Bool.and_false])]; rfl, HQW.out.drew⟩
            · have heb : (x == y) = false := beq_eq_false_iff_ne.2 he
              rw [decide_eq_true (show x ≠ y from he)] at hmi
              have HMI := Lib.hid hmi
              clear hmi
              go_wp2_with fail
              go_region
              go_wp2_with fail
              go_roundw
              case rel => exact ⟨q + 1, by omega, by go_num, HMI.out, HQB.out.belowAll (Below.refl _ _).drew, HQW.out.drew⟩
              case measure => simp [intOf] <;> omega
          · obtain rfl : q = j := by omega
            have HQA := Lib.hid hqall
            have HQB := Lib.hid hqb
            have HQW := Lib.hid hqw
            clear hqall hqb hqw
            by_cases hz : x = 0
            · have heb : (x == 0) = true := beq_iff_eq.2 hz
              have HZ := Lib.hid hz
              clear hz
              go_wp2_with fail
              go_ret
              exact ⟨by rw [HF0.out, HNO.out (by rw [HMO.out, decide_eq_false (show ¬ (x ≠ 0) from fun h => h HZ.out), Bool.false_and])]; rfl, HQW.out⟩
            · have heb : (x == 0) = false := beq_eq_false_iff_ne.2 hz
              have HZ := Lib.hid hz
              clear hz
              go_wp2_with fail
              go_roundw
              case rel => exact ⟨q + 1, by omega, by go_num, by rw [HMO.out, decide_eq_true (show x ≠ 0 from HZ.out), Bool.true_and]; exact HQA.out, HQB.out, HQW.out⟩
              case measure => simp [intOf] <;> omega
      · obtain rfl : lb = j := by omega
        have RES := Lib.hid (show (headV 6 0 ByteArray.empty names ids lb && allN ps lb) = allN ps lb by rw [HF0.out, hall]; rfl)
        have HB4 := Lib.hid hb0
        have HW4 := Lib.hid hw
        clear hall hb0 hw
        go_wp2_with fail
        go_loopw [7] (fun i wr => ∃ j : Nat, j ≤ lb ∧ i = .int .i64 (j : Int) ∧ allN ps j = true ∧ Row wr w.heap.size 26 [.int .i64 6, .int .i64 0, .string ByteArray.empty, .slice a 0 ca, .slice b lb cb, .slice c lb cc] ∧ Below w.heap.size w wr) (fun i _ => lb - (intOf i).toNat)
        case atStart => exact ⟨0, Nat.zero_le _, rfl, rfl, HB4.out, HW4.out⟩
        case round =>
          obtain ⟨p, hpn, rfl, hpall, hpb, hpw⟩ := hrel
          have bp0 : (0 : Int) ≤ (p : Int) := by omega
          have hpc := hpb.cell (k := 5) (v := .slice c lb cc) rfl
          by_cases hp : p < lb
          · have hpi : (p : Int) < (lb : Int) := by omega
            obtain ⟨ad, hade, hlen, hcell⟩ := (H3.out.below hpw).at_ hp
            subst hade
            have hm := allN_more ps p
            rw [hpall, Bool.true_and] at hm
            have HM := Lib.hid hm
            have HNO := Lib.hid (fun h => allN_no (f := ps) (n := p + 1) (k := lb) h (by omega))
            have HIX := Lib.hid (ix_v ad lb cc p hp wr)
            have HC := Lib.hid hcell
            have HL := Lib.hid (v_len hlen)
            have HREC := Lib.hid (IH.out p hp wr hpw)
            have HPB := Lib.hid hpb
            have HPW := Lib.hid hpw
            clear hm hpall hcell hlen hpb hpw
            generalize ps p = bp at *
            cases bp
            · go_wp2_with (first
                | (refine wpList_indexAt rfl 24 (.tmp 188) (.tmp 189) rfl _ _ _ rfl rfl HIX.out ?_)
                | (refine wpList_load_at rfl 26 (.tmp 190) rfl (ad.add (p * 6)) rfl (css p) _ HC.out Try.underlying26 rfl HL.out ?_))
              refine HREC.out.mono ?_
              rintro e W1 ⟨rfl, hb⟩
              have HB := Lib.hid hb
              clear hb
              go_wp2_with fail
              go_ret
              exact ⟨by rw [RES.out, HNO.out HM.out]; rfl, HPW.out.trans (HB.out.mono HPW.out.size)⟩
            · go_wp2_with (first
                | (refine wpList_indexAt rfl 24 (.tmp 188) (.tmp 189) rfl _ _ _ rfl rfl HIX.out ?_)
                | (refine wpList_load_at rfl 26 (.tmp 190) rfl (ad.add (p * 6)) rfl (css p) _ HC.out Try.underlying26 rfl HL.out ?_))
              refine HREC.out.mono ?_
              rintro e W1 ⟨rfl, hb⟩
              have HB := Lib.hid hb
              clear hb
              go_wp2_with fail
              go_roundw
              case rel => exact ⟨p + 1, by omega, by go_num, HM.out, HPB.out.belowAll HB.out, HPW.out.trans (HB.out.mono HPW.out.size)⟩
              case measure => simp [intOf] <;> omega
          · obtain rfl : lb = p := by omega
            have HA := Lib.hid hpall
            have HPW := Lib.hid hpw
            clear hpall hpw
            go_wp2_with fail
            go_ret
            exact ⟨by rw [RES.out, HA.out]; rfl, HPW.out⟩

end Go.Proofs.Yteeabfckjjbmkaa
