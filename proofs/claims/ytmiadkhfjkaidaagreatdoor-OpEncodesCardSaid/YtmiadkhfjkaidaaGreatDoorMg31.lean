/- Whether a value is sound: the document (kind 6). Whether a schema is right: the document. Whether a schema is right: the document, all kinds. The document's Right of values, and Fits. Which operations are right: by the document. -/
import Derived.Test.YtmiadkhfjkaidaaGreatDoorMg30
import Derived.Test.YtmiadkhfjkaidaaGreatDoorMg15
import Derived.Test.YtmiadkhfjkaidaaGreatDoorMg25
namespace Go.Proofs.YtmiadkhfjkaidaaGreatDoor
section
set_option maxRecDepth 100000
set_option linter.unusedSimpArgs false
set_option linter.unusedVariables false
open Go.RowKit
set_option maxHeartbeats 3200000 in
theorem rs_6 (n : Int) (s : ByteArray) (names : List ByteArray) (ids : List Int) (a b c : Option Addr) (la ca lb cb len cc : Nat) (css : Nat → List Value) (ps : Nat → Bool) (hs : s.size ≤ maxLen) (hss : ∀ x ∈ names, x.size ≤ maxLen) (hla : (la : Int) ≤ 9223372036854775807) (hlb : (lb : Int) ≤ 9223372036854775807) (hlc : (len : Int) ≤ 9223372036854775807) (w : World) (h1 : Strs w a la names) (h2 : Nums w b lb ids) (h3 : Parts w 6 c len css)
    (ih : ∀ j, j < len → ∀ w', Below w.heap.size w w' → Calls Tryz.prog 50 #[.agg (css j).toArray] w' fun e w'' => e = .returned (.bool (ps j)) ∧ Below w'.heap.size w' w'') :
    Calls Tryz.prog 50 #[.agg #[.int .i64 6, .int .i64 n, .string s, .slice a la ca, .slice b lb cb, .slice c len cc]] w fun e w' => e = .returned (.bool (headV 6 n s names ids len && allN ps len)) ∧ Below w.heap.size w w' := by
  have hl := Strs.len h1
  have hl2 := Nums.len h2
  have HB0 := Lib.hid (Row.new w [.int .i64 6, .int .i64 n, .string s, .slice a la ca, .slice b lb cb, .slice c len cc] 28)
  have HW := Lib.hid (Below.alloc1 w (.cells #[.int .i64 6, .int .i64 n, .string s, .slice a la ca, .slice b lb cb, .slice c len cc] 28))
  have H1 := Lib.hid h1
  have H2 := Lib.hid h2
  have H3 := Lib.hid h3
  have IH := Lib.hid ih
  have HSS := Lib.hid hss
  clear h1 h2 h3 ih hss
  by_cases hn0 : n = 0
  rotate_left
  · have gn : (n != 0) = true := bne_iff_ne.2 hn0
    have HF := Lib.hid (show (headV 6 n s names ids len && allN ps len) = false by unfold headV; simp [hl, hl2, sz0, hn0])
    clear hl hl2 H1 H2 H3 IH HSS HB0
    go_enter Tryz.func50, Tryz.ntmps50
    go_wp2_with fail
    go_ret
    exact ⟨by rw [HF.out]; rfl, HW.out⟩
  subst hn0
  by_cases hs0 : s = ByteArray.empty
  rotate_left
  · have gs0 : ¬ s.toList = [] := fun h => hs0 ((toL_nil s).1 h)
    have gs1 : (s.toList == []) = false := beq_eq_false_iff_ne.2 gs0
    have gs2 : (s.toList != []) = true := bne_iff_ne.2 gs0
    have gs4 : ¬ s.size = 0 := fun h => hs0 (sz_nil h)
    have HF := Lib.hid (show (headV 6 0 s names ids len && allN ps len) = false by unfold headV; simp [hl, hl2, sz0, gs4])
    clear hl hl2 H1 H2 H3 IH HSS HB0
    go_enter Tryz.func50, Tryz.ntmps50
    go_wp2_with fail
    go_ret
    exact ⟨by rw [HF.out]; rfl, HW.out⟩
  subst hs0
  by_cases hla0 : la = 0
  rotate_left
  · have g1 : (la : Int) > 0 := by omega
    have g2 : (0 : Int) < (la : Int) := by omega
    have g3 : 0 < la := by omega
    have HF := Lib.hid (show (headV 6 0 ByteArray.empty names ids len && allN ps len) = false by unfold headV; simp [hl, hl2, sz0, hla0])
    clear hl hl2 H1 H2 H3 IH HSS HB0
    go_enter Tryz.func50, Tryz.ntmps50
    go_wp2_with fail
    go_ret
    exact ⟨by rw [HF.out]; rfl, HW.out⟩
  subst hla0
  by_cases hm : lb ≤ 12
  rotate_left
  · have g1 : (lb : Int) > 12 := by omega
    have g2 : (12 : Int) < (lb : Int) := by omega
    have HF := Lib.hid (show (headV 6 0 ByteArray.empty names ids len && allN ps len) = false by unfold headV; simp [hl, hl2, sz0, hm])
    clear hl hl2 H1 H2 H3 IH HSS HB0
    go_enter Tryz.func50, Tryz.ntmps50
    go_wp2_with fail
    go_ret
    exact ⟨by rw [HF.out]; rfl, HW.out⟩
  have gm1 : ¬ (lb : Int) > 12 := by omega
  have gm2 : (lb : Int) ≤ 12 := by omega
  by_cases hll : lb = len
  rotate_left
  · have g1 : ((len : Int) != (lb : Int)) = true := bne_iff_ne.2 (by omega)
    have hll2 : ¬ len = lb := by omega
    have HF := Lib.hid (show (headV 6 0 ByteArray.empty names ids len && allN ps len) = false by unfold headV; simp [hl, hl2, sz0, hll2])
    clear hl hl2 H1 H2 H3 IH HSS HB0
    go_enter Tryz.func50, Tryz.ntmps50
    go_wp2_with fail
    go_ret
    exact ⟨by rw [HF.out]; rfl, HW.out⟩
  subst hll
  have HF0 := Lib.hid (show (headV 6 0 ByteArray.empty names ids lb && allN ps lb) = (idn ids lb && allN ps lb) by have e := ids_idn ids; rw [hl2] at e; unfold headV; simp [hl, hl2, sz0, hm, e])
  clear hl hl2 H1
  go_enter Tryz.func50, Tryz.ntmps50
  go_wp2_with fail
  go_loopw [4] (fun i wr => i = .int .i64 0 ∧ Row wr w.heap.size 28 [.int .i64 6, .int .i64 0, .string ByteArray.empty, .slice a 0 ca, .slice b lb cb, .slice c lb cc] ∧ Below w.heap.size w wr) (fun i _ => 0)
  case atStart => exact ⟨rfl, HB0.out, HW.out⟩
  case round =>
    obtain ⟨rfl, hb0, hw⟩ := hrel
    have hc4 := hb0.cell (k := 3) (v := .slice a 0 ca) rfl
    have HB4 := Lib.hid hb0
    have HW4 := Lib.hid hw
    clear hb0 hw
    go_wp2_with fail
    go_loopw [5] (fun i wr => ∃ j : Nat, j ≤ lb ∧ i = .int .i64 (j : Int) ∧ idn ids j = true ∧ Row wr w.heap.size 28 [.int .i64 6, .int .i64 0, .string ByteArray.empty, .slice a 0 ca, .slice b lb cb, .slice c lb cc] ∧ Below w.heap.size w wr) (fun i _ => lb - (intOf i).toNat)
    case atStart => exact ⟨0, Nat.zero_le _, rfl, rfl, HB4.out, HW4.out⟩
    case round =>
      obtain ⟨j, hjn, rfl, hall, hb0, hw⟩ := hrel
      have bj0 : (0 : Int) ≤ (j : Int) := by omega
      have hc4 := hb0.cell (k := 4) (v := .slice b lb cb) rfl
      by_cases hj : j < lb
      · have hji : (j : Int) < (lb : Int) := by omega
        have hmo := idn_more ids j
        rw [hall, Bool.true_and] at hmo
        have HMO := Lib.hid hmo
        have HNO := Lib.hid (fun h => idn_no (l := ids) (n := j + 1) (m := lb) h (by omega))
        have HB1 := Lib.hid hb0
        have HW1 := Lib.hid hw
        clear hall hmo hb0 hw
        obtain ⟨x, hx⟩ : ∃ x, ids.getD j 0 = x := ⟨_, rfl⟩
        rw [hx] at HMO
        have HX := Lib.hid hx
        clear hx
        go_wp2_with fail
        go_loopw [6] (fun i wr => ∃ q : Nat, q ≤ j ∧ i = .int .i64 (q : Int) ∧ allN (fun q => decide (x ≠ ids.getD q 0)) q = true ∧ Row wr w.heap.size 28 [.int .i64 6, .int .i64 0, .string ByteArray.empty, .slice a 0 ca, .slice b lb cb, .slice c lb cc] ∧ Below w.heap.size w wr) (fun i _ => j - (intOf i).toNat)
        case atStart => exact ⟨0, Nat.zero_le _, rfl, rfl, HB1.out, HW1.out⟩
        case round =>
          obtain ⟨q, hqn, rfl, hqall, hqb, hqw⟩ := hrel
          have bq0 : (0 : Int) ≤ (q : Int) := by omega
          obtain ⟨af, haf, hc'⟩ := Nums.at_ (H2.out.belowAll hqw) hj
          subst haf
          rw [HX.out] at hc'
          have hq4 := hqb.cell (k := 4) (v := .slice (some af) lb cb) rfl
          by_cases hq : q < j
          · have hqi : (q : Int) < (j : Int) := by omega
            have hqi2 : (q : Int) < (lb : Int) := by omega
            obtain ⟨ae, hae, hd⟩ := Nums.at_ (H2.out.belowAll hqw) (show q < lb by omega)
            cases hae
            have hmi := allN_more (fun q => decide (x ≠ ids.getD q 0)) q
            rw [hqall, Bool.true_and] at hmi
            have HNI := Lib.hid (fun h => allN_no (f := fun q => decide (x ≠ ids.getD q 0)) (n := q + 1) (k := j) h (by omega))
            have HQB := Lib.hid hqb
            have HQW := Lib.hid hqw
            clear hqall hqb hqw
            generalize ids.getD q 0 = y at *
            by_cases he : x = y
            · have heb : (x == y) = true := beq_iff_eq.2 he
              rw [decide_eq_false (show ¬ (x ≠ y) from fun h => h he)] at hmi
              have HMI := Lib.hid hmi
              clear hmi he
              go_wp2_with fail
              go_region
              go_wp2_with fail
              go_ret
              exact ⟨by rw [HF0.out, HNO.out (by rw [HMO.out, show ((List.range j).all fun q => decide (x ≠ ids.getD q 0)) = false from HNI.out HMI.out, Bool.and_false])]; rfl, HQW.out.drew⟩
            · have heb : (x == y) = false := beq_eq_false_iff_ne.2 he
              rw [decide_eq_true (show x ≠ y from he)] at hmi
              have HMI := Lib.hid hmi
              clear hmi
              go_wp2_with fail
              go_region
              go_wp2_with fail
              go_roundw
              case rel => exact ⟨q + 1, by omega, by go_num, HMI.out, HQB.out.belowAll (Below.refl _ _).drew, HQW.out.drew⟩
              case measure => simp [intOf] <;> omega
          · obtain rfl : q = j := by omega
            have HQA := Lib.hid hqall
            have HQB := Lib.hid hqb
            have HQW := Lib.hid hqw
            clear hqall hqb hqw
            by_cases hz : x = 0
            · have heb : (x == 0) = true := beq_iff_eq.2 hz
              have HZ := Lib.hid hz
              clear hz
              go_wp2_with fail
              go_ret
              exact ⟨by rw [HF0.out, HNO.out (by rw [HMO.out, decide_eq_false (show ¬ (x ≠ 0) from fun h => h HZ.out), Bool.false_and])]; rfl, HQW.out⟩
            · have heb : (x == 0) = false := beq_eq_false_iff_ne.2 hz
              have HZ := Lib.hid hz
              clear hz
              go_wp2_with fail
              go_roundw
              case rel => exact ⟨q + 1, by omega, by go_num, by rw [HMO.out, decide_eq_true (show x ≠ 0 from HZ.out), Bool.true_and]; exact HQA.out, HQB.out, HQW.out⟩
              case measure => simp [intOf] <;> omega
      · obtain rfl : lb = j := by omega
        have RES := Lib.hid (show (headV 6 0 ByteArray.empty names ids lb && allN ps lb) = allN ps lb by rw [HF0.out, hall]; rfl)
        have HB4 := Lib.hid hb0
        have HW4 := Lib.hid hw
        clear hall hb0 hw
        go_wp2_with fail
        go_loopw [7] (fun i wr => ∃ j : Nat, j ≤ lb ∧ i = .int .i64 (j : Int) ∧ allN ps j = true ∧ Row wr w.heap.size 28 [.int .i64 6, .int .i64 0, .string ByteArray.empty, .slice a 0 ca, .slice b lb cb, .slice c lb cc] ∧ Below w.heap.size w wr) (fun i _ => lb - (intOf i).toNat)
        case atStart => exact ⟨0, Nat.zero_le _, rfl, rfl, HB4.out, HW4.out⟩
        case round =>
          obtain ⟨p, hpn, rfl, hpall, hpb, hpw⟩ := hrel
          have bp0 : (0 : Int) ≤ (p : Int) := by omega
          have hpc := hpb.cell (k := 5) (v := .slice c lb cc) rfl
          by_cases hp : p < lb
          · have hpi : (p : Int) < (lb : Int) := by omega
            obtain ⟨ad, hade, hlen, hcell⟩ := (H3.out.below hpw).at_ hp
            subst hade
            have hm := allN_more ps p
            rw [hpall, Bool.true_and] at hm
            have HM := Lib.hid hm
            have HNO := Lib.hid (fun h => allN_no (f := ps) (n := p + 1) (k := lb) h (by omega))
            have HIX := Lib.hid (ix_v ad lb cc p hp wr)
            have HC := Lib.hid hcell
            have HL := Lib.hid (v_len hlen)
            have HREC := Lib.hid (IH.out p hp wr hpw)
            have HPB := Lib.hid hpb
            have HPW := Lib.hid hpw
            clear hm hpall hcell hlen hpb hpw
            generalize ps p = bp at *
            cases bp
            · go_wp2_with (first
                | (refine wpList_indexAt rfl 26 (.tmp 188) (.tmp 189) rfl _ _ _ rfl rfl HIX.out ?_)
                | (refine wpList_load_at rfl 28 (.tmp 190) rfl (ad.add (p * 6)) rfl (css p) _ HC.out Tryz.underlying28 rfl HL.out ?_))
              refine HREC.out.mono ?_
              rintro e W1 ⟨rfl, hb⟩
              have HB := Lib.hid hb
              clear hb
              go_wp2_with fail
              go_ret
              exact ⟨by rw [RES.out, HNO.out HM.out]; rfl, HPW.out.trans (HB.out.mono HPW.out.size)⟩
            · go_wp2_with (first
                | (refine wpList_indexAt rfl 26 (.tmp 188) (.tmp 189) rfl _ _ _ rfl rfl HIX.out ?_)
                | (refine wpList_load_at rfl 28 (.tmp 190) rfl (ad.add (p * 6)) rfl (css p) _ HC.out Tryz.underlying28 rfl HL.out ?_))
              refine HREC.out.mono ?_
              rintro e W1 ⟨rfl, hb⟩
              have HB := Lib.hid hb
              clear hb
              go_wp2_with fail
              go_roundw
              case rel => exact ⟨p + 1, by omega, by go_num, HM.out, HPB.out.belowAll HB.out, HPW.out.trans (HB.out.mono HPW.out.size)⟩
              case measure => simp [intOf] <;> omega
          · obtain rfl : lb = p := by omega
            have HA := Lib.hid hpall
            have HPW := Lib.hid hpw
            clear hpall hpw
            go_wp2_with fail
            go_ret
            exact ⟨by rw [RES.out, HA.out]; rfl, HPW.out⟩
end

section
set_option maxRecDepth 100000
set_option linter.unusedSimpArgs false
set_option linter.unusedVariables false
open Go.RowKit

/-- The first words are names, and none is bad beside one before it. -/
def okW (bad : ByteArray → ByteArray → Bool) (l : List ByteArray) (n : Nat) : Bool := (List.range n).all fun i => nameB (nth l i) && allN (fun j => !bad (nth l i) (nth l j)) i
theorem okW_more (bad : ByteArray → ByteArray → Bool) (l : List ByteArray) (n : Nat) : okW bad l (n + 1) = (okW bad l n && (nameB (nth l n) && allN (fun j => !bad (nth l n) (nth l j)) n)) := by
  unfold okW
  rw [List.range_succ, List.all_append]
  simp only [List.all_cons, List.all_nil, Bool.and_true]
theorem okW_no {bad : ByteArray → ByteArray → Bool} {l : List ByteArray} {n m : Nat} (h : okW bad l n = false) (hm : n ≤ m) : okW bad l m = false := by
  unfold okW at *
  rw [← Bool.not_eq_true, List.all_eq_true] at *
  exact fun h' => h fun i hi => h' i (List.mem_range.2 (by have := List.mem_range.1 hi; omega))
theorem ok_4 (l : List ByteArray) : wordsB l = okW (fun x y => eqS x y) l l.length := rfl
theorem ok_5 (l : List ByteArray) : riseB l = okW (fun x y => eqS x y || ltS x y) l l.length := by rw [← pair_rise]; rfl
end

section
set_option maxRecDepth 100000
set_option linter.unusedSimpArgs false
set_option linter.unusedVariables false
open Go.RowKit
theorem St.sound_eq {k : Int} {words : List ByteArray} {len : Nat} {parts : Nat → St} : (St.mk k words len parts).sound = (headS k words len && allN (fun i => (parts i).sound) len) := by rw [St.sound]; rfl
end

section
set_option maxRecDepth 100000
set_option linter.unusedSimpArgs false
set_option linter.unusedVariables false
open Go.RowKit

theorem Vt.sound_eq {k n : Int} {s : ByteArray} {names : List ByteArray} {ids : List Int} {len : Nat} {parts : Nat → Vt} : (Vt.mk k n s names ids len parts).sound = (headV k n s names ids len && allN (fun i => (parts i).sound) len) := by rw [Vt.sound]; rfl
theorem rsound_any : ∀ (v : Vt) (cs : List Value) (w : World), VAt w v cs →
    Calls Tryz.prog 50 #[.agg cs.toArray] w fun e w' => e = .returned (.bool v.sound) ∧ Below w.heap.size w w' := by
  intro v
  induction v with
  | nul => intro cs w h; cases h
  | mk k n s names ids len parts ih =>
    intro cs w h
    cases h with
    | mk css hk hn hs h1 h1c hss h2 h2c hi h3 h3c hp =>
    rename_i a b c la ca lb cb cc
    have hla : (la : Int) ≤ 9223372036854775807 := by have := h1c.1; have := h1c.2; unfold maxLen at this; omega
    have hlb : (lb : Int) ≤ 9223372036854775807 := by have := h2c.1; have := h2c.2; unfold maxLen at this; omega
    have hlc : (len : Int) ≤ 9223372036854775807 := by have := h3c.1; have := h3c.2; unfold maxLen at this; omega
    have hih : ∀ j, j < len → ∀ w', Below w.heap.size w w' → Calls Tryz.prog 50 #[.agg (css j).toArray] w' fun e w'' => e = .returned (.bool ((parts j).sound)) ∧ Below w'.heap.size w' w'' := fun j hj w' hb => ih j (css j) w' ((hp j hj).later hb)
    rw [Vt.sound_eq]
    by_cases c1 : k = 1
    · subst c1; exact rs_1 n s names ids a b c la ca lb cb len cc css _ hs hss hla hlb hlc w h1 h2 h3 hih
    by_cases c2 : k = 2
    · subst c2; exact rs_2 n s names ids a b c la ca lb cb len cc css _ hs hss hla hlb hlc w h1 h2 h3 hih
    by_cases c3 : k = 3
    · subst c3; exact rs_3 n s names ids a b c la ca lb cb len cc css _ hs hss hla hlb hlc w h1 h2 h3 hih
    by_cases c4 : k = 4
    · subst c4; exact rs_4 n s names ids a b c la ca lb cb len cc css _ hs hss hla hlb hlc w h1 h2 h3 hih
    by_cases c5 : k = 5
    · subst c5; exact rs_5 n s names ids a b c la ca lb cb len cc css _ hs hss hla hlb hlc w h1 h2 h3 hih
    by_cases c6 : k = 6
    · subst c6; exact rs_6 n s names ids a b c la ca lb cb len cc css _ hs hss hla hlb hlc w h1 h2 h3 hih
    have h0 := rs_0 k n s a b c la ca lb cb len cc c1 c2 c3 c4 c5 c6 w
    rw [show headV k n s names ids len = false by unfold headV; rw [if_neg c1, if_neg c2, if_neg c3, if_neg c4, if_neg c5, if_neg c6], Bool.false_and]
    exact h0
theorem rright_ref (v : Vt) (cs : List Value) (w : World) (h : VAt w v cs) (hd : v.depth ≤ 1000) :
    Calls Tryz.prog 21 #[.agg cs.toArray] w fun e w' => e = .returned (.bool (v.rightAt 1)) ∧ Below w.heap.size w w' := by
  have hw := Below.alloc1 w (.cells cs.toArray 28)
  have HD := Lib.hid (rdepth_ref v cs _ (h.later hw) hd)
  have HS := Lib.hid (fun wx hx => rsound_any v cs wx (h.later hx))
  have HW := Lib.hid hw
  have HB0 := Lib.hid (Row.new w cs 28)
  have HI := Lib.hid (v_info h.length)
  have HR := Lib.hid (show v.rightAt 1 = (decide (v.depth ≤ 5) && v.sound) by unfold Vt.rightAt; congr 1; rw [decide_eq_decide]; omega)
  clear hw h
  generalize v.depth = d at *
  generalize v.sound = bs at *
  by_cases h5 : d ≤ 5
  · have g5 : (d : Int) ≤ 5 := by omega
    go_enter Tryz.func21, Tryz.ntmps21
    go_wp2_with (refine wpList_load_row rfl 28 (.tmp 1) rfl w.heap.size rfl 28 _ (0, 0) _ HB0.out Tryz.underlying28 rfl HI.out ?_)
    refine HD.out.mono ?_
    rintro e W1 ⟨rfl, hb⟩
    have HW1 := Lib.hid (HW.out.trans (hb.mono HW.out.size))
    have HB1 := Lib.hid (HB0.out.belowAll hb)
    clear hb
    go_wp2_with (refine wpList_load_guarded (by rfl) 28 (.tmp 1) rfl w.heap.size rfl 28 _ HB1.out Tryz.underlying28 rfl HI.out ?_)
    refine (HS.out _ HW1.out).mono ?_
    rintro e W2 ⟨rfl, hb⟩
    have HB := Lib.hid hb
    clear hb
    go_wp2_with fail
    go_ret
    exact ⟨by rw [HR.out, decide_eq_true h5]; rfl, HW1.out.trans (HB.out.mono HW1.out.size)⟩
  · have g5 : ¬ (d : Int) ≤ 5 := by omega
    go_enter Tryz.func21, Tryz.ntmps21
    go_wp2_with (refine wpList_load_row rfl 28 (.tmp 1) rfl w.heap.size rfl 28 _ (0, 0) _ HB0.out Tryz.underlying28 rfl HI.out ?_)
    refine HD.out.mono ?_
    rintro e W1 ⟨rfl, hb⟩
    have HB := Lib.hid hb
    clear hb
    go_wp2_with fail
    go_ret
    exact ⟨by rw [HR.out, decide_eq_false h5]; rfl, HW.out.trans (HB.out.mono HW.out.size)⟩
end

section
set_option maxRecDepth 100000
set_option linter.unusedSimpArgs false
set_option linter.unusedVariables false
open Go.RowKit

theorem valued_any (k : Int) (hk : k = 1 ∨ k = 2 ∨ k = 3 ∨ k = 4) (w : World) : Calls Tryz.prog 20 #[.int .i64 k] w fun e w' => e = .returned (.bool (decide (k ≤ 2))) ∧ w' = w := by
  rcases hk with rfl | rfl | rfl | rfl
  all_goals
    go_enter Tryz.func20, Tryz.ntmps20
    go_wp2_with fail
    go_ret
    exact ⟨rfl, rfl⟩

set_option maxHeartbeats 6400000 in
theorem oref_1 (p : Option Addr) (n c : Nat) (id af : Int) (vk vn : Int) (vs : ByteArray) (va : Option Addr) (vla vca : Nat) (vb : Option Addr) (vlb vcb : Nat) (vc : Option Addr) (vlc vcc : Nat) (v : Vt) (rp : Bool) (w : World) (hp : ∀ wx, Below w.heap.size w wx → Calls Tryz.prog 19 #[.slice p n c] wx fun e w' => e = .returned (.bool rp) ∧ Below wx.heap.size wx w')
    (hV : ∀ wx, Below w.heap.size w wx → Calls Tryz.prog 21 #[.agg (vC vk vn vs va vla vca vb vlb vcb vc vlc vcc).toArray] wx fun e w' => e = .returned (.bool (v.rightAt 1)) ∧ Below wx.heap.size wx w') :
    Calls Tryz.prog 7 #[.agg (oC 1 p n c id af vk vn vs va vla vca vb vlb vcb vc vlc vcc).toArray] w fun e w' => e = .returned (.bool (rp && ((id == 0 && af == 0) && v.rightAt 1))) ∧ Below w.heap.size w w' := by
  have HB := Lib.hid (below_newO w (.cells (oC 1 p n c id af vk vn vs va vla vca vb vlb vcb vc vlc vcc).toArray 30))
  have HR := Lib.hid (Row.new w (oC 1 p n c id af vk vn vs va vla vca vb vlb vcb vc vlc vcc) 30)
  have c0 := HR.out.cell (k := 0) rfl
  have c1 := HR.out.cell (k := 1) rfl
  have HP := Lib.hid (hp _ HB.out)
  have HVV := Lib.hid hV
  clear hp hV
  cases rp
  · go_enter Tryz.func7, Tryz.ntmps7
    go_wp2_with fail
    refine HP.out.mono ?_
    rintro e W1 ⟨rfl, hb⟩
    have HB1 := Lib.hid (HB.out.trans (hb.mono HB.out.size))
    clear hb
    go_wp2_with fail
    go_ret
    exact ⟨rfl, HB1.out⟩
  · obtain ⟨b, hbv⟩ : ∃ b, v.rightAt 1 = b := ⟨_, rfl⟩
    rw [hbv] at HVV
    have HBV := Lib.hid hbv
    clear hbv
    go_enter Tryz.func7, Tryz.ntmps7
    go_wp2_with fail
    refine HP.out.mono ?_
    rintro e W1 ⟨rfl, hb⟩
    have HB1 := Lib.hid (HB.out.trans (hb.mono HB.out.size))
    have HR1 := Lib.hid (HR.out.belowAll hb)
    clear hb c0 c1
    have c0 := HR1.out.cell (k := 0) rfl
    have c2 := HR1.out.cell (k := 2) rfl
    have c3 := HR1.out.cell (k := 3) rfl
    have c4 := HR1.out.cell (k := 4) rfl
    have c5 := HR1.out.cell (k := 5) rfl
    have c6 := HR1.out.cell (k := 6) rfl
    have c7 := HR1.out.cell (k := 7) rfl
    have c8 := HR1.out.cell (k := 8) rfl
    have c9 := HR1.out.cell (k := 9) rfl
    go_wp2_with fail
    refine (valued_any 1 (by decide) _).mono ?_
    rintro e wv ⟨rfl, rfl⟩
    go_wp2_with fail
    refine (HVV.out _ HB1.out).mono ?_
    rintro e W2 ⟨rfl, hb⟩
    have HB2 := Lib.hid (HB1.out.trans (hb.mono HB1.out.size))
    have HR2 := Lib.hid (HR1.out.belowAll hb)
    clear hb c0 c2 c3 c4 c5 c6 c7 c8 c9
    have c0 := HR2.out.cell (k := 0) rfl
    have c2 := HR2.out.cell (k := 2) rfl
    have c3 := HR2.out.cell (k := 3) rfl
    cases b
    · go_wp2_with fail
      go_ret
      exact ⟨by rw [HBV.out]; simp, HB2.out⟩
    · go_wp2_with fail
      refine (valued_any 1 (by decide) _).mono ?_
      rintro e wv ⟨rfl, rfl⟩
      by_cases i0 : id = 0
      · subst i0
        by_cases f0 : af = 0
        · subst f0
          go_wp2_with fail
          go_ret
          exact ⟨by rw [HBV.out]; simp, HB2.out⟩
        · have h0 : (af == 0) = false := beq_eq_false_iff_ne.2 f0
          go_wp2_with fail
          go_ret
          exact ⟨by rw [HBV.out]; simp [*], HB2.out⟩
      · have g0 : (id == 0) = false := beq_eq_false_iff_ne.2 i0
        go_wp2_with fail
        go_ret
        exact ⟨by rw [HBV.out]; simp [*], HB2.out⟩

set_option maxHeartbeats 6400000 in
theorem oref_2 (p : Option Addr) (n c : Nat) (id af : Int) (vk vn : Int) (vs : ByteArray) (va : Option Addr) (vla vca : Nat) (vb : Option Addr) (vlb vcb : Nat) (vc : Option Addr) (vlc vcc : Nat) (v : Vt) (rp : Bool) (w : World) (hp : ∀ wx, Below w.heap.size w wx → Calls Tryz.prog 19 #[.slice p n c] wx fun e w' => e = .returned (.bool rp) ∧ Below wx.heap.size wx w')
    (hV : ∀ wx, Below w.heap.size w wx → Calls Tryz.prog 21 #[.agg (vC vk vn vs va vla vca vb vlb vcb vc vlc vcc).toArray] wx fun e w' => e = .returned (.bool (v.rightAt 1)) ∧ Below wx.heap.size wx w') :
    Calls Tryz.prog 7 #[.agg (oC 2 p n c id af vk vn vs va vla vca vb vlb vcb vc vlc vcc).toArray] w fun e w' => e = .returned (.bool (rp && ((id != 0 && id != af) && v.rightAt 1))) ∧ Below w.heap.size w w' := by
  have HB := Lib.hid (below_newO w (.cells (oC 2 p n c id af vk vn vs va vla vca vb vlb vcb vc vlc vcc).toArray 30))
  have HR := Lib.hid (Row.new w (oC 2 p n c id af vk vn vs va vla vca vb vlb vcb vc vlc vcc) 30)
  have c0 := HR.out.cell (k := 0) rfl
  have c1 := HR.out.cell (k := 1) rfl
  have HP := Lib.hid (hp _ HB.out)
  have HVV := Lib.hid hV
  clear hp hV
  cases rp
  · go_enter Tryz.func7, Tryz.ntmps7
    go_wp2_with fail
    refine HP.out.mono ?_
    rintro e W1 ⟨rfl, hb⟩
    have HB1 := Lib.hid (HB.out.trans (hb.mono HB.out.size))
    clear hb
    go_wp2_with fail
    go_ret
    exact ⟨rfl, HB1.out⟩
  · obtain ⟨b, hbv⟩ : ∃ b, v.rightAt 1 = b := ⟨_, rfl⟩
    rw [hbv] at HVV
    have HBV := Lib.hid hbv
    clear hbv
    go_enter Tryz.func7, Tryz.ntmps7
    go_wp2_with fail
    refine HP.out.mono ?_
    rintro e W1 ⟨rfl, hb⟩
    have HB1 := Lib.hid (HB.out.trans (hb.mono HB.out.size))
    have HR1 := Lib.hid (HR.out.belowAll hb)
    clear hb c0 c1
    have c0 := HR1.out.cell (k := 0) rfl
    have c2 := HR1.out.cell (k := 2) rfl
    have c3 := HR1.out.cell (k := 3) rfl
    have c4 := HR1.out.cell (k := 4) rfl
    have c5 := HR1.out.cell (k := 5) rfl
    have c6 := HR1.out.cell (k := 6) rfl
    have c7 := HR1.out.cell (k := 7) rfl
    have c8 := HR1.out.cell (k := 8) rfl
    have c9 := HR1.out.cell (k := 9) rfl
    go_wp2_with fail
    refine (valued_any 2 (by decide) _).mono ?_
    rintro e wv ⟨rfl, rfl⟩
    go_wp2_with fail
    refine (HVV.out _ HB1.out).mono ?_
    rintro e W2 ⟨rfl, hb⟩
    have HB2 := Lib.hid (HB1.out.trans (hb.mono HB1.out.size))
    have HR2 := Lib.hid (HR1.out.belowAll hb)
    clear hb c0 c2 c3 c4 c5 c6 c7 c8 c9
    have c0 := HR2.out.cell (k := 0) rfl
    have c2 := HR2.out.cell (k := 2) rfl
    have c3 := HR2.out.cell (k := 3) rfl
    cases b
    · go_wp2_with fail
      go_ret
      exact ⟨by rw [HBV.out]; simp, HB2.out⟩
    · go_wp2_with fail
      refine (valued_any 2 (by decide) _).mono ?_
      rintro e wv ⟨rfl, rfl⟩
      by_cases i0 : id = 0
      · subst i0
        go_wp2_with fail
        go_ret
        exact ⟨by rw [HBV.out]; simp, HB2.out⟩
      · have g0 : (id == 0) = false := beq_eq_false_iff_ne.2 i0
        by_cases f0 : af = id
        · subst f0
          go_wp2_with fail
          go_ret
          exact ⟨by rw [HBV.out]; simp [*], HB2.out⟩
        · have h0 : (af == id) = false := beq_eq_false_iff_ne.2 f0
          have h1 : (id == af) = false := beq_eq_false_iff_ne.2 (fun e => f0 e.symm)
          go_wp2_with fail
          go_ret
          exact ⟨by rw [HBV.out]; simp [*, bne], HB2.out⟩

set_option maxHeartbeats 6400000 in
theorem oref_3 (p : Option Addr) (n c : Nat) (id af : Int) (vk vn : Int) (vs : ByteArray) (va : Option Addr) (vla vca : Nat) (vb : Option Addr) (vlb vcb : Nat) (vc : Option Addr) (vlc vcc : Nat) (v : Vt) (rp : Bool) (w : World) (hp : ∀ wx, Below w.heap.size w wx → Calls Tryz.prog 19 #[.slice p n c] wx fun e w' => e = .returned (.bool rp) ∧ Below wx.heap.size wx w')
    (hV : ∀ wx, Below w.heap.size w wx → Calls Tryz.prog 22 #[.agg (vC vk vn vs va vla vca vb vlb vcb vc vlc vcc).toArray, .agg leafV.toArray] wx fun e w' => e = .returned (.bool (isZ v)) ∧ Below wx.heap.size wx w') :
    Calls Tryz.prog 7 #[.agg (oC 3 p n c id af vk vn vs va vla vca vb vlb vcb vc vlc vcc).toArray] w fun e w' => e = .returned (.bool (rp && (af == 0 && ((id != 0 && id != af) && isZ v)))) ∧ Below w.heap.size w w' := by
  have HB := Lib.hid (below_newO w (.cells (oC 3 p n c id af vk vn vs va vla vca vb vlb vcb vc vlc vcc).toArray 30))
  have HR := Lib.hid (Row.new w (oC 3 p n c id af vk vn vs va vla vca vb vlb vcb vc vlc vcc) 30)
  have c0 := HR.out.cell (k := 0) rfl
  have c1 := HR.out.cell (k := 1) rfl
  have HP := Lib.hid (hp _ HB.out)
  have HVV := Lib.hid hV
  clear hp hV
  cases rp
  · go_enter Tryz.func7, Tryz.ntmps7
    go_wp2_with fail
    refine HP.out.mono ?_
    rintro e W1 ⟨rfl, hb⟩
    have HB1 := Lib.hid (HB.out.trans (hb.mono HB.out.size))
    clear hb
    go_wp2_with fail
    go_ret
    exact ⟨rfl, HB1.out⟩
  · obtain ⟨b, hbv⟩ : ∃ b, isZ v = b := ⟨_, rfl⟩
    rw [hbv] at HVV
    have HBV := Lib.hid hbv
    clear hbv
    go_enter Tryz.func7, Tryz.ntmps7
    go_wp2_with fail
    refine HP.out.mono ?_
    rintro e W1 ⟨rfl, hb⟩
    have HB1 := Lib.hid (HB.out.trans (hb.mono HB.out.size))
    have HR1 := Lib.hid (HR.out.belowAll hb)
    clear hb c0 c1
    have c0 := HR1.out.cell (k := 0) rfl
    have c2 := HR1.out.cell (k := 2) rfl
    have c3 := HR1.out.cell (k := 3) rfl
    have c4 := HR1.out.cell (k := 4) rfl
    have c5 := HR1.out.cell (k := 5) rfl
    have c6 := HR1.out.cell (k := 6) rfl
    have c7 := HR1.out.cell (k := 7) rfl
    have c8 := HR1.out.cell (k := 8) rfl
    have c9 := HR1.out.cell (k := 9) rfl
    go_wp2_with fail
    refine (valued_any 3 (by decide) _).mono ?_
    rintro e wv ⟨rfl, rfl⟩
    go_wp2_with fail
    refine (valued_any 3 (by decide) _).mono ?_
    rintro e wv ⟨rfl, rfl⟩
    go_wp2_with fail
    refine (HVV.out _ HB1.out).mono ?_
    rintro e W2 ⟨rfl, hb⟩
    have HB2 := Lib.hid (HB1.out.trans (hb.mono HB1.out.size))
    have HR2 := Lib.hid (HR1.out.belowAll hb)
    clear hb c0 c2 c3 c4 c5 c6 c7 c8 c9
    have c0 := HR2.out.cell (k := 0) rfl
    have c2 := HR2.out.cell (k := 2) rfl
    have c3 := HR2.out.cell (k := 3) rfl
    cases b
    · go_wp2_with fail
      go_ret
      exact ⟨by rw [HBV.out]; simp, HB2.out⟩
    · by_cases i0 : id = 0
      · subst i0
        go_wp2_with fail
        go_ret
        exact ⟨by rw [HBV.out]; simp, HB2.out⟩
      · have g0 : (id == 0) = false := beq_eq_false_iff_ne.2 i0
        by_cases f0 : af = 0
        · subst f0
          go_wp2_with fail
          go_ret
          exact ⟨by rw [HBV.out]; simp [*], HB2.out⟩
        · have h0 : (af == 0) = false := beq_eq_false_iff_ne.2 f0
          go_wp2_with fail
          go_ret
          exact ⟨by rw [HBV.out]; simp [*], HB2.out⟩

set_option maxHeartbeats 6400000 in
theorem oref_4 (p : Option Addr) (n c : Nat) (id af : Int) (vk vn : Int) (vs : ByteArray) (va : Option Addr) (vla vca : Nat) (vb : Option Addr) (vlb vcb : Nat) (vc : Option Addr) (vlc vcc : Nat) (v : Vt) (rp : Bool) (w : World) (hp : ∀ wx, Below w.heap.size w wx → Calls Tryz.prog 19 #[.slice p n c] wx fun e w' => e = .returned (.bool rp) ∧ Below wx.heap.size wx w')
    (hV : ∀ wx, Below w.heap.size w wx → Calls Tryz.prog 22 #[.agg (vC vk vn vs va vla vca vb vlb vcb vc vlc vcc).toArray, .agg leafV.toArray] wx fun e w' => e = .returned (.bool (isZ v)) ∧ Below wx.heap.size wx w') :
    Calls Tryz.prog 7 #[.agg (oC 4 p n c id af vk vn vs va vla vca vb vlb vcb vc vlc vcc).toArray] w fun e w' => e = .returned (.bool (rp && ((id != 0 && id != af) && isZ v))) ∧ Below w.heap.size w w' := by
  have HB := Lib.hid (below_newO w (.cells (oC 4 p n c id af vk vn vs va vla vca vb vlb vcb vc vlc vcc).toArray 30))
  have HR := Lib.hid (Row.new w (oC 4 p n c id af vk vn vs va vla vca vb vlb vcb vc vlc vcc) 30)
  have c0 := HR.out.cell (k := 0) rfl
  have c1 := HR.out.cell (k := 1) rfl
  have HP := Lib.hid (hp _ HB.out)
  have HVV := Lib.hid hV
  clear hp hV
  cases rp
  · go_enter Tryz.func7, Tryz.ntmps7
    go_wp2_with fail
    refine HP.out.mono ?_
    rintro e W1 ⟨rfl, hb⟩
    have HB1 := Lib.hid (HB.out.trans (hb.mono HB.out.size))
    clear hb
    go_wp2_with fail
    go_ret
    exact ⟨rfl, HB1.out⟩
  · obtain ⟨b, hbv⟩ : ∃ b, isZ v = b := ⟨_, rfl⟩
    rw [hbv] at HVV
    have HBV := Lib.hid hbv
    clear hbv
    go_enter Tryz.func7, Tryz.ntmps7
    go_wp2_with fail
    refine HP.out.mono ?_
    rintro e W1 ⟨rfl, hb⟩
    have HB1 := Lib.hid (HB.out.trans (hb.mono HB.out.size))
    have HR1 := Lib.hid (HR.out.belowAll hb)
    clear hb c0 c1
    have c0 := HR1.out.cell (k := 0) rfl
    have c2 := HR1.out.cell (k := 2) rfl
    have c3 := HR1.out.cell (k := 3) rfl
    have c4 := HR1.out.cell (k := 4) rfl
    have c5 := HR1.out.cell (k := 5) rfl
    have c6 := HR1.out.cell (k := 6) rfl
    have c7 := HR1.out.cell (k := 7) rfl
    have c8 := HR1.out.cell (k := 8) rfl
    have c9 := HR1.out.cell (k := 9) rfl
    go_wp2_with fail
    refine (valued_any 4 (by decide) _).mono ?_
    rintro e wv ⟨rfl, rfl⟩
    go_wp2_with fail
    refine (valued_any 4 (by decide) _).mono ?_
    rintro e wv ⟨rfl, rfl⟩
    go_wp2_with fail
    refine (HVV.out _ HB1.out).mono ?_
    rintro e W2 ⟨rfl, hb⟩
    have HB2 := Lib.hid (HB1.out.trans (hb.mono HB1.out.size))
    have HR2 := Lib.hid (HR1.out.belowAll hb)
    clear hb c0 c2 c3 c4 c5 c6 c7 c8 c9
    have c0 := HR2.out.cell (k := 0) rfl
    have c2 := HR2.out.cell (k := 2) rfl
    have c3 := HR2.out.cell (k := 3) rfl
    cases b
    · go_wp2_with fail
      go_ret
      exact ⟨by rw [HBV.out]; simp, HB2.out⟩
    · by_cases i0 : id = 0
      · subst i0
        go_wp2_with fail
        go_ret
        exact ⟨by rw [HBV.out]; simp, HB2.out⟩
      · have g0 : (id == 0) = false := beq_eq_false_iff_ne.2 i0
        by_cases f0 : af = id
        · subst f0
          go_wp2_with fail
          go_ret
          exact ⟨by rw [HBV.out]; simp [*], HB2.out⟩
        · have h0 : (af == id) = false := beq_eq_false_iff_ne.2 f0
          have h1 : (id == af) = false := beq_eq_false_iff_ne.2 (fun e => f0 e.symm)
          go_wp2_with fail
          go_ret
          exact ⟨by rw [HBV.out]; simp [*, bne], HB2.out⟩

theorem rightO_no {k : Int} {l : List Stp} {id af : Int} {v : Vt} (h : ¬ (k = 1 ∨ k = 2 ∨ k = 3 ∨ k = 4)) : rightO k l id af v = false := by
  unfold rightO
  rw [if_neg (fun e => h (.inl e)), if_neg (fun e => h (.inr (.inl e))), if_neg (fun e => h (.inr (.inr (.inl e)))), if_neg (fun e => h (.inr (.inr (.inr e)))), Bool.and_false]
set_option maxHeartbeats 1600000 in
theorem oright_ref (k : Int) (p : Option Addr) (n c : Nat) (l : List Stp) (id af : Int) (vk vn : Int) (vs : ByteArray) (va : Option Addr) (vla vca : Nat) (vb : Option Addr) (vlb vcb : Nat) (vc : Option Addr) (vlc vcc : Nat) (v : Vt) (hn : n ≤ 9223372036854775807) (hd : v.depth ≤ 1000) (w : World) (hS : Sts w p n l) (hok : ∀ x ∈ l, StOk x) (hV : VAt w v (vC vk vn vs va vla vca vb vlb vcb vc vlc vcc)) :
    Calls Tryz.prog 7 #[.agg (oC k p n c id af vk vn vs va vla vca vb vlb vcb vc vlc vcc).toArray] w fun e w' => e = .returned (.bool (rightO k l id af v)) ∧ Below w.heap.size w w' := by
  by_cases hk : k = 1 ∨ k = 2 ∨ k = 3 ∨ k = 4
  · have hp := fun wx (hx : Below w.heap.size w wx) => pright_ref p n c l hn wx (hS.below hx) hok
    have hr := fun wx (hx : Below w.heap.size w wx) => rright_ref v _ wx (hV.later hx) hd
    have hz := fun wx (hx : Below w.heap.size w wx) => rsameV_ref v zV _ _ wx (hV.later hx) (vat_z wx)
    rw [sameV_z] at hz
    rcases hk with rfl | rfl | rfl | rfl
    · exact oref_1 p n c id af vk vn vs va vla vca vb vlb vcb vc vlc vcc v _ w hp hr
    · exact oref_2 p n c id af vk vn vs va vla vca vb vlb vcb vc vlc vcc v _ w hp hr
    · exact oref_3 p n c id af vk vn vs va vla vca vb vlb vcb vc vlc vcc v _ w hp hz
    · exact oref_4 p n c id af vk vn vs va vla vca vb vlb vcb vc vlc vcc v _ w hp hz
  · rw [rightO_no hk]
    have HB := Lib.hid (below_newO w (.cells (oC k p n c id af vk vn vs va vla vca vb vlb vcb vc vlc vcc).toArray 30))
    have HR := Lib.hid (Row.new w (oC k p n c id af vk vn vs va vla vca vb vlb vcb vc vlc vcc) 30)
    have c0 := HR.out.cell (k := 0) rfl
    clear hS hV hok
    by_cases h1 : k < 1
    · go_enter Tryz.func7, Tryz.ntmps7
      go_wp2_with fail
      go_ret
      exact ⟨rfl, HB.out⟩
    · have h4 : 4 < k := by omega
      go_enter Tryz.func7, Tryz.ntmps7
      go_wp2_with fail
      go_ret
      exact ⟨rfl, HB.out⟩
end

end Go.Proofs.YtmiadkhfjkaidaaGreatDoor
