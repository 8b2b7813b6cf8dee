/- Whether a schema is right: the document, all kinds. -/
import Derived.Test.YteeabfckjjbmkaaRs
namespace Go.Proofs.Yteeabfckjjbmkaa
set_option maxRecDepth 100000
set_option linter.unusedSimpArgs false
set_option linter.unusedVariables false
open Go.RowKit
set_option maxHeartbeats 3200000 in
theorem ssound_6 (words : List ByteArray) (a c : Option Addr) (la ca len cc : Nat) (css : Nat → List Value) (ps : Nat → Bool) (hss : ∀ x ∈ words, x.size ≤ maxLen) (hla : (la : Int) ≤ 9223372036854775807) (hlc : (len : Int) ≤ 9223372036854775807) (w : World) (h1 : Strs w a la words) (h3 : Parts w 3 c len css)
    (ih : ∀ j, j < len → ∀ w', Below w.heap.size w w' → Calls Try.prog 79 #[.agg (css j).toArray] w' fun e w'' => e = .returned (.bool (ps j)) ∧ Below w'.heap.size w' w'') :
    Calls Try.prog 79 #[.agg #[.int .i64 6, .slice a la ca, .slice c len cc]] w fun e w' => e = .returned (.bool (headS 6 words len && allN ps len)) ∧ Below w.heap.size w w' := by
  have hl := Strs.len h1
  have HB0 := Lib.hid (Row.new w [.int .i64 6, .slice a la ca, .slice c len cc] 41)
  have HW := Lib.hid (Below.alloc1 w (.cells #[.int .i64 6, .slice a la ca, .slice c len cc] 41))
  have H1 := Lib.hid h1
  have H3 := Lib.hid h3
  have IH := Lib.hid ih
  have HSS := Lib.hid hss
  clear h1 h3 ih hss
  by_cases hw0 : la = 0
  · subst hw0
    by_cases hn0 : len = 1
    · subst hn0
      have HF0 := Lib.hid (show (headS 6 words 1 && allN ps 1) = allN ps 1 by unfold headS; rw [if_neg (by decide), if_neg (by decide), if_neg (by decide), if_pos rfl, hl]; rfl)
      clear hl
      go_enter Try.func79, Try.ntmps79
      go_wp2_with fail
      go_loopw [4] (fun i wr => i = .int .i64 0 ∧ Row wr w.heap.size 41 [.int .i64 6, .slice a 0 ca, .slice c 1 cc] ∧ Below w.heap.size w wr) (fun i _ => 0)
      case atStart => exact ⟨rfl, HB0.out, HW.out⟩
      case round =>
        obtain ⟨rfl, hb0, hw⟩ := hrel
        have hc1 := hb0.cell (k := 1) (v := .slice a 0 ca) rfl
        have HB1 := Lib.hid hb0
        have HW1 := Lib.hid hw
        clear hb0 hw
        go_wp2_with fail
        go_loopw [6] (fun i wr => ∃ j : Nat, j ≤ 1 ∧ i = .int .i64 (j : Int) ∧ allN ps j = true ∧ Row wr w.heap.size 41 [.int .i64 6, .slice a 0 ca, .slice c 1 cc] ∧ Below w.heap.size w wr) (fun i _ => 1 - (intOf i).toNat)
        case atStart => exact ⟨0, Nat.zero_le _, rfl, rfl, HB1.out, HW1.out⟩
        case round =>
          obtain ⟨p, hpn, rfl, hpall, hpb, hpw⟩ := hrel
          have bp0 : (0 : Int) ≤ (p : Int) := by omega
          have hpc := hpb.cell (k := 2) (v := .slice c 1 cc) rfl
          by_cases hp : p < 1
          · have hpi : (p : Int) < ((1 : Nat) : Int) := by omega
            obtain ⟨ad, hade, hlen, hcell⟩ := (H3.out.below hpw).at_ hp
            subst hade
            have hm := allN_more ps p
            rw [hpall, Bool.true_and] at hm
            have HM := Lib.hid hm
            have HNO := Lib.hid (fun h => allN_no (f := ps) (n := p + 1) (k := 1) h (by omega))
            have HIX := Lib.hid (ix_s ad 1 cc p hp wr)
            have HC := Lib.hid hcell
            have HL := Lib.hid (s_len hlen)
            have HREC := Lib.hid (IH.out p hp wr hpw)
            have HPB := Lib.hid hpb
            have HPW := Lib.hid hpw
            clear hm hpall hcell hlen hpb hpw
            generalize ps p = bp at *
            cases bp
            · go_wp2_with (first
                | (refine wpList_indexAt rfl 39 (.tmp 118) (.tmp 119) rfl _ _ _ rfl rfl HIX.out ?_)
                | (refine wpList_load_at rfl 41 (.tmp 120) rfl (ad.add (p * 3)) rfl (css p) _ HC.out Try.underlying41 rfl HL.out ?_))
              refine HREC.out.mono ?_
              rintro e W1 ⟨rfl, hb⟩
              have HB := Lib.hid hb
              clear hb
              go_wp2_with fail
              go_ret
              exact ⟨by rw [HF0.out, HNO.out HM.out]; rfl, HPW.out.trans (HB.out.mono HPW.out.size)⟩
            · go_wp2_with (first
                | (refine wpList_indexAt rfl 39 (.tmp 118) (.tmp 119) rfl _ _ _ rfl rfl HIX.out ?_)
                | (refine wpList_load_at rfl 41 (.tmp 120) rfl (ad.add (p * 3)) rfl (css p) _ HC.out Try.underlying41 rfl HL.out ?_))
              refine HREC.out.mono ?_
              rintro e W1 ⟨rfl, hb⟩
              have HB := Lib.hid hb
              clear hb
              go_wp2_with fail
              go_roundw
              case rel => exact ⟨p + 1, by omega, by go_num, HM.out, HPB.out.belowAll HB.out, HPW.out.trans (HB.out.mono HPW.out.size)⟩
              case measure => simp [intOf] <;> omega
          · obtain rfl : p = 1 := by omega
            have HA := Lib.hid hpall
            have HPW := Lib.hid hpw
            clear hpall hpw
            go_wp2_with fail
            go_ret
            exact ⟨by rw [HF0.out, HA.out]; rfl, HPW.out⟩
    · skip
      have g1 : ((len : Int) != 1) = true := bne_iff_ne.2 (by omega)
      have HF := Lib.hid (show (headS 6 words len && allN ps len) = false by unfold headS; rw [if_neg (by decide), if_neg (by decide), if_neg (by decide), if_pos rfl, decide_eq_false hn0, Bool.and_false]; rfl)
      clear hl H1 H3 IH HSS HB0
      go_enter Try.func79, Try.ntmps79
      go_wp2_with fail
      go_ret
      exact ⟨by rw [HF.out]; rfl, HW.out⟩
  · skip
    have g1 : (la : Int) > 0 := by omega
    have g2 : (0 : Int) < (la : Int) := by omega
    have g3 : ¬ la = 0 := hw0
    have g4 : 0 < la := by omega
    by_cases g8 : la ≤ 8
    · have g5 : ¬ (la : Int) > 8 := by omega
      have g6 : (la : Int) ≤ 8 := by omega
      have HF := Lib.hid (show (headS 6 words len && allN ps len) = false by unfold headS; rw [if_neg (by decide), if_neg (by decide), if_neg (by decide), if_pos rfl, hl, decide_eq_false hw0]; rfl)
      clear hl H1 H3 IH HSS HB0
      go_enter Try.func79, Try.ntmps79
      go_wp2_with fail
      go_ret
      exact ⟨by rw [HF.out]; rfl, HW.out⟩
    have g5 : (la : Int) > 8 := by omega
    have g6 : ¬ (la : Int) ≤ 8 := by omega
    have HF := Lib.hid (show (headS 6 words len && allN ps len) = false by unfold headS; rw [if_neg (by decide), if_neg (by decide), if_neg (by decide), if_pos rfl, hl, decide_eq_false hw0]; rfl)
    clear hl H1 H3 IH HSS HB0
    go_enter Try.func79, Try.ntmps79
    go_wp2_with fail
    go_ret
    exact ⟨by rw [HF.out]; rfl, HW.out⟩

theorem ssound_0 (k : Int) (words : List ByteArray) (a c : Option Addr) (la ca len cc : Nat) (h1 : ¬ k = 1) (h2 : ¬ k = 2) (h3 : ¬ k = 3) (h4 : ¬ k = 4) (h5 : ¬ k = 5) (h6 : ¬ k = 6) (w : World) :
    Calls Try.prog 79 #[.agg #[.int .i64 k, .slice a la ca, .slice c len cc]] w fun e w' => e = .returned (.bool (headS k words len)) ∧ Below w.heap.size w w' := by
  have HF := Lib.hid (show headS k words len = false by unfold headS; rw [if_neg (by omega), if_neg h4, if_neg h5, if_neg h6])
  have HW := Lib.hid (Below.alloc1 w (.cells #[.int .i64 k, .slice a la ca, .slice c len cc] 41))
  by_cases hk : k < 1
  · go_enter Try.func79, Try.ntmps79
    go_wp2_with fail
    go_ret
    exact ⟨by rw [HF.out]; rfl, HW.out⟩
  · have g1 : k > 6 := by omega
    have g2 : ¬ k ≤ 6 := by omega
    have g3 : (6 : Int) < k := by omega
    go_enter Try.func79, Try.ntmps79
    go_wp2_with fail
    go_ret
    exact ⟨by rw [HF.out]; rfl, HW.out⟩
theorem St.sound_eq {k : Int} {words : List ByteArray} {len : Nat} {parts : Nat → St} : (St.mk k words len parts).sound = (headS k words len && allN (fun i => (parts i).sound) len) := by rw [St.sound]; rfl
theorem ssound_any : ∀ (v : St) (cs : List Value) (w : World), SAt w v cs →
    Calls Try.prog 79 #[.agg cs.toArray] w fun e w' => e = .returned (.bool v.sound) ∧ Below w.heap.size w w' := by
  intro v
  induction v with
  | nul => intro cs w h; cases h
  | mk k words len parts ih =>
    intro cs w h
    cases h with
    | mk css hk h1 h1c hss h3 h3c hp =>
    rename_i a c la ca cc
    have hla : (la : Int) ≤ 9223372036854775807 := by have := h1c.1; have := h1c.2; unfold maxLen at this; omega
    have hlc : (len : Int) ≤ 9223372036854775807 := by have := h3c.1; have := h3c.2; unfold maxLen at this; omega
    have hih : ∀ j, j < len → ∀ w', Below w.heap.size w w' → Calls Try.prog 79 #[.agg (css j).toArray] w' fun e w'' => e = .returned (.bool ((parts j).sound)) ∧ Below w'.heap.size w' w'' := fun j hj w' hb => ih j (css j) w' ((hp j hj).later hb)
    rw [St.sound_eq]
    by_cases c1 : k = 1
    · subst c1; exact ssound_1 words a c la ca len cc css _ hss hla hlc w h1 h3 hih
    by_cases c2 : k = 2
    · subst c2; exact ssound_2 words a c la ca len cc css _ hss hla hlc w h1 h3 hih
    by_cases c3 : k = 3
    · subst c3; exact ssound_3 words a c la ca len cc css _ hss hla hlc w h1 h3 hih
    by_cases c4 : k = 4
    · subst c4; exact ssound_4 words a c la ca len cc css _ hss hla hlc w h1 h3 hih
    by_cases c5 : k = 5
    · subst c5; exact ssound_5 words a c la ca len cc css _ hss hla hlc w h1 h3 hih
    by_cases c6 : k = 6
    · subst c6; exact ssound_6 words a c la ca len cc css _ hss hla hlc w h1 h3 hih
    have h0 := ssound_0 k words a c la ca len cc c1 c2 c3 c4 c5 c6 w
    rw [show headS k words len = false by unfold headS; rw [if_neg (by omega), if_neg c4, if_neg c5, if_neg c6]] at h0 ⊢
    exact h0
theorem sright_ref (v : St) (cs : List Value) (w : World) (h : SAt w v cs) (hd : v.depth ≤ 1000) :
    Calls Try.prog 28 #[.agg cs.toArray] w fun e w' => e = .returned (.bool (v.rightAt 1)) ∧ Below w.heap.size w w' := by
  have hw := Below.alloc1 w (.cells cs.toArray 41)
  have HD := Lib.hid (sdepth_ref v cs _ (h.later hw) hd)
  have HS := Lib.hid (fun wx hx => ssound_any v cs wx (h.later hx))
  have HW := Lib.hid hw
  have HB0 := Lib.hid (Row.new w cs 41)
  have HI := Lib.hid (s_info h.length)
  have HR := Lib.hid (show v.rightAt 1 = (decide (v.depth ≤ 5) && v.sound) by unfold St.rightAt; congr 1; rw [decide_eq_decide]; omega)
  clear hw h
  generalize v.depth = d at *
  generalize v.sound = bs at *
  by_cases h5 : d ≤ 5
  · have g5 : (d : Int) ≤ 5 := by omega
    go_enter Try.func28, Try.ntmps28
    go_wp2_with (refine wpList_load_row rfl 41 (.tmp 1) rfl w.heap.size rfl 41 _ (0, 0) _ HB0.out Try.underlying41 rfl HI.out ?_)
    refine HD.out.mono ?_
    rintro e W1 ⟨rfl, hb⟩
    have HW1 := Lib.hid (HW.out.trans (hb.mono HW.out.size))
    have HB1 := Lib.hid (HB0.out.belowAll hb)
    clear hb
    go_wp2_with (refine wpList_load_guarded (by rfl) 41 (.tmp 1) rfl w.heap.size rfl 41 _ HB1.out Try.underlying41 rfl HI.out ?_)
    refine (HS.out _ HW1.out).mono ?_
    rintro e W2 ⟨rfl, hb⟩
    have HB := Lib.hid hb
    clear hb
    go_wp2_with fail
    go_ret
    exact ⟨by rw [HR.out, decide_eq_true h5]; rfl, HW1.out.trans (HB.out.mono HW1.out.size)⟩
  · have g5 : ¬ (d : Int) ≤ 5 := by omega
    go_enter Try.func28, Try.ntmps28
    go_wp2_with (refine wpList_load_row rfl 41 (.tmp 1) rfl w.heap.size rfl 41 _ (0, 0) _ HB0.out Try.underlying41 rfl HI.out ?_)
    refine HD.out.mono ?_
    rintro e W1 ⟨rfl, hb⟩
    have HB := Lib.hid hb
    clear hb
    go_wp2_with fail
    go_ret
    exact ⟨by rw [HR.out, decide_eq_false h5]; rfl, HW.out.trans (HB.out.mono HW.out.size)⟩

end Go.Proofs.Yteeabfckjjbmkaa
