/- Whether a schema is right: the program. Two lists of names, held against each other. -/
import Derived.Test.YtmiadkhfjkaidaaGreatDoorMg13
import Derived.Deep.QuietTactic
namespace Go.Proofs.YtmiadkhfjkaidaaGreatDoor
section
set_option maxRecDepth 100000
set_option linter.unusedSimpArgs false
set_option linter.unusedVariables false
open Go.RowKit

theorem ieqo (n : Nat) : ((n : Int) == 1) = decide (n = 1) := by rw [Bool.eq_iff_iff, beq_iff_eq, decide_eq_true_eq]; omega
theorem choice_head (words : List ByteArray) (len : Nat) : headS 4 words len = (choiceB words && decide (len = 0)) := by
  unfold headS choiceB
  rw [if_neg (by decide), if_pos rfl]
theorem sfit_1 (words : List ByteArray) (a c : Option Addr) (la ca lc cc : Nat) (hss : ∀ x ∈ words, x.size ≤ maxLen) (hac : la ≤ ca ∧ ca ≤ maxLen) (w : World) (ha : Strs w a la words) :
    Calls Tryz.prog 143 #[.agg #[.int .i64 1, .slice a la ca, .slice c lc cc]] w fun e w' => e = .returned (.bool (headS 1 words lc)) ∧ Below w.heap.size w w' := by
  have hf : headS 1 words lc = (decide (words.length = 0) && decide (lc = 0)) := by rfl
  have HW := Lib.hid (Below.alloc1 w (.cells #[.int .i64 1, .slice a la ca, .slice c lc cc] 48))
  rw [Strs.len ha] at hf
  have HF := Lib.hid hf
  clear hf hss hac ha
  go_enter Tryz.func143, Tryz.ntmps143
  go_wp2_with fail
  all_goals go_ret
  all_goals refine ⟨?_, Below.alloc1 w _⟩
  all_goals rw [HF.out]
  all_goals clear HF HW
  all_goals simp_all [beqz, ieqo]
theorem sfit_2 (words : List ByteArray) (a c : Option Addr) (la ca lc cc : Nat) (hss : ∀ x ∈ words, x.size ≤ maxLen) (hac : la ≤ ca ∧ ca ≤ maxLen) (w : World) (ha : Strs w a la words) :
    Calls Tryz.prog 143 #[.agg #[.int .i64 2, .slice a la ca, .slice c lc cc]] w fun e w' => e = .returned (.bool (headS 2 words lc)) ∧ Below w.heap.size w w' := by
  have hf : headS 2 words lc = (decide (words.length = 0) && decide (lc = 0)) := by rfl
  have HW := Lib.hid (Below.alloc1 w (.cells #[.int .i64 2, .slice a la ca, .slice c lc cc] 48))
  rw [Strs.len ha] at hf
  have HF := Lib.hid hf
  clear hf hss hac ha
  go_enter Tryz.func143, Tryz.ntmps143
  go_wp2_with fail
  all_goals go_ret
  all_goals refine ⟨?_, Below.alloc1 w _⟩
  all_goals rw [HF.out]
  all_goals clear HF HW
  all_goals simp_all [beqz, ieqo]
theorem sfit_3 (words : List ByteArray) (a c : Option Addr) (la ca lc cc : Nat) (hss : ∀ x ∈ words, x.size ≤ maxLen) (hac : la ≤ ca ∧ ca ≤ maxLen) (w : World) (ha : Strs w a la words) :
    Calls Tryz.prog 143 #[.agg #[.int .i64 3, .slice a la ca, .slice c lc cc]] w fun e w' => e = .returned (.bool (headS 3 words lc)) ∧ Below w.heap.size w w' := by
  have hf : headS 3 words lc = (decide (words.length = 0) && decide (lc = 0)) := by rfl
  have HW := Lib.hid (Below.alloc1 w (.cells #[.int .i64 3, .slice a la ca, .slice c lc cc] 48))
  rw [Strs.len ha] at hf
  have HF := Lib.hid hf
  clear hf hss hac ha
  go_enter Tryz.func143, Tryz.ntmps143
  go_wp2_with fail
  all_goals go_ret
  all_goals refine ⟨?_, Below.alloc1 w _⟩
  all_goals rw [HF.out]
  all_goals clear HF HW
  all_goals simp_all [beqz, ieqo]
theorem sfit_4 (words : List ByteArray) (a c : Option Addr) (la ca lc cc : Nat) (hss : ∀ x ∈ words, x.size ≤ maxLen) (hac : la ≤ ca ∧ ca ≤ maxLen) (w : World) (ha : Strs w a la words) :
    Calls Tryz.prog 143 #[.agg #[.int .i64 4, .slice a la ca, .slice c lc cc]] w fun e w' => e = .returned (.bool (headS 4 words lc)) ∧ Below w.heap.size w w' := by
  have hf : headS 4 words lc = (choiceB words && decide (lc = 0)) := by exact choice_head words lc
  have HW := Lib.hid (Below.alloc1 w (.cells #[.int .i64 4, .slice a la ca, .slice c lc cc] 48))
  have HF := Lib.hid hf
  have HC := Lib.hid (choice_any a la ca words hss hac (w.alloc (.cells #[.int .i64 4, .slice a la ca, .slice c lc cc] 48)) (ha.belowAll HW.out))
  have HB0 := Lib.hid (Row.new w [.int .i64 4, .slice a la ca, .slice c lc cc] 48)
  clear hf hss hac ha
  go_enter Tryz.func143, Tryz.ntmps143
  go_wp2_with fail
  refine HC.out.mono ?_
  rintro e w' ⟨rfl, hb⟩
  have HW1 := Lib.hid (HW.out.trans (hb.mono HW.out.size))
  have hb0 := HB0.out.belowAll hb
  have hc2 := hb0.cell (k := 2) (v := .slice c lc cc) rfl
  clear hb hb0
  generalize choiceB words = b at *
  cases b
  · go_wp2_with fail
    go_ret
    exact ⟨by rw [HF.out]; rfl, HW1.out⟩
  · go_wp2_with fail
    go_ret
    exact ⟨by rw [HF.out, Bool.true_and, ← beqz]; rfl, HW1.out⟩
theorem sfit_5 (words : List ByteArray) (a c : Option Addr) (la ca lc cc : Nat) (hss : ∀ x ∈ words, x.size ≤ maxLen) (hac : la ≤ ca ∧ ca ≤ maxLen) (w : World) (ha : Strs w a la words) :
    Calls Tryz.prog 143 #[.agg #[.int .i64 5, .slice a la ca, .slice c lc cc]] w fun e w' => e = .returned (.bool (headS 5 words lc)) ∧ Below w.heap.size w w' := by
  have hf : headS 5 words lc = (fieldsB words lc) := by rfl
  have HW := Lib.hid (Below.alloc1 w (.cells #[.int .i64 5, .slice a la ca, .slice c lc cc] 48))
  have HF := Lib.hid hf
  have HC := Lib.hid (fright_any a la ca words hss hac lc (w.alloc (.cells #[.int .i64 5, .slice a la ca, .slice c lc cc] 48)) (ha.belowAll HW.out))
  clear hf hss hac ha
  go_enter Tryz.func143, Tryz.ntmps143
  go_wp2_with fail
  refine HC.out.mono ?_
  rintro e w' ⟨rfl, rfl⟩
  go_wp2_with fail
  go_ret
  exact ⟨by rw [HF.out]; rfl, HW.out⟩
theorem sfit_6 (words : List ByteArray) (a c : Option Addr) (la ca lc cc : Nat) (hss : ∀ x ∈ words, x.size ≤ maxLen) (hac : la ≤ ca ∧ ca ≤ maxLen) (w : World) (ha : Strs w a la words) :
    Calls Tryz.prog 143 #[.agg #[.int .i64 6, .slice a la ca, .slice c lc cc]] w fun e w' => e = .returned (.bool (headS 6 words lc)) ∧ Below w.heap.size w w' := by
  have hf : headS 6 words lc = (decide (words.length = 0) && decide (lc = 1)) := by rfl
  have HW := Lib.hid (Below.alloc1 w (.cells #[.int .i64 6, .slice a la ca, .slice c lc cc] 48))
  rw [Strs.len ha] at hf
  have HF := Lib.hid hf
  clear hf hss hac ha
  go_enter Tryz.func143, Tryz.ntmps143
  go_wp2_with fail
  all_goals go_ret
  all_goals refine ⟨?_, Below.alloc1 w _⟩
  all_goals rw [HF.out]
  all_goals clear HF HW
  all_goals simp_all [beqz, ieqo]
theorem sfit_0 (k : Int) (words : List ByteArray) (a c : Option Addr) (la ca lc cc : Nat) (h1 : ¬ k = 1) (h2 : ¬ k = 2) (h3 : ¬ k = 3) (h4 : ¬ k = 4) (h5 : ¬ k = 5) (h6 : ¬ k = 6) (hss : ∀ x ∈ words, x.size ≤ maxLen) (hac : la ≤ ca ∧ ca ≤ maxLen) (w : World) (ha : Strs w a la words) :
    Calls Tryz.prog 143 #[.agg #[.int .i64 k, .slice a la ca, .slice c lc cc]] w fun e w' => e = .returned (.bool (headS k words lc)) ∧ Below w.heap.size w w' := by
  have hf : headS k words lc = (false) := by unfold headS; rw [if_neg (by omega), if_neg h4, if_neg h5, if_neg h6]
  have HW := Lib.hid (Below.alloc1 w (.cells #[.int .i64 k, .slice a la ca, .slice c lc cc] 48))
  have HF := Lib.hid hf
  have g1 : (k == 1) = false := beq_eq_false_iff_ne.2 h1
  have g2 : (k == 2) = false := beq_eq_false_iff_ne.2 h2
  have g3 : (k == 3) = false := beq_eq_false_iff_ne.2 h3
  have g4 : (k == 4) = false := beq_eq_false_iff_ne.2 h4
  have g5 : (k == 5) = false := beq_eq_false_iff_ne.2 h5
  have g6 : (k == 6) = false := beq_eq_false_iff_ne.2 h6
  clear hf hss hac ha
  go_enter Tryz.func143, Tryz.ntmps143
  go_wp2_with fail
  all_goals go_ret
  all_goals exact ⟨by rw [HF.out]; rfl, Below.alloc1 w _⟩
theorem sfit_any (k : Int) (words : List ByteArray) (a c : Option Addr) (la ca lc cc : Nat) (hss : ∀ x ∈ words, x.size ≤ maxLen) (hac : la ≤ ca ∧ ca ≤ maxLen) (w : World) (ha : Strs w a la words) :
    Calls Tryz.prog 143 #[.agg #[.int .i64 k, .slice a la ca, .slice c lc cc]] w fun e w' => e = .returned (.bool (headS k words lc)) ∧ Below w.heap.size w w' := by
  by_cases h1 : k = 1
  · subst h1; exact sfit_1 words a c la ca lc cc hss hac w ha
  by_cases h2 : k = 2
  · subst h2; exact sfit_2 words a c la ca lc cc hss hac w ha
  by_cases h3 : k = 3
  · subst h3; exact sfit_3 words a c la ca lc cc hss hac w ha
  by_cases h4 : k = 4
  · subst h4; exact sfit_4 words a c la ca lc cc hss hac w ha
  by_cases h5 : k = 5
  · subst h5; exact sfit_5 words a c la ca lc cc hss hac w ha
  by_cases h6 : k = 6
  · subst h6; exact sfit_6 words a c la ca lc cc hss hac w ha
  exact sfit_0 k words a c la ca lc cc h1 h2 h3 h4 h5 h6 hss hac w ha

set_option maxHeartbeats 800000 in
theorem if_sright (a : Option Addr) (n cap : Nat) (css : Nat → List Value) (q : Value) (p : Nat → Bool) (hn : n ≤ 9223372036854775807) (w : World) (h : Parts w 3 a n css)
    (hf : ∀ j, j < n → ∀ w', Below w.heap.size w w' → Calls Tryz.prog 145 #[.agg (css j).toArray, q] w' fun e w'' => e = .returned (.bool (p j)) ∧ Below w'.heap.size w' w'') :
    Calls Tryz.prog 179 #[.slice a n cap, .func (.func 145) #[] #[q]] w fun e w' => (∃ r, e = .returned (.int .i64 r) ∧ IsFirst p n r) ∧ Below w.heap.size w w' := by
  have H := Lib.hid h
  have HF := Lib.hid hf
  clear h hf
  go_enter Tryz.func179, Tryz.ntmps179
  go_wp2_with fail
  go_loopw [8] (fun i wr => ∃ j : Nat, j ≤ n ∧ i = .int .i64 (j : Int) ∧ (∀ i, i < j → p i = false) ∧ Below w.heap.size w wr) (fun i _ => n - (intOf i).toNat)
  case atStart => exact ⟨0, Nat.zero_le _, rfl, fun _ h => absurd h (Nat.not_lt_zero _), Below.refl _ _⟩
  case round =>
    obtain ⟨j, hjn, rfl, hall, hw⟩ := hrel
    have bj0 : (0 : Int) ≤ (j : Int) := by omega
    by_cases hj : j < n
    · have hji : (j : Int) < (n : Int) := by omega
      obtain ⟨ad, rfl, hlen, hcell⟩ := (H.out.below hw).at_ hj
      have HIX := Lib.hid (ix_s ad n cap j hj wr)
      have HC := Lib.hid hcell
      have HL := Lib.hid (s_len hlen)
      clear hlen hcell
      have HA := Lib.hid hall
      have HW := Lib.hid hw
      have hfj := HF.out j hj wr hw
      obtain ⟨b, hb⟩ : ∃ b, p j = b := ⟨_, rfl⟩
      rw [hb] at hfj
      have HFJ := Lib.hid hfj
      have HB := Lib.hid hb
      clear hall hw hfj hb
      cases b
      · skip
        go_wp2_with (first
        | (refine wpList_indexAt rfl 46 (.tmp 12) (.tmp 13) rfl _ _ _ rfl rfl HIX.out ?_)
        | (refine wpList_load_at rfl 48 (.tmp 14) rfl (ad.add (j * 3)) rfl (css j) _ HC.out Tryz.underlying48 rfl HL.out ?_))
        refine HFJ.out.mono ?_
        rintro e W1 ⟨rfl, hbl⟩
        have HBL := Lib.hid hbl
        clear hbl
        go_wp2_with fail
        go_roundw
        case rel =>
          refine ⟨j + 1, by omega, by go_num, fun i hi => ?_, HW.out.trans (HBL.out.mono HW.out.size)⟩
          by_cases hij : i = j
          · subst hij; exact HB.out
          · exact HA.out i (by omega)
        case measure => simp [intOf] <;> omega
      · skip
        go_wp2_with (first
        | (refine wpList_indexAt rfl 46 (.tmp 12) (.tmp 13) rfl _ _ _ rfl rfl HIX.out ?_)
        | (refine wpList_load_at rfl 48 (.tmp 14) rfl (ad.add (j * 3)) rfl (css j) _ HC.out Tryz.underlying48 rfl HL.out ?_))
        refine HFJ.out.mono ?_
        rintro e W1 ⟨rfl, hbl⟩
        have HBL := Lib.hid hbl
        clear hbl
        go_wp2_with fail
        go_ret
        exact ⟨⟨_, rfl, .inr ⟨j, hj, rfl, HB.out, HA.out⟩⟩, HW.out.trans (HBL.out.mono HW.out.size)⟩
    · obtain rfl : j = n := by omega
      have HA := Lib.hid hall
      have HW := Lib.hid hw
      clear hall hw
      go_wp2_with fail
      go_ret
      exact ⟨⟨_, rfl, .inl ⟨rfl, HA.out⟩⟩, HW.out⟩
theorem cf_sright (a : Option Addr) (n cap : Nat) (css : Nat → List Value) (q : Value) (p : Nat → Bool) (hn : n ≤ 9223372036854775807) (w : World) (h : Parts w 3 a n css)
    (hf : ∀ j, j < n → ∀ w', Below w.heap.size w w' → Calls Tryz.prog 145 #[.agg (css j).toArray, q] w' fun e w'' => e = .returned (.bool (p j)) ∧ Below w'.heap.size w' w'') :
    Calls Tryz.prog 144 #[.slice a n cap, .func (.func 145) #[] #[q]] w fun e w' => e = .returned (.bool ((List.range n).any p)) ∧ Below w.heap.size w w' := by
  have HI := Lib.hid (if_sright a n cap css q p hn w h hf)
  clear h hf
  go_enter Tryz.func144, Tryz.ntmps144
  go_wp2_with fail
  refine HI.out.mono ?_
  rintro e W1 ⟨⟨r, rfl, hr⟩, hb⟩
  have HR := Lib.hid hr.any
  have HB := Lib.hid hb
  clear hr hb
  go_wp2_with fail
  go_ret
  exact ⟨by rw [← HR.out]; rfl, HB.out⟩

/-- The function that is handed on, where what it calls is known. -/
theorem srightc_any (cs : List Value) (hcs : cs.length = 3) (g : Nat) (d : Nat) (b : Bool) (hd : d ≤ 1000) (w : World) (hg : w.cell? ⟨g, 0, none⟩ = some (.int .i64 (d : Int)))
    (hrec : ∀ w1, Below w.heap.size w w1 → Calls Tryz.prog 103 #[.agg cs.toArray, .int .i64 ((d : Int) + 1)] w1 fun e w' => e = .returned (.bool b) ∧ Below w1.heap.size w1 w') :
    Calls Tryz.prog 145 #[.agg cs.toArray, .pointer (some ⟨g, 0, none⟩)] w fun e w' => e = .returned (.bool (!b)) ∧ Below w.heap.size w w' := by
  have hw := Below.alloc1 w (.cells cs.toArray 48)
  have hlt : g < w.heap.size := lt_of_cell hg
  have HG := Lib.hid ((hw.cell (p := ⟨g, 0, none⟩) hlt).trans hg)
  have HREC := Lib.hid (hrec _ hw)
  have HW := Lib.hid hw
  have HB0 := Lib.hid (Row.new w cs 48)
  have HI := Lib.hid (s_info hcs)
  have hg2 := HG.out
  clear hw hrec hg
  go_enter Tryz.func145, Tryz.ntmps145
  go_wp2_with (refine wpList_load_row rfl 48 (.tmp 2) rfl w.heap.size rfl 48 _ (0, 0) _ HB0.out Tryz.underlying48 rfl HI.out ?_)
  refine HREC.out.mono ?_
  rintro e W1 ⟨rfl, hb⟩
  have HB := Lib.hid hb
  clear hb
  go_wp2_with fail
  go_ret
  exact ⟨rfl, HW.out.trans (HB.out.mono HW.out.size)⟩

set_option maxHeartbeats 1600000 in
theorem sright_any : ∀ (v : St) (cs : List Value) (d : Nat) (w : World), SAt w v cs → d ≤ 900 →
    Calls Tryz.prog 103 #[.agg cs.toArray, .int .i64 (d : Int)] w fun e w' => e = .returned (.bool (v.rightAt d)) ∧ Below w.heap.size w w' := by
  intro v
  induction v with
  | nul => intro cs d w h; cases h
  | mk k words len parts ih =>
    intro cs d w h hd
    cases h with
    | mk css hk h1 h1c hss h3 h3c hp =>
    rename_i a c la ca cc
    have hmk : (St.mk k words len parts).rightAt d = (decide (d ≤ 5) && headS k words len && (List.range len).all fun i => (parts i).rightAt (d + 1)) := St.rightAt_mk d
    generalize (St.mk k words len parts).rightAt d = res at *
    have hlc : len ≤ 9223372036854775807 := by have := h3c.1; have := h3c.2; unfold maxLen at this; omega
    have hw := Below.alloc2 w (.cells [.int .i64 k, .slice a la ca, .slice c len cc].toArray 48) (.cells #[.int .i64 (d : Int)] 3)
    have hb0 := (Row.new w [.int .i64 k, .slice a la ca, .slice c len cc] 48).alloc (.cells #[.int .i64 (d : Int)] 3)
    have hb1 := Row.new1 w (.cells [.int .i64 k, .slice a la ca, .slice c len cc].toArray 48) [.int .i64 (d : Int)] 3
    have HI := Lib.hid (s_info (cs := [.int .i64 k, .slice a la ca, .slice c len cc]) rfl)
    by_cases h5 : d ≤ 5
    · have g5 : (d : Int) ≤ 5 := by omega
      rw [decide_eq_true h5, Bool.true_and] at hmk
      have HFI := Lib.hid (fun wx hx => sfit_any k words a c la ca len cc hss h1c wx hx)
      have HCF := Lib.hid (fun wx hx q p hf => cf_sright c len cc css q p hlc wx hx hf)
      have H1 := Lib.hid h1
      have H3 := Lib.hid h3
      have HP := Lib.hid hp
      have IH := Lib.hid ih
      have HMK := Lib.hid hmk
      have HB0 := Lib.hid hb0
      have HB1 := Lib.hid hb1
      have HW := Lib.hid hw
      clear ih hp h1 h3 hmk hb0 hb1 hw hss h1c hk h3c
      generalize headS k words len = bf at *
      cases bf
      · skip
        go_enter Tryz.func103, Tryz.ntmps103
        go_wp2_with (refine wpList_load_guarded (by rfl) 48 (.tmp 2) rfl w.heap.size rfl 48 _ HB0.out Tryz.underlying48 rfl HI.out ?_)
        refine (HFI.out _ (H1.out.belowAll HW.out)).mono ?_
        rintro e W2 ⟨rfl, hb⟩
        have HW2 := Lib.hid (HW.out.trans (hb.mono HW.out.size))
        clear hb
        go_wp2_with fail
        go_ret
        exact ⟨by rw [HMK.out]; rfl, HW2.out⟩
      · skip
        go_enter Tryz.func103, Tryz.ntmps103
        go_wp2_with (refine wpList_load_guarded (by rfl) 48 (.tmp 2) rfl w.heap.size rfl 48 _ HB0.out Tryz.underlying48 rfl HI.out ?_)
        refine (HFI.out _ (H1.out.belowAll HW.out)).mono ?_
        rintro e W2 ⟨rfl, hb⟩
        have HW2 := Lib.hid (HW.out.trans (hb.mono HW.out.size))
        have hb02 := HB0.out.belowAll hb
        have hb12 := HB1.out.belowAll hb
        have hc5 := hb02.cell (k := 2) (v := .slice c len cc) rfl
        have hc1 := hb12.cell (k := 0) (v := .int .i64 (d : Int)) rfl
        have hcf := HCF.out W2 (H3.out.below HW2.out) (.pointer (some ⟨w.heap.size + 1, 0, none⟩)) (fun j => !(parts j).rightAt (d + 1)) (fun j hj w' hbw =>
          srightc_any (css j) (HP.out j hj).length (w.heap.size + 1) d _ (by omega) w' ((hbw.cell (p := ⟨w.heap.size + 1, 0, none⟩) (lt_of_cell hc1)).trans hc1) (fun w1 hb1 =>
            IH.out j (css j) (d + 1) w1 ((HP.out j hj).later (HW2.out.trans ((hbw.trans (hb1.mono hbw.size)).mono HW2.out.size))) (by omega)))
        rw [show (List.range len).any (fun j => !(parts j).rightAt (d + 1)) = !(List.range len).all fun i => (parts i).rightAt (d + 1) by rw [← not_any, Bool.not_not]] at hcf
        have HCF2 := Lib.hid hcf
        clear hb hcf hb02 hb12
        generalize ((List.range len).all fun i => (parts i).rightAt (d + 1)) = ba at *
        go_wp2_with fail
        refine HCF2.out.mono ?_
        rintro e W3 ⟨rfl, hb⟩
        have HB := Lib.hid hb
        clear hb
        cases ba
        · go_wp2_with fail
          go_ret
          exact ⟨by rw [HMK.out]; rfl, HW2.out.trans (HB.out.mono HW2.out.size)⟩
        · go_wp2_with fail
          go_ret
          exact ⟨by rw [HMK.out]; rfl, HW2.out.trans (HB.out.mono HW2.out.size)⟩
    · have g5 : ¬ (d : Int) ≤ 5 := by omega
      rw [decide_eq_false h5] at hmk
      have HMK := Lib.hid hmk
      have HW := Lib.hid hw
      clear ih hp h1 h3 hmk hb0 hb1 hw
      go_enter Tryz.func103, Tryz.ntmps103
      go_wp2_with fail
      go_ret
      exact ⟨by rw [HMK.out]; rfl, HW.out⟩
theorem sRight_any (v : St) (cs : List Value) (w : World) (h : SAt w v cs) :
    Calls Tryz.prog 71 #[.agg cs.toArray] w fun e w' => e = .returned (.bool (v.rightAt 1)) ∧ Below w.heap.size w w' := by
  have hw := Below.alloc1 w (.cells cs.toArray 48)
  have HR := Lib.hid (sright_any v cs 1 _ (h.later hw) (by decide))
  have HW := Lib.hid hw
  have HB0 := Lib.hid (Row.new w cs 48)
  have HI := Lib.hid (s_info h.length)
  clear hw h
  go_enter Tryz.func71, Tryz.ntmps71
  go_wp2_with (refine wpList_load_row rfl 48 (.tmp 1) rfl w.heap.size rfl 48 _ (0, 0) _ HB0.out Tryz.underlying48 rfl HI.out ?_)
  refine HR.out.mono ?_
  rintro e W1 ⟨rfl, hb⟩
  have HB := Lib.hid hb
  clear hb
  go_wp2_with fail
  go_ret
  exact ⟨rfl, HW.out.trans (HB.out.mono HW.out.size)⟩
end

section
set_option maxRecDepth 100000
set_option linter.unusedSimpArgs false
set_option linter.unusedVariables false
open Go.RowKit

def eqN (l m : List ByteArray) (n : Nat) : Bool := (List.range n).all fun i => eqS (nth l i) (nth m i)
theorem eqN_more (l m : List ByteArray) (n : Nat) : eqN l m (n + 1) = (eqN l m n && eqS (nth l n) (nth m n)) := by
  unfold eqN
  rw [List.range_succ, List.all_append]
  simp only [List.all_cons, List.all_nil, Bool.and_true]
theorem eqN_no {l m : List ByteArray} {n k : Nat} (h : eqN l m n = false) (hm : n ≤ k) : eqN l m k = false := by
  unfold eqN at *
  rw [← Bool.not_eq_true, List.all_eq_true] at *
  exact fun h' => h fun i hi => h' i (List.mem_range.2 (by have := List.mem_range.1 hi; omega))
set_option maxHeartbeats 1600000 in
theorem equal_any (a b : Option Addr) (n ca m cb : Nat) (l k : List ByteArray) (hn : n ≤ 9223372036854775807) (w : World) (h : Strs w a n l) (hk : Strs w b m k) :
    Calls Tryz.prog 84 #[.slice a n ca, .slice b m cb] w fun e w' => e = .returned (.bool (eqL l k)) ∧ Below w.heap.size w w' := by
  have hl := h.len
  have hm := hk.len
  by_cases hnm : n = m
  · subst hnm
    have HE := Lib.hid (show eqL l k = eqN l k n by unfold eqL; rw [hl, hm, decide_eq_true rfl]; rfl)
    have H := Lib.hid h
    have HK := Lib.hid hk
    clear h hk hl hm
    go_enter Tryz.func84, Tryz.ntmps84
    go_wp2_with fail
    go_loopw [13] (fun i wr => ∃ j : Nat, j ≤ n ∧ i = .int .i64 (j : Int) ∧ eqN l k j = true ∧ Below w.heap.size w wr) (fun i _ => n - (intOf i).toNat)
    case atStart => exact ⟨0, Nat.zero_le _, rfl, rfl, Below.refl _ _⟩
    case round =>
      obtain ⟨j, hjn, rfl, hall, hw⟩ := hrel
      have bj0 : (0 : Int) ≤ (j : Int) := by omega
      by_cases hj : j < n
      · have hji : (j : Int) < (n : Int) := by omega
        obtain ⟨ad, rfl, hc⟩ := Strs.at_ (H.out.belowAll hw) hj
        obtain ⟨ae, rfl, hd⟩ := Strs.at_ (HK.out.belowAll hw) hj
        have hmo := eqN_more l k j
        rw [hall, Bool.true_and] at hmo
        have HNO := Lib.hid (fun h => eqN_no (l := l) (m := k) (n := j + 1) (k := n) h (by omega))
        clear hall
        generalize nth l j = x at *
        generalize nth k j = y at *
        have hxy : eqS x y = (x.toList == y.toList) := rfl
        have HW := Lib.hid hw.drew
        clear hw
        by_cases he : x.toList = y.toList
        · have heb : (x.toList == y.toList) = true := beq_iff_eq.2 he
          rw [hxy, heb] at hmo
          have HMO := Lib.hid hmo
          clear hmo hxy
          go_wp2_with fail
          go_region
          go_wp2_with fail
          go_roundw
          case rel => exact ⟨j + 1, by omega, by go_num, HMO.out, HW.out⟩
          case measure => simp [intOf] <;> omega
        · have heb : (x.toList == y.toList) = false := beq_eq_false_iff_ne.2 he
          rw [hxy, heb] at hmo
          have HMO := Lib.hid hmo
          clear hmo hxy
          go_wp2_with fail
          go_region
          go_wp2_with fail
          go_ret
          exact ⟨by rw [HE.out, HNO.out HMO.out]; rfl, HW.out⟩
      · obtain rfl : j = n := by omega
        have HA := Lib.hid hall
        have HW := Lib.hid hw
        clear hall hw
        go_wp2_with fail
        go_ret
        exact ⟨by rw [HE.out, HA.out]; rfl, HW.out⟩
  · have HF := Lib.hid (show eqL l k = false by unfold eqL; rw [hl, hm, decide_eq_false hnm]; rfl)
    have g1 : ¬ (n : Int) = (m : Int) := by omega
    have g2 : ((n : Int) != (m : Int)) = true := bne_iff_ne.2 g1
    clear h hk hl hm
    go_enter Tryz.func84, Tryz.ntmps84
    go_wp2_with fail
    go_ret
    exact ⟨by rw [HF.out]; rfl, Below.refl _ _⟩
end

end Go.Proofs.YtmiadkhfjkaidaaGreatDoor
