/- Whether a schema is right: the document. Whether a schema is right: the document, all kinds. Two slices of bytes are held against each other byte by byte: the call answers whether they are the same, and changes nothing; no condition but that they are read as bytes. The walk of SchemaEncodes. -/
import Derived.Test.YtkkdjkmnemnpdaaGreatDoorMg5
import Derived.Test.YtkkdjkmnemnpdaaGreatDoorMg1
import Derived.Test.YtkkdjkmnemnpdaaGreatDoorRows
import Derived.Deep.QuietTactic
import Derived.BigQuiet
import Derived.Test.YtkkdjkmnemnpdaaGreatDoorMg6
namespace Go.Proofs.YtkkdjkmnemnpdaaGreatDoor
section
set_option maxRecDepth 100000
set_option linter.unusedSimpArgs false
set_option linter.unusedVariables false
open Go.RowKit

/-- The first words are names, and none is bad beside one before it. -/
def okW (bad : ByteArray → ByteArray → Bool) (l : List ByteArray) (n : Nat) : Bool := (List.range n).all fun i => nameB (nth l i) && allN (fun j => !bad (nth l i) (nth l j)) i
theorem okW_more (bad : ByteArray → ByteArray → Bool) (l : List ByteArray) (n : Nat) : okW bad l (n + 1) = (okW bad l n && (nameB (nth l n) && allN (fun j => !bad (nth l n) (nth l j)) n)) := by
  unfold okW
  rw [List.range_succ, List.all_append]
  simp only [List.all_cons, List.all_nil, Bool.and_true]
theorem okW_no {bad : ByteArray → ByteArray → Bool} {l : List ByteArray} {n m : Nat} (h : okW bad l n = false) (hm : n ≤ m) : okW bad l m = false := by
  unfold okW at *
  rw [← Bool.not_eq_true, List.all_eq_true] at *
  exact fun h' => h fun i hi => h' i (List.mem_range.2 (by have := List.mem_range.1 hi; omega))
theorem ok_4 (l : List ByteArray) : wordsB l = okW (fun x y => eqS x y) l l.length := rfl
theorem ok_5 (l : List ByteArray) : riseB l = okW (fun x y => eqS x y || ltS x y) l l.length := by rw [← pair_rise]; rfl
set_option maxHeartbeats 3200000 in
theorem ssound_1 (words : List ByteArray) (a c : Option Addr) (la ca len cc : Nat) (css : Nat → List Value) (ps : Nat → Bool) (hss : ∀ x ∈ words, x.size ≤ maxLen) (hla : (la : Int) ≤ 9223372036854775807) (hlc : (len : Int) ≤ 9223372036854775807) (w : World) (h1 : Strs w a la words) (h3 : Parts w 3 c len css)
    (ih : ∀ j, j < len → ∀ w', Below w.heap.size w w' → Calls Tryz.prog 21 #[.agg (css j).toArray] w' fun e w'' => e = .returned (.bool (ps j)) ∧ Below w'.heap.size w' w'') :
    Calls Tryz.prog 21 #[.agg #[.int .i64 1, .slice a la ca, .slice c len cc]] w fun e w' => e = .returned (.bool (headS 1 words len && allN ps len)) ∧ Below w.heap.size w w' := by
  have hl := Strs.len h1
  have HB0 := Lib.hid (Row.new w [.int .i64 1, .slice a la ca, .slice c len cc] 25)
  have HW := Lib.hid (Below.alloc1 w (.cells #[.int .i64 1, .slice a la ca, .slice c len cc] 25))
  have H1 := Lib.hid h1
  have H3 := Lib.hid h3
  have IH := Lib.hid ih
  have HSS := Lib.hid hss
  clear h1 h3 ih hss
  by_cases hw0 : la = 0
  · subst hw0
    by_cases hn0 : len = 0
    · subst hn0
      have HF := Lib.hid (show (headS 1 words 0 && allN ps 0) = true by unfold headS; rw [if_pos (by decide), hl]; rfl)
      clear hl H1 IH HSS
      go_enter Tryz.func21, Tryz.ntmps21
      go_wp2_with fail
      go_loopw [4] (fun i wr => i = .int .i64 0 ∧ Row wr w.heap.size 25 [.int .i64 1, .slice a 0 ca, .slice c 0 cc] ∧ Below w.heap.size w wr) (fun i _ => 0)
      case atStart => exact ⟨rfl, HB0.out, HW.out⟩
      case round =>
        obtain ⟨rfl, hb0, hw⟩ := hrel
        have hc1 := hb0.cell (k := 1) (v := .slice a 0 ca) rfl
        have HB1 := Lib.hid hb0
        have HW1 := Lib.hid hw
        clear hb0 hw
        go_wp2_with fail
        go_loopw [6] (fun i wr => i = .int .i64 0 ∧ Row wr w.heap.size 25 [.int .i64 1, .slice a 0 ca, .slice c 0 cc] ∧ Below w.heap.size w wr) (fun i _ => 0)
        case atStart => exact ⟨rfl, HB1.out, HW1.out⟩
        case round =>
          obtain ⟨rfl, hb0, hw⟩ := hrel
          have hc2 := hb0.cell (k := 2) (v := .slice c 0 cc) rfl
          have HW2 := Lib.hid hw
          clear hb0 hw
          go_wp2_with fail
          go_ret
          exact ⟨by rw [HF.out]; rfl, HW2.out⟩
    · skip
      have g1 : ((len : Int) != 0) = true := bne_iff_ne.2 (by omega)
      have HF := Lib.hid (show (headS 1 words len && allN ps len) = false by unfold headS; rw [if_pos (by decide), decide_eq_false hn0, Bool.and_false]; rfl)
      clear hl H1 H3 IH HSS HB0
      go_enter Tryz.func21, Tryz.ntmps21
      go_wp2_with fail
      go_ret
      exact ⟨by rw [HF.out]; rfl, HW.out⟩
  · skip
    have g1 : (la : Int) > 0 := by omega
    have g2 : (0 : Int) < (la : Int) := by omega
    have g3 : ¬ la = 0 := hw0
    have g4 : 0 < la := by omega
    by_cases g8 : la ≤ 8
    · have g5 : ¬ (la : Int) > 8 := by omega
      have g6 : (la : Int) ≤ 8 := by omega
      have HF := Lib.hid (show (headS 1 words len && allN ps len) = false by unfold headS; rw [if_pos (by decide), hl, decide_eq_false hw0]; rfl)
      clear hl H1 H3 IH HSS HB0
      go_enter Tryz.func21, Tryz.ntmps21
      go_wp2_with fail
      go_ret
      exact ⟨by rw [HF.out]; rfl, HW.out⟩
    have g5 : (la : Int) > 8 := by omega
    have g6 : ¬ (la : Int) ≤ 8 := by omega
    have HF := Lib.hid (show (headS 1 words len && allN ps len) = false by unfold headS; rw [if_pos (by decide), hl, decide_eq_false hw0]; rfl)
    clear hl H1 H3 IH HSS HB0
    go_enter Tryz.func21, Tryz.ntmps21
    go_wp2_with fail
    go_ret
    exact ⟨by rw [HF.out]; rfl, HW.out⟩
set_option maxHeartbeats 3200000 in
theorem ssound_2 (words : List ByteArray) (a c : Option Addr) (la ca len cc : Nat) (css : Nat → List Value) (ps : Nat → Bool) (hss : ∀ x ∈ words, x.size ≤ maxLen) (hla : (la : Int) ≤ 9223372036854775807) (hlc : (len : Int) ≤ 9223372036854775807) (w : World) (h1 : Strs w a la words) (h3 : Parts w 3 c len css)
    (ih : ∀ j, j < len → ∀ w', Below w.heap.size w w' → Calls Tryz.prog 21 #[.agg (css j).toArray] w' fun e w'' => e = .returned (.bool (ps j)) ∧ Below w'.heap.size w' w'') :
    Calls Tryz.prog 21 #[.agg #[.int .i64 2, .slice a la ca, .slice c len cc]] w fun e w' => e = .returned (.bool (headS 2 words len && allN ps len)) ∧ Below w.heap.size w w' := by
  have hl := Strs.len h1
  have HB0 := Lib.hid (Row.new w [.int .i64 2, .slice a la ca, .slice c len cc] 25)
  have HW := Lib.hid (Below.alloc1 w (.cells #[.int .i64 2, .slice a la ca, .slice c len cc] 25))
  have H1 := Lib.hid h1
  have H3 := Lib.hid h3
  have IH := Lib.hid ih
  have HSS := Lib.hid hss
  clear h1 h3 ih hss
  by_cases hw0 : la = 0
  · subst hw0
    by_cases hn0 : len = 0
    · subst hn0
      have HF := Lib.hid (show (headS 2 words 0 && allN ps 0) = true by unfold headS; rw [if_pos (by decide), hl]; rfl)
      clear hl H1 IH HSS
      go_enter Tryz.func21, Tryz.ntmps21
      go_wp2_with fail
      go_loopw [4] (fun i wr => i = .int .i64 0 ∧ Row wr w.heap.size 25 [.int .i64 2, .slice a 0 ca, .slice c 0 cc] ∧ Below w.heap.size w wr) (fun i _ => 0)
      case atStart => exact ⟨rfl, HB0.out, HW.out⟩
      case round =>
        obtain ⟨rfl, hb0, hw⟩ := hrel
        have hc1 := hb0.cell (k := 1) (v := .slice a 0 ca) rfl
        have HB1 := Lib.hid hb0
        have HW1 := Lib.hid hw
        clear hb0 hw
        go_wp2_with fail
        go_loopw [6] (fun i wr => i = .int .i64 0 ∧ Row wr w.heap.size 25 [.int .i64 2, .slice a 0 ca, .slice c 0 cc] ∧ Below w.heap.size w wr) (fun i _ => 0)
        case atStart => exact ⟨rfl, HB1.out, HW1.out⟩
        case round =>
          obtain ⟨rfl, hb0, hw⟩ := hrel
          have hc2 := hb0.cell (k := 2) (v := .slice c 0 cc) rfl
          have HW2 := Lib.hid hw
          clear hb0 hw
          go_wp2_with fail
          go_ret
          exact ⟨by rw [HF.out]; rfl, HW2.out⟩
    · skip
      have g1 : ((len : Int) != 0) = true := bne_iff_ne.2 (by omega)
      have HF := Lib.hid (show (headS 2 words len && allN ps len) = false by unfold headS; rw [if_pos (by decide), decide_eq_false hn0, Bool.and_false]; rfl)
      clear hl H1 H3 IH HSS HB0
      go_enter Tryz.func21, Tryz.ntmps21
      go_wp2_with fail
      go_ret
      exact ⟨by rw [HF.out]; rfl, HW.out⟩
  · skip
    have g1 : (la : Int) > 0 := by omega
    have g2 : (0 : Int) < (la : Int) := by omega
    have g3 : ¬ la = 0 := hw0
    have g4 : 0 < la := by omega
    by_cases g8 : la ≤ 8
    · have g5 : ¬ (la : Int) > 8 := by omega
      have g6 : (la : Int) ≤ 8 := by omega
      have HF := Lib.hid (show (headS 2 words len && allN ps len) = false by unfold headS; rw [if_pos (by decide), hl, decide_eq_false hw0]; rfl)
      clear hl H1 H3 IH HSS HB0
      go_enter Tryz.func21, Tryz.ntmps21
      go_wp2_with fail
      go_ret
      exact ⟨by rw [HF.out]; rfl, HW.out⟩
    have g5 : (la : Int) > 8 := by omega
    have g6 : ¬ (la : Int) ≤ 8 := by omega
    have HF := Lib.hid (show (headS 2 words len && allN ps len) = false by unfold headS; rw [if_pos (by decide), hl, decide_eq_false hw0]; rfl)
    clear hl H1 H3 IH HSS HB0
    go_enter Tryz.func21, Tryz.ntmps21
    go_wp2_with fail
    go_ret
    exact ⟨by rw [HF.out]; rfl, HW.out⟩
set_option maxHeartbeats 3200000 in
theorem ssound_3 (words : List ByteArray) (a c : Option Addr) (la ca len cc : Nat) (css : Nat → List Value) (ps : Nat → Bool) (hss : ∀ x ∈ words, x.size ≤ maxLen) (hla : (la : Int) ≤ 9223372036854775807) (hlc : (len : Int) ≤ 9223372036854775807) (w : World) (h1 : Strs w a la words) (h3 : Parts w 3 c len css)
    (ih : ∀ j, j < len → ∀ w', Below w.heap.size w w' → Calls Tryz.prog 21 #[.agg (css j).toArray] w' fun e w'' => e = .returned (.bool (ps j)) ∧ Below w'.heap.size w' w'') :
    Calls Tryz.prog 21 #[.agg #[.int .i64 3, .slice a la ca, .slice c len cc]] w fun e w' => e = .returned (.bool (headS 3 words len && allN ps len)) ∧ Below w.heap.size w w' := by
  have hl := Strs.len h1
  have HB0 := Lib.hid (Row.new w [.int .i64 3, .slice a la ca, .slice c len cc] 25)
  have HW := Lib.hid (Below.alloc1 w (.cells #[.int .i64 3, .slice a la ca, .slice c len cc] 25))
  have H1 := Lib.hid h1
  have H3 := Lib.hid h3
  have IH := Lib.hid ih
  have HSS := Lib.hid hss
  clear h1 h3 ih hss
  by_cases hw0 : la = 0
  · subst hw0
    by_cases hn0 : len = 0
    · subst hn0
      have HF := Lib.hid (show (headS 3 words 0 && allN ps 0) = true by unfold headS; rw [if_pos (by decide), hl]; rfl)
      clear hl H1 IH HSS
      go_enter Tryz.func21, Tryz.ntmps21
      go_wp2_with fail
      go_loopw [4] (fun i wr => i = .int .i64 0 ∧ Row wr w.heap.size 25 [.int .i64 3, .slice a 0 ca, .slice c 0 cc] ∧ Below w.heap.size w wr) (fun i _ => 0)
      case atStart => exact ⟨rfl, HB0.out, HW.out⟩
      case round =>
        obtain ⟨rfl, hb0, hw⟩ := hrel
        have hc1 := hb0.cell (k := 1) (v := .slice a 0 ca) rfl
        have HB1 := Lib.hid hb0
        have HW1 := Lib.hid hw
        clear hb0 hw
        go_wp2_with fail
        go_loopw [6] (fun i wr => i = .int .i64 0 ∧ Row wr w.heap.size 25 [.int .i64 3, .slice a 0 ca, .slice c 0 cc] ∧ Below w.heap.size w wr) (fun i _ => 0)
        case atStart => exact ⟨rfl, HB1.out, HW1.out⟩
        case round =>
          obtain ⟨rfl, hb0, hw⟩ := hrel
          have hc2 := hb0.cell (k := 2) (v := .slice c 0 cc) rfl
          have HW2 := Lib.hid hw
          clear hb0 hw
          go_wp2_with fail
          go_ret
          exact ⟨by rw [HF.out]; rfl, HW2.out⟩
    · skip
      have g1 : ((len : Int) != 0) = true := bne_iff_ne.2 (by omega)
      have HF := Lib.hid (show (headS 3 words len && allN ps len) = false by unfold headS; rw [if_pos (by decide), decide_eq_false hn0, Bool.and_false]; rfl)
      clear hl H1 H3 IH HSS HB0
      go_enter Tryz.func21, Tryz.ntmps21
      go_wp2_with fail
      go_ret
      exact ⟨by rw [HF.out]; rfl, HW.out⟩
  · skip
    have g1 : (la : Int) > 0 := by omega
    have g2 : (0 : Int) < (la : Int) := by omega
    have g3 : ¬ la = 0 := hw0
    have g4 : 0 < la := by omega
    by_cases g8 : la ≤ 8
    · have g5 : ¬ (la : Int) > 8 := by omega
      have g6 : (la : Int) ≤ 8 := by omega
      have HF := Lib.hid (show (headS 3 words len && allN ps len) = false by unfold headS; rw [if_pos (by decide), hl, decide_eq_false hw0]; rfl)
      clear hl H1 H3 IH HSS HB0
      go_enter Tryz.func21, Tryz.ntmps21
      go_wp2_with fail
      go_ret
      exact ⟨by rw [HF.out]; rfl, HW.out⟩
    have g5 : (la : Int) > 8 := by omega
    have g6 : ¬ (la : Int) ≤ 8 := by omega
    have HF := Lib.hid (show (headS 3 words len && allN ps len) = false by unfold headS; rw [if_pos (by decide), hl, decide_eq_false hw0]; rfl)
    clear hl H1 H3 IH HSS HB0
    go_enter Tryz.func21, Tryz.ntmps21
    go_wp2_with fail
    go_ret
    exact ⟨by rw [HF.out]; rfl, HW.out⟩
set_option maxHeartbeats 3200000 in
theorem ssound_4 (words : List ByteArray) (a c : Option Addr) (la ca len cc : Nat) (css : Nat → List Value) (ps : Nat → Bool) (hss : ∀ x ∈ words, x.size ≤ maxLen) (hla : (la : Int) ≤ 9223372036854775807) (hlc : (len : Int) ≤ 9223372036854775807) (w : World) (h1 : Strs w a la words) (h3 : Parts w 3 c len css)
    (ih : ∀ j, j < len → ∀ w', Below w.heap.size w w' → Calls Tryz.prog 21 #[.agg (css j).toArray] w' fun e w'' => e = .returned (.bool (ps j)) ∧ Below w'.heap.size w' w'') :
    Calls Tryz.prog 21 #[.agg #[.int .i64 4, .slice a la ca, .slice c len cc]] w fun e w' => e = .returned (.bool (headS 4 words len && allN ps len)) ∧ Below w.heap.size w w' := by
  have hl := Strs.len h1
  have HB0 := Lib.hid (Row.new w [.int .i64 4, .slice a la ca, .slice c len cc] 25)
  have HW := Lib.hid (Below.alloc1 w (.cells #[.int .i64 4, .slice a la ca, .slice c len cc] 25))
  have H1 := Lib.hid h1
  have H3 := Lib.hid h3
  have IH := Lib.hid ih
  have HSS := Lib.hid hss
  clear h1 h3 ih hss
  by_cases h8 : la ≤ 8
  · have g8 : ¬ (la : Int) > 8 := by omega
    have g8b : (la : Int) ≤ 8 := by omega
    by_cases hw0 : la = 0
    · subst hw0
      have HF := Lib.hid (show (headS 4 words len && allN ps len) = false by unfold headS; rw [if_neg (by decide), if_pos rfl, hl]; rfl)
      clear hl H1 H3 IH HSS HB0
      go_enter Tryz.func21, Tryz.ntmps21
      go_wp2_with fail
      go_ret
      exact ⟨by rw [HF.out]; rfl, HW.out⟩
    · have g0 : ((la : Int) == 0) = false := beq_eq_false_iff_ne.2 (by omega)
      have g0b : ¬ la = 0 := hw0
      by_cases hn0 : len = 0
      · subst hn0
        have HF := Lib.hid (show (headS 4 words 0 && allN ps 0) = okW (fun x y => eqS x y) words la by unfold headS; rw [if_neg (by decide), if_pos rfl, hl, decide_eq_true (show 1 ≤ la by omega), decide_eq_true h8, ok_4, hl]; simp [allN])
        clear hl
        go_enter Tryz.func21, Tryz.ntmps21
        go_wp2_with fail
        go_loopw [4] (fun i wr => ∃ j : Nat, j ≤ la ∧ i = .int .i64 (j : Int) ∧ okW (fun x y => eqS x y) words j = true ∧ Row wr w.heap.size 25 [.int .i64 4, .slice a la ca, .slice c 0 cc] ∧ Below w.heap.size w wr) (fun i _ => la - (intOf i).toNat)
        case atStart => exact ⟨0, Nat.zero_le _, rfl, rfl, HB0.out, HW.out⟩
        case round =>
          obtain ⟨j, hjn, rfl, hall, hb0, hw⟩ := hrel
          have bj0 : (0 : Int) ≤ (j : Int) := by omega
          have hc1 := hb0.cell (k := 1) (v := .slice a la ca) rfl
          by_cases hj : j < la
          · have hji : (j : Int) < (la : Int) := by omega
            obtain ⟨ad, hade, hc⟩ := Strs.at_ (H1.out.belowAll hw) hj
            subst hade
            have hmo := okW_more (fun x y => eqS x y) words j
            rw [hall, Bool.true_and] at hmo
            have HMO := Lib.hid hmo
            have HNO := Lib.hid (fun h => okW_no (bad := fun x y => eqS x y) (l := words) (n := j + 1) (m := la) h (by omega))
            have HNA := Lib.hid (rname_ref (nth words j) (nth_sz HSS.out j) wr)
            have HB1 := Lib.hid hb0
            have HW1 := Lib.hid hw
            clear hall hmo hb0 hw
            obtain ⟨x, hx⟩ : ∃ x, nth words j = x := ⟨_, rfl⟩
            rw [hx] at hc HNA HMO
            obtain ⟨bn, hna⟩ : ∃ b, nameB x = b := ⟨_, rfl⟩
            rw [hna] at HNA
            cases bn
            · go_wp2_with fail
              refine HNA.out.mono ?_
              rintro e w' ⟨rfl, rfl⟩
              go_wp2_with fail
              go_ret
              exact ⟨by rw [HF.out, HNO.out (by rw [HMO.out, hna]; rfl)]; rfl, HW1.out⟩
            · go_wp2_with fail
              refine HNA.out.mono ?_
              rintro e w' ⟨rfl, rfl⟩
              go_wp2_with fail
              go_loopw [5] (fun i wr => ∃ q : Nat, q ≤ j ∧ i = .int .i64 (q : Int) ∧ allN (fun q => !(fun x y => eqS x y) x (nth words q)) q = true ∧ Row wr w.heap.size 25 [.int .i64 4, .slice (some ad) la ca, .slice c 0 cc] ∧ Below w.heap.size w wr) (fun i _ => j - (intOf i).toNat)
              case atStart => exact ⟨0, Nat.zero_le _, rfl, rfl, HB1.out, HW1.out⟩
              case round =>
                obtain ⟨q, hqn, rfl, hqall, hqb, hqw⟩ := hrel
                have bq0 : (0 : Int) ≤ (q : Int) := by omega
                by_cases hq : q < j
                · have hqi : (q : Int) < (j : Int) := by omega
                  have hqi2 : (q : Int) < (la : Int) := by omega
                  obtain ⟨ae, hae, hd⟩ := Strs.at_ (H1.out.belowAll hqw) (show q < la by omega)
                  obtain ⟨af, haf, hc'⟩ := Strs.at_ (H1.out.belowAll hqw) hj
                  cases hae
                  cases haf
                  rw [hx] at hc'
                  have hq1 := hqb.cell (k := 1) (v := .slice (some ad) la ca) rfl
                  have hq0 := hqb.cell (k := 0) (v := .int .i64 4) rfl
                  have hmi := allN_more (fun q => !(fun x y => eqS x y) x (nth words q)) q
                  rw [hqall, Bool.true_and] at hmi
                  have HNI := Lib.hid (fun h => allN_no (f := fun q => !(fun x y => eqS x y) x (nth words q)) (n := q + 1) (k := j) h (by omega))
                  have HQB := Lib.hid hqb
                  have HQW := Lib.hid hqw
                  clear hqall hqb hqw
                  generalize nth words q = y at *
                  simp only at hmi
                  by_cases he : x.toList = y.toList
                  · have heb : (x.toList == y.toList) = true := beq_iff_eq.2 he
                    rw [show eqS x y = true from heb] at hmi
                    have HMI := Lib.hid hmi
                    clear hmi
                    go_wp2_with fail
                    go_region
                    go_wp2_with fail
                    go_ret
                    exact ⟨by rw [HF.out, HNO.out (by rw [HMO.out, hna, HNI.out HMI.out]; rfl)]; rfl, HQW.out.drew⟩
                  · have heb : (x.toList == y.toList) = false := beq_eq_false_iff_ne.2 he
                    rw [show eqS x y = false from heb] at hmi
                    have HMI := Lib.hid hmi
                    clear hmi
                    go_wp2_with fail
                    go_region
                    go_wp2_with fail
                    go_roundw
                    case rel => exact ⟨q + 1, by omega, by go_num, HMI.out, HQB.out.belowAll (Below.refl _ _).drew, HQW.out.drew⟩
                    case measure => simp [intOf] <;> omega
                · obtain rfl : q = j := by omega
                  have HQA := Lib.hid hqall
                  have HQB := Lib.hid hqb
                  have HQW := Lib.hid hqw
                  clear hqall hqb hqw
                  go_wp2_with fail
                  go_roundw
                  case rel => exact ⟨q + 1, by omega, by go_num, by rw [HMO.out, hna, HQA.out]; rfl, HQB.out, HQW.out⟩
                  case measure => simp [intOf] <;> omega
          · have hjla : la = j := by omega
            subst hjla
            have HA := Lib.hid hall
            have HB1 := Lib.hid hb0
            have HW1 := Lib.hid hw
            clear hall hb0 hw
            go_wp2_with fail
            go_loopw [6] (fun i wr => i = .int .i64 0 ∧ Row wr w.heap.size 25 [.int .i64 4, .slice a la ca, .slice c 0 cc] ∧ Below w.heap.size w wr) (fun i _ => 0)
            case atStart => exact ⟨rfl, HB1.out, HW1.out⟩
            case round =>
              obtain ⟨rfl, hb0, hw⟩ := hrel
              have hc2 := hb0.cell (k := 2) (v := .slice c 0 cc) rfl
              have HW2 := Lib.hid hw
              clear hb0 hw
              go_wp2_with fail
              go_ret
              exact ⟨by rw [HF.out, HA.out]; rfl, HW2.out⟩
      · skip
        have g1 : ((len : Int) != 0) = true := bne_iff_ne.2 (by omega)
        have HF := Lib.hid (show (headS 4 words len && allN ps len) = false by unfold headS; rw [if_neg (by decide), if_pos rfl, decide_eq_false hn0, Bool.and_false]; rfl)
        clear hl H1 H3 IH HSS HB0
        go_enter Tryz.func21, Tryz.ntmps21
        go_wp2_with fail
        go_ret
        exact ⟨by rw [HF.out]; rfl, HW.out⟩
  · skip
    have g8 : (la : Int) > 8 := by omega
    have g8b : ¬ (la : Int) ≤ 8 := by omega
    have g8c : (8 : Int) < (la : Int) := by omega
    have HF := Lib.hid (show (headS 4 words len && allN ps len) = false by unfold headS; rw [if_neg (by decide), if_pos rfl, hl, decide_eq_false h8, Bool.and_false]; rfl)
    clear hl H1 H3 IH HSS HB0
    go_enter Tryz.func21, Tryz.ntmps21
    go_wp2_with fail
    go_ret
    exact ⟨by rw [HF.out]; rfl, HW.out⟩
set_option maxHeartbeats 3200000 in
theorem ssound_5 (words : List ByteArray) (a c : Option Addr) (la ca len cc : Nat) (css : Nat → List Value) (ps : Nat → Bool) (hss : ∀ x ∈ words, x.size ≤ maxLen) (hla : (la : Int) ≤ 9223372036854775807) (hlc : (len : Int) ≤ 9223372036854775807) (w : World) (h1 : Strs w a la words) (h3 : Parts w 3 c len css)
    (ih : ∀ j, j < len → ∀ w', Below w.heap.size w w' → Calls Tryz.prog 21 #[.agg (css j).toArray] w' fun e w'' => e = .returned (.bool (ps j)) ∧ Below w'.heap.size w' w'') :
    Calls Tryz.prog 21 #[.agg #[.int .i64 5, .slice a la ca, .slice c len cc]] w fun e w' => e = .returned (.bool (headS 5 words len && allN ps len)) ∧ Below w.heap.size w w' := by
  have hl := Strs.len h1
  have HB0 := Lib.hid (Row.new w [.int .i64 5, .slice a la ca, .slice c len cc] 25)
  have HW := Lib.hid (Below.alloc1 w (.cells #[.int .i64 5, .slice a la ca, .slice c len cc] 25))
  have H1 := Lib.hid h1
  have H3 := Lib.hid h3
  have IH := Lib.hid ih
  have HSS := Lib.hid hss
  clear h1 h3 ih hss
  by_cases h8 : la ≤ 8
  · have g8 : ¬ (la : Int) > 8 := by omega
    have g8b : (la : Int) ≤ 8 := by omega
    by_cases hn0 : len = la
    · have HF0 := Lib.hid (show (headS 5 words len && allN ps len) = (okW (fun x y => eqS x y || ltS x y) words la && allN ps len) by unfold headS; rw [if_neg (by decide), if_neg (by decide), if_pos rfl, hl, decide_eq_true hn0, decide_eq_true h8, ok_5, hl]; rfl)
      have g1 : ((len : Int) != (la : Int)) = false := bne_eq_false_iff_eq.2 (by omega)
      subst hn0
      have g1b : ((len : Int) != (len : Int)) = false := bne_self_eq_false _
      clear hl
      go_enter Tryz.func21, Tryz.ntmps21
      go_wp2_with fail
      go_loopw [4] (fun i wr => ∃ j : Nat, j ≤ len ∧ i = .int .i64 (j : Int) ∧ okW (fun x y => eqS x y || ltS x y) words j = true ∧ Row wr w.heap.size 25 [.int .i64 5, .slice a len ca, .slice c len cc] ∧ Below w.heap.size w wr) (fun i _ => len - (intOf i).toNat)
      case atStart => exact ⟨0, Nat.zero_le _, rfl, rfl, HB0.out, HW.out⟩
      case round =>
        obtain ⟨j, hjn, rfl, hall, hb0, hw⟩ := hrel
        have bj0 : (0 : Int) ≤ (j : Int) := by omega
        have hc1 := hb0.cell (k := 1) (v := .slice a len ca) rfl
        by_cases hj : j < len
        · have hji : (j : Int) < (len : Int) := by omega
          obtain ⟨ad, hade, hc⟩ := Strs.at_ (H1.out.belowAll hw) hj
          subst hade
          have hmo := okW_more (fun x y => eqS x y || ltS x y) words j
          rw [hall, Bool.true_and] at hmo
          have HMO := Lib.hid hmo
          have HNO := Lib.hid (fun h => okW_no (bad := fun x y => eqS x y || ltS x y) (l := words) (n := j + 1) (m := len) h (by omega))
          have HNA := Lib.hid (rname_ref (nth words j) (nth_sz HSS.out j) wr)
          have HB1 := Lib.hid hb0
          have HW1 := Lib.hid hw
          clear hall hmo hb0 hw
          obtain ⟨x, hx⟩ : ∃ x, nth words j = x := ⟨_, rfl⟩
          rw [hx] at hc HNA HMO
          obtain ⟨bn, hna⟩ : ∃ b, nameB x = b := ⟨_, rfl⟩
          rw [hna] at HNA
          cases bn
          · go_wp2_with fail
            refine HNA.out.mono ?_
            rintro e w' ⟨rfl, rfl⟩
            go_wp2_with fail
            go_ret
            exact ⟨by rw [HF0.out, HNO.out (by rw [HMO.out, hna]; rfl)]; rfl, HW1.out⟩
          · go_wp2_with fail
            refine HNA.out.mono ?_
            rintro e w' ⟨rfl, rfl⟩
            go_wp2_with fail
            go_loopw [5] (fun i wr => ∃ q : Nat, q ≤ j ∧ i = .int .i64 (q : Int) ∧ allN (fun q => !(fun x y => eqS x y || ltS x y) x (nth words q)) q = true ∧ Row wr w.heap.size 25 [.int .i64 5, .slice (some ad) len ca, .slice c len cc] ∧ Below w.heap.size w wr) (fun i _ => j - (intOf i).toNat)
            case atStart => exact ⟨0, Nat.zero_le _, rfl, rfl, HB1.out, HW1.out⟩
            case round =>
              obtain ⟨q, hqn, rfl, hqall, hqb, hqw⟩ := hrel
              have bq0 : (0 : Int) ≤ (q : Int) := by omega
              by_cases hq : q < j
              · have hqi : (q : Int) < (j : Int) := by omega
                have hqi2 : (q : Int) < (len : Int) := by omega
                obtain ⟨ae, hae, hd⟩ := Strs.at_ (H1.out.belowAll hqw) (show q < len by omega)
                obtain ⟨af, haf, hc'⟩ := Strs.at_ (H1.out.belowAll hqw) hj
                cases hae
                cases haf
                rw [hx] at hc'
                have hq1 := hqb.cell (k := 1) (v := .slice (some ad) len ca) rfl
                have hq0 := hqb.cell (k := 0) (v := .int .i64 5) rfl
                have hmi := allN_more (fun q => !(fun x y => eqS x y || ltS x y) x (nth words q)) q
                rw [hqall, Bool.true_and] at hmi
                have HNI := Lib.hid (fun h => allN_no (f := fun q => !(fun x y => eqS x y || ltS x y) x (nth words q)) (n := q + 1) (k := j) h (by omega))
                have HQB := Lib.hid hqb
                have HQW := Lib.hid hqw
                clear hqall hqb hqw
                generalize nth words q = y at *
                simp only at hmi
                by_cases he : x.toList = y.toList
                · have heb : (x.toList == y.toList) = true := beq_iff_eq.2 he
                  rw [show eqS x y = true from heb] at hmi
                  rw [Bool.true_or] at hmi
                  have HMI := Lib.hid hmi
                  clear hmi
                  go_wp2_with fail
                  go_region
                  go_wp2_with fail
                  go_ret
                  exact ⟨by rw [HF0.out, HNO.out (by rw [HMO.out, hna, HNI.out HMI.out]; rfl)]; rfl, HQW.out.drew⟩
                · have heb : (x.toList == y.toList) = false := beq_eq_false_iff_ne.2 he
                  rw [show eqS x y = false from heb] at hmi
                  rw [Bool.false_or] at hmi
                  cases hlt : Go.Op.bytesLess x.toList y.toList
                  · rw [show ltS x y = false from hlt] at hmi
                    have HMI := Lib.hid hmi
                    clear hmi
                    go_wp2_with fail
                    go_region
                    go_wp2_with fail
                    go_roundw
                    case rel => exact ⟨q + 1, by omega, by go_num, HMI.out, HQB.out.belowAll (Below.refl _ _).drew, HQW.out.drew⟩
                    case measure => simp [intOf] <;> omega
                  · rw [show ltS x y = true from hlt] at hmi
                    have HMI := Lib.hid hmi
                    clear hmi
                    go_wp2_with fail
                    go_region
                    go_wp2_with fail
                    go_ret
                    exact ⟨by rw [HF0.out, HNO.out (by rw [HMO.out, hna, HNI.out HMI.out]; rfl)]; rfl, HQW.out.drew⟩
              · obtain rfl : q = j := by omega
                have HQA := Lib.hid hqall
                have HQB := Lib.hid hqb
                have HQW := Lib.hid hqw
                clear hqall hqb hqw
                go_wp2_with fail
                go_roundw
                case rel => exact ⟨q + 1, by omega, by go_num, by rw [HMO.out, hna, HQA.out]; rfl, HQB.out, HQW.out⟩
                case measure => simp [intOf] <;> omega
        · have hjlen : len = j := by omega
          subst hjlen
          have HA := Lib.hid hall
          have HB1 := Lib.hid hb0
          have HW1 := Lib.hid hw
          clear hall hb0 hw
          have RES := Lib.hid (show (headS 5 words len && allN ps len) = allN ps len by rw [HF0.out, HA.out]; rfl)
          go_wp2_with fail
          go_loopw [6] (fun i wr => ∃ j : Nat, j ≤ len ∧ i = .int .i64 (j : Int) ∧ allN ps j = true ∧ Row wr w.heap.size 25 [.int .i64 5, .slice a len ca, .slice c len cc] ∧ Below w.heap.size w wr) (fun i _ => len - (intOf i).toNat)
          case atStart => exact ⟨0, Nat.zero_le _, rfl, rfl, HB1.out, HW1.out⟩
          case round =>
            obtain ⟨p, hpn, rfl, hpall, hpb, hpw⟩ := hrel
            have bp0 : (0 : Int) ≤ (p : Int) := by omega
            have hpc := hpb.cell (k := 2) (v := .slice c len cc) rfl
            by_cases hp : p < len
            · have hpi : (p : Int) < (len : Int) := by omega
              obtain ⟨ad, hade, hlen, hcell⟩ := (H3.out.below hpw).at_ hp
              subst hade
              have hm := allN_more ps p
              rw [hpall, Bool.true_and] at hm
              have HM := Lib.hid hm
              have HNO := Lib.hid (fun h => allN_no (f := ps) (n := p + 1) (k := len) h (by omega))
              have HIX := Lib.hid (ix_s ad len cc p hp wr)
              have HC := Lib.hid hcell
              have HL := Lib.hid (s_len hlen)
              have HREC := Lib.hid (IH.out p hp wr hpw)
              have HPB := Lib.hid hpb
              have HPW := Lib.hid hpw
              clear hm hpall hcell hlen hpb hpw
              generalize ps p = bp at *
              cases bp
              · go_wp2_with (first
                  | (refine wpList_indexAt rfl 23 (.tmp 118) (.tmp 119) rfl _ _ _ rfl rfl HIX.out ?_)
                  | (refine wpList_load_at rfl 25 (.tmp 120) rfl (ad.add (p * 3)) rfl (css p) _ HC.out Tryz.underlying25 rfl HL.out ?_))
                refine HREC.out.mono ?_
                rintro e W1 ⟨rfl, hb⟩
                have HB := Lib.hid hb
                clear hb
                go_wp2_with fail
                go_ret
                exact ⟨by rw [RES.out, HNO.out HM.out]; rfl, HPW.out.trans (HB.out.mono HPW.out.size)⟩
              · go_wp2_with (first
                  | (refine wpList_indexAt rfl 23 (.tmp 118) (.tmp 119) rfl _ _ _ rfl rfl HIX.out ?_)
                  | (refine wpList_load_at rfl 25 (.tmp 120) rfl (ad.add (p * 3)) rfl (css p) _ HC.out Tryz.underlying25 rfl HL.out ?_))
                refine HREC.out.mono ?_
                rintro e W1 ⟨rfl, hb⟩
                have HB := Lib.hid hb
                clear hb
                go_wp2_with fail
                go_roundw
                case rel => exact ⟨p + 1, by omega, by go_num, HM.out, HPB.out.belowAll HB.out, HPW.out.trans (HB.out.mono HPW.out.size)⟩
                case measure => simp [intOf] <;> omega
            · obtain rfl : len = p := by omega
              have HA := Lib.hid hpall
              have HPW := Lib.hid hpw
              clear hpall hpw
              go_wp2_with fail
              go_ret
              exact ⟨by rw [RES.out, HA.out]; rfl, HPW.out⟩
    · skip
      have g1 : ((len : Int) != (la : Int)) = true := bne_iff_ne.2 (by omega)
      have HF := Lib.hid (show (headS 5 words len && allN ps len) = false by unfold headS; rw [if_neg (by decide), if_neg (by decide), if_pos rfl, hl, decide_eq_false hn0, Bool.and_false]; rfl)
      clear hl H1 H3 IH HSS HB0
      go_enter Tryz.func21, Tryz.ntmps21
      go_wp2_with fail
      go_ret
      exact ⟨by rw [HF.out]; rfl, HW.out⟩
  · skip
    have g8 : (la : Int) > 8 := by omega
    have g8b : ¬ (la : Int) ≤ 8 := by omega
    have g8c : (8 : Int) < (la : Int) := by omega
    have HF := Lib.hid (show (headS 5 words len && allN ps len) = false by unfold headS; rw [if_neg (by decide), if_neg (by decide), if_pos rfl, hl, decide_eq_false h8]; rfl)
    clear hl H1 H3 IH HSS HB0
    go_enter Tryz.func21, Tryz.ntmps21
    go_wp2_with fail
    go_ret
    exact ⟨by rw [HF.out]; rfl, HW.out⟩
end

section
set_option maxRecDepth 100000
set_option linter.unusedSimpArgs false
set_option linter.unusedVariables false
open Go.RowKit
set_option maxHeartbeats 3200000 in
theorem ssound_6 (words : List ByteArray) (a c : Option Addr) (la ca len cc : Nat) (css : Nat → List Value) (ps : Nat → Bool) (hss : ∀ x ∈ words, x.size ≤ maxLen) (hla : (la : Int) ≤ 9223372036854775807) (hlc : (len : Int) ≤ 9223372036854775807) (w : World) (h1 : Strs w a la words) (h3 : Parts w 3 c len css)
    (ih : ∀ j, j < len → ∀ w', Below w.heap.size w w' → Calls Tryz.prog 21 #[.agg (css j).toArray] w' fun e w'' => e = .returned (.bool (ps j)) ∧ Below w'.heap.size w' w'') :
    Calls Tryz.prog 21 #[.agg #[.int .i64 6, .slice a la ca, .slice c len cc]] w fun e w' => e = .returned (.bool (headS 6 words len && allN ps len)) ∧ Below w.heap.size w w' := by
  have hl := Strs.len h1
  have HB0 := Lib.hid (Row.new w [.int .i64 6, .slice a la ca, .slice c len cc] 25)
  have HW := Lib.hid (Below.alloc1 w (.cells #[.int .i64 6, .slice a la ca, .slice c len cc] 25))
  have H1 := Lib.hid h1
  have H3 := Lib.hid h3
  have IH := Lib.hid ih
  have HSS := Lib.hid hss
  clear h1 h3 ih hss
  by_cases hw0 : la = 0
  · subst hw0
    by_cases hn0 : len = 1
    · subst hn0
      have HF0 := Lib.hid (show (headS 6 words 1 && allN ps 1) = allN ps 1 by unfold headS; rw [if_neg (by decide), if_neg (by decide), if_neg (by decide), if_pos rfl, hl]; rfl)
      clear hl
      go_enter Tryz.func21, Tryz.ntmps21
      go_wp2_with fail
      go_loopw [4] (fun i wr => i = .int .i64 0 ∧ Row wr w.heap.size 25 [.int .i64 6, .slice a 0 ca, .slice c 1 cc] ∧ Below w.heap.size w wr) (fun i _ => 0)
      case atStart => exact ⟨rfl, HB0.out, HW.out⟩
      case round =>
        obtain ⟨rfl, hb0, hw⟩ := hrel
        have hc1 := hb0.cell (k := 1) (v := .slice a 0 ca) rfl
        have HB1 := Lib.hid hb0
        have HW1 := Lib.hid hw
        clear hb0 hw
        go_wp2_with fail
        go_loopw [6] (fun i wr => ∃ j : Nat, j ≤ 1 ∧ i = .int .i64 (j : Int) ∧ allN ps j = true ∧ Row wr w.heap.size 25 [.int .i64 6, .slice a 0 ca, .slice c 1 cc] ∧ Below w.heap.size w wr) (fun i _ => 1 - (intOf i).toNat)
        case atStart => exact ⟨0, Nat.zero_le _, rfl, rfl, HB1.out, HW1.out⟩
        case round =>
          obtain ⟨p, hpn, rfl, hpall, hpb, hpw⟩ := hrel
          have bp0 : (0 : Int) ≤ (p : Int) := by omega
          have hpc := hpb.cell (k := 2) (v := .slice c 1 cc) rfl
          by_cases hp : p < 1
          · have hpi : (p : Int) < ((1 : Nat) : Int) := by omega
            obtain ⟨ad, hade, hlen, hcell⟩ := (H3.out.below hpw).at_ hp
            subst hade
            have hm := allN_more ps p
            rw [hpall, Bool.true_and] at hm
            have HM := Lib.hid hm
            have HNO := Lib.hid (fun h => allN_no (f := ps) (n := p + 1) (k := 1) h (by omega))
            have HIX := Lib.hid (ix_s ad 1 cc p hp wr)
            have HC := Lib.hid hcell
            have HL := Lib.hid (s_len hlen)
            have HREC := Lib.hid (IH.out p hp wr hpw)
            have HPB := Lib.hid hpb
            have HPW := Lib.hid hpw
            clear hm hpall hcell hlen hpb hpw
            generalize ps p = bp at *
            cases bp
            · go_wp2_with (first
                | (refine wpList_indexAt rfl 23 (.tmp 118) (.tmp 119) rfl _ _ _ rfl rfl HIX.out ?_)
                | (refine wpList_load_at rfl 25 (.tmp 120) rfl (ad.add (p * 3)) rfl (css p) _ HC.out Tryz.underlying25 rfl HL.out ?_))
              refine HREC.out.mono ?_
              rintro e W1 ⟨rfl, hb⟩
              have HB := Lib.hid hb
              clear hb
              go_wp2_with fail
              go_ret
              exact ⟨by rw [HF0.out, HNO.out HM.out]; rfl, HPW.out.trans (HB.out.mono HPW.out.size)⟩
            · go_wp2_with (first
                | (refine wpList_indexAt rfl 23 (.tmp 118) (.tmp 119) rfl _ _ _ rfl rfl HIX.out ?_)
                | (refine wpList_load_at rfl 25 (.tmp 120) rfl (ad.add (p * 3)) rfl (css p) _ HC.out Tryz.underlying25 rfl HL.out ?_))
              refine HREC.out.mono ?_
              rintro e W1 ⟨rfl, hb⟩
              have HB := Lib.hid hb
              clear hb
              go_wp2_with fail
              go_roundw
              case rel => exact ⟨p + 1, by omega, by go_num, HM.out, HPB.out.belowAll HB.out, HPW.out.trans (HB.out.mono HPW.out.size)⟩
              case measure => simp [intOf] <;> omega
          · obtain rfl : p = 1 := by omega
            have HA := Lib.hid hpall
            have HPW := Lib.hid hpw
            clear hpall hpw
            go_wp2_with fail
            go_ret
            exact ⟨by rw [HF0.out, HA.out]; rfl, HPW.out⟩
    · skip
      have g1 : ((len : Int) != 1) = true := bne_iff_ne.2 (by omega)
      have HF := Lib.hid (show (headS 6 words len && allN ps len) = false by unfold headS; rw [if_neg (by decide), if_neg (by decide), if_neg (by decide), if_pos rfl, decide_eq_false hn0, Bool.and_false]; rfl)
      clear hl H1 H3 IH HSS HB0
      go_enter Tryz.func21, Tryz.ntmps21
      go_wp2_with fail
      go_ret
      exact ⟨by rw [HF.out]; rfl, HW.out⟩
  · skip
    have g1 : (la : Int) > 0 := by omega
    have g2 : (0 : Int) < (la : Int) := by omega
    have g3 : ¬ la = 0 := hw0
    have g4 : 0 < la := by omega
    by_cases g8 : la ≤ 8
    · have g5 : ¬ (la : Int) > 8 := by omega
      have g6 : (la : Int) ≤ 8 := by omega
      have HF := Lib.hid (show (headS 6 words len && allN ps len) = false by unfold headS; rw [if_neg (by decide), if_neg (by decide), if_neg (by decide), if_pos rfl, hl, decide_eq_false hw0]; rfl)
      clear hl H1 H3 IH HSS HB0
      go_enter Tryz.func21, Tryz.ntmps21
      go_wp2_with fail
      go_ret
      exact ⟨by rw [HF.out]; rfl, HW.out⟩
    have g5 : (la : Int) > 8 := by omega
    have g6 : ¬ (la : Int) ≤ 8 := by omega
    have HF := Lib.hid (show (headS 6 words len && allN ps len) = false by unfold headS; rw [if_neg (by decide), if_neg (by decide), if_neg (by decide), if_pos rfl, hl, decide_eq_false hw0]; rfl)
    clear hl H1 H3 IH HSS HB0
    go_enter Tryz.func21, Tryz.ntmps21
    go_wp2_with fail
    go_ret
    exact ⟨by rw [HF.out]; rfl, HW.out⟩

theorem ssound_0 (k : Int) (words : List ByteArray) (a c : Option Addr) (la ca len cc : Nat) (h1 : ¬ k = 1) (h2 : ¬ k = 2) (h3 : ¬ k = 3) (h4 : ¬ k = 4) (h5 : ¬ k = 5) (h6 : ¬ k = 6) (w : World) :
    Calls Tryz.prog 21 #[.agg #[.int .i64 k, .slice a la ca, .slice c len cc]] w fun e w' => e = .returned (.bool (headS k words len)) ∧ Below w.heap.size w w' := by
  have HF := Lib.hid (show headS k words len = false by unfold headS; rw [if_neg (by omega), if_neg h4, if_neg h5, if_neg h6])
  have HW := Lib.hid (Below.alloc1 w (.cells #[.int .i64 k, .slice a la ca, .slice c len cc] 25))
  by_cases hk : k < 1
  · go_enter Tryz.func21, Tryz.ntmps21
    go_wp2_with fail
    go_ret
    exact ⟨by rw [HF.out]; rfl, HW.out⟩
  · have g1 : k > 6 := by omega
    have g2 : ¬ k ≤ 6 := by omega
    have g3 : (6 : Int) < k := by omega
    go_enter Tryz.func21, Tryz.ntmps21
    go_wp2_with fail
    go_ret
    exact ⟨by rw [HF.out]; rfl, HW.out⟩
theorem St.sound_eq {k : Int} {words : List ByteArray} {len : Nat} {parts : Nat → St} : (St.mk k words len parts).sound = (headS k words len && allN (fun i => (parts i).sound) len) := by rw [St.sound]; rfl
theorem ssound_any : ∀ (v : St) (cs : List Value) (w : World), SAt w v cs →
    Calls Tryz.prog 21 #[.agg cs.toArray] w fun e w' => e = .returned (.bool v.sound) ∧ Below w.heap.size w w' := by
  intro v
  induction v with
  | nul => intro cs w h; cases h
  | mk k words len parts ih =>
    intro cs w h
    cases h with
    | mk css hk h1 h1c hss h3 h3c hp =>
    rename_i a c la ca cc
    have hla : (la : Int) ≤ 9223372036854775807 := by have := h1c.1; have := h1c.2; unfold maxLen at this; omega
    have hlc : (len : Int) ≤ 9223372036854775807 := by have := h3c.1; have := h3c.2; unfold maxLen at this; omega
    have hih : ∀ j, j < len → ∀ w', Below w.heap.size w w' → Calls Tryz.prog 21 #[.agg (css j).toArray] w' fun e w'' => e = .returned (.bool ((parts j).sound)) ∧ Below w'.heap.size w' w'' := fun j hj w' hb => ih j (css j) w' ((hp j hj).later hb)
    rw [St.sound_eq]
    by_cases c1 : k = 1
    · subst c1; exact ssound_1 words a c la ca len cc css _ hss hla hlc w h1 h3 hih
    by_cases c2 : k = 2
    · subst c2; exact ssound_2 words a c la ca len cc css _ hss hla hlc w h1 h3 hih
    by_cases c3 : k = 3
    · subst c3; exact ssound_3 words a c la ca len cc css _ hss hla hlc w h1 h3 hih
    by_cases c4 : k = 4
    · subst c4; exact ssound_4 words a c la ca len cc css _ hss hla hlc w h1 h3 hih
    by_cases c5 : k = 5
    · subst c5; exact ssound_5 words a c la ca len cc css _ hss hla hlc w h1 h3 hih
    by_cases c6 : k = 6
    · subst c6; exact ssound_6 words a c la ca len cc css _ hss hla hlc w h1 h3 hih
    have h0 := ssound_0 k words a c la ca len cc c1 c2 c3 c4 c5 c6 w
    rw [show headS k words len = false by unfold headS; rw [if_neg (by omega), if_neg c4, if_neg c5, if_neg c6]] at h0 ⊢
    exact h0
theorem sright_ref (v : St) (cs : List Value) (w : World) (h : SAt w v cs) (hd : v.depth ≤ 1000) :
    Calls Tryz.prog 7 #[.agg cs.toArray] w fun e w' => e = .returned (.bool (v.rightAt 1)) ∧ Below w.heap.size w w' := by
  have hw := Below.alloc1 w (.cells cs.toArray 25)
  have HD := Lib.hid (sdepth_ref v cs _ (h.later hw) hd)
  have HS := Lib.hid (fun wx hx => ssound_any v cs wx (h.later hx))
  have HW := Lib.hid hw
  have HB0 := Lib.hid (Row.new w cs 25)
  have HI := Lib.hid (s_info h.length)
  have HR := Lib.hid (show v.rightAt 1 = (decide (v.depth ≤ 5) && v.sound) by unfold St.rightAt; congr 1; rw [decide_eq_decide]; omega)
  clear hw h
  generalize v.depth = d at *
  generalize v.sound = bs at *
  by_cases h5 : d ≤ 5
  · have g5 : (d : Int) ≤ 5 := by omega
    go_enter Tryz.func7, Tryz.ntmps7
    go_wp2_with (refine wpList_load_row rfl 25 (.tmp 1) rfl w.heap.size rfl 25 _ (0, 0) _ HB0.out Tryz.underlying25 rfl HI.out ?_)
    refine HD.out.mono ?_
    rintro e W1 ⟨rfl, hb⟩
    have HW1 := Lib.hid (HW.out.trans (hb.mono HW.out.size))
    have HB1 := Lib.hid (HB0.out.belowAll hb)
    clear hb
    go_wp2_with (refine wpList_load_guarded (by rfl) 25 (.tmp 1) rfl w.heap.size rfl 25 _ HB1.out Tryz.underlying25 rfl HI.out ?_)
    refine (HS.out _ HW1.out).mono ?_
    rintro e W2 ⟨rfl, hb⟩
    have HB := Lib.hid hb
    clear hb
    go_wp2_with fail
    go_ret
    exact ⟨by rw [HR.out, decide_eq_true h5]; rfl, HW1.out.trans (HB.out.mono HW1.out.size)⟩
  · have g5 : ¬ (d : Int) ≤ 5 := by omega
    go_enter Tryz.func7, Tryz.ntmps7
    go_wp2_with (refine wpList_load_row rfl 25 (.tmp 1) rfl w.heap.size rfl 25 _ (0, 0) _ HB0.out Tryz.underlying25 rfl HI.out ?_)
    refine HD.out.mono ?_
    rintro e W1 ⟨rfl, hb⟩
    have HB := Lib.hid hb
    clear hb
    go_wp2_with fail
    go_ret
    exact ⟨by rw [HR.out, decide_eq_false h5]; rfl, HW.out.trans (HB.out.mono HW.out.size)⟩
end

section
open Go.RowKit

theorem Bs_at {l : List UInt8} {k : Nat} (hk : k < l.length) : (Bs l)[k]? = some (.int .u8 ((l[k]'hk).toNat : Int)) := by
  rw [Bs_get, List.getElem?_eq_getElem hk]; rfl

theorem take_eq_get {l m : List UInt8} {k : Nat} {x : UInt8} (h : l.take k = m.take k) (h1 : l[k]? = some x) (h2 : m[k]? = some x) : l.take (k + 1) = m.take (k + 1) := by
  rw [List.take_add_one, List.take_add_one, h, h1, h2]

set_option maxHeartbeats 400000 in
theorem bytes_ne (a b : Option Addr) (n m c d : Nat) (w : World) (h : n ≠ m) :
    Calls Tryz.prog 11 #[.slice a n c, .slice b m d] w fun e w' => e = .returned (.bool false) ∧ w = w' := by
  have h1 : (((n : Nat) : Int) != m) = true := by rw [bne_iff_ne]; omega
  have h2 : (n != m) = true := by rw [bne_iff_ne]; omega
  go_enter Tryz.func11, Tryz.ntmps11
  go_wp2
  go_ret
  exact ⟨rfl, rfl⟩

set_option maxHeartbeats 800000 in
theorem bytes_len (a b : Option Addr) (n c d : Nat) (l m : List UInt8) (F G : Nat → Prop) (w : World) (hn : n ≤ 9223372036854775807) (ha : Rd w F a n (Bs l)) (hb : Rd w G b n (Bs m)) :
    Calls Tryz.prog 11 #[.slice a n c, .slice b n d] w fun e w' => e = .returned (.bool (decide (l = m))) ∧ ∃ q, w' = w.drewN q := by
  have hl : l.length = n := by have := ha.1; rwa [Bs_length] at this
  have hm : m.length = n := by have := hb.1; rwa [Bs_length] at this
  have HL := Lib.hid hl
  have HM := Lib.hid hm
  have HA := Lib.hid ha
  have HB := Lib.hid hb
  clear hl hm ha hb
  go_enter Tryz.func11, Tryz.ntmps11
  go_wp2
  go_loopw [5] (fun i wr => ∃ k q : Nat, k ≤ n ∧ i = .int .i64 k ∧ wr = w.drewN q ∧ l.take k = m.take k) (fun i _ => n - (intOf i).toNat)
  case atStart => exact ⟨0, 0, Nat.zero_le _, rfl, rfl, rfl⟩
  case round =>
    obtain ⟨k, q, hk, rfl, rfl, ht⟩ := hrel
    have HT := Lib.hid ht
    clear ht
    by_cases hlt : k < n
    · obtain ⟨a0, x, rfl, hab, hx, hca⟩ := HA.out.byte hlt
      obtain ⟨b0, y, rfl, hbb, hy, hcb⟩ := HB.out.byte hlt
      have HX := Lib.hid hx
      have HY := Lib.hid hy
      clear hx hy
      by_cases hxy : x = y
      · subst hxy
        have h1 : (((x.toNat : Nat) : Int) != (x.toNat : Nat)) = false := by simp
        go_wp2
        go_quiet (fail)
        go_wp2
        go_roundw
        case rel => exact ⟨k + 1, _, by omega, by go_num, rfl, take_eq_get HT.out HX.out HY.out⟩
        case measure => simp [intOf]; omega
      · have h1 : (((x.toNat : Nat) : Int) != (y.toNat : Nat)) = true := by
          rw [bne_iff_ne]; intro h; exact hxy (UInt8.toNat_inj.1 (by omega))
        have hne : l ≠ m := by
          rintro rfl
          have := HX.out.symm.trans HY.out
          exact hxy (Option.some.inj this)
        have h2 : decide (l = m) = false := by simp [hne]
        clear hne hxy
        have H2 := Lib.hid h2
        clear h2
        go_wp2
        go_quiet (fail)
        go_wp2
        go_ret
        exact ⟨by rw [H2.out]; rfl, _, World.drewN_drewN _ _ _⟩
    · have he : k = n := by omega
      have hx : l = m := by
        have := HT.out
        rw [he, List.take_of_length_le (by rw [HL.out]; omega), List.take_of_length_le (by rw [HM.out]; omega)] at this
        exact this
      clear he
      go_wp2
      go_ret
      exact ⟨by simp [hx], q, rfl⟩

theorem bytes_any (a b : Option Addr) (n m c d : Nat) (l k : List UInt8) (F G : Nat → Prop) (w : World) (hn : n ≤ maxLen) (ha : Rd w F a n (Bs l)) (hb : Rd w G b m (Bs k)) :
    Calls Tryz.prog 11 #[.slice a n c, .slice b m d] w fun e w' => e = .returned (.bool (decide (l = k))) ∧ ∃ q, w' = w.drewN q := by
  by_cases h : n = m
  · subst h
    exact bytes_len a b n c d l k F G w (by unfold maxLen at hn; omega) ha hb
  · refine (bytes_ne a b n m c d w h).mono fun e w' ⟨he, hw⟩ => ⟨?_, 0, hw.symm⟩
    have : ¬ l = k := by
      rintro rfl
      exact h (ha.len.symm.trans hb.len)
    rw [he, decide_eq_false this]
end

section
set_option maxRecDepth 100000
set_option linter.unusedSimpArgs false
set_option linter.unusedVariables false
open Go.RowKit

theorem bl_drewN {B : Nat} {w w' : World} (h : Below B w w') (n : Nat) : Below B w (w'.drewN n) := ⟨h.os, h.tape, h.output, h.size, h.block⟩
theorem eqS_refl_ (s : ByteArray) : eqS s s = true := by unfold eqS; exact beq_self_eq_true _
theorem eqL_refl_ (l : List ByteArray) : eqL l l = true := by
  unfold eqL
  rw [decide_eq_true rfl, Bool.true_and, List.all_eq_true]
  exact fun i _ => eqS_refl_ _
theorem sameS_refl_ : ∀ {s : St}, s.sound = true → sameS s s = true := by
  intro s
  induction s with
  | nul => intro h; cases h
  | mk k words len parts ih =>
    intro h
    obtain ⟨_, hp⟩ := St.sound_mk h
    rw [sameS, decide_eq_true rfl, eqL_refl_, decide_eq_true rfl, Bool.true_and, Bool.true_and, Bool.true_and, List.all_eq_true]
    exact fun i hi => ih i (hp i (List.mem_range.1 hi))

set_option maxHeartbeats 6400000 in
theorem encodes_walk (s : St) (cs : List Value) (w : World) (h : SAt w s cs) (hty : ErrTy w) :
    Calls Tryz.prog 3 #[.agg cs.toArray] w fun e w' => e = .returned (.bool true) ∧ Below w.heap.size w w' := by
  have hw := Below.alloc1 w (.cells cs.toArray 25)
  have HB0 := Lib.hid (Row.new w cs 25)
  have HI := Lib.hid (s_info h.length)
  have HS := Lib.hid (fun wx (hx : Below w.heap.size w wx) => h.later hx)
  have HTY := Lib.hid (fun wx (hx : Below w.heap.size w wx) => hty.below hx hty.pos)
  have HW := Lib.hid hw
  clear hw h hty
  go_enter Tryz.func3, Tryz.ntmps3
  go_wp2_with (refine wpList_load_row rfl 25 (.tmp 1) rfl w.heap.size rfl 25 _ (0, 0) _ HB0.out Tryz.underlying25 rfl HI.out ?_)
  refine (sgreat_ref s cs _ (HS.out _ HW.out)).mono ?_
  rintro e W1 ⟨⟨b1, rfl, hg1⟩, hb⟩
  have HW1 := Lib.hid (HW.out.trans (hb.mono HW.out.size))
  have HB1 := Lib.hid (HB0.out.belowAll hb)
  clear hb
  cases b1
  · have hdp := (hg1 rfl).1
    clear hg1
    go_wp2_with (refine wpList_load_row rfl 25 (.tmp 1) rfl w.heap.size rfl 25 _ (0, 0) _ HB1.out Tryz.underlying25 rfl HI.out ?_)
    refine (sencode_any s cs _ (HS.out _ HW1.out)).mono ?_
    rintro e W2 ⟨henc, hb⟩
    have HW2 := Lib.hid (HW1.out.trans (hb.mono HW1.out.size))
    have HB2 := Lib.hid (HB1.out.belowAll hb)
    have HSZ := Lib.hid hb.size
    clear hb
    have HRR := Lib.hid (sright_ref s cs W2 (HS.out _ HW2.out) (by omega))
    unfold Enc at henc
    by_cases hr : s.rightAt 1 = true
    · rw [if_pos hr] at henc
      rw [hr] at HRR
      have HR := Lib.hid hr
      by_cases h4 : s.bytes.length ≤ 4096
      · rw [if_pos h4] at henc
        obtain ⟨a, c, rfl, hown⟩ := henc
        have HOW := Lib.hid hown
        have HBY := Lib.hid (fun wx (hx : Below w.heap.size w wx) => sbytes_ref s cs 1 wx (HS.out _ hx) HR.out)
        have h4i : ¬ (4096 : Int) < (s.bytes.length : Int) := by omega
        clear hr hown
        go_wp2_with (refine wpList_load_row rfl 25 (.tmp 1) rfl w.heap.size rfl 25 _ (0, 0) _ HB2.out Tryz.underlying25 rfl HI.out ?_)
        refine HRR.out.mono ?_
        rintro e W3 ⟨rfl, hb⟩
        have HW3 := Lib.hid (HW2.out.trans (hb.mono HW2.out.size))
        have HB3 := Lib.hid (HB2.out.belowAll hb)
        have HO3 := Lib.hid (own_only HOW.out (Only.of_below hb (fun _ => False)) fun _ _ h => h)
        clear hb
        go_wp2_with (refine wpList_load_row rfl 25 (.tmp 1) rfl w.heap.size rfl 25 _ (0, 0) _ HB3.out Tryz.underlying25 rfl HI.out ?_)
        refine (HBY.out _ HW3.out).mono ?_
        rintro e W4 ⟨v4, rfl, ho4, hb⟩
        obtain ⟨a4, c4, rfl⟩ := own_slice ho4
        have HW4 := Lib.hid (HW3.out.trans (hb.mono HW3.out.size))
        have HB4 := Lib.hid (HB3.out.belowAll hb)
        have HO4 := Lib.hid (own_only HO3.out (Only.of_below hb (fun _ => False)) fun _ _ h => h)
        have HP4 := Lib.hid ho4
        clear hb ho4
        have HD := Lib.hid (sdecode_any a c _ s HR.out W4 (Rd.of_own HO4.out) h4)
        go_wp2_with fail
        refine HD.out.mono ?_
        rintro e W5 ⟨kd, ad, lad, cad, bd, lbd, cbd, rfl, ⟨X, hsx, _⟩, hb⟩
        have HW5 := Lib.hid ((HW4.out.trans (hb.mono HW4.out.size)).trans ((below_new W5 (.cells #[.int .i64 kd, .slice ad lad cad, .slice bd lbd cbd] 25)).mono (HW4.out.trans (hb.mono HW4.out.size)).size))
        have HB5 := Lib.hid ((HB4.out.belowAll hb).alloc (.cells #[.int .i64 kd, .slice ad lad cad, .slice bd lbd cbd] 25))
        have HN5 := Lib.hid (Row.new W5 [.int .i64 kd, .slice ad lad cad, .slice bd lbd cbd] 25)
        have HQ5 := Lib.hid (hsx.sat.later (below_new W5 (.cells #[.int .i64 kd, .slice ad lad cad, .slice bd lbd cbd] 25)))
        have hbe := bytes_any a a4 s.bytes.length s.bytes.length c c4 s.bytes s.bytes _ _ (W5.alloc (.cells #[.int .i64 kd, .slice ad lad cad, .slice bd lbd cbd] 25)) (by unfold maxLen; omega)
          (Rd.of_own (World.ownsRow.alloc (own_only HO4.out (Only.of_below hb (fun _ => False)) fun _ _ h => h) _)) (Rd.of_own (World.ownsRow.alloc (own_only HP4.out (Only.of_below hb (fun _ => False)) fun _ _ h => h) _))
        rw [decide_eq_true rfl] at hbe
        have HBE := Lib.hid hbe
        clear hb hbe hsx
        go_wp2_with fail
        refine HBE.out.mono ?_
        rintro e W6 ⟨rfl, q, rfl⟩
        have hsm := rsameS_ref s s [.int .i64 kd, .slice ad lad cad, .slice bd lbd cbd] cs ((W5.alloc (.cells #[.int .i64 kd, .slice ad lad cad, .slice bd lbd cbd] 25)).drewN q) (HQ5.out.later (bl_drewN (Below.refl _ _) q)) (HS.out _ (bl_drewN HW5.out q))
        rw [sameS_refl_ (St.sound_of HR.out)] at hsm
        have HSM := Lib.hid hsm
        have HB6 := Lib.hid (show Row ((W5.alloc (.cells #[.int .i64 kd, .slice ad lad cad, .slice bd lbd cbd] 25)).drewN q) w.heap.size 25 cs from HB5.out)
        have HN6 := Lib.hid (show Row ((W5.alloc (.cells #[.int .i64 kd, .slice ad lad cad, .slice bd lbd cbd] 25)).drewN q) W5.heap.size 25 _ from HN5.out)
        clear hsm
        go_wp2_with (first | (refine wpList_load_guarded (by rfl) 25 (.tmp 6) rfl W5.heap.size rfl 25 _ HN6.out Tryz.underlying25 rfl (s_info (cs := [.int .i64 kd, .slice ad lad cad, .slice bd lbd cbd]) rfl) ?_) | (refine wpList_load_guarded (by rfl) 25 (.tmp 1) rfl w.heap.size rfl 25 _ HB6.out Tryz.underlying25 rfl HI.out ?_))
        refine HSM.out.mono ?_
        rintro e W7 ⟨rfl, hb⟩
        have HW7 := Lib.hid ((bl_drewN HW5.out q).trans (hb.mono (bl_drewN HW5.out q).size))
        clear hb
        go_wp2_with fail
        refine (sawake_any _).mono ?_
        rintro e W8 ⟨rfl, hb⟩
        have HW8 := Lib.hid (HW7.out.trans (hb.mono HW7.out.size))
        clear hb
        go_wp2_with fail
        go_ret
        exact ⟨rfl, HW8.out⟩
      · rw [if_neg h4] at henc
        subst henc
        have HBY := Lib.hid (fun wx (hx : Below w.heap.size w wx) => sbytes_ref s cs 1 wx (HS.out _ hx) HR.out)
        have h4i : (4096 : Int) < (s.bytes.length : Int) := by omega
        clear hr
        go_wp2_with (refine wpList_load_row rfl 25 (.tmp 1) rfl w.heap.size rfl 25 _ (0, 0) _ HB2.out Tryz.underlying25 rfl HI.out ?_)
        refine HRR.out.mono ?_
        rintro e W3 ⟨rfl, hb⟩
        have HW3 := Lib.hid (HW2.out.trans (hb.mono HW2.out.size))
        have HB3 := Lib.hid (HB2.out.belowAll hb)
        clear hb
        go_wp2_with (refine wpList_load_row rfl 25 (.tmp 1) rfl w.heap.size rfl 25 _ (0, 0) _ HB3.out Tryz.underlying25 rfl HI.out ?_)
        refine (HBY.out _ HW3.out).mono ?_
        rintro e W4 ⟨v4, rfl, ho4, hb⟩
        obtain ⟨a4, c4, rfl⟩ := own_slice ho4
        have HW4 := Lib.hid (HW3.out.trans (hb.mono HW3.out.size))
        clear hb ho4
        go_wp2_with fail
        refine (lcode_plain 3 _ (HTY.out _ HW4.out)).mono ?_
        rintro e W5 ⟨rfl, hb⟩
        have HW5 := Lib.hid (HW4.out.trans (hb.mono HW4.out.size))
        clear hb
        go_wp2_with fail
        refine (sawake_any _).mono ?_
        rintro e W8 ⟨rfl, hb⟩
        have HW8 := Lib.hid (HW5.out.trans (hb.mono HW5.out.size))
        clear hb
        go_wp2_with fail
        go_ret
        exact ⟨rfl, HW8.out⟩
    · have hr' : s.rightAt 1 = false := by simpa using hr
      rw [if_neg hr] at henc
      rw [hr'] at HRR
      subst henc
      clear hr hr'
      go_wp2_with (refine wpList_load_row rfl 25 (.tmp 1) rfl w.heap.size rfl 25 _ (0, 0) _ HB2.out Tryz.underlying25 rfl HI.out ?_)
      refine HRR.out.mono ?_
      rintro e W4 ⟨rfl, hb⟩
      have HW4 := Lib.hid (HW2.out.trans (hb.mono HW2.out.size))
      clear hb
      go_wp2_with fail
      refine (lcode_plain 1 _ (HTY.out _ HW4.out)).mono ?_
      rintro e W5 ⟨rfl, hb⟩
      have HW5 := Lib.hid (HW4.out.trans (hb.mono HW4.out.size))
      clear hb
      go_wp2_with fail
      refine (sawake_any _).mono ?_
      rintro e W8 ⟨rfl, hb⟩
      have HW8 := Lib.hid (HW5.out.trans (hb.mono HW5.out.size))
      clear hb
      go_wp2_with fail
      go_ret
      exact ⟨rfl, HW8.out⟩
  · clear hg1
    go_wp2_with fail
    refine (sawake_any _).mono ?_
    rintro e W8 ⟨rfl, hb⟩
    have HW8 := Lib.hid (HW1.out.trans (hb.mono HW1.out.size))
    clear hb
    go_wp2_with fail
    go_ret
    exact ⟨rfl, HW8.out⟩
end

end Go.Proofs.YtkkdjkmnemnpdaaGreatDoor
