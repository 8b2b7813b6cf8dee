/- Whether a schema is right: the document. -/
import Derived.Test.YteeabfckjjbmkaaRd
namespace Go.Proofs.Yteeabfckjjbmkaa
set_option maxRecDepth 100000
set_option linter.unusedSimpArgs false
set_option linter.unusedVariables false
open Go.RowKit

/-- The first words are names, and none is bad beside one before it. -/
def okW (bad : ByteArray → ByteArray → Bool) (l : List ByteArray) (n : Nat) : Bool := (List.range n).all fun i => nameB (nth l i) && allN (fun j => !bad (nth l i) (nth l j)) i
theorem okW_more (bad : ByteArray → ByteArray → Bool) (l : List ByteArray) (n : Nat) : okW bad l (n + 1) = (okW bad l n && (nameB (nth l n) && allN (fun j => !bad (nth l n) (nth l j)) n)) := by
  unfold okW
  rw [List.range_succ, List.all_append]
  simp only [List.all_cons, List.all_nil, Bool.and_true]
theorem okW_no {bad : ByteArray → ByteArray → Bool} {l : List ByteArray} {n m : Nat} (h : okW bad l n = false) (hm : n ≤ m) : okW bad l m = false := by
  unfold okW at *
  rw [← Bool.not_eq_true, List.all_eq_true] at *
  exact fun h' => h fun i hi => h' i (List.mem_range.2 (by have := List.mem_range.1 hi; omega))
theorem ok_4 (l : List ByteArray) : wordsB l = okW (fun x y => eqS x y) l l.length := rfl
theorem ok_5 (l : List ByteArray) : riseB l = okW (fun x y => eqS x y || ltS x y) l l.length := by rw [← pair_rise]; rfl
set_option maxHeartbeats 3200000 in
theorem ssound_1 (words : List ByteArray) (a c : Option Addr) (la ca len cc : Nat) (css : Nat → List Value) (ps : Nat → Bool) (hss : ∀ x ∈ words, x.size ≤ maxLen) (hla : (la : Int) ≤ 9223372036854775807) (hlc : (len : Int) ≤ 9223372036854775807) (w : World) (h1 : Strs w a la words) (h3 : Parts w 3 c len css)
    (ih : ∀ j, j < len → ∀ w', Below w.heap.size w w' → Calls Try.prog 79 #[.agg (css j).toArray] w' fun e w'' => e = .returned (.bool (ps j)) ∧ Below w'.heap.size w' w'') :
    Calls Try.prog 79 #[.agg #[.int .i64 1, .slice a la ca, .slice c len cc]] w fun e w' => e = .returned (.bool (headS 1 words len && allN ps len)) ∧ Below w.heap.size w w' := by
  have hl := Strs.len h1
  have HB0 := Lib.hid (Row.new w [.int .i64 1, .slice a la ca, .slice c len cc] 41)
  have HW := Lib.hid (Below.alloc1 w (.cells #[.int .i64 1, .slice a la ca, .slice c len cc] 41))
  have H1 := Lib.hid h1
  have H3 := Lib.hid h3
  have IH := Lib.hid ih
  have HSS := Lib.hid hss
  clear h1 h3 ih hss
  by_cases hw0 : la = 0
  · subst hw0
    by_cases hn0 : len = 0
    · subst hn0
      have HF := Lib.hid (show (headS 1 words 0 && allN ps 0) = true by unfold headS; rw [if_pos (by decide), hl]; rfl)
      clear hl H1 IH HSS
      go_enter Try.func79, Try.ntmps79
      go_wp2_with fail
      go_loopw [4] (fun i wr => i = .int .i64 0 ∧ Row wr w.heap.size 41 [.int .i64 1, .slice a 0 ca, .slice c 0 cc] ∧ Below w.heap.size w wr) (fun i _ => 0)
      case atStart => exact ⟨rfl, HB0.out, HW.out⟩
      case round =>
        obtain ⟨rfl, hb0, hw⟩ := hrel
        have hc1 := hb0.cell (k := 1) (v := .slice a 0 ca) rfl
        have HB1 := Lib.hid hb0
        have HW1 := Lib.hid hw
        clear hb0 hw
        go_wp2_with fail
        go_loopw [6] (fun i wr => i = .int .i64 0 ∧ Row wr w.heap.size 41 [.int .i64 1, .slice a 0 ca, .slice c 0 cc] ∧ Below w.heap.size w wr) (fun i _ => 0)
        case atStart => exact ⟨rfl, HB1.out, HW1.out⟩
        case round =>
          obtain ⟨rfl, hb0, hw⟩ := hrel
          have hc2 := hb0.cell (k := 2) (v := .slice c 0 cc) rfl
          have HW2 := Lib.hid hw
          clear hb0 hw
          go_wp2_with fail
          go_ret
          exact ⟨by rw [HF.out]; rfl, HW2.out⟩
    · skip
      have g1 : ((len : Int) != 0) = true := bne_iff_ne.2 (by omega)
      have HF := Lib.hid (show (headS 1 words len && allN ps len) = false by unfold headS; rw [if_pos (by decide), decide_eq_false hn0, Bool.and_false]; rfl)
      clear hl H1 H3 IH HSS HB0
      go_enter Try.func79, Try.ntmps79
      go_wp2_with fail
      go_ret
      exact ⟨by rw [HF.out]; rfl, HW.out⟩
  · skip
    have g1 : (la : Int) > 0 := by omega
    have g2 : (0 : Int) < (la : Int) := by omega
    have g3 : ¬ la = 0 := hw0
    have g4 : 0 < la := by omega
    by_cases g8 : la ≤ 8
    · have g5 : ¬ (la : Int) > 8 := by omega
      have g6 : (la : Int) ≤ 8 := by omega
      have HF := Lib.hid (show (headS 1 words len && allN ps len) = false by unfold headS; rw [if_pos (by decide), hl, decide_eq_false hw0]; rfl)
      clear hl H1 H3 IH HSS HB0
      go_enter Try.func79, Try.ntmps79
      go_wp2_with fail
      go_ret
      exact ⟨by rw [HF.out]; rfl, HW.out⟩
    have g5 : (la : Int) > 8 := by omega
    have g6 : ¬ (la : Int) ≤ 8 := by omega
    have HF := Lib.hid (show (headS 1 words len && allN ps len) = false by unfold headS; rw [if_pos (by decide), hl, decide_eq_false hw0]; rfl)
    clear hl H1 H3 IH HSS HB0
    go_enter Try.func79, Try.ntmps79
    go_wp2_with fail
    go_ret
    exact ⟨by rw [HF.out]; rfl, HW.out⟩
set_option maxHeartbeats 3200000 in
theorem ssound_2 (words : List ByteArray) (a c : Option Addr) (la ca len cc : Nat) (css : Nat → List Value) (ps : Nat → Bool) (hss : ∀ x ∈ words, x.size ≤ maxLen) (hla : (la : Int) ≤ 9223372036854775807) (hlc : (len : Int) ≤ 9223372036854775807) (w : World) (h1 : Strs w a la words) (h3 : Parts w 3 c len css)
    (ih : ∀ j, j < len → ∀ w', Below w.heap.size w w' → Calls Try.prog 79 #[.agg (css j).toArray] w' fun e w'' => e = .returned (.bool (ps j)) ∧ Below w'.heap.size w' w'') :
    Calls Try.prog 79 #[.agg #[.int .i64 2, .slice a la ca, .slice c len cc]] w fun e w' => e = .returned (.bool (headS 2 words len && allN ps len)) ∧ Below w.heap.size w w' := by
  have hl := Strs.len h1
  have HB0 := Lib.hid (Row.new w [.int .i64 2, .slice a la ca, .slice c len cc] 41)
  have HW := Lib.hid (Below.alloc1 w (.cells #[.int .i64 2, .slice a la ca, .slice c len cc] 41))
  have H1 := Lib.hid h1
  have H3 := Lib.hid h3
  have IH := Lib.hid ih
  have HSS := Lib.hid hss
  clear h1 h3 ih hss
  by_cases hw0 : la = 0
  · subst hw0
    by_cases hn0 : len = 0
    · subst hn0
      have HF := Lib.hid (show (headS 2 words 0 && allN ps 0) = true by unfold headS; rw [if_pos (by decide), hl]; rfl)
      clear hl H1 IH HSS
      go_enter Try.func79, Try.ntmps79
      go_wp2_with fail
      go_loopw [4] (fun i wr => i = .int .i64 0 ∧ Row wr w.heap.size 41 [.int .i64 2, .slice a 0 ca, .slice c 0 cc] ∧ Below w.heap.size w wr) (fun i _ => 0)
      case atStart => exact ⟨rfl, HB0.out, HW.out⟩
      case round =>
        obtain ⟨rfl, hb0, hw⟩ := hrel
        have hc1 := hb0.cell (k := 1) (v := .slice a 0 ca) rfl
        have HB1 := Lib.hid hb0
        have HW1 := Lib.hid hw
        clear hb0 hw
        go_wp2_with fail
        go_loopw [6] (fun i wr => i = .int .i64 0 ∧ Row wr w.heap.size 41 [.int .i64 2, .slice a 0 ca, .slice c 0 cc] ∧ Below w.heap.size w wr) (fun i _ => 0)
        case atStart => exact ⟨rfl, HB1.out, HW1.out⟩
        case round =>
          obtain ⟨rfl, hb0, hw⟩ := hrel
          have hc2 := hb0.cell (k := 2) (v := .slice c 0 cc) rfl
          have HW2 := Lib.hid hw
          clear hb0 hw
          go_wp2_with fail
          go_ret
          exact ⟨by rw [HF.out]; rfl, HW2.out⟩
    · skip
      have g1 : ((len : Int) != 0) = true := bne_iff_ne.2 (by omega)
      have HF := Lib.hid (show (headS 2 words len && allN ps len) = false by unfold headS; rw [if_pos (by decide), decide_eq_false hn0, Bool.and_false]; rfl)
      clear hl H1 H3 IH HSS HB0
      go_enter Try.func79, Try.ntmps79
      go_wp2_with fail
      go_ret
      exact ⟨by rw [HF.out]; rfl, HW.out⟩
  · skip
    have g1 : (la : Int) > 0 := by omega
    have g2 : (0 : Int) < (la : Int) := by omega
    have g3 : ¬ la = 0 := hw0
    have g4 : 0 < la := by omega
    by_cases g8 : la ≤ 8
    · have g5 : ¬ (la : Int) > 8 := by omega
      have g6 : (la : Int) ≤ 8 := by omega
      have HF := Lib.hid (show (headS 2 words len && allN ps len) = false by unfold headS; rw [if_pos (by decide), hl, decide_eq_false hw0]; rfl)
      clear hl H1 H3 IH HSS HB0
      go_enter Try.func79, Try.ntmps79
      go_wp2_with fail
      go_ret
      exact ⟨by rw [HF.out]; rfl, HW.out⟩
    have g5 : (la : Int) > 8 := by omega
    have g6 : ¬ (la : Int) ≤ 8 := by omega
    have HF := Lib.hid (show (headS 2 words len && allN ps len) = false by unfold headS; rw [if_pos (by decide), hl, decide_eq_false hw0]; rfl)
    clear hl H1 H3 IH HSS HB0
    go_enter Try.func79, Try.ntmps79
    go_wp2_with fail
    go_ret
    exact ⟨by rw [HF.out]; rfl, HW.out⟩
set_option maxHeartbeats 3200000 in
theorem ssound_3 (words : List ByteArray) (a c : Option Addr) (la ca len cc : Nat) (css : Nat → List Value) (ps : Nat → Bool) (hss : ∀ x ∈ words, x.size ≤ maxLen) (hla : (la : Int) ≤ 9223372036854775807) (hlc : (len : Int) ≤ 9223372036854775807) (w : World) (h1 : Strs w a la words) (h3 : Parts w 3 c len css)
    (ih : ∀ j, j < len → ∀ w', Below w.heap.size w w' → Calls Try.prog 79 #[.agg (css j).toArray] w' fun e w'' => e = .returned (.bool (ps j)) ∧ Below w'.heap.size w' w'') :
    Calls Try.prog 79 #[.agg #[.int .i64 3, .slice a la ca, .slice c len cc]] w fun e w' => e = .returned (.bool (headS 3 words len && allN ps len)) ∧ Below w.heap.size w w' := by
  have hl := Strs.len h1
  have HB0 := Lib.hid (Row.new w [.int .i64 3, .slice a la ca, .slice c len cc] 41)
  have HW := Lib.hid (Below.alloc1 w (.cells #[.int .i64 3, .slice a la ca, .slice c len cc] 41))
  have H1 := Lib.hid h1
  have H3 := Lib.hid h3
  have IH := Lib.hid ih
  have HSS := Lib.hid hss
  clear h1 h3 ih hss
  by_cases hw0 : la = 0
  · subst hw0
    by_cases hn0 : len = 0
    · subst hn0
      have HF := Lib.hid (show (headS 3 words 0 && allN ps 0) = true by unfold headS; rw [if_pos (by decide), hl]; rfl)
      clear hl H1 IH HSS
      go_enter Try.func79, Try.ntmps79
      go_wp2_with fail
      go_loopw [4] (fun i wr => i = .int .i64 0 ∧ Row wr w.heap.size 41 [.int .i64 3, .slice a 0 ca, .slice c 0 cc] ∧ Below w.heap.size w wr) (fun i _ => 0)
      case atStart => exact ⟨rfl, HB0.out, HW.out⟩
      case round =>
        obtain ⟨rfl, hb0, hw⟩ := hrel
        have hc1 := hb0.cell (k := 1) (v := .slice a 0 ca) rfl
        have HB1 := Lib.hid hb0
        have HW1 := Lib.hid hw
        clear hb0 hw
        go_wp2_with fail
        go_loopw [6] (fun i wr => i = .int .i64 0 ∧ Row wr w.heap.size 41 [.int .i64 3, .slice a 0 ca, .slice c 0 cc] ∧ Below w.heap.size w wr) (fun i _ => 0)
        case atStart => exact ⟨rfl, HB1.out, HW1.out⟩
        case round =>
          obtain ⟨rfl, hb0, hw⟩ := hrel
          have hc2 := hb0.cell (k := 2) (v := .slice c 0 cc) rfl
          have HW2 := Lib.hid hw
          clear hb0 hw
          go_wp2_with fail
          go_ret
          exact ⟨by rw [HF.out]; rfl, HW2.out⟩
    · skip
      have g1 : ((len : Int) != 0) = true := bne_iff_ne.2 (by omega)
      have HF := Lib.hid (show (headS 3 words len && allN ps len) = false by unfold headS; rw [if_pos (by decide), decide_eq_false hn0, Bool.and_false]; rfl)
      clear hl H1 H3 IH HSS HB0
      go_enter Try.func79, Try.ntmps79
      go_wp2_with fail
      go_ret
      exact ⟨by rw [HF.out]; rfl, HW.out⟩
  · skip
    have g1 : (la : Int) > 0 := by omega
    have g2 : (0 : Int) < (la : Int) := by omega
    have g3 : ¬ la = 0 := hw0
    have g4 : 0 < la := by omega
    by_cases g8 : la ≤ 8
    · have g5 : ¬ (la : Int) > 8 := by omega
      have g6 : (la : Int) ≤ 8 := by omega
      have HF := Lib.hid (show (headS 3 words len && allN ps len) = false by unfold headS; rw [if_pos (by decide), hl, decide_eq_false hw0]; rfl)
      clear hl H1 H3 IH HSS HB0
      go_enter Try.func79, Try.ntmps79
      go_wp2_with fail
      go_ret
      exact ⟨by rw [HF.out]; rfl, HW.out⟩
    have g5 : (la : Int) > 8 := by omega
    have g6 : ¬ (la : Int) ≤ 8 := by omega
    have HF := Lib.hid (show (headS 3 words len && allN ps len) = false by unfold headS; rw [if_pos (by decide), hl, decide_eq_false hw0]; rfl)
    clear hl H1 H3 IH HSS HB0
    go_enter Try.func79, Try.ntmps79
    go_wp2_with fail
    go_ret
    exact ⟨by rw [HF.out]; rfl, HW.out⟩
set_option maxHeartbeats 3200000 in
theorem ssound_4 (words : List ByteArray) (a c : Option Addr) (la ca len cc : Nat) (css : Nat → List Value) (ps : Nat → Bool) (hss : ∀ x ∈ words, x.size ≤ maxLen) (hla : (la : Int) ≤ 9223372036854775807) (hlc : (len : Int) ≤ 9223372036854775807) (w : World) (h1 : Strs w a la words) (h3 : Parts w 3 c len css)
    (ih : ∀ j, j < len → ∀ w', Below w.heap.size w w' → Calls Try.prog 79 #[.agg (css j).toArray] w' fun e w'' => e = .returned (.bool (ps j)) ∧ Below w'.heap.size w' w'') :
    Calls Try.prog 79 #[.agg #[.int .i64 4, .slice a la ca, .slice c len cc]] w fun e w' => e = .returned (.bool (headS 4 words len && allN ps len)) ∧ Below w.heap.size w w' := by
  have hl := Strs.len h1
  have HB0 := Lib.hid (Row.new w [.int .i64 4, .slice a la ca, .slice c len cc] 41)
  have HW := Lib.hid (Below.alloc1 w (.cells #[.int .i64 4, .slice a la ca, .slice c len cc] 41))
  have H1 := Lib.hid h1
  have H3 := Lib.hid h3
  have IH := Lib.hid ih
  have HSS := Lib.hid hss
  clear h1 h3 ih hss
  by_cases h8 : la ≤ 8
  · have g8 : ¬ (la : Int) > 8 := by omega
    have g8b : (la : Int) ≤ 8 := by omega
    by_cases hw0 : la = 0
    · subst hw0
      have HF := Lib.hid (show (headS 4 words len && allN ps len) = false by unfold headS; rw [if_neg (by decide), if_pos rfl, hl]; rfl)
      clear hl H1 H3 IH HSS HB0
      go_enter Try.func79, Try.ntmps79
      go_wp2_with fail
      go_ret
      exact ⟨by rw [HF.out]; rfl, HW.out⟩
    · have g0 : ((la : Int) == 0) = false := beq_eq_false_iff_ne.2 (by omega)
      have g0b : ¬ la = 0 := hw0
      by_cases hn0 : len = 0
      · subst hn0
        have HF := Lib.hid (show (headS 4 words 0 && allN ps 0) = okW (fun x y => eqS x y) words la by unfold headS; rw [if_neg (by decide), if_pos rfl, hl, decide_eq_true (show 1 ≤ la by omega), decide_eq_true h8, ok_4, hl]; simp [allN])
        clear hl
        go_enter Try.func79, Try.ntmps79
        go_wp2_with fail
        go_loopw [4] (fun i wr => ∃ j : Nat, j ≤ la ∧ i = .int .i64 (j : Int) ∧ okW (fun x y => eqS x y) words j = true ∧ Row wr w.heap.size 41 [.int .i64 4, .slice a la ca, .slice c 0 cc] ∧ Below w.heap.size w wr) (fun i _ => la - (intOf i).toNat)
        case atStart => exact ⟨0, Nat.zero_le _, rfl, rfl, HB0.out, HW.out⟩
        case round =>
          obtain ⟨j, hjn, rfl, hall, hb0, hw⟩ := hrel
          have bj0 : (0 : Int) ≤ (j : Int) := by omega
          have hc1 := hb0.cell (k := 1) (v := .slice a la ca) rfl
          by_cases hj : j < la
          · have hji : (j : Int) < (la : Int) := by omega
            obtain ⟨ad, hade, hc⟩ := Strs.at_ (H1.out.belowAll hw) hj
            subst hade
            have hmo := okW_more (fun x y => eqS x y) words j
            rw [hall, Bool.true_and] at hmo
            have HMO := Lib.hid hmo
            have HNO := Lib.hid (fun h => okW_no (bad := fun x y => eqS x y) (l := words) (n := j + 1) (m := la) h (by omega))
            have HNA := Lib.hid (rname_ref (nth words j) (nth_sz HSS.out j) wr)
            have HB1 := Lib.hid hb0
            have HW1 := Lib.hid hw
            clear hall hmo hb0 hw
            obtain ⟨x, hx⟩ : ∃ x, nth words j = x := ⟨_, rfl⟩
            rw [hx] at hc HNA HMO
            obtain ⟨bn, hna⟩ : ∃ b, nameB x = b := ⟨_, rfl⟩
            rw [hna] at HNA
            cases bn
            · go_wp2_with fail
              refine HNA.out.mono ?_
              rintro e w' ⟨rfl, rfl⟩
              go_wp2_with fail
              go_ret
              exact ⟨by rw [HF.out, HNO.out (by rw [HMO.out, hna]; rfl)]; rfl, HW1.out⟩
            · go_wp2_with fail
              refine HNA.out.mono ?_
              rintro e w' ⟨rfl, rfl⟩
              go_wp2_with fail
              go_loopw [5] (fun i wr => ∃ q : Nat, q ≤ j ∧ i = .int .i64 (q : Int) ∧ allN (fun q => !(fun x y => eqS x y) x (nth words q)) q = true ∧ Row wr w.heap.size 41 [.int .i64 4, .slice (some ad) la ca, .slice c 0 cc] ∧ Below w.heap.size w wr) (fun i _ => j - (intOf i).toNat)
              case atStart => exact ⟨0, Nat.zero_le _, rfl, rfl, HB1.out, HW1.out⟩
              case round =>
                obtain ⟨q, hqn, rfl, hqall, hqb, hqw⟩ := hrel
                have bq0 : (0 : Int) ≤ (q : Int) := by omega
                by_cases hq : q < j
                · have hqi : (q : Int) < (j : Int) := by omega
                  have hqi2 : (q : Int) < (la : Int) := by omega
                  obtain ⟨ae, hae, hd⟩ := Strs.at_ (H1.out.belowAll hqw) (show q < la by omega)
                  obtain ⟨af, haf, hc'⟩ := Strs.at_ (H1.out.belowAll hqw) hj
                  cases hae
                  cases haf
                  rw [hx] at hc'
                  have hq1 := hqb.cell (k := 1) (v := .slice (some ad) la ca) rfl
                  have hq0 := hqb.cell (k := 0) (v := .int .i64 4) rfl
                  have hmi := allN_more (fun q => !(fun x y => eqS x y) x (nth words q)) q
                  rw [hqall, Bool.true_and] at hmi
                  have HNI := Lib.hid (fun h => allN_no (f := fun q => !(fun x y => eqS x y) x (nth words q)) (n := q + 1) (k := j) h (by omega))
                  have HQB := Lib.hid hqb
                  have HQW := Lib.hid hqw
                  clear hqall hqb hqw
                  generalize nth words q = y at *
                  simp only at hmi
                  by_cases he : x.toList = y.toList
                  · have heb : (x.toList == y.toList) = true := beq_iff_eq.2 he
                    rw [show eqS x y = true from heb] at hmi
                    have HMI := Lib.hid hmi
                    clear hmi
                    go_wp2_with fail
                    go_region
                    go_wp2_with fail
                    go_ret
                    exact ⟨by rw [HF.out, HNO.out (by rw [HMO.out, hna, HNI.out HMI.out]; rfl)]; rfl, HQW.out.drew⟩
                  · have heb : (x.toList == y.toList) = false := beq_eq_false_iff_ne.2 he
                    rw [show eqS x y = false from heb] at hmi
                    have HMI := Lib.hid hmi
                    clear hmi
                    go_wp2_with fail
                    go_region
                    go_wp2_with fail
                    go_roundw
                    case rel => exact ⟨q + 1, by omega, by go_num, HMI.out, HQB.out.belowAll (Below.refl _ _).drew, HQW.out.drew⟩
                    case measure => simp [intOf] <;> omega
                · obtain rfl : q = j := by omega
                  have HQA := Lib.hid hqall
                  have HQB := Lib.hid hqb
                  have HQW := Lib.hid hqw
                  clear hqall hqb hqw
                  go_wp2_with fail
                  go_roundw
                  case rel => exact ⟨q + 1, by omega, by go_num, by rw [HMO.out, hna, HQA.out]; rfl, HQB.out, HQW.out⟩
                  case measure => simp [intOf] <;> omega
          · have hjla : la = j := by omega
            subst hjla
            have HA := Lib.hid hall
            have HB1 := Lib.hid hb0
            have HW1 := Lib.hid hw
            clear hall hb0 hw
            go_wp2_with fail
            go_loopw [6] (fun i wr => i = .int .i64 0 ∧ Row wr w.heap.size 41 [.int .i64 4, .slice a la ca, .slice c 0 cc] ∧ Below w.heap.size w wr) (fun i _ => 0)
            case atStart => exact ⟨rfl, HB1.out, HW1.out⟩
            case round =>
              obtain ⟨rfl, hb0, hw⟩ := hrel
              have hc2 := hb0.cell (k := 2) (v := .slice c 0 cc) rfl
              have HW2 := Lib.hid hw
              clear hb0 hw
              go_wp2_with fail
              go_ret
              exact ⟨by rw [HF.out, HA.out]; rfl, HW2.out⟩
      · skip
        have g1 : ((len : Int) != 0) = true := bne_iff_ne.2 (by omega)
        have HF := Lib.hid (show (headS 4 words len && allN ps len) = false by unfold headS; rw [if_neg (by decide), if_pos rfl, decide_eq_false hn0, Bool.and_false]; rfl)
        clear hl H1 H3 IH HSS HB0
        go_enter Try.func79, Try.ntmps79
        go_wp2_with fail
        go_ret
        exact ⟨by rw [HF.out]; rfl, HW.out⟩
  · skip
    have g8 : (la : Int) > 8 := by omega
    have g8b : ¬ (la : Int) ≤ 8 := by omega
    have g8c : (8 : Int) < (la : Int) := by omega
    have HF := Lib.hid (show (headS 4 words len && allN ps len) = false by unfold headS; rw [if_neg (by decide), if_pos rfl, hl, decide_eq_false h8, Bool.and_false]; rfl)
    clear hl H1 H3 IH HSS HB0
    go_enter Try.func79, Try.ntmps79
    go_wp2_with fail
    go_ret
    exact ⟨by rw [HF.out]; rfl, HW.out⟩
set_option maxHeartbeats 3200000 in
theorem ssound_5 (words : List ByteArray) (a c : Option Addr) (la ca len cc : Nat) (css : Nat → List Value) (ps : Nat → Bool) (hss : ∀ x ∈ words, x.size ≤ maxLen) (hla : (la : Int) ≤ 9223372036854775807) (hlc : (len : Int) ≤ 9223372036854775807) (w : World) (h1 : Strs w a la words) (h3 : Parts w 3 c len css)
    (ih : ∀ j, j < len → ∀ w', Below w.heap.size w w' → Calls Try.prog 79 #[.agg (css j).toArray] w' fun e w'' => e = .returned (.bool (ps j)) ∧ Below w'.heap.size w' w'') :
    Calls Try.prog 79 #[.agg #[.int .i64 5, .slice a la ca, .slice c len cc]] w fun e w' => e = .returned (.bool (headS 5 words len && allN ps len)) ∧ Below w.heap.size w w' := by
  have hl := Strs.len h1
  have HB0 := Lib.hid (Row.new w [.int .i64 5, .slice a la ca, .slice c len cc] 41)
  have HW := Lib.hid (Below.alloc1 w (.cells #[.int .i64 5, .slice a la ca, .slice c len cc] 41))
  have H1 := Lib.hid h1
  have H3 := Lib.hid h3
  have IH := Lib.hid ih
  have HSS := Lib.hid hss
  clear h1 h3 ih hss
  by_cases h8 : la ≤ 8
  · have g8 : ¬ (la : Int) > 8 := by omega
    have g8b : (la : Int) ≤ 8 := by omega
    by_cases hn0 : len = la
    · have HF0 := Lib.hid (show (headS 5 words len && allN ps len) = (okW (fun x y => eqS x y || ltS x y) words la && allN ps len) by unfold headS; rw [if_neg (by decide), if_neg (by decide), if_pos rfl, hl, decide_eq_true hn0, decide_eq_true h8, ok_5, hl]; rfl)
      have g1 : ((len : Int) != (la : Int)) = false := bne_eq_false_iff_eq.2 (by omega)
      subst hn0
      have g1b : ((len : Int) != (len : Int)) = false := bne_self_eq_false _
      clear hl
      go_enter Try.func79, Try.ntmps79
      go_wp2_with fail
      go_loopw [4] (fun i wr => ∃ j : Nat, j ≤ len ∧ i = .int .i64 (j : Int) ∧ okW (fun x y => eqS x y || ltS x y) words j = true ∧ Row wr w.heap.size 41 [.int .i64 5, .slice a len ca, .slice c len cc] ∧ Below w.heap.size w wr) (fun i _ => len - (intOf i).toNat)
      case atStart => exact ⟨0, Nat.zero_le _, rfl, rfl, HB0.out, HW.out⟩
      case round =>
        obtain ⟨j, hjn, rfl, hall, hb0, hw⟩ := hrel
        have bj0 : (0 : Int) ≤ (j : Int) := by omega
        have hc1 := hb0.cell (k := 1) (v := .slice a len ca) rfl
        by_cases hj : j < len
        · have hji : (j : Int) < (len : Int) := by omega
          obtain ⟨ad, hade, hc⟩ := Strs.at_ (H1.out.belowAll hw) hj
          subst hade
          have hmo := okW_more (fun x y => eqS x y || ltS x y) words j
          rw [hall, Bool.true_and] at hmo
          have HMO := Lib.hid hmo
          have HNO := Lib.hid (fun h => okW_no (bad := fun x y => eqS x y || ltS x y) (l := words) (n := j + 1) (m := len) h (by omega))
          have HNA := Lib.hid (rname_ref (nth words j) (nth_sz HSS.out j) wr)
          have HB1 := Lib.hid hb0
          have HW1 := Lib.hid hw
          clear hall hmo hb0 hw
          obtain ⟨x, hx⟩ : ∃ x, nth words j = x := ⟨_, rfl⟩
          rw [hx] at hc HNA HMO
          obtain ⟨bn, hna⟩ : ∃ b, nameB x = b := ⟨_, rfl⟩
          rw [hna] at HNA
          cases bn
          · go_wp2_with fail
            refine HNA.out.mono ?_
            rintro e w' ⟨rfl, rfl⟩
            go_wp2_with fail
            go_ret
            exact ⟨by rw [HF0.out, HNO.out (by rw [HMO.out, hna]; rfl)]; rfl, HW1.out⟩
          · go_wp2_with fail
            refine HNA.out.mono ?_
            rintro e w' ⟨rfl, rfl⟩
            go_wp2_with fail
            go_loopw [5] (fun i wr => ∃ q : Nat, q ≤ j ∧ i = .int .i64 (q : Int) ∧ allN (fun q => !(fun x y => eqS x y || ltS x y) x (nth words q)) q = true ∧ Row wr w.heap.size 41 [.int .i64 5, .slice (some ad) len ca, .slice c len cc] ∧ Below w.heap.size w wr) (fun i _ => j - (intOf i).toNat)
            case atStart => exact ⟨0, Nat.zero_le _, rfl, rfl, HB1.out, HW1.out⟩
            case round =>
              obtain ⟨q, hqn, rfl, hqall, hqb, hqw⟩ := hrel
              have bq0 : (0 : Int) ≤ (q : Int) := by omega
              by_cases hq : q < j
              · have hqi : (q : Int) < (j : Int) := by omega
                have hqi2 : (q : Int) < (len : Int) := by omega
                obtain ⟨ae, hae, hd⟩ := Strs.at_ (H1.out.belowAll hqw) (show q < len by omega)
                obtain ⟨af, haf, hc'⟩ := Strs.at_ (H1.out.belowAll hqw) hj
                cases hae
                cases haf
                rw [hx] at hc'
                have hq1 := hqb.cell (k := 1) (v := .slice (some ad) len ca) rfl
                have hq0 := hqb.cell (k := 0) (v := .int .i64 5) rfl
                have hmi := allN_more (fun q => !(fun x y => eqS x y || ltS x y) x (nth words q)) q
                rw [hqall, Bool.true_and] at hmi
                have HNI := Lib.hid (fun h => allN_no (f := fun q => !(fun x y => eqS x y || ltS x y) x (nth words q)) (n := q + 1) (k := j) h (by omega))
                have HQB := Lib.hid hqb
                have HQW := Lib.hid hqw
                clear hqall hqb hqw
                generalize nth words q = y at *
                simp only at hmi
                by_cases he : x.toList = y.toList
                · have heb : (x.toList == y.toList) = true := beq_iff_eq.2 he
                  rw [show eqS x y = true from heb] at hmi
                  rw [Bool.true_or] at hmi
                  have HMI := Lib.hid hmi
                  clear hmi
                  go_wp2_with fail
                  go_region
                  go_wp2_with fail
                  go_ret
                  exact ⟨by rw [HF0.out, HNO.out (by rw [HMO.out, hna, HNI.out HMI.out]; rfl)]; rfl, HQW.out.drew⟩
                · have heb : (x.toList == y.toList) = false := beq_eq_false_iff_ne.2 he
                  rw [show eqS x y = false from heb] at hmi
                  rw [Bool.false_or] at hmi
                  cases hlt : Go.Op.bytesLess x.toList y.toList
                  · rw [show ltS x y = false from hlt] at hmi
                    have HMI := Lib.hid hmi
                    clear hmi
                    go_wp2_with fail
                    go_region
                    go_wp2_with fail
                    go_roundw
                    case rel => exact ⟨q + 1, by omega, by go_num, HMI.out, HQB.out.belowAll (Below.refl _ _).drew, HQW.out.drew⟩
                    case measure => simp [intOf] <;> omega
                  · rw [show ltS x y = true from hlt] at hmi
                    have HMI := Lib.hid hmi
                    clear hmi
                    go_wp2_with fail
                    go_region
                    go_wp2_with fail
                    go_ret
                    exact ⟨by rw [HF0.out, HNO.out (by rw [HMO.out, hna, HNI.out HMI.out]; rfl)]; rfl, HQW.out.drew⟩
              · obtain rfl : q = j := by omega
                have HQA := Lib.hid hqall
                have HQB := Lib.hid hqb
                have HQW := Lib.hid hqw
                clear hqall hqb hqw
                go_wp2_with fail
                go_roundw
                case rel => exact ⟨q + 1, by omega, by go_num, by rw [HMO.out, hna, HQA.out]; rfl, HQB.out, HQW.out⟩
                case measure => simp [intOf] <;> omega
        · have hjlen : len = j := by omega
          subst hjlen
          have HA := Lib.hid hall
          have HB1 := Lib.hid hb0
          have HW1 := Lib.hid hw
          clear hall hb0 hw
          have RES := Lib.hid (show (headS 5 words len && allN ps len) = allN ps len by rw [HF0.out, HA.out]; rfl)
          go_wp2_with fail
          go_loopw [6] (fun i wr => ∃ j : Nat, j ≤ len ∧ i = .int .i64 (j : Int) ∧ allN ps j = true ∧ Row wr w.heap.size 41 [.int .i64 5, .slice a len ca, .slice c len cc] ∧ Below w.heap.size w wr) (fun i _ => len - (intOf i).toNat)
          case atStart => exact ⟨0, Nat.zero_le _, rfl, rfl, HB1.out, HW1.out⟩
          case round =>
            obtain ⟨p, hpn, rfl, hpall, hpb, hpw⟩ := hrel
            have bp0 : (0 : Int) ≤ (p : Int) := by omega
            have hpc := hpb.cell (k := 2) (v := .slice c len cc) rfl
            by_cases hp : p < len
            · have hpi : (p : Int) < (len : Int) := by omega
              obtain ⟨ad, hade, hlen, hcell⟩ := (H3.out.below hpw).at_ hp
              subst hade
              have hm := allN_more ps p
              rw [hpall, Bool.true_and] at hm
              have HM := Lib.hid hm
              have HNO := Lib.hid (fun h => allN_no (f := ps) (n := p + 1) (k := len) h (by omega))
              have HIX := Lib.hid (ix_s ad len cc p hp wr)
              have HC := Lib.hid hcell
              have HL := Lib.hid (s_len hlen)
              have HREC := Lib.hid (IH.out p hp wr hpw)
              have HPB := Lib.hid hpb
              have HPW := Lib.hid hpw
              clear hm hpall hcell hlen hpb hpw
              generalize ps p = bp at *
              cases bp
              · go_wp2_with (first
                  | (refine wpList_indexAt rfl 39 (.tmp 118) (.tmp 119) rfl _ _ _ rfl rfl HIX.out ?_)
                  | (refine wpList_load_at rfl 41 (.tmp 120) rfl (ad.add (p * 3)) rfl (css p) _ HC.out Try.underlying41 rfl HL.out ?_))
                refine HREC.out.mono ?_
                rintro e W1 ⟨rfl, hb⟩
                have HB := Lib.hid hb
                clear hb
                go_wp2_with fail
                go_ret
                exact ⟨by rw [RES.out, HNO.out HM.out]; rfl, HPW.out.trans (HB.out.mono HPW.out.size)⟩
              · go_wp2_with (first
                  | (refine wpList_indexAt rfl 39 (.tmp 118) (.tmp 119) rfl _ _ _ rfl rfl HIX.out ?_)
                  | (refine wpList_load_at rfl 41 (.tmp 120) rfl (ad.add (p * 3)) rfl (css p) _ HC.out Try.underlying41 rfl HL.out ?_))
                refine HREC.out.mono ?_
                rintro e W1 ⟨rfl, hb⟩
                have HB := Lib.hid hb
                clear hb
                go_wp2_with fail
                go_roundw
                case rel => exact ⟨p + 1, by omega, by go_num, HM.out, HPB.out.belowAll HB.out, HPW.out.trans (HB.out.mono HPW.out.size)⟩
                case measure => simp [intOf] <;> omega
            · obtain rfl : len = p := by omega
              have HA := Lib.hid hpall
              have HPW := Lib.hid hpw
              clear hpall hpw
              go_wp2_with fail
              go_ret
              exact ⟨by rw [RES.out, HA.out]; rfl, HPW.out⟩
    · skip
      have g1 : ((len : Int) != (la : Int)) = true := bne_iff_ne.2 (by omega)
      have HF := Lib.hid (show (headS 5 words len && allN ps len) = false by unfold headS; rw [if_neg (by decide), if_neg (by decide), if_pos rfl, hl, decide_eq_false hn0, Bool.and_false]; rfl)
      clear hl H1 H3 IH HSS HB0
      go_enter Try.func79, Try.ntmps79
      go_wp2_with fail
      go_ret
      exact ⟨by rw [HF.out]; rfl, HW.out⟩
  · skip
    have g8 : (la : Int) > 8 := by omega
    have g8b : ¬ (la : Int) ≤ 8 := by omega
    have g8c : (8 : Int) < (la : Int) := by omega
    have HF := Lib.hid (show (headS 5 words len && allN ps len) = false by unfold headS; rw [if_neg (by decide), if_neg (by decide), if_pos rfl, hl, decide_eq_false h8]; rfl)
    clear hl H1 H3 IH HSS HB0
    go_enter Try.func79, Try.ntmps79
    go_wp2_with fail
    go_ret
    exact ⟨by rw [HF.out]; rfl, HW.out⟩

end Go.Proofs.Yteeabfckjjbmkaa
