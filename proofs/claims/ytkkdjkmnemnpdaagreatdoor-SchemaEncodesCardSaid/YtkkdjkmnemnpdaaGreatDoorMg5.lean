/- The document's depth of schemas; how much there is. Trees that lie within certain blocks. What reading a record's parts keeps: each part that was read stands in blocks that no later step changes. Rows of a call's own, two at once; what an append and a store leave. The fields of a record read. A schema read: the program's recursion, at a right schema's bytes. A schema's bytes decoded: Read, Whole, Decode. -/
import Derived.Test.YtkkdjkmnemnpdaaGreatDoorMg4
import Derived.Laws.ResultCell
namespace Go.Proofs.YtkkdjkmnemnpdaaGreatDoor
section
set_option maxRecDepth 100000
set_option linter.unusedSimpArgs false
set_option linter.unusedVariables false
open Go.RowKit

theorem sdepth_ref : ∀ (v : St) (cs : List Value) (w : World), SAt w v cs → v.depth ≤ 1000 →
    Calls Tryz.prog 20 #[.agg cs.toArray] w fun e w' => e = .returned (.int .i64 (v.depth : Int)) ∧ Below w.heap.size w w' := by
  intro v
  induction v with
  | nul => intro cs w h; cases h
  | mk k words len parts ih =>
    intro cs w h hd
    cases h with
    | mk css hk h1 h1c hss h3 h3c hp =>
    rename_i a c la ca cc
    rw [St.depth] at hd
    have hmm : ∀ i, i < len → (parts i).depth ≤ 999 := most_le.1 (by omega)
    have hml : ∀ m, m ≤ len → most (fun i => (parts i).depth) m ≤ 999 := fun m hm => most_le.2 fun i hi => hmm i (by omega)
    have hdn : (St.mk k words len parts).depth = most (fun i => (parts i).depth) len + 1 := by rw [St.depth]
    have HDN := Lib.hid hdn
    have HP := Lib.hid hp
    have H3 := Lib.hid h3
    have HMM := Lib.hid hmm
    have HML := Lib.hid hml
    have IH := Lib.hid ih
    have hlc : len ≤ maxLen := Nat.le_trans h3c.1 h3c.2
    have hlb : (len : Int) ≤ 9223372036854775807 := by unfold maxLen at hlc; omega
    have HB0 := Lib.hid (Row.new w [.int .i64 k, .slice a la ca, .slice c len cc] 25)
    have HW := Lib.hid (Below.alloc1 w (.cells #[.int .i64 k, .slice a la ca, .slice c len cc] 25))
    clear hp h3 hmm hml ih hd h1 hdn hk h1c hss h3c hlc
    go_enter Tryz.func20, Tryz.ntmps20
    go_wp2_with fail
    go_loopw [3, 4] (fun m i wr => ∃ j : Nat, j ≤ len ∧ i = .int .i64 (j : Int) ∧ m = .int .i64 ((most (fun i => (parts i).depth) j : Int) + 1) ∧ Row wr w.heap.size 25 [.int .i64 k, .slice a la ca, .slice c len cc] ∧ Below w.heap.size w wr) (fun _ i _ => len - (intOf i).toNat)
    case atStart => exact ⟨0, Nat.zero_le _, rfl, rfl, HB0.out, HW.out⟩
    case round =>
      obtain ⟨j, hjn, rfl, rfl, hb0, hw⟩ := hrel
      have bj0 : (0 : Int) ≤ (j : Int) := by omega
      have hml := HML.out j hjn
      have hc5 := hb0.cell (k := 2) (v := .slice c len cc) rfl
      by_cases hj : j < len
      · have hji : (j : Int) < (len : Int) := by omega
        have hvj := (HP.out j hj).later hw
        obtain ⟨ad, rfl, hlen, hcell⟩ := (H3.out.below hw).at_ hj
        have hrec := IH.out j (css j) wr hvj (by have := HMM.out j hj; omega)
        have hmd := HMM.out j hj
        have hmax : most (fun i => (parts i).depth) (j + 1) = max (most (fun i => (parts i).depth) j) (parts j).depth := rfl
        have HMX := Lib.hid hmax
        have HIX := Lib.hid (ix_s ad len cc j hj wr)
        have HREC := Lib.hid hrec
        have HC := Lib.hid hcell
        have HL := Lib.hid (s_len hlen)
        have HB1 := Lib.hid hb0
        have HW1 := Lib.hid hw
        clear hvj hlen hcell hrec hmax hw hb0 HB0 HW
        generalize hq : most (fun i => (parts i).depth) j = q at *
        generalize hr : (parts j).depth = r at *
        clear hq hr
        go_wp2_with (first
          | (refine wpList_indexAt rfl 23 (.tmp 14) (.tmp 15) rfl _ _ _ rfl rfl HIX.out ?_)
          | (refine wpList_load_at rfl 25 (.tmp 16) rfl (ad.add (j * 3)) rfl (css j) _ HC.out Tryz.underlying25 rfl HL.out ?_))
        refine HREC.out.mono ?_
        rintro e W1 ⟨rfl, hb⟩
        have hw1 := HW1.out.trans (hb.mono HW1.out.size)
        have hb1 := HB1.out.belowAll hb
        by_cases hgt : q + 1 < r + 1
        · have hgi : (q : Int) + 1 < (r : Int) + 1 := by omega
          go_wp2_with fail
          go_roundw
          case rel => exact ⟨j + 1, by omega, by go_num, by rw [HMX.out, Nat.max_eq_right (by omega)], hb1, hw1⟩
          case measure => simp [intOf] <;> omega
        · have hgi : ¬ (q : Int) + 1 < (r : Int) + 1 := by omega
          go_wp2_with fail
          go_roundw
          case rel => exact ⟨j + 1, by omega, by go_num, by rw [HMX.out, Nat.max_eq_left (by omega)], hb1, hw1⟩
          case measure => simp [intOf] <;> omega
      · obtain rfl : j = len := by omega
        go_wp2_with fail
        go_ret
        exact ⟨by rw [HDN.out]; rfl, hw⟩

/-- The sum of the first ones. -/
def sumN (f : Nat → Nat) : Nat → Nat
  | 0 => 0
  | n + 1 => sumN f n + f n
theorem sumN_le {f : Nat → Nat} {i : Nat} : ∀ {n : Nat}, i < n → f i ≤ sumN f n
  | n + 1, h => by
    rw [sumN]
    by_cases hi : i = n
    · subst hi; omega
    · have := sumN_le (f := f) (n := n) (show i < n by omega)
      omega
/-- How much room a schema takes. -/
def St.wt : St → Nat
  | .nul => 0
  | .mk _ words len parts => 1 + words.length + sumN (fun i => (parts i).wt) len
theorem wrap64_of {x : Int} (h1 : -9223372036854775808 ≤ x) (h2 : x ≤ 9223372036854775807) : wrap64 x = x := by
  unfold wrap64
  omega
set_option maxHeartbeats 1600000 in
theorem sroom_ref : ∀ (v : St) (cs : List Value) (n0 : Int) (d : Nat) (w : World), SAt w v cs → d ≤ 12 → 0 ≤ n0 → n0 ≤ 300 →
    Calls Tryz.prog 13 #[.agg cs.toArray, .int .i64 n0, .int .i64 (d : Int)] w fun e w' => (∃ r : Int, e = .returned (.int .i64 r) ∧ (0 ≤ r → v.depth ≤ d ∧ r + (v.wt : Int) ≤ n0)) ∧ Below w.heap.size w w' := by
  intro v
  induction v with
  | nul => intro cs n0 d w h; cases h
  | mk k words len parts ih =>
    intro cs n0 d w h hd hn0 hn3
    cases h with
    | mk css hk h1 h1c hss h3 h3c hp =>
    rename_i a c la ca cc
    have hdn : (St.mk k words len parts).depth = most (fun i => (parts i).depth) len + 1 := by rw [St.depth]
    have HDN := Lib.hid hdn
    have HWT := Lib.hid (show (St.mk k words len parts).wt = 1 + words.length + sumN (fun i => (parts i).wt) len by rw [St.wt])
    have HLN := Lib.hid (Strs.len h1)
    have HN0 := Lib.hid hn0
    have HN3 := Lib.hid hn3
    clear hn0 hn3
    have HP := Lib.hid hp
    have H3 := Lib.hid h3
    have IH := Lib.hid ih
    have hlc : len ≤ maxLen := Nat.le_trans h3c.1 h3c.2
    have hlb : (len : Int) ≤ 9223372036854775807 := by unfold maxLen at hlc; omega
    have HB0 := Lib.hid (Row.new w [.int .i64 k, .slice a la ca, .slice c len cc] 25)
    have HW := Lib.hid (Below.alloc1 w (.cells #[.int .i64 k, .slice a la ca, .slice c len cc] 25))
    have H1 := Lib.hid h1
    have hla : (la : Int) ≤ 9223372036854775807 := by have := h1c.1; have := h1c.2; unfold maxLen at this; omega
    clear hp h3 ih h1 hdn hk h1c hss h3c hlc
    cases d with
    | zero =>
      go_enter Tryz.func13, Tryz.ntmps13
      go_wp2_with fail
      go_ret
      exact ⟨⟨-1, rfl, fun h => absurd h (by decide)⟩, HW.out⟩
    | succ d =>
      have gd : (((d + 1 : Nat) : Int) == 0) = false := beq_eq_false_iff_ne.2 (by omega)
      have gd1 : ((d : Int) + 1 == 0) = false := beq_eq_false_iff_ne.2 (by omega)
      have gd2 : ¬ (d : Int) + 1 = 0 := by omega
      have gd3 : (0 : Int) ≤ (d : Int) := by omega
      have gd4 : (d : Int) ≤ 11 := by omega
      rw [show (((d + 1 : Nat)) : Int) = (d : Int) + 1 from rfl]
      go_enter Tryz.func13, Tryz.ntmps13
      go_wp2_with fail
      have hx0 : wrap64 (wrap64 (n0 - 1) - (la : Int)) = n0 - 1 - (la : Int) := by
        have h1 := HN0.out
        have h2 := HN3.out
        rw [wrap64_of (x := n0 - 1) (by omega) (by omega), wrap64_of (by omega) (by omega)]
      generalize wrap64 (wrap64 (n0 - 1) - (la : Int)) = x at *
      have HX := Lib.hid hx0
      clear hx0
      go_loopw [7] (fun i wr => ∃ j : Nat, j ≤ la ∧ i = .int .i64 (j : Int) ∧ Row wr w.heap.size 25 [.int .i64 k, .slice a la ca, .slice c len cc] ∧ Below w.heap.size w wr) (fun i _ => la - (intOf i).toNat)
      case atStart => exact ⟨0, Nat.zero_le _, rfl, HB0.out, HW.out⟩
      case round =>
        obtain ⟨j, hjn, rfl, hb0, hw⟩ := hrel
        have bj0 : (0 : Int) ≤ (j : Int) := by omega
        have hc1 := hb0.cell (k := 1) (v := .slice a la ca) rfl
        have HB1 := Lib.hid hb0
        have HW1 := Lib.hid hw
        by_cases hx : 0 ≤ x
        · by_cases hj : j < la
          · have hji : (j : Int) < (la : Int) := by omega
            obtain ⟨ad, rfl, hc⟩ := Strs.at_ (H1.out.belowAll hw) hj
            clear hb0 hw HB0 HW
            by_cases h100 : (nth words j).size > 100
            · have g1 : ((nth words j).size : Int) > 100 := by omega
              have g2 : (100 : Int) < ((nth words j).size : Int) := by omega
              have g3 : ¬ ((nth words j).size : Int) ≤ 100 := by omega
              generalize nth words j = y at *
              go_wp2_with fail
              go_ret
              exact ⟨⟨-1, rfl, fun h => absurd h (by decide)⟩, HW1.out⟩
            · have g1 : ¬ ((nth words j).size : Int) > 100 := by omega
              have g2 : ¬ (100 : Int) < ((nth words j).size : Int) := by omega
              have g3 : ((nth words j).size : Int) ≤ 100 := by omega
              generalize nth words j = y at *
              go_wp2_with fail
              go_roundw
              case rel => exact ⟨j + 1, by omega, by go_num, HB1.out, HW1.out⟩
              case measure => simp [intOf] <;> omega
          · obtain rfl : la = j := by omega
            clear hb0 hw HB0 HW
            go_wp2_with fail
            go_loopw [1, 8] (fun m i wr => ∃ (j : Nat) (x : Int), j ≤ len ∧ i = .int .i64 (j : Int) ∧ m = .int .i64 x ∧ (0 ≤ x → (∀ i, i < j → (parts i).depth ≤ d) ∧ x + (sumN (fun i => (parts i).wt) j : Int) + 1 + (words.length : Int) ≤ n0) ∧ Row wr w.heap.size 25 [.int .i64 k, .slice a la ca, .slice c len cc] ∧ Below w.heap.size w wr) (fun _ i _ => len - (intOf i).toNat)
            case atStart => exact ⟨0, _, Nat.zero_le _, rfl, rfl, fun _ => ⟨fun i hi => absurd hi (Nat.not_lt_zero i), by have h1 := HX.out; have h2 := HLN.out; rw [sumN]; omega⟩, HB1.out, HW1.out⟩
            case round =>
              obtain ⟨i2, x2, hjn2, rfl, rfl, hall, hb0, hw⟩ := hrel
              have bj0z : (0 : Int) ≤ (i2 : Int) := by omega
              have hc5z := hb0.cell (k := 2) (v := .slice c len cc) rfl
              by_cases hxz : 0 ≤ x2
              · by_cases hjz : i2 < len
                · have hjiz : (i2 : Int) < (len : Int) := by omega
                  have hvj := (HP.out i2 hjz).later hw
                  obtain ⟨ad, rfl, hlen, hcell⟩ := (H3.out.below hw).at_ hjz
                  have HIX := Lib.hid (ix_s ad len cc i2 hjz wr)
                  have HREC := Lib.hid (IH.out i2 (css i2) x2 d wr hvj (by omega) hxz (by have h1 := (hall hxz).2; have h2 := HN3.out; omega))
                  have HC := Lib.hid hcell
                  have HL := Lib.hid (s_len hlen)
                  have HB1z := Lib.hid hb0
                  have HW1z := Lib.hid hw
                  have HAz := Lib.hid (hall hxz)
                  clear hvj hlen hcell hw hb0 hall
                  go_wp2_with (first
                    | (refine wpList_indexAt rfl 23 (.tmp 47) (.tmp 48) rfl _ _ _ rfl rfl HIX.out ?_)
                    | (refine wpList_load_at rfl 25 (.tmp 49) rfl (ad.add (i2 * 3)) rfl (css i2) _ HC.out Tryz.underlying25 rfl HL.out ?_))
                  refine HREC.out.mono ?_
                  rintro e W1 ⟨⟨r, rfl, hr⟩, hb⟩
                  have HR := Lib.hid hr
                  have HW2 := Lib.hid (HW1z.out.trans (hb.mono HW1z.out.size))
                  have HB2 := Lib.hid (HB1z.out.belowAll hb)
                  clear hr hb
                  go_wp2_with fail
                  go_roundw
                  case rel =>
                    refine ⟨i2 + 1, r, by omega, by go_num, rfl, fun hr0 => ⟨fun i hi => ?_, ?_⟩, HB2.out, HW2.out⟩
                    · by_cases hij : i = i2
                      · subst hij; exact (HR.out hr0).1
                      · exact HAz.out.1 i (by omega)
                    · have h1 := (HR.out hr0).2
                      have h2 := HAz.out.2
                      rw [sumN]
                      omega
                  case measure => simp [intOf] <;> omega
                · obtain rfl : i2 = len := by omega
                  have HAz := Lib.hid (hall hxz)
                  have HW1z := Lib.hid hw
                  clear hall hw
                  go_wp2_with fail
                  go_ret
                  exact ⟨⟨x2, rfl, fun _ => ⟨by rw [HDN.out]; have := most_le.2 HAz.out.1; omega, by rw [HWT.out]; have := HAz.out.2; omega⟩⟩, HW1z.out⟩
              · have hx2z : ¬ x2 ≥ 0 := hxz
                have HW1z := Lib.hid hw
                clear hall hw
                by_cases hjz : i2 < len
                · have hjiz : (i2 : Int) < (len : Int) := by omega
                  go_wp2_with fail
                  go_ret
                  exact ⟨⟨x2, rfl, fun h => absurd h (by omega)⟩, HW1z.out⟩
                · have hjiz : ¬ (i2 : Int) < (len : Int) := by omega
                  go_wp2_with fail
                  go_ret
                  exact ⟨⟨x2, rfl, fun h => absurd h (by omega)⟩, HW1z.out⟩
        · have hx2 : ¬ x ≥ 0 := hx
          clear hb0 hw HB0 HW
          by_cases hj : j < la
          · have hji : (j : Int) < (la : Int) := by omega
            go_wp2_with fail
            go_loopw [1, 8] (fun m i wr => ∃ (j : Nat) (x : Int), j ≤ len ∧ i = .int .i64 (j : Int) ∧ m = .int .i64 x ∧ (0 ≤ x → (∀ i, i < j → (parts i).depth ≤ d) ∧ x + (sumN (fun i => (parts i).wt) j : Int) + 1 + (words.length : Int) ≤ n0) ∧ Row wr w.heap.size 25 [.int .i64 k, .slice a la ca, .slice c len cc] ∧ Below w.heap.size w wr) (fun _ i _ => len - (intOf i).toNat)
            case atStart => exact ⟨0, _, Nat.zero_le _, rfl, rfl, fun _ => ⟨fun i hi => absurd hi (Nat.not_lt_zero i), by have h1 := HX.out; have h2 := HLN.out; rw [sumN]; omega⟩, HB1.out, HW1.out⟩
            case round =>
              obtain ⟨i2, x2, hjn2, rfl, rfl, hall, hb0, hw⟩ := hrel
              have bj0z : (0 : Int) ≤ (i2 : Int) := by omega
              have hc5z := hb0.cell (k := 2) (v := .slice c len cc) rfl
              by_cases hxz : 0 ≤ x2
              · by_cases hjz : i2 < len
                · have hjiz : (i2 : Int) < (len : Int) := by omega
                  have hvj := (HP.out i2 hjz).later hw
                  obtain ⟨ad, rfl, hlen, hcell⟩ := (H3.out.below hw).at_ hjz
                  have HIX := Lib.hid (ix_s ad len cc i2 hjz wr)
                  have HREC := Lib.hid (IH.out i2 (css i2) x2 d wr hvj (by omega) hxz (by have h1 := (hall hxz).2; have h2 := HN3.out; omega))
                  have HC := Lib.hid hcell
                  have HL := Lib.hid (s_len hlen)
                  have HB1z := Lib.hid hb0
                  have HW1z := Lib.hid hw
                  have HAz := Lib.hid (hall hxz)
                  clear hvj hlen hcell hw hb0 hall
                  go_wp2_with (first
                    | (refine wpList_indexAt rfl 23 (.tmp 47) (.tmp 48) rfl _ _ _ rfl rfl HIX.out ?_)
                    | (refine wpList_load_at rfl 25 (.tmp 49) rfl (ad.add (i2 * 3)) rfl (css i2) _ HC.out Tryz.underlying25 rfl HL.out ?_))
                  refine HREC.out.mono ?_
                  rintro e W1 ⟨⟨r, rfl, hr⟩, hb⟩
                  have HR := Lib.hid hr
                  have HW2 := Lib.hid (HW1z.out.trans (hb.mono HW1z.out.size))
                  have HB2 := Lib.hid (HB1z.out.belowAll hb)
                  clear hr hb
                  go_wp2_with fail
                  go_roundw
                  case rel =>
                    refine ⟨i2 + 1, r, by omega, by go_num, rfl, fun hr0 => ⟨fun i hi => ?_, ?_⟩, HB2.out, HW2.out⟩
                    · by_cases hij : i = i2
                      · subst hij; exact (HR.out hr0).1
                      · exact HAz.out.1 i (by omega)
                    · have h1 := (HR.out hr0).2
                      have h2 := HAz.out.2
                      rw [sumN]
                      omega
                  case measure => simp [intOf] <;> omega
                · obtain rfl : i2 = len := by omega
                  have HAz := Lib.hid (hall hxz)
                  have HW1z := Lib.hid hw
                  clear hall hw
                  go_wp2_with fail
                  go_ret
                  exact ⟨⟨x2, rfl, fun _ => ⟨by rw [HDN.out]; have := most_le.2 HAz.out.1; omega, by rw [HWT.out]; have := HAz.out.2; omega⟩⟩, HW1z.out⟩
              · have hx2z : ¬ x2 ≥ 0 := hxz
                have HW1z := Lib.hid hw
                clear hall hw
                by_cases hjz : i2 < len
                · have hjiz : (i2 : Int) < (len : Int) := by omega
                  go_wp2_with fail
                  go_ret
                  exact ⟨⟨x2, rfl, fun h => absurd h (by omega)⟩, HW1z.out⟩
                · have hjiz : ¬ (i2 : Int) < (len : Int) := by omega
                  go_wp2_with fail
                  go_ret
                  exact ⟨⟨x2, rfl, fun h => absurd h (by omega)⟩, HW1z.out⟩
          · have hji : ¬ (j : Int) < (la : Int) := by omega
            go_wp2_with fail
            go_loopw [1, 8] (fun m i wr => ∃ (j : Nat) (x : Int), j ≤ len ∧ i = .int .i64 (j : Int) ∧ m = .int .i64 x ∧ (0 ≤ x → (∀ i, i < j → (parts i).depth ≤ d) ∧ x + (sumN (fun i => (parts i).wt) j : Int) + 1 + (words.length : Int) ≤ n0) ∧ Row wr w.heap.size 25 [.int .i64 k, .slice a la ca, .slice c len cc] ∧ Below w.heap.size w wr) (fun _ i _ => len - (intOf i).toNat)
            case atStart => exact ⟨0, _, Nat.zero_le _, rfl, rfl, fun _ => ⟨fun i hi => absurd hi (Nat.not_lt_zero i), by have h1 := HX.out; have h2 := HLN.out; rw [sumN]; omega⟩, HB1.out, HW1.out⟩
            case round =>
              obtain ⟨i2, x2, hjn2, rfl, rfl, hall, hb0, hw⟩ := hrel
              have bj0z : (0 : Int) ≤ (i2 : Int) := by omega
              have hc5z := hb0.cell (k := 2) (v := .slice c len cc) rfl
              by_cases hxz : 0 ≤ x2
              · by_cases hjz : i2 < len
                · have hjiz : (i2 : Int) < (len : Int) := by omega
                  have hvj := (HP.out i2 hjz).later hw
                  obtain ⟨ad, rfl, hlen, hcell⟩ := (H3.out.below hw).at_ hjz
                  have HIX := Lib.hid (ix_s ad len cc i2 hjz wr)
                  have HREC := Lib.hid (IH.out i2 (css i2) x2 d wr hvj (by omega) hxz (by have h1 := (hall hxz).2; have h2 := HN3.out; omega))
                  have HC := Lib.hid hcell
                  have HL := Lib.hid (s_len hlen)
                  have HB1z := Lib.hid hb0
                  have HW1z := Lib.hid hw
                  have HAz := Lib.hid (hall hxz)
                  clear hvj hlen hcell hw hb0 hall
                  go_wp2_with (first
                    | (refine wpList_indexAt rfl 23 (.tmp 47) (.tmp 48) rfl _ _ _ rfl rfl HIX.out ?_)
                    | (refine wpList_load_at rfl 25 (.tmp 49) rfl (ad.add (i2 * 3)) rfl (css i2) _ HC.out Tryz.underlying25 rfl HL.out ?_))
                  refine HREC.out.mono ?_
                  rintro e W1 ⟨⟨r, rfl, hr⟩, hb⟩
                  have HR := Lib.hid hr
                  have HW2 := Lib.hid (HW1z.out.trans (hb.mono HW1z.out.size))
                  have HB2 := Lib.hid (HB1z.out.belowAll hb)
                  clear hr hb
                  go_wp2_with fail
                  go_roundw
                  case rel =>
                    refine ⟨i2 + 1, r, by omega, by go_num, rfl, fun hr0 => ⟨fun i hi => ?_, ?_⟩, HB2.out, HW2.out⟩
                    · by_cases hij : i = i2
                      · subst hij; exact (HR.out hr0).1
                      · exact HAz.out.1 i (by omega)
                    · have h1 := (HR.out hr0).2
                      have h2 := HAz.out.2
                      rw [sumN]
                      omega
                  case measure => simp [intOf] <;> omega
                · obtain rfl : i2 = len := by omega
                  have HAz := Lib.hid (hall hxz)
                  have HW1z := Lib.hid hw
                  clear hall hw
                  go_wp2_with fail
                  go_ret
                  exact ⟨⟨x2, rfl, fun _ => ⟨by rw [HDN.out]; have := most_le.2 HAz.out.1; omega, by rw [HWT.out]; have := HAz.out.2; omega⟩⟩, HW1z.out⟩
              · have hx2z : ¬ x2 ≥ 0 := hxz
                have HW1z := Lib.hid hw
                clear hall hw
                by_cases hjz : i2 < len
                · have hjiz : (i2 : Int) < (len : Int) := by omega
                  go_wp2_with fail
                  go_ret
                  exact ⟨⟨x2, rfl, fun h => absurd h (by omega)⟩, HW1z.out⟩
                · have hjiz : ¬ (i2 : Int) < (len : Int) := by omega
                  go_wp2_with fail
                  go_ret
                  exact ⟨⟨x2, rfl, fun h => absurd h (by omega)⟩, HW1z.out⟩

theorem sgreat_ref (v : St) (cs : List Value) (w : World) (h : SAt w v cs) :
    Calls Tryz.prog 4 #[.agg cs.toArray] w fun e w' => (∃ b : Bool, e = .returned (.bool b) ∧ (b = false → v.depth ≤ 12 ∧ v.wt ≤ 300)) ∧ Below w.heap.size w w' := by
  have hw := Below.alloc1 w (.cells cs.toArray 25)
  have HR := Lib.hid (sroom_ref v cs 300 12 _ (h.later hw) (by decide) (by decide) (by decide))
  have HW := Lib.hid hw
  have HB0 := Lib.hid (Row.new w cs 25)
  have HI := Lib.hid (s_info h.length)
  clear hw h
  go_enter Tryz.func4, Tryz.ntmps4
  go_wp2_with (refine wpList_load_row rfl 25 (.tmp 1) rfl w.heap.size rfl 25 _ (0, 0) _ HB0.out Tryz.underlying25 rfl HI.out ?_)
  refine HR.out.mono ?_
  rintro e W1 ⟨⟨r, rfl, hr⟩, hb⟩
  have HRR := Lib.hid hr
  have HB := Lib.hid hb
  clear hb hr
  go_wp2_with fail
  go_ret
  exact ⟨⟨_, rfl, fun hb => by have h1 : (0 : Int) ≤ r := by simpa using hb
                               have h2 := HRR.out h1
                               exact ⟨h2.1, by omega⟩⟩, HW.out.trans (HB.out.mono HW.out.size)⟩
end

section
set_option maxRecDepth 100000
set_option linter.unusedSimpArgs false
set_option linter.unusedVariables false
open Go.RowKit

def PartsX (X : Nat → Prop) (w : World) (s : Nat) (c : Option Addr) (n : Nat) (css : Nat → List Value) : Prop :=
  0 < n → ∃ ad, c = some ad ∧ X ad.block ∧ ad.block < w.heap.size ∧ ∀ j, j < n → (css j).length = s ∧ ∀ i u, (css j)[i]? = some u → w.cell? (ad.add (j * s + i)) = some u
inductive VIn (X : Nat → Prop) (w : World) : Vt → List Value → Prop
  | mk {k n : Int} {s : ByteArray} {names : List ByteArray} {ids : List Int} {len : Nat} {parts : Nat → Vt} {a b c : Option Addr} {la ca lb cb cc : Nat} (css : Nat → List Value)
      (hk : (Lit.int .i64 k).wf = true) (hn : (Lit.int .i64 n).wf = true) (hs : s.size ≤ maxLen)
      (h1 : Rd w X a la (names.map Value.string)) (h1c : la ≤ ca ∧ ca ≤ maxLen) (hss : ∀ x ∈ names, x.size ≤ maxLen)
      (h2 : Rd w X b lb (ids.map (Value.int .u64))) (h2c : lb ≤ cb ∧ cb ≤ maxLen) (hi : ∀ x ∈ ids, (Lit.int .u64 x).wf = true)
      (h3 : PartsX X w 6 c len css) (h3c : len ≤ cc ∧ cc ≤ maxLen) (h : ∀ j, j < len → VIn X w (parts j) (css j)) :
      VIn X w (.mk k n s names ids len parts) [.int .i64 k, .int .i64 n, .string s, .slice a la ca, .slice b lb cb, .slice c len cc]
inductive SIn (X : Nat → Prop) (w : World) : St → List Value → Prop
  | mk {k : Int} {words : List ByteArray} {len : Nat} {parts : Nat → St} {a c : Option Addr} {la ca cc : Nat} (css : Nat → List Value)
      (hk : (Lit.int .i64 k).wf = true)
      (h1 : Rd w X a la (words.map Value.string)) (h1c : la ≤ ca ∧ ca ≤ maxLen) (hss : ∀ x ∈ words, x.size ≤ maxLen)
      (h3 : PartsX X w 3 c len css) (h3c : len ≤ cc ∧ cc ≤ maxLen) (h : ∀ j, j < len → SIn X w (parts j) (css j)) :
      SIn X w (.mk k words len parts) [.int .i64 k, .slice a la ca, .slice c len cc]
theorem Rd.weak {w : World} {X Y : Nat → Prop} {a : Option Addr} {n : Nat} {l : List Value} (h : Rd w X a n l) (hY : ∀ g, X g → Y g) : Rd w Y a n l := ⟨h.1, fun hn => by
  obtain ⟨ad, e, hx, hlt, hc⟩ := h.2 hn
  exact ⟨ad, e, hY _ hx, hlt, hc⟩⟩
/-- What lies in blocks that stay as they are stays as it is. -/
theorem Rd.kept {w w' : World} {X Y : Nat → Prop} {a : Option Addr} {n : Nat} {l : List Value} (h : Rd w X a n l) (hs : w.heap.size ≤ w'.heap.size) (hY : ∀ g, X g → g < w.heap.size → Y g ∧ w'.heap[g]? = w.heap[g]?) : Rd w' Y a n l := ⟨h.1, fun hn => by
  obtain ⟨ad, e, hx, hlt, hc⟩ := h.2 hn
  obtain ⟨hy, hh⟩ := hY _ hx hlt
  exact ⟨ad, e, hy, Nat.lt_of_lt_of_le hlt hs, fun j u hu => (World.cell?_of_block (a := ad.add j) (by rw [add_block]; exact hh)).trans (hc j u hu)⟩⟩
theorem PartsX.kept {w w' : World} {X Y : Nat → Prop} {s : Nat} {c : Option Addr} {n : Nat} {css : Nat → List Value} (h : PartsX X w s c n css) (hs : w.heap.size ≤ w'.heap.size) (hY : ∀ g, X g → g < w.heap.size → Y g ∧ w'.heap[g]? = w.heap[g]?) : PartsX Y w' s c n css := fun hn => by
  obtain ⟨ad, e, hx, hlt, hc⟩ := h hn
  obtain ⟨hy, hh⟩ := hY _ hx hlt
  exact ⟨ad, e, hy, Nat.lt_of_lt_of_le hlt hs, fun j hj => ⟨(hc j hj).1, fun i u hu => (World.cell?_of_block (a := ad.add (j * s + i)) (by rw [add_block]; exact hh)).trans ((hc j hj).2 i u hu)⟩⟩
theorem VIn.kept {w w' : World} {X Y : Nat → Prop} (hs : w.heap.size ≤ w'.heap.size) (hY : ∀ g, X g → g < w.heap.size → Y g ∧ w'.heap[g]? = w.heap[g]?) : ∀ {v : Vt} {cs : List Value}, VIn X w v cs → VIn Y w' v cs := by
  intro v cs h
  induction h with
  | mk css hk hn hsz h1 h1c hss h2 h2c hi h3 h3c _ ih => exact .mk css hk hn hsz (Rd.kept h1 hs hY) h1c hss (Rd.kept h2 hs hY) h2c hi (h3.kept hs hY) h3c ih
theorem SIn.kept {w w' : World} {X Y : Nat → Prop} (hs : w.heap.size ≤ w'.heap.size) (hY : ∀ g, X g → g < w.heap.size → Y g ∧ w'.heap[g]? = w.heap[g]?) : ∀ {v : St} {cs : List Value}, SIn X w v cs → SIn Y w' v cs := by
  intro v cs h
  induction h with
  | mk css hk h1 h1c hss h3 h3c _ ih => exact .mk css hk (Rd.kept h1 hs hY) h1c hss (h3.kept hs hY) h3c ih
theorem PartsX.plain {w : World} {X : Nat → Prop} {s : Nat} {c : Option Addr} {n : Nat} {css : Nat → List Value} (h : PartsX X w s c n css) : Parts w s c n css := fun hn => by
  obtain ⟨ad, e, _, hlt, hc⟩ := h hn
  exact ⟨ad, e, hlt, hc⟩
theorem VIn.vat {w : World} {X : Nat → Prop} : ∀ {v : Vt} {cs : List Value}, VIn X w v cs → VAt w v cs := by
  intro v cs h
  induction h with
  | mk css hk hn hsz h1 h1c hss h2 h2c hi h3 h3c _ ih => exact .mk css hk hn hsz (Rd.weak h1 fun _ _ => trivial) h1c hss (Rd.weak h2 fun _ _ => trivial) h2c hi h3.plain h3c ih
theorem SIn.sat {w : World} {X : Nat → Prop} : ∀ {v : St} {cs : List Value}, SIn X w v cs → SAt w v cs := by
  intro v cs h
  induction h with
  | mk css hk h1 h1c hss h3 h3c _ ih => exact .mk css hk (Rd.weak h1 fun _ _ => trivial) h1c hss h3.plain h3c ih
theorem VIn.length {w : World} {X : Nat → Prop} {v : Vt} {cs : List Value} (h : VIn X w v cs) : cs.length = 6 := by cases h; rfl
theorem SIn.length {w : World} {X : Nat → Prop} {v : St} {cs : List Value} (h : SIn X w v cs) : cs.length = 3 := by cases h; rfl
theorem VIn.weak {w : World} {X Y : Nat → Prop} (hY : ∀ g, X g → Y g) {v : Vt} {cs : List Value} (h : VIn X w v cs) : VIn Y w v cs := h.kept (Nat.le_refl _) fun g hx _ => ⟨hY g hx, rfl⟩
/-- One without lists. -/
theorem VIn.bare (X : Nat → Prop) (w : World) (k n : Int) (s : ByteArray) (parts : Nat → Vt) (hk : (Lit.int .i64 k).wf = true) (hn : (Lit.int .i64 n).wf = true) (hs : s.size ≤ maxLen) :
    VIn X w (.mk k n s [] [] 0 parts) [.int .i64 k, .int .i64 n, .string s, .slice none 0 0, .slice none 0 0, .slice none 0 0] :=
  .mk (fun _ => []) hk hn hs (Rd.nil _ _ _) ⟨Nat.le_refl _, Nat.zero_le _⟩ (fun _ h => by cases h) (Rd.nil _ _ _) ⟨Nat.le_refl _, Nat.zero_le _⟩ (fun _ h => by cases h) (fun h => absurd h (Nat.lt_irrefl 0)) ⟨Nat.le_refl _, Nat.zero_le _⟩ (fun j h => absurd h (Nat.not_lt_zero j))
/-- What the call's own row says. -/
theorem own_rd {w : World} {B : Nat} {T : TypeId} {v : Value} {n : Nat} {l : List Value} (h : w.ownsRow B T 1 v n l) : ∃ a cap, v = .slice a n cap ∧ Rd w (fun g => B ≤ g) a n l ∧ (n ≤ cap ∧ cap ≤ maxLen) ∧ (0 < n → a.map (·.block) = v.ownBlock) := by
  have hlt := h.lt
  rcases h.2 with ⟨rfl, rfl⟩ | ⟨g, cap, cur, rfl, hb, hg, hnc, hcm, _, _⟩
  · refine ⟨none, 0, rfl, ⟨by have := h.1; simpa using this, fun h0 => absurd h0 (Nat.lt_irrefl 0)⟩, ⟨Nat.le_refl _, Nat.zero_le _⟩, fun h0 => absurd h0 (Nat.lt_irrefl 0)⟩
  · refine ⟨some ⟨g, 0, none⟩, cap, rfl, ⟨by have := h.1; simpa using this, fun _ => ⟨_, rfl, hb, (hlt g rfl).2, fun j u hu => h.cells (g := g) rfl j u hu⟩⟩, ⟨hnc, hcm⟩, fun _ => rfl⟩
theorem flat_len {s : Nat} {css : Nat → List Value} : ∀ {n : Nat}, (∀ j, j < n → (css j).length = s) → ((List.range n).flatMap css).length = n * s
  | 0, _ => by simp
  | n + 1, h => by
    rw [List.range_succ, List.flatMap_append, List.length_append, flat_len (fun j hj => h j (by omega))]
    simp only [List.flatMap_cons, List.flatMap_nil, List.append_nil]
    rw [h n (by omega), Nat.succ_mul]
theorem flat_get {s : Nat} {css : Nat → List Value} : ∀ {n : Nat}, (∀ j, j < n → (css j).length = s) → ∀ {j i : Nat} {u : Value}, j < n → (css j)[i]? = some u → ((List.range n).flatMap css)[j * s + i]? = some u
  | 0, _, j, _, _, hj, _ => by omega
  | n + 1, h, j, i, u, hj, hu => by
    have hi : i < s := by have := (List.getElem?_eq_some_iff.1 hu).1; rw [h j hj] at this; exact this
    have hl := flat_len (fun j (hj : j < n) => h j (by omega))
    rw [List.range_succ, List.flatMap_append]
    by_cases hjn : j < n
    · rw [List.getElem?_append_left (by rw [hl]; have := Nat.mul_le_mul_right s (show j + 1 ≤ n by omega); rw [Nat.succ_mul] at this; omega)]
      exact flat_get (fun j hj => h j (by omega)) hjn hu
    · obtain rfl : j = n := by omega
      rw [List.getElem?_append_right (by rw [hl]; omega), hl, Nat.add_sub_cancel_left]
      simpa using hu
theorem own_parts {w : World} {B s : Nat} {T : TypeId} {v : Value} {n : Nat} {css : Nat → List Value} (hs : ∀ j, j < n → (css j).length = s) (h : w.ownsRow B T s v n ((List.range n).flatMap css)) :
    ∃ a cap, v = .slice a n cap ∧ PartsX (fun g => B ≤ g) w s a n css ∧ (n ≤ cap ∧ cap ≤ maxLen) := by
  have hlt := h.lt
  rcases h.2 with ⟨rfl, rfl⟩ | ⟨g, cap, cur, rfl, hb, hg, hnc, hcm, _, _⟩
  · exact ⟨none, 0, rfl, fun h0 => absurd h0 (Nat.lt_irrefl 0), ⟨Nat.le_refl _, Nat.zero_le _⟩⟩
  · exact ⟨some ⟨g, 0, none⟩, cap, rfl, fun _ => ⟨_, rfl, hb, (hlt g rfl).2, fun j hj => ⟨hs j hj, fun i u hu => h.cells (g := g) rfl (j * s + i) u (flat_get hs hj hu)⟩⟩, ⟨hnc, hcm⟩⟩
end

section
set_option maxRecDepth 100000
set_option linter.unusedSimpArgs false
set_option linter.unusedVariables false
open Go.RowKit

/-- A part that was read: it stands in blocks behind B, and in none of these two rows. -/
def PIn (B : Nat) (w : World) (u v : Value) (s : St) (cs : List Value) : Prop :=
  ∃ X : Nat → Prop, SIn X w s cs ∧ ∀ b, X b → B ≤ b ∧ b < w.heap.size ∧ u.ownBlock ≠ some b ∧ v.ownBlock ≠ some b
/-- What changes nothing but what lies ahead of B and these two rows keeps it. -/
theorem PIn.only {B : Nat} {w w' : World} {u v u' v' : Value} {s : St} {cs : List Value} (h : PIn B w u v s cs) {S : Nat → Prop} (ho : Only S w w') (hS : ∀ b, S b → b < B ∨ u.ownBlock = some b ∨ v.ownBlock = some b)
    (hu : u'.ownBlock = u.ownBlock ∨ ∃ b, u'.ownBlock = some b ∧ w.heap.size ≤ b) (hv : v'.ownBlock = v.ownBlock ∨ ∃ b, v'.ownBlock = some b ∧ w.heap.size ≤ b) : PIn B w' u' v' s cs := by
  obtain ⟨X, h1, h2⟩ := h
  refine ⟨X, h1.kept ho.size fun b hX hb => ⟨hX, ho.block b hb fun hs => ?_⟩, fun b hX => ?_⟩
  · obtain ⟨a1, a2, a3, a4⟩ := h2 b hX
    rcases hS b hs with e | e | e
    · omega
    · exact a3 e
    · exact a4 e
  · obtain ⟨a1, a2, a3, a4⟩ := h2 b hX
    refine ⟨a1, Nat.lt_of_lt_of_le a2 ho.size, ?_, ?_⟩
    · rcases hu with e | ⟨b', e, hb'⟩
      · rw [e]; exact a3
      · rw [e]; intro e'; injection e' with e'; omega
    · rcases hv with e | ⟨b', e, hb'⟩
      · rw [e]; exact a4
      · rw [e]; intro e'; injection e' with e'; omega
theorem PIn.sat {B : Nat} {w : World} {u v : Value} {s : St} {cs : List Value} (h : PIn B w u v s cs) : SAt w s cs := by
  obtain ⟨X, h1, _⟩ := h
  exact h1.sat
end

section
set_option maxRecDepth 100000
set_option linter.unusedSimpArgs false
set_option linter.unusedVariables false
open Go.RowKit

theorem late_ok {b : Bool} {p : Prop} (h : (b == false) = true) : b = true → p := fun e => by rw [e] at h; cases h
theorem str_info : (Tryz.prog.info? 9).map (fun i => (i.zero, i.size, i.bytes)) = some (some (.string ByteArray.empty), 1, 16) := by kernel_rfl
theorem val_info : (Tryz.prog.info? 44).map (fun i => (i.zero, i.size, i.bytes)) = some (some (.agg #[.int .i64 0, .int .i64 0, .string ByteArray.empty, .slice none 0 0, .slice none 0 0, .slice none 0 0]), 6, 104) := by kernel_rfl
theorem info3 {P : Program} {t : TypeId} {z : Option Value} {s b : Nat} (h : (P.info? t).map (fun i => (i.zero, i.size, i.bytes)) = some (z, s, b)) : ∃ i, P.info? t = some i ∧ i.zero = z ∧ i.size = s ∧ i.bytes = b := by
  cases hi : P.info? t with
  | none => rw [hi] at h; cases h
  | some i =>
    rw [hi] at h
    simp only [Option.map_some, Option.some.injEq, Prod.mk.injEq] at h
    exact ⟨i, rfl, h.1, h.2.1, h.2.2⟩
theorem Reads.load_at {P : Program} {S : World → Prop} {o : Oper} {a : Act} (ty : TypeId) (x : Operand) (ho : o.op = .load ty x) (ad : Addr) (hx : a.eval x = .pointer (some ad)) (cs : List Value) (d : TypeDesc) (hS : ∀ w, S w → ∀ j v, cs[j]? = some v → w.cell? (ad.add j) = some v)
    (hu : P.underlying ty = some d) (hd : rowD d = true) (hi : (P.info? ty).map (·.size) = some cs.length) : Reads P S o (.agg cs.toArray) a := fun w hw => by
  unfold execOp
  simp only [ho, hx, Instr.loadAt, Instr.sureAddr, Sem.run_bind, Sem.run_pure, Result.andThen_ok, run_loadVar_at w ad ty cs d (hS w hw) hu hd hi]
theorem mk_str (x : ByteArray) (w : World) : (Instr.buildSlice 22 1 #[(0, .string x)]).run Tryz.prog w = .ok (.slice (some ⟨w.heap.size, 0, none⟩) 1 1) (w.alloc (.cells #[.string x] 9)) := by
  go_simp
theorem mk_val {ds : List Value} (h : ds.length = 6) (w : World) : (Instr.buildSlice 42 1 #[(0, .agg ds.toArray)]).run Tryz.prog w = .ok (.slice (some ⟨w.heap.size, 0, none⟩) 1 1) (w.alloc (.cells ds.toArray 44)) := by
  obtain ⟨i, hi, hz, hs, hb⟩ := info3 val_info
  refine run_buildSlice w _ _ 1 _ _ i _ Tryz.underlying42 hi hz (by rw [hs]; decide) (by rw [hs]; decide) ?_
  rw [hs]
  have := Go.Great.fill_whole (s := 6) (by omega) [Value.agg ds.toArray] ((Array.range (1 * 6)).map ((Value.agg #[.int .i64 0, .int .i64 0, .string ByteArray.empty, .slice none 0 0, .slice none 0 0, .slice none 0 0]).cells[· % (Value.agg #[.int .i64 0, .int .i64 0, .string ByteArray.empty, .slice none 0 0, .slice none 0 0, .slice none 0 0]).cells.size]!)) (by intro v hv; simp at hv; subst hv; simpa [Value.cells] using h) (by simp)
  simpa [Value.cells] using this
theorem st_strs {p : Addr} {old v : Value} {w : World} (hc : w.cell? p = some old) (hf : w.frozen? p = false) {a : Option Addr} {n c : Nat} (hv : v = .slice a n c) : (Instr.storeAt 22 (.pointer (some p)) v).run Tryz.prog w = .ok () (w.setCell p v) := by
  subst hv
  go_simp
theorem st_vals {p : Addr} {old v : Value} {w : World} (hc : w.cell? p = some old) (hf : w.frozen? p = false) {a : Option Addr} {n c : Nat} (hv : v = .slice a n c) : (Instr.storeAt 42 (.pointer (some p)) v).run Tryz.prog w = .ok () (w.setCell p v) := by
  subst hv
  go_simp
/-- Rows of unlike elements lie apart. -/
theorem own_ne {w : World} {B B' : Nat} {T T' : TypeId} {s s' : Nat} {v v' : Value} {n n' : Nat} {xs ys : List Value} (h : w.ownsRow B T s v n xs) (k : w.ownsRow B' T' s' v' n' ys) (hT : T ≠ T') : v.ownBlock = none ∨ v.ownBlock ≠ v'.ownBlock := by
  rcases h.2 with ⟨rfl, _⟩ | ⟨g, cap, cur, rfl, _, hg, _⟩
  · exact .inl rfl
  · refine .inr fun e => ?_
    rcases k.2 with ⟨rfl, _⟩ | ⟨g', cap', cur', rfl, _, hg', _⟩
    · cases e
    · simp only [Value.ownBlock, Option.some.injEq] at e
      rw [e, hg'] at hg
      simp only [Option.some.injEq, Obj.cells.injEq] at hg
      exact hT hg.2.1.symm
theorem own_form {w : World} {B : Nat} {T : TypeId} {s : Nat} {v : Value} {n : Nat} {xs : List Value} (h : w.ownsRow B T s v n xs) : ∃ a c, v = .slice a n c := by
  rcases h.2 with ⟨rfl, rfl⟩ | ⟨g, cap, cur, rfl, _⟩
  · exact ⟨_, _, rfl⟩
  · exact ⟨_, _, rfl⟩
theorem own_drew {w : World} {B : Nat} {T : TypeId} {s : Nat} {v : Value} {n : Nat} {xs : List Value} (h : w.ownsRow B T s v n xs) : w.drew.ownsRow B T s v n xs := h
theorem own_set {w : World} {B : Nat} {T : TypeId} {s : Nat} {v : Value} {n : Nat} {xs : List Value} (h : w.ownsRow B T s v n xs) {p : Addr} (hp : p.block < B) (u : Value) : (w.setCell p u).ownsRow B T s v n xs := by
  refine ⟨h.1, ?_⟩
  rcases h.2 with hn | ⟨g, cap, cur, rfl, hb, hg, rest⟩
  · exact .inl hn
  · exact .inr ⟨g, cap, cur, rfl, hb, (Below.heap_setCell _ _ _ _ (by omega)).trans hg, rest⟩
/-- The blocks of two rows. -/
def Own2 (v v' : Value) (g : Nat) : Prop := v.ownBlock = some g ∨ v'.ownBlock = some g
theorem flat_more (css : Nat → List Value) (n : Nat) (ds : List Value) : (List.range (n + 1)).flatMap (fun i => if i = n then ds else css i) = (List.range n).flatMap css ++ ds := by
  rw [List.range_succ, List.flatMap_append]
  simp only [List.flatMap_cons, List.flatMap_nil, List.append_nil, if_true]
  congr 1
  have h : ∀ m, m ≤ n → (List.range m).flatMap (fun i => if i = n then ds else css i) = (List.range m).flatMap css := by
    intro m
    induction m with
    | zero => intro _; rfl
    | succ m ih =>
      intro hm
      rw [List.range_succ, List.flatMap_append, List.flatMap_append, ih (by omega)]
      simp only [List.flatMap_cons, List.flatMap_nil, List.append_nil]
      rw [if_neg (by omega)]
  exact h n (Nat.le_refl _)
theorem take_more (l : List ByteArray) {j : Nat} (h : j < l.length) : (l.take (j + 1)).map Value.string = (l.take j).map Value.string ++ [.string (nth l j)] := by
  rw [List.take_add_one, List.map_append]
  congr 1
  unfold nth
  rw [List.getD, List.getElem?_eq_getElem h]
  rfl
end

section
set_option maxRecDepth 100000
set_option linter.unusedSimpArgs false
set_option linter.unusedVariables false
open Go.RowKit

theorem sch_info_ : (Tryz.prog.info? 25).map (fun i => (i.zero, i.size, i.bytes)) = some (some (.agg #[.int .i64 0, .slice none 0 0, .slice none 0 0]), 3, 56) := by kernel_rfl
theorem SIn.form {X : Nat → Prop} {w : World} {s : St} {cs : List Value} (h : SIn X w s cs) : ∃ (k : Int) (a : Option Addr) (la ca : Nat) (b : Option Addr) (lb cb : Nat), cs = [.int .i64 k, .slice a la ca, .slice b lb cb] := by
  cases h
  exact ⟨_, _, _, _, _, _, _, rfl⟩
def fsB (l : List ByteArray) (parts : Nat → St) (n : Nat) : List UInt8 := (List.range n).flatMap fun i => wB (nth l i) ++ (parts i).bytes
theorem fsB_more (l : List ByteArray) (parts : Nat → St) (n : Nat) : fsB l parts (n + 1) = fsB l parts n ++ (wB (nth l n) ++ (parts n).bytes) := by
  unfold fsB
  rw [List.range_succ, List.flatMap_append]
  simp
theorem fsB_split (l : List ByteArray) (parts : Nat → St) {j : Nat} : ∀ {n : Nat}, j ≤ n → ∃ R, fsB l parts n = fsB l parts j ++ R
  | 0, h => ⟨[], by obtain rfl : j = 0 := by omega
                    simp⟩
  | n + 1, h => by
    by_cases e : j = n + 1
    · subst e
      exact ⟨[], by simp⟩
    · obtain ⟨R, hR⟩ := fsB_split l parts (j := j) (n := n) (by omega)
      exact ⟨R ++ (wB (nth l n) ++ (parts n).bytes), by rw [fsB_more, hR, List.append_assoc]⟩
theorem rise_at {l : List ByteArray} (h : riseB l = true) {j : Nat} (hj : j < l.length) : folB (l.take j) (nth l j) = true := by
  rw [rise_n] at h
  rw [← Bool.not_eq_false]
  intro e
  have h1 : riseN l (j + 1) = false := by rw [riseN_more l (by omega), e, Bool.and_false]
  rw [riseN_no h1 (by omega)] at h
  cases h

/-- What stands at the head of a round. -/
structure RFi (w wr : World) (g : Nat) (A : Option Addr) (c : Nat) (F : Nat → Prop) (k : List UInt8) (p : Nat) (l : List ByteArray) (parts : Nat → St) (j : Nat) (v u : Value) (css : Nat → List Value) : Prop where
  box : Row wr w.heap.size 22 [v]
  row : wr.ownsRow (w.heap.size + 1) 9 1 v j ((l.take j).map Value.string)
  prow : wr.ownsRow (w.heap.size + 1) 25 3 u j ((List.range j).flatMap css)
  pin : ∀ i, i < j → PIn (w.heap.size + 1) wr v u (parts i) (css i)
  rd : Readto w wr g A c F k p 0

set_option maxHeartbeats 3200000 in
theorem sfread_any (g : Nat) (A : Option Addr) (c : Nat) (F : Nat → Prop) (k : List UInt8) (p : Nat) (l : List ByteArray) (parts : Nat → St) (R : List UInt8) (fq : FuncId) (fn : Func) (caps : Array Value) (w : World) (h : Rr w g A c F k p 0)
    (hfn : Tryz.prog.funcs[fq]? = some fn) (hfm : (fn.name == "runtime.NumGoroutine") = false) (hfb : fn.body.isNone = false)
    (hk : k.drop p = enc l.length ++ (fsB l parts l.length ++ R)) (h8 : l.length ≤ 8) (hw : riseB l = true) (hF : ∀ j, F j → j < g)
    (hP : ∀ j, j < l.length → ∀ (w' : World) (p' : Nat) (R' : List UInt8), Only (fun b => b = g) w w' → Rr w' g A c F k p' 0 → k.drop p' = (parts j).bytes ++ R' →
      Calls Tryz.prog fq caps w' fun e w'' => ∃ cs, e = .returned (.agg cs.toArray) ∧ (∃ X, SIn X w'' (parts j) cs ∧ ∀ b, X b → w'.heap.size ≤ b ∧ b < w''.heap.size) ∧ Readto w' w'' g A c F k (p' + (parts j).bytes.length) 0) :
    Calls Tryz.prog 56 #[.pointer (some ⟨g, 0, none⟩), .func (.func fq) #[] caps] w fun e w' => ∃ v u css, e = .returned (.tuple #[v, u]) ∧ RFi w w' g A c F k (p + ((enc l.length).length + (fsB l parts l.length).length)) l parts l.length v u css := by
  obtain ⟨i0, hi, hz0, hz1, hz2⟩ := info_parts str_info_
  obtain ⟨k0, hi2, hy0, hy1, hy2⟩ := info_parts sch_info_
  have hgl := h.lt
  have HCT := Lib.hid (count_any g A c F k p l.length (fsB l parts l.length ++ R) (w.alloc (.cells #[.slice none 0 0] 22)) (h.below (below_new w _)) hk h8)
  have HK := Lib.hid hk
  have HWD := Lib.hid hw
  have HF := Lib.hid hF
  have HP := Lib.hid hP
  obtain ⟨n, hn⟩ : ∃ n, l.length = n := ⟨_, rfl⟩
  rw [hn] at HCT h8 HK HP ⊢
  have HN := Lib.hid hn
  have HBX := Lib.hid (Row.new w [.slice none 0 0] 22)
  clear h hk hw hn hF hP
  go_enter Tryz.func56, Tryz.ntmps56
  go_wp2_with fail
  refine HCT.out.mono ?_
  rintro e W1 ⟨rfl, hto⟩
  have HBX1 := Lib.hid (HBX.out.only hto.only (by omega))
  have HT := Lib.hid (readto_from hto)
  clear hto
  go_wp2_with fail
  go_loopw [5, 8] (fun u i wr => ∃ (j : Nat) (v : Value) (css : Nat → List Value), j ≤ n ∧ i = .int .i64 (j : Int) ∧ RFi w wr g A c F k (p + ((enc n).length + (fsB l parts j).length)) l parts j v u css) (fun _ i _ => n - (intOf i).toNat)
  case atStart => exact ⟨0, .slice none 0 0, fun _ => [], Nat.zero_le _, rfl, ⟨HBX1.out, World.ownsRow_nil _ _ _ _, World.ownsRow_nil _ _ _ _, fun i hi => absurd hi (Nat.not_lt_zero _), HT.out⟩⟩
  case round =>
    obtain ⟨j, v, css, hjn, rfl, hinv⟩ := hrel
    have HINV := Lib.hid hinv
    have hblt := hinv.box.lt
    clear hinv
    obtain ⟨a, cv, rfl⟩ := own_slice HINV.out.row
    have bj0 : (0 : Int) ≤ (j : Int) := by omega
    by_cases hj : j < n
    · have hji : (j : Int) < (n : Int) := by omega
      have hjl : j < l.length := by rw [HN.out]; exact hj
      have hbc := HINV.out.box.cell (k := 0) rfl
      have hsz : (nth l j).size ≤ 64 := riseB_size HWD.out hjl
      have hnew : folB (l.take j) (nth l j) = true := rise_at HWD.out hjl
      obtain ⟨R2, hR2⟩ := fsB_split l parts (j := j + 1) (n := n) (by omega)
      have hkd : k.drop (p + ((enc n).length + (fsB l parts j).length)) = enc (nth l j).size ++ ((nth l j).data.toList ++ ((parts j).bytes ++ (R2 ++ R))) := by
        rw [← Nat.add_assoc]
        refine drop_more (drop_more ?_)
        rw [HK.out, hR2, fsB_more]
        unfold wB
        simp only [List.append_assoc]
      have hkd2 := Lib.hid hkd
      have hrd : Rd wr.drew (fun q => q ≠ g) a j ((l.take j).map Value.string) := (Rd.of_own (w := wr.drew) HINV.out.row).mono fun q _ hq => by
        have := (HINV.out.row.lt q hq).1
        omega
      have HW := Lib.hid (fword_any g A c F k _ ⟨w.heap.size, 0, none⟩ a j cv (l.take j) (nth l j) ((parts j).bytes ++ (R2 ++ R)) wr.drew (HINV.out.rd.rr.below (Below.refl _ _).drew) hkd hsz (by omega) hnew hbc (by show w.heap.size ≠ g; omega) hrd)
      have HSM := Lib.hid (strs_more l hjl)
      have HWM := Lib.hid (fsB_more l parts j)
      have hwl : (wB (nth l j)).length = (enc (nth l j).size).length + (nth l j).size := by unfold wB; simp
      clear hkd hnew hrd hR2
      generalize nth l j = x at *
      go_wp2_with fail
      refine startT (fun w' => w'.cell? ⟨w.heap.size, 0, none⟩ = some (.slice a j cv)) [5] (by kernel_rfl) ?_
      have hS0 : wr.drew.cell? ⟨w.heap.size, 0, none⟩ = some (.slice a j cv) := hbc
      refine takeT 0 (some 10) rfl rfl (by kernel_rfl) (by kernel_rfl) (fun _ _ _ h => h) (Reads.load 22 (.tmp 4) rfl _ _ rfl (fun w' h => ld_strs_ h rfl)) hS0 ?_
      simp only [Act.put, List.setIfInBounds_toArray, List.set_cons_zero, List.set_cons_succ]
      refine takeT 1 (some 11) rfl rfl (by kernel_rfl) (by kernel_rfl) (fun _ _ _ h => h) (Reads.move (x := .tmp 0) rfl rfl) hS0 ?_
      simp only [Act.put, List.setIfInBounds_toArray, List.set_cons_zero, List.set_cons_succ]
      refine takeT 2 (some 12) (v := .func (.func 66) #[] #[.pointer (some ⟨w.heap.size, 0, none⟩)]) rfl rfl (by kernel_rfl) (by kernel_rfl) (fun _ _ _ h => h) (Reads.makeFunc 66 (.tmp 4) rfl _ rfl (fun w' => mk_func_ _ _ w')) hS0 ?_
      simp only [Act.put, List.setIfInBounds_toArray, List.set_cons_zero, List.set_cons_succ]
      refine oneT 3 (by kernel_rfl) rfl (by kernel_rfl) (fun K hK => ?_)
      refine wp_call_any (args := [.pointer (some ⟨g, 0, none⟩), .func (.func 66) #[] #[.pointer (some ⟨w.heap.size, 0, none⟩)]]) rfl Tryz.func63 (by kernel_rfl) (by kernel_rfl) rfl HW.out ?_
      rintro e W3 ⟨rfl, hto3⟩
      refine ⟨_, rfl, ?_⟩
      have hb3 : Row W3 w.heap.size 22 [.slice a j cv] := (show Row wr.drew w.heap.size 22 [.slice a j cv] from HINV.out.box).only hto3.only (by omega)
      have hS3 := hb3.cell (k := 0) rfl
      have ho3 : W3.ownsRow (w.heap.size + 1) 9 1 (.slice a j cv) j ((l.take j).map Value.string) := own_only (w := wr.drew) HINV.out.row hto3.only (fun q hq e => by have h1 := (HINV.out.row.lt q hq).1; have h2 : q = g := e; omega)
      have ht3 : Readto w W3 g A c F k _ 0 := ⟨hto3.rr, (HINV.out.rd.only.trans (Only.of_below (Below.refl _ _).drew _) fun _ _ h => h).trans hto3.only fun _ _ h => h⟩
      refine hK.out _ _ (fun _ => hS3) ?_
      clear hK K
      change wpAnyT _ _ _ _ _ _ _ _ (Act.put _ (some 13) _) _
      simp only [Act.put, List.setIfInBounds_toArray, List.set_cons_zero, List.set_cons_succ]
      have hb4 := hb3.alloc (.cells #[.string x] 9)
      have ho4 := ho3.alloc (.cells #[.string x] 9)
      have ht4 := readto_new ht3 (.cells #[.string x] 9)
      refine oneT 4 (by kernel_rfl) rfl (by kernel_rfl) (fun K hK => ?_)
      refine wp_slice1 22 9 (.tmp 13) rfl (.string x) rfl #[.string x] (fun w' => mk_str_ x w') ?_
      refine hK.out _ _ (fun _ => hb4.cell (k := 0) rfl) ?_
      clear hK K
      change wpAnyT _ _ _ _ _ _ _ _ (Act.put _ (some 14) _) _
      simp only [Act.put, List.setIfInBounds_toArray, List.set_cons_zero, List.set_cons_succ]
      have hsz3 := hb3.lt
      refine oneT 5 (by kernel_rfl) rfl (by kernel_rfl) (fun K hK => ?_)
      refine wp_append_at (.tmp 10) (.tmp 14) 22 rfl (w.heap.size + 1) 9 i0 (.string ByteArray.empty) 1 16 Tryz.underlying22 hi hz0 hz1 hz2 rfl (by decide) (.slice a j cv) j _ rfl ho4 ⟨W3.heap.size, 0, none⟩ 1 1 [.string x] rfl rfl (Go.cell_one_new W3 (.string x) _) (by intro u hu; simp at hu; subst hu; rfl) (by unfold maxLen; omega) (by omega) (by simp; omega) (fun v5 W5 ho5 hg5 hat5 => ?_)
      refine hK.out _ _ (late_ok_ (by kernel_rfl)) ?_
      clear hK K
      change wpAnyT _ _ _ _ _ _ _ _ (Act.put _ (some 15) _) _
      simp only [Act.put, List.setIfInBounds_toArray, List.set_cons_zero, List.set_cons_succ]
      have hno : ∀ q, (Value.slice a j cv).ownBlock = some q → w.heap.size + 1 ≤ q := fun q hq => (ho4.lt q hq).1
      have ht5 := readto_grown ht4 hgl HF.out hg5 (fun q hq => by have := hno q hq; omega)
      have hb5 : Row W5 w.heap.size 22 [.slice a j cv] := hb4.only (only_grown hg5) (fun e => by have := hno _ e; omega)
      have HA5 := Lib.hid (show v5.ownBlock = (Value.slice a j cv).ownBlock ∨ ∃ b, v5.ownBlock = some b ∧ wr.heap.size ≤ b from hat5.imp id fun e => ⟨_, e, by have h1 := hto3.only.size; have h2 : wr.drew.heap.size = wr.heap.size := rfl; simp; omega⟩)
      clear hat5
      obtain ⟨a5, c5, rfl⟩ := own_slice ho5
      refine oneT 6 (by kernel_rfl) rfl (by kernel_rfl) (fun K hK => ?_)
      refine wp_store_cell 22 (.tmp 4) (.tmp 15) rfl ⟨w.heap.size, 0, none⟩ rfl (.slice a5 (j + 1) c5) rfl (st_strs_ (hb5.cell (k := 0) rfl) (hb5.free 0) rfl) ?_
      refine hK.out _ _ (late_ok_ (by kernel_rfl)) ?_
      clear hK K
      change wpAnyT _ _ _ _ _ _ _ _ (Act.put _ none _) _
      simp only [Act.put, List.setIfInBounds_toArray, List.set_cons_zero, List.set_cons_succ]
      refine doneT (by kernel_rfl) ?_ _
      have hne5 := own_ne HINV.out.row HINV.out.prow (by decide)
      have hO6 : Only (fun b => b = g ∨ b = w.heap.size ∨ (Value.slice a j cv).ownBlock = some b) wr (W5.setCell ⟨w.heap.size, 0, none⟩ (.slice a5 (j + 1) c5)) :=
        (((((Only.of_below (Below.refl _ _).drew _).trans hto3.only fun _ _ h => .inl h).alloc (.cells #[.string x] 9)).trans (only_grown hg5) fun _ _ h => .inr (.inr h))).setCell (.inl (.inr (.inl rfl))) _
      have HO6 := Lib.hid hO6
      have HB6 := Lib.hid (show Row (W5.setCell ⟨w.heap.size, 0, none⟩ (.slice a5 (j + 1) c5)) w.heap.size 22 [.slice a5 (j + 1) c5] from hb5.set 0 _)
      have HR6 := Lib.hid (own_set_ ho5 (p := ⟨w.heap.size, 0, none⟩) (by show w.heap.size < _; omega) (.slice a5 (j + 1) c5))
      have HT6 := Lib.hid (show Readto w (W5.setCell ⟨w.heap.size, 0, none⟩ (.slice a5 (j + 1) c5)) g A c F k (p + ((enc n).length + (fsB l parts j).length) + ((enc x.size).length + x.size)) 0 from
        ⟨ht5.rr.only (Only.setCell (S := fun q => q = w.heap.size) (Only.refl _ _) (.inl rfl) _) (by show ¬ g = w.heap.size; omega) (fun q hq e => by have h1 := HF.out q hq; have h2 : q = w.heap.size := e; omega), ht5.only.trans (Only.setCell (S := fun q => q = w.heap.size) (Only.refl _ _) (.inl rfl) _) fun q hq e => by have h2 : q = w.heap.size := e; omega⟩)
      have HU6 := Lib.hid (own_only HINV.out.prow hO6 (fun q hq h => by
        have h1 := (HINV.out.prow.lt q hq).1
        rcases h with h | h | h
        · omega
        · omega
        · rcases hne5 with e | e
          · rw [e] at h; cases h
          · exact e (h.trans hq.symm)))
      generalize W5.setCell ⟨w.heap.size, 0, none⟩ (.slice a5 (j + 1) c5) = W6 at *
      have hOg : Only (fun b => b = g) w W6 := HT6.out.only
      have hkd3 : k.drop (p + ((enc n).length + (fsB l parts j).length) + ((enc x.size).length + x.size)) = (parts j).bytes ++ (R2 ++ R) := by
        have h1 := drop_more hkd2.out
        have h2 := drop_more h1
        rw [show x.data.toList.length = x.size by simp] at h2
        rw [← Nat.add_assoc]
        exact h2
      have HC := Lib.hid (show Calls Tryz.prog fq (([] : List Value).toArray ++ caps) W6 _ from by simpa using HP.out j hj W6 _ (R2 ++ R) hOg HT6.out.rr hkd3)
      clear hkd3 hOg
      go_wp2_with (refine wpList_call_fn rfl (x := .tmp 17) (xs := []) rfl rfl hfn hfm hfb rfl HC.out ?_)
      intro e W7 ds he X hX hXb hto7
      subst he
      refine ⟨_, rfl, ?_⟩
      obtain ⟨kd, ad, lad, cad, bd, lbd, cbd, rfl⟩ := hX.form
      have HX := Lib.hid hX
      have HXB := Lib.hid hXb
      have HT7 := Lib.hid hto7
      have HU7 := Lib.hid (own_only HU6.out hto7.only (fun q hq e => by have h1 := (HU6.out.lt q hq).1; have h2 : q = g := e; omega))
      clear hX hXb hto7
      have HU8 := Lib.hid (HU7.out.alloc (.cells #[.int .i64 kd, .slice ad lad cad, .slice bd lbd cbd] 25))
      have HRN := Lib.hid (Row.new W7 [.int .i64 kd, .slice ad lad cad, .slice bd lbd cbd] 25)
      have hs67 := HT7.out.only.size
      have hs6 := HT6.out.only.size
      have hb6 := HB6.out.lt
      have hgB : g < w.heap.size := hgl
      go_wp2_with (at_builtin; refine wpList_append_own_at _ rfl (.tmp 16) (.tmp 19) 23 rfl (w.heap.size + 1) 25 k0 (.agg #[.int .i64 0, .slice none 0 0, .slice none 0 0]) 3 56 Tryz.underlying23 hi2 hy0 hy1 hy2 rfl (by omega) u5 j ((List.range j).flatMap css) rfl HU8.out ⟨W7.heap.size, 0, none⟩ 1 1 [.int .i64 kd, .slice ad lad cad, .slice bd lbd cbd] rfl rfl ?cn ?co ?c1 ?c2 ?c3 ?_)
      case cn =>
        intro j u hu
        have ea : (⟨W7.heap.size, 0, none⟩ : Addr).add j = ⟨W7.heap.size, j, none⟩ := by unfold Addr.add; split <;> simp_all
        rw [ea]
        exact HRN.out.cell hu
      case co => intro u hu; simp at hu; rcases hu with rfl | rfl | rfl <;> rfl
      case c1 => unfold maxLen; omega
      case c2 => omega
      case c3 => simp; omega
      intro u9 W9 hown9 hg9 hex9 hat9
      have HO9 := Lib.hid hown9
      have HG9 := Lib.hid hg9
      have HA9 := Lib.hid hat9
      clear hown9 hg9 hat9
      have hu5lt : ∀ q, u5.ownBlock = some q → q < W6.heap.size := fun q hq => (HU6.out.lt q hq).2
      have hv5lt : ∀ q, (Value.slice a5 (j + 1) c5).ownBlock = some q → q < W6.heap.size := fun q hq => (HR6.out.lt q hq).2
      have hu5lo : ∀ q, u5.ownBlock = some q → w.heap.size + 1 ≤ q := fun q hq => (HU6.out.lt q hq).1
      have hs9 := HG9.out.size
      have h89 : W7.heap.size + 1 ≤ W9.heap.size := by simpa using hs9
      have h9 : Only (fun q => u5.ownBlock = some q) W7 W9 := ((Only.refl _ _).alloc _).trans (only_grown HG9.out) fun _ _ h => h
      have h69 : Only (fun q => q = g ∨ u5.ownBlock = some q) W6 W9 := ((Only.refl (fun q => q = g ∨ u5.ownBlock = some q) W6).trans HT7.out.only (fun _ _ h => .inl h)).trans h9 (fun _ _ h => .inr h)
      have HN2 := Lib.hid (show RFi w W9 g A c F k (p + ((enc n).length + (fsB l parts (j + 1)).length)) l parts (j + 1) (.slice a5 (j + 1) c5) u9 (fun i => if i = j then [.int .i64 kd, .slice ad lad cad, .slice bd lbd cbd] else css i) from by
        refine ⟨HB6.out.only h69 (fun e => by rcases e with e | e; omega; have := hu5lo _ e; omega), ?_, ?_, ?_, ?_⟩
        · rw [HSM.out]
          refine own_only HR6.out h69 fun q hq e => ?_
          rcases e with e | e
          · have := (HR6.out.lt q hq).1; omega
          · rcases own_ne HR6.out HU6.out (by decide) with h | h
            · rw [h] at hq; cases hq
            · exact h (hq.trans e.symm)
        · rw [flat_more]
          exact HO9.out
        · intro i hi
          by_cases e : i = j
          · subst e
            rw [if_pos rfl]
            refine ⟨X, HX.out.kept h9.size fun b hX hb => ⟨hX, h9.block b hb fun h => ?_⟩, fun b hX => ?_⟩
            · have := hu5lt b h; have := HXB.out b hX; omega
            · have h1 := HXB.out b hX
              refine ⟨by omega, by omega, fun h => ?_, fun h => ?_⟩
              · have := hv5lt b h; omega
              · rcases HA9.out with h2 | h2
                · rw [h2] at h; have := hu5lt b h; omega
                · rw [h2] at h; simp at h; omega
          · rw [if_neg e]
            have p6 : PIn (w.heap.size + 1) W6 (.slice a5 (j + 1) c5) u5 (parts i) (css i) := (HINV.out.pin i (by omega)).only HO6.out (fun b hb => by rcases hb with hb | hb | hb; (left; omega); (left; omega); exact .inr (.inl hb)) HA5.out (.inl rfl)
            refine p6.only h69 (fun b hb => by rcases hb with hb | hb; (left; omega); exact .inr (.inr hb)) (.inl rfl) ?_
            rcases HA9.out with h2 | h2
            · exact .inl h2
            · exact .inr ⟨_, h2, by omega⟩
        · have e : p + ((enc n).length + (fsB l parts j).length) + ((enc x.size).length + x.size) + (parts j).bytes.length = p + ((enc n).length + (fsB l parts (j + 1)).length) := by rw [HWM.out, List.length_append, List.length_append, hwl]; omega
          have h1 := readto_new (readto_trans HT6.out HT7.out) (.cells #[.int .i64 kd, .slice ad lad cad, .slice bd lbd cbd] 25)
          rw [e] at h1
          exact readto_grown h1 hgl HF.out HG9.out fun q hq => by have := hu5lo q hq; omega)
      go_wp2_with fail
      go_roundw
      case rel => exact ⟨j + 1, _, _, by omega, by go_num, HN2.out⟩
      case measure => simp [intOf] <;> omega
    · obtain rfl : j = n := by omega
      have hb2 : Row (wr.setCell ⟨w.heap.size, 0, none⟩ (.slice a j cv)) w.heap.size 22 [.slice a j cv] := HINV.out.box.set 0 _
      have hbc := HINV.out.box.cell (k := 0) rfl
      have hbf := HINV.out.box.free 0
      have hbc2 := hb2.cell (k := 0) rfl
      have hres : Tryz.f56.results = #[.cell 4 22, .tmp 5] := by kernel_rfl
      have hO : Only (fun q => q = w.heap.size) wr (wr.setCell ⟨w.heap.size, 0, none⟩ (.slice a j cv)) := Only.setCell (S := fun q => q = w.heap.size) (Only.refl _ _) (.inl rfl) _
      have HFIN := Lib.hid (show RFi w (wr.setCell ⟨w.heap.size, 0, none⟩ (.slice a j cv)) g A c F k (p + ((enc j).length + (fsB l parts j).length)) l parts j (.slice a j cv) u5 css from
        ⟨hb2, own_set_ HINV.out.row (by show w.heap.size < _; omega) _, own_set_ HINV.out.prow (by show w.heap.size < _; omega) _, fun i hi => (HINV.out.pin i hi).only hO (fun b hb => .inl (by have h2 : b = w.heap.size := hb; omega)) (.inl rfl) (.inl rfl),
          ⟨HINV.out.rd.rr.only hO (by show ¬ g = w.heap.size; omega) (fun q hq e => by have h1 := HF.out q hq; have h2 : q = w.heap.size := e; omega), HINV.out.rd.only.trans hO fun q hq e => by have h2 : q = w.heap.size := e; omega⟩⟩)
      go_wp2_with fail
      (try simp only [Exit.inBlock, Exit.then])
      refine bodyPost_ret (v := .tuple #[.slice a j cv, u5]) ?_ rfl ⟨_, _, _, rfl, HFIN.out⟩
      simp only [results, hres]
      go_simp
end

section
set_option maxRecDepth 100000
set_option linter.unusedSimpArgs false
set_option linter.unusedVariables false
open Go.RowKit

theorem rbyte_at {k R : List UInt8} {p : Nat} {x : UInt8} (h : k.drop p = x :: R) : rbyte k p = (x, p + 1, 0) := by
  unfold rbyte
  have : k[p]? = some x := by
    have e : (k.drop p)[0]? = some x := by rw [h]; rfl
    rw [List.getElem?_drop] at e
    simpa using e
  rw [this]
theorem sk_weak {w : World} {X Y : Nat → Prop} (hY : ∀ g, X g → Y g) {v : St} {cs : List Value} (h : SIn X w v cs) : SIn Y w v cs := h.kept (Nat.le_refl _) fun g hx _ => ⟨hY g hx, rfl⟩
/-- What reading a schema leaves. -/
def ReadS (w : World) (g : Nat) (A : Option Addr) (c : Nat) (F : Nat → Prop) (k : List UInt8) (q : Nat) (s : St) (e : Ending) (w' : World) : Prop :=
  ∃ cs, e = .returned (.agg cs.toArray) ∧ (∃ X, SIn X w' s cs ∧ ∀ b, X b → w.heap.size ≤ b ∧ b < w'.heap.size) ∧ Readto w w' g A c F k q 0
/-- The result's row is stored: what lies elsewhere stays. -/
theorem readS_end {w0 w w' : World} {g : Nat} {A : Option Addr} {c : Nat} {F : Nat → Prop} {k : List UInt8} {q : Nat} {s : St} {cs : List Value} {X : Nat → Prop} {r : Nat}
    (hs : SIn X w' s cs) (hX : ∀ b, X b → r < b ∧ b < w'.heap.size) (ht : Readto w w' g A c F k q 0) (hr : w.heap.size ≤ r) (hg : g < w.heap.size) (hF : ∀ j, F j → j < g) :
    ReadS w g A c F k q s (.returned (.agg cs.toArray)) (w'.setRow r cs.toArray) := by
  have hO : Only (fun j => j = r) w' (w'.setRow r cs.toArray) := only_setRow w' r cs.toArray
  refine ⟨cs, rfl, ⟨X, hs.kept hO.size fun b hb hlt => ⟨hb, hO.block b hlt fun e => ?_⟩, fun b hb => ?_⟩, ⟨ht.rr.only hO (by omega) (fun j hj e => by have := hF j hj; omega), ht.only.trans hO fun j hj e => by omega⟩⟩
  · have := hX b hb; have e' : b = r := e; omega
  · have := hX b hb; have := hO.size; omega
theorem SIn.bare (X : Nat → Prop) (w : World) (k : Int) (words : List ByteArray) (parts : Nat → St) (hk : (Lit.int .i64 k).wf = true) (hw : words.length = 0) :
    SIn X w (.mk k words 0 parts) [.int .i64 k, .slice none 0 0, .slice none 0 0] := by
  obtain rfl := List.eq_nil_of_length_eq_zero hw
  exact .mk (fun _ => []) hk (Rd.nil _ _ _) ⟨Nat.le_refl _, Nat.zero_le _⟩ (fun _ h => by cases h) (fun h => absurd h (Nat.lt_irrefl 0)) ⟨Nat.le_refl _, Nat.zero_le _⟩ (fun j h => absurd h (Nat.not_lt_zero j))
theorem s_one (k : Int) (a : Option Addr) (n c : Nat) (b : Option Addr) (m d : Nat) : (#[Value.int .i64 k, .slice a n c, .slice b m d].all fun x : Value => x.oneCell') = true := by simp [Value.oneCell']


/-- The world behind the first region: boxes of the reader and of the depth, and the result. -/
noncomputable abbrev rW (g d : Nat) (w : World) : World := ((w.alloc (.cells #[.pointer (some ⟨g, 0, none⟩)] 78)).alloc (.cells #[.int .i64 (d : Int)] 3)).alloc (.cells #[.int .i64 0, .slice none 0 0, .slice none 0 0] 25)
theorem rW_0 (g d : Nat) (w : World) : Row (rW g d w) w.heap.size 78 [.pointer (some ⟨g, 0, none⟩)] := ((Row.new w [.pointer (some ⟨g, 0, none⟩)] 78).alloc _).alloc _
theorem rW_1 (g d : Nat) (w : World) : Row (rW g d w) (w.heap.size + 1) 3 [.int .i64 (d : Int)] := (Row.new1 w (.cells #[.pointer (some ⟨g, 0, none⟩)] 78) [.int .i64 (d : Int)] 3).alloc _
theorem rW_2 (g d : Nat) (w : World) : Row (rW g d w) (w.heap.size + 1 + 1) 25 [.int .i64 0, .slice none 0 0, .slice none 0 0] := Row.new2 w _ _ [.int .i64 0, .slice none 0 0, .slice none 0 0] 25
theorem rW_below (g d : Nat) (w : World) : Below w.heap.size w (rW g d w) := Below.alloc3 w _ _ _

theorem sk_rd {w : World} {B B0 : Nat} {a : Option Addr} {n : Nat} {l : List Value} (h : Rd w (fun g => B ≤ g) a n l) (hB : B0 ≤ B) : Rd w (fun b => B0 ≤ b ∧ b < w.heap.size) a n l := ⟨h.1, fun hn => by
  obtain ⟨ad, e, hx, hlt, hc⟩ := h.2 hn
  exact ⟨ad, e, ⟨Nat.le_trans hB hx, hlt⟩, hlt, hc⟩⟩
theorem sk_px {w : World} {B B0 s : Nat} {c : Option Addr} {n : Nat} {css : Nat → List Value} (h : PartsX (fun g => B ≤ g) w s c n css) (hB : B0 ≤ B) : PartsX (fun b => B0 ≤ b ∧ b < w.heap.size) w s c n css := fun hn => by
  obtain ⟨ad, e, hx, hlt, hc⟩ := h hn
  exact ⟨ad, e, ⟨Nat.le_trans hB hx, hlt⟩, hlt, hc⟩
theorem readto_setc {g : Nat} {A : Option Addr} {c : Nat} {F : Nat → Prop} {k : List UInt8} {q : Nat} {d : Int} {w w' : World} (h : Readto w w' g A c F k q d) {p : Addr} (hp : w.heap.size ≤ p.block) (hg : g < w.heap.size) (hF : ∀ j, F j → j < g) (u : Value) : Readto w (w'.setCell p u) g A c F k q d := by
  have hO : Only (fun b => b = p.block) w' (w'.setCell p u) := Only.setCell (S := fun b => b = p.block) (Only.refl _ _) (.inl rfl) u
  exact ⟨h.rr.only hO (by omega) (fun j hj e => by have := hF j hj; omega), h.only.trans hO fun j hj e => by omega⟩
theorem words_size {l : List ByteArray} (h : ∀ i, i < l.length → (nth l i).size ≤ 64) : ∀ x ∈ l, x.size ≤ maxLen := fun x hx => by
  obtain ⟨i, hi, rfl⟩ := List.getElem_of_mem hx
  have := h i hi
  unfold nth at this
  simp [hi] at this
  unfold maxLen
  omega
theorem mk_sch_ (kd : Int) (ad : Option Addr) (lad cad : Nat) (bd : Option Addr) (lbd cbd : Nat) (w : World) : (Instr.buildSlice 23 1 #[(0, .agg #[.int .i64 kd, .slice ad lad cad, .slice bd lbd cbd])]).run Tryz.prog w = .ok (.slice (some ⟨w.heap.size, 0, none⟩) 1 1) (w.alloc (.cells #[.int .i64 kd, .slice ad lad cad, .slice bd lbd cbd] 25)) := by kernel_rfl

section
variable (g : Nat) (A : Option Addr) (c : Nat) (F : Nat → Prop) (k : List UInt8)
/-- Contract of reading at a depth. -/
def ReadsAt (s : St) (d : Nat) : Prop := ∀ (p : Nat) (R : List UInt8) (w : World), Rr w g A c F k p 0 → k.drop p = s.bytes ++ R →
  Calls Tryz.prog 41 #[.pointer (some ⟨g, 0, none⟩), .int .i64 (d : Int)] w (ReadS w g A c F k (p + s.bytes.length) s)

set_option maxHeartbeats 1600000 in
theorem readpart_any (hF : ∀ j, F j → j < g) (s : St) (d : Nat) (hd : d ≤ 1000) (H : ReadsAt g A c F k s (d + 1)) (b0 b1 p : Nat) (R : List UInt8) (w : World) (h : Rr w g A c F k p 0) (hk : k.drop p = s.bytes ++ R)
    (h0 : w.cell? ⟨b0, 0, none⟩ = some (.pointer (some ⟨g, 0, none⟩))) (h1 : w.cell? ⟨b1, 0, none⟩ = some (.int .i64 (d : Int))) :
    Calls Tryz.prog 54 #[.pointer (some ⟨b0, 0, none⟩), .pointer (some ⟨b1, 0, none⟩)] w (ReadS w g A c F k (p + s.bytes.length) s) := by
  have hgl := h.lt
  have HC := Lib.hid (H p R (w.alloc (.cells #[.int .i64 0, .slice none 0 0, .slice none 0 0] 25)) (h.below (below_new w _)) hk)
  have hn0 := Row.new w [.int .i64 0, .slice none 0 0, .slice none 0 0] 25
  have HR := Lib.hid hn0
  have bd : (d : Int) ≤ 1000 := by omega
  have bd0 : (0 : Int) ≤ (d : Int) := by omega
  have ed : ((d + 1 : Nat) : Int) = (d : Int) + 1 := by omega
  rw [ed] at HC
  have HFF := Lib.hid hF
  have l0 := lt_of_cell h0
  have l1 := lt_of_cell h1
  have h0' := ((below_new w (.cells #[.int .i64 0, .slice none 0 0, .slice none 0 0] 25)).cell (p := ⟨b0, 0, none⟩) l0).trans h0
  have h1' := ((below_new w (.cells #[.int .i64 0, .slice none 0 0, .slice none 0 0] 25)).cell (p := ⟨b1, 0, none⟩) l1).trans h1
  clear h hk H hn0 hF ed h0 h1
  go_enter Tryz.func54, Tryz.ntmps54
  go_wp2_with fail
  refine HC.out.mono ?_
  rintro e W1 ⟨cs, rfl, ⟨X, hX, hXb⟩, hto⟩
  have hr1 : Row W1 w.heap.size 25 [.int .i64 0, .slice none 0 0, .slice none 0 0] := HR.out.only hto.only (by omega)
  have HR1 := Lib.hid hr1
  have HE := Lib.hid (readS_end (w0 := w) hX (r := w.heap.size) (fun b hb => by have := hXb b hb; simp at this; omega) (readto_from hto) (Nat.le_refl _) hgl HFF.out)
  have hl := hX.length
  have HI := Lib.hid (s_info hl)
  obtain ⟨kd, ad, lad, cad, bd2, lbd, cbd, rfl⟩ := hX.form
  clear hX hXb hto hr1
  go_wp2_with (refine wpList_store_row rfl 25 (.tmp 2) (.tmp 6) rfl w.heap.size #[.int .i64 kd, .slice ad lad cad, .slice bd2 lbd cbd] rfl rfl 25 _ HR1.out (s_info (cs := [.int .i64 0, .slice none 0 0, .slice none 0 0]) rfl) rfl (s_one _ _ _ _ _ _ _) ?_)
  have hgot : (W1.setRow w.heap.size #[.int .i64 kd, .slice ad lad cad, .slice bd2 lbd cbd]).heap[w.heap.size]? = some (.cells #[.int .i64 kd, .slice ad lad cad, .slice bd2 lbd cbd] 25 (0, 0)) := setRow_heap W1 _ _ _ _ _ HR1.out
  (try simp only [Exit.inBlock, Exit.then])
  refine bodyPost_ret (results_cell_row (by rfl) _ _ w.heap.size _ _ _ _ (by rfl) hgot Tryz.underlying25 rfl (s_info (cs := [.int .i64 kd, .slice ad lad cad, .slice bd2 lbd cbd]) rfl)) rfl ?_
  exact HE.out

set_option maxHeartbeats 3200000 in
theorem zread_1 (hF : ∀ j, F j → j < g) (d : Nat) (hd : d ≤ 5) (words : List ByteArray) (parts : Nat → St) (hw : words.length = 0) (p : Nat) (R : List UInt8) (w : World) (h : Rr w g A c F k p 0) (hk : k.drop p = [1] ++ R) :
    Calls Tryz.prog 41 #[.pointer (some ⟨g, 0, none⟩), .int .i64 (d : Int)] w (ReadS w g A c F k (p + 1) (.mk 1 words 0 parts)) := by
  have hgl := h.lt
  have HB := Lib.hid (show Calls Tryz.prog 53 #[.pointer (some ⟨g, 0, none⟩)] (rW g d w) fun e w' => e = .returned (.int .u8 1) ∧ Readto (rW g d w) w' g A c F k (p + 1) 0 from by
    have h1 := rbyte_ok g A c F k p (rW g d w) (h.below (rW_below g d w))
    rw [rbyte_at (x := 1) hk] at h1
    exact h1)
  have HK := Lib.hid (drop_more hk)
  have HFF := Lib.hid hF
  have bd : ¬ (5 : Int) < (d : Int) := by omega
  have bd0 : (0 : Int) ≤ (d : Int) := by omega
  have bd1 : (d : Int) ≤ 5 := by omega
  have R0 := Lib.hid (rW_0 g d w)
  have R1 := Lib.hid (rW_1 g d w)
  have R2 := Lib.hid (rW_2 g d w)
  have RB := Lib.hid (rW_below g d w)
  clear h hk hF
  go_enter Tryz.func41, Tryz.ntmps41
  go_wp2_with fail
  refine HB.out.mono ?_
  rintro e W1 ⟨rfl, hto⟩
  have hs3 : (rW g d w).heap.size = w.heap.size + 1 + 1 + 1 := by simp
  have hsz := hto.only.size
  rw [hs3] at hsz
  have r0 := R0.out.only hto.only (by omega)
  have r1 := R1.out.only hto.only (by omega)
  have r2 := R2.out.only hto.only (by omega)
  have HT1 := Lib.hid (readto_new (hto.after RB.out) (.cells #[.int .i64 1, .slice none 0 0, .slice none 0 0] 25))
  have HR0 := Lib.hid (r0.alloc (.cells #[.int .i64 1, .slice none 0 0, .slice none 0 0] 25))
  have HR1 := Lib.hid (r1.alloc (.cells #[.int .i64 1, .slice none 0 0, .slice none 0 0] 25))
  have HR2 := Lib.hid (r2.alloc (.cells #[.int .i64 1, .slice none 0 0, .slice none 0 0] 25))
  have HN := Lib.hid (Row.new W1 [.int .i64 1, .slice none 0 0, .slice none 0 0] 25)
  clear hto r0 r1 r2
  have HE := Lib.hid (readS_end (w0 := w) (SIn.bare (fun _ => False) (W1.alloc (.cells #[.int .i64 1, .slice none 0 0, .slice none 0 0] 25)) 1 words parts (by decide) hw) (r := w.heap.size + 1 + 1) (fun b hb => hb.elim) HT1.out (by omega) hgl HFF.out)
  have HRES := Lib.hid HR2.out
  have n0 := HN.out.cell (k := 0) rfl
  go_wp2_with (first | (refine wpList_store_row rfl 25 (.tmp 4) (.tmp 45) rfl (w.heap.size + 1 + 1) #[.int .i64 1, .slice none 0 0, .slice none 0 0] rfl rfl 25 _ HRES.out (s_info (cs := [.int .i64 0, .slice none 0 0, .slice none 0 0]) rfl) rfl (s_one _ _ _ _ _ _ _) ?_))
  have hgot : ((W1.alloc (.cells #[.int .i64 1, .slice none 0 0, .slice none 0 0] 25)).setRow (w.heap.size + 1 + 1) #[.int .i64 1, .slice none 0 0, .slice none 0 0]).heap[w.heap.size + 1 + 1]? = some (.cells #[.int .i64 1, .slice none 0 0, .slice none 0 0] 25 (0, 0)) := setRow_heap (W1.alloc (.cells #[.int .i64 1, .slice none 0 0, .slice none 0 0] 25)) _ _ _ _ _ HRES.out
  (try simp only [Exit.inBlock, Exit.then])
  refine bodyPost_ret (results_cell_row (by rfl) _ _ (w.heap.size + 1 + 1) _ _ _ _ (by rfl) hgot Tryz.underlying25 rfl (s_info (cs := [.int .i64 1, .slice none 0 0, .slice none 0 0]) rfl)) rfl ?_
  exact HE.out

set_option maxHeartbeats 3200000 in
theorem zread_2 (hF : ∀ j, F j → j < g) (d : Nat) (hd : d ≤ 5) (words : List ByteArray) (parts : Nat → St) (hw : words.length = 0) (p : Nat) (R : List UInt8) (w : World) (h : Rr w g A c F k p 0) (hk : k.drop p = [2] ++ R) :
    Calls Tryz.prog 41 #[.pointer (some ⟨g, 0, none⟩), .int .i64 (d : Int)] w (ReadS w g A c F k (p + 1) (.mk 2 words 0 parts)) := by
  have hgl := h.lt
  have HB := Lib.hid (show Calls Tryz.prog 53 #[.pointer (some ⟨g, 0, none⟩)] (rW g d w) fun e w' => e = .returned (.int .u8 2) ∧ Readto (rW g d w) w' g A c F k (p + 1) 0 from by
    have h1 := rbyte_ok g A c F k p (rW g d w) (h.below (rW_below g d w))
    rw [rbyte_at (x := 2) hk] at h1
    exact h1)
  have HK := Lib.hid (drop_more hk)
  have HFF := Lib.hid hF
  have bd : ¬ (5 : Int) < (d : Int) := by omega
  have bd0 : (0 : Int) ≤ (d : Int) := by omega
  have bd1 : (d : Int) ≤ 5 := by omega
  have R0 := Lib.hid (rW_0 g d w)
  have R1 := Lib.hid (rW_1 g d w)
  have R2 := Lib.hid (rW_2 g d w)
  have RB := Lib.hid (rW_below g d w)
  clear h hk hF
  go_enter Tryz.func41, Tryz.ntmps41
  go_wp2_with fail
  refine HB.out.mono ?_
  rintro e W1 ⟨rfl, hto⟩
  have hs3 : (rW g d w).heap.size = w.heap.size + 1 + 1 + 1 := by simp
  have hsz := hto.only.size
  rw [hs3] at hsz
  have r0 := R0.out.only hto.only (by omega)
  have r1 := R1.out.only hto.only (by omega)
  have r2 := R2.out.only hto.only (by omega)
  have HT1 := Lib.hid (readto_new (hto.after RB.out) (.cells #[.int .i64 2, .slice none 0 0, .slice none 0 0] 25))
  have HR0 := Lib.hid (r0.alloc (.cells #[.int .i64 2, .slice none 0 0, .slice none 0 0] 25))
  have HR1 := Lib.hid (r1.alloc (.cells #[.int .i64 2, .slice none 0 0, .slice none 0 0] 25))
  have HR2 := Lib.hid (r2.alloc (.cells #[.int .i64 2, .slice none 0 0, .slice none 0 0] 25))
  have HN := Lib.hid (Row.new W1 [.int .i64 2, .slice none 0 0, .slice none 0 0] 25)
  clear hto r0 r1 r2
  have HE := Lib.hid (readS_end (w0 := w) (SIn.bare (fun _ => False) (W1.alloc (.cells #[.int .i64 2, .slice none 0 0, .slice none 0 0] 25)) 2 words parts (by decide) hw) (r := w.heap.size + 1 + 1) (fun b hb => hb.elim) HT1.out (by omega) hgl HFF.out)
  have HRES := Lib.hid HR2.out
  have n0 := HN.out.cell (k := 0) rfl
  go_wp2_with (first | (refine wpList_store_row rfl 25 (.tmp 4) (.tmp 45) rfl (w.heap.size + 1 + 1) #[.int .i64 2, .slice none 0 0, .slice none 0 0] rfl rfl 25 _ HRES.out (s_info (cs := [.int .i64 0, .slice none 0 0, .slice none 0 0]) rfl) rfl (s_one _ _ _ _ _ _ _) ?_))
  have hgot : ((W1.alloc (.cells #[.int .i64 2, .slice none 0 0, .slice none 0 0] 25)).setRow (w.heap.size + 1 + 1) #[.int .i64 2, .slice none 0 0, .slice none 0 0]).heap[w.heap.size + 1 + 1]? = some (.cells #[.int .i64 2, .slice none 0 0, .slice none 0 0] 25 (0, 0)) := setRow_heap (W1.alloc (.cells #[.int .i64 2, .slice none 0 0, .slice none 0 0] 25)) _ _ _ _ _ HRES.out
  (try simp only [Exit.inBlock, Exit.then])
  refine bodyPost_ret (results_cell_row (by rfl) _ _ (w.heap.size + 1 + 1) _ _ _ _ (by rfl) hgot Tryz.underlying25 rfl (s_info (cs := [.int .i64 2, .slice none 0 0, .slice none 0 0]) rfl)) rfl ?_
  exact HE.out

set_option maxHeartbeats 3200000 in
theorem zread_3 (hF : ∀ j, F j → j < g) (d : Nat) (hd : d ≤ 5) (words : List ByteArray) (parts : Nat → St) (hw : words.length = 0) (p : Nat) (R : List UInt8) (w : World) (h : Rr w g A c F k p 0) (hk : k.drop p = [3] ++ R) :
    Calls Tryz.prog 41 #[.pointer (some ⟨g, 0, none⟩), .int .i64 (d : Int)] w (ReadS w g A c F k (p + 1) (.mk 3 words 0 parts)) := by
  have hgl := h.lt
  have HB := Lib.hid (show Calls Tryz.prog 53 #[.pointer (some ⟨g, 0, none⟩)] (rW g d w) fun e w' => e = .returned (.int .u8 3) ∧ Readto (rW g d w) w' g A c F k (p + 1) 0 from by
    have h1 := rbyte_ok g A c F k p (rW g d w) (h.below (rW_below g d w))
    rw [rbyte_at (x := 3) hk] at h1
    exact h1)
  have HK := Lib.hid (drop_more hk)
  have HFF := Lib.hid hF
  have bd : ¬ (5 : Int) < (d : Int) := by omega
  have bd0 : (0 : Int) ≤ (d : Int) := by omega
  have bd1 : (d : Int) ≤ 5 := by omega
  have R0 := Lib.hid (rW_0 g d w)
  have R1 := Lib.hid (rW_1 g d w)
  have R2 := Lib.hid (rW_2 g d w)
  have RB := Lib.hid (rW_below g d w)
  clear h hk hF
  go_enter Tryz.func41, Tryz.ntmps41
  go_wp2_with fail
  refine HB.out.mono ?_
  rintro e W1 ⟨rfl, hto⟩
  have hs3 : (rW g d w).heap.size = w.heap.size + 1 + 1 + 1 := by simp
  have hsz := hto.only.size
  rw [hs3] at hsz
  have r0 := R0.out.only hto.only (by omega)
  have r1 := R1.out.only hto.only (by omega)
  have r2 := R2.out.only hto.only (by omega)
  have HT1 := Lib.hid (readto_new (hto.after RB.out) (.cells #[.int .i64 3, .slice none 0 0, .slice none 0 0] 25))
  have HR0 := Lib.hid (r0.alloc (.cells #[.int .i64 3, .slice none 0 0, .slice none 0 0] 25))
  have HR1 := Lib.hid (r1.alloc (.cells #[.int .i64 3, .slice none 0 0, .slice none 0 0] 25))
  have HR2 := Lib.hid (r2.alloc (.cells #[.int .i64 3, .slice none 0 0, .slice none 0 0] 25))
  have HN := Lib.hid (Row.new W1 [.int .i64 3, .slice none 0 0, .slice none 0 0] 25)
  clear hto r0 r1 r2
  have HE := Lib.hid (readS_end (w0 := w) (SIn.bare (fun _ => False) (W1.alloc (.cells #[.int .i64 3, .slice none 0 0, .slice none 0 0] 25)) 3 words parts (by decide) hw) (r := w.heap.size + 1 + 1) (fun b hb => hb.elim) HT1.out (by omega) hgl HFF.out)
  have HRES := Lib.hid HR2.out
  have n0 := HN.out.cell (k := 0) rfl
  go_wp2_with (first | (refine wpList_store_row rfl 25 (.tmp 4) (.tmp 45) rfl (w.heap.size + 1 + 1) #[.int .i64 3, .slice none 0 0, .slice none 0 0] rfl rfl 25 _ HRES.out (s_info (cs := [.int .i64 0, .slice none 0 0, .slice none 0 0]) rfl) rfl (s_one _ _ _ _ _ _ _) ?_))
  have hgot : ((W1.alloc (.cells #[.int .i64 3, .slice none 0 0, .slice none 0 0] 25)).setRow (w.heap.size + 1 + 1) #[.int .i64 3, .slice none 0 0, .slice none 0 0]).heap[w.heap.size + 1 + 1]? = some (.cells #[.int .i64 3, .slice none 0 0, .slice none 0 0] 25 (0, 0)) := setRow_heap (W1.alloc (.cells #[.int .i64 3, .slice none 0 0, .slice none 0 0] 25)) _ _ _ _ _ HRES.out
  (try simp only [Exit.inBlock, Exit.then])
  refine bodyPost_ret (results_cell_row (by rfl) _ _ (w.heap.size + 1 + 1) _ _ _ _ (by rfl) hgot Tryz.underlying25 rfl (s_info (cs := [.int .i64 3, .slice none 0 0, .slice none 0 0]) rfl)) rfl ?_
  exact HE.out

set_option maxHeartbeats 3200000 in
theorem zread_4 (hF : ∀ j, F j → j < g) (d : Nat) (hd : d ≤ 5) (words : List ByteArray) (parts : Nat → St) (hw1 : 1 ≤ words.length) (hw8 : words.length ≤ 8) (hwd : wordsB words = true) (p : Nat) (R : List UInt8) (w : World) (h : Rr w g A c F k p 0) (hk : k.drop p = [4] ++ (enc words.length ++ (wsB words words.length ++ R))) :
    Calls Tryz.prog 41 #[.pointer (some ⟨g, 0, none⟩), .int .i64 (d : Int)] w (ReadS w g A c F k (p + 1 + ((enc words.length).length + (wsB words words.length).length)) (.mk 4 words 0 parts)) := by
  have hgl := h.lt
  have HB := Lib.hid (show Calls Tryz.prog 53 #[.pointer (some ⟨g, 0, none⟩)] (rW g d w) fun e w' => e = .returned (.int .u8 4) ∧ Readto (rW g d w) w' g A c F k (p + 1) 0 from by
    have h1 := rbyte_ok g A c F k p (rW g d w) (h.below (rW_below g d w))
    rw [rbyte_at (x := 4) hk] at h1
    exact h1)
  have HK := Lib.hid (drop_more hk)
  have HFF := Lib.hid hF
  have bd : ¬ (5 : Int) < (d : Int) := by omega
  have bd0 : (0 : Int) ≤ (d : Int) := by omega
  have bd1 : (d : Int) ≤ 5 := by omega
  have R0 := Lib.hid (rW_0 g d w)
  have R1 := Lib.hid (rW_1 g d w)
  have R2 := Lib.hid (rW_2 g d w)
  have RB := Lib.hid (rW_below g d w)
  clear h hk hF
  have HWS := Lib.hid (words_size fun i hi => wordsB_size hwd hi)
  have HWD := Lib.hid hwd
  clear hwd
  go_enter Tryz.func41, Tryz.ntmps41
  go_wp2_with fail
  refine HB.out.mono ?_
  rintro e W1 ⟨rfl, hto⟩
  have hs3 : (rW g d w).heap.size = w.heap.size + 1 + 1 + 1 := by simp
  have hsz := hto.only.size
  rw [hs3] at hsz
  have r0 := R0.out.only hto.only (by omega)
  have r1 := R1.out.only hto.only (by omega)
  have r2 := R2.out.only hto.only (by omega)
  have HT1 := Lib.hid (readto_new (hto.after RB.out) (.cells #[.int .i64 4, .slice none 0 0, .slice none 0 0] 25))
  have HR0 := Lib.hid (r0.alloc (.cells #[.int .i64 4, .slice none 0 0, .slice none 0 0] 25))
  have HR1 := Lib.hid (r1.alloc (.cells #[.int .i64 4, .slice none 0 0, .slice none 0 0] 25))
  have HR2 := Lib.hid (r2.alloc (.cells #[.int .i64 4, .slice none 0 0, .slice none 0 0] 25))
  have HN := Lib.hid (Row.new W1 [.int .i64 4, .slice none 0 0, .slice none 0 0] 25)
  clear hto r0 r1 r2
  have n0 := HN.out.cell (k := 0) rfl
  have c0 := HR0.out.cell (k := 0) rfl
  have HC := Lib.hid (swords_any g A c F k (p + 1) words R _ HT1.out.rr HK.out hw1 hw8 HWD.out HFF.out)
  go_wp2_with fail
  refine HC.out.mono ?_
  rintro e W3 ⟨v, rfl, hown, hto2⟩
  obtain ⟨a, ca, rfl, _, hcap, _⟩ := own_rd hown
  have hs2 : (W1.alloc (.cells #[.int .i64 4, .slice none 0 0, .slice none 0 0] 25)).heap.size = W1.heap.size + 1 := by simp
  have hs23 := hto2.only.size
  rw [hs2] at hs23 hown
  have hn3 := HN.out.only hto2.only (by omega)
  have HR23 := Lib.hid (HR2.out.only hto2.only (by omega))
  have HT3 := Lib.hid (readto_setc (readto_trans HT1.out hto2) (p := ⟨W1.heap.size, 1, none⟩) (show w.heap.size ≤ W1.heap.size by omega) hgl HFF.out (.slice a words.length ca))
  have HOW := Lib.hid (own_set_ hown (p := ⟨W1.heap.size, 1, none⟩) (show W1.heap.size < _ by omega) (.slice a words.length ca))
  have n31 := hn3.cell (k := 1) rfl
  have n3f := hn3.free 1
  have HLD := Lib.hid (show Row (W3.setCell ⟨W1.heap.size, 1, none⟩ (.slice a words.length ca)) W1.heap.size 25 [.int .i64 4, .slice a words.length ca, .slice none 0 0] from hn3.set 1 _)
  have HRES := Lib.hid (show Row (W3.setCell ⟨W1.heap.size, 1, none⟩ (.slice a words.length ca)) (w.heap.size + 1 + 1) 25 [.int .i64 0, .slice none 0 0, .slice none 0 0] from
    HR23.out.only (Only.setCell (S := fun b => b = W1.heap.size) (Only.refl _ _) (.inl rfl) _) (by omega))
  have hsz4 : (W3.setCell ⟨W1.heap.size, 1, none⟩ (.slice a words.length ca)).heap.size = W3.heap.size := by simp
  have HE := Lib.hid (readS_end (w0 := w) (SIn.mk (X := fun b => W1.heap.size + 1 ≤ b ∧ b < (W3.setCell ⟨W1.heap.size, 1, none⟩ (.slice a words.length ca)).heap.size) (k := 4) (words := words) (len := 0) (parts := parts) (c := none) (cc := 0) (fun _ => []) (by decide)
    (sk_rd (by obtain ⟨a', c', e, h, _⟩ := own_rd HOW.out; cases e; exact h) (by omega)) hcap HWS.out (fun h => absurd h (Nat.lt_irrefl 0)) ⟨Nat.le_refl _, Nat.zero_le _⟩ (fun j h => absurd h (Nat.not_lt_zero j))) (r := w.heap.size + 1 + 1) (fun b hb => ⟨by omega, hb.2⟩) HT3.out (by omega) hgl HFF.out)
  clear hto2 hown hn3
  go_wp2_with (first | (refine wpList_load_row rfl 25 (.tmp 5) rfl W1.heap.size rfl 25 _ (0, 0) _ HLD.out Tryz.underlying25 rfl (s_info (cs := [.int .i64 4, .slice a words.length ca, .slice none 0 0]) rfl) ?_) | (refine wpList_store_row rfl 25 (.tmp 4) (.tmp 45) rfl (w.heap.size + 1 + 1) #[.int .i64 4, .slice a words.length ca, .slice none 0 0] rfl rfl 25 _ HRES.out (s_info (cs := [.int .i64 0, .slice none 0 0, .slice none 0 0]) rfl) rfl (s_one _ _ _ _ _ _ _) ?_))
  have hgot : ((W3.setCell ⟨W1.heap.size, 1, none⟩ (.slice a words.length ca)).setRow (w.heap.size + 1 + 1) #[.int .i64 4, .slice a words.length ca, .slice none 0 0]).heap[w.heap.size + 1 + 1]? = some (.cells #[.int .i64 4, .slice a words.length ca, .slice none 0 0] 25 (0, 0)) := setRow_heap (W3.setCell ⟨W1.heap.size, 1, none⟩ (.slice a words.length ca)) _ _ _ _ _ HRES.out
  (try simp only [Exit.inBlock, Exit.then])
  refine bodyPost_ret (results_cell_row (by rfl) _ _ (w.heap.size + 1 + 1) _ _ _ _ (by rfl) hgot Tryz.underlying25 rfl (s_info (cs := [.int .i64 4, .slice a words.length ca, .slice none 0 0]) rfl)) rfl ?_
  exact HE.out

set_option maxHeartbeats 3200000 in
theorem zread_6 (hF : ∀ j, F j → j < g) (d : Nat) (hd : d ≤ 5) (words : List ByteArray) (parts : Nat → St) (hw : words.length = 0) (H : ReadsAt g A c F k (parts 0) (d + 1)) (p : Nat) (R : List UInt8) (w : World) (h : Rr w g A c F k p 0) (hk : k.drop p = [6] ++ ((parts 0).bytes ++ R)) :
    Calls Tryz.prog 41 #[.pointer (some ⟨g, 0, none⟩), .int .i64 (d : Int)] w (ReadS w g A c F k (p + 1 + (parts 0).bytes.length) (.mk 6 words 1 parts)) := by
  have hgl := h.lt
  have HB := Lib.hid (show Calls Tryz.prog 53 #[.pointer (some ⟨g, 0, none⟩)] (rW g d w) fun e w' => e = .returned (.int .u8 6) ∧ Readto (rW g d w) w' g A c F k (p + 1) 0 from by
    have h1 := rbyte_ok g A c F k p (rW g d w) (h.below (rW_below g d w))
    rw [rbyte_at (x := 6) hk] at h1
    exact h1)
  have HK := Lib.hid (drop_more hk)
  have HFF := Lib.hid hF
  have bd : ¬ (5 : Int) < (d : Int) := by omega
  have bd0 : (0 : Int) ≤ (d : Int) := by omega
  have bd1 : (d : Int) ≤ 5 := by omega
  have R0 := Lib.hid (rW_0 g d w)
  have R1 := Lib.hid (rW_1 g d w)
  have R2 := Lib.hid (rW_2 g d w)
  have RB := Lib.hid (rW_below g d w)
  clear h hk hF
  have HH := Lib.hid H
  clear H
  go_enter Tryz.func41, Tryz.ntmps41
  go_wp2_with fail
  refine HB.out.mono ?_
  rintro e W1 ⟨rfl, hto⟩
  have hs3 : (rW g d w).heap.size = w.heap.size + 1 + 1 + 1 := by simp
  have hsz := hto.only.size
  rw [hs3] at hsz
  have r0 := R0.out.only hto.only (by omega)
  have r1 := R1.out.only hto.only (by omega)
  have r2 := R2.out.only hto.only (by omega)
  have HT1 := Lib.hid (readto_new (hto.after RB.out) (.cells #[.int .i64 6, .slice none 0 0, .slice none 0 0] 25))
  have HR0 := Lib.hid (r0.alloc (.cells #[.int .i64 6, .slice none 0 0, .slice none 0 0] 25))
  have HR1 := Lib.hid (r1.alloc (.cells #[.int .i64 6, .slice none 0 0, .slice none 0 0] 25))
  have HR2 := Lib.hid (r2.alloc (.cells #[.int .i64 6, .slice none 0 0, .slice none 0 0] 25))
  have HN := Lib.hid (Row.new W1 [.int .i64 6, .slice none 0 0, .slice none 0 0] 25)
  clear hto r0 r1 r2
  have n0 := HN.out.cell (k := 0) rfl
  have c0 := HR0.out.cell (k := 0) rfl
  have c1 := HR1.out.cell (k := 0) rfl
  have HC := Lib.hid (readpart_any g A c F k HFF.out (parts 0) d (by omega) HH.out w.heap.size (w.heap.size + 1) (p + 1) R _ HT1.out.rr HK.out c0 c1)
  go_wp2_with fail
  refine HC.out.mono ?_
  rintro e W3 ⟨cs, rfl, ⟨X, hX, hXb⟩, hto2⟩
  obtain ⟨kd, ad, lad, cad, bd2, lbd, cbd, rfl⟩ := hX.form
  have hs2 : (W1.alloc (.cells #[.int .i64 6, .slice none 0 0, .slice none 0 0] 25)).heap.size = W1.heap.size + 1 := by simp
  have hs23 := hto2.only.size
  rw [hs2] at hs23 hXb
  have hn3 := (HN.out.only hto2.only (by omega)).alloc (.cells #[.int .i64 kd, .slice ad lad cad, .slice bd2 lbd cbd] 25)
  have HR23 := Lib.hid ((HR2.out.only hto2.only (by omega)).alloc (.cells #[.int .i64 kd, .slice ad lad cad, .slice bd2 lbd cbd] 25))
  have HT3 := Lib.hid (readto_setc (readto_new (readto_trans HT1.out hto2) (.cells #[.int .i64 kd, .slice ad lad cad, .slice bd2 lbd cbd] 25)) (p := ⟨W1.heap.size, 2, none⟩) (show w.heap.size ≤ W1.heap.size by omega) hgl HFF.out (.slice (some ⟨W3.heap.size, 0, none⟩) 1 1))
  have hpr : Row ((W3.alloc (.cells #[.int .i64 kd, .slice ad lad cad, .slice bd2 lbd cbd] 25)).setCell ⟨W1.heap.size, 2, none⟩ (.slice (some ⟨W3.heap.size, 0, none⟩) 1 1)) W3.heap.size 25 [.int .i64 kd, .slice ad lad cad, .slice bd2 lbd cbd] :=
    (Row.new W3 [.int .i64 kd, .slice ad lad cad, .slice bd2 lbd cbd] 25).only (Only.setCell (S := fun b => b = W1.heap.size) (Only.refl _ _) (.inl rfl) _) (by omega)
  have n32 := hn3.cell (k := 2) rfl
  have n3f := hn3.free 2
  have HLD := Lib.hid (show Row ((W3.alloc (.cells #[.int .i64 kd, .slice ad lad cad, .slice bd2 lbd cbd] 25)).setCell ⟨W1.heap.size, 2, none⟩ (.slice (some ⟨W3.heap.size, 0, none⟩) 1 1)) W1.heap.size 25 [.int .i64 6, .slice none 0 0, .slice (some ⟨W3.heap.size, 0, none⟩) 1 1] from hn3.set 2 _)
  have HRES := Lib.hid (show Row ((W3.alloc (.cells #[.int .i64 kd, .slice ad lad cad, .slice bd2 lbd cbd] 25)).setCell ⟨W1.heap.size, 2, none⟩ (.slice (some ⟨W3.heap.size, 0, none⟩) 1 1)) (w.heap.size + 1 + 1) 25 [.int .i64 0, .slice none 0 0, .slice none 0 0] from
    HR23.out.only (Only.setCell (S := fun b => b = W1.heap.size) (Only.refl _ _) (.inl rfl) _) (by omega))
  have hO34 : Only (fun b => b = W1.heap.size) W3 ((W3.alloc (.cells #[.int .i64 kd, .slice ad lad cad, .slice bd2 lbd cbd] 25)).setCell ⟨W1.heap.size, 2, none⟩ (.slice (some ⟨W3.heap.size, 0, none⟩) 1 1)) := Only.setCell (S := fun b => b = W1.heap.size) ((Only.refl _ _).alloc _) (.inl rfl) _
  have hsz4 : ((W3.alloc (.cells #[.int .i64 kd, .slice ad lad cad, .slice bd2 lbd cbd] 25)).setCell ⟨W1.heap.size, 2, none⟩ (.slice (some ⟨W3.heap.size, 0, none⟩) 1 1)).heap.size = W3.heap.size + 1 := by simp
  have HW4 := Lib.hid (show words = [] from List.eq_nil_of_length_eq_zero hw)
  have HE := Lib.hid (readS_end (w0 := w) (SIn.mk (X := fun b => W1.heap.size + 1 ≤ b ∧ b < ((W3.alloc (.cells #[.int .i64 kd, .slice ad lad cad, .slice bd2 lbd cbd] 25)).setCell ⟨W1.heap.size, 2, none⟩ (.slice (some ⟨W3.heap.size, 0, none⟩) 1 1)).heap.size) (k := 6) (words := words) (len := 1) (parts := parts) (a := none) (la := 0) (ca := 0) (fun _ => [.int .i64 kd, .slice ad lad cad, .slice bd2 lbd cbd]) (by decide)
    (by rw [HW4.out]; exact Rd.nil _ _ _) ⟨Nat.le_refl _, Nat.zero_le _⟩ (by rw [HW4.out]; intro x hx; cases hx)
    (fun _ => ⟨⟨W3.heap.size, 0, none⟩, rfl, ⟨by show W1.heap.size + 1 ≤ W3.heap.size; omega, by show W3.heap.size < _; omega⟩, by show W3.heap.size < _; omega, fun j hj => ⟨rfl, fun i u hu => by
      obtain rfl : j = 0 := by omega
      have ea : (⟨W3.heap.size, 0, none⟩ : Addr).add (0 * 3 + i) = ⟨W3.heap.size, i, none⟩ := by unfold Addr.add; split <;> simp_all
      rw [ea]
      exact hpr.cell hu⟩⟩) ⟨Nat.le_refl _, by unfold maxLen; omega⟩
    (fun j hj => by
      obtain rfl : j = 0 := by omega
      exact hX.kept hO34.size fun b hb hlt => ⟨⟨by have := hXb b hb; omega, by have := hXb b hb; omega⟩, hO34.block b hlt (by have := hXb b hb; omega)⟩)) (r := w.heap.size + 1 + 1) (fun b hb => ⟨by omega, hb.2⟩) HT3.out (by omega) hgl HFF.out)
  have hmk := mk_sch_ kd ad lad cad bd2 lbd cbd
  clear hto2 hX hXb hn3 hpr hO34
  go_wp2_with (first | (refine wpList_load_row rfl 25 (.tmp 5) rfl W1.heap.size rfl 25 _ (0, 0) _ HLD.out Tryz.underlying25 rfl (s_info (cs := [.int .i64 6, .slice none 0 0, .slice (some ⟨W3.heap.size, 0, none⟩) 1 1]) rfl) ?_) | (refine wpList_store_row rfl 25 (.tmp 4) (.tmp 45) rfl (w.heap.size + 1 + 1) #[.int .i64 6, .slice none 0 0, .slice (some ⟨W3.heap.size, 0, none⟩) 1 1] rfl rfl 25 _ HRES.out (s_info (cs := [.int .i64 0, .slice none 0 0, .slice none 0 0]) rfl) rfl (s_one _ _ _ _ _ _ _) ?_))
  have hgot : (((W3.alloc (.cells #[.int .i64 kd, .slice ad lad cad, .slice bd2 lbd cbd] 25)).setCell ⟨W1.heap.size, 2, none⟩ (.slice (some ⟨W3.heap.size, 0, none⟩) 1 1)).setRow (w.heap.size + 1 + 1) #[.int .i64 6, .slice none 0 0, .slice (some ⟨W3.heap.size, 0, none⟩) 1 1]).heap[w.heap.size + 1 + 1]? = some (.cells #[.int .i64 6, .slice none 0 0, .slice (some ⟨W3.heap.size, 0, none⟩) 1 1] 25 (0, 0)) := setRow_heap ((W3.alloc (.cells #[.int .i64 kd, .slice ad lad cad, .slice bd2 lbd cbd] 25)).setCell ⟨W1.heap.size, 2, none⟩ (.slice (some ⟨W3.heap.size, 0, none⟩) 1 1)) _ _ _ _ _ HRES.out
  (try simp only [Exit.inBlock, Exit.then])
  refine bodyPost_ret (results_cell_row (by rfl) _ _ (w.heap.size + 1 + 1) _ _ _ _ (by rfl) hgot Tryz.underlying25 rfl (s_info (cs := [.int .i64 6, .slice none 0 0, .slice (some ⟨W3.heap.size, 0, none⟩) 1 1]) rfl)) rfl ?_
  exact HE.out

set_option maxHeartbeats 3200000 in
theorem zread_5 (hF : ∀ j, F j → j < g) (d : Nat) (hd : d ≤ 5) (words : List ByteArray) (parts : Nat → St) (hw8 : words.length ≤ 8) (hri : riseB words = true) (H : ∀ j, j < words.length → ReadsAt g A c F k (parts j) (d + 1)) (p : Nat) (R : List UInt8) (w : World) (h : Rr w g A c F k p 0) (hk : k.drop p = [5] ++ (enc words.length ++ (fsB words parts words.length ++ R))) :
    Calls Tryz.prog 41 #[.pointer (some ⟨g, 0, none⟩), .int .i64 (d : Int)] w (ReadS w g A c F k (p + 1 + ((enc words.length).length + (fsB words parts words.length).length)) (.mk 5 words words.length parts)) := by
  have hgl := h.lt
  have HB := Lib.hid (show Calls Tryz.prog 53 #[.pointer (some ⟨g, 0, none⟩)] (rW g d w) fun e w' => e = .returned (.int .u8 5) ∧ Readto (rW g d w) w' g A c F k (p + 1) 0 from by
    have h1 := rbyte_ok g A c F k p (rW g d w) (h.below (rW_below g d w))
    rw [rbyte_at (x := 5) hk] at h1
    exact h1)
  have HK := Lib.hid (drop_more hk)
  have HFF := Lib.hid hF
  have bd : ¬ (5 : Int) < (d : Int) := by omega
  have bd0 : (0 : Int) ≤ (d : Int) := by omega
  have bd1 : (d : Int) ≤ 5 := by omega
  have R0 := Lib.hid (rW_0 g d w)
  have R1 := Lib.hid (rW_1 g d w)
  have R2 := Lib.hid (rW_2 g d w)
  have RB := Lib.hid (rW_below g d w)
  clear h hk hF
  have HWS := Lib.hid (words_size fun i hi => riseB_size hri hi)
  have HWD := Lib.hid hri
  have HH := Lib.hid H
  clear hri H
  go_enter Tryz.func41, Tryz.ntmps41
  go_wp2_with fail
  refine HB.out.mono ?_
  rintro e W1 ⟨rfl, hto⟩
  have hs3 : (rW g d w).heap.size = w.heap.size + 1 + 1 + 1 := by simp
  have hsz := hto.only.size
  rw [hs3] at hsz
  have r0 := R0.out.only hto.only (by omega)
  have r1 := R1.out.only hto.only (by omega)
  have r2 := R2.out.only hto.only (by omega)
  have HT1 := Lib.hid (readto_new (hto.after RB.out) (.cells #[.int .i64 5, .slice none 0 0, .slice none 0 0] 25))
  have HR0 := Lib.hid (r0.alloc (.cells #[.int .i64 5, .slice none 0 0, .slice none 0 0] 25))
  have HR1 := Lib.hid (r1.alloc (.cells #[.int .i64 5, .slice none 0 0, .slice none 0 0] 25))
  have HR2 := Lib.hid (r2.alloc (.cells #[.int .i64 5, .slice none 0 0, .slice none 0 0] 25))
  have HN := Lib.hid (Row.new W1 [.int .i64 5, .slice none 0 0, .slice none 0 0] 25)
  clear hto r0 r1 r2
  have n0 := HN.out.cell (k := 0) rfl
  have c0 := HR0.out.cell (k := 0) rfl
  have c1 := HR1.out.cell (k := 0) rfl
  have HC := Lib.hid (sfread_any g A c F k (p + 1) words parts R 54 Tryz.f54 #[.pointer (some ⟨w.heap.size, 0, none⟩), .pointer (some ⟨w.heap.size + 1, 0, none⟩)] _ HT1.out.rr Tryz.func54 (by kernel_rfl) (by rfl) HK.out hw8 HWD.out HFF.out
    (fun j hj w' p' R' ho hrr hk' => (readpart_any g A c F k HFF.out (parts j) d (by omega) (HH.out j hj) w.heap.size (w.heap.size + 1) p' R' w' hrr hk' ((HR0.out.only ho (by omega)).cell (k := 0) rfl) ((HR1.out.only ho (by omega)).cell (k := 0) rfl)).mono fun _ _ h => h))
  go_wp2_with fail
  refine HC.out.mono ?_
  rintro e W3 ⟨v, u, css, rfl, hrf⟩
  have hrow := hrf.row
  rw [List.take_length] at hrow
  have hl3 : ∀ j, j < words.length → (css j).length = 3 := fun j hj => by
    obtain ⟨X, hX, _⟩ := hrf.pin j hj
    exact hX.length
  have hprow := hrf.prow
  have HPIN := Lib.hid hrf.pin
  obtain ⟨a, ca, rfl, _, hcap, _⟩ := own_rd hrow
  obtain ⟨b, cb, rfl, _, hcapb⟩ := own_parts hl3 hprow
  have hto2 := hrf.rd
  have hs2 : (W1.alloc (.cells #[.int .i64 5, .slice none 0 0, .slice none 0 0] 25)).heap.size = W1.heap.size + 1 := by simp
  have hs23 := hto2.only.size
  rw [hs2] at hs23 hrow hprow
  have hn3 := HN.out.only hto2.only (by omega)
  have hn4 : Row (W3.setCell ⟨W1.heap.size, 1, none⟩ (.slice a words.length ca)) W1.heap.size 25 [.int .i64 5, (.slice a words.length ca), .slice none 0 0] := hn3.set 1 _
  have hn5 : Row ((W3.setCell ⟨W1.heap.size, 1, none⟩ (.slice a words.length ca)).setCell ⟨W1.heap.size, 2, none⟩ (.slice b words.length cb)) W1.heap.size 25 [.int .i64 5, .slice a words.length ca, .slice b words.length cb] := hn4.set 2 _
  have HLD := Lib.hid hn5
  have HR23 := Lib.hid (HR2.out.only hto2.only (by omega))
  have HT3 := Lib.hid (readto_setc (readto_setc (readto_trans HT1.out hto2) (p := ⟨W1.heap.size, 1, none⟩) (show w.heap.size ≤ W1.heap.size by omega) hgl HFF.out (.slice a words.length ca)) (p := ⟨W1.heap.size, 2, none⟩) (show w.heap.size ≤ W1.heap.size by omega) hgl HFF.out (.slice b words.length cb))
  have HOW := Lib.hid (own_set_ (own_set_ hrow (p := ⟨W1.heap.size, 1, none⟩) (show W1.heap.size < _ by omega) (.slice a words.length ca)) (p := ⟨W1.heap.size, 2, none⟩) (show W1.heap.size < _ by omega) (.slice b words.length cb))
  have HOP := Lib.hid (own_set_ (own_set_ hprow (p := ⟨W1.heap.size, 1, none⟩) (show W1.heap.size < _ by omega) (.slice a words.length ca)) (p := ⟨W1.heap.size, 2, none⟩) (show W1.heap.size < _ by omega) (.slice b words.length cb))
  have n31 := hn3.cell (k := 1) rfl
  have n3f := hn3.free 1
  have n42 := hn4.cell (k := 2) rfl
  have n4f := hn4.free 2
  have hO35 : Only (fun q => q = W1.heap.size) W3 ((W3.setCell ⟨W1.heap.size, 1, none⟩ (.slice a words.length ca)).setCell ⟨W1.heap.size, 2, none⟩ (.slice b words.length cb)) := Only.setCell (S := fun q => q = W1.heap.size) (Only.setCell (S := fun q => q = W1.heap.size) (Only.refl _ _) (.inl rfl) _) (.inl rfl) _
  have HRES := Lib.hid (HR23.out.only hO35 (by omega))
  have hsz5 : ((W3.setCell ⟨W1.heap.size, 1, none⟩ (.slice a words.length ca)).setCell ⟨W1.heap.size, 2, none⟩ (.slice b words.length cb)).heap.size = W3.heap.size := by simp
  have HE := Lib.hid (readS_end (w0 := w) (SIn.mk (X := fun q => W1.heap.size + 1 ≤ q ∧ q < ((W3.setCell ⟨W1.heap.size, 1, none⟩ (.slice a words.length ca)).setCell ⟨W1.heap.size, 2, none⟩ (.slice b words.length cb)).heap.size) (k := 5) (words := words) (len := words.length) (parts := parts) css (by decide)
    (sk_rd (by obtain ⟨a', c', e, h, _⟩ := own_rd HOW.out; cases e; exact h) (by omega)) hcap HWS.out (sk_px (by obtain ⟨a', c', e, h, _⟩ := own_parts hl3 HOP.out; cases e; exact h) (by omega)) hcapb
    (fun j hj => by
      obtain ⟨X, hX, hXb⟩ := HPIN.out j hj
      rw [hs2] at hXb
      exact hX.kept hO35.size fun q hq hlt => ⟨⟨by have := hXb q hq; omega, by have := hXb q hq; omega⟩, hO35.block q hlt (by have := hXb q hq; omega)⟩)) (r := w.heap.size + 1 + 1) (fun q hq => ⟨by omega, hq.2⟩) HT3.out (by omega) hgl HFF.out)
  clear hto2 hrow hprow hrf hn3 hn4 hn5 hO35
  go_wp2_with (first | (refine wpList_load_row rfl 25 (.tmp 5) rfl W1.heap.size rfl 25 _ (0, 0) _ HLD.out Tryz.underlying25 rfl (s_info (cs := [.int .i64 5, .slice a words.length ca, .slice b words.length cb]) rfl) ?_) | (refine wpList_store_row rfl 25 (.tmp 4) (.tmp 45) rfl (w.heap.size + 1 + 1) #[.int .i64 5, .slice a words.length ca, .slice b words.length cb] rfl rfl 25 _ HRES.out (s_info (cs := [.int .i64 0, .slice none 0 0, .slice none 0 0]) rfl) rfl (s_one _ _ _ _ _ _ _) ?_))
  have hgot : (((W3.setCell ⟨W1.heap.size, 1, none⟩ (.slice a words.length ca)).setCell ⟨W1.heap.size, 2, none⟩ (.slice b words.length cb)).setRow (w.heap.size + 1 + 1) #[.int .i64 5, .slice a words.length ca, .slice b words.length cb]).heap[w.heap.size + 1 + 1]? = some (.cells #[.int .i64 5, .slice a words.length ca, .slice b words.length cb] 25 (0, 0)) := setRow_heap ((W3.setCell ⟨W1.heap.size, 1, none⟩ (.slice a words.length ca)).setCell ⟨W1.heap.size, 2, none⟩ (.slice b words.length cb)) _ _ _ _ _ HRES.out
  (try simp only [Exit.inBlock, Exit.then])
  refine bodyPost_ret (results_cell_row (by rfl) _ _ (w.heap.size + 1 + 1) _ _ _ _ (by rfl) hgot Tryz.underlying25 rfl (s_info (cs := [.int .i64 5, .slice a words.length ca, .slice b words.length cb]) rfl)) rfl ?_
  exact HE.out

theorem zread_any (hF : ∀ j, F j → j < g) : ∀ (s : St) (d : Nat), s.rightAt d = true → ReadsAt g A c F k s d := by
  intro s
  induction s with
  | nul => intro d h; simp [St.rightAt, St.sound] at h
  | mk kk words len parts ih =>
    intro d hr p R w h hk
    rw [St.rightAt_mk, Bool.and_eq_true, Bool.and_eq_true, List.all_eq_true] at hr
    obtain ⟨⟨h5, hh⟩, hp⟩ := hr
    have h5 := of_decide_eq_true h5
    rcases headS_cases hh with ⟨hk3, hw0, rfl⟩ | ⟨rfl, hw1, hw8, hwd, rfl⟩ | ⟨rfl, hw8, rfl, hri⟩ | ⟨rfl, hw0, rfl⟩
    · rcases hk3 with rfl | rfl | rfl
      · rw [bytes_123 (by decide)] at hk ⊢
        exact zread_1 g A c F k hF d h5 words parts hw0 p R w h hk
      · rw [bytes_123 (by decide)] at hk ⊢
        exact zread_2 g A c F k hF d h5 words parts hw0 p R w h hk
      · rw [bytes_123 (by decide)] at hk ⊢
        exact zread_3 g A c F k hF d h5 words parts hw0 p R w h hk
    · rw [bytes_4] at hk ⊢
      have hk' : k.drop p = [4] ++ (enc words.length ++ (wsB words words.length ++ R)) := by rw [hk]; simp only [wsB, List.append_assoc]
      have e : p + ([4] ++ (enc words.length ++ (List.range words.length).flatMap fun i => wB (nth words i))).length = p + 1 + ((enc words.length).length + (wsB words words.length).length) := by unfold wsB; simp only [List.length_append, List.length_cons, List.length_nil]; omega
      rw [e]
      exact zread_4 g A c F k hF d h5 words parts hw1 hw8 hwd p R w h hk'
    · rw [bytes_5] at hk ⊢
      have hk' : k.drop p = [5] ++ (enc words.length ++ (fsB words parts words.length ++ R)) := by rw [hk]; simp only [fsB, List.append_assoc]
      have e : p + ([5] ++ (enc words.length ++ (List.range words.length).flatMap fun i => wB (nth words i) ++ (parts i).bytes)).length = p + 1 + ((enc words.length).length + (fsB words parts words.length).length) := by unfold fsB; simp only [List.length_append, List.length_cons, List.length_nil]; omega
      rw [e]
      exact zread_5 g A c F k hF d h5 words parts hw8 hri (fun j hj => ih j (d + 1) (hp j (List.mem_range.2 hj))) p R w h hk'
    · rw [bytes_6] at hk ⊢
      have hk' : k.drop p = [6] ++ ((parts 0).bytes ++ R) := by rw [hk]; simp only [List.append_assoc]
      have e : p + ([6] ++ (parts 0).bytes).length = p + 1 + (parts 0).bytes.length := by simp only [List.length_append, List.length_cons, List.length_nil]; omega
      rw [e]
      exact zread_6 g A c F k hF d h5 words parts hw0 (ih 0 (d + 1) (hp 0 (List.mem_range.2 (by omega)))) p R w h hk'
end
end

section
set_option maxRecDepth 100000
set_option linter.unusedSimpArgs false
set_option linter.unusedVariables false
open Go.RowKit

theorem results_row_tmp_ {P : Program} {fn : Func} {p u : Tmp} {ty : TypeId} (h : fn.results = #[.cell p ty, .tmp u]) (tmps : Array Value) (w : World) (g : Nat) (t : TypeId) (cs : Array Value) (fr : Nat × Nat) (d : TypeDesc)
    (hp : tmps.getD p undef = .pointer (some ⟨g, 0, none⟩)) (hg : w.heap[g]? = some (.cells cs t fr))
    (hu : P.underlying ty = some d) (hd : (match d with | .struct _ | .array _ _ => true | _ => false) = true) (hi : (P.info? ty).map (·.size) = some cs.size) :
    (results fn tmps).run P w = .ok (.tuple #[.agg cs, tmps.getD u undef]) w := by
  rw [results_cell_tmp h, hp]
  simp [asAddr, run_loadVar_row w g t ty cs fr d hg hu hd hi, Result.andThen]
theorem readS_more {w0 w w1 : World} {g : Nat} {A : Option Addr} {c : Nat} {F : Nat → Prop} {k : List UInt8} {q : Nat} {s : St} {cs : List Value} {X : Nat → Prop} {r B : Nat} {o : Obj}
    (hs : SIn X w1 s cs) (hX : ∀ b, X b → B ≤ b ∧ b < w1.heap.size) (hrB : r < B) (ht : Readto w w1 g A c F k q 0) (hr : w.heap.size ≤ r) (hg : g < w.heap.size) (hF : ∀ j, F j → j < g) :
    ReadS w g A c F k q s (.returned (.agg cs.toArray)) ((w1.alloc o).setRow r cs.toArray) :=
  readS_end (w0 := w0) (hs.kept (Only.alloc (Only.refl (fun _ => False) w1) o).size fun b hb hlt => ⟨hb, (Only.alloc (Only.refl (fun _ => False) w1) o).block b hlt fun h => h⟩)
    (fun b hb => ⟨Nat.lt_of_lt_of_le hrB (hX b hb).1, Nat.lt_of_lt_of_le (hX b hb).2 (Only.alloc (Only.refl (fun _ => False) w1) o).size⟩) (readto_new ht o) hr hg hF

set_option maxHeartbeats 3200000 in
theorem sRd_any (g : Nat) (A : Option Addr) (c : Nat) (F : Nat → Prop) (k : List UInt8) (hF : ∀ j, F j → j < g) (s : St) (hr : s.rightAt 1 = true) (p : Nat) (R : List UInt8) (w : World) (h : Rr w g A c F k p 0) (hk : k.drop p = s.bytes ++ R) :
    Calls Tryz.prog 25 #[.pointer (some ⟨g, 0, none⟩)] w (ReadS w g A c F k (p + s.bytes.length) s) := by
  have hgl := h.lt
  have HC := Lib.hid (show Calls Tryz.prog 41 #[.pointer (some ⟨g, 0, none⟩), .int .i64 1] (w.alloc (.cells #[.int .i64 0, .slice none 0 0, .slice none 0 0] 25)) _ from zread_any g A c F k hF s 1 hr p R (w.alloc (.cells #[.int .i64 0, .slice none 0 0, .slice none 0 0] 25)) (h.below (below_new w _)) hk)
  have R0 := Lib.hid (Row.new w [.int .i64 0, .slice none 0 0, .slice none 0 0] 25)
  have HFF := Lib.hid hF
  clear h hk hF hr
  go_enter Tryz.func25, Tryz.ntmps25
  go_wp2_with fail
  refine HC.out.mono ?_
  rintro e W1 ⟨cs, rfl, ⟨X, hX, hXb⟩, hto⟩
  obtain ⟨kd, ad, lad, cad, bd, lbd, cbd, rfl⟩ := hX.form
  have hs1 : (w.alloc (.cells #[.int .i64 0, .slice none 0 0, .slice none 0 0] 25)).heap.size = w.heap.size + 1 := by simp
  rw [hs1] at hXb
  have r1 := R0.out.only hto.only (by omega)
  have HRES := Lib.hid (r1.alloc (.cells #[.int .i64 kd, .slice ad lad cad, .slice bd lbd cbd] 25))
  have HLD := Lib.hid (Row.new W1 [.int .i64 kd, .slice ad lad cad, .slice bd lbd cbd] 25)
  have HT := Lib.hid (readto_new (readto_from hto) (.cells #[.int .i64 kd, .slice ad lad cad, .slice bd lbd cbd] 25))
  have HE := Lib.hid (readS_more (w0 := w) (o := .cells #[.int .i64 kd, .slice ad lad cad, .slice bd lbd cbd] 25) hX hXb (Nat.lt_succ_self _) (readto_from hto) (Nat.le_refl _) hgl HFF.out)
  have HEr := Lib.hid (err_none g A c F k _ _ HT.out.rr)
  clear hX hXb hto r1
  go_wp2_with fail
  refine HEr.out.mono ?_
  rintro e W2 ⟨rfl, rfl⟩
  go_wp2_with (first | (refine wpList_load_row rfl 25 (.tmp 3) rfl W1.heap.size rfl 25 _ (0, 0) _ HLD.out Tryz.underlying25 rfl (s_info (cs := [.int .i64 kd, .slice ad lad cad, .slice bd lbd cbd]) rfl) ?_) | (refine wpList_store_row rfl 25 (.tmp 2) (.tmp 10) rfl w.heap.size #[.int .i64 kd, .slice ad lad cad, .slice bd lbd cbd] rfl rfl 25 _ HRES.out (s_info (cs := [.int .i64 0, .slice none 0 0, .slice none 0 0]) rfl) rfl (s_one _ _ _ _ _ _ _) ?_))
  have hgot := setRow_heap (W1.alloc (.cells #[.int .i64 kd, .slice ad lad cad, .slice bd lbd cbd] 25)) w.heap.size _ #[.int .i64 kd, .slice ad lad cad, .slice bd lbd cbd] _ _ HRES.out
  (try simp only [Exit.inBlock, Exit.then])
  refine bodyPost_ret (results_cell_row (by rfl) _ _ w.heap.size _ _ _ _ (by rfl) hgot Tryz.underlying25 rfl (s_info (cs := [.int .i64 kd, .slice ad lad cad, .slice bd lbd cbd]) rfl)) rfl ?_
  exact HE.out

/-- What decoding leaves. -/
def Decd (w : World) (s : St) (e : Ending) (w' : World) : Prop := ∃ (kd : Int) (ad : Option Addr) (lad cad : Nat) (bd : Option Addr) (lbd cbd : Nat), e = .returned (.tuple #[.agg #[.int .i64 kd, .slice ad lad cad, .slice bd lbd cbd], .nilIface]) ∧ (∃ X : Nat → Prop, SIn X w' s [.int .i64 kd, .slice ad lad cad, .slice bd lbd cbd] ∧ ∀ b, X b → w.heap.size ≤ b) ∧ Below w.heap.size w w'

set_option maxHeartbeats 3200000 in
theorem swhole_any (A : Option Addr) (c : Nat) (F : Nat → Prop) (s : St) (hr : s.rightAt 1 = true) (w : World) (h : Rd w F A s.bytes.length (Bs s.bytes)) (h4 : s.bytes.length ≤ 4096) :
    Calls Tryz.prog 24 #[.slice A s.bytes.length c, .func (.func 25) #[] #[]] w (Decd w s) := by
  have hb2 := Below.alloc2 w (.cells #[.int .i64 0, .slice none 0 0, .slice none 0 0] 25) (.cells #[.int .i64 0, .slice none 0 0, .slice none 0 0] 25)
  have HNR := Lib.hid (new_any A s.bytes.length c s.bytes F _ (Rd.below h hb2 fun _ h _ => h) (by omega))
  have R0 := Lib.hid ((Row.new w [.int .i64 0, .slice none 0 0, .slice none 0 0] 25).alloc (.cells #[.int .i64 0, .slice none 0 0, .slice none 0 0] 25))
  have HB2 := Lib.hid hb2
  have HRT := Lib.hid hr
  have h4i : ¬ (4096 : Int) < (s.bytes.length : Int) := by omega
  have hs2 : ((w.alloc (.cells #[.int .i64 0, .slice none 0 0, .slice none 0 0] 25)).alloc (.cells #[.int .i64 0, .slice none 0 0, .slice none 0 0] 25)).heap.size = w.heap.size + 1 + 1 := by simp
  clear h hb2 hr
  go_enter Tryz.func24, Tryz.ntmps24
  go_wp2_with fail
  refine HNR.out.mono ?_
  rintro e W1 ⟨g, A1, c1, rfl, hrr, hg1, hbn⟩
  rw [hs2] at hg1
  have r1 := R0.out.belowAll hbn
  have hgl := hrr.lt
  have HC := Lib.hid (sRd_any g A1 c1 _ s.bytes (fun j hj => hj.2) s HRT.out 0 [] W1 hrr (by simp))
  have hbw := HB2.out.trans (hbn.mono HB2.out.size)
  have HBW := Lib.hid hbw
  have HR1 := Lib.hid r1
  have hs1 := hbw.size
  have hs12 := hbn.size
  rw [hs2] at hs12
  clear hrr hbn r1 hbw
  go_wp2_with fail
  refine HC.out.mono ?_
  rintro e W2 ⟨cs, rfl, ⟨X, hX, hXb⟩, hto⟩
  obtain ⟨kd, ad, lad, cad, bd, lbd, cbd, rfl⟩ := hX.form
  rw [Nat.zero_add] at hto
  have hr2 := HR1.out.only hto.only (by omega)
  have hs23 := hto.only.size
  have HLD := Lib.hid (Row.new W2 [.int .i64 kd, .slice ad lad cad, .slice bd lbd cbd] 25)
  have HRES := Lib.hid (hr2.alloc (.cells #[.int .i64 kd, .slice ad lad cad, .slice bd lbd cbd] 25))
  have hB3 : Below w.heap.size w (W2.alloc (.cells #[.int .i64 kd, .slice ad lad cad, .slice bd lbd cbd] 25)) := HBW.out.trans ((hto.only.alloc _).below (by omega) (fun j hj => by have h2 : j = g := hj; omega))
  have HB3 := Lib.hid hB3
  have HX := Lib.hid (show SIn X (W2.alloc (.cells #[.int .i64 kd, .slice ad lad cad, .slice bd lbd cbd] 25)) s _ from hX.kept (Only.alloc (Only.refl (fun _ => False) W2) _).size fun b hb hlt => ⟨hb, (Only.alloc (Only.refl (fun _ => False) W2) _).block b hlt fun h => h⟩)
  have HXB := Lib.hid hXb
  have HEN := Lib.hid (end_ok g A1 c1 _ s.bytes _ (readto_new hto (.cells #[.int .i64 kd, .slice ad lad cad, .slice bd lbd cbd] 25)).rr)
  clear hX hXb hto hr2 hB3
  go_wp2_with fail
  refine HEN.out.mono ?_
  rintro e W3 ⟨rfl, q, rfl⟩
  go_wp2_with (first | (refine wpList_load_row rfl 25 (.tmp 8) rfl W2.heap.size rfl 25 _ (0, 0) _ HLD.out Tryz.underlying25 rfl (s_info (cs := [.int .i64 kd, .slice ad lad cad, .slice bd lbd cbd]) rfl) ?_) | (refine wpList_store_row rfl 25 (.tmp 4) (.tmp 26) rfl w.heap.size #[.int .i64 kd, .slice ad lad cad, .slice bd lbd cbd] rfl rfl 25 _ HRES.out (s_info (cs := [.int .i64 0, .slice none 0 0, .slice none 0 0]) rfl) rfl (s_one _ _ _ _ _ _ _) ?_))
  have hgot := setRow_heap ((W2.alloc (.cells #[.int .i64 kd, .slice ad lad cad, .slice bd lbd cbd] 25)).drewN q) w.heap.size _ #[.int .i64 kd, .slice ad lad cad, .slice bd lbd cbd] _ _ HRES.out
  (try simp only [Exit.inBlock, Exit.then])
  refine bodyPost_ret (results_row_tmp_ (by rfl) _ _ w.heap.size _ _ _ _ (by rfl) hgot Tryz.underlying25 rfl (s_info (cs := [.int .i64 kd, .slice ad lad cad, .slice bd lbd cbd]) rfl)) rfl ?_
  have hO : Only (fun j => j = w.heap.size) (W2.alloc (.cells #[.int .i64 kd, .slice ad lad cad, .slice bd lbd cbd] 25)) (((W2.alloc (.cells #[.int .i64 kd, .slice ad lad cad, .slice bd lbd cbd] 25)).drewN q).setRow w.heap.size #[.int .i64 kd, .slice ad lad cad, .slice bd lbd cbd]) := ((Only.refl (fun j => j = w.heap.size) _).drewN q).trans (only_setRow ((W2.alloc (.cells #[.int .i64 kd, .slice ad lad cad, .slice bd lbd cbd] 25)).drewN q) _ _) fun _ _ h => h
  exact ⟨kd, ad, lad, cad, bd, lbd, cbd, rfl, ⟨X, HX.out.kept (Y := X) hO.size fun b hb hlt => ⟨hb, hO.block b hlt fun e => by have := HXB.out b hb; have e2 : b = w.heap.size := e; omega⟩, fun b hb => by have := HXB.out b hb; omega⟩, HB3.out.trans (hO.below HB3.out.size fun j hj => by have h2 : j = w.heap.size := hj; omega)⟩

set_option maxHeartbeats 1600000 in
theorem sdecode_any (A : Option Addr) (c : Nat) (F : Nat → Prop) (s : St) (hr : s.rightAt 1 = true) (w : World) (h : Rd w F A s.bytes.length (Bs s.bytes)) (h4 : s.bytes.length ≤ 4096) :
    Calls Tryz.prog 10 #[.slice A s.bytes.length c] w (Decd w s) := by
  have hb1 := below_new w (.cells #[.int .i64 0, .slice none 0 0, .slice none 0 0] 25)
  have HC := Lib.hid (swhole_any A c F s hr _ (Rd.below h hb1 fun _ h _ => h) h4)
  have R0 := Lib.hid (Row.new w [.int .i64 0, .slice none 0 0, .slice none 0 0] 25)
  have HB1 := Lib.hid hb1
  clear h hb1 hr
  go_enter Tryz.func10, Tryz.ntmps10
  go_wp2_with fail
  refine HC.out.mono ?_
  rintro e W1 ⟨kd, ad, lad, cad, bd, lbd, cbd, rfl, ⟨X, hs, hXb⟩, hb⟩
  have HXB := Lib.hid hXb
  have HRES := Lib.hid (R0.out.belowAll hb)
  have HB := Lib.hid (HB1.out.trans (hb.mono HB1.out.size))
  have HS := Lib.hid hs
  have HSZ := Lib.hid hb.size
  clear hs hb hXb
  go_wp2_with (refine wpList_store_row rfl 25 (.tmp 2) (.tmp 6) rfl w.heap.size #[.int .i64 kd, .slice ad lad cad, .slice bd lbd cbd] rfl rfl 25 _ HRES.out (s_info (cs := [.int .i64 0, .slice none 0 0, .slice none 0 0]) rfl) rfl (s_one _ _ _ _ _ _ _) ?_)
  have hgot := setRow_heap W1 w.heap.size _ #[.int .i64 kd, .slice ad lad cad, .slice bd lbd cbd] _ _ HRES.out
  (try simp only [Exit.inBlock, Exit.then])
  refine bodyPost_ret (results_row_tmp_ (by rfl) _ _ w.heap.size _ _ _ _ (by rfl) hgot Tryz.underlying25 rfl (s_info (cs := [.int .i64 kd, .slice ad lad cad, .slice bd lbd cbd]) rfl)) rfl ?_
  have hO : Only (fun j => j = w.heap.size) W1 (W1.setRow w.heap.size #[.int .i64 kd, .slice ad lad cad, .slice bd lbd cbd]) := only_setRow W1 _ _
  exact ⟨kd, ad, lad, cad, bd, lbd, cbd, rfl, ⟨X, HS.out.kept (Y := X) hO.size fun b hb hlt => ⟨hb, hO.block b hlt fun e => by have := HXB.out b hb; have e2 : b = w.heap.size := e; simp at this; omega⟩, fun b hb => by have := HXB.out b hb; simp at this; omega⟩, HB.out.trans (hO.below HB.out.size fun j hj => by have h2 : j = w.heap.size := hj; omega)⟩
end

end Go.Proofs.YtkkdjkmnemnpdaaGreatDoor
