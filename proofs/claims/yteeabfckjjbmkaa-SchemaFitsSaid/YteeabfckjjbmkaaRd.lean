/- The document's depth of schemas; how much there is. -/
import Derived.Test.YteeabfckjjbmkaaPf
namespace Go.Proofs.Yteeabfckjjbmkaa
set_option maxRecDepth 100000
set_option linter.unusedSimpArgs false
set_option linter.unusedVariables false
open Go.RowKit

theorem sdepth_ref : ∀ (v : St) (cs : List Value) (w : World), SAt w v cs → v.depth ≤ 1000 →
    Calls Try.prog 32 #[.agg cs.toArray] w fun e w' => e = .returned (.int .i64 (v.depth : Int)) ∧ Below w.heap.size w w' := by
  intro v
  induction v with
  | nul => intro cs w h; cases h
  | mk k words len parts ih =>
    intro cs w h hd
    cases h with
    | mk css hk h1 h1c hss h3 h3c hp =>
    rename_i a c la ca cc
    rw [St.depth] at hd
    have hmm : ∀ i, i < len → (parts i).depth ≤ 999 := most_le.1 (by omega)
    have hml : ∀ m, m ≤ len → most (fun i => (parts i).depth) m ≤ 999 := fun m hm => most_le.2 fun i hi => hmm i (by omega)
    have hdn : (St.mk k words len parts).depth = most (fun i => (parts i).depth) len + 1 := by rw [St.depth]
    have HDN := Lib.hid hdn
    have HP := Lib.hid hp
    have H3 := Lib.hid h3
    have HMM := Lib.hid hmm
    have HML := Lib.hid hml
    have IH := Lib.hid ih
    have hlc : len ≤ maxLen := Nat.le_trans h3c.1 h3c.2
    have hlb : (len : Int) ≤ 9223372036854775807 := by unfold maxLen at hlc; omega
    have HB0 := Lib.hid (Row.new w [.int .i64 k, .slice a la ca, .slice c len cc] 41)
    have HW := Lib.hid (Below.alloc1 w (.cells #[.int .i64 k, .slice a la ca, .slice c len cc] 41))
    clear hp h3 hmm hml ih hd h1 hdn hk h1c hss h3c hlc
    go_enter Try.func32, Try.ntmps32
    go_wp2_with fail
    go_loopw [3, 4] (fun m i wr => ∃ j : Nat, j ≤ len ∧ i = .int .i64 (j : Int) ∧ m = .int .i64 ((most (fun i => (parts i).depth) j : Int) + 1) ∧ Row wr w.heap.size 41 [.int .i64 k, .slice a la ca, .slice c len cc] ∧ Below w.heap.size w wr) (fun _ i _ => len - (intOf i).toNat)
    case atStart => exact ⟨0, Nat.zero_le _, rfl, rfl, HB0.out, HW.out⟩
    case round =>
      obtain ⟨j, hjn, rfl, rfl, hb0, hw⟩ := hrel
      have bj0 : (0 : Int) ≤ (j : Int) := by omega
      have hml := HML.out j hjn
      have hc5 := hb0.cell (k := 2) (v := .slice c len cc) rfl
      by_cases hj : j < len
      · have hji : (j : Int) < (len : Int) := by omega
        have hvj := (HP.out j hj).later hw
        obtain ⟨ad, rfl, hlen, hcell⟩ := (H3.out.below hw).at_ hj
        have hrec := IH.out j (css j) wr hvj (by have := HMM.out j hj; omega)
        have hmd := HMM.out j hj
        have hmax : most (fun i => (parts i).depth) (j + 1) = max (most (fun i => (parts i).depth) j) (parts j).depth := rfl
        have HMX := Lib.hid hmax
        have HIX := Lib.hid (ix_s ad len cc j hj wr)
        have HREC := Lib.hid hrec
        have HC := Lib.hid hcell
        have HL := Lib.hid (s_len hlen)
        have HB1 := Lib.hid hb0
        have HW1 := Lib.hid hw
        clear hvj hlen hcell hrec hmax hw hb0 HB0 HW
        generalize hq : most (fun i => (parts i).depth) j = q at *
        generalize hr : (parts j).depth = r at *
        clear hq hr
        go_wp2_with (first
          | (refine wpList_indexAt rfl 39 (.tmp 14) (.tmp 15) rfl _ _ _ rfl rfl HIX.out ?_)
          | (refine wpList_load_at rfl 41 (.tmp 16) rfl (ad.add (j * 3)) rfl (css j) _ HC.out Try.underlying41 rfl HL.out ?_))
        refine HREC.out.mono ?_
        rintro e W1 ⟨rfl, hb⟩
        have hw1 := HW1.out.trans (hb.mono HW1.out.size)
        have hb1 := HB1.out.belowAll hb
        by_cases hgt : q + 1 < r + 1
        · have hgi : (q : Int) + 1 < (r : Int) + 1 := by omega
          go_wp2_with fail
          go_roundw
          case rel => exact ⟨j + 1, by omega, by go_num, by rw [HMX.out, Nat.max_eq_right (by omega)], hb1, hw1⟩
          case measure => simp [intOf] <;> omega
        · have hgi : ¬ (q : Int) + 1 < (r : Int) + 1 := by omega
          go_wp2_with fail
          go_roundw
          case rel => exact ⟨j + 1, by omega, by go_num, by rw [HMX.out, Nat.max_eq_left (by omega)], hb1, hw1⟩
          case measure => simp [intOf] <;> omega
      · obtain rfl : j = len := by omega
        go_wp2_with fail
        go_ret
        exact ⟨by rw [HDN.out]; rfl, hw⟩

set_option maxHeartbeats 1600000 in
theorem room_ref : ∀ (v : Vt) (cs : List Value) (n0 : Int) (d : Nat) (w : World), VAt w v cs → d ≤ 12 →
    Calls Try.prog 58 #[.agg cs.toArray, .int .i64 n0, .int .i64 (d : Int)] w fun e w' => (∃ r : Int, e = .returned (.int .i64 r) ∧ (0 ≤ r → v.depth ≤ d)) ∧ Below w.heap.size w w' := by
  intro v
  induction v with
  | nul => intro cs n0 d w h; cases h
  | mk k n s names ids len parts ih =>
    intro cs n0 d w h hd
    cases h with
    | mk css hk hn hs h1 h1c hss h2 h2c hi h3 h3c hp =>
    rename_i a b c la ca lb cb cc
    have hdn : (Vt.mk k n s names ids len parts).depth = most (fun i => (parts i).depth) len + 1 := by rw [Vt.depth]
    have HDN := Lib.hid hdn
    have HP := Lib.hid hp
    have H3 := Lib.hid h3
    have IH := Lib.hid ih
    have hlc : len ≤ maxLen := Nat.le_trans h3c.1 h3c.2
    have hlb : (len : Int) ≤ 9223372036854775807 := by unfold maxLen at hlc; omega
    have HB0 := Lib.hid (Row.new w [.int .i64 k, .int .i64 n, .string s, .slice a la ca, .slice b lb cb, .slice c len cc] 26)
    have HW := Lib.hid (Below.alloc1 w (.cells #[.int .i64 k, .int .i64 n, .string s, .slice a la ca, .slice b lb cb, .slice c len cc] 26))
    clear hp h3 ih h1 h2 hdn hk hn hs h1c hss h2c hi h3c hlc
    cases d with
    | zero =>
      go_enter Try.func58, Try.ntmps58
      go_wp2_with fail
      go_ret
      exact ⟨⟨-1, rfl, fun h => absurd h (by decide)⟩, HW.out⟩
    | succ d =>
      have gd : (((d + 1 : Nat) : Int) == 0) = false := beq_eq_false_iff_ne.2 (by omega)
      have gd1 : ((d : Int) + 1 == 0) = false := beq_eq_false_iff_ne.2 (by omega)
      have gd2 : ¬ (d : Int) + 1 = 0 := by omega
      have gd3 : (0 : Int) ≤ (d : Int) := by omega
      have gd4 : (d : Int) ≤ 11 := by omega
      by_cases h4 : s.size > 400
      · have g4 : (s.size : Int) > 400 := by omega
        have g4b : (400 : Int) < (s.size : Int) := by omega
        have g4c : ¬ (s.size : Int) ≤ 400 := by omega
        go_enter Try.func58, Try.ntmps58
        go_wp2_with fail
        go_ret
        exact ⟨⟨-1, rfl, fun h => absurd h (by decide)⟩, HW.out⟩
      · have g4 : ¬ (s.size : Int) > 400 := by omega
        have g4b : ¬ (400 : Int) < (s.size : Int) := by omega
        have g4c : (s.size : Int) ≤ 400 := by omega
        go_enter Try.func58, Try.ntmps58
        go_wp2_with fail
        go_loopw [1, 7] (fun m i wr => ∃ (j : Nat) (x : Int), j ≤ len ∧ i = .int .i64 (j : Int) ∧ m = .int .i64 x ∧ (0 ≤ x → ∀ i, i < j → (parts i).depth ≤ d) ∧ Row wr w.heap.size 26 [.int .i64 k, .int .i64 n, .string s, .slice a la ca, .slice b lb cb, .slice c len cc] ∧ Below w.heap.size w wr) (fun _ i _ => len - (intOf i).toNat)
        case atStart => exact ⟨0, _, Nat.zero_le _, rfl, rfl, fun _ i hi => absurd hi (Nat.not_lt_zero i), HB0.out, HW.out⟩
        case round =>
          obtain ⟨j, x, hjn, rfl, rfl, hall, hb0, hw⟩ := hrel
          have bj0 : (0 : Int) ≤ (j : Int) := by omega
          have hc5 := hb0.cell (k := 5) (v := .slice c len cc) rfl
          by_cases hx : 0 ≤ x
          · by_cases hj : j < len
            · have hji : (j : Int) < (len : Int) := by omega
              have hvj := (HP.out j hj).later hw
              obtain ⟨ad, rfl, hlen, hcell⟩ := (H3.out.below hw).at_ hj
              have HIX := Lib.hid (ix_v ad len cc j hj wr)
              have HREC := Lib.hid (IH.out j (css j) x d wr hvj (by omega))
              have HC := Lib.hid hcell
              have HL := Lib.hid (v_len hlen)
              have HB1 := Lib.hid hb0
              have HW1 := Lib.hid hw
              have HA := Lib.hid (hall hx)
              clear hvj hlen hcell hw hb0 HB0 HW hall
              go_wp2_with (first
                | (refine wpList_indexAt rfl 24 (.tmp 38) (.tmp 39) rfl _ _ _ rfl rfl HIX.out ?_)
                | (refine wpList_load_at rfl 26 (.tmp 40) rfl (ad.add (j * 6)) rfl (css j) _ HC.out Try.underlying26 rfl HL.out ?_))
              refine HREC.out.mono ?_
              rintro e W1 ⟨⟨r, rfl, hr⟩, hb⟩
              have HR := Lib.hid hr
              have HW2 := Lib.hid (HW1.out.trans (hb.mono HW1.out.size))
              have HB2 := Lib.hid (HB1.out.belowAll hb)
              clear hr hb
              go_wp2_with fail
              go_roundw
              case rel =>
                refine ⟨j + 1, r, by omega, by go_num, rfl, fun hr0 i hi => ?_, HB2.out, HW2.out⟩
                by_cases hij : i = j
                · subst hij; exact HR.out hr0
                · exact HA.out i (by omega)
              case measure => simp [intOf] <;> omega
            · obtain rfl : j = len := by omega
              have HA := Lib.hid (hall hx)
              have HW1 := Lib.hid hw
              clear hall hw
              go_wp2_with fail
              go_ret
              exact ⟨⟨x, rfl, fun _ => by rw [HDN.out]; have := most_le.2 HA.out; omega⟩, HW1.out⟩
          · have hx2 : ¬ x ≥ 0 := hx
            have HW1 := Lib.hid hw
            clear hall hw
            by_cases hj : j < len
            · have hji : (j : Int) < (len : Int) := by omega
              go_wp2_with fail
              go_ret
              exact ⟨⟨x, rfl, fun h => absurd h (by omega)⟩, HW1.out⟩
            · have hji : ¬ (j : Int) < (len : Int) := by omega
              go_wp2_with fail
              go_ret
              exact ⟨⟨x, rfl, fun h => absurd h (by omega)⟩, HW1.out⟩

theorem great_ref (v : Vt) (cs : List Value) (w : World) (h : VAt w v cs) :
    Calls Try.prog 11 #[.agg cs.toArray] w fun e w' => (∃ b : Bool, e = .returned (.bool b) ∧ (b = false → v.depth ≤ 12)) ∧ Below w.heap.size w w' := by
  have hw := Below.alloc1 w (.cells cs.toArray 26)
  have HR := Lib.hid (room_ref v cs 300 12 _ (h.later hw) (by decide))
  have HW := Lib.hid hw
  have HB0 := Lib.hid (Row.new w cs 26)
  have HI := Lib.hid (v_info h.length)
  clear hw h
  go_enter Try.func11, Try.ntmps11
  go_wp2_with (refine wpList_load_row rfl 26 (.tmp 1) rfl w.heap.size rfl 26 _ (0, 0) _ HB0.out Try.underlying26 rfl HI.out ?_)
  refine HR.out.mono ?_
  rintro e W1 ⟨⟨r, rfl, hr⟩, hb⟩
  have HRR := Lib.hid hr
  have HB := Lib.hid hb
  clear hb hr
  go_wp2_with fail
  go_ret
  exact ⟨⟨_, rfl, fun hb => HRR.out (by simpa using hb)⟩, HW.out.trans (HB.out.mono HW.out.size)⟩

set_option maxHeartbeats 1600000 in
theorem sroom_ref : ∀ (v : St) (cs : List Value) (n0 : Int) (d : Nat) (w : World), SAt w v cs → d ≤ 12 →
    Calls Try.prog 78 #[.agg cs.toArray, .int .i64 n0, .int .i64 (d : Int)] w fun e w' => (∃ r : Int, e = .returned (.int .i64 r) ∧ (0 ≤ r → v.depth ≤ d)) ∧ Below w.heap.size w w' := by
  intro v
  induction v with
  | nul => intro cs n0 d w h; cases h
  | mk k words len parts ih =>
    intro cs n0 d w h hd
    cases h with
    | mk css hk h1 h1c hss h3 h3c hp =>
    rename_i a c la ca cc
    have hdn : (St.mk k words len parts).depth = most (fun i => (parts i).depth) len + 1 := by rw [St.depth]
    have HDN := Lib.hid hdn
    have HP := Lib.hid hp
    have H3 := Lib.hid h3
    have IH := Lib.hid ih
    have hlc : len ≤ maxLen := Nat.le_trans h3c.1 h3c.2
    have hlb : (len : Int) ≤ 9223372036854775807 := by unfold maxLen at hlc; omega
    have HB0 := Lib.hid (Row.new w [.int .i64 k, .slice a la ca, .slice c len cc] 41)
    have HW := Lib.hid (Below.alloc1 w (.cells #[.int .i64 k, .slice a la ca, .slice c len cc] 41))
    have H1 := Lib.hid h1
    have hla : (la : Int) ≤ 9223372036854775807 := by have := h1c.1; have := h1c.2; unfold maxLen at this; omega
    clear hp h3 ih h1 hdn hk h1c hss h3c hlc
    cases d with
    | zero =>
      go_enter Try.func78, Try.ntmps78
      go_wp2_with fail
      go_ret
      exact ⟨⟨-1, rfl, fun h => absurd h (by decide)⟩, HW.out⟩
    | succ d =>
      have gd : (((d + 1 : Nat) : Int) == 0) = false := beq_eq_false_iff_ne.2 (by omega)
      have gd1 : ((d : Int) + 1 == 0) = false := beq_eq_false_iff_ne.2 (by omega)
      have gd2 : ¬ (d : Int) + 1 = 0 := by omega
      have gd3 : (0 : Int) ≤ (d : Int) := by omega
      have gd4 : (d : Int) ≤ 11 := by omega
      rw [show (((d + 1 : Nat)) : Int) = (d : Int) + 1 from rfl]
      go_enter Try.func78, Try.ntmps78
      go_wp2_with fail
      generalize wrap64 (wrap64 (n0 - 1) - (la : Int)) = x at *
      go_loopw [7] (fun i wr => ∃ j : Nat, j ≤ la ∧ i = .int .i64 (j : Int) ∧ Row wr w.heap.size 41 [.int .i64 k, .slice a la ca, .slice c len cc] ∧ Below w.heap.size w wr) (fun i _ => la - (intOf i).toNat)
      case atStart => exact ⟨0, Nat.zero_le _, rfl, HB0.out, HW.out⟩
      case round =>
        obtain ⟨j, hjn, rfl, hb0, hw⟩ := hrel
        have bj0 : (0 : Int) ≤ (j : Int) := by omega
        have hc1 := hb0.cell (k := 1) (v := .slice a la ca) rfl
        have HB1 := Lib.hid hb0
        have HW1 := Lib.hid hw
        by_cases hx : 0 ≤ x
        · by_cases hj : j < la
          · have hji : (j : Int) < (la : Int) := by omega
            obtain ⟨ad, rfl, hc⟩ := Strs.at_ (H1.out.belowAll hw) hj
            clear hb0 hw HB0 HW
            by_cases h100 : (nth words j).size > 100
            · have g1 : ((nth words j).size : Int) > 100 := by omega
              have g2 : (100 : Int) < ((nth words j).size : Int) := by omega
              have g3 : ¬ ((nth words j).size : Int) ≤ 100 := by omega
              generalize nth words j = y at *
              go_wp2_with fail
              go_ret
              exact ⟨⟨-1, rfl, fun h => absurd h (by decide)⟩, HW1.out⟩
            · have g1 : ¬ ((nth words j).size : Int) > 100 := by omega
              have g2 : ¬ (100 : Int) < ((nth words j).size : Int) := by omega
              have g3 : ((nth words j).size : Int) ≤ 100 := by omega
              generalize nth words j = y at *
              go_wp2_with fail
              go_roundw
              case rel => exact ⟨j + 1, by omega, by go_num, HB1.out, HW1.out⟩
              case measure => simp [intOf] <;> omega
          · obtain rfl : la = j := by omega
            clear hb0 hw HB0 HW
            go_wp2_with fail
            go_loopw [1, 8] (fun m i wr => ∃ (j : Nat) (x : Int), j ≤ len ∧ i = .int .i64 (j : Int) ∧ m = .int .i64 x ∧ (0 ≤ x → ∀ i, i < j → (parts i).depth ≤ d) ∧ Row wr w.heap.size 41 [.int .i64 k, .slice a la ca, .slice c len cc] ∧ Below w.heap.size w wr) (fun _ i _ => len - (intOf i).toNat)
            case atStart => exact ⟨0, _, Nat.zero_le _, rfl, rfl, fun _ i hi => absurd hi (Nat.not_lt_zero i), HB1.out, HW1.out⟩
            case round =>
              obtain ⟨i2, x2, hjn2, rfl, rfl, hall, hb0, hw⟩ := hrel
              have bj0z : (0 : Int) ≤ (i2 : Int) := by omega
              have hc5z := hb0.cell (k := 2) (v := .slice c len cc) rfl
              by_cases hxz : 0 ≤ x2
              · by_cases hjz : i2 < len
                · have hjiz : (i2 : Int) < (len : Int) := by omega
                  have hvj := (HP.out i2 hjz).later hw
                  obtain ⟨ad, rfl, hlen, hcell⟩ := (H3.out.below hw).at_ hjz
                  have HIX := Lib.hid (ix_s ad len cc i2 hjz wr)
                  have HREC := Lib.hid (IH.out i2 (css i2) x2 d wr hvj (by omega))
                  have HC := Lib.hid hcell
                  have HL := Lib.hid (s_len hlen)
                  have HB1z := Lib.hid hb0
                  have HW1z := Lib.hid hw
                  have HAz := Lib.hid (hall hxz)
                  clear hvj hlen hcell hw hb0 hall
                  go_wp2_with (first
                    | (refine wpList_indexAt rfl 39 (.tmp 47) (.tmp 48) rfl _ _ _ rfl rfl HIX.out ?_)
                    | (refine wpList_load_at rfl 41 (.tmp 49) rfl (ad.add (i2 * 3)) rfl (css i2) _ HC.out Try.underlying41 rfl HL.out ?_))
                  refine HREC.out.mono ?_
                  rintro e W1 ⟨⟨r, rfl, hr⟩, hb⟩
                  have HR := Lib.hid hr
                  have HW2 := Lib.hid (HW1z.out.trans (hb.mono HW1z.out.size))
                  have HB2 := Lib.hid (HB1z.out.belowAll hb)
                  clear hr hb
                  go_wp2_with fail
                  go_roundw
                  case rel =>
                    refine ⟨i2 + 1, r, by omega, by go_num, rfl, fun hr0 i hi => ?_, HB2.out, HW2.out⟩
                    by_cases hij : i = i2
                    · subst hij; exact HR.out hr0
                    · exact HAz.out i (by omega)
                  case measure => simp [intOf] <;> omega
                · obtain rfl : i2 = len := by omega
                  have HAz := Lib.hid (hall hxz)
                  have HW1z := Lib.hid hw
                  clear hall hw
                  go_wp2_with fail
                  go_ret
                  exact ⟨⟨x2, rfl, fun _ => by rw [HDN.out]; have := most_le.2 HAz.out; omega⟩, HW1z.out⟩
              · have hx2z : ¬ x2 ≥ 0 := hxz
                have HW1z := Lib.hid hw
                clear hall hw
                by_cases hjz : i2 < len
                · have hjiz : (i2 : Int) < (len : Int) := by omega
                  go_wp2_with fail
                  go_ret
                  exact ⟨⟨x2, rfl, fun h => absurd h (by omega)⟩, HW1z.out⟩
                · have hjiz : ¬ (i2 : Int) < (len : Int) := by omega
                  go_wp2_with fail
                  go_ret
                  exact ⟨⟨x2, rfl, fun h => absurd h (by omega)⟩, HW1z.out⟩
        · have hx2 : ¬ x ≥ 0 := hx
          clear hb0 hw HB0 HW
          by_cases hj : j < la
          · have hji : (j : Int) < (la : Int) := by omega
            go_wp2_with fail
            go_loopw [1, 8] (fun m i wr => ∃ (j : Nat) (x : Int), j ≤ len ∧ i = .int .i64 (j : Int) ∧ m = .int .i64 x ∧ (0 ≤ x → ∀ i, i < j → (parts i).depth ≤ d) ∧ Row wr w.heap.size 41 [.int .i64 k, .slice a la ca, .slice c len cc] ∧ Below w.heap.size w wr) (fun _ i _ => len - (intOf i).toNat)
            case atStart => exact ⟨0, _, Nat.zero_le _, rfl, rfl, fun _ i hi => absurd hi (Nat.not_lt_zero i), HB1.out, HW1.out⟩
            case round =>
              obtain ⟨i2, x2, hjn2, rfl, rfl, hall, hb0, hw⟩ := hrel
              have bj0z : (0 : Int) ≤ (i2 : Int) := by omega
              have hc5z := hb0.cell (k := 2) (v := .slice c len cc) rfl
              by_cases hxz : 0 ≤ x2
              · by_cases hjz : i2 < len
                · have hjiz : (i2 : Int) < (len : Int) := by omega
                  have hvj := (HP.out i2 hjz).later hw
                  obtain ⟨ad, rfl, hlen, hcell⟩ := (H3.out.below hw).at_ hjz
                  have HIX := Lib.hid (ix_s ad len cc i2 hjz wr)
                  have HREC := Lib.hid (IH.out i2 (css i2) x2 d wr hvj (by omega))
                  have HC := Lib.hid hcell
                  have HL := Lib.hid (s_len hlen)
                  have HB1z := Lib.hid hb0
                  have HW1z := Lib.hid hw
                  have HAz := Lib.hid (hall hxz)
                  clear hvj hlen hcell hw hb0 hall
                  go_wp2_with (first
                    | (refine wpList_indexAt rfl 39 (.tmp 47) (.tmp 48) rfl _ _ _ rfl rfl HIX.out ?_)
                    | (refine wpList_load_at rfl 41 (.tmp 49) rfl (ad.add (i2 * 3)) rfl (css i2) _ HC.out Try.underlying41 rfl HL.out ?_))
                  refine HREC.out.mono ?_
                  rintro e W1 ⟨⟨r, rfl, hr⟩, hb⟩
                  have HR := Lib.hid hr
                  have HW2 := Lib.hid (HW1z.out.trans (hb.mono HW1z.out.size))
                  have HB2 := Lib.hid (HB1z.out.belowAll hb)
                  clear hr hb
                  go_wp2_with fail
                  go_roundw
                  case rel =>
                    refine ⟨i2 + 1, r, by omega, by go_num, rfl, fun hr0 i hi => ?_, HB2.out, HW2.out⟩
                    by_cases hij : i = i2
                    · subst hij; exact HR.out hr0
                    · exact HAz.out i (by omega)
                  case measure => simp [intOf] <;> omega
                · obtain rfl : i2 = len := by omega
                  have HAz := Lib.hid (hall hxz)
                  have HW1z := Lib.hid hw
                  clear hall hw
                  go_wp2_with fail
                  go_ret
                  exact ⟨⟨x2, rfl, fun _ => by rw [HDN.out]; have := most_le.2 HAz.out; omega⟩, HW1z.out⟩
              · have hx2z : ¬ x2 ≥ 0 := hxz
                have HW1z := Lib.hid hw
                clear hall hw
                by_cases hjz : i2 < len
                · have hjiz : (i2 : Int) < (len : Int) := by omega
                  go_wp2_with fail
                  go_ret
                  exact ⟨⟨x2, rfl, fun h => absurd h (by omega)⟩, HW1z.out⟩
                · have hjiz : ¬ (i2 : Int) < (len : Int) := by omega
                  go_wp2_with fail
                  go_ret
                  exact ⟨⟨x2, rfl, fun h => absurd h (by omega)⟩, HW1z.out⟩
          · have hji : ¬ (j : Int) < (la : Int) := by omega
            go_wp2_with fail
            go_loopw [1, 8] (fun m i wr => ∃ (j : Nat) (x : Int), j ≤ len ∧ i = .int .i64 (j : Int) ∧ m = .int .i64 x ∧ (0 ≤ x → ∀ i, i < j → (parts i).depth ≤ d) ∧ Row wr w.heap.size 41 [.int .i64 k, .slice a la ca, .slice c len cc] ∧ Below w.heap.size w wr) (fun _ i _ => len - (intOf i).toNat)
            case atStart => exact ⟨0, _, Nat.zero_le _, rfl, rfl, fun _ i hi => absurd hi (Nat.not_lt_zero i), HB1.out, HW1.out⟩
            case round =>
              obtain ⟨i2, x2, hjn2, rfl, rfl, hall, hb0, hw⟩ := hrel
              have bj0z : (0 : Int) ≤ (i2 : Int) := by omega
              have hc5z := hb0.cell (k := 2) (v := .slice c len cc) rfl
              by_cases hxz : 0 ≤ x2
              · by_cases hjz : i2 < len
                · have hjiz : (i2 : Int) < (len : Int) := by omega
                  have hvj := (HP.out i2 hjz).later hw
                  obtain ⟨ad, rfl, hlen, hcell⟩ := (H3.out.below hw).at_ hjz
                  have HIX := Lib.hid (ix_s ad len cc i2 hjz wr)
                  have HREC := Lib.hid (IH.out i2 (css i2) x2 d wr hvj (by omega))
                  have HC := Lib.hid hcell
                  have HL := Lib.hid (s_len hlen)
                  have HB1z := Lib.hid hb0
                  have HW1z := Lib.hid hw
                  have HAz := Lib.hid (hall hxz)
                  clear hvj hlen hcell hw hb0 hall
                  go_wp2_with (first
                    | (refine wpList_indexAt rfl 39 (.tmp 47) (.tmp 48) rfl _ _ _ rfl rfl HIX.out ?_)
                    | (refine wpList_load_at rfl 41 (.tmp 49) rfl (ad.add (i2 * 3)) rfl (css i2) _ HC.out Try.underlying41 rfl HL.out ?_))
                  refine HREC.out.mono ?_
                  rintro e W1 ⟨⟨r, rfl, hr⟩, hb⟩
                  have HR := Lib.hid hr
                  have HW2 := Lib.hid (HW1z.out.trans (hb.mono HW1z.out.size))
                  have HB2 := Lib.hid (HB1z.out.belowAll hb)
                  clear hr hb
                  go_wp2_with fail
                  go_roundw
                  case rel =>
                    refine ⟨i2 + 1, r, by omega, by go_num, rfl, fun hr0 i hi => ?_, HB2.out, HW2.out⟩
                    by_cases hij : i = i2
                    · subst hij; exact HR.out hr0
                    · exact HAz.out i (by omega)
                  case measure => simp [intOf] <;> omega
                · obtain rfl : i2 = len := by omega
                  have HAz := Lib.hid (hall hxz)
                  have HW1z := Lib.hid hw
                  clear hall hw
                  go_wp2_with fail
                  go_ret
                  exact ⟨⟨x2, rfl, fun _ => by rw [HDN.out]; have := most_le.2 HAz.out; omega⟩, HW1z.out⟩
              · have hx2z : ¬ x2 ≥ 0 := hxz
                have HW1z := Lib.hid hw
                clear hall hw
                by_cases hjz : i2 < len
                · have hjiz : (i2 : Int) < (len : Int) := by omega
                  go_wp2_with fail
                  go_ret
                  exact ⟨⟨x2, rfl, fun h => absurd h (by omega)⟩, HW1z.out⟩
                · have hjiz : ¬ (i2 : Int) < (len : Int) := by omega
                  go_wp2_with fail
                  go_ret
                  exact ⟨⟨x2, rfl, fun h => absurd h (by omega)⟩, HW1z.out⟩

theorem sgreat_ref (v : St) (cs : List Value) (w : World) (h : SAt w v cs) :
    Calls Try.prog 26 #[.agg cs.toArray] w fun e w' => (∃ b : Bool, e = .returned (.bool b) ∧ (b = false → v.depth ≤ 12)) ∧ Below w.heap.size w w' := by
  have hw := Below.alloc1 w (.cells cs.toArray 41)
  have HR := Lib.hid (sroom_ref v cs 300 12 _ (h.later hw) (by decide))
  have HW := Lib.hid hw
  have HB0 := Lib.hid (Row.new w cs 41)
  have HI := Lib.hid (s_info h.length)
  clear hw h
  go_enter Try.func26, Try.ntmps26
  go_wp2_with (refine wpList_load_row rfl 41 (.tmp 1) rfl w.heap.size rfl 41 _ (0, 0) _ HB0.out Try.underlying41 rfl HI.out ?_)
  refine HR.out.mono ?_
  rintro e W1 ⟨⟨r, rfl, hr⟩, hb⟩
  have HRR := Lib.hid hr
  have HB := Lib.hid hb
  clear hb hr
  go_wp2_with fail
  go_ret
  exact ⟨⟨_, rfl, fun hb => HRR.out (by simpa using hb)⟩, HW.out.trans (HB.out.mono HW.out.size)⟩

end Go.Proofs.Yteeabfckjjbmkaa
