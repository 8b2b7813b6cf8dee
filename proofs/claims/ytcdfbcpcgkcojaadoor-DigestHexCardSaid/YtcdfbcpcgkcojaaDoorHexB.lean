/- Bytes as digits and back; any text's bytes, or that it is none: the law's own walk. -/
import Derived.Test.YtcdfbcpcgkcojaaDoorHexA
namespace Go.Proofs.YtcdfbcpcgkcojaaDoor
set_option maxRecDepth 100000
open Go.RowKit

/-- Whether the first bytes of a text are digits. -/
def okb (s : ByteArray) : Nat → Bool
  | 0 => true
  | k + 1 => okb s k && decide (0 ≤ dval (sat s k))
theorem okb_true {s : ByteArray} : ∀ {k : Nat}, okb s k = true → ∀ j, j < k → 0 ≤ dval (sat s j)
  | 0, _, j, h => absurd h (by omega)
  | k + 1, h, j, hj => by
    have h' : (okb s k && decide (0 ≤ dval (sat s k))) = true := h
    rw [Bool.and_eq_true, decide_eq_true_eq] at h'
    by_cases e : j = k
    · subst e; exact h'.2
    · exact okb_true h'.1 j (by omega)
theorem okb_bad {s : ByteArray} {m : Nat} (h : ¬ goods s m) : okb s (2 * m) = false := by
  cases e : okb s (2 * m) with
  | false => rfl
  | true => exact absurd (fun i hi => okb_true e i hi) h

set_option maxHeartbeats 1600000 in
theorem hex_odd (xs : List Nat) (a : Option Addr) (n cap : Nat) (F : Nat → Prop) (s : ByteArray) (w : World) (hk : Ks32 w) (hs : Ss32 w) (hg : ErrTy w) (hx : ∀ x ∈ xs, x < 256) (hr : Rd w F a n (xs.map fun x => .int .u8 ((x : Nat) : Int))) (hn : n ≤ 300) (hl : s.size ≤ 300) (ho : s.size % 2 = 1) :
    Calls Tryd.prog 7 #[.slice a n cap, .string s] w fun e w' => e = .returned (.bool true) ∧ Below w.heap.size w w' := by
  have hlen : xs.length = n := by have := hr.1; simpa using this
  have b1 : (n : Int) ≤ 300 := by omega
  have b2 : (s.size : Int) ≤ 300 := by omega
  have htz : ((⟨(hexs xs).toArray⟩ : ByteArray).size) = 2 * n := by show (hexs xs).toArray.size = _; rw [List.size_toArray, hexs_length, hlen]
  have hgt : goods ⟨(hexs xs).toArray⟩ n := by rw [← hlen]; exact hexs_good hx
  have hbk : Tabs .u8 (pbv ⟨(hexs xs).toArray⟩) n = xs.map fun x => .int .u8 ((x : Nat) : Int) := by rw [← hlen]; exact hexs_back hx
  have hus : (xs.map fun x => Value.int .u8 ((x : Nat) : Int)) = Bs (xs.map UInt8.ofNat) := by
    unfold Bs
    rw [List.map_map]
    refine List.map_congr_left fun x hm => ?_
    have h256 := hx x hm
    show Value.int .u8 (x : Int) = .int .u8 ((UInt8.ofNat x).toNat : Int)
    rw [UInt8.toNat_ofNat', Nat.mod_eq_of_lt (by simpa using h256)]
  have HK := Lib.hid hk
  have HS := Lib.hid hs
  have HG := Lib.hid hg
  have HX := Lib.hid hx
  have HR := Lib.hid hr
  have HTZ := Lib.hid htz
  have HGT := Lib.hid hgt
  have HBK := Lib.hid hbk
  have HUS := Lib.hid hus
  have HLEN := Lib.hid hlen
  have HO := Lib.hid ho
  clear hk hs hg hx hr htz hgt hbk hus hlen ho
  go_enter Tryd.func7, Tryd.ntmps7
  go_wp2_with fail
  refine (hex_any xs a n cap F w HX.out (by omega) HR.out).mono ?_
  rintro e w1 ⟨rfl, hb1⟩
  have hr1 := HR.out.belowAll hb1
  have HR1 := Lib.hid hr1
  have HB1 := Lib.hid hb1
  clear hb1 hr1
  generalize hT : (⟨(hexs xs).toArray⟩ : ByteArray) = T at *
  have HT := Lib.hid hT
  clear hT
  go_wp2_with fail
  refine (parse_even T w1 (by rw [HTZ.out]; omega) n HTZ.out).mono ?_
  rintro e w2 (⟨_, rfl, hrow2, hb2⟩ | ⟨hno, _⟩)
  rotate_left
  · exact absurd HGT.out hno
  rw [HBK.out, HUS.out] at hrow2
  have hrd2 := hrow2.rd (n := n) (by rw [Bs_length, List.length_map, HLEN.out])
  have hr2 := HR1.out.belowAll hb2
  have hb02 : Below w.heap.size w w2 := HB1.out.trans (hb2.mono HB1.out.size)
  have HRD2 := Lib.hid hrd2
  have HR2 := Lib.hid hr2
  have HB02 := Lib.hid hb02
  clear hrow2 hrd2 hr2 hb2 hb02
  go_wp2_with fail
  refine (rhex_any xs a n cap F w2 HX.out (by omega) HR2.out).mono ?_
  rintro e w3 ⟨rfl, hb3⟩
  rw [HT.out]
  have hr3 := HR2.out.belowAll hb3
  rw [HUS.out] at hr3
  have hrd3 := HRD2.out.belowAll hb3
  have hb03 : Below w.heap.size w w3 := HB02.out.trans (hb3.mono HB02.out.size)
  have HR3 := Lib.hid hr3
  have HRD3 := Lib.hid hrd3
  have HB03 := Lib.hid hb03
  clear hr3 hrd3 hb3 hb03
  go_wp2_with fail
  have hby := bytes_len (some ⟨w1.heap.size, 0, none⟩) a n n cap (xs.map UInt8.ofNat) (xs.map UInt8.ofNat) _ _ w3 (by omega) HRD3.out HR3.out
  rw [show decide (xs.map UInt8.ofNat = xs.map UInt8.ofNat) = true by simp] at hby
  refine hby.mono ?_
  rintro e w4 ⟨rfl, q4, rfl⟩
  clear hby
  go_wp2_with fail
  have hb04 := below_drewN HB03.out q4
  refine (parse_odd s _ (by omega) HO.out).mono ?_
  rintro e w5 ⟨rfl, rfl⟩
  have hz : ((s.size : Int) % 2 == 0) = false := by rw [beq_eq_false_iff_ne]; have := HO.out; omega
  have HB04 := Lib.hid hb04
  clear hb04
  go_wp2_with fail
  clear hz
  go_loop [10, 11] (fun o i => ∃ k : Nat, k ≤ s.size ∧ i = .int .i64 k ∧ o = .bool false) (fun _ i => s.size - (intOf i).toNat)
  case atStart => exact ⟨0, Nat.zero_le _, rfl, rfl⟩
  case round =>
    obtain ⟨k, hk, rfl, rfl⟩ := hrel
    by_cases hlt : k < s.size
    · go_wp2_with fail
      go_round
      case rel => exact ⟨k + 1, by omega, by go_num, rfl⟩
      case measure => simp [intOf]; omega
    · go_wp2_with fail
      refine (lcode_plain 2 _ (HG.out.below HB04.out HG.out.pos)).mono ?_
      rintro e w6 ⟨rfl, hb6⟩
      have hb06 : Below w.heap.size w w6 := HB04.out.trans (hb6.mono HB04.out.size)
      have HB06 := Lib.hid hb06
      clear hb6 hb06
      go_wp2_with fail
      refine (awake_any w6 (HK.out.below HB06.out HK.out.lt) (HS.out.below HB06.out HS.out.lt)).mono ?_
      rintro e w7 ⟨rfl, hb7⟩
      have hb07 : Below w.heap.size w w7 := HB06.out.trans (hb7.mono HB06.out.size)
      have HB07 := Lib.hid hb07
      clear hb7 hb07
      go_wp2_with fail
      go_ret
      exact ⟨rfl, HB07.out⟩

set_option maxHeartbeats 1600000 in
theorem hex_bad (xs : List Nat) (a : Option Addr) (n cap : Nat) (F : Nat → Prop) (s : ByteArray) (w : World) (hk : Ks32 w) (hs : Ss32 w) (hg : ErrTy w) (hx : ∀ x ∈ xs, x < 256) (hr : Rd w F a n (xs.map fun x => .int .u8 ((x : Nat) : Int))) (hn : n ≤ 300) (hl : s.size ≤ 300) (m : Nat) (ho : s.size = 2 * m) (hno : ¬ goods s m) :
    Calls Tryd.prog 7 #[.slice a n cap, .string s] w fun e w' => e = .returned (.bool true) ∧ Below w.heap.size w w' := by
  have hlen : xs.length = n := by have := hr.1; simpa using this
  have b1 : (n : Int) ≤ 300 := by omega
  have b2 : (s.size : Int) ≤ 300 := by omega
  have htz : ((⟨(hexs xs).toArray⟩ : ByteArray).size) = 2 * n := by show (hexs xs).toArray.size = _; rw [List.size_toArray, hexs_length, hlen]
  have hgt : goods ⟨(hexs xs).toArray⟩ n := by rw [← hlen]; exact hexs_good hx
  have hbk : Tabs .u8 (pbv ⟨(hexs xs).toArray⟩) n = xs.map fun x => .int .u8 ((x : Nat) : Int) := by rw [← hlen]; exact hexs_back hx
  have hus : (xs.map fun x => Value.int .u8 ((x : Nat) : Int)) = Bs (xs.map UInt8.ofNat) := by
    unfold Bs
    rw [List.map_map]
    refine List.map_congr_left fun x hm => ?_
    have h256 := hx x hm
    show Value.int .u8 (x : Int) = .int .u8 ((UInt8.ofNat x).toNat : Int)
    rw [UInt8.toNat_ofNat', Nat.mod_eq_of_lt (by simpa using h256)]
  have HK := Lib.hid hk
  have HS := Lib.hid hs
  have HG := Lib.hid hg
  have HX := Lib.hid hx
  have HR := Lib.hid hr
  have HTZ := Lib.hid htz
  have HGT := Lib.hid hgt
  have HBK := Lib.hid hbk
  have HUS := Lib.hid hus
  have HLEN := Lib.hid hlen
  have HO := Lib.hid ho
  have HNO := Lib.hid hno
  clear hk hs hg hx hr htz hgt hbk hus hlen ho hno
  go_enter Tryd.func7, Tryd.ntmps7
  go_wp2_with fail
  refine (hex_any xs a n cap F w HX.out (by omega) HR.out).mono ?_
  rintro e w1 ⟨rfl, hb1⟩
  have hr1 := HR.out.belowAll hb1
  have HR1 := Lib.hid hr1
  have HB1 := Lib.hid hb1
  clear hb1 hr1
  generalize hT : (⟨(hexs xs).toArray⟩ : ByteArray) = T at *
  have HT := Lib.hid hT
  clear hT
  go_wp2_with fail
  refine (parse_even T w1 (by rw [HTZ.out]; omega) n HTZ.out).mono ?_
  rintro e w2 (⟨_, rfl, hrow2, hb2⟩ | ⟨hno, _⟩)
  rotate_left
  · exact absurd HGT.out hno
  rw [HBK.out, HUS.out] at hrow2
  have hrd2 := hrow2.rd (n := n) (by rw [Bs_length, List.length_map, HLEN.out])
  have hr2 := HR1.out.belowAll hb2
  have hb02 : Below w.heap.size w w2 := HB1.out.trans (hb2.mono HB1.out.size)
  have HRD2 := Lib.hid hrd2
  have HR2 := Lib.hid hr2
  have HB02 := Lib.hid hb02
  clear hrow2 hrd2 hr2 hb2 hb02
  go_wp2_with fail
  refine (rhex_any xs a n cap F w2 HX.out (by omega) HR2.out).mono ?_
  rintro e w3 ⟨rfl, hb3⟩
  rw [HT.out]
  have hr3 := HR2.out.belowAll hb3
  rw [HUS.out] at hr3
  have hrd3 := HRD2.out.belowAll hb3
  have hb03 : Below w.heap.size w w3 := HB02.out.trans (hb3.mono HB02.out.size)
  have HR3 := Lib.hid hr3
  have HRD3 := Lib.hid hrd3
  have HB03 := Lib.hid hb03
  clear hr3 hrd3 hb3 hb03
  go_wp2_with fail
  have hby := bytes_len (some ⟨w1.heap.size, 0, none⟩) a n n cap (xs.map UInt8.ofNat) (xs.map UInt8.ofNat) _ _ w3 (by omega) HRD3.out HR3.out
  rw [show decide (xs.map UInt8.ofNat = xs.map UInt8.ofNat) = true by simp] at hby
  refine hby.mono ?_
  rintro e w4 ⟨rfl, q4, rfl⟩
  clear hby
  go_wp2_with fail
  refine (parse_even s _ (by omega) m HO.out).mono ?_
  rintro e w5 (⟨hyes, _⟩ | ⟨_, rfl, hb5⟩)
  · exact absurd hyes HNO.out
  have hb05 : Below w.heap.size w w5 := (below_drewN HB03.out q4).trans (hb5.mono (by have := HB03.out.size; simp; omega))
  have hz : ((s.size : Int) % 2 == 0) = true := by rw [beq_iff_eq]; have := HO.out; omega
  have HB05 := Lib.hid hb05
  clear hb05 hb5
  go_wp2_with fail
  clear hz
  go_loop [10, 11] (fun o i => ∃ k : Nat, k ≤ s.size ∧ i = .int .i64 k ∧ o = .bool (okb s k)) (fun _ i => s.size - (intOf i).toNat)
  case atStart => exact ⟨0, Nat.zero_le _, rfl, rfl⟩
  case round =>
    obtain ⟨k, hk, rfl, rfl⟩ := hrel
    by_cases hlt : k < s.size
    · have hix : ∀ w' : World, (Instr.index 9 (.string s) (.int .i64 (k : Int))).run Tryd.prog w' = .ok (.int .u8 ((sat s k : Nat) : Int)) w' := fun w' => sat_run s k hlt w'
      have hsc : okb s (k + 1) = (okb s k && decide (0 ≤ dval (sat s k))) := rfl
      have h256 := sat_lt s k
      have HSC := Lib.hid hsc
      clear hsc
      generalize sat s k = c at *
      generalize okb s k = b at *
      cases b with
      | false =>
        clear hix
        go_wp2_with fail
        go_round
        case rel => exact ⟨k + 1, by omega, by go_num, by rw [HSC.out]; rfl⟩
        case measure => simp [intOf]; omega
      | true =>
        by_cases c1 : c < 48
        · have i1 : (c : Int) < 48 := by omega
          have hd : dval c < 0 := by unfold dval; rw [if_neg (by omega), if_neg (by omega)]; decide
          have HD := Lib.hid hd
          clear hd
          go_wp2_with fail
          go_round
          case rel => exact ⟨k + 1, by omega, by go_num, by rw [HSC.out, decide_eq_false (p := 0 ≤ dval c) (by have := HD.out; omega)]; first | rfl | (simp; omega)⟩
          case measure => simp [intOf]; omega
        · have i1 : 48 ≤ (c : Int) := by omega
          by_cases c2 : c ≤ 57
          · have i2 : (c : Int) ≤ 57 := by omega
            have hd : 0 ≤ dval c := by unfold dval; rw [if_pos (by omega)]; omega
            have HD := Lib.hid hd
            clear hd
            go_wp2_with fail
            go_round
            case rel => exact ⟨k + 1, by omega, by go_num, by rw [HSC.out, decide_eq_true (p := 0 ≤ dval c) HD.out]; first | rfl | (simp; omega)⟩
            case measure => simp [intOf]; omega
          · have i2 : 57 < (c : Int) := by omega
            by_cases c3 : c < 97
            · have i3 : (c : Int) < 97 := by omega
              have hd : dval c < 0 := by unfold dval; rw [if_neg (by omega), if_neg (by omega)]; decide
              have HD := Lib.hid hd
              clear hd
              go_wp2_with fail
              go_round
              case rel => exact ⟨k + 1, by omega, by go_num, by rw [HSC.out, decide_eq_false (p := 0 ≤ dval c) (by have := HD.out; omega)]; first | rfl | (simp; omega)⟩
              case measure => simp [intOf]; omega
            · have i3 : 97 ≤ (c : Int) := by omega
              by_cases c4 : c ≤ 102
              · have i4 : (c : Int) ≤ 102 := by omega
                have hd : 0 ≤ dval c := by unfold dval; rw [if_neg (by omega), if_pos (by omega)]; omega
                have HD := Lib.hid hd
                clear hd
                go_wp2_with fail
                go_round
                case rel => exact ⟨k + 1, by omega, by go_num, by rw [HSC.out, decide_eq_true (p := 0 ≤ dval c) HD.out]; first | rfl | (simp; omega)⟩
                case measure => simp [intOf]; omega
              · have i4 : 102 < (c : Int) := by omega
                have hd : dval c < 0 := by unfold dval; rw [if_neg (by omega), if_neg (by omega)]; decide
                have HD := Lib.hid hd
                clear hd
                go_wp2_with fail
                go_round
                case rel => exact ⟨k + 1, by omega, by go_num, by rw [HSC.out, decide_eq_false (p := 0 ≤ dval c) (by have := HD.out; omega)]; first | rfl | (simp; omega)⟩
                case measure => simp [intOf]; omega
    · have hend : okb s k = false := by
        obtain rfl : k = s.size := by omega
        rw [HO.out]
        exact okb_bad HNO.out
      rw [hend]
      clear hend
      go_wp2_with fail
      refine (lcode_plain 2 _ (HG.out.below HB05.out HG.out.pos)).mono ?_
      rintro e w6 ⟨rfl, hb6⟩
      have hb06 : Below w.heap.size w w6 := HB05.out.trans (hb6.mono HB05.out.size)
      have HB06 := Lib.hid hb06
      clear hb6 hb06
      go_wp2_with fail
      refine (awake_any w6 (HK.out.below HB06.out HK.out.lt) (HS.out.below HB06.out HS.out.lt)).mono ?_
      rintro e w7 ⟨rfl, hb7⟩
      have hb07 : Below w.heap.size w w7 := HB06.out.trans (hb7.mono HB06.out.size)
      have HB07 := Lib.hid hb07
      clear hb7 hb07
      go_wp2_with fail
      go_ret
      exact ⟨rfl, HB07.out⟩

set_option maxHeartbeats 1600000 in
theorem hex_good (xs : List Nat) (a : Option Addr) (n cap : Nat) (F : Nat → Prop) (s : ByteArray) (w : World) (hk : Ks32 w) (hs : Ss32 w) (hg : ErrTy w) (hx : ∀ x ∈ xs, x < 256) (hr : Rd w F a n (xs.map fun x => .int .u8 ((x : Nat) : Int))) (hn : n ≤ 300) (hl : s.size ≤ 300) (m : Nat) (ho : s.size = 2 * m) (hyes : goods s m) :
    Calls Tryd.prog 7 #[.slice a n cap, .string s] w fun e w' => e = .returned (.bool true) ∧ Below w.heap.size w w' := by
  have hlen : xs.length = n := by have := hr.1; simpa using this
  have b1 : (n : Int) ≤ 300 := by omega
  have b2 : (s.size : Int) ≤ 300 := by omega
  have htz : ((⟨(hexs xs).toArray⟩ : ByteArray).size) = 2 * n := by show (hexs xs).toArray.size = _; rw [List.size_toArray, hexs_length, hlen]
  have hgt : goods ⟨(hexs xs).toArray⟩ n := by rw [← hlen]; exact hexs_good hx
  have hbk : Tabs .u8 (pbv ⟨(hexs xs).toArray⟩) n = xs.map fun x => .int .u8 ((x : Nat) : Int) := by rw [← hlen]; exact hexs_back hx
  have hus : (xs.map fun x => Value.int .u8 ((x : Nat) : Int)) = Bs (xs.map UInt8.ofNat) := by
    unfold Bs
    rw [List.map_map]
    refine List.map_congr_left fun x hm => ?_
    have h256 := hx x hm
    show Value.int .u8 (x : Int) = .int .u8 ((UInt8.ofNat x).toNat : Int)
    rw [UInt8.toNat_ofNat', Nat.mod_eq_of_lt (by simpa using h256)]
  have HK := Lib.hid hk
  have HS := Lib.hid hs
  have HG := Lib.hid hg
  have HX := Lib.hid hx
  have HR := Lib.hid hr
  have HTZ := Lib.hid htz
  have HGT := Lib.hid hgt
  have HBK := Lib.hid hbk
  have HUS := Lib.hid hus
  have HLEN := Lib.hid hlen
  have HO := Lib.hid ho
  have HYES := Lib.hid hyes
  clear hk hs hg hx hr htz hgt hbk hus hlen ho hyes
  go_enter Tryd.func7, Tryd.ntmps7
  go_wp2_with fail
  refine (hex_any xs a n cap F w HX.out (by omega) HR.out).mono ?_
  rintro e w1 ⟨rfl, hb1⟩
  have hr1 := HR.out.belowAll hb1
  have HR1 := Lib.hid hr1
  have HB1 := Lib.hid hb1
  clear hb1 hr1
  generalize hT : (⟨(hexs xs).toArray⟩ : ByteArray) = T at *
  have HT := Lib.hid hT
  clear hT
  go_wp2_with fail
  refine (parse_even T w1 (by rw [HTZ.out]; omega) n HTZ.out).mono ?_
  rintro e w2 (⟨_, rfl, hrow2, hb2⟩ | ⟨hno, _⟩)
  rotate_left
  · exact absurd HGT.out hno
  rw [HBK.out, HUS.out] at hrow2
  have hrd2 := hrow2.rd (n := n) (by rw [Bs_length, List.length_map, HLEN.out])
  have hr2 := HR1.out.belowAll hb2
  have hb02 : Below w.heap.size w w2 := HB1.out.trans (hb2.mono HB1.out.size)
  have HRD2 := Lib.hid hrd2
  have HR2 := Lib.hid hr2
  have HB02 := Lib.hid hb02
  clear hrow2 hrd2 hr2 hb2 hb02
  go_wp2_with fail
  refine (rhex_any xs a n cap F w2 HX.out (by omega) HR2.out).mono ?_
  rintro e w3 ⟨rfl, hb3⟩
  rw [HT.out]
  have hr3 := HR2.out.belowAll hb3
  rw [HUS.out] at hr3
  have hrd3 := HRD2.out.belowAll hb3
  have hb03 : Below w.heap.size w w3 := HB02.out.trans (hb3.mono HB02.out.size)
  have HR3 := Lib.hid hr3
  have HRD3 := Lib.hid hrd3
  have HB03 := Lib.hid hb03
  clear hr3 hrd3 hb3 hb03
  go_wp2_with fail
  have hby := bytes_len (some ⟨w1.heap.size, 0, none⟩) a n n cap (xs.map UInt8.ofNat) (xs.map UInt8.ofNat) _ _ w3 (by omega) HRD3.out HR3.out
  rw [show decide (xs.map UInt8.ofNat = xs.map UInt8.ofNat) = true by simp] at hby
  refine hby.mono ?_
  rintro e w4 ⟨rfl, q4, rfl⟩
  clear hby
  go_wp2_with fail
  refine (parse_even s _ (by omega) m HO.out).mono ?_
  rintro e w5 (⟨_, rfl, hrow5, hb5⟩ | ⟨hno, _⟩)
  rotate_left
  · exact absurd HYES.out hno
  rw [pbs_cells] at hrow5
  have hb05 : Below w.heap.size w w5 := (below_drewN HB03.out q4).trans (hb5.mono (by have := HB03.out.size; simp; omega))
  have hrd5 := hrow5.rd (n := m) (by simp [pbs])
  have hm : m ≤ 300 := by have := HO.out; omega
  have HB05 := Lib.hid hb05
  have HRD5 := Lib.hid hrd5
  clear hb05 hb5 hrow5 hrd5
  go_wp2_with fail
  refine (rhex_any (pbs s m) _ m m _ w5 pbs_lt (by omega) HRD5.out).mono ?_
  rintro e w6 ⟨rfl, hb6⟩
  rw [hexs_pbs HYES.out HO.out]
  have hb06 : Below w.heap.size w w6 := HB05.out.trans (hb6.mono HB05.out.size)
  have HB06 := Lib.hid hb06
  clear hb6 hb06
  go_wp2_with fail
  refine (awake_any w6 (HK.out.below HB06.out HK.out.lt) (HS.out.below HB06.out HS.out.lt)).mono ?_
  rintro e w7 ⟨rfl, hb7⟩
  have hb07 : Below w.heap.size w w7 := HB06.out.trans (hb7.mono HB06.out.size)
  have HB07 := Lib.hid hb07
  clear hb7 hb07
  go_wp2_with fail
  go_ret
  exact ⟨rfl, HB07.out⟩

/-- The law, whatever comes. -/
theorem hex_law (xs : List Nat) (a : Option Addr) (n cap : Nat) (F : Nat → Prop) (s : ByteArray) (w : World) (hk : Ks32 w) (hs : Ss32 w) (hg : ErrTy w) (hx : ∀ x ∈ xs, x < 256) (hr : Rd w F a n (xs.map fun x => .int .u8 ((x : Nat) : Int))) :
    Calls Tryd.prog 7 #[.slice a n cap, .string s] w fun e w' => e = .returned (.bool true) ∧ Below w.heap.size w w' := by
  by_cases h : 300 < n ∨ 300 < s.size
  · exact hex_awake a n cap s w hk hs h
  · have hn : n ≤ 300 := by omega
    have hl : s.size ≤ 300 := by omega
    by_cases ho : s.size % 2 = 1
    · exact hex_odd xs a n cap F s w hk hs hg hx hr hn hl ho
    · have hm : s.size = 2 * (s.size / 2) := by omega
      by_cases hg2 : goods s (s.size / 2)
      · exact hex_good xs a n cap F s w hk hs hg hx hr hn hl _ hm hg2
      · exact hex_bad xs a n cap F s w hk hs hg hx hr hn hl _ hm hg2

end Go.Proofs.YtcdfbcpcgkcojaaDoor
