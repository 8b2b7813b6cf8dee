/- The document's Parse comes to what the mathematics of Num says; for any bytes up to 2^47. -/
import Derived.Test.YtaekepejeokciaaDoorSplit
namespace Go.Proofs.YtaekepejeokciaaDoor
set_option maxRecDepth 100000
open Go.RowKit

theorem dig_drop {k : List UInt8} {r : Nat} {x : UInt8} (h : k[r]? = some x) : dig (k.drop r) = x.toNat % 128 + 128 * dig (k.drop (r + 1)) := by
  have hl := (List.getElem?_eq_some_iff.1 h).1
  rw [List.drop_eq_getElem_cons hl, show k[r] = x from (List.getElem?_eq_some_iff.1 h).2]
  rfl
theorem dig_drop_le (k : List UInt8) (r : Nat) : dig (k.drop r) ≤ dig k := by
  induction r generalizing k with
  | zero => exact Nat.le_refl _
  | succ r ih =>
    cases k with
    | nil => simp [dig]
    | cons c s =>
      have := ih s
      simp only [List.drop_succ_cons, dig]
      omega

/-- What Parse has, behind the digits from q + 1 on. -/
def prs (k : List UInt8) (j : Nat) (q : Int) : Nat := dig ((k.take (j + 1)).drop (q + 1).toNat)
theorem prs_top (k : List UInt8) (j : Nat) : prs k j j = 0 := by
  unfold prs
  rw [List.drop_eq_nil_of_le (by rw [List.length_take]; omega)]
  rfl
theorem prs_end (k : List UInt8) (j : Nat) : prs k j (-1) = dig (k.take (j + 1)) := rfl
theorem prs_step {k : List UInt8} {j r : Nat} {x : UInt8} (h : k[r]? = some x) (hr : r ≤ j) : prs k j ((r : Int) - 1) = prs k j r * 128 + x.toNat % 128 := by
  unfold prs
  have e1 : ((r : Int) - 1 + 1).toNat = r := by omega
  have e2 : ((r : Int) + 1).toNat = r + 1 := by omega
  rw [e1, e2, dig_drop (k := k.take (j + 1)) (r := r) (x := x) (by rw [List.getElem?_take, if_pos (by omega)]; exact h)]
  omega
theorem prs_le (k : List UInt8) (j : Nat) (q : Int) : prs k j q ≤ dig (k.take (j + 1)) := dig_drop_le _ _

set_option maxHeartbeats 2000000 in
theorem parse_any (A : Option Addr) (n c : Nat) (k : List UInt8) (F : Nat → Prop) (w : World) (hr : Rd w F A n (Bs k)) (_hn : n ≤ 140737488355328) :
    Calls Tryd.prog 95 #[.slice A n c] w (SplitOf k w) := by
  have HK := Lib.hid hr.len
  have HR := Lib.hid hr
  clear hr
  go_enter Tryd.func95, Tryd.ntmps95
  go_wp2_with fail
  go_loop [4] (fun s => ∃ j : Nat, j ≤ n ∧ j ≤ 11 ∧ s = .int .i64 j ∧ ∀ d ∈ k.take j, ¬ d.toNat < 128) (fun s => n - (intOf s).toNat)
  case atStart => exact ⟨0, Nat.zero_le _, by omega, rfl, by simp⟩
  case round =>
    obtain ⟨j, hj, hj11, rfl, hall⟩ := hrel
    have HALL := Lib.hid hall
    clear hall
    by_cases hlt : j < n
    · obtain ⟨a0, x, rfl, hab, hx, hca⟩ := HR.out.byte hlt
      have HX := Lib.hid hx
      clear hx
      have hxl : x.toNat < 256 := x.toNat_lt
      have hlt' : (j : Int) < n := by omega
      by_cases h11 : j = 11
      · have h11' : ¬ (j : Int) < 11 := by omega
        have h10' : (10 : Int) ≤ j := by omega
        have hnone : dec k = none := by
          obtain ⟨a1, y, _, _, hy, _⟩ := HR.out.byte (k := 9) (by omega)
          have hy128 : ¬ y.toNat < 128 := HALL.out y (List.mem_of_getElem? (i := 9) (by rw [List.getElem?_take, if_pos (by omega)]; exact hy))
          refine dec_stop (j := 9) (fun d hd => HALL.out d ?_) hy rfl (by omega)
          have : k.take 9 = (k.take j).take 9 := by rw [List.take_take, Nat.min_eq_left (by omega)]
          rw [this] at hd
          exact List.mem_of_mem_take hd
        have HN := Lib.hid hnone
        clear hnone h11
        go_wp2_with fail
        go_ret2
        exact split_none HN.out
      · have h11' : (j : Int) < 11 := by omega
        by_cases hc : x.toNat < 128
        · have hc' : ¬ (128 : Int) ≤ x.toNat := by omega
          by_cases h10 : j = 10
          · have h10' : (10 : Int) ≤ j := by omega
            have hnone : dec k = none := by
              obtain ⟨a1, y, _, _, hy, _⟩ := HR.out.byte (k := 9) (by omega)
              have hy128 : ¬ y.toNat < 128 := HALL.out y (List.mem_of_getElem? (i := 9) (by rw [List.getElem?_take, if_pos (by omega)]; exact hy))
              refine dec_stop (j := 9) (fun d hd => HALL.out d ?_) hy rfl (by omega)
              have : k.take 9 = (k.take j).take 9 := by rw [List.take_take, Nat.min_eq_left (by omega)]
              rw [this] at hd
              exact List.mem_of_mem_take hd
            have HN := Lib.hid hnone
            clear hnone h11 h10
            go_wp2_with fail
            go_ret2
            exact split_none HN.out
          · have h10' : ¬ (10 : Int) ≤ j := by omega
            by_cases h9 : j = 9
            · have q9 : (((j : Nat) : Int) == 9) = true := beq_iff_eq.2 (by omega)
              have hca9 : w.cell? (a0.add 9) = some (.int .u8 x.toNat) := by rw [← h9]; exact hca
              have hca9b : w.cell? ⟨a0.block, a0.off + 9, none⟩ = some (.int .u8 x.toNat) := hca9
              have h9n : (9 : Int) < n := by omega
              have h9m : 9 < n := by omega
              have hj0 : (0 : Int) < j := by omega
              have H9 := Lib.hid h9
              clear h9 h10 h11
              by_cases hx1 : 1 < x.toNat
              · have hx1' : (1 : Int) < x.toNat := by omega
                have HN := Lib.hid (dec_stop HALL.out HX.out H9.out hx1)
                go_wp2_with fail
                go_ret2
                exact split_none HN.out
              · have hx1' : ¬ (1 : Int) < x.toNat := by omega
                by_cases hx0 : x.toNat = 0
                · have q0 : (((x.toNat : Nat) : Int) == 0) = true := beq_iff_eq.2 (by omega)
                  have HN := Lib.hid (dec_zero HALL.out HX.out (by omega) hx0)
                  clear hx0
                  go_wp2_with fail
                  go_ret2
                  exact split_none HN.out
                · have q0 : (((x.toNat : Nat) : Int) == 0) = false := beq_eq_false_iff_ne.2 (by omega)
                  have hval : dec k = some (dig (k.take (j + 1)), j + 1) := by rw [dig_succ HX.out]; exact dec_val HALL.out HX.out (by omega) (fun _ => by omega) hc (fun h => absurd h hx0)
                  have hbig := (enc_dec hval).1
                  have HV := Lib.hid hval
                  have HBIG := Lib.hid hbig
                  clear hval hbig
                  go_wp2_with fail
                  go_loop [5, 6] (fun t i => ∃ q : Int, -1 ≤ q ∧ q ≤ j ∧ i = .int .i64 q ∧ t = .int .u64 (prs k j q)) (fun _ i => (intOf i + 1).toNat)
                  case atStart => exact ⟨j, by omega, by omega, rfl, by rw [prs_top]; rfl⟩
                  case round =>
                    obtain ⟨q, hq1, hq2, rfl, rfl⟩ := hrel
                    by_cases hq0 : 0 ≤ q
                    · obtain ⟨r, rfl⟩ := Int.eq_ofNat_of_zero_le hq0
                      obtain ⟨b0, y, e0, _, hy, hcy⟩ := HR.out.byte (k := r) (by omega)
                      obtain rfl : a0 = b0 := Option.some.inj e0
                      have hyl : y.toNat < 256 := y.toNat_lt
                      have hstep := prs_step hy (j := j) (by omega)
                      have hb : prs k j r * 128 + y.toNat % 128 < 18446744073709551616 := by
                        have h1 := prs_le k j ((r : Int) - 1)
                        have h2 := HBIG.out
                        omega
                      have HSTEP := Lib.hid hstep
                      clear hstep hy e0
                      generalize prs k j r = D at *
                      have hrn : (r : Int) < n := by omega
                      go_wp2_with fail
                      go_round
                      case rel => exact ⟨(r : Int) - 1, by omega, by omega, rfl, by rw [HSTEP.out]; push_cast; rfl⟩
                      case measure => simp [intOf]
                    · obtain rfl : q = -1 := by omega
                      have HE := Lib.hid (prs_end k j)
                      rw [HE.out]
                      go_wp2_with fail
                      go_ret2
                      exact split_some HV.out rfl
            · have q9 : (((j : Nat) : Int) == 9) = false := beq_eq_false_iff_ne.2 (by omega)
              by_cases hj0 : 0 < j
              · have hj0' : (0 : Int) < j := by omega
                by_cases hx0 : x.toNat = 0
                · have q0 : (((x.toNat : Nat) : Int) == 0) = true := beq_iff_eq.2 (by omega)
                  have HN := Lib.hid (dec_zero HALL.out HX.out hj0 hx0)
                  clear hx0
                  go_wp2_with fail
                  go_ret2
                  exact split_none HN.out
                · have q0 : (((x.toNat : Nat) : Int) == 0) = false := beq_eq_false_iff_ne.2 (by omega)
                  have hval : dec k = some (dig (k.take (j + 1)), j + 1) := by rw [dig_succ HX.out]; exact dec_val HALL.out HX.out (by omega) (fun e => absurd e h9) hc (fun h => absurd h hx0)
                  have hbig := (enc_dec hval).1
                  have HV := Lib.hid hval
                  have HBIG := Lib.hid hbig
                  clear hval hbig
                  go_wp2_with fail
                  go_loop [5, 6] (fun t i => ∃ q : Int, -1 ≤ q ∧ q ≤ j ∧ i = .int .i64 q ∧ t = .int .u64 (prs k j q)) (fun _ i => (intOf i + 1).toNat)
                  case atStart => exact ⟨j, by omega, by omega, rfl, by rw [prs_top]; rfl⟩
                  case round =>
                    obtain ⟨q, hq1, hq2, rfl, rfl⟩ := hrel
                    by_cases hq0 : 0 ≤ q
                    · obtain ⟨r, rfl⟩ := Int.eq_ofNat_of_zero_le hq0
                      obtain ⟨b0, y, e0, _, hy, hcy⟩ := HR.out.byte (k := r) (by omega)
                      obtain rfl : a0 = b0 := Option.some.inj e0
                      have hyl : y.toNat < 256 := y.toNat_lt
                      have hstep := prs_step hy (j := j) (by omega)
                      have hb : prs k j r * 128 + y.toNat % 128 < 18446744073709551616 := by
                        have h1 := prs_le k j ((r : Int) - 1)
                        have h2 := HBIG.out
                        omega
                      have HSTEP := Lib.hid hstep
                      clear hstep hy e0
                      generalize prs k j r = D at *
                      have hrn : (r : Int) < n := by omega
                      go_wp2_with fail
                      go_round
                      case rel => exact ⟨(r : Int) - 1, by omega, by omega, rfl, by rw [HSTEP.out]; push_cast; rfl⟩
                      case measure => simp [intOf]
                    · obtain rfl : q = -1 := by omega
                      have HE := Lib.hid (prs_end k j)
                      rw [HE.out]
                      go_wp2_with fail
                      go_ret2
                      exact split_some HV.out rfl
              · have hj0' : ¬ (0 : Int) < j := by omega
                have hval : dec k = some (dig (k.take (j + 1)), j + 1) := by rw [dig_succ HX.out]; exact dec_val HALL.out HX.out (by omega) (fun e => absurd e h9) hc (fun _ => by omega)
                have hbig := (enc_dec hval).1
                have HV := Lib.hid hval
                have HBIG := Lib.hid hbig
                clear hval hbig
                go_wp2_with fail
                go_loop [5, 6] (fun t i => ∃ q : Int, -1 ≤ q ∧ q ≤ j ∧ i = .int .i64 q ∧ t = .int .u64 (prs k j q)) (fun _ i => (intOf i + 1).toNat)
                case atStart => exact ⟨j, by omega, by omega, rfl, by rw [prs_top]; rfl⟩
                case round =>
                  obtain ⟨q, hq1, hq2, rfl, rfl⟩ := hrel
                  by_cases hq0 : 0 ≤ q
                  · obtain ⟨r, rfl⟩ := Int.eq_ofNat_of_zero_le hq0
                    obtain ⟨b0, y, e0, _, hy, hcy⟩ := HR.out.byte (k := r) (by omega)
                    obtain rfl : a0 = b0 := Option.some.inj e0
                    have hyl : y.toNat < 256 := y.toNat_lt
                    have hstep := prs_step hy (j := j) (by omega)
                    have hb : prs k j r * 128 + y.toNat % 128 < 18446744073709551616 := by
                      have h1 := prs_le k j ((r : Int) - 1)
                      have h2 := HBIG.out
                      omega
                    have HSTEP := Lib.hid hstep
                    clear hstep hy e0
                    generalize prs k j r = D at *
                    have hrn : (r : Int) < n := by omega
                    go_wp2_with fail
                    go_round
                    case rel => exact ⟨(r : Int) - 1, by omega, by omega, rfl, by rw [HSTEP.out]; push_cast; rfl⟩
                    case measure => simp [intOf]
                  · obtain rfl : q = -1 := by omega
                    have HE := Lib.hid (prs_end k j)
                    rw [HE.out]
                    go_wp2_with fail
                    go_ret2
                    exact split_some HV.out rfl
        · have hc' : (128 : Int) ≤ x.toNat := by omega
          go_wp2_with fail
          go_round
          case rel => exact ⟨j + 1, by omega, by omega, by go_num, take_all_succ HALL.out HX.out hc⟩
          case measure => simp [intOf]; omega
    · have he : ¬ (j : Int) < n := by omega
      have hjn : j = n := by omega
      have hnone : dec k = none := dec_end (fun d hd => HALL.out d (by rw [List.take_of_length_le (by rw [HK.out]; omega)]; exact hd))
      have HN := Lib.hid hnone
      have hge : (n : Int) ≤ j := by omega
      clear hnone hjn
      go_wp2_with fail
      go_ret2
      exact split_none HN.out

end Go.Proofs.YtaekepejeokciaaDoor
