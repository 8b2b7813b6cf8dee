/- The document's digits: less. -/
import Derived.Test.YtklbcpaoccdmeaaDoorRfA
namespace Go.Proofs.YtklbcpaoccdmeaaDoor
set_option maxRecDepth 100000
open Go.RowKit

set_option maxHeartbeats 1600000 in
theorem less_any (A n B m up : Nat) (hA : A < 256 ^ n) (hB : B < 256 ^ m) (hn : n ≤ 1000) (hm : m ≤ 1000) (hup : up ≤ 1000) (a b : Option Addr) (ca cb : Nat) (F G : Nat → Prop) (w : World) (hra : Rd w F a n (Tabs .i64 (byt A) n)) (hrb : Rd w G b m (Tabs .i64 (byt B) m)) :
    Calls Tryd.prog 24 #[.slice a n ca, .slice b m cb, .int .i64 (up : Int)] w fun e w' => e = .returned (.bool (decide (A < B * 256 ^ up))) ∧ w' = w := by
  obtain ⟨N, hN⟩ : ∃ N, N = max n (m + up) := ⟨_, rfl⟩
  have hN1 : n ≤ N := by omega
  have hN2 : m + up ≤ N := by omega
  have hN3 : N ≤ 2000 := by omega
  have hAN : A < 256 ^ N := Nat.lt_of_lt_of_le hA (Nat.pow_le_pow_right (by decide) hN1)
  have hBN : B * 256 ^ up < 256 ^ N := by
    refine Nat.lt_of_lt_of_le ((Nat.mul_lt_mul_right (p256 up)).2 hB) ?_
    rw [← Nat.pow_add]
    exact Nat.pow_le_pow_right (by decide) hN2
  have hpa := fun i hi => at_pos A n hA a ca F i w hi (by omega) hra
  have hpb := fun i hi => at_up B m up hB b cb G i w hi (by omega) hrb
  have h0 : A / 256 ^ N = B * 256 ^ up / 256 ^ N := by rw [Nat.div_eq_of_lt hAN, Nat.div_eq_of_lt hBN]
  have hcs := fun i => cmp_same (A := A) (B := B * 256 ^ up) (i := i)
  have hcl := fun i => cmp_less (A := A) (B := B * 256 ^ up) (i := i)
  have hfin : A / 256 ^ 0 = B * 256 ^ up / 256 ^ 0 → decide (A < B * 256 ^ up) = false := fun h => by
    rw [Nat.pow_zero, Nat.div_one, Nat.div_one] at h
    rw [decide_eq_false (by omega)]
  have HPA := Lib.hid hpa
  have HPB := Lib.hid hpb
  have H0 := Lib.hid h0
  have HCS := Lib.hid hcs
  have HCL := Lib.hid hcl
  have HFIN := Lib.hid hfin
  have HNN := Lib.hid hN
  clear hA hB hra hrb hAN hBN hpa hpb h0 hcs hcl hfin hN
  generalize B * 256 ^ up = C at *
  go_enter Tryd.func24, Tryd.ntmps24
  by_cases hgt : n < m + up
  · have hgi : (n : Int) < (m : Int) + (up : Int) := by omega
    have hnn : ((m : Int) + (up : Int)) - 1 = (N : Int) - 1 := by have := HNN.out; omega
    have HNI := Lib.hid hnn
    clear hnn
    go_wp2_with fail
    rw [HNI.out]
    go_loop [8] (fun i => ∃ k : Nat, k ≤ N ∧ i = .int .i64 ((k : Int) - 1) ∧ A / 256 ^ k = C / 256 ^ k) (fun i => (intOf i + 1).toNat)
    case atStart => exact ⟨N, Nat.le_refl _, rfl, H0.out⟩
    case round =>
      obtain ⟨k, hk, rfl, heq⟩ := hrel
      by_cases hk0 : k = 0
      · subst hk0
        have hf := HFIN.out heq
        rw [show (((0 : Nat) : Int) - 1) = -1 from rfl]
        have HF := Lib.hid hf
        clear hf heq
        go_wp2_with fail
        go_ret
        exact ⟨by rw [HF.out]; rfl, rfl⟩
      · obtain ⟨i, rfl⟩ : ∃ i, k = i + 1 := ⟨k - 1, by omega⟩
        have hii : (((i + 1 : Nat) : Int) - 1) = (i : Int) := by omega
        rw [hii]
        have b0 : (0 : Int) ≤ (i : Int) := by omega
        have b1 : (i : Int) < 2000 := by omega
        have hs := HCS.out i heq
        have hl := HCL.out i heq
        have ha := HPA.out i (by omega)
        have hb := HPB.out i (by omega)
        have lx := byt_lt A i
        have ly := byt_lt C i
        generalize byt A i = x at *
        generalize byt C i = y at *
        by_cases hxy : x = y
        · subst hxy
          have HS := Lib.hid (hs rfl)
          have HA := Lib.hid ha
          have HB := Lib.hid hb
          clear hs hl ha hb heq hii
          go_wp2_with fail
          refine HA.out.mono ?_
          rintro e w' ⟨rfl, rfl⟩
          go_wp2_with fail
          refine HB.out.mono ?_
          rintro e w' ⟨rfl, rfl⟩
          go_wp2_with fail
          go_round
          case rel => exact ⟨i, by omega, rfl, HS.out⟩
          case measure => simp [intOf] <;> omega
        · have hne : ((x : Int) != (y : Int)) = true := by rw [bne_iff_ne]; omega
          have hlt := hl hxy
          have hli : decide ((x : Int) < (y : Int)) = decide (A < C) := by rw [← hlt]; congr 1; exact propext (by omega)
          have HLI := Lib.hid hli
          have HLN := Lib.hid hlt
          have HA := Lib.hid ha
          have HB := Lib.hid hb
          clear hs hl ha hb heq hii hlt hli hxy
          go_wp2_with fail
          refine HA.out.mono ?_
          rintro e w' ⟨rfl, rfl⟩
          go_wp2_with fail
          refine HB.out.mono ?_
          rintro e w' ⟨rfl, rfl⟩
          go_wp2_with fail
          refine HA.out.mono ?_
          rintro e w' ⟨rfl, rfl⟩
          go_wp2_with fail
          refine HB.out.mono ?_
          rintro e w' ⟨rfl, rfl⟩
          go_wp2_with fail
          go_ret
          exact ⟨by first | (rw [← HLN.out]; rfl) | (rw [← HLI.out]; rfl), rfl⟩
  · have hgi : ¬ (n : Int) < (m : Int) + (up : Int) := by omega
    have hgj : (m : Int) + (up : Int) ≤ (n : Int) := by omega
    have hnn : (n : Int) - 1 = (N : Int) - 1 := by have := HNN.out; omega
    have HNI := Lib.hid hnn
    clear hnn
    go_wp2_with fail
    rw [HNI.out]
    go_loop [8] (fun i => ∃ k : Nat, k ≤ N ∧ i = .int .i64 ((k : Int) - 1) ∧ A / 256 ^ k = C / 256 ^ k) (fun i => (intOf i + 1).toNat)
    case atStart => exact ⟨N, Nat.le_refl _, rfl, H0.out⟩
    case round =>
      obtain ⟨k, hk, rfl, heq⟩ := hrel
      by_cases hk0 : k = 0
      · subst hk0
        have hf := HFIN.out heq
        rw [show (((0 : Nat) : Int) - 1) = -1 from rfl]
        have HF := Lib.hid hf
        clear hf heq
        go_wp2_with fail
        go_ret
        exact ⟨by rw [HF.out]; rfl, rfl⟩
      · obtain ⟨i, rfl⟩ : ∃ i, k = i + 1 := ⟨k - 1, by omega⟩
        have hii : (((i + 1 : Nat) : Int) - 1) = (i : Int) := by omega
        rw [hii]
        have b0 : (0 : Int) ≤ (i : Int) := by omega
        have b1 : (i : Int) < 2000 := by omega
        have hs := HCS.out i heq
        have hl := HCL.out i heq
        have ha := HPA.out i (by omega)
        have hb := HPB.out i (by omega)
        have lx := byt_lt A i
        have ly := byt_lt C i
        generalize byt A i = x at *
        generalize byt C i = y at *
        by_cases hxy : x = y
        · subst hxy
          have HS := Lib.hid (hs rfl)
          have HA := Lib.hid ha
          have HB := Lib.hid hb
          clear hs hl ha hb heq hii
          go_wp2_with fail
          refine HA.out.mono ?_
          rintro e w' ⟨rfl, rfl⟩
          go_wp2_with fail
          refine HB.out.mono ?_
          rintro e w' ⟨rfl, rfl⟩
          go_wp2_with fail
          go_round
          case rel => exact ⟨i, by omega, rfl, HS.out⟩
          case measure => simp [intOf] <;> omega
        · have hne : ((x : Int) != (y : Int)) = true := by rw [bne_iff_ne]; omega
          have hlt := hl hxy
          have hli : decide ((x : Int) < (y : Int)) = decide (A < C) := by rw [← hlt]; congr 1; exact propext (by omega)
          have HLI := Lib.hid hli
          have HLN := Lib.hid hlt
          have HA := Lib.hid ha
          have HB := Lib.hid hb
          clear hs hl ha hb heq hii hlt hli hxy
          go_wp2_with fail
          refine HA.out.mono ?_
          rintro e w' ⟨rfl, rfl⟩
          go_wp2_with fail
          refine HB.out.mono ?_
          rintro e w' ⟨rfl, rfl⟩
          go_wp2_with fail
          refine HA.out.mono ?_
          rintro e w' ⟨rfl, rfl⟩
          go_wp2_with fail
          refine HB.out.mono ?_
          rintro e w' ⟨rfl, rfl⟩
          go_wp2_with fail
          go_ret
          exact ⟨by first | (rw [← HLN.out]; rfl) | (rw [← HLI.out]; rfl), rfl⟩

end Go.Proofs.YtklbcpaoccdmeaaDoor
