/- Two lists of names, held against each other. -/
import Derived.Test.YteeabfckjjbmkaaPs
import Derived.Deep.QuietTactic
namespace Go.Proofs.Yteeabfckjjbmkaa
set_option maxRecDepth 100000
set_option linter.unusedSimpArgs false
set_option linter.unusedVariables false
open Go.RowKit

def eqN (l m : List ByteArray) (n : Nat) : Bool := (List.range n).all fun i => eqS (nth l i) (nth m i)
theorem eqN_more (l m : List ByteArray) (n : Nat) : eqN l m (n + 1) = (eqN l m n && eqS (nth l n) (nth m n)) := by
  unfold eqN
  rw [List.range_succ, List.all_append]
  simp only [List.all_cons, List.all_nil, Bool.and_true]
theorem eqN_no {l m : List ByteArray} {n k : Nat} (h : eqN l m n = false) (hm : n ≤ k) : eqN l m k = false := by
  unfold eqN at *
  rw [← Bool.not_eq_true, List.all_eq_true] at *
  exact fun h' => h fun i hi => h' i (List.mem_range.2 (by have := List.mem_range.1 hi; omega))
set_option maxHeartbeats 1600000 in
theorem equal_any (a b : Option Addr) (n ca m cb : Nat) (l k : List ByteArray) (hn : n ≤ 9223372036854775807) (w : World) (h : Strs w a n l) (hk : Strs w b m k) :
    Calls Try.prog 72 #[.slice a n ca, .slice b m cb] w fun e w' => e = .returned (.bool (eqL l k)) ∧ Below w.heap.size w w' := by
  have hl := h.len
  have hm := hk.len
  by_cases hnm : n = m
  · subst hnm
    have HE := Lib.hid (show eqL l k = eqN l k n by unfold eqL; rw [hl, hm, decide_eq_true rfl]; rfl)
    have H := Lib.hid h
    have HK := Lib.hid hk
    clear h hk hl hm
    go_enter Try.func72, Try.ntmps72
    go_wp2_with fail
    go_loopw [13] (fun i wr => ∃ j : Nat, j ≤ n ∧ i = .int .i64 (j : Int) ∧ eqN l k j = true ∧ Below w.heap.size w wr) (fun i _ => n - (intOf i).toNat)
    case atStart => exact ⟨0, Nat.zero_le _, rfl, rfl, Below.refl _ _⟩
    case round =>
      obtain ⟨j, hjn, rfl, hall, hw⟩ := hrel
      have bj0 : (0 : Int) ≤ (j : Int) := by omega
      by_cases hj : j < n
      · have hji : (j : Int) < (n : Int) := by omega
        obtain ⟨ad, rfl, hc⟩ := Strs.at_ (H.out.belowAll hw) hj
        obtain ⟨ae, rfl, hd⟩ := Strs.at_ (HK.out.belowAll hw) hj
        have hmo := eqN_more l k j
        rw [hall, Bool.true_and] at hmo
        have HNO := Lib.hid (fun h => eqN_no (l := l) (m := k) (n := j + 1) (k := n) h (by omega))
        clear hall
        generalize nth l j = x at *
        generalize nth k j = y at *
        have hxy : eqS x y = (x.toList == y.toList) := rfl
        have HW := Lib.hid hw.drew
        clear hw
        by_cases he : x.toList = y.toList
        · have heb : (x.toList == y.toList) = true := beq_iff_eq.2 he
          rw [hxy, heb] at hmo
          have HMO := Lib.hid hmo
          clear hmo hxy
          go_wp2_with fail
          go_region
          go_wp2_with fail
          go_roundw
          case rel => exact ⟨j + 1, by omega, by go_num, HMO.out, HW.out⟩
          case measure => simp [intOf] <;> omega
        · have heb : (x.toList == y.toList) = false := beq_eq_false_iff_ne.2 he
          rw [hxy, heb] at hmo
          have HMO := Lib.hid hmo
          clear hmo hxy
          go_wp2_with fail
          go_region
          go_wp2_with fail
          go_ret
          exact ⟨by rw [HE.out, HNO.out HMO.out]; rfl, HW.out⟩
      · obtain rfl : j = n := by omega
        have HA := Lib.hid hall
        have HW := Lib.hid hw
        clear hall hw
        go_wp2_with fail
        go_ret
        exact ⟨by rw [HE.out, HA.out]; rfl, HW.out⟩
  · have HF := Lib.hid (show eqL l k = false by unfold eqL; rw [hl, hm, decide_eq_false hnm]; rfl)
    have g1 : ¬ (n : Int) = (m : Int) := by omega
    have g2 : ((n : Int) != (m : Int)) = true := bne_iff_ne.2 g1
    clear h hk hl hm
    go_enter Try.func72, Try.ntmps72
    go_wp2_with fail
    go_ret
    exact ⟨by rw [HF.out]; rfl, Below.refl _ _⟩

end Go.Proofs.Yteeabfckjjbmkaa
