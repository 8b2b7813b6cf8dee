/- The law DeltaCommon, walked, its example being awake. -/
import Derived.Test.YtpegkalhjnldkaaDh
import Derived.Test.YtpegkalhjnldkaaDd
namespace Go.Proofs.Ytpegkalhjnldkaa
set_option maxRecDepth 100000
set_option linter.unusedSimpArgs false
set_option linter.unusedVariables false
open Go.RowKit

set_option maxHeartbeats 3200000 in
theorem common_walk (hA : ∀ w : World, Calls Try.prog 4 #[] w fun e w' => e = .returned (.bool true) ∧ Below w.heap.size w w') (A B : Option Addr) (n m cA cB : Nat) (a b : List Int) (w : World) (ha : RdU w A n a) (hb : RdU w B m b) (wa : ∀ x ∈ a, (Lit.int .u64 x).wf = true) (wb : ∀ x ∈ b, (Lit.int .u64 x).wf = true) :
    Calls Try.prog 3 #[.slice A n cA, .slice B m cB] w fun e w' => e = .returned (.bool true) ∧ Below w.heap.size w w' := by
  have HA := Lib.hid hA
  clear hA
  by_cases hn : 60 < n
  · have hni : (60 : Int) < (n : Int) := by omega
    go_enter Try.func3, Try.ntmps3
    go_wp2_with fail
    refine (HA.out _).mono ?_
    rintro e w' ⟨rfl, hb⟩
    have HB := Lib.hid hb
    clear hb
    go_wp2_with fail
    go_ret
    exact ⟨rfl, HB.out⟩
  have hni : ¬ (60 : Int) < (n : Int) := by omega
  by_cases hm : 60 < m
  · have hmi : (60 : Int) < (m : Int) := by omega
    go_enter Try.func3, Try.ntmps3
    go_wp2_with fail
    refine (HA.out _).mono ?_
    rintro e w' ⟨rfl, hb⟩
    have HB := Lib.hid hb
    clear hb
    go_wp2_with fail
    go_ret
    exact ⟨rfl, HB.out⟩
  have hmi : ¬ (60 : Int) < (m : Int) := by omega
  have H1 := Lib.hid (common_any A B n m cA cB a b w ha hb (by omega) (by omega) wa wb)
  have H2 := Lib.hid (fun (w' : World) (h : Below w.heap.size w w') => common_ref A B n m cA cB a b w' (ha.below h) (hb.below h) (by omega) (by omega))
  have H3 := Lib.hid (fun (w' : World) (h : Below w.heap.size w w') => common_any A A n n cA cA a a w' (ha.below h) (ha.below h) (by omega) (by omega) wa wa)
  have HN := Lib.hid ha.1
  clear ha hb wa wb
  go_enter Try.func3, Try.ntmps3
  go_wp2_with fail
  refine H1.out.mono ?_
  rintro e w1 ⟨rfl, hb1⟩
  have HB1 := Lib.hid hb1
  clear hb1
  go_wp2_with fail
  refine (H2.out w1 HB1.out).mono ?_
  rintro e w2 ⟨rfl, hb2⟩
  have HB2 := Lib.hid (HB1.out.trans (hb2.mono HB1.out.size))
  clear hb2
  go_wp2_with fail
  refine (H3.out w2 HB2.out).mono ?_
  rintro e w3 ⟨rfl, hb3⟩
  have HB3 := Lib.hid (HB2.out.trans (hb3.mono HB2.out.size))
  clear hb3
  rw [Lcs.lcs_self, HN.out]
  go_wp2_with fail
  refine (HA.out w3).mono ?_
  rintro e w4 ⟨rfl, hb4⟩
  have HB4 := Lib.hid (HB3.out.trans (hb4.mono HB3.out.size))
  clear hb4
  go_wp2_with fail
  go_ret
  exact ⟨rfl, HB4.out⟩

end Go.Proofs.Ytpegkalhjnldkaa
