/- Any bytes' sums: the law's own walk. -/
import Derived.Test.YtcdfbcpcgkcojaaDoorBoth
import Derived.Test.YtcdfbcpcgkcojaaDoorLaid
namespace Go.Proofs.YtcdfbcpcgkcojaaDoor
set_option maxRecDepth 100000
open Go.RowKit

set_option maxHeartbeats 800000 in
theorem sums_awake (a : Option Addr) (n cap : Nat) (w : World) (hk : Ks32 w) (hs : Ss32 w) (h : 600 < n) :
    Calls Tryd.prog 3 #[.slice a n cap] w fun e w' => e = .returned (.bool true) ∧ Below w.heap.size w w' := by
  have HK := Lib.hid hk
  have HS := Lib.hid hs
  clear hk hs
  have b1 : (600 : Int) < (n : Int) := by omega
  go_enter Tryd.func3, Tryd.ntmps3
  go_wp2_with fail
  refine (awake_any w HK.out HS.out).mono ?_
  rintro e w1 ⟨rfl, hb⟩
  have HB := Lib.hid hb
  clear hb
  go_wp2_with fail
  go_ret
  exact ⟨rfl, HB.out⟩

set_option maxHeartbeats 1600000 in
theorem sums_law (xs : List Nat) (a : Option Addr) (n cap : Nat) (F : Nat → Prop) (w : World) (hk : Ks32 w) (hs : Ss32 w) (hx : ∀ x ∈ xs, x < 256) (hr : Rd w F a n (Ny xs)) :
    Calls Tryd.prog 3 #[.slice a n cap] w fun e w' => e = .returned (.bool true) ∧ Below w.heap.size w w' := by
  by_cases h : 600 < n
  · exact sums_awake a n cap w hk hs h
  have b1 : (n : Int) ≤ 600 := by omega
  have HK := Lib.hid hk
  have HS := Lib.hid hs
  have HX := Lib.hid hx
  have HR := Lib.hid hr
  have HN := Lib.hid h
  clear hk hs hx hr h
  have he32 := eql32 (fed32 beg32 xs)
  have he64 := eql64 (fed64 beg64 xs)
  have HE32 := Lib.hid he32
  have HE64 := Lib.hid he64
  clear he32 he64
  go_enter Tryd.func3, Tryd.ntmps3
  go_wp2_with fail
  refine (one256 xs a n cap F w HK.out HS.out HX.out HR.out (by have := HN.out; omega)).mono ?_
  rintro e w1 ⟨rfl, hb1⟩
  have HB1 := Lib.hid hb1
  have hr1 := HR.out.belowAll hb1
  have HR1 := Lib.hid hr1
  clear hb1 hr1
  go_wp2_with fail
  refine (doc32 xs a n cap F w1 HX.out HR1.out (by have := HN.out; omega)).mono ?_
  rintro e w2 ⟨rfl, hb2⟩
  have hb02 : Below w.heap.size w w2 := HB1.out.trans (hb2.mono HB1.out.size)
  have HB2 := Lib.hid hb02
  have hr2 := HR1.out.belowAll hb2
  have HR2 := Lib.hid hr2
  clear hb2 hb02 hr2
  generalize dig32 (fed32 beg32 xs) = D at *
  go_wp2_with (refine wpList_binop _ .eql 24 24 (.tmp 9) (.tmp 11) rfl (by rfl) (.agg D.toArray) (.agg D.toArray) (.bool true) rfl rfl (grd32 _ _ _ _ _ _) (HE32.out _) ?_)
  refine (one512 xs a n cap F w2 (HK.out.great.below HB2.out HK.out.lt) (HS.out.great.below HB2.out HS.out.lt) HX.out HR2.out (by have := HN.out; omega)).mono ?_
  rintro e w3 ⟨rfl, hb3⟩
  have hb03 : Below w.heap.size w w3 := HB2.out.trans (hb3.mono HB2.out.size)
  have HB3 := Lib.hid hb03
  have hr3 := HR2.out.belowAll hb3
  have HR3 := Lib.hid hr3
  clear hb3 hb03 hr3
  go_wp2_with fail
  refine (doc64 xs a n cap F w3 HX.out HR3.out (by have := HN.out; omega)).mono ?_
  rintro e w4 ⟨rfl, hb4⟩
  have hb04 : Below w.heap.size w w4 := HB3.out.trans (hb4.mono HB3.out.size)
  have HB4 := Lib.hid hb04
  clear hb4 hb04
  generalize dig64 (fed64 beg64 xs) = E at *
  go_wp2_with (refine wpList_binop _ .eql 27 27 (.tmp 16) (.tmp 18) rfl (by rfl) (.agg E.toArray) (.agg E.toArray) (.bool true) rfl rfl (grd64 _ _ _ _ _ _) (HE64.out _) ?_)
  refine (awake_any w4 (HK.out.below HB4.out HK.out.lt) (HS.out.below HB4.out HS.out.lt)).mono ?_
  rintro e w5 ⟨rfl, hb5⟩
  have hb05 : Below w.heap.size w w5 := HB4.out.trans (hb5.mono HB4.out.size)
  have HB5 := Lib.hid hb05
  clear hb5 hb05
  go_wp2_with fail
  go_ret
  exact ⟨rfl, HB5.out⟩

end Go.Proofs.YtcdfbcpcgkcojaaDoor
