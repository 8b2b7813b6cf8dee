/- PackNone: of a reader that isn't there nothing is read; for any number asked for. -/
import Derived.Test.YtaekepejeokciaaDoorNoneA
namespace Go.Proofs.YtaekepejeokciaaDoor
set_option maxRecDepth 100000
open Go.RowKit

set_option maxHeartbeats 2000000 in
theorem none_law (n m : Int) (w : World) (hg : ErrTy w) :
    Calls Tryd.prog 8 #[.int .i64 n, .int .u64 m] w fun e w' => e = .returned (.bool true) ∧ Below w.heap.size w w' := by
  have HG := Lib.hid hg
  clear hg
  go_enter Tryd.func8, Tryd.ntmps8
  go_wp2_with fail
  refine (nfail _ _).mono ?_
  rintro e w1 ⟨rfl, rfl⟩
  go_wp2_with fail
  refine (nbyte _).mono ?_
  rintro e w2 ⟨rfl, rfl⟩
  go_wp2_with fail
  refine (nnumber _ _).mono ?_
  rintro e w3 ⟨rfl, hb3⟩
  have HB3 := Lib.hid hb3
  clear hb3
  go_wp2_with fail
  refine (nint _).mono ?_
  rintro e w4 ⟨rfl, hb4⟩
  have HB4 := Lib.hid (HB3.out.trans (hb4.mono HB3.out.size))
  clear hb4 HB3
  go_wp2_with fail
  refine (nbool _).mono ?_
  rintro e w5 ⟨rfl, rfl⟩
  go_wp2_with fail
  refine (nbytes _ _).mono ?_
  rintro e w6 ⟨rfl, hb6⟩
  have HB6 := Lib.hid (HB4.out.trans (hb6.mono HB4.out.size))
  clear hb6 HB4
  go_wp2_with fail
  refine (ntext _ _).mono ?_
  rintro e w7 ⟨rfl, hb7⟩
  have HB7 := Lib.hid (HB6.out.trans (hb7.mono HB6.out.size))
  clear hb7 HB6
  go_wp2_with fail
  refine (nraw _ _).mono ?_
  rintro e w8 ⟨rfl, hb8⟩
  have HB8 := Lib.hid (HB7.out.trans (hb8.mono HB7.out.size))
  clear hb8 HB7
  go_wp2_with fail
  refine (nat_ _).mono ?_
  rintro e w9 ⟨rfl, rfl⟩
  go_wp2_with fail
  refine (nerr _).mono ?_
  rintro e wa ⟨rfl, rfl⟩
  go_wp2_with fail
  refine (told_any [] 14 (-1) 0 _ _ rfl (by simp) (HG.out.below HB8.out HG.out.pos) (by decide) rfl).mono ?_
  rintro e wb ⟨rfl, hbb⟩
  have HBB := Lib.hid (HB8.out.trans (hbb.mono HB8.out.size))
  clear hbb HB8
  go_wp2_with fail
  refine (nend _).mono ?_
  rintro e wc ⟨rfl, rfl⟩
  go_wp2_with fail
  refine (told_any [] 14 (-1) 0 _ _ rfl (by simp) (HG.out.below HBB.out HG.out.pos) (by decide) rfl).mono ?_
  rintro e wd ⟨rfl, hbd⟩
  have HBD := Lib.hid (HBB.out.trans (hbd.mono HBB.out.size))
  clear hbd HBB
  go_wp2_with fail
  refine (awake_any _).mono ?_
  rintro e we ⟨rfl, hbe⟩
  have HBE := Lib.hid (HBD.out.trans (hbe.mono HBD.out.size))
  clear hbe HBD
  go_wp2_with fail
  go_ret
  exact ⟨rfl, HBE.out⟩

end Go.Proofs.YtaekepejeokciaaDoor
