/- The document's bytes of a right value; for any right value. -/
import Derived.Test.YtmiadkhfjkaidaaGreatDoorMg25
import Derived.Test.YtmiadkhfjkaidaaGreatDoorMg8
namespace Go.Proofs.YtmiadkhfjkaidaaGreatDoor
section
set_option maxRecDepth 100000
set_option linter.unusedSimpArgs false
set_option linter.unusedVariables false
open Go.RowKit

theorem own_lit1 (w : World) (o : Obj) (l : List UInt8) (cs : Array Value) (h : cs.toList = Bs l) (n : Nat) (hn : l.length = n) (hm : n ≤ maxLen) :
    ((w.alloc o).alloc (.cells cs 5)).ownsRow w.heap.size 5 1 (.slice (some ⟨w.heap.size + 1, 0, none⟩) n n) n (Bs l) := by
  have h1 := own_base (own_lit (w.alloc o) l cs h n hn hm) (b' := w.heap.size) (by simp)
  simpa using h1
theorem below_grown {w0 w w' : World} {v : Value} {n : Nat} {e : TypeId} {xs : List Value} (h : Below w0.heap.size w0 w) (ho : w.ownsRow w0.heap.size e 1 v n xs) (hg : w.grownBy w' v.ownBlock) : Below w0.heap.size w0 w' :=
  h.grown hg h.size (fun k hk => (ho.lt k hk).1)
set_option maxHeartbeats 1600000 in
theorem vb_10 (w : World) (s : ByteArray) (a3 b3 c3 : Option Addr) (la ca lb cb len cc : Nat) :
    Calls Tryz.prog 26 #[.agg #[.int .i64 1, .int .i64 0, .string s, .slice a3 la ca, .slice b3 lb cb, .slice c3 len cc]] w fun e w' => ∃ v, e = .returned v ∧ w'.ownsRow w.heap.size 5 1 v ([1, 0] : List UInt8).length (Bs ([1, 0] : List UInt8)) ∧ Below w.heap.size w w' := by
  obtain ⟨i0, hi, hz0, hz1, hz2⟩ := info_parts u8_info
  have HOL := Lib.hid (show (((w.alloc (.cells #[.int .i64 1, .int .i64 0, .string s, .slice a3 la ca, .slice b3 lb cb, .slice c3 len cc] 28)).alloc (.cells #[.int .u8 1] 5)).alloc (.cells #[.int .u8 0] 5)).ownsRow (w.heap.size + 1) 5 1 (.slice (some ⟨w.heap.size + 1, 0, none⟩) 1 1) 1 (Bs [1]) from by
    have h := own_lit (w.alloc (.cells #[.int .i64 1, .int .i64 0, .string s, .slice a3 la ca, .slice b3 lb cb, .slice c3 len cc] 28)) [1] #[.int .u8 1] rfl 1 rfl (by unfold maxLen; omega)
    have h := h.alloc (.cells #[.int .u8 0] 5)
    simpa using h)
  have HRL := Lib.hid (show Rd (((w.alloc (.cells #[.int .i64 1, .int .i64 0, .string s, .slice a3 la ca, .slice b3 lb cb, .slice c3 len cc] 28)).alloc (.cells #[.int .u8 1] 5)).alloc (.cells #[.int .u8 0] 5)) (fun q => q = w.heap.size + 1 + 1) (some ⟨w.heap.size + 1 + 1, 0, none⟩) 1 (Bs [0]) from by
    have h := Rd.lit ((w.alloc (.cells #[.int .i64 1, .int .i64 0, .string s, .slice a3 la ca, .slice b3 lb cb, .slice c3 len cc] 28)).alloc (.cells #[.int .u8 1] 5)) (Bs [0]) #[.int .u8 0] 5 rfl 1 rfl
    rw [show ((w.alloc (.cells #[.int .i64 1, .int .i64 0, .string s, .slice a3 la ca, .slice b3 lb cb, .slice c3 len cc] 28)).alloc (.cells #[.int .u8 1] 5)).heap.size = w.heap.size + 1 + 1 by simp] at h
    exact h)
  have HBB := Lib.hid (show Below (w.heap.size + 1) (w.alloc (.cells #[.int .i64 1, .int .i64 0, .string s, .slice a3 la ca, .slice b3 lb cb, .slice c3 len cc] 28)) (((w.alloc (.cells #[.int .i64 1, .int .i64 0, .string s, .slice a3 la ca, .slice b3 lb cb, .slice c3 len cc] 28)).alloc (.cells #[.int .u8 1] 5)).alloc (.cells #[.int .u8 0] 5)) from ((Below.refl _ _).alloc (by simp) _).alloc (by simp) _)
  have HBW := Lib.hid (fun (w' : World) (hb : Below (w.heap.size + 1) (w.alloc (.cells #[.int .i64 1, .int .i64 0, .string s, .slice a3 la ca, .slice b3 lb cb, .slice c3 len cc] 28)) w') => (show Below w.heap.size w w' from (below_new w _).trans (hb.mono (Nat.le_succ _))))
  have HRW := Lib.hid (fun (w' : World) (hb : Below (w.heap.size + 1) (w.alloc (.cells #[.int .i64 1, .int .i64 0, .string s, .slice a3 la ca, .slice b3 lb cb, .slice c3 len cc] 28)) w') => (Row.new w [.int .i64 1, .int .i64 0, .string s, .slice a3 la ca, .slice b3 lb cb, .slice c3 len cc] 28).below hb (Nat.lt_succ_self _))
  go_enter Tryz.func26, Tryz.ntmps26
  go_wp2_with (at_builtin; refine wpList_append_rd _ rfl (.tmp 13) (.tmp 17) 33 rfl (w.heap.size + 1) 5 i0 (.int .u8 0) 1 Tryz.underlying33 hi hz0 hz1 hz2 rfl (.slice (some ⟨w.heap.size + 1, 0, none⟩) 1 1) (1) (Bs [1]) rfl HOL.out _ (some ⟨w.heap.size + 1 + 1, 0, none⟩) 1 1 (Bs [0]) rfl HRL.out (Bs_one _) ?c1 ?c2 ?c3 ?_)
  case c1 => unfold maxLen; omega
  case c2 => omega
  case c3 => simp
  intro v1 W1 ho1 hg1 _
  rw [← Bs_append] at ho1
  have hb1 := HBB.out.grown hg1 (by simp) (fun q hq => (HOL.out.lt q hq).1)
  have HO1 := Lib.hid ho1
  have HB1 := Lib.hid hb1
  clear ho1 hg1 hb1
  go_wp2_with fail
  go_ret
  exact ⟨_, rfl, own_base HO1.out (Nat.le_succ _), HBW.out _ HB1.out⟩
set_option maxHeartbeats 1600000 in
theorem vb_11 (w : World) (s : ByteArray) (a3 b3 c3 : Option Addr) (la ca lb cb len cc : Nat) :
    Calls Tryz.prog 26 #[.agg #[.int .i64 1, .int .i64 1, .string s, .slice a3 la ca, .slice b3 lb cb, .slice c3 len cc]] w fun e w' => ∃ v, e = .returned v ∧ w'.ownsRow w.heap.size 5 1 v ([1, 1] : List UInt8).length (Bs ([1, 1] : List UInt8)) ∧ Below w.heap.size w w' := by
  obtain ⟨i0, hi, hz0, hz1, hz2⟩ := info_parts u8_info
  have HOL := Lib.hid (show (((w.alloc (.cells #[.int .i64 1, .int .i64 1, .string s, .slice a3 la ca, .slice b3 lb cb, .slice c3 len cc] 28)).alloc (.cells #[.int .u8 1] 5)).alloc (.cells #[.int .u8 1] 5)).ownsRow (w.heap.size + 1) 5 1 (.slice (some ⟨w.heap.size + 1, 0, none⟩) 1 1) 1 (Bs [1]) from by
    have h := own_lit (w.alloc (.cells #[.int .i64 1, .int .i64 1, .string s, .slice a3 la ca, .slice b3 lb cb, .slice c3 len cc] 28)) [1] #[.int .u8 1] rfl 1 rfl (by unfold maxLen; omega)
    have h := h.alloc (.cells #[.int .u8 1] 5)
    simpa using h)
  have HRL := Lib.hid (show Rd (((w.alloc (.cells #[.int .i64 1, .int .i64 1, .string s, .slice a3 la ca, .slice b3 lb cb, .slice c3 len cc] 28)).alloc (.cells #[.int .u8 1] 5)).alloc (.cells #[.int .u8 1] 5)) (fun q => q = w.heap.size + 1 + 1) (some ⟨w.heap.size + 1 + 1, 0, none⟩) 1 (Bs [1]) from by
    have h := Rd.lit ((w.alloc (.cells #[.int .i64 1, .int .i64 1, .string s, .slice a3 la ca, .slice b3 lb cb, .slice c3 len cc] 28)).alloc (.cells #[.int .u8 1] 5)) (Bs [1]) #[.int .u8 1] 5 rfl 1 rfl
    rw [show ((w.alloc (.cells #[.int .i64 1, .int .i64 1, .string s, .slice a3 la ca, .slice b3 lb cb, .slice c3 len cc] 28)).alloc (.cells #[.int .u8 1] 5)).heap.size = w.heap.size + 1 + 1 by simp] at h
    exact h)
  have HBB := Lib.hid (show Below (w.heap.size + 1) (w.alloc (.cells #[.int .i64 1, .int .i64 1, .string s, .slice a3 la ca, .slice b3 lb cb, .slice c3 len cc] 28)) (((w.alloc (.cells #[.int .i64 1, .int .i64 1, .string s, .slice a3 la ca, .slice b3 lb cb, .slice c3 len cc] 28)).alloc (.cells #[.int .u8 1] 5)).alloc (.cells #[.int .u8 1] 5)) from ((Below.refl _ _).alloc (by simp) _).alloc (by simp) _)
  have HBW := Lib.hid (fun (w' : World) (hb : Below (w.heap.size + 1) (w.alloc (.cells #[.int .i64 1, .int .i64 1, .string s, .slice a3 la ca, .slice b3 lb cb, .slice c3 len cc] 28)) w') => (show Below w.heap.size w w' from (below_new w _).trans (hb.mono (Nat.le_succ _))))
  have HRW := Lib.hid (fun (w' : World) (hb : Below (w.heap.size + 1) (w.alloc (.cells #[.int .i64 1, .int .i64 1, .string s, .slice a3 la ca, .slice b3 lb cb, .slice c3 len cc] 28)) w') => (Row.new w [.int .i64 1, .int .i64 1, .string s, .slice a3 la ca, .slice b3 lb cb, .slice c3 len cc] 28).below hb (Nat.lt_succ_self _))
  go_enter Tryz.func26, Tryz.ntmps26
  go_wp2_with (at_builtin; refine wpList_append_rd _ rfl (.tmp 13) (.tmp 17) 33 rfl (w.heap.size + 1) 5 i0 (.int .u8 0) 1 Tryz.underlying33 hi hz0 hz1 hz2 rfl (.slice (some ⟨w.heap.size + 1, 0, none⟩) 1 1) (1) (Bs [1]) rfl HOL.out _ (some ⟨w.heap.size + 1 + 1, 0, none⟩) 1 1 (Bs [1]) rfl HRL.out (Bs_one _) ?c1 ?c2 ?c3 ?_)
  case c1 => unfold maxLen; omega
  case c2 => omega
  case c3 => simp
  intro v1 W1 ho1 hg1 _
  rw [← Bs_append] at ho1
  have hb1 := HBB.out.grown hg1 (by simp) (fun q hq => (HOL.out.lt q hq).1)
  have HO1 := Lib.hid ho1
  have HB1 := Lib.hid hb1
  clear ho1 hg1 hb1
  go_wp2_with fail
  go_ret
  exact ⟨_, rfl, own_base HO1.out (Nat.le_succ _), HBW.out _ HB1.out⟩
set_option maxHeartbeats 1600000 in
theorem vb_2 (w : World) (n : Int) (s : ByteArray) (a3 b3 c3 : Option Addr) (la ca lb cb len cc : Nat) (hn : (Lit.int .i64 n).wf = true) (KL : List UInt8) (hKL : KL = [2] ++ enc (zig n)) :
    Calls Tryz.prog 26 #[.agg #[.int .i64 2, .int .i64 n, .string s, .slice a3 la ca, .slice b3 lb cb, .slice c3 len cc]] w fun e w' => ∃ v, e = .returned v ∧ w'.ownsRow w.heap.size 5 1 v (KL).length (Bs (KL)) ∧ Below w.heap.size w w' := by
  obtain ⟨i0, hi, hz0, hz1, hz2⟩ := info_parts u8_info
  have HOL := Lib.hid (show ((w.alloc (.cells #[.int .i64 2, .int .i64 n, .string s, .slice a3 la ca, .slice b3 lb cb, .slice c3 len cc] 28)).alloc (.cells #[.int .u8 2] 5)).ownsRow (w.heap.size + 1) 5 1 (.slice (some ⟨w.heap.size + 1, 0, none⟩) 1 1) 1 (Bs [2]) from by
    have h := own_lit (w.alloc (.cells #[.int .i64 2, .int .i64 n, .string s, .slice a3 la ca, .slice b3 lb cb, .slice c3 len cc] 28)) [2] #[.int .u8 2] rfl 1 rfl (by unfold maxLen; omega)
    simpa using h)
  have HBB := Lib.hid (show Below (w.heap.size + 1) (w.alloc (.cells #[.int .i64 2, .int .i64 n, .string s, .slice a3 la ca, .slice b3 lb cb, .slice c3 len cc] 28)) ((w.alloc (.cells #[.int .i64 2, .int .i64 n, .string s, .slice a3 la ca, .slice b3 lb cb, .slice c3 len cc] 28)).alloc (.cells #[.int .u8 2] 5)) from (Below.refl _ _).alloc (by simp) _)
  have HBW := Lib.hid (fun (w' : World) (hb : Below (w.heap.size + 1) (w.alloc (.cells #[.int .i64 2, .int .i64 n, .string s, .slice a3 la ca, .slice b3 lb cb, .slice c3 len cc] 28)) w') => (show Below w.heap.size w w' from (below_new w _).trans (hb.mono (Nat.le_succ _))))
  have HRW := Lib.hid (fun (w' : World) (hb : Below (w.heap.size + 1) (w.alloc (.cells #[.int .i64 2, .int .i64 n, .string s, .slice a3 la ca, .slice b3 lb cb, .slice c3 len cc] 28)) w') => (Row.new w [.int .i64 2, .int .i64 n, .string s, .slice a3 la ca, .slice b3 lb cb, .slice c3 len cc] 28).below hb (Nat.lt_succ_self _))
  have HKL := Lib.hid hKL
  clear hKL
  have hnb := wf_i64_le hn
  have hzl := enc_length_le (n := zig n) (zig_lt hnb.1 hnb.2)
  go_enter Tryz.func26, Tryz.ntmps26
  go_wp2_with fail
  refine (refint_any n _ hnb.1 hnb.2).mono ?_
  rintro e W2 ⟨v2, rfl, ho2, hb2⟩
  have HO1 := Lib.hid (own_below HOL.out hb2)
  have HBX := Lib.hid (HBB.out.trans (hb2.mono (by simp)))
  have HBS := Lib.hid (show w.heap.size + 1 ≤ W2.heap.size from Nat.le_trans (by simp) hb2.size)
  obtain ⟨kk, hkk⟩ : ∃ kk, enc (zig n) = kk := ⟨_, rfl⟩
  rw [hkk] at ho2 hzl
  obtain ⟨nn, hnn⟩ : ∃ nn, kk.length = nn := ⟨_, rfl⟩
  rw [hnn] at ho2 hzl
  obtain ⟨A2, c2, rfl⟩ := own_slice ho2
  have HO2 := Lib.hid (Rd.of_own ho2)
  have HKK := Lib.hid hkk
  have HNN := Lib.hid hnn
  clear ho2 hb2 hkk hnn
  go_wp2_with (at_builtin; refine wpList_append_rd _ rfl (.tmp 21) (.tmp 24) 33 rfl (w.heap.size + 1) 5 i0 (.int .u8 0) 1 Tryz.underlying33 hi hz0 hz1 hz2 rfl (.slice (some ⟨w.heap.size + 1, 0, none⟩) 1 1) (1) (Bs [2]) rfl HO1.out _ (A2) nn c2 (Bs kk) rfl HO2.out (Bs_one _) ?c1 ?c2 ?c3 ?_)
  case c1 => unfold maxLen; omega
  case c2 => omega
  case c3 => exact HBS.out
  intro v3 W3 ho3 hg3 _
  rw [← Bs_append] at ho3
  have hb3 := HBX.out.grown hg3 HBS.out (fun q hq => (HO1.out.lt q hq).1)
  have HO3 := Lib.hid ho3
  have HB3 := Lib.hid hb3
  clear ho3 hg3 hb3
  go_wp2_with fail
  go_ret
  refine ⟨v3, rfl, ?_, HBW.out _ HB3.out⟩
  have h := own_base HO3.out (Nat.le_succ _)
  rw [HKL.out, HKK.out, List.length_append, HNN.out]
  exact h
set_option maxHeartbeats 1600000 in
theorem vb_3 (w : World) (n : Int) (s : ByteArray) (a3 b3 c3 : Option Addr) (la ca lb cb len cc : Nat) (hs : s.size ≤ 64) (KL : List UInt8) (hKL : KL = [3] ++ wB s) :
    Calls Tryz.prog 26 #[.agg #[.int .i64 3, .int .i64 n, .string s, .slice a3 la ca, .slice b3 lb cb, .slice c3 len cc]] w fun e w' => ∃ v, e = .returned v ∧ w'.ownsRow w.heap.size 5 1 v (KL).length (Bs (KL)) ∧ Below w.heap.size w w' := by
  obtain ⟨i0, hi, hz0, hz1, hz2⟩ := info_parts u8_info
  have HOL := Lib.hid (show ((w.alloc (.cells #[.int .i64 3, .int .i64 n, .string s, .slice a3 la ca, .slice b3 lb cb, .slice c3 len cc] 28)).alloc (.cells #[.int .u8 3] 5)).ownsRow (w.heap.size + 1) 5 1 (.slice (some ⟨w.heap.size + 1, 0, none⟩) 1 1) 1 (Bs [3]) from by
    have h := own_lit (w.alloc (.cells #[.int .i64 3, .int .i64 n, .string s, .slice a3 la ca, .slice b3 lb cb, .slice c3 len cc] 28)) [3] #[.int .u8 3] rfl 1 rfl (by unfold maxLen; omega)
    simpa using h)
  have HBB := Lib.hid (show Below (w.heap.size + 1) (w.alloc (.cells #[.int .i64 3, .int .i64 n, .string s, .slice a3 la ca, .slice b3 lb cb, .slice c3 len cc] 28)) ((w.alloc (.cells #[.int .i64 3, .int .i64 n, .string s, .slice a3 la ca, .slice b3 lb cb, .slice c3 len cc] 28)).alloc (.cells #[.int .u8 3] 5)) from (Below.refl _ _).alloc (by simp) _)
  have HBW := Lib.hid (fun (w' : World) (hb : Below (w.heap.size + 1) (w.alloc (.cells #[.int .i64 3, .int .i64 n, .string s, .slice a3 la ca, .slice b3 lb cb, .slice c3 len cc] 28)) w') => (show Below w.heap.size w w' from (below_new w _).trans (hb.mono (Nat.le_succ _))))
  have HRW := Lib.hid (fun (w' : World) (hb : Below (w.heap.size + 1) (w.alloc (.cells #[.int .i64 3, .int .i64 n, .string s, .slice a3 la ca, .slice b3 lb cb, .slice c3 len cc] 28)) w') => (Row.new w [.int .i64 3, .int .i64 n, .string s, .slice a3 la ca, .slice b3 lb cb, .slice c3 len cc] 28).below hb (Nat.lt_succ_self _))
  have HKL := Lib.hid hKL
  clear hKL
  have hsl : s.data.toList.length = s.size := by simp
  have hzl := enc_length_le (n := s.size) (by omega)
  obtain ⟨cx, w1, hrun, hrd, hbel, _⟩ := of_text s ((w.alloc (.cells #[.int .i64 3, .int .i64 n, .string s, .slice a3 la ca, .slice b3 lb cb, .slice c3 len cc] 28)).alloc (.cells #[.int .u8 3] 5))
  rw [show ((w.alloc (.cells #[.int .i64 3, .int .i64 n, .string s, .slice a3 la ca, .slice b3 lb cb, .slice c3 len cc] 28)).alloc (.cells #[.int .u8 3] 5)).heap.size = w.heap.size + 1 + 1 by simp] at hrd
  have HRD := Lib.hid hrd
  have HBE := Lib.hid hbel
  clear hrd hbel
  go_enter Tryz.func26, Tryz.ntmps26
  go_wp2_with fail
  refine (refbytes_any _ _ cx s.data.toList _ w1 HRD.out (by omega)).mono ?_
  rintro e W2 ⟨v2, rfl, ho2, hb2⟩
  rw [hsl] at ho2
  have hbx := HBE.out.trans (hb2.mono HBE.out.size)
  have HO1 := Lib.hid (own_below HOL.out hbx)
  have HBX := Lib.hid (HBB.out.trans (hbx.mono (by simp)))
  have HBS := Lib.hid (show w.heap.size + 1 ≤ W2.heap.size from Nat.le_trans (by simp) hbx.size)
  have hkl : (enc s.size ++ s.data.toList).length ≤ 84 := by simp only [List.length_append]; omega
  obtain ⟨kk, hkk⟩ : ∃ kk, enc s.size ++ s.data.toList = kk := ⟨_, rfl⟩
  rw [hkk] at ho2 hkl
  obtain ⟨nn, hnn⟩ : ∃ nn, kk.length = nn := ⟨_, rfl⟩
  rw [hnn] at ho2 hkl
  obtain ⟨A2, c2, rfl⟩ := own_slice ho2
  have HO2 := Lib.hid (Rd.of_own ho2)
  have HKK := Lib.hid (show wB s = kk from hkk)
  have HNN := Lib.hid hnn
  clear ho2 hb2 hkk hnn hbx hrun
  go_wp2_with (at_builtin; refine wpList_append_rd _ rfl (.tmp 29) (.tmp 33) 33 rfl (w.heap.size + 1) 5 i0 (.int .u8 0) 1 Tryz.underlying33 hi hz0 hz1 hz2 rfl (.slice (some ⟨w.heap.size + 1, 0, none⟩) 1 1) (1) (Bs [3]) rfl HO1.out _ (A2) nn c2 (Bs kk) rfl HO2.out (Bs_one _) ?c1 ?c2 ?c3 ?_)
  case c1 => unfold maxLen; omega
  case c2 => omega
  case c3 => exact HBS.out
  intro v3 W3 ho3 hg3 _
  rw [← Bs_append] at ho3
  have hb3 := HBX.out.grown hg3 HBS.out (fun q hq => (HO1.out.lt q hq).1)
  have HO3 := Lib.hid ho3
  have HB3 := Lib.hid hb3
  clear ho3 hg3 hb3
  go_wp2_with fail
  go_ret
  refine ⟨v3, rfl, ?_, HBW.out _ HB3.out⟩
  have h := own_base HO3.out (Nat.le_succ _)
  rw [HKL.out, HKK.out, List.length_append, HNN.out]
  exact h
set_option maxHeartbeats 1600000 in
theorem vb_4 (w : World) (n : Int) (s : ByteArray) (a3 b3 c3 : Option Addr) (la ca lb cb len cc : Nat) (hs : s.size ≤ 64) (KL : List UInt8) (hKL : KL = [4] ++ wB s) :
    Calls Tryz.prog 26 #[.agg #[.int .i64 4, .int .i64 n, .string s, .slice a3 la ca, .slice b3 lb cb, .slice c3 len cc]] w fun e w' => ∃ v, e = .returned v ∧ w'.ownsRow w.heap.size 5 1 v (KL).length (Bs (KL)) ∧ Below w.heap.size w w' := by
  obtain ⟨i0, hi, hz0, hz1, hz2⟩ := info_parts u8_info
  have HOL := Lib.hid (show ((w.alloc (.cells #[.int .i64 4, .int .i64 n, .string s, .slice a3 la ca, .slice b3 lb cb, .slice c3 len cc] 28)).alloc (.cells #[.int .u8 4] 5)).ownsRow (w.heap.size + 1) 5 1 (.slice (some ⟨w.heap.size + 1, 0, none⟩) 1 1) 1 (Bs [4]) from by
    have h := own_lit (w.alloc (.cells #[.int .i64 4, .int .i64 n, .string s, .slice a3 la ca, .slice b3 lb cb, .slice c3 len cc] 28)) [4] #[.int .u8 4] rfl 1 rfl (by unfold maxLen; omega)
    simpa using h)
  have HBB := Lib.hid (show Below (w.heap.size + 1) (w.alloc (.cells #[.int .i64 4, .int .i64 n, .string s, .slice a3 la ca, .slice b3 lb cb, .slice c3 len cc] 28)) ((w.alloc (.cells #[.int .i64 4, .int .i64 n, .string s, .slice a3 la ca, .slice b3 lb cb, .slice c3 len cc] 28)).alloc (.cells #[.int .u8 4] 5)) from (Below.refl _ _).alloc (by simp) _)
  have HBW := Lib.hid (fun (w' : World) (hb : Below (w.heap.size + 1) (w.alloc (.cells #[.int .i64 4, .int .i64 n, .string s, .slice a3 la ca, .slice b3 lb cb, .slice c3 len cc] 28)) w') => (show Below w.heap.size w w' from (below_new w _).trans (hb.mono (Nat.le_succ _))))
  have HRW := Lib.hid (fun (w' : World) (hb : Below (w.heap.size + 1) (w.alloc (.cells #[.int .i64 4, .int .i64 n, .string s, .slice a3 la ca, .slice b3 lb cb, .slice c3 len cc] 28)) w') => (Row.new w [.int .i64 4, .int .i64 n, .string s, .slice a3 la ca, .slice b3 lb cb, .slice c3 len cc] 28).below hb (Nat.lt_succ_self _))
  have HKL := Lib.hid hKL
  clear hKL
  have hsl : s.data.toList.length = s.size := by simp
  have hzl := enc_length_le (n := s.size) (by omega)
  obtain ⟨cx, w1, hrun, hrd, hbel, _⟩ := of_text s ((w.alloc (.cells #[.int .i64 4, .int .i64 n, .string s, .slice a3 la ca, .slice b3 lb cb, .slice c3 len cc] 28)).alloc (.cells #[.int .u8 4] 5))
  rw [show ((w.alloc (.cells #[.int .i64 4, .int .i64 n, .string s, .slice a3 la ca, .slice b3 lb cb, .slice c3 len cc] 28)).alloc (.cells #[.int .u8 4] 5)).heap.size = w.heap.size + 1 + 1 by simp] at hrd
  have HRD := Lib.hid hrd
  have HBE := Lib.hid hbel
  clear hrd hbel
  go_enter Tryz.func26, Tryz.ntmps26
  go_wp2_with fail
  refine (refbytes_any _ _ cx s.data.toList _ w1 HRD.out (by omega)).mono ?_
  rintro e W2 ⟨v2, rfl, ho2, hb2⟩
  rw [hsl] at ho2
  have hbx := HBE.out.trans (hb2.mono HBE.out.size)
  have HO1 := Lib.hid (own_below HOL.out hbx)
  have HBX := Lib.hid (HBB.out.trans (hbx.mono (by simp)))
  have HBS := Lib.hid (show w.heap.size + 1 ≤ W2.heap.size from Nat.le_trans (by simp) hbx.size)
  have hkl : (enc s.size ++ s.data.toList).length ≤ 84 := by simp only [List.length_append]; omega
  obtain ⟨kk, hkk⟩ : ∃ kk, enc s.size ++ s.data.toList = kk := ⟨_, rfl⟩
  rw [hkk] at ho2 hkl
  obtain ⟨nn, hnn⟩ : ∃ nn, kk.length = nn := ⟨_, rfl⟩
  rw [hnn] at ho2 hkl
  obtain ⟨A2, c2, rfl⟩ := own_slice ho2
  have HO2 := Lib.hid (Rd.of_own ho2)
  have HKK := Lib.hid (show wB s = kk from hkk)
  have HNN := Lib.hid hnn
  clear ho2 hb2 hkk hnn hbx hrun
  go_wp2_with (at_builtin; refine wpList_append_rd _ rfl (.tmp 29) (.tmp 33) 33 rfl (w.heap.size + 1) 5 i0 (.int .u8 0) 1 Tryz.underlying33 hi hz0 hz1 hz2 rfl (.slice (some ⟨w.heap.size + 1, 0, none⟩) 1 1) (1) (Bs [4]) rfl HO1.out _ (A2) nn c2 (Bs kk) rfl HO2.out (Bs_one _) ?c1 ?c2 ?c3 ?_)
  case c1 => unfold maxLen; omega
  case c2 => omega
  case c3 => exact HBS.out
  intro v3 W3 ho3 hg3 _
  rw [← Bs_append] at ho3
  have hb3 := HBX.out.grown hg3 HBS.out (fun q hq => (HO1.out.lt q hq).1)
  have HO3 := Lib.hid ho3
  have HB3 := Lib.hid hb3
  clear ho3 hg3 hb3
  go_wp2_with fail
  go_ret
  refine ⟨v3, rfl, ?_, HBW.out _ HB3.out⟩
  have h := own_base HO3.out (Nat.le_succ _)
  rw [HKL.out, HKK.out, List.length_append, HNN.out]
  exact h
set_option maxHeartbeats 6400000 in
theorem vb_5 (w : World) (n : Int) (s : ByteArray) (a3 b3 c3 : Option Addr) (lb ca cb len cc : Nat) (names : List ByteArray) (css : Nat → List Value) (parts : Nat → Vt) (B : Nat) (h1 : Strs w a3 len names) (hsz : ∀ i, i < len → (nth names i).size ≤ 64) (h8 : len ≤ 8) (h3 : Parts w 6 c3 len css) (hB : B ≤ 400000000)
    (hbl : ∀ i, i < len → (parts i).bytes.length ≤ B)
    (hW : ∀ i, i < len → ∀ w' : World, Below w.heap.size w w' → Calls Tryz.prog 26 #[.agg (css i).toArray] w' fun e w'' => ∃ v, e = .returned v ∧ w''.ownsRow w'.heap.size 5 1 v (parts i).bytes.length (Bs (parts i).bytes) ∧ Below w'.heap.size w' w'') (KL : List UInt8) (hKL : KL = [5] ++ (enc len ++ (List.range len).flatMap (fun i => wB (nth names i) ++ (parts i).bytes))) :
    Calls Tryz.prog 26 #[.agg #[.int .i64 5, .int .i64 n, .string s, .slice a3 len ca, .slice b3 lb cb, .slice c3 len cc]] w fun e w' => ∃ v, e = .returned v ∧ w'.ownsRow w.heap.size 5 1 v (KL).length (Bs (KL)) ∧ Below w.heap.size w w' := by
  obtain ⟨i0, hi, hz0, hz1, hz2⟩ := info_parts u8_info
  have HOL := Lib.hid (show ((w.alloc (.cells #[.int .i64 5, .int .i64 n, .string s, .slice a3 len ca, .slice b3 lb cb, .slice c3 len cc] 28)).alloc (.cells #[.int .u8 5] 5)).ownsRow (w.heap.size + 1) 5 1 (.slice (some ⟨w.heap.size + 1, 0, none⟩) 1 1) 1 (Bs [5]) from by
    have h := own_lit (w.alloc (.cells #[.int .i64 5, .int .i64 n, .string s, .slice a3 len ca, .slice b3 lb cb, .slice c3 len cc] 28)) [5] #[.int .u8 5] rfl 1 rfl (by unfold maxLen; omega)
    simpa using h)
  have HBB := Lib.hid (show Below (w.heap.size + 1) (w.alloc (.cells #[.int .i64 5, .int .i64 n, .string s, .slice a3 len ca, .slice b3 lb cb, .slice c3 len cc] 28)) ((w.alloc (.cells #[.int .i64 5, .int .i64 n, .string s, .slice a3 len ca, .slice b3 lb cb, .slice c3 len cc] 28)).alloc (.cells #[.int .u8 5] 5)) from (Below.refl _ _).alloc (by simp) _)
  have HBW := Lib.hid (fun (w' : World) (hb : Below (w.heap.size + 1) (w.alloc (.cells #[.int .i64 5, .int .i64 n, .string s, .slice a3 len ca, .slice b3 lb cb, .slice c3 len cc] 28)) w') => (show Below w.heap.size w w' from (below_new w _).trans (hb.mono (Nat.le_succ _))))
  have HRW := Lib.hid (fun (w' : World) (hb : Below (w.heap.size + 1) (w.alloc (.cells #[.int .i64 5, .int .i64 n, .string s, .slice a3 len ca, .slice b3 lb cb, .slice c3 len cc] 28)) w') => (Row.new w [.int .i64 5, .int .i64 n, .string s, .slice a3 len ca, .slice b3 lb cb, .slice c3 len cc] 28).below hb (Nat.lt_succ_self _))
  have HKL := Lib.hid hKL
  clear hKL
  have HIH := Lib.hid hW
  have HP3 := Lib.hid h3
  have HSZ := Lib.hid hsz
  have HBL := Lib.hid hbl
  have HS := Lib.hid h1
  have hlai : (len : Int) ≤ 12 := by omega
  have hel := enc_length_le (n := len) (by omega)
  clear hW h3 hsz hbl h1
  go_enter Tryz.func26, Tryz.ntmps26
  go_wp2_with fail
  refine (refnum_any len len _ (Nat.le_refl _) (by omega)).mono ?_
  rintro e W2 ⟨v2, rfl, ho2, hb2⟩
  have HO1 := Lib.hid (own_below HOL.out hb2)
  have HBX := Lib.hid (HBB.out.trans (hb2.mono (by simp)))
  have HBS := Lib.hid (show w.heap.size + 1 ≤ W2.heap.size from Nat.le_trans (by simp) hb2.size)
  have hzl := hel
  obtain ⟨kk, hkk⟩ : ∃ kk, enc len = kk := ⟨_, rfl⟩
  rw [hkk] at ho2 hzl
  obtain ⟨nn, hnn⟩ : ∃ nn, kk.length = nn := ⟨_, rfl⟩
  rw [hnn] at ho2 hzl
  obtain ⟨A2, c2, rfl⟩ := own_slice ho2
  have HO2 := Lib.hid (Rd.of_own ho2)
  have HKK := Lib.hid hkk
  have HNN := Lib.hid hnn
  have r5 := (HRW.out _ HBX.out).cell (k := 5) rfl
  clear ho2 hb2 hkk hnn
  go_wp2_with (at_builtin; refine wpList_append_rd _ rfl (.tmp 35) (.tmp 40) 33 rfl (w.heap.size + 1) 5 i0 (.int .u8 0) 1 Tryz.underlying33 hi hz0 hz1 hz2 rfl (.slice (some ⟨w.heap.size + 1, 0, none⟩) 1 1) (1) (Bs [5]) rfl HO1.out _ (A2) nn c2 (Bs kk) rfl HO2.out (Bs_one _) ?c1 ?c2 ?c3 ?_)
  case c1 => unfold maxLen; omega
  case c2 => omega
  case c3 => exact HBS.out
  intro v3 W3 ho3 hg3 _
  rw [← Bs_append] at ho3
  have hb3 := HBX.out.grown hg3 HBS.out (fun q hq => (HO1.out.lt q hq).1)
  have HO3 := Lib.hid ho3
  have HB3 := Lib.hid hb3
  clear ho3 hg3 hb3
  have HO4 := Lib.hid (show W3.ownsRow (w.heap.size + 1) 5 1 v3 ([5] ++ enc len ++ (List.range 0).flatMap (fun i => wB (nth names i) ++ (parts i).bytes)).length (Bs ([5] ++ enc len ++ (List.range 0).flatMap (fun i => wB (nth names i) ++ (parts i).bytes))) from by
    have h := HO3.out
    rw [← HNN.out, ← HKK.out] at h
    simpa [Nat.add_comm 1] using h)
  have q5 := (HRW.out _ HB3.out).cell (k := 5) rfl
  go_wp2_with fail
  go_loopw [3, 4] (fun v i wr => ∃ j : Nat, j ≤ len ∧ i = .int .i64 (j : Int) ∧ wr.ownsRow (w.heap.size + 1) 5 1 v ([5] ++ enc len ++ (List.range j).flatMap (fun i => wB (nth names i) ++ (parts i).bytes)).length (Bs ([5] ++ enc len ++ (List.range j).flatMap (fun i => wB (nth names i) ++ (parts i).bytes))) ∧ Below (w.heap.size + 1) (w.alloc (.cells #[.int .i64 5, .int .i64 n, .string s, .slice a3 len ca, .slice b3 lb cb, .slice c3 len cc] 28)) wr) (fun _ i _ => len - (intOf i).toNat)
  case atStart => exact ⟨0, Nat.zero_le _, rfl, HO4.out, HB3.out⟩
  case round =>
    obtain ⟨j, hjn, rfl, hown, hbw⟩ := hrel
    obtain ⟨A, cp, rfl⟩ := own_slice hown
    have bj0 : (0 : Int) ≤ (j : Int) := by omega
    have c0 := (HRW.out _ hbw).cell (k := 0) rfl
    have c3 := (HRW.out _ hbw).cell (k := 3) rfl
    have c4 := (HRW.out _ hbw).cell (k := 4) rfl
    have c5 := (HRW.out _ hbw).cell (k := 5) rfl
    have hfl := flat_blen (f := fun i => wB (nth names i) ++ (parts i).bytes) (b := 400000074) (n := j) (fun i hi => by
      have h3 := wB_len (HSZ.out i (by omega))
      rw [List.length_append]
      have h4 := HBL.out i (by omega)
      omega)
    have hj8 : j * 400000074 ≤ 12 * 400000074 := Nat.mul_le_mul_right _ (by omega)
    have hel := enc_length_le (n := len) (by omega)
    have hkl : ([5] ++ enc len ++ (List.range j).flatMap (fun i => wB (nth names i) ++ (parts i).bytes)).length ≤ 10000000000 := by simp only [List.length_append, List.length_cons, List.length_nil] at hfl ⊢; omega
    have HMO := Lib.hid (flat_bmore (fun i => wB (nth names i) ++ (parts i).bytes) j)
    generalize hkj : [5] ++ enc len ++ (List.range j).flatMap (fun i => wB (nth names i) ++ (parts i).bytes) = kj at *
    have HKJ := Lib.hid hkj
    generalize hnp : kj.length = np at *
    have HNP := Lib.hid hnp
    have HO := Lib.hid hown
    have HB := Lib.hid hbw
    clear hown hbw hfl hj8 hkj hnp
    by_cases hj : j < len
    · have hji : (j : Int) < (len : Int) := by omega
      obtain ⟨ad, rfl, hc0⟩ := Strs.at_ (HS.out.belowAll (HBW.out _ HB.out)) hj
      have hsz := HSZ.out j hj
      obtain ⟨x, hx⟩ : ∃ x, nth names j = x := ⟨_, rfl⟩
      have HX := Lib.hid hx
      rw [hx] at hc0 hsz
      clear hx
      have hsl : x.data.toList.length = x.size := by simp
      have helx := enc_length_le (n := x.size) (by omega)
      obtain ⟨cx, w1, hrun, hrd, hbel, _⟩ := of_text x wr
      have HRD := Lib.hid hrd
      have HBE := Lib.hid hbel
      clear hrd hbel
      go_wp2_with fail
      refine (refbytes_any _ _ cx x.data.toList _ w1 HRD.out (by omega)).mono ?_
      rintro e W3 ⟨v3, rfl, hown3, hb3⟩
      rw [hsl] at hown3
      have hk3 : (enc x.size ++ x.data.toList).length ≤ 84 := by simp only [List.length_append]; omega
      have HWX := Lib.hid (show wB x = enc x.size ++ x.data.toList from rfl)
      generalize enc x.size ++ x.data.toList = k3 at *
      obtain ⟨n3, hn3⟩ : ∃ n3, k3.length = n3 := ⟨_, rfl⟩
      rw [hn3] at hown3 hk3
      obtain ⟨A3, c3, rfl⟩ := own_slice hown3
      have HO3 := Lib.hid (Rd.of_own hown3)
      have HB3 := Lib.hid (HBE.out.trans (hb3.mono HBE.out.size))
      have HN3 := Lib.hid hn3
      clear hown3 hb3 hn3
      go_wp2_with (at_builtin; refine wpList_append_rd _ rfl (.tmp 52) (.tmp 59) 33 rfl (w.heap.size + 1) 5 i0 (.int .u8 0) 1 Tryz.underlying33 hi hz0 hz1 hz2 rfl (.slice A np cp) np (Bs kj) rfl (own_below HO.out HB3.out) _ A3 n3 c3 (Bs k3) rfl HO3.out (Bs_one _) ?c1 ?c2 ?c3 ?_)
      case c1 => unfold maxLen; omega
      case c2 => omega
      case c3 => exact Nat.le_trans (by have := HB.out.size; simpa using this) HB3.out.size
      intro v4 W4 hown4 hg4 _
      rw [← Bs_append] at hown4
      have hsb : w.heap.size + 1 ≤ wr.heap.size := by have := HB.out.size; simpa using this
      have hb4 := (HB.out.trans (HB3.out.mono hsb)).grown hg4 (Nat.le_trans hsb HB3.out.size) (fun q hq => (HO.out.lt q hq).1)
      have q0 := (HRW.out _ hb4).cell (k := 0) rfl
      have q3 := (HRW.out _ hb4).cell (k := 3) rfl
      have q5 := (HRW.out _ hb4).cell (k := 5) rfl
      have HO4 := Lib.hid hown4
      have HB4 := Lib.hid hb4
      clear hown4 hg4 hb4
      obtain ⟨pd, rfl, hpb, hcell⟩ := (HP3.out.below (HBW.out _ HB4.out)) (by omega)
      obtain ⟨hl3, hcc⟩ := hcell j hj
      have HCC := Lib.hid hcc
      have HL3 := Lib.hid (v_len hl3)
      have HC := Lib.hid (HIH.out j hj _ (HBW.out _ HB4.out))
      have hpl := HBL.out j hj
      clear hcell hcc hl3 hpb
      go_wp2_with (refine wpList_load_at rfl 28 (.tmp 73) rfl (pd.add (j * 6)) rfl (css j) _ (fun q u hu => by rw [add_add]; exact HCC.out q u hu) Tryz.underlying28 rfl HL3.out ?_)
      refine HC.out.mono ?_
      rintro e W5 ⟨v5, rfl, ho5, hb5⟩
      generalize hkk : (parts j).bytes = kk at *
      have HKK := Lib.hid hkk
      obtain ⟨nn, hnn⟩ : ∃ nn, kk.length = nn := ⟨_, rfl⟩
      rw [hnn] at ho5 hpl
      obtain ⟨A5, c5, rfl⟩ := own_slice ho5
      have HO5 := Lib.hid (Rd.of_own ho5)
      have HNN := Lib.hid hnn
      have HB5 := Lib.hid hb5
      have hsb4 : w.heap.size + 1 ≤ W4.heap.size := by have := HB4.out.size; simpa using this
      clear ho5 hb5 hnn hkk
      go_wp2_with (at_builtin; refine wpList_append_rd _ rfl (.tmp 69) (.tmp 75) 33 rfl (w.heap.size + 1) 5 i0 (.int .u8 0) 1 Tryz.underlying33 hi hz0 hz1 hz2 rfl v4 (np + n3) (Bs (kj ++ k3)) rfl (own_below HO4.out HB5.out) _ A5 nn c5 (Bs kk) rfl HO5.out (Bs_one _) ?c1 ?c2 ?c3 ?_)
      case c1 => unfold maxLen; omega
      case c2 => omega
      case c3 => exact Nat.le_trans hsb4 HB5.out.size
      intro v6 W6 hown6 hg6 _
      rw [← Bs_append] at hown6
      have hb6 := (HB4.out.trans (HB5.out.mono hsb4)).grown hg6 (Nat.le_trans hsb4 HB5.out.size) (fun q hq => (HO4.out.lt q hq).1)
      have HO6 := Lib.hid hown6
      have HB6 := Lib.hid hb6
      clear hown6 hg6 hb6
      go_wp2_with fail
      go_roundw
      case rel =>
        refine ⟨j + 1, by omega, by go_num, ?_, HB6.out⟩
        have h := HO6.out
        rw [HMO.out, HX.out, HWX.out, ← List.append_assoc, ← List.append_assoc, HKJ.out]
        simp only [List.length_append, HNP.out, HN3.out, HNN.out]
        exact h
      case measure => simp [intOf] <;> omega
    · obtain rfl : j = len := by omega
      go_wp2_with fail
      go_ret
      refine ⟨_, rfl, ?_, HBW.out _ HB.out⟩
      have h := own_base HO.out (Nat.le_succ _)
      rw [HKL.out, ← List.append_assoc, HKJ.out, HNP.out]
      exact h
set_option maxHeartbeats 6400000 in
theorem vb_6 (w : World) (n : Int) (s : ByteArray) (a3 b3 c3 : Option Addr) (la ca cb len cc : Nat) (ids : List Int) (css : Nat → List Value) (parts : Nat → Vt) (B : Nat) (h1 : Nums w b3 len ids) (hsz : ∀ x ∈ ids, (Lit.int .u64 x).wf = true) (h8 : len ≤ 12) (h3 : Parts w 6 c3 len css) (hB : B ≤ 400000000)
    (hbl : ∀ i, i < len → (parts i).bytes.length ≤ B)
    (hW : ∀ i, i < len → ∀ w' : World, Below w.heap.size w w' → Calls Tryz.prog 26 #[.agg (css i).toArray] w' fun e w'' => ∃ v, e = .returned v ∧ w''.ownsRow w'.heap.size 5 1 v (parts i).bytes.length (Bs (parts i).bytes) ∧ Below w'.heap.size w' w'') (KL : List UInt8) (hKL : KL = [6] ++ (enc len ++ (List.range len).flatMap (fun i => iB ids i ++ (parts i).bytes))) :
    Calls Tryz.prog 26 #[.agg #[.int .i64 6, .int .i64 n, .string s, .slice a3 la ca, .slice b3 len cb, .slice c3 len cc]] w fun e w' => ∃ v, e = .returned v ∧ w'.ownsRow w.heap.size 5 1 v (KL).length (Bs (KL)) ∧ Below w.heap.size w w' := by
  obtain ⟨i0, hi, hz0, hz1, hz2⟩ := info_parts u8_info
  have HOL := Lib.hid (show ((w.alloc (.cells #[.int .i64 6, .int .i64 n, .string s, .slice a3 la ca, .slice b3 len cb, .slice c3 len cc] 28)).alloc (.cells #[.int .u8 6] 5)).ownsRow (w.heap.size + 1) 5 1 (.slice (some ⟨w.heap.size + 1, 0, none⟩) 1 1) 1 (Bs [6]) from by
    have h := own_lit (w.alloc (.cells #[.int .i64 6, .int .i64 n, .string s, .slice a3 la ca, .slice b3 len cb, .slice c3 len cc] 28)) [6] #[.int .u8 6] rfl 1 rfl (by unfold maxLen; omega)
    simpa using h)
  have HBB := Lib.hid (show Below (w.heap.size + 1) (w.alloc (.cells #[.int .i64 6, .int .i64 n, .string s, .slice a3 la ca, .slice b3 len cb, .slice c3 len cc] 28)) ((w.alloc (.cells #[.int .i64 6, .int .i64 n, .string s, .slice a3 la ca, .slice b3 len cb, .slice c3 len cc] 28)).alloc (.cells #[.int .u8 6] 5)) from (Below.refl _ _).alloc (by simp) _)
  have HBW := Lib.hid (fun (w' : World) (hb : Below (w.heap.size + 1) (w.alloc (.cells #[.int .i64 6, .int .i64 n, .string s, .slice a3 la ca, .slice b3 len cb, .slice c3 len cc] 28)) w') => (show Below w.heap.size w w' from (below_new w _).trans (hb.mono (Nat.le_succ _))))
  have HRW := Lib.hid (fun (w' : World) (hb : Below (w.heap.size + 1) (w.alloc (.cells #[.int .i64 6, .int .i64 n, .string s, .slice a3 la ca, .slice b3 len cb, .slice c3 len cc] 28)) w') => (Row.new w [.int .i64 6, .int .i64 n, .string s, .slice a3 la ca, .slice b3 len cb, .slice c3 len cc] 28).below hb (Nat.lt_succ_self _))
  have HIL := Lib.hid (Nums.len h1)
  have HKL := Lib.hid hKL
  clear hKL
  have HIH := Lib.hid hW
  have HP3 := Lib.hid h3
  have HSZ := Lib.hid hsz
  have HBL := Lib.hid hbl
  have HS := Lib.hid h1
  have hlai : (len : Int) ≤ 12 := by omega
  have hel := enc_length_le (n := len) (by omega)
  clear hW h3 hsz hbl h1
  go_enter Tryz.func26, Tryz.ntmps26
  go_wp2_with fail
  refine (refnum_any len len _ (Nat.le_refl _) (by omega)).mono ?_
  rintro e W2 ⟨v2, rfl, ho2, hb2⟩
  have HO1 := Lib.hid (own_below HOL.out hb2)
  have HBX := Lib.hid (HBB.out.trans (hb2.mono (by simp)))
  have HBS := Lib.hid (show w.heap.size + 1 ≤ W2.heap.size from Nat.le_trans (by simp) hb2.size)
  have hzl := hel
  obtain ⟨kk, hkk⟩ : ∃ kk, enc len = kk := ⟨_, rfl⟩
  rw [hkk] at ho2 hzl
  obtain ⟨nn, hnn⟩ : ∃ nn, kk.length = nn := ⟨_, rfl⟩
  rw [hnn] at ho2 hzl
  obtain ⟨A2, c2, rfl⟩ := own_slice ho2
  have HO2 := Lib.hid (Rd.of_own ho2)
  have HKK := Lib.hid hkk
  have HNN := Lib.hid hnn
  have r5 := (HRW.out _ HBX.out).cell (k := 5) rfl
  clear ho2 hb2 hkk hnn
  go_wp2_with (at_builtin; refine wpList_append_rd _ rfl (.tmp 35) (.tmp 40) 33 rfl (w.heap.size + 1) 5 i0 (.int .u8 0) 1 Tryz.underlying33 hi hz0 hz1 hz2 rfl (.slice (some ⟨w.heap.size + 1, 0, none⟩) 1 1) (1) (Bs [6]) rfl HO1.out _ (A2) nn c2 (Bs kk) rfl HO2.out (Bs_one _) ?c1 ?c2 ?c3 ?_)
  case c1 => unfold maxLen; omega
  case c2 => omega
  case c3 => exact HBS.out
  intro v3 W3 ho3 hg3 _
  rw [← Bs_append] at ho3
  have hb3 := HBX.out.grown hg3 HBS.out (fun q hq => (HO1.out.lt q hq).1)
  have HO3 := Lib.hid ho3
  have HB3 := Lib.hid hb3
  clear ho3 hg3 hb3
  have HO4 := Lib.hid (show W3.ownsRow (w.heap.size + 1) 5 1 v3 ([6] ++ enc len ++ (List.range 0).flatMap (fun i => iB ids i ++ (parts i).bytes)).length (Bs ([6] ++ enc len ++ (List.range 0).flatMap (fun i => iB ids i ++ (parts i).bytes))) from by
    have h := HO3.out
    rw [← HNN.out, ← HKK.out] at h
    simpa [Nat.add_comm 1] using h)
  have q5 := (HRW.out _ HB3.out).cell (k := 5) rfl
  go_wp2_with fail
  go_loopw [3, 4] (fun v i wr => ∃ j : Nat, j ≤ len ∧ i = .int .i64 (j : Int) ∧ wr.ownsRow (w.heap.size + 1) 5 1 v ([6] ++ enc len ++ (List.range j).flatMap (fun i => iB ids i ++ (parts i).bytes)).length (Bs ([6] ++ enc len ++ (List.range j).flatMap (fun i => iB ids i ++ (parts i).bytes))) ∧ Below (w.heap.size + 1) (w.alloc (.cells #[.int .i64 6, .int .i64 n, .string s, .slice a3 la ca, .slice b3 len cb, .slice c3 len cc] 28)) wr) (fun _ i _ => len - (intOf i).toNat)
  case atStart => exact ⟨0, Nat.zero_le _, rfl, HO4.out, HB3.out⟩
  case round =>
    obtain ⟨j, hjn, rfl, hown, hbw⟩ := hrel
    obtain ⟨A, cp, rfl⟩ := own_slice hown
    have bj0 : (0 : Int) ≤ (j : Int) := by omega
    have c0 := (HRW.out _ hbw).cell (k := 0) rfl
    have c3 := (HRW.out _ hbw).cell (k := 3) rfl
    have c4 := (HRW.out _ hbw).cell (k := 4) rfl
    have c5 := (HRW.out _ hbw).cell (k := 5) rfl
    have hfl := flat_blen (f := fun i => iB ids i ++ (parts i).bytes) (b := 400000074) (n := j) (fun i hi => by
      have h3 := iB_len HSZ.out (i := i) (by rw [HIL.out]; omega)
      rw [List.length_append]
      have h4 := HBL.out i (by omega)
      omega)
    have hj8 : j * 400000074 ≤ 12 * 400000074 := Nat.mul_le_mul_right _ (by omega)
    have hel := enc_length_le (n := len) (by omega)
    have hkl : ([6] ++ enc len ++ (List.range j).flatMap (fun i => iB ids i ++ (parts i).bytes)).length ≤ 10000000000 := by simp only [List.length_append, List.length_cons, List.length_nil] at hfl ⊢; omega
    have HMO := Lib.hid (flat_bmore (fun i => iB ids i ++ (parts i).bytes) j)
    generalize hkj : [6] ++ enc len ++ (List.range j).flatMap (fun i => iB ids i ++ (parts i).bytes) = kj at *
    have HKJ := Lib.hid hkj
    generalize hnp : kj.length = np at *
    have HNP := Lib.hid hnp
    have HO := Lib.hid hown
    have HB := Lib.hid hbw
    clear hown hbw hfl hj8 hkj hnp
    by_cases hj : j < len
    · have hji : (j : Int) < (len : Int) := by omega
      obtain ⟨ad, rfl, hc0⟩ := Nums.at_ (HS.out.belowAll (HBW.out _ HB.out)) hj
      have hidl : j < ids.length := by rw [HIL.out]; exact hj
      have hidm : ids.getD j 0 ∈ ids := by simp [hidl]
      have hidb := wf_u64_lt (HSZ.out _ hidm)
      obtain ⟨m, hm⟩ : ∃ m : Nat, ids.getD j 0 = (m : Int) := ⟨(ids.getD j 0).toNat, by omega⟩
      have HWX := Lib.hid (show iB ids j = enc m by unfold iB; rw [hm]; rfl)
      have hk3 := enc_length_le (n := m) (by omega)
      rw [hm] at hc0 hidb
      clear hm hidm
      go_wp2_with fail
      refine (refnum_any m m _ (Nat.le_refl _) (by omega)).mono ?_
      rintro e W3 ⟨v3, rfl, hown3, hb3⟩
      obtain ⟨k3, hk3e⟩ : ∃ k3, enc m = k3 := ⟨_, rfl⟩
      rw [hk3e] at hown3 hk3 HWX
      clear hk3e
      obtain ⟨n3, hn3⟩ : ∃ n3, k3.length = n3 := ⟨_, rfl⟩
      rw [hn3] at hown3 hk3
      obtain ⟨A3, c3x, rfl⟩ := own_slice hown3
      have HO3 := Lib.hid (Rd.of_own hown3)
      have HB3 := Lib.hid hb3
      have HN3 := Lib.hid hn3
      clear hown3 hb3 hn3
      go_wp2_with (at_builtin; refine wpList_append_rd _ rfl (.tmp 61) (.tmp 67) 33 rfl (w.heap.size + 1) 5 i0 (.int .u8 0) 1 Tryz.underlying33 hi hz0 hz1 hz2 rfl (.slice A np cp) np (Bs kj) rfl (own_below HO.out HB3.out) _ A3 n3 c3x (Bs k3) rfl HO3.out (Bs_one _) ?c1 ?c2 ?c3 ?_)
      case c1 => unfold maxLen; omega
      case c2 => omega
      case c3 => exact Nat.le_trans (by have := HB.out.size; simpa using this) HB3.out.size
      intro v4 W4 hown4 hg4 _
      rw [← Bs_append] at hown4
      have hsb : w.heap.size + 1 ≤ wr.heap.size := by have := HB.out.size; simpa using this
      have hb4 := (HB.out.trans (HB3.out.mono hsb)).grown hg4 (Nat.le_trans hsb HB3.out.size) (fun q hq => (HO.out.lt q hq).1)
      have q0 := (HRW.out _ hb4).cell (k := 0) rfl
      have q4 := (HRW.out _ hb4).cell (k := 4) rfl
      have q5 := (HRW.out _ hb4).cell (k := 5) rfl
      have HO4 := Lib.hid hown4
      have HB4 := Lib.hid hb4
      clear hown4 hg4 hb4
      obtain ⟨pd, rfl, hpb, hcell⟩ := (HP3.out.below (HBW.out _ HB4.out)) (by omega)
      obtain ⟨hl3, hcc⟩ := hcell j hj
      have HCC := Lib.hid hcc
      have HL3 := Lib.hid (v_len hl3)
      have HC := Lib.hid (HIH.out j hj _ (HBW.out _ HB4.out))
      have hpl := HBL.out j hj
      clear hcell hcc hl3 hpb
      go_wp2_with (refine wpList_load_at rfl 28 (.tmp 73) rfl (pd.add (j * 6)) rfl (css j) _ (fun q u hu => by rw [add_add]; exact HCC.out q u hu) Tryz.underlying28 rfl HL3.out ?_)
      refine HC.out.mono ?_
      rintro e W5 ⟨v5, rfl, ho5, hb5⟩
      generalize hkk : (parts j).bytes = kk at *
      have HKK := Lib.hid hkk
      obtain ⟨nn, hnn⟩ : ∃ nn, kk.length = nn := ⟨_, rfl⟩
      rw [hnn] at ho5 hpl
      obtain ⟨A5, c5, rfl⟩ := own_slice ho5
      have HO5 := Lib.hid (Rd.of_own ho5)
      have HNN := Lib.hid hnn
      have HB5 := Lib.hid hb5
      have hsb4 : w.heap.size + 1 ≤ W4.heap.size := by have := HB4.out.size; simpa using this
      clear ho5 hb5 hnn hkk
      go_wp2_with (at_builtin; refine wpList_append_rd _ rfl (.tmp 69) (.tmp 75) 33 rfl (w.heap.size + 1) 5 i0 (.int .u8 0) 1 Tryz.underlying33 hi hz0 hz1 hz2 rfl v4 (np + n3) (Bs (kj ++ k3)) rfl (own_below HO4.out HB5.out) _ A5 nn c5 (Bs kk) rfl HO5.out (Bs_one _) ?c1 ?c2 ?c3 ?_)
      case c1 => unfold maxLen; omega
      case c2 => omega
      case c3 => exact Nat.le_trans hsb4 HB5.out.size
      intro v6 W6 hown6 hg6 _
      rw [← Bs_append] at hown6
      have hb6 := (HB4.out.trans (HB5.out.mono hsb4)).grown hg6 (Nat.le_trans hsb4 HB5.out.size) (fun q hq => (HO4.out.lt q hq).1)
      have HO6 := Lib.hid hown6
      have HB6 := Lib.hid hb6
      clear hown6 hg6 hb6
      go_wp2_with fail
      go_roundw
      case rel =>
        refine ⟨j + 1, by omega, by go_num, ?_, HB6.out⟩
        have h := HO6.out
        rw [HMO.out, HWX.out, ← List.append_assoc, ← List.append_assoc, HKJ.out]
        simp only [List.length_append, HNP.out, HN3.out, HNN.out]
        exact h
      case measure => simp [intOf] <;> omega
    · obtain rfl : j = len := by omega
      go_wp2_with fail
      go_ret
      refine ⟨_, rfl, ?_, HBW.out _ HB.out⟩
      have h := own_base HO.out (Nat.le_succ _)
      rw [HKL.out, ← List.append_assoc, HKJ.out, HNP.out]
      exact h
set_option maxHeartbeats 1600000 in
theorem vbytes_ref : ∀ (v : Vt) (cs : List Value) (d : Nat) (w : World), VAt w v cs → v.rightAt d = true →
    Calls Tryz.prog 26 #[.agg cs.toArray] w fun e w' => ∃ x, e = .returned x ∧ w'.ownsRow w.heap.size 5 1 x v.bytes.length (Bs v.bytes) ∧ Below w.heap.size w w' := by
  intro v
  induction v with
  | nul => intro cs d w h; cases h
  | mk k n x names ids len parts ih =>
    intro cs d w hs hr
    rw [Vt.rightAt_mk, Bool.and_eq_true, Bool.and_eq_true, List.all_eq_true] at hr
    obtain ⟨⟨h5, hh⟩, hp⟩ := hr
    cases hs with
    | @mk _ _ _ _ _ _ _ a3 b3 c3 la ca lb cb cc css hk hn hsz h1 h1c hss h2 h2c hi h3 h3c hsub =>
    have hnl : names.length = la := Strs.len h1
    have hil : ids.length = lb := Nums.len h2
    have hbl : ∀ i, i < len → (parts i).bytes.length ≤ 400000000 := fun i hi' =>
      Nat.le_trans (Vt.bytes_len (parts i) (d + 1) (hp i (List.mem_range.2 hi')) (hsub i hi').inn) (vbnd_all (Nat.sub_le _ _))
    have hW := fun (i : Nat) (hi' : i < len) (w' : World) (hb : Below w.heap.size w w') => ih i (css i) (d + 1) w' ((hsub i hi').later hb) (hp i (List.mem_range.2 hi'))
    rcases headV_cases hh with ⟨rfl, hn01, _⟩ | ⟨rfl, _⟩ | ⟨rfl, _, hs64, _⟩ | ⟨rfl, _, hnm, _⟩ | ⟨rfl, _, _, _, h8, hl, hri⟩ | ⟨rfl, _, _, _, h12, hl, hid⟩
    · rw [vbytes_1]
      rcases hn01 with rfl | rfl
      · exact vb_10 w x a3 b3 c3 la ca lb cb len cc
      · exact vb_11 w x a3 b3 c3 la ca lb cb len cc
    · rw [vbytes_2]
      exact vb_2 w n x a3 b3 c3 la ca lb cb len cc hn _ rfl
    · rw [vbytes_3]
      exact vb_3 w n x a3 b3 c3 la ca lb cb len cc hs64 _ rfl
    · rw [vbytes_4]
      exact vb_4 w n x a3 b3 c3 la ca lb cb len cc (by have := nameB_sz hnm; omega) _ rfl
    · rw [vbytes_5, hnl]
      obtain rfl : len = la := by omega
      exact vb_5 w n x a3 b3 c3 lb ca cb len cc names css parts 400000000 h1 (fun i hi' => riseB_size hri (by omega)) (by omega) h3 (Nat.le_refl _) hbl hW _ rfl
    · rw [vbytes_6, hil]
      obtain rfl : len = lb := by omega
      exact vb_6 w n x a3 b3 c3 la ca cb len cc ids css parts 400000000 h2 hi (by omega) h3 (Nat.le_refl _) hbl hW _ rfl
end

end Go.Proofs.YtmiadkhfjkaidaaGreatDoor
