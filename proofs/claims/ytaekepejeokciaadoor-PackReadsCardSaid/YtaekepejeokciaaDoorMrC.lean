/- What the document's reader makes of a byte, a number, a bool; for any bytes up to 1000. -/
import Derived.Test.YtaekepejeokciaaDoorMrB
import Derived.Test.YtaekepejeokciaaDoorPrs
namespace Go.Proofs.YtaekepejeokciaaDoor
set_option maxRecDepth 100000
open Go.RowKit

theorem below_dn {B : Nat} {a w : World} (h : Below B a w) (n : Nat) : Below B a (w.drewN n) := ⟨h.os, h.tape, h.output, h.size, h.block⟩
theorem mto_ok {w w' : World} {g : Nat} {A : Option Addr} {c : Nat} {F : Nat → Prop} {k : List UInt8} {p : Nat} (h : Mto w w' g A c F k p 0 0) : Mto w w' g A c F k p 0 (fz 0 p) := h

section
variable (g : Nat) (A : Option Addr) (c : Nat) (F : Nat → Prop) (k : List UInt8) (p : Nat) (w : World)

set_option maxHeartbeats 400000 in
theorem mbyte_broken (code fa : Int) (h : Mr w g A c F k p code fa) (hc : code ≠ 0) :
    Calls Tryd.prog 63 #[.pointer (some ⟨g, 0, none⟩)] w fun e w' => e = .returned (.int .u8 0) ∧ w' = w := by
  have h2 := h.c2
  have q2 : (code == 0) = false := beq_eq_false_iff_ne.2 hc
  have q3 : (code != 0) = true := by rw [bne_iff_ne]; exact hc
  clear h hc
  go_enter Tryd.func63, Tryd.ntmps63
  go_wp2_with fail
  go_ret
  exact ⟨rfl, rfl⟩

set_option maxHeartbeats 400000 in
theorem mbyte_ok (h : Mr w g A c F k p 0 0) :
    Calls Tryd.prog 63 #[.pointer (some ⟨g, 0, none⟩)] w fun e w' => e = .returned (.int .u8 (rbyte k p).1.toNat) ∧ Mto w w' g A c F k (rbyte k p).2.1 (rbyte k p).2.2 (fz (rbyte k p).2.2 (rbyte k p).2.1) := by
  have h2 := h.c2
  have hle := h.le
  have H := Lib.hid h
  clear h
  cases hx : k[p]? with
  | none =>
    have he : rbyte k p = (0, p, 2) := by unfold rbyte; rw [hx]
    rw [he]
    have hz : k.length - p = 0 := by have : k.length ≤ p := by simpa using hx
                                     omega
    have HZ := Lib.hid hz
    clear hx he hz
    go_enter Tryd.func63, Tryd.ntmps63
    go_wp2_with fail
    refine (left_any g A c F k p 0 0 _ H.out).mono ?_
    rintro e w1 ⟨X, C, rfl, _, q, rfl⟩
    rw [HZ.out]
    go_wp2_with fail
    refine (mfail_any g A c F k p 2 _ (H.out.drewN q)).mono ?_
    rintro e w2 ⟨rfl, hto⟩
    have c2 := hto.mr.c2
    have HT := Lib.hid (hto.after ((Only.refl _ w).drewN q))
    clear hto
    go_wp2_with fail
    go_ret
    exact ⟨rfl, HT.out⟩
  | some x =>
    have he : rbyte k p = (x, p + 1, 0) := by unfold rbyte; rw [hx]
    rw [he]
    have hpl : p < k.length := (List.getElem?_eq_some_iff.1 hx).1
    have hz : (((k.length - p : Nat) : Int) == 0) = false := beq_eq_false_iff_ne.2 (by omega)
    have hd : (k.drop p).take 1 = [x] := by
      rw [List.drop_eq_getElem_cons hpl, show k[p] = x from (List.getElem?_eq_some_iff.1 hx).2]; rfl
    have HD := Lib.hid hd
    clear hx he hd
    go_enter Tryd.func63, Tryd.ntmps63
    go_wp2_with fail
    refine (left_any g A c F k p 0 0 _ H.out).mono ?_
    rintro e w1 ⟨X, C, rfl, _, q, rfl⟩
    generalize k.length - p = n at *
    go_wp2_with fail
    refine (take_any g A c F k p 1 _ (H.out.drewN q) (by omega)).mono ?_
    rintro e w2 ⟨A1, c1, rfl, ho, hto⟩
    rw [HD.out] at ho ⊢
    obtain ⟨b0, y, rfl, hbb, hy, hcy⟩ := (Rd.of_own ho).byte (k := 0) (by simp)
    obtain rfl : x = y := by simpa using hy
    rw [Addr.add_zero'] at hcy
    have HT := Lib.hid (mto_ok (hto.after ((Only.refl _ w).drewN q)))
    clear hto ho hy
    go_wp2_with fail
    go_ret
    exact ⟨rfl, HT.out⟩

set_option maxHeartbeats 400000 in
theorem mnumber_broken (most : Nat) (code fa : Int) (h : Mr w g A c F k p code fa) (hc : code ≠ 0) :
    Calls Tryd.prog 64 #[.pointer (some ⟨g, 0, none⟩), .int .u64 most] w fun e w' => e = .returned (.int .u64 0) ∧ w' = w := by
  have h2 := h.c2
  have q3 : (code != 0) = true := by rw [bne_iff_ne]; exact hc
  clear h hc
  go_enter Tryd.func64, Tryd.ntmps64
  go_wp2_with fail
  go_ret
  exact ⟨rfl, rfl⟩

set_option maxHeartbeats 800000 in
theorem mnumber_ok (most : Nat) (h : Mr w g A c F k p 0 0) :
    Calls Tryd.prog 64 #[.pointer (some ⟨g, 0, none⟩), .int .u64 most] w fun e w' => e = .returned (.int .u64 (rnum k p most).1) ∧ Mto w w' g A c F k (rnum k p most).2.1 (rnum k p most).2.2 (fz (rnum k p most).2.2 (rnum k p most).2.1) := by
  have h2 := h.c2
  have hle := h.le
  have hsm := h.small
  have hkd : (k.drop p).length = k.length - p := List.length_drop
  have H := Lib.hid h
  clear h
  cases hd : dec (k.drop p) with
  | none =>
    have he : rnum k p most = (0, p, 2) := by unfold rnum; rw [hd]
    rw [he]
    have HD := Lib.hid hd
    clear hd he
    go_enter Tryd.func64, Tryd.ntmps64
    go_wp2_with fail
    refine (left_any g A c F k p 0 0 _ H.out).mono ?_
    rintro e w1 ⟨X, C, rfl, hrd, q, rfl⟩
    have HR := Lib.hid (hrd.belowAll (below_dn (Below.refl _ w) q))
    clear hrd
    go_wp2_with fail
    refine (parse_any X _ C (k.drop p) F _ HR.out (by omega)).mono ?_
    rintro e w1 ⟨rfl, rfl⟩
    rw [HD.out]
    go_wp2_with fail
    refine (mfail_any g A c F k p 2 _ (H.out.drewN q)).mono ?_
    rintro e w2 ⟨rfl, hto⟩
    have c2 := hto.mr.c2
    have HT := Lib.hid (hto.after ((Only.refl _ w).drewN q))
    clear hto
    go_wp2_with fail
    go_ret
    exact ⟨rfl, HT.out⟩
  | some r =>
    obtain ⟨m, s⟩ := r
    have hs0 : (((s : Nat) : Int) == 0) = false := beq_eq_false_iff_ne.2 (by have := (enc_dec hd).2.2.1; omega)
    have hsl := (enc_dec hd).2.1
    have HD := Lib.hid hd
    by_cases hm : most < m
    · have he : rnum k p most = (0, p, 15) := by unfold rnum; rw [hd]; simp only [if_pos hm]
      rw [he]
      have hm' : (most : Int) < m := by omega
      clear hd he
      go_enter Tryd.func64, Tryd.ntmps64
      go_wp2_with fail
      refine (left_any g A c F k p 0 0 _ H.out).mono ?_
      rintro e w1 ⟨X, C, rfl, hrd, q, rfl⟩
      have HR := Lib.hid (hrd.belowAll (below_dn (Below.refl _ w) q))
      clear hrd
      go_wp2_with fail
      refine (parse_any X _ C (k.drop p) F _ HR.out (by omega)).mono ?_
      rintro e w1 ⟨rfl, rfl⟩
      rw [HD.out]
      go_wp2_with fail
      refine (mfail_any g A c F k p 15 _ (H.out.drewN q)).mono ?_
      rintro e w2 ⟨rfl, hto⟩
      have c2 := hto.mr.c2
      have HT := Lib.hid (hto.after ((Only.refl _ w).drewN q))
      clear hto
      go_wp2_with fail
      go_ret
      exact ⟨rfl, HT.out⟩
    · have he : rnum k p most = (m, p + s, 0) := by unfold rnum; rw [hd]; simp only [if_neg hm]
      rw [he]
      have hm' : ¬ (most : Int) < m := by omega
      clear hd he
      go_enter Tryd.func64, Tryd.ntmps64
      go_wp2_with fail
      refine (left_any g A c F k p 0 0 _ H.out).mono ?_
      rintro e w1 ⟨X, C, rfl, hrd, q, rfl⟩
      have HR := Lib.hid (hrd.belowAll (below_dn (Below.refl _ w) q))
      clear hrd
      go_wp2_with fail
      refine (parse_any X _ C (k.drop p) F _ HR.out (by omega)).mono ?_
      rintro e w1 ⟨rfl, rfl⟩
      rw [HD.out]
      go_wp2_with fail
      refine (take_any g A c F k p s _ (H.out.drewN q) (by omega)).mono ?_
      rintro e w2 ⟨A1, c1, rfl, ho, hto⟩
      have HT := Lib.hid (mto_ok (hto.after ((Only.refl _ w).drewN q)))
      clear hto ho
      go_wp2_with fail
      go_ret
      exact ⟨rfl, HT.out⟩

set_option maxHeartbeats 400000 in
theorem mbool_broken (code fa : Int) (h : Mr w g A c F k p code fa) (hc : code ≠ 0) :
    Calls Tryd.prog 66 #[.pointer (some ⟨g, 0, none⟩)] w fun e w' => e = .returned (.bool false) ∧ w' = w := by
  have h2 := h.c2
  have q2 : (code == 0) = false := beq_eq_false_iff_ne.2 hc
  clear h hc
  go_enter Tryd.func66, Tryd.ntmps66
  go_wp2_with fail
  go_ret
  exact ⟨rfl, rfl⟩

set_option maxHeartbeats 800000 in
theorem mbool_ok (h : Mr w g A c F k p 0 0) :
    Calls Tryd.prog 66 #[.pointer (some ⟨g, 0, none⟩)] w fun e w' => e = .returned (.bool (rbool k p).1) ∧ Mto w w' g A c F k (rbool k p).2.1 (rbool k p).2.2 (fz (rbool k p).2.2 (rbool k p).2.1) := by
  have h2 := h.c2
  have hle := h.le
  have H := Lib.hid h
  clear h
  cases hx : k[p]? with
  | none =>
    have he : rbool k p = (false, p, 2) := by unfold rbool; rw [hx]
    rw [he]
    have hz : k.length - p = 0 := by have : k.length ≤ p := by simpa using hx
                                     omega
    have HZ := Lib.hid hz
    clear hx he hz
    go_enter Tryd.func66, Tryd.ntmps66
    go_wp2_with fail
    refine (left_any g A c F k p 0 0 _ H.out).mono ?_
    rintro e w1 ⟨X, C, rfl, _, q, rfl⟩
    rw [HZ.out]
    go_wp2_with fail
    refine (mfail_any g A c F k p 2 _ (H.out.drewN q)).mono ?_
    rintro e w2 ⟨rfl, hto⟩
    have c2 := hto.mr.c2
    have HT := Lib.hid (hto.after ((Only.refl _ w).drewN q))
    clear hto
    go_wp2_with fail
    go_ret
    exact ⟨rfl, HT.out⟩
  | some x =>
    have hpl : p < k.length := (List.getElem?_eq_some_iff.1 hx).1
    have hz : (((k.length - p : Nat) : Int) == 0) = false := beq_eq_false_iff_ne.2 (by omega)
    have hz2 : 0 < k.length - p := by omega
    have hd : (k.drop p).take 1 = [x] := by
      rw [List.drop_eq_getElem_cons hpl, show k[p] = x from (List.getElem?_eq_some_iff.1 hx).2]; rfl
    have hd0 : (k.drop p)[0]? = some x := by rw [List.getElem?_drop]; simpa using hx
    have HD := Lib.hid hd
    have HD0 := Lib.hid hd0
    by_cases h1 : 1 < x.toNat
    · have he : rbool k p = (false, p, 2) := by unfold rbool; rw [hx]; simp only [if_pos h1]
      rw [he]
      have h1' : (1 : Int) < x.toNat := by omega
      clear hx he hd hd0
      go_enter Tryd.func66, Tryd.ntmps66
      go_wp2_with fail
      refine (left_any g A c F k p 0 0 _ H.out).mono ?_
      rintro e w1 ⟨X, C, rfl, _, q, rfl⟩
      go_wp2_with fail
      refine (left_any g A c F k p 0 0 _ (H.out.drewN q)).mono ?_
      rintro e w1 ⟨X, C, rfl, hrd, q2, rfl⟩
      obtain ⟨b0, y, rfl, hbb, hy, hcy⟩ := hrd.byte (k := 0) hz2
      obtain rfl : x = y := Option.some.inj (HD0.out.symm.trans hy)
      rw [Addr.add_zero'] at hcy
      change w.cell? b0 = _ at hcy
      clear hrd hy
      generalize k.length - p = n at *
      go_wp2_with fail
      refine (mfail_any g A c F k p 2 _ (H.out.drewN (q + q2))).mono ?_
      rintro e w2 ⟨rfl, hto⟩
      have c2 := hto.mr.c2
      have HT := Lib.hid (hto.after ((Only.refl _ w).drewN (q + q2)))
      clear hto
      go_wp2_with fail
      go_ret
      exact ⟨rfl, HT.out⟩
    · have he : rbool k p = (x.toNat == 1, p + 1, 0) := by unfold rbool; rw [hx]; simp only [if_neg h1]
      rw [he]
      have h1' : ¬ (1 : Int) < x.toNat := by omega
      have hb : (((x.toNat : Nat) : Int) == 1) = (x.toNat == 1) := by rw [Bool.eq_iff_iff]; simp only [beq_iff_eq]; omega
      have HB := Lib.hid hb
      clear hx he hd hd0 hb
      go_enter Tryd.func66, Tryd.ntmps66
      go_wp2_with fail
      refine (left_any g A c F k p 0 0 _ H.out).mono ?_
      rintro e w1 ⟨X, C, rfl, _, q, rfl⟩
      go_wp2_with fail
      refine (left_any g A c F k p 0 0 _ (H.out.drewN q)).mono ?_
      rintro e w1 ⟨X, C, rfl, hrd, q2, rfl⟩
      obtain ⟨b0, y, rfl, hbb, hy, hcy⟩ := hrd.byte (k := 0) hz2
      obtain rfl : x = y := Option.some.inj (HD0.out.symm.trans hy)
      rw [Addr.add_zero'] at hcy
      change w.cell? b0 = _ at hcy
      clear hrd hy
      generalize k.length - p = n at *
      go_wp2_with fail
      refine (take_any g A c F k p 1 _ (H.out.drewN (q + q2)) (by omega)).mono ?_
      rintro e w2 ⟨A1, c1, rfl, ho, hto⟩
      rw [HD.out] at ho ⊢
      obtain ⟨b1, y, rfl, hbb1, hy, hcy1⟩ := (Rd.of_own ho).byte (k := 0) (by simp)
      obtain rfl : x = y := by simpa using hy
      rw [Addr.add_zero'] at hcy1
      have HT := Lib.hid (mto_ok (hto.after ((Only.refl _ w).drewN (q + q2))))
      clear hto ho hy
      go_wp2_with fail
      go_ret
      exact ⟨by rw [← HB.out]; rfl, HT.out⟩

set_option maxHeartbeats 400000 in
theorem mint_broken (code fa : Int) (h : Mr w g A c F k p code fa) (hc : code ≠ 0) :
    Calls Tryd.prog 65 #[.pointer (some ⟨g, 0, none⟩)] w fun e w' => e = .returned (.int .i64 0) ∧ w' = w := by
  have H := Lib.hid h
  clear h
  go_enter Tryd.func65, Tryd.ntmps65
  go_wp2_with fail
  refine (mnumber_broken g A c F k p _ 18446744073709551615 code fa H.out hc).mono ?_
  rintro e w1 ⟨rfl, rfl⟩
  go_wp2_with fail
  go_ret
  exact ⟨rfl, rfl⟩

theorem unzig_odd {n : Nat} (h : n % 2 = 1) : -((n : Int) / 2) - 1 = unzig n := by unfold unzig; rw [if_pos h]; omega
theorem unzig_even {n : Nat} (h : ¬ n % 2 = 1) : ((n : Int) / 2) = unzig n := by unfold unzig; rw [if_neg h]; omega

set_option maxHeartbeats 800000 in
theorem mint_ok (h : Mr w g A c F k p 0 0) :
    Calls Tryd.prog 65 #[.pointer (some ⟨g, 0, none⟩)] w fun e w' => e = .returned (.int .i64 (rint k p).1) ∧ Mto w w' g A c F k (rint k p).2.1 (rint k p).2.2 (fz (rint k p).2.2 (rint k p).2.1) := by
  have hlt := rnum_lt k p 18446744073709551615
  have hre : rint k p = (unzig (rnum k p 18446744073709551615).1, (rnum k p 18446744073709551615).2) := rfl
  have H := Lib.hid h
  rw [hre]
  clear h hre
  generalize hr : rnum k p 18446744073709551615 = r at *
  obtain ⟨n, p2, d⟩ := r
  have HR := Lib.hid hr
  clear hr
  simp only at hlt ⊢
  by_cases h2 : n % 2 = 1
  · have q : (((n : Nat) : Int) % 2 == 1) = true := beq_iff_eq.2 (by omega)
    have HU := Lib.hid (unzig_odd h2)
    clear h2
    go_enter Tryd.func65, Tryd.ntmps65
    go_wp2_with fail
    refine (mnumber_ok g A c F k p _ 18446744073709551615 H.out).mono ?_
    rw [HR.out]
    rintro e w1 ⟨rfl, hto⟩
    have HT := Lib.hid hto
    clear hto
    go_wp2_with fail
    go_ret
    exact ⟨by rw [← HU.out]; rfl, HT.out⟩
  · have q : (((n : Nat) : Int) % 2 == 1) = false := beq_eq_false_iff_ne.2 (by omega)
    have HU := Lib.hid (unzig_even h2)
    clear h2
    go_enter Tryd.func65, Tryd.ntmps65
    go_wp2_with fail
    refine (mnumber_ok g A c F k p _ 18446744073709551615 H.out).mono ?_
    rw [HR.out]
    rintro e w1 ⟨rfl, hto⟩
    have HT := Lib.hid hto
    clear hto
    go_wp2_with fail
    go_ret
    exact ⟨by rw [← HU.out]; rfl, HT.out⟩
end

end Go.Proofs.YtaekepejeokciaaDoor
