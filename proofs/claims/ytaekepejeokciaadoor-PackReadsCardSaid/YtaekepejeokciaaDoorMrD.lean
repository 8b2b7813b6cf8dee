/- What the document's reader makes of bytes, raw bytes and its end; for any bytes up to 1000. -/
import Derived.Test.YtaekepejeokciaaDoorMrC
namespace Go.Proofs.YtaekepejeokciaaDoor
set_option maxRecDepth 100000
open Go.RowKit

/-- What the document's reader comes to where it reads bytes. -/
def MDid (w : World) (g : Nat) (A : Option Addr) (c : Nat) (F : Nat → Prop) (k : List UInt8) (r : List UInt8 × Nat × Int) (e : Ending) (w' : World) : Prop :=
  ∃ A1 c1, e = .returned (.slice A1 r.1.length c1) ∧ w'.ownsRow w.heap.size 5 1 (.slice A1 r.1.length c1) r.1.length (Bs r.1) ∧ Mto w w' g A c F k r.2.1 r.2.2 (fz r.2.2 r.2.1)

section
variable {w w1 w' : World} {g : Nat} {A : Option Addr} {c : Nat} {F : Nat → Prop} {k x : List UInt8} {p : Nat} {d : Int} {e : Ending}
theorem mdid_err {r : List UInt8 × Nat × Int} (h : Mto w w' g A c F k p d (fz d p)) (hr : r = ([], p, d)) : MDid w g A c F k r (.returned (.slice none 0 0)) w' := by
  subst hr
  exact ⟨none, 0, rfl, World.ownsRow_nil _ _ _ _, h⟩
theorem mdid_took {r : List UInt8 × Nat × Int} (h : Mtook w1 g A c F k x p e w') (hb : Only (fun j => j = g) w w1) (hr : r = (x, p, 0)) : MDid w g A c F k r e w' := by
  obtain ⟨A1, c1, rfl, ho, hto⟩ := h
  subst hr
  exact ⟨A1, c1, rfl, own_base ho hb.size, hto.after hb⟩
end

section
variable (g : Nat) (A : Option Addr) (c : Nat) (F : Nat → Prop) (k : List UInt8) (p : Nat) (w : World)

set_option maxHeartbeats 400000 in
theorem mbytes_broken (most : Int) (code fa : Int) (h : Mr w g A c F k p code fa) (hc : code ≠ 0) :
    Calls Tryd.prog 67 #[.pointer (some ⟨g, 0, none⟩), .int .i64 most] w fun e w' => e = .returned (.slice none 0 0) ∧ w' = w := by
  have h2 := h.c2
  have q3 : (code != 0) = true := by rw [bne_iff_ne]; exact hc
  clear h hc
  go_enter Tryd.func67, Tryd.ntmps67
  go_wp2_with fail
  go_ret
  exact ⟨rfl, rfl⟩

set_option maxHeartbeats 2000000 in
theorem mbytes_ok (most : Int) (hmost : most ≤ 9223372036854775807) (h : Mr w g A c F k p 0 0) :
    Calls Tryd.prog 67 #[.pointer (some ⟨g, 0, none⟩), .int .i64 most] w (MDid w g A c F k (rbytes k p most)) := by
  have h2 := h.c2
  have hle := h.le
  have hsm := h.small
  have hkd : (k.drop p).length = k.length - p := List.length_drop
  have H := Lib.hid h
  clear h
  by_cases h0 : most < 0
  · cases hd : dec (k.drop p) with
    | none =>
      have HE := Lib.hid (show rbytes k p most = ([], p, 2) by unfold rbytes; rw [hd])
      have HD := Lib.hid hd
      clear hd
      go_enter Tryd.func67, Tryd.ntmps67
      go_wp2_with fail
      refine (left_any g A c F k p 0 0 _ H.out).mono ?_
      rintro e w1 ⟨X, C, rfl, hrd, q, rfl⟩
      have HR := Lib.hid (hrd.belowAll (below_dn (Below.refl _ w) q))
      clear hrd
      go_wp2_with fail
      refine (parse_any X _ C (k.drop p) F _ HR.out (by omega)).mono ?_
      rintro e w1 ⟨rfl, rfl⟩
      rw [HD.out]
      go_wp2_with fail
      refine (mfail_any g A c F k p 2 _ (H.out.drewN q)).mono ?_
      rintro e w2 ⟨rfl, hto⟩
      have HT := Lib.hid (hto.after ((Only.refl _ w).drewN q))
      clear hto
      go_wp2_with fail
      go_ret
      exact mdid_err HT.out HE.out
    | some r =>
      obtain ⟨m, s⟩ := r
      have hs1 := (enc_dec hd).2.2.1
      have hs0 : (((s : Nat) : Int) == 0) = false := beq_eq_false_iff_ne.2 (by omega)
      have hsl := (enc_dec hd).2.1
      have hml := (enc_dec hd).1
      have HD := Lib.hid hd
      by_cases hm : (max most 0).toNat < m
      · have HE := Lib.hid (show rbytes k p most = ([], p, 3) by unfold rbytes; rw [hd]; simp only [if_pos hm])
        have hm2 : (0 : Int) < m := by omega
        clear hd
        go_enter Tryd.func67, Tryd.ntmps67
        go_wp2_with fail
        refine (left_any g A c F k p 0 0 _ H.out).mono ?_
        rintro e w1 ⟨X, C, rfl, hrd, q, rfl⟩
        have HR := Lib.hid (hrd.belowAll (below_dn (Below.refl _ w) q))
        clear hrd
        go_wp2_with fail
        refine (parse_any X _ C (k.drop p) F _ HR.out (by omega)).mono ?_
        rintro e w1 ⟨rfl, rfl⟩
        rw [HD.out]
        go_wp2_with fail
        refine (mfail_any g A c F k p 3 _ (H.out.drewN q)).mono ?_
        rintro e w2 ⟨rfl, hto⟩
        have HT := Lib.hid (hto.after ((Only.refl _ w).drewN q))
        clear hto
        go_wp2_with fail
        go_ret
        exact mdid_err HT.out HE.out
      · have hm2 : ¬ (0 : Int) < m := by omega
        obtain rfl : m = 0 := by omega
        clear hm2
        have hll : ¬ (k.drop p).length - s < 0 := by omega
        have HE := Lib.hid (show rbytes k p most = ((k.drop (p + s)).take 0, p + s + 0, 0) by unfold rbytes; rw [hd]; simp only [if_neg hm, if_neg hll]; rw [List.drop_drop, Nat.add_assoc])
        have hsL : s ≤ k.length - p := by omega
        have hL : k.length - p ≤ 1000 := by omega
        have hll2 : ¬ ((k.length - p : Nat) : Int) - s < 0 := by omega
        have HPS : Hid (p + s ≤ k.length) := Lib.hid (by omega)
        have HPM : Hid (p + s + 0 ≤ k.length) := Lib.hid (by omega)
        clear hd hll hm hkd hsl
        go_enter Tryd.func67, Tryd.ntmps67
        go_wp2_with fail
        refine (left_any g A c F k p 0 0 _ H.out).mono ?_
        rintro e w1 ⟨X, C, rfl, hrd, q, rfl⟩
        have HR := Lib.hid (hrd.belowAll (below_dn (Below.refl _ w) q))
        clear hrd
        go_wp2_with fail
        refine (parse_any X _ C (k.drop p) F _ HR.out (by omega)).mono ?_
        rintro e w1 ⟨rfl, rfl⟩
        rw [HD.out]
        go_wp2_with fail
        refine (left_any g A c F k p 0 0 _ (H.out.drewN q)).mono ?_
        rintro e w1 ⟨X2, C2, rfl, _, q2, rfl⟩
        generalize k.length - p = L at *
        go_wp2_with fail
        refine (take_any g A c F k p s _ (H.out.drewN (q + q2)) HPS.out).mono ?_
        rintro e w2 ⟨A1, c1, rfl, _, hto⟩
        have HT := Lib.hid (hto.after ((Only.refl _ w).drewN (q + q2)))
        clear hto
        go_wp2_with fail
        refine (take_any g A c F k (p + s) 0 _ HT.out.mr HPM.out).mono ?_
        rintro e w3 ⟨A3, c3, rfl, ho, hto⟩
        have HM := Lib.hid (⟨A3, c3, rfl, ho, hto⟩ : Mtook w2 g A c F k ((k.drop (p + s)).take 0) (p + s + 0) (.returned (.slice A3 ((k.drop (p + s)).take 0).length c3)) w3)
        clear ho hto
        generalize (k.drop (p + s)).take 0 = x at *
        go_wp2_with fail
        go_ret
        exact mdid_took HM.out HT.out.only HE.out
  · cases hd : dec (k.drop p) with
    | none =>
      have HE := Lib.hid (show rbytes k p most = ([], p, 2) by unfold rbytes; rw [hd])
      have HD := Lib.hid hd
      clear hd
      go_enter Tryd.func67, Tryd.ntmps67
      go_wp2_with fail
      refine (left_any g A c F k p 0 0 _ H.out).mono ?_
      rintro e w1 ⟨X, C, rfl, hrd, q, rfl⟩
      have HR := Lib.hid (hrd.belowAll (below_dn (Below.refl _ w) q))
      clear hrd
      go_wp2_with fail
      refine (parse_any X _ C (k.drop p) F _ HR.out (by omega)).mono ?_
      rintro e w1 ⟨rfl, rfl⟩
      rw [HD.out]
      go_wp2_with fail
      refine (mfail_any g A c F k p 2 _ (H.out.drewN q)).mono ?_
      rintro e w2 ⟨rfl, hto⟩
      have HT := Lib.hid (hto.after ((Only.refl _ w).drewN q))
      clear hto
      go_wp2_with fail
      go_ret
      exact mdid_err HT.out HE.out
    | some r =>
      obtain ⟨m, s⟩ := r
      have hs1 := (enc_dec hd).2.2.1
      have hs0 : (((s : Nat) : Int) == 0) = false := beq_eq_false_iff_ne.2 (by omega)
      have hsl := (enc_dec hd).2.1
      have hml := (enc_dec hd).1
      have HD := Lib.hid hd
      by_cases hm : (max most 0).toNat < m
      · have HE := Lib.hid (show rbytes k p most = ([], p, 3) by unfold rbytes; rw [hd]; simp only [if_pos hm])
        have hm2 : most < m := by omega
        clear hd
        go_enter Tryd.func67, Tryd.ntmps67
        go_wp2_with fail
        refine (left_any g A c F k p 0 0 _ H.out).mono ?_
        rintro e w1 ⟨X, C, rfl, hrd, q, rfl⟩
        have HR := Lib.hid (hrd.belowAll (below_dn (Below.refl _ w) q))
        clear hrd
        go_wp2_with fail
        refine (parse_any X _ C (k.drop p) F _ HR.out (by omega)).mono ?_
        rintro e w1 ⟨rfl, rfl⟩
        rw [HD.out]
        go_wp2_with fail
        refine (mfail_any g A c F k p 3 _ (H.out.drewN q)).mono ?_
        rintro e w2 ⟨rfl, hto⟩
        have HT := Lib.hid (hto.after ((Only.refl _ w).drewN q))
        clear hto
        go_wp2_with fail
        go_ret
        exact mdid_err HT.out HE.out
      · have hm2 : ¬ most < m := by omega
        by_cases hll : (k.drop p).length - s < m
        · have HE := Lib.hid (show rbytes k p most = ([], p, 2) by unfold rbytes; rw [hd]; simp only [if_neg hm, if_pos hll])
          have hsL : s ≤ k.length - p := by omega
          have hL : k.length - p ≤ 1000 := by omega
          have hll2 : ((k.length - p : Nat) : Int) - s < m := by omega
          clear hd hll hm hkd hsl
          go_enter Tryd.func67, Tryd.ntmps67
          go_wp2_with fail
          refine (left_any g A c F k p 0 0 _ H.out).mono ?_
          rintro e w1 ⟨X, C, rfl, hrd, q, rfl⟩
          have HR := Lib.hid (hrd.belowAll (below_dn (Below.refl _ w) q))
          clear hrd
          go_wp2_with fail
          refine (parse_any X _ C (k.drop p) F _ HR.out (by omega)).mono ?_
          rintro e w1 ⟨rfl, rfl⟩
          rw [HD.out]
          go_wp2_with fail
          refine (left_any g A c F k p 0 0 _ (H.out.drewN q)).mono ?_
          rintro e w1 ⟨X2, C2, rfl, _, q2, rfl⟩
          generalize k.length - p = L at *
          go_wp2_with fail
          refine (mfail_any g A c F k p 2 _ (H.out.drewN (q + q2))).mono ?_
          rintro e w2 ⟨rfl, hto⟩
          have HT := Lib.hid (hto.after ((Only.refl _ w).drewN (q + q2)))
          clear hto
          go_wp2_with fail
          go_ret
          exact mdid_err HT.out HE.out
        · have HE := Lib.hid (show rbytes k p most = ((k.drop (p + s)).take m, p + s + m, 0) by unfold rbytes; rw [hd]; simp only [if_neg hm, if_neg hll]; rw [List.drop_drop, Nat.add_assoc])
          have hsL : s ≤ k.length - p := by omega
          have hL : k.length - p ≤ 1000 := by omega
          have hll2 : ¬ ((k.length - p : Nat) : Int) - s < m := by omega
          have HPS : Hid (p + s ≤ k.length) := Lib.hid (by omega)
          have HPM : Hid (p + s + m ≤ k.length) := Lib.hid (by omega)
          have hm1000 : m ≤ 1000 := by omega
          clear hd hll hm hkd hsl
          go_enter Tryd.func67, Tryd.ntmps67
          go_wp2_with fail
          refine (left_any g A c F k p 0 0 _ H.out).mono ?_
          rintro e w1 ⟨X, C, rfl, hrd, q, rfl⟩
          have HR := Lib.hid (hrd.belowAll (below_dn (Below.refl _ w) q))
          clear hrd
          go_wp2_with fail
          refine (parse_any X _ C (k.drop p) F _ HR.out (by omega)).mono ?_
          rintro e w1 ⟨rfl, rfl⟩
          rw [HD.out]
          go_wp2_with fail
          refine (left_any g A c F k p 0 0 _ (H.out.drewN q)).mono ?_
          rintro e w1 ⟨X2, C2, rfl, _, q2, rfl⟩
          generalize k.length - p = L at *
          go_wp2_with fail
          refine (take_any g A c F k p s _ (H.out.drewN (q + q2)) HPS.out).mono ?_
          rintro e w2 ⟨A1, c1, rfl, _, hto⟩
          have HT := Lib.hid (hto.after ((Only.refl _ w).drewN (q + q2)))
          clear hto
          go_wp2_with fail
          refine (take_any g A c F k (p + s) m _ HT.out.mr HPM.out).mono ?_
          rintro e w3 ⟨A3, c3, rfl, ho, hto⟩
          have HM := Lib.hid (⟨A3, c3, rfl, ho, hto⟩ : Mtook w2 g A c F k ((k.drop (p + s)).take m) (p + s + m) (.returned (.slice A3 ((k.drop (p + s)).take m).length c3)) w3)
          clear ho hto
          generalize (k.drop (p + s)).take m = x at *
          go_wp2_with fail
          go_ret
          exact mdid_took HM.out HT.out.only HE.out

set_option maxHeartbeats 400000 in
theorem mraw_broken (n : Int) (code fa : Int) (h : Mr w g A c F k p code fa) (hc : code ≠ 0) :
    Calls Tryd.prog 69 #[.pointer (some ⟨g, 0, none⟩), .int .i64 n] w fun e w' => e = .returned (.slice none 0 0) ∧ w' = w := by
  have h2 := h.c2
  have q2 : (code == 0) = false := beq_eq_false_iff_ne.2 hc
  have q3 : (code != 0) = true := by rw [bne_iff_ne]; exact hc
  clear h hc
  by_cases h0 : n < 0
  · go_enter Tryd.func69, Tryd.ntmps69
    go_wp2_with fail
    go_ret
    exact ⟨rfl, rfl⟩
  · go_enter Tryd.func69, Tryd.ntmps69
    go_wp2_with fail
    go_ret
    exact ⟨rfl, rfl⟩

set_option maxHeartbeats 800000 in
theorem mraw_ok (n : Int) (h : Mr w g A c F k p 0 0) :
    Calls Tryd.prog 69 #[.pointer (some ⟨g, 0, none⟩), .int .i64 n] w (MDid w g A c F k (rraw k p n)) := by
  have h2 := h.c2
  have hle := h.le
  have hsm := h.small
  have hkd : (k.drop p).length = k.length - p := List.length_drop
  have H := Lib.hid h
  clear h
  by_cases h0 : n < 0
  · have HE := Lib.hid (show rraw k p n = ((k.drop p).take 0, p + 0, 0) by unfold rraw; rw [if_neg (by omega), show n.toNat = 0 by omega])
    have hL : k.length - p ≤ 1000 := by omega
    have HPN : Hid (p + 0 ≤ k.length) := Lib.hid (by omega)
    clear hkd
    go_enter Tryd.func69, Tryd.ntmps69
    go_wp2_with fail
    refine (left_any g A c F k p 0 0 _ H.out).mono ?_
    rintro e w1 ⟨X, C, rfl, _, q, rfl⟩
    generalize k.length - p = L at *
    go_wp2_with fail
    refine (take_any g A c F k p 0 _ (H.out.drewN q) HPN.out).mono ?_
    rintro e w3 ⟨A3, c3, rfl, ho, hto⟩
    have HM := Lib.hid (⟨A3, c3, rfl, ho, hto⟩ : Mtook (w.drewN q) g A c F k ((k.drop p).take 0) (p + 0) (.returned (.slice A3 ((k.drop p).take 0).length c3)) w3)
    clear ho hto
    generalize (k.drop p).take 0 = x at *
    go_wp2_with fail
    go_ret
    exact mdid_took HM.out ((Only.refl _ w).drewN q) HE.out
  · obtain ⟨m, rfl⟩ := Int.eq_ofNat_of_zero_le (by omega : 0 ≤ n)
    have hL : k.length - p ≤ 1000 := by omega
    by_cases hlt : k.length - p < m
    · have HE := Lib.hid (show rraw k p (m : Int) = ([], p, 2) by unfold rraw; rw [if_pos (by omega)])
      have hlt2 : ((k.length - p : Nat) : Int) < m := by omega
      clear hkd
      go_enter Tryd.func69, Tryd.ntmps69
      go_wp2_with fail
      refine (left_any g A c F k p 0 0 _ H.out).mono ?_
      rintro e w1 ⟨X, C, rfl, _, q, rfl⟩
      generalize k.length - p = L at *
      go_wp2_with fail
      refine (mfail_any g A c F k p 2 _ (H.out.drewN q)).mono ?_
      rintro e w2 ⟨rfl, hto⟩
      have c2 := hto.mr.c2
      have HT := Lib.hid (hto.after ((Only.refl _ w).drewN q))
      clear hto
      go_wp2_with fail
      go_ret
      exact mdid_err HT.out HE.out
    · have HE := Lib.hid (show rraw k p (m : Int) = ((k.drop p).take m, p + m, 0) by unfold rraw; rw [if_neg (by omega), Int.toNat_natCast])
      have hlt2 : ¬ ((k.length - p : Nat) : Int) < m := by omega
      have HPN : Hid (p + m ≤ k.length) := Lib.hid (by omega)
      clear hkd
      go_enter Tryd.func69, Tryd.ntmps69
      go_wp2_with fail
      refine (left_any g A c F k p 0 0 _ H.out).mono ?_
      rintro e w1 ⟨X, C, rfl, _, q, rfl⟩
      generalize k.length - p = L at *
      go_wp2_with fail
      refine (take_any g A c F k p m _ (H.out.drewN q) HPN.out).mono ?_
      rintro e w3 ⟨A3, c3, rfl, ho, hto⟩
      have HM := Lib.hid (⟨A3, c3, rfl, ho, hto⟩ : Mtook (w.drewN q) g A c F k ((k.drop p).take m) (p + m) (.returned (.slice A3 ((k.drop p).take m).length c3)) w3)
      clear ho hto
      generalize (k.drop p).take m = x at *
      go_wp2_with fail
      go_ret
      exact mdid_took HM.out ((Only.refl _ w).drewN q) HE.out

set_option maxHeartbeats 400000 in
theorem mend_broken (code fa : Int) (h : Mr w g A c F k p code fa) (hc : code ≠ 0) :
    Calls Tryd.prog 31 #[.pointer (some ⟨g, 0, none⟩)] w fun e w' => e = .returned (.tuple #[.int .i64 code, .int .i64 fa]) ∧ ∃ q, w' = w.drewN q := by
  have h2 := h.c2
  have h3 := h.c3
  have q2 : (code == 0) = false := beq_eq_false_iff_ne.2 hc
  clear h hc
  go_enter Tryd.func31, Tryd.ntmps31
  go_wp2_with fail
  go_quiet (fail)
  go_wp2_with fail
  go_ret2
  exact ⟨rfl, _, rfl⟩

set_option maxHeartbeats 400000 in
theorem mend_left (h : Mr w g A c F k p 0 0) (hp : p < k.length) :
    Calls Tryd.prog 31 #[.pointer (some ⟨g, 0, none⟩)] w fun e w' => e = .returned (.tuple #[.int .i64 2, .int .i64 p]) ∧ ∃ q, w' = w.drewN q := by
  have h1 := h.c1
  have h2 := h.c2
  have H := Lib.hid h
  have hL : (0 : Int) < (k.length - p : Nat) := by omega
  clear h
  go_enter Tryd.func31, Tryd.ntmps31
  go_wp2_with fail
  refine (left_any g A c F k p 0 0 _ H.out).mono ?_
  rintro e w1 ⟨X, C, rfl, _, q, rfl⟩
  generalize k.length - p = L at *
  go_wp2_with fail
  go_quiet (fail)
  go_wp2_with fail
  go_ret2
  exact ⟨rfl, _, World.drewN_drewN _ _ _⟩

set_option maxHeartbeats 400000 in
theorem mend_ok (h : Mr w g A c F k k.length 0 0) :
    Calls Tryd.prog 31 #[.pointer (some ⟨g, 0, none⟩)] w fun e w' => e = .returned (.tuple #[.int .i64 0, .int .i64 0]) ∧ ∃ q, w' = w.drewN q := by
  have h2 := h.c2
  have h3 := h.c3
  have H := Lib.hid h
  have HL := Lib.hid (Nat.sub_self k.length)
  clear h
  go_enter Tryd.func31, Tryd.ntmps31
  go_wp2_with fail
  refine (left_any g A c F k k.length 0 0 _ H.out).mono ?_
  rintro e w1 ⟨X, C, rfl, _, q, rfl⟩
  rw [HL.out]
  go_wp2_with fail
  go_quiet (fail)
  go_wp2_with fail
  go_ret2
  exact ⟨rfl, _, World.drewN_drewN _ _ _⟩
end

end Go.Proofs.YtaekepejeokciaaDoor
