/- What a reader's other calls come to, whatever its bytes are. -/
import Derived.Test.YtaekepejeokciaaDoorEnd
import Derived.Test.YtaekepejeokciaaDoorText
namespace Go.Proofs.YtaekepejeokciaaDoor
set_option maxRecDepth 100000
open Go.RowKit

/-- What reading comes to: a byte, a bool, bytes after their number, raw bytes: each with the place behind it, and what breaks the reader. -/
def rbyte (k : List UInt8) (p : Nat) : UInt8 × Nat × Int := match k[p]? with | none => (0, p, 2) | some c => (c, p + 1, 0)
def rbool (k : List UInt8) (p : Nat) : Bool × Nat × Int := match k[p]? with | none => (false, p, 2) | some c => if 1 < c.toNat then (false, p, 2) else (c.toNat == 1, p + 1, 0)
def rbytes (k : List UInt8) (p : Nat) (most : Int) : List UInt8 × Nat × Int :=
  match dec (k.drop p) with
  | none => ([], p, 2)
  | some (n, s) => if (max most 0).toNat < n then ([], p, 3) else if (k.drop p).length - s < n then ([], p, 2) else (((k.drop p).drop s).take n, p + (s + n), 0)
def rraw (k : List UInt8) (p : Nat) (n : Int) : List UInt8 × Nat × Int :=
  if ((k.drop p).length : Int) < n then ([], p, 2) else ((k.drop p).take n.toNat, p + n.toNat, 0)

theorem drop_zero_at {k : List UInt8} {p : Nat} {x : Option UInt8} (h : (k.drop p)[0]? = x) : k[p]? = x := by rw [List.getElem?_drop] at h; simpa using h

set_option maxHeartbeats 400000 in
theorem byte1_none (A : Option Addr) (c : Nat) (w : World) :
    Calls Tryd.prog 72 #[.slice A 0 c] w fun e w' => e = .returned (.tuple #[.int .u8 0, .int .i64 0, .int .i64 2]) ∧ w' = w := by
  go_enter Tryd.func72, Tryd.ntmps72
  go_wp2_with fail
  go_ret3
  exact ⟨rfl, rfl⟩

set_option maxHeartbeats 400000 in
theorem byte1_some (A : Option Addr) (n c : Nat) (k : List UInt8) (F : Nat → Prop) (x : UInt8) (w : World) (hr : Rd w F A n (Bs k)) (hx : k[0]? = some x) :
    Calls Tryd.prog 72 #[.slice A n c] w fun e w' => e = .returned (.tuple #[.int .u8 x.toNat, .int .i64 1, .int .i64 0]) ∧ w' = w := by
  have h0 := (List.getElem?_eq_some_iff.1 hx).1
  have hn : 0 < n := by have := hr.len; omega
  obtain ⟨ad, y, rfl, _, hy, hc⟩ := hr.byte hn
  obtain rfl : y = x := by rw [hx] at hy; exact (Option.some.inj hy).symm
  have q0 : (((n : Nat) : Int) == 0) = false := beq_eq_false_iff_ne.2 (by omega)
  have hc' : w.cell? ad = some (.int .u8 y.toNat) := hc
  clear hr hx hy h0 hc
  go_enter Tryd.func72, Tryd.ntmps72
  go_wp2_with fail
  go_ret3
  exact ⟨rfl, rfl⟩

set_option maxHeartbeats 400000 in
theorem bool1_none (A : Option Addr) (c : Nat) (w : World) :
    Calls Tryd.prog 78 #[.slice A 0 c] w fun e w' => e = .returned (.tuple #[.bool false, .int .i64 0, .int .i64 2]) ∧ w' = w := by
  go_enter Tryd.func78, Tryd.ntmps78
  go_wp2_with fail
  go_ret3
  exact ⟨rfl, rfl⟩

set_option maxHeartbeats 400000 in
theorem bool1_over (A : Option Addr) (n c : Nat) (k : List UInt8) (F : Nat → Prop) (x : UInt8) (w : World) (hr : Rd w F A n (Bs k)) (hx : k[0]? = some x) (h1 : 1 < x.toNat) :
    Calls Tryd.prog 78 #[.slice A n c] w fun e w' => e = .returned (.tuple #[.bool false, .int .i64 0, .int .i64 2]) ∧ w' = w := by
  have h0 := (List.getElem?_eq_some_iff.1 hx).1
  have hn : 0 < n := by have := hr.len; omega
  obtain ⟨ad, y, rfl, _, hy, hc⟩ := hr.byte hn
  obtain rfl : y = x := by rw [hx] at hy; exact (Option.some.inj hy).symm
  have q0 : (((n : Nat) : Int) == 0) = false := beq_eq_false_iff_ne.2 (by omega)
  have hc' : w.cell? ad = some (.int .u8 y.toNat) := hc
  have q1 : (1 : Int) < y.toNat := by omega
  clear hr hx hy h0 hc
  go_enter Tryd.func78, Tryd.ntmps78
  go_wp2_with fail
  go_ret3
  exact ⟨rfl, rfl⟩

set_option maxHeartbeats 400000 in
theorem bool1_some (A : Option Addr) (n c : Nat) (k : List UInt8) (F : Nat → Prop) (x : UInt8) (w : World) (hr : Rd w F A n (Bs k)) (hx : k[0]? = some x) (h1 : ¬ 1 < x.toNat) :
    Calls Tryd.prog 78 #[.slice A n c] w fun e w' => e = .returned (.tuple #[.bool (x.toNat == 1), .int .i64 1, .int .i64 0]) ∧ w' = w := by
  have h0 := (List.getElem?_eq_some_iff.1 hx).1
  have hn : 0 < n := by have := hr.len; omega
  obtain ⟨ad, y, rfl, _, hy, hc⟩ := hr.byte hn
  obtain rfl : y = x := by rw [hx] at hy; exact (Option.some.inj hy).symm
  have q0 : (((n : Nat) : Int) == 0) = false := beq_eq_false_iff_ne.2 (by omega)
  have hc' : w.cell? ad = some (.int .u8 y.toNat) := hc
  have q1 : ¬ (1 : Int) < y.toNat := by omega
  have hb : (((y.toNat : Nat) : Int) == 1) = (y.toNat == 1) := by rw [Bool.eq_iff_iff]; simp only [beq_iff_eq]; omega
  have HB := Lib.hid hb
  clear hr hx hy h0 hc hb
  go_enter Tryd.func78, Tryd.ntmps78
  go_wp2_with fail
  go_ret3
  exact ⟨by rw [← HB.out]; rfl, rfl⟩

theorem byte1_cases (A : Option Addr) (n c : Nat) (k : List UInt8) (F : Nat → Prop) (w : World) (hr : Rd w F A n (Bs k)) :
    ∃ (m : UInt8) (s : Nat) (d : Int), (∀ i, Calls Tryd.prog 72 #[.slice A n c] (w.drewN i) fun e w' => e = .returned (.tuple #[.int .u8 m.toNat, .int .i64 s, .int .i64 d]) ∧ w' = w.drewN i) ∧ (d = 0 ∧ s ≤ k.length ∧ (∀ p l, k = l.drop p → rbyte l p = (m, p + s, 0)) ∨ ((d != 0) = true ∧ (∀ p l, k = l.drop p → rbyte l p = (0, p, d)))) := by
  obtain rfl : n = k.length := hr.len.symm
  cases hx : k[0]? with
  | none =>
    have hk : k.length = 0 := by simpa using hx
    refine ⟨0, 0, 2, fun i => by rw [hk]; exact byte1_none A c _, .inr ⟨rfl, fun p l e => ?_⟩⟩
    rw [e] at hx
    unfold rbyte; rw [drop_zero_at hx]
  | some x =>
    have h0 := (List.getElem?_eq_some_iff.1 hx).1
    refine ⟨x, 1, 0, fun i => byte1_some A _ c k F x _ hr hx, .inl ⟨rfl, by omega, fun p l e => ?_⟩⟩
    rw [e] at hx
    unfold rbyte; rw [drop_zero_at hx]

theorem bool1_cases (A : Option Addr) (n c : Nat) (k : List UInt8) (F : Nat → Prop) (w : World) (hr : Rd w F A n (Bs k)) :
    ∃ (m : Bool) (s : Nat) (d : Int), (∀ i, Calls Tryd.prog 78 #[.slice A n c] (w.drewN i) fun e w' => e = .returned (.tuple #[.bool m, .int .i64 s, .int .i64 d]) ∧ w' = w.drewN i) ∧ (d = 0 ∧ s ≤ k.length ∧ (∀ p l, k = l.drop p → rbool l p = (m, p + s, 0)) ∨ ((d != 0) = true ∧ (∀ p l, k = l.drop p → rbool l p = (false, p, d)))) := by
  obtain rfl : n = k.length := hr.len.symm
  cases hx : k[0]? with
  | none =>
    have hk : k.length = 0 := by simpa using hx
    refine ⟨false, 0, 2, fun i => by rw [hk]; exact bool1_none A c _, .inr ⟨rfl, fun p l e => ?_⟩⟩
    rw [e] at hx
    unfold rbool; rw [drop_zero_at hx]
  | some x =>
    have h0 := (List.getElem?_eq_some_iff.1 hx).1
    by_cases h1 : 1 < x.toNat
    · refine ⟨false, 0, 2, fun i => bool1_over A _ c k F x _ hr hx h1, .inr ⟨rfl, fun p l e => ?_⟩⟩
      rw [e] at hx
      unfold rbool; rw [drop_zero_at hx]; simp [h1]
    · refine ⟨x.toNat == 1, 1, 0, fun i => bool1_some A _ c k F x _ hr hx h1, .inl ⟨rfl, by omega, fun p l e => ?_⟩⟩
      rw [e] at hx
      unfold rbool; rw [drop_zero_at hx]; simp [h1]

set_option maxHeartbeats 400000 in
theorem fbyte_broken (g : Nat) (A : Option Addr) (c : Nat) (F : Nat → Prop) (k : List UInt8) (p : Nat) (code : Int) (f : Value) (w : World) (h : Rr w g A c F k p code) (hc : code ≠ 0) :
    Calls Tryd.prog 71 #[.pointer (some ⟨g, 0, none⟩), f] w fun e w' => e = .returned (.int .u8 0) ∧ w = w' := by
  have h2 := h.c2
  have q2 : (code != 0) = true := by rw [bne_iff_ne]; exact hc
  clear h hc
  go_enter Tryd.func71, Tryd.ntmps71
  go_wp2_with fail
  go_ret
  exact ⟨rfl, rfl⟩

set_option maxHeartbeats 800000 in
theorem fbyte_read (g : Nat) (A : Option Addr) (c : Nat) (F : Nat → Prop) (k : List UInt8) (p : Nat) (w : World) (h : Rr w g A c F k p 0) :
    Calls Tryd.prog 71 #[.pointer (some ⟨g, 0, none⟩), .func (.func 72) #[] #[]] w fun e w' => e = .returned (.int .u8 (rbyte k p).1.toNat) ∧ Readto w w' g A c F k (rbyte k p).2.1 (rbyte k p).2.2 := by
  have h0 := h.c0
  have h1 := h.c1
  have h2 := h.c2
  have hcap := h.cap
  have htop := h.top
  have hle := h.le
  unfold maxLen at htop
  have hsm := h.small
  have hsl : k.length - p ≤ 140737488355328 := by omega
  have f1 := h.f 1
  have f2 := h.f 2
  have hkd : (k.drop p).length = k.length - p := List.length_drop
  rcases h.left_cases with ⟨hcp, hl⟩ | ⟨hcp, hl⟩
  · obtain ⟨m, s, d, hcall, hres⟩ := byte1_cases _ _ 0 _ F w hl
    have H := Lib.hid h
    have HKD := Lib.hid hkd
    clear h hkd hl
    rcases hres with ⟨rfl, hs, hres⟩ | ⟨hd, hres⟩
    · rw [HKD.out] at hs
      have HE := Lib.hid (hres p k rfl)
      have HC := Lib.hid hcall
      clear hres hcall
      have hps : p + s ≤ 140737488355328 := by omega
      go_enter Tryd.func71, Tryd.ntmps71
      go_wp2_with fail
      go_quiet ((go_at_call 72; exact Calls.quiet_of_same (HC.out _)))
      go_wp2_with fail
      go_ret
      rw [HE.out]
      exact ⟨rfl, H.out.took _ (by omega) (by omega)⟩
    · have HE := Lib.hid (hres p k rfl)
      have HC := Lib.hid hcall
      clear hres hcall
      go_enter Tryd.func71, Tryd.ntmps71
      go_wp2_with fail
      go_quiet ((go_at_call 72; exact Calls.quiet_of_same (HC.out _)))
      go_wp2_with fail
      refine (fail_any g A c F k p d _ (H.out.drewN _)).mono ?_
      rintro e w' ⟨rfl, rfl⟩
      go_wp2_with fail
      go_ret
      rw [HE.out]
      exact ⟨rfl, H.out.fell _ _⟩
  · obtain ⟨m, s, d, hcall, hres⟩ := byte1_cases _ _ (c - p) _ F w hl
    have H := Lib.hid h
    have HKD := Lib.hid hkd
    clear h hkd hl
    rcases hres with ⟨rfl, hs, hres⟩ | ⟨hd, hres⟩
    · rw [HKD.out] at hs
      have HE := Lib.hid (hres p k rfl)
      have HC := Lib.hid hcall
      clear hres hcall
      have hps : p + s ≤ 140737488355328 := by omega
      go_enter Tryd.func71, Tryd.ntmps71
      go_wp2_with fail
      go_quiet ((go_at_call 72; exact Calls.quiet_of_same (HC.out _)))
      go_wp2_with fail
      go_ret
      rw [HE.out]
      exact ⟨rfl, H.out.took _ (by omega) (by omega)⟩
    · have HE := Lib.hid (hres p k rfl)
      have HC := Lib.hid hcall
      clear hres hcall
      go_enter Tryd.func71, Tryd.ntmps71
      go_wp2_with fail
      go_quiet ((go_at_call 72; exact Calls.quiet_of_same (HC.out _)))
      go_wp2_with fail
      refine (fail_any g A c F k p d _ (H.out.drewN _)).mono ?_
      rintro e w' ⟨rfl, rfl⟩
      go_wp2_with fail
      go_ret
      rw [HE.out]
      exact ⟨rfl, H.out.fell _ _⟩

set_option maxHeartbeats 400000 in
theorem fbool_broken (g : Nat) (A : Option Addr) (c : Nat) (F : Nat → Prop) (k : List UInt8) (p : Nat) (code : Int) (f : Value) (w : World) (h : Rr w g A c F k p code) (hc : code ≠ 0) :
    Calls Tryd.prog 77 #[.pointer (some ⟨g, 0, none⟩), f] w fun e w' => e = .returned (.bool false) ∧ w = w' := by
  have h2 := h.c2
  have q2 : (code != 0) = true := by rw [bne_iff_ne]; exact hc
  clear h hc
  go_enter Tryd.func77, Tryd.ntmps77
  go_wp2_with fail
  go_ret
  exact ⟨rfl, rfl⟩

set_option maxHeartbeats 800000 in
theorem fbool_read (g : Nat) (A : Option Addr) (c : Nat) (F : Nat → Prop) (k : List UInt8) (p : Nat) (w : World) (h : Rr w g A c F k p 0) :
    Calls Tryd.prog 77 #[.pointer (some ⟨g, 0, none⟩), .func (.func 78) #[] #[]] w fun e w' => e = .returned (.bool (rbool k p).1) ∧ Readto w w' g A c F k (rbool k p).2.1 (rbool k p).2.2 := by
  have h0 := h.c0
  have h1 := h.c1
  have h2 := h.c2
  have hcap := h.cap
  have htop := h.top
  have hle := h.le
  unfold maxLen at htop
  have hsm := h.small
  have hsl : k.length - p ≤ 140737488355328 := by omega
  have f1 := h.f 1
  have f2 := h.f 2
  have hkd : (k.drop p).length = k.length - p := List.length_drop
  rcases h.left_cases with ⟨hcp, hl⟩ | ⟨hcp, hl⟩
  · obtain ⟨m, s, d, hcall, hres⟩ := bool1_cases _ _ 0 _ F w hl
    have H := Lib.hid h
    have HKD := Lib.hid hkd
    clear h hkd hl
    rcases hres with ⟨rfl, hs, hres⟩ | ⟨hd, hres⟩
    · rw [HKD.out] at hs
      have HE := Lib.hid (hres p k rfl)
      have HC := Lib.hid hcall
      clear hres hcall
      have hps : p + s ≤ 140737488355328 := by omega
      go_enter Tryd.func77, Tryd.ntmps77
      go_wp2_with fail
      go_quiet ((go_at_call 78; exact Calls.quiet_of_same (HC.out _)))
      go_wp2_with fail
      go_ret
      rw [HE.out]
      exact ⟨rfl, H.out.took _ (by omega) (by omega)⟩
    · have HE := Lib.hid (hres p k rfl)
      have HC := Lib.hid hcall
      clear hres hcall
      go_enter Tryd.func77, Tryd.ntmps77
      go_wp2_with fail
      go_quiet ((go_at_call 78; exact Calls.quiet_of_same (HC.out _)))
      go_wp2_with fail
      refine (fail_any g A c F k p d _ (H.out.drewN _)).mono ?_
      rintro e w' ⟨rfl, rfl⟩
      go_wp2_with fail
      go_ret
      rw [HE.out]
      exact ⟨rfl, H.out.fell _ _⟩
  · obtain ⟨m, s, d, hcall, hres⟩ := bool1_cases _ _ (c - p) _ F w hl
    have H := Lib.hid h
    have HKD := Lib.hid hkd
    clear h hkd hl
    rcases hres with ⟨rfl, hs, hres⟩ | ⟨hd, hres⟩
    · rw [HKD.out] at hs
      have HE := Lib.hid (hres p k rfl)
      have HC := Lib.hid hcall
      clear hres hcall
      have hps : p + s ≤ 140737488355328 := by omega
      go_enter Tryd.func77, Tryd.ntmps77
      go_wp2_with fail
      go_quiet ((go_at_call 78; exact Calls.quiet_of_same (HC.out _)))
      go_wp2_with fail
      go_ret
      rw [HE.out]
      exact ⟨rfl, H.out.took _ (by omega) (by omega)⟩
    · have HE := Lib.hid (hres p k rfl)
      have HC := Lib.hid hcall
      clear hres hcall
      go_enter Tryd.func77, Tryd.ntmps77
      go_wp2_with fail
      go_quiet ((go_at_call 78; exact Calls.quiet_of_same (HC.out _)))
      go_wp2_with fail
      refine (fail_any g A c F k p d _ (H.out.drewN _)).mono ?_
      rintro e w' ⟨rfl, rfl⟩
      go_wp2_with fail
      go_ret
      rw [HE.out]
      exact ⟨rfl, H.out.fell _ _⟩

set_option maxHeartbeats 400000 in
theorem rbyte_ok (g : Nat) (A : Option Addr) (c : Nat) (F : Nat → Prop) (k : List UInt8) (p : Nat) (w : World) (h : Rr w g A c F k p 0) :
    Calls Tryd.prog 34 #[.pointer (some ⟨g, 0, none⟩)] w fun e w' => e = .returned (.int .u8 (rbyte k p).1.toNat) ∧ Readto w w' g A c F k (rbyte k p).2.1 (rbyte k p).2.2 := by
  have H := Lib.hid h
  clear h
  go_enter Tryd.func34, Tryd.ntmps34
  go_wp2_with fail
  refine (fbyte_read g A c F k p _ H.out).mono ?_
  rintro e w' ⟨rfl, hr⟩
  have HR := Lib.hid hr
  clear hr
  go_wp2_with fail
  go_ret
  exact ⟨rfl, HR.out⟩

set_option maxHeartbeats 400000 in
theorem rbyte_broken (g : Nat) (A : Option Addr) (c : Nat) (F : Nat → Prop) (k : List UInt8) (p : Nat) (code : Int) (w : World) (h : Rr w g A c F k p code) (hc : code ≠ 0) :
    Calls Tryd.prog 34 #[.pointer (some ⟨g, 0, none⟩)] w fun e w' => e = .returned (.int .u8 0) ∧ Below w.heap.size w w' := by
  have H := Lib.hid h
  clear h
  go_enter Tryd.func34, Tryd.ntmps34
  go_wp2_with fail
  refine (fbyte_broken g A c F k p code _ _ H.out hc).mono ?_
  rintro e w' ⟨rfl, rfl⟩
  go_wp2_with fail
  go_ret
  exact ⟨rfl, Below.refl _ _⟩

set_option maxHeartbeats 400000 in
theorem rbool_ok (g : Nat) (A : Option Addr) (c : Nat) (F : Nat → Prop) (k : List UInt8) (p : Nat) (w : World) (h : Rr w g A c F k p 0) :
    Calls Tryd.prog 37 #[.pointer (some ⟨g, 0, none⟩)] w fun e w' => e = .returned (.bool (rbool k p).1) ∧ Readto w w' g A c F k (rbool k p).2.1 (rbool k p).2.2 := by
  have H := Lib.hid h
  clear h
  go_enter Tryd.func37, Tryd.ntmps37
  go_wp2_with fail
  refine (fbool_read g A c F k p _ H.out).mono ?_
  rintro e w' ⟨rfl, hr⟩
  have HR := Lib.hid hr
  clear hr
  go_wp2_with fail
  go_ret
  exact ⟨rfl, HR.out⟩

set_option maxHeartbeats 400000 in
theorem rbool_broken (g : Nat) (A : Option Addr) (c : Nat) (F : Nat → Prop) (k : List UInt8) (p : Nat) (code : Int) (w : World) (h : Rr w g A c F k p code) (hc : code ≠ 0) :
    Calls Tryd.prog 37 #[.pointer (some ⟨g, 0, none⟩)] w fun e w' => e = .returned (.bool false) ∧ Below w.heap.size w w' := by
  have H := Lib.hid h
  clear h
  go_enter Tryd.func37, Tryd.ntmps37
  go_wp2_with fail
  refine (fbool_broken g A c F k p code _ _ H.out hc).mono ?_
  rintro e w' ⟨rfl, rfl⟩
  go_wp2_with fail
  go_ret
  exact ⟨rfl, Below.refl _ _⟩

end Go.Proofs.YtaekepejeokciaaDoor
