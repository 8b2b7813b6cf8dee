/- What a reader tells of its error and of its end, how one is made, and what a writer tells; for any bytes up to 2^47. What a reader's other calls come to, whatever its bytes are. What reading bytes comes to, whatever the reader's bytes are. What a reader's calls for bytes, raw bytes, texts and signed numbers come to, whatever its bytes are. -/
import Derived.Test.YtmiadkhfjkaidaaGreatDoorMg9
import Derived.StillTailTactics
import Derived.Test.YtmiadkhfjkaidaaGreatDoorMg8
import Derived.Deep.RegionHeld3
namespace Go.Proofs.YtmiadkhfjkaidaaGreatDoor
section
open Go.RowKit

/-- An error: the number code, in the place p alone. -/
def Flt (w : World) (v : Value) (p : Int) (code : Int) : Prop :=
  ∃ h, v = .iface 178 (.pointer (some ⟨h, 0, none⟩)) ∧ w.heap[h]? = some (.cells #[.int .i64 p, .iface 50 (.int .i64 code)] 180 (0, 0))

set_option maxHeartbeats 400000 in
theorem wrap_some (T : TypeId) (x : Value) (p : Int) (w : World) :
    Calls Tryz.prog 91 #[.iface T x, .int .i64 p] w fun e w' => e = .returned (.iface 178 (.pointer (some ⟨w.heap.size, 0, none⟩))) ∧ w' = w.alloc (.cells #[.int .i64 p, .iface T x] 180) := by
  go_enter Tryz.func91, Tryz.ntmps91
  go_wp2_with fail
  go_ret
  exact ⟨rfl, rfl⟩

set_option maxHeartbeats 400000 in
theorem err_none (g : Nat) (A : Option Addr) (c : Nat) (F : Nat → Prop) (k : List UInt8) (p : Nat) (w : World) (h : Rr w g A c F k p 0) :
    Calls Tryz.prog 64 #[.pointer (some ⟨g, 0, none⟩)] w fun e w' => e = .returned .nilIface ∧ w' = w := by
  have h2 := h.c2
  clear h
  go_enter Tryz.func64, Tryz.ntmps64
  go_wp2_with fail
  go_ret
  exact ⟨rfl, rfl⟩

set_option maxRecDepth 100000 in
set_option maxHeartbeats 400000 in
theorem err_some (g : Nat) (A : Option Addr) (c : Nat) (F : Nat → Prop) (k : List UInt8) (p : Nat) (code : Int) (w : World) (h : Rr w g A c F k p code) (hc : code ≠ 0) :
    Calls Tryz.prog 64 #[.pointer (some ⟨g, 0, none⟩)] w fun e w' => ∃ v, e = .returned v ∧ Flt w' v p code ∧ Below w.heap.size w w' := by
  have h1 := h.c1
  have h2 := h.c2
  have q2 : (code == 0) = false := beq_eq_false_iff_ne.2 hc
  have HC := Lib.hid hc
  clear h hc
  go_enter Tryz.func64, Tryz.ntmps64
  go_wp2_with fail
  go_still_tail 9, (by kernel_rfl)
  go_wp2_with fail
  refine (wrap_some _ _ _ _).mono ?_
  rintro e w' ⟨rfl, rfl⟩
  go_wp2_with fail
  go_ret
  exact ⟨_, rfl, ⟨w.heap.size, rfl, heap_alloc_new w _⟩, ((Below.refl _ _).alloc (Nat.le_refl _) _).drew⟩

set_option maxHeartbeats 400000 in
theorem end_ok (g : Nat) (A : Option Addr) (c : Nat) (F : Nat → Prop) (k : List UInt8) (w : World) (h : Rr w g A c F k k.length 0) :
    Calls Tryz.prog 58 #[.pointer (some ⟨g, 0, none⟩)] w fun e w' => e = .returned .nilIface ∧ ∃ q, w' = w.drewN q := by
  have h0 := h.c0
  have h1 := h.c1
  have H := Lib.hid h
  clear h
  go_enter Tryz.func58, Tryz.ntmps58
  go_wp2_with fail
  refine (err_none g A c F k k.length _ H.out).mono ?_
  rintro e w' ⟨rfl, rfl⟩
  go_wp2_with fail
  go_quiet (fail)
  go_wp2_with fail
  go_ret
  exact ⟨rfl, _, rfl⟩

set_option maxHeartbeats 400000 in
theorem end_left (g : Nat) (A : Option Addr) (c : Nat) (F : Nat → Prop) (k : List UInt8) (p : Nat) (w : World) (h : Rr w g A c F k p 0) (hp : p < k.length) :
    Calls Tryz.prog 58 #[.pointer (some ⟨g, 0, none⟩)] w fun e w' => ∃ v, e = .returned v ∧ Flt w' v p 2 ∧ Below w.heap.size w w' := by
  have h0 := h.c0
  have h1 := h.c1
  have H := Lib.hid h
  clear h
  have hp' : decide (p < k.length) = true := by simpa using hp
  go_enter Tryz.func58, Tryz.ntmps58
  go_wp2_with fail
  refine (err_none g A c F k p _ H.out).mono ?_
  rintro e w' ⟨rfl, rfl⟩
  go_wp2_with fail
  go_quiet (fail)
  go_wp2_with fail
  refine (wrap_some _ _ _ _).mono ?_
  rintro e w' ⟨rfl, rfl⟩
  go_wp2_with fail
  go_ret
  exact ⟨_, rfl, ⟨w'.heap.size, rfl, heap_alloc_new w' _⟩, below_drewN ((Below.refl _ _).alloc (Nat.le_refl _) _) _⟩

set_option maxHeartbeats 400000 in
theorem end_broken (g : Nat) (A : Option Addr) (c : Nat) (F : Nat → Prop) (k : List UInt8) (p : Nat) (code : Int) (w : World) (h : Rr w g A c F k p code) (hc : code ≠ 0) :
    Calls Tryz.prog 58 #[.pointer (some ⟨g, 0, none⟩)] w fun e w' => ∃ v, e = .returned v ∧ Flt w' v p code ∧ Below w.heap.size w w' := by
  have H := Lib.hid h
  clear h
  go_enter Tryz.func58, Tryz.ntmps58
  go_wp2_with fail
  refine (err_some g A c F k p code _ H.out hc).mono ?_
  rintro e w' ⟨v, rfl, ⟨b, rfl, hb⟩, hbel⟩
  go_wp2_with fail
  go_ret
  exact ⟨_, rfl, ⟨b, rfl, hb⟩, hbel⟩

set_option maxHeartbeats 400000 in
theorem new_any (A : Option Addr) (n c : Nat) (k : List UInt8) (F : Nat → Prop) (w : World) (hr : Rd w F A n (Bs k)) (hn : n ≤ 140737488355328) :
    Calls Tryz.prog 57 #[.slice A n c] w fun e w' => ∃ g A' c', e = .returned (.pointer (some ⟨g, 0, none⟩)) ∧ Rr w' g A' c' (fun j => w.heap.size ≤ j ∧ j < g) k 0 0 ∧ w.heap.size ≤ g ∧ Below w.heap.size w w' := by
  have HR := Lib.hid hr
  have HK := Lib.hid hr.len
  clear hr
  go_enter Tryz.func57, Tryz.ntmps57
  go_wp2_with fail
  refine (clone_any A n c k F _ HR.out hn).mono ?_
  rintro e w' ⟨v, rfl, hown, hbel⟩
  obtain ⟨A', c', rfl⟩ := own_slice hown
  have HO := Lib.hid hown
  have HB := Lib.hid hbel
  clear hown hbel
  go_wp2_with fail
  go_ret
  refine ⟨w'.heap.size, A', c', rfl, ⟨heap_alloc_new w' _, ?_, ?_, ?_, by rw [HK.out]; exact hn, Nat.zero_le _, by omega⟩, HB.out.size, HB.out.alloc HB.out.size _⟩
  · refine (Rd.of_own HO.out).belowAll ((Below.refl _ _).alloc (Nat.le_refl _) _) |>.mono fun j _ hj => ?_
    have := HO.out.lt j hj
    exact this
  · have := own_cap HO.out; rwa [Bs_length] at this
  · exact own_cap_le HO.out

set_option maxHeartbeats 400000 in
theorem rnumber_ok (g : Nat) (A : Option Addr) (c : Nat) (F : Nat → Prop) (k : List UInt8) (p : Nat) (most : Nat) (w : World) (h : Rr w g A c F k p 0) :
    Calls Tryz.prog 129 #[.pointer (some ⟨g, 0, none⟩), .int .u64 most] w fun e w' => e = .returned (.int .u64 (rnum k p most).1) ∧ Readto w w' g A c F k (rnum k p most).2.1 (rnum k p most).2.2 := by
  have H := Lib.hid h
  clear h
  go_enter Tryz.func129, Tryz.ntmps129
  go_wp2_with fail
  refine (number_read g A c F k p _ most _ (H.out.below ((Below.refl _ _).alloc (Nat.le_refl _) _)) (by simp)).mono ?_
  rintro e w' ⟨rfl, hr⟩
  have HR := Lib.hid hr
  clear hr
  go_wp2_with fail
  go_ret
  exact ⟨rfl, HR.out.rr, (Only.of_below ((Below.refl _ _).alloc (Nat.le_refl _) _) _).trans HR.out.only fun _ _ h => h⟩

set_option maxHeartbeats 400000 in
theorem rnumber_broken (g : Nat) (A : Option Addr) (c : Nat) (F : Nat → Prop) (k : List UInt8) (p : Nat) (code : Int) (most : Nat) (w : World) (h : Rr w g A c F k p code) (hc : code ≠ 0) :
    Calls Tryz.prog 129 #[.pointer (some ⟨g, 0, none⟩), .int .u64 most] w fun e w' => e = .returned (.int .u64 0) ∧ Below w.heap.size w w' := by
  have H := Lib.hid h
  clear h
  go_enter Tryz.func129, Tryz.ntmps129
  go_wp2_with fail
  refine (number_broken g A c F k p code _ _ (H.out.below ((Below.refl _ _).alloc (Nat.le_refl _) _)) hc).mono ?_
  rintro e w' ⟨rfl, rfl⟩
  go_wp2_with fail
  go_ret
  exact ⟨rfl, (Below.refl _ _).alloc (Nat.le_refl _) _⟩

set_option maxHeartbeats 400000 in
theorem out_any (a : Addr) (v : Value) (l : List UInt8) (w : World) (hw : Wr w a v l) (hlen : l.length ≤ 140737488355328) :
    Calls Tryz.prog 18 #[.pointer (some a)] w fun e w' => ∃ v', e = .returned v' ∧ w'.ownsRow w.heap.size 5 1 v' l.length (Bs l) ∧ Below w.heap.size w w' := by
  obtain ⟨A, c, rfl⟩ := own_slice hw.row
  have hc := hw.cell
  have HR := Lib.hid (Rd.of_own hw.row)
  clear hw
  go_enter Tryz.func18, Tryz.ntmps18
  go_wp2_with fail
  refine (clone_any A l.length c l _ _ HR.out hlen).mono ?_
  rintro e w' ⟨v', rfl, hown, hbel⟩
  have HO := Lib.hid hown
  have HB := Lib.hid hbel
  clear hown hbel
  go_wp2_with fail
  go_ret
  exact ⟨_, rfl, HO.out, HB.out⟩
end

section
set_option maxRecDepth 100000
open Go.RowKit

/-- What reading comes to: a byte, a bool, bytes after their number, raw bytes: each with the place behind it, and what breaks the reader. -/
def rbyte (k : List UInt8) (p : Nat) : UInt8 × Nat × Int := match k[p]? with | none => (0, p, 2) | some c => (c, p + 1, 0)
def rbool (k : List UInt8) (p : Nat) : Bool × Nat × Int := match k[p]? with | none => (false, p, 2) | some c => if 1 < c.toNat then (false, p, 2) else (c.toNat == 1, p + 1, 0)
def rbytes (k : List UInt8) (p : Nat) (most : Int) : List UInt8 × Nat × Int :=
  match dec (k.drop p) with
  | none => ([], p, 2)
  | some (n, s) => if (max most 0).toNat < n then ([], p, 3) else if (k.drop p).length - s < n then ([], p, 2) else (((k.drop p).drop s).take n, p + (s + n), 0)
def rraw (k : List UInt8) (p : Nat) (n : Int) : List UInt8 × Nat × Int :=
  if ((k.drop p).length : Int) < n then ([], p, 2) else ((k.drop p).take n.toNat, p + n.toNat, 0)

theorem drop_zero_at {k : List UInt8} {p : Nat} {x : Option UInt8} (h : (k.drop p)[0]? = x) : k[p]? = x := by rw [List.getElem?_drop] at h; simpa using h

set_option maxHeartbeats 400000 in
theorem byte1_none (A : Option Addr) (c : Nat) (w : World) :
    Calls Tryz.prog 128 #[.slice A 0 c] w fun e w' => e = .returned (.tuple #[.int .u8 0, .int .i64 0, .int .i64 2]) ∧ w' = w := by
  go_enter Tryz.func128, Tryz.ntmps128
  go_wp2_with fail
  go_ret3
  exact ⟨rfl, rfl⟩

set_option maxHeartbeats 400000 in
theorem byte1_some (A : Option Addr) (n c : Nat) (k : List UInt8) (F : Nat → Prop) (x : UInt8) (w : World) (hr : Rd w F A n (Bs k)) (hx : k[0]? = some x) :
    Calls Tryz.prog 128 #[.slice A n c] w fun e w' => e = .returned (.tuple #[.int .u8 x.toNat, .int .i64 1, .int .i64 0]) ∧ w' = w := by
  have h0 := (List.getElem?_eq_some_iff.1 hx).1
  have hn : 0 < n := by have := hr.len; omega
  obtain ⟨ad, y, rfl, _, hy, hc⟩ := hr.byte hn
  obtain rfl : y = x := by rw [hx] at hy; exact (Option.some.inj hy).symm
  have q0 : (((n : Nat) : Int) == 0) = false := beq_eq_false_iff_ne.2 (by omega)
  have hc' : w.cell? ad = some (.int .u8 y.toNat) := hc
  clear hr hx hy h0 hc
  go_enter Tryz.func128, Tryz.ntmps128
  go_wp2_with fail
  go_ret3
  exact ⟨rfl, rfl⟩

set_option maxHeartbeats 400000 in
theorem bool1_none (A : Option Addr) (c : Nat) (w : World) :
    Calls Tryz.prog 170 #[.slice A 0 c] w fun e w' => e = .returned (.tuple #[.bool false, .int .i64 0, .int .i64 2]) ∧ w' = w := by
  go_enter Tryz.func170, Tryz.ntmps170
  go_wp2_with fail
  go_ret3
  exact ⟨rfl, rfl⟩

set_option maxHeartbeats 400000 in
theorem bool1_over (A : Option Addr) (n c : Nat) (k : List UInt8) (F : Nat → Prop) (x : UInt8) (w : World) (hr : Rd w F A n (Bs k)) (hx : k[0]? = some x) (h1 : 1 < x.toNat) :
    Calls Tryz.prog 170 #[.slice A n c] w fun e w' => e = .returned (.tuple #[.bool false, .int .i64 0, .int .i64 2]) ∧ w' = w := by
  have h0 := (List.getElem?_eq_some_iff.1 hx).1
  have hn : 0 < n := by have := hr.len; omega
  obtain ⟨ad, y, rfl, _, hy, hc⟩ := hr.byte hn
  obtain rfl : y = x := by rw [hx] at hy; exact (Option.some.inj hy).symm
  have q0 : (((n : Nat) : Int) == 0) = false := beq_eq_false_iff_ne.2 (by omega)
  have hc' : w.cell? ad = some (.int .u8 y.toNat) := hc
  have q1 : (1 : Int) < y.toNat := by omega
  clear hr hx hy h0 hc
  go_enter Tryz.func170, Tryz.ntmps170
  go_wp2_with fail
  go_ret3
  exact ⟨rfl, rfl⟩

set_option maxHeartbeats 400000 in
theorem bool1_some (A : Option Addr) (n c : Nat) (k : List UInt8) (F : Nat → Prop) (x : UInt8) (w : World) (hr : Rd w F A n (Bs k)) (hx : k[0]? = some x) (h1 : ¬ 1 < x.toNat) :
    Calls Tryz.prog 170 #[.slice A n c] w fun e w' => e = .returned (.tuple #[.bool (x.toNat == 1), .int .i64 1, .int .i64 0]) ∧ w' = w := by
  have h0 := (List.getElem?_eq_some_iff.1 hx).1
  have hn : 0 < n := by have := hr.len; omega
  obtain ⟨ad, y, rfl, _, hy, hc⟩ := hr.byte hn
  obtain rfl : y = x := by rw [hx] at hy; exact (Option.some.inj hy).symm
  have q0 : (((n : Nat) : Int) == 0) = false := beq_eq_false_iff_ne.2 (by omega)
  have hc' : w.cell? ad = some (.int .u8 y.toNat) := hc
  have q1 : ¬ (1 : Int) < y.toNat := by omega
  have hb : (((y.toNat : Nat) : Int) == 1) = (y.toNat == 1) := by rw [Bool.eq_iff_iff]; simp only [beq_iff_eq]; omega
  have HB := Lib.hid hb
  clear hr hx hy h0 hc hb
  go_enter Tryz.func170, Tryz.ntmps170
  go_wp2_with fail
  go_ret3
  exact ⟨by rw [← HB.out]; rfl, rfl⟩

theorem byte1_cases (A : Option Addr) (n c : Nat) (k : List UInt8) (F : Nat → Prop) (w : World) (hr : Rd w F A n (Bs k)) :
    ∃ (m : UInt8) (s : Nat) (d : Int), (∀ i, Calls Tryz.prog 128 #[.slice A n c] (w.drewN i) fun e w' => e = .returned (.tuple #[.int .u8 m.toNat, .int .i64 s, .int .i64 d]) ∧ w' = w.drewN i) ∧ (d = 0 ∧ s ≤ k.length ∧ (∀ p l, k = l.drop p → rbyte l p = (m, p + s, 0)) ∨ ((d != 0) = true ∧ (∀ p l, k = l.drop p → rbyte l p = (0, p, d)))) := by
  obtain rfl : n = k.length := hr.len.symm
  cases hx : k[0]? with
  | none =>
    have hk : k.length = 0 := by simpa using hx
    refine ⟨0, 0, 2, fun i => by rw [hk]; exact byte1_none A c _, .inr ⟨rfl, fun p l e => ?_⟩⟩
    rw [e] at hx
    unfold rbyte; rw [drop_zero_at hx]
  | some x =>
    have h0 := (List.getElem?_eq_some_iff.1 hx).1
    refine ⟨x, 1, 0, fun i => byte1_some A _ c k F x _ hr hx, .inl ⟨rfl, by omega, fun p l e => ?_⟩⟩
    rw [e] at hx
    unfold rbyte; rw [drop_zero_at hx]

theorem bool1_cases (A : Option Addr) (n c : Nat) (k : List UInt8) (F : Nat → Prop) (w : World) (hr : Rd w F A n (Bs k)) :
    ∃ (m : Bool) (s : Nat) (d : Int), (∀ i, Calls Tryz.prog 170 #[.slice A n c] (w.drewN i) fun e w' => e = .returned (.tuple #[.bool m, .int .i64 s, .int .i64 d]) ∧ w' = w.drewN i) ∧ (d = 0 ∧ s ≤ k.length ∧ (∀ p l, k = l.drop p → rbool l p = (m, p + s, 0)) ∨ ((d != 0) = true ∧ (∀ p l, k = l.drop p → rbool l p = (false, p, d)))) := by
  obtain rfl : n = k.length := hr.len.symm
  cases hx : k[0]? with
  | none =>
    have hk : k.length = 0 := by simpa using hx
    refine ⟨false, 0, 2, fun i => by rw [hk]; exact bool1_none A c _, .inr ⟨rfl, fun p l e => ?_⟩⟩
    rw [e] at hx
    unfold rbool; rw [drop_zero_at hx]
  | some x =>
    have h0 := (List.getElem?_eq_some_iff.1 hx).1
    by_cases h1 : 1 < x.toNat
    · refine ⟨false, 0, 2, fun i => bool1_over A _ c k F x _ hr hx h1, .inr ⟨rfl, fun p l e => ?_⟩⟩
      rw [e] at hx
      unfold rbool; rw [drop_zero_at hx]; simp [h1]
    · refine ⟨x.toNat == 1, 1, 0, fun i => bool1_some A _ c k F x _ hr hx h1, .inl ⟨rfl, by omega, fun p l e => ?_⟩⟩
      rw [e] at hx
      unfold rbool; rw [drop_zero_at hx]; simp [h1]

set_option maxHeartbeats 400000 in
theorem fbyte_broken (g : Nat) (A : Option Addr) (c : Nat) (F : Nat → Prop) (k : List UInt8) (p : Nat) (code : Int) (f : Value) (w : World) (h : Rr w g A c F k p code) (hc : code ≠ 0) :
    Calls Tryz.prog 127 #[.pointer (some ⟨g, 0, none⟩), f] w fun e w' => e = .returned (.int .u8 0) ∧ w = w' := by
  have h2 := h.c2
  have q2 : (code != 0) = true := by rw [bne_iff_ne]; exact hc
  clear h hc
  go_enter Tryz.func127, Tryz.ntmps127
  go_wp2_with fail
  go_ret
  exact ⟨rfl, rfl⟩

set_option maxHeartbeats 800000 in
theorem fbyte_read (g : Nat) (A : Option Addr) (c : Nat) (F : Nat → Prop) (k : List UInt8) (p : Nat) (w : World) (h : Rr w g A c F k p 0) :
    Calls Tryz.prog 127 #[.pointer (some ⟨g, 0, none⟩), .func (.func 128) #[] #[]] w fun e w' => e = .returned (.int .u8 (rbyte k p).1.toNat) ∧ Readto w w' g A c F k (rbyte k p).2.1 (rbyte k p).2.2 := by
  have h0 := h.c0
  have h1 := h.c1
  have h2 := h.c2
  have hcap := h.cap
  have htop := h.top
  have hle := h.le
  unfold maxLen at htop
  have hsm := h.small
  have hsl : k.length - p ≤ 140737488355328 := by omega
  have f1 := h.f 1
  have f2 := h.f 2
  have hkd : (k.drop p).length = k.length - p := List.length_drop
  rcases h.left_cases with ⟨hcp, hl⟩ | ⟨hcp, hl⟩
  · obtain ⟨m, s, d, hcall, hres⟩ := byte1_cases _ _ 0 _ F w hl
    have H := Lib.hid h
    have HKD := Lib.hid hkd
    clear h hkd hl
    rcases hres with ⟨rfl, hs, hres⟩ | ⟨hd, hres⟩
    · rw [HKD.out] at hs
      have HE := Lib.hid (hres p k rfl)
      have HC := Lib.hid hcall
      clear hres hcall
      have hps : p + s ≤ 140737488355328 := by omega
      go_enter Tryz.func127, Tryz.ntmps127
      go_wp2_with fail
      go_quiet ((go_at_call 128; exact Calls.quiet_of_same (HC.out _)))
      go_wp2_with fail
      go_ret
      rw [HE.out]
      exact ⟨rfl, H.out.took _ (by omega) (by omega)⟩
    · have HE := Lib.hid (hres p k rfl)
      have HC := Lib.hid hcall
      clear hres hcall
      go_enter Tryz.func127, Tryz.ntmps127
      go_wp2_with fail
      go_quiet ((go_at_call 128; exact Calls.quiet_of_same (HC.out _)))
      go_wp2_with fail
      refine (fail_any g A c F k p d _ (H.out.drewN _)).mono ?_
      rintro e w' ⟨rfl, rfl⟩
      go_wp2_with fail
      go_ret
      rw [HE.out]
      exact ⟨rfl, H.out.fell _ _⟩
  · obtain ⟨m, s, d, hcall, hres⟩ := byte1_cases _ _ (c - p) _ F w hl
    have H := Lib.hid h
    have HKD := Lib.hid hkd
    clear h hkd hl
    rcases hres with ⟨rfl, hs, hres⟩ | ⟨hd, hres⟩
    · rw [HKD.out] at hs
      have HE := Lib.hid (hres p k rfl)
      have HC := Lib.hid hcall
      clear hres hcall
      have hps : p + s ≤ 140737488355328 := by omega
      go_enter Tryz.func127, Tryz.ntmps127
      go_wp2_with fail
      go_quiet ((go_at_call 128; exact Calls.quiet_of_same (HC.out _)))
      go_wp2_with fail
      go_ret
      rw [HE.out]
      exact ⟨rfl, H.out.took _ (by omega) (by omega)⟩
    · have HE := Lib.hid (hres p k rfl)
      have HC := Lib.hid hcall
      clear hres hcall
      go_enter Tryz.func127, Tryz.ntmps127
      go_wp2_with fail
      go_quiet ((go_at_call 128; exact Calls.quiet_of_same (HC.out _)))
      go_wp2_with fail
      refine (fail_any g A c F k p d _ (H.out.drewN _)).mono ?_
      rintro e w' ⟨rfl, rfl⟩
      go_wp2_with fail
      go_ret
      rw [HE.out]
      exact ⟨rfl, H.out.fell _ _⟩

set_option maxHeartbeats 400000 in
theorem fbool_broken (g : Nat) (A : Option Addr) (c : Nat) (F : Nat → Prop) (k : List UInt8) (p : Nat) (code : Int) (f : Value) (w : World) (h : Rr w g A c F k p code) (hc : code ≠ 0) :
    Calls Tryz.prog 169 #[.pointer (some ⟨g, 0, none⟩), f] w fun e w' => e = .returned (.bool false) ∧ w = w' := by
  have h2 := h.c2
  have q2 : (code != 0) = true := by rw [bne_iff_ne]; exact hc
  clear h hc
  go_enter Tryz.func169, Tryz.ntmps169
  go_wp2_with fail
  go_ret
  exact ⟨rfl, rfl⟩

set_option maxHeartbeats 800000 in
theorem fbool_read (g : Nat) (A : Option Addr) (c : Nat) (F : Nat → Prop) (k : List UInt8) (p : Nat) (w : World) (h : Rr w g A c F k p 0) :
    Calls Tryz.prog 169 #[.pointer (some ⟨g, 0, none⟩), .func (.func 170) #[] #[]] w fun e w' => e = .returned (.bool (rbool k p).1) ∧ Readto w w' g A c F k (rbool k p).2.1 (rbool k p).2.2 := by
  have h0 := h.c0
  have h1 := h.c1
  have h2 := h.c2
  have hcap := h.cap
  have htop := h.top
  have hle := h.le
  unfold maxLen at htop
  have hsm := h.small
  have hsl : k.length - p ≤ 140737488355328 := by omega
  have f1 := h.f 1
  have f2 := h.f 2
  have hkd : (k.drop p).length = k.length - p := List.length_drop
  rcases h.left_cases with ⟨hcp, hl⟩ | ⟨hcp, hl⟩
  · obtain ⟨m, s, d, hcall, hres⟩ := bool1_cases _ _ 0 _ F w hl
    have H := Lib.hid h
    have HKD := Lib.hid hkd
    clear h hkd hl
    rcases hres with ⟨rfl, hs, hres⟩ | ⟨hd, hres⟩
    · rw [HKD.out] at hs
      have HE := Lib.hid (hres p k rfl)
      have HC := Lib.hid hcall
      clear hres hcall
      have hps : p + s ≤ 140737488355328 := by omega
      go_enter Tryz.func169, Tryz.ntmps169
      go_wp2_with fail
      go_quiet ((go_at_call 170; exact Calls.quiet_of_same (HC.out _)))
      go_wp2_with fail
      go_ret
      rw [HE.out]
      exact ⟨rfl, H.out.took _ (by omega) (by omega)⟩
    · have HE := Lib.hid (hres p k rfl)
      have HC := Lib.hid hcall
      clear hres hcall
      go_enter Tryz.func169, Tryz.ntmps169
      go_wp2_with fail
      go_quiet ((go_at_call 170; exact Calls.quiet_of_same (HC.out _)))
      go_wp2_with fail
      refine (fail_any g A c F k p d _ (H.out.drewN _)).mono ?_
      rintro e w' ⟨rfl, rfl⟩
      go_wp2_with fail
      go_ret
      rw [HE.out]
      exact ⟨rfl, H.out.fell _ _⟩
  · obtain ⟨m, s, d, hcall, hres⟩ := bool1_cases _ _ (c - p) _ F w hl
    have H := Lib.hid h
    have HKD := Lib.hid hkd
    clear h hkd hl
    rcases hres with ⟨rfl, hs, hres⟩ | ⟨hd, hres⟩
    · rw [HKD.out] at hs
      have HE := Lib.hid (hres p k rfl)
      have HC := Lib.hid hcall
      clear hres hcall
      have hps : p + s ≤ 140737488355328 := by omega
      go_enter Tryz.func169, Tryz.ntmps169
      go_wp2_with fail
      go_quiet ((go_at_call 170; exact Calls.quiet_of_same (HC.out _)))
      go_wp2_with fail
      go_ret
      rw [HE.out]
      exact ⟨rfl, H.out.took _ (by omega) (by omega)⟩
    · have HE := Lib.hid (hres p k rfl)
      have HC := Lib.hid hcall
      clear hres hcall
      go_enter Tryz.func169, Tryz.ntmps169
      go_wp2_with fail
      go_quiet ((go_at_call 170; exact Calls.quiet_of_same (HC.out _)))
      go_wp2_with fail
      refine (fail_any g A c F k p d _ (H.out.drewN _)).mono ?_
      rintro e w' ⟨rfl, rfl⟩
      go_wp2_with fail
      go_ret
      rw [HE.out]
      exact ⟨rfl, H.out.fell _ _⟩

set_option maxHeartbeats 400000 in
theorem rbyte_ok (g : Nat) (A : Option Addr) (c : Nat) (F : Nat → Prop) (k : List UInt8) (p : Nat) (w : World) (h : Rr w g A c F k p 0) :
    Calls Tryz.prog 92 #[.pointer (some ⟨g, 0, none⟩)] w fun e w' => e = .returned (.int .u8 (rbyte k p).1.toNat) ∧ Readto w w' g A c F k (rbyte k p).2.1 (rbyte k p).2.2 := by
  have H := Lib.hid h
  clear h
  go_enter Tryz.func92, Tryz.ntmps92
  go_wp2_with fail
  refine (fbyte_read g A c F k p _ H.out).mono ?_
  rintro e w' ⟨rfl, hr⟩
  have HR := Lib.hid hr
  clear hr
  go_wp2_with fail
  go_ret
  exact ⟨rfl, HR.out⟩

set_option maxHeartbeats 400000 in
theorem rbyte_broken (g : Nat) (A : Option Addr) (c : Nat) (F : Nat → Prop) (k : List UInt8) (p : Nat) (code : Int) (w : World) (h : Rr w g A c F k p code) (hc : code ≠ 0) :
    Calls Tryz.prog 92 #[.pointer (some ⟨g, 0, none⟩)] w fun e w' => e = .returned (.int .u8 0) ∧ Below w.heap.size w w' := by
  have H := Lib.hid h
  clear h
  go_enter Tryz.func92, Tryz.ntmps92
  go_wp2_with fail
  refine (fbyte_broken g A c F k p code _ _ H.out hc).mono ?_
  rintro e w' ⟨rfl, rfl⟩
  go_wp2_with fail
  go_ret
  exact ⟨rfl, Below.refl _ _⟩

set_option maxHeartbeats 400000 in
theorem rbool_ok (g : Nat) (A : Option Addr) (c : Nat) (F : Nat → Prop) (k : List UInt8) (p : Nat) (w : World) (h : Rr w g A c F k p 0) :
    Calls Tryz.prog 136 #[.pointer (some ⟨g, 0, none⟩)] w fun e w' => e = .returned (.bool (rbool k p).1) ∧ Readto w w' g A c F k (rbool k p).2.1 (rbool k p).2.2 := by
  have H := Lib.hid h
  clear h
  go_enter Tryz.func136, Tryz.ntmps136
  go_wp2_with fail
  refine (fbool_read g A c F k p _ H.out).mono ?_
  rintro e w' ⟨rfl, hr⟩
  have HR := Lib.hid hr
  clear hr
  go_wp2_with fail
  go_ret
  exact ⟨rfl, HR.out⟩

set_option maxHeartbeats 400000 in
theorem rbool_broken (g : Nat) (A : Option Addr) (c : Nat) (F : Nat → Prop) (k : List UInt8) (p : Nat) (code : Int) (w : World) (h : Rr w g A c F k p code) (hc : code ≠ 0) :
    Calls Tryz.prog 136 #[.pointer (some ⟨g, 0, none⟩)] w fun e w' => e = .returned (.bool false) ∧ Below w.heap.size w w' := by
  have H := Lib.hid h
  clear h
  go_enter Tryz.func136, Tryz.ntmps136
  go_wp2_with fail
  refine (fbool_broken g A c F k p code _ _ H.out hc).mono ?_
  rintro e w' ⟨rfl, rfl⟩
  go_wp2_with fail
  go_ret
  exact ⟨rfl, Below.refl _ _⟩
end

section
set_option maxRecDepth 100000
open Go.RowKit

/-- A cut of a slice. -/
theorem Rd.cut {w : World} {F : Nat → Prop} {A : Option Addr} {n c lo hi : Nat} {k : List UInt8} (h : Rd w F A n (Bs k)) (h1 : lo ≤ hi) (h2 : hi ≤ n) (h3 : n ≤ c) :
    (c = lo ∧ Rd w F A (hi - lo) (Bs ((k.drop lo).take (hi - lo)))) ∨ (¬ c = lo ∧ Rd w F (Option.map (fun x => x.add lo) A) (hi - lo) (Bs ((k.drop lo).take (hi - lo)))) := by
  have hk := h.len
  by_cases hc : c = lo
  · refine .inl ⟨hc, ?_⟩
    have e : hi - lo = 0 := by omega
    rw [e]
    exact Rd.nil _ _ _
  · refine .inr ⟨hc, by simp [Bs]; omega, fun hn => ?_⟩
    obtain ⟨ad, rfl, hF, hb, hcell⟩ := h.2 (by omega)
    refine ⟨ad.add lo, rfl, by rw [add_block]; exact hF, by rw [add_block]; exact hb, fun j u hu => ?_⟩
    rw [add_add]
    refine hcell _ u ?_
    rw [← hu, Bs_get, Bs_get, List.getElem?_take, if_pos, List.getElem?_drop]
    have := (List.getElem?_eq_some_iff.1 hu).1
    simp [Bs] at this
    omega

set_option maxHeartbeats 400000 in
theorem bytes1_none (A : Option Addr) (n c : Nat) (k : List UInt8) (F : Nat → Prop) (q : Addr) (w : World) (hr : Rd w F A n (Bs k)) (hn : n ≤ 140737488355328) (hd : dec k = none) :
    Calls Tryz.prog 187 #[.slice A n c, .pointer (some q)] w fun e w' => e = .returned (.tuple #[.slice none 0 0, .int .i64 0, .int .i64 2]) ∧ w' = w := by
  have HD := Lib.hid hd
  clear hd
  go_enter Tryz.func187, Tryz.ntmps187
  go_wp2_with fail
  refine (split_any A n c k F _ hr hn).mono ?_
  rintro e w' ⟨rfl, rfl⟩
  rw [HD.out]
  go_wp2_with fail
  go_ret3
  exact ⟨rfl, rfl⟩

set_option maxHeartbeats 400000 in
theorem bytes1_over (A : Option Addr) (n c : Nat) (k : List UInt8) (F : Nat → Prop) (q : Addr) (most : Int) (m s : Nat) (w : World) (hr : Rd w F A n (Bs k)) (hn : n ≤ 140737488355328) (hq : w.cell? q = some (.int .i64 most)) (hm2 : most ≤ 9223372036854775807) (hd : dec k = some (m, s)) (hm : (max most 0).toNat < m) :
    Calls Tryz.prog 187 #[.slice A n c, .pointer (some q)] w fun e w' => e = .returned (.tuple #[.slice none 0 0, .int .i64 0, .int .i64 3]) ∧ w' = w := by
  have hs := (enc_dec hd).2.2.1
  have hsl := (enc_dec hd).2.1
  have hkl := hr.len
  have hml := (enc_dec hd).1
  have HD := Lib.hid hd
  clear hd
  have h1 : (((s : Nat) : Int) == 0) = false := beq_eq_false_iff_ne.2 (by omega)
  have HKL := Lib.hid hkl
  clear hkl
  by_cases h0 : 0 ≤ most
  · have h2 : most < m := by omega
    go_enter Tryz.func187, Tryz.ntmps187
    go_wp2_with fail
    refine (split_any A n c k F _ hr hn).mono ?_
    rintro e w' ⟨rfl, rfl⟩
    rw [HD.out]
    go_wp2_with fail
    go_ret3
    exact ⟨rfl, rfl⟩
  · have h2 : (0 : Int) < m := by omega
    go_enter Tryz.func187, Tryz.ntmps187
    go_wp2_with fail
    refine (split_any A n c k F _ hr hn).mono ?_
    rintro e w' ⟨rfl, rfl⟩
    rw [HD.out]
    go_wp2_with fail
    go_ret3
    exact ⟨rfl, rfl⟩

set_option maxHeartbeats 400000 in
theorem bytes1_short (A : Option Addr) (n c : Nat) (k : List UInt8) (F : Nat → Prop) (q : Addr) (most : Int) (m s : Nat) (w : World) (hr : Rd w F A n (Bs k)) (hn : n ≤ 140737488355328) (hq : w.cell? q = some (.int .i64 most)) (hm2 : most ≤ 9223372036854775807) (hd : dec k = some (m, s)) (hm : ¬ (max most 0).toNat < m) (hl : k.length - s < m) :
    Calls Tryz.prog 187 #[.slice A n c, .pointer (some q)] w fun e w' => e = .returned (.tuple #[.slice none 0 0, .int .i64 0, .int .i64 2]) ∧ w' = w := by
  have hs := (enc_dec hd).2.2.1
  have hsl := (enc_dec hd).2.1
  have hkl := hr.len
  have hml := (enc_dec hd).1
  have HD := Lib.hid hd
  clear hd
  have h1 : (((s : Nat) : Int) == 0) = false := beq_eq_false_iff_ne.2 (by omega)
  have h3 : (n : Int) - s < m := by omega
  have hsn : s ≤ n := by omega
  have HKL := Lib.hid hkl
  clear hkl
  by_cases h0 : 0 ≤ most
  · have h2 : ¬ most < m := by omega
    go_enter Tryz.func187, Tryz.ntmps187
    go_wp2_with fail
    refine (split_any A n c k F _ hr hn).mono ?_
    rintro e w' ⟨rfl, rfl⟩
    rw [HD.out]
    go_wp2_with fail
    go_ret3
    exact ⟨rfl, rfl⟩
  · omega

/-- What reading bytes leaves: a row of its own, and how many were taken. -/
def Got (w : World) (x : List UInt8) (t : Nat) (e : Ending) (w' : World) : Prop :=
  ∃ A c, e = .returned (.tuple #[.slice A x.length c, .int .i64 t, .int .i64 0]) ∧ w'.ownsRow w.heap.size 5 1 (.slice A x.length c) x.length (Bs x) ∧ Below w.heap.size w w'
theorem got {w w' : World} {x : List UInt8} {t : Nat} {A : Option Addr} {n c : Nat} {y : Int} (hn : n = x.length) (hy : y = t) (ho : w'.ownsRow w.heap.size 5 1 (.slice A n c) x.length (Bs x)) (hb : Below w.heap.size w w') :
    Got w x t (.returned (.tuple #[.slice A n c, .int .i64 y, .int .i64 0])) w' := by
  subst hn hy
  exact ⟨A, c, rfl, ho, hb⟩

set_option maxHeartbeats 800000 in
theorem bytes1_ok (A : Option Addr) (n c : Nat) (k : List UInt8) (F : Nat → Prop) (q : Addr) (most : Int) (m s : Nat) (w : World) (hr : Rd w F A n (Bs k)) (hn : n ≤ 140737488355328) (hnc : n ≤ c) (hct : c ≤ 9223372036854775807) (hq : w.cell? q = some (.int .i64 most)) (hm2 : most ≤ 9223372036854775807) (hd : dec k = some (m, s)) (hm : ¬ (max most 0).toNat < m) (hl : ¬ k.length - s < m) :
    Calls Tryz.prog 187 #[.slice A n c, .pointer (some q)] w (Got w ((k.drop s).take m) (s + m)) := by
  have hs := (enc_dec hd).2.2.1
  have hsl := (enc_dec hd).2.1
  have hkl := hr.len
  have hml := (enc_dec hd).1
  have HD := Lib.hid hd
  clear hd
  have h1 : (((s : Nat) : Int) == 0) = false := beq_eq_false_iff_ne.2 (by omega)
  have h3 : ¬ (n : Int) - s < m := by omega
  have hsn : s ≤ n := by omega
  have hsm : s + m ≤ n := by omega
  have hxl : ((k.drop s).take m).length = m := by simp; omega
  have HXL := Lib.hid hxl
  have HKL := Lib.hid hkl
  clear hkl hxl
  have hcut := hr.cut (lo := s) (hi := s + m) (by omega) hsm hnc
  rw [Nat.add_sub_cancel_left] at hcut
  have HR := Lib.hid hr
  clear hr
  generalize (k.drop s).take m = x at *
  by_cases h0 : 0 ≤ most
  · have h2 : ¬ most < m := by omega
    rcases hcut with ⟨hcs, hrc⟩ | ⟨hcs, hrc⟩
    · subst hcs
      have HRC := Lib.hid hrc
      clear hrc
      go_enter Tryz.func187, Tryz.ntmps187
      go_wp2_with fail
      refine (split_any A n _ k F _ HR.out hn).mono ?_
      rintro e w' ⟨rfl, rfl⟩
      rw [HD.out]
      go_wp2_with fail
      refine (clone_any _ m _ x F _ HRC.out (by omega)).mono ?_
      rintro e w1 ⟨v, rfl, hown, hb⟩
      obtain ⟨A1, c1, rfl⟩ := own_slice hown
      have HO := Lib.hid hown
      have HB := Lib.hid hb
      clear hown hb
      go_wp2_with fail
      go_ret3
      exact got rfl (by push_cast; rfl) HO.out HB.out
    · have HRC := Lib.hid hrc
      clear hrc
      go_enter Tryz.func187, Tryz.ntmps187
      go_wp2_with fail
      refine (split_any A n c k F _ HR.out hn).mono ?_
      rintro e w' ⟨rfl, rfl⟩
      rw [HD.out]
      go_wp2_with fail
      refine (clone_any _ m _ x F _ HRC.out (by omega)).mono ?_
      rintro e w1 ⟨v, rfl, hown, hb⟩
      obtain ⟨A1, c1, rfl⟩ := own_slice hown
      have HO := Lib.hid hown
      have HB := Lib.hid hb
      clear hown hb
      go_wp2_with fail
      go_ret3
      exact got rfl (by push_cast; rfl) HO.out HB.out
  · have h2 : ¬ (0 : Int) < m := by omega
    rcases hcut with ⟨hcs, hrc⟩ | ⟨hcs, hrc⟩
    · subst hcs
      have HRC := Lib.hid hrc
      clear hrc
      go_enter Tryz.func187, Tryz.ntmps187
      go_wp2_with fail
      refine (split_any A n _ k F _ HR.out hn).mono ?_
      rintro e w' ⟨rfl, rfl⟩
      rw [HD.out]
      go_wp2_with fail
      refine (clone_any _ m _ x F _ HRC.out (by omega)).mono ?_
      rintro e w1 ⟨v, rfl, hown, hb⟩
      obtain ⟨A1, c1, rfl⟩ := own_slice hown
      have HO := Lib.hid hown
      have HB := Lib.hid hb
      clear hown hb
      go_wp2_with fail
      go_ret3
      exact got rfl (by push_cast; rfl) HO.out HB.out
    · have HRC := Lib.hid hrc
      clear hrc
      go_enter Tryz.func187, Tryz.ntmps187
      go_wp2_with fail
      refine (split_any A n c k F _ HR.out hn).mono ?_
      rintro e w' ⟨rfl, rfl⟩
      rw [HD.out]
      go_wp2_with fail
      refine (clone_any _ m _ x F _ HRC.out (by omega)).mono ?_
      rintro e w1 ⟨v, rfl, hown, hb⟩
      obtain ⟨A1, c1, rfl⟩ := own_slice hown
      have HO := Lib.hid hown
      have HB := Lib.hid hb
      clear hown hb
      go_wp2_with fail
      go_ret3
      exact got rfl (by push_cast; rfl) HO.out HB.out
end

section
set_option maxRecDepth 100000
open Go.RowKit

set_option maxHeartbeats 800000 in
theorem fS_err (g : Nat) (A : Option Addr) (c : Nat) (F : Nat → Prop) (k : List UInt8) (p : Nat) (q : Addr) (d : Int) (w : World) (h : Rr w g A c F k p 0) (hd : (d != 0) = true)
    (hcall : ∀ X C i, (Rd w F X (k.length - p) (Bs (k.drop p))) → Calls Tryz.prog 187 #[.slice X (k.length - p) C, .pointer (some q)] (w.drewN i) fun e w' => e = .returned (.tuple #[.slice none 0 0, .int .i64 0, .int .i64 d]) ∧ w' = w.drewN i) :
    Calls Tryz.prog 186 #[.pointer (some ⟨g, 0, none⟩), .func (.func 187) #[] #[.pointer (some q)]] w fun e w' => e = .returned (.slice none 0 0) ∧ Readto w w' g A c F k p d := by
  have h0 := h.c0
  have h1 := h.c1
  have h2 := h.c2
  have hcap := h.cap
  have htop := h.top
  have hle := h.le
  unfold maxLen at htop
  have f2 := h.f 2
  have HCALL := Lib.hid hcall
  clear hcall
  rcases h.left_cases with ⟨hcp, hl⟩ | ⟨hcp, hl⟩
  · have H := Lib.hid h
    have HC := Lib.hid (fun i => HCALL.out A 0 i hl)
    clear h hl
    go_enter Tryz.func186, Tryz.ntmps186
    go_wp2_with fail
    go_quiet ((go_at_call 187; exact Calls.quiet_of_same (HC.out _)))
    go_wp2_with fail
    refine (fail_any g A c F k p d _ (H.out.drewN _)).mono ?_
    rintro e w' ⟨rfl, rfl⟩
    go_wp2_with fail
    go_ret
    exact ⟨rfl, H.out.fell _ _⟩
  · have H := Lib.hid h
    have HC := Lib.hid (fun i => HCALL.out (Option.map (fun x => x.add p) A) (c - p) i hl)
    clear h hl
    go_enter Tryz.func186, Tryz.ntmps186
    go_wp2_with fail
    go_quiet ((go_at_call 187; exact Calls.quiet_of_same (HC.out _)))
    go_wp2_with fail
    refine (fail_any g A c F k p d _ (H.out.drewN _)).mono ?_
    rintro e w' ⟨rfl, rfl⟩
    go_wp2_with fail
    go_ret
    exact ⟨rfl, H.out.fell _ _⟩

/-- What a reader leaves behind bytes that it read: they lie in a row of their own. -/
def Took (w : World) (g : Nat) (A : Option Addr) (c : Nat) (F : Nat → Prop) (k x : List UInt8) (p : Nat) (e : Ending) (w' : World) : Prop :=
  ∃ A1 c1, e = .returned (.slice A1 x.length c1) ∧ w'.ownsRow w.heap.size 5 1 (.slice A1 x.length c1) x.length (Bs x) ∧ Readto w w' g A c F k p 0
theorem took_row {w w1 : World} {g : Nat} {A : Option Addr} {c : Nat} {F : Nat → Prop} {k x : List UInt8} {p t : Nat} {A1 : Option Addr} {c1 : Nat} {y : Int} (h : Rr w g A c F k p 0)
    (ho : w1.ownsRow w.heap.size 5 1 (.slice A1 x.length c1) x.length (Bs x)) (hb : Below w.heap.size w.drew w1) (ht : p + t ≤ k.length) (hy : y = ((p + t : Nat) : Int)) :
    Took w g A c F k x (p + t) (.returned (.slice A1 x.length c1)) (w1.setCell ⟨g, 1, none⟩ (.int .i64 y)) := by
  subst hy
  have hb' : Below w.heap.size w w1 := ⟨hb.os, hb.tape, hb.output, hb.size, hb.block⟩
  have h1 := h.below hb'
  have hlt := h.lt
  refine ⟨A1, c1, rfl, ?_, h1.move ht, ((Only.of_below hb' (fun j => j = g))).setCell (p := ⟨g, 1, none⟩) (.inl rfl) _⟩
  refine own_only ho ((Only.refl (fun j => j = g) w1).setCell (p := ⟨g, 1, none⟩) (.inl rfl) _) fun j hj e => ?_
  have := (ho.lt j hj).1
  omega

set_option maxHeartbeats 800000 in
theorem fS_ok (g : Nat) (A : Option Addr) (c : Nat) (F : Nat → Prop) (k : List UInt8) (p : Nat) (q : Addr) (x : List UInt8) (t : Nat) (w : World) (h : Rr w g A c F k p 0) (ht : p + t ≤ k.length)
    (hcall : ∀ X C, (Rd w F X (k.length - p) (Bs (k.drop p))) → k.length - p ≤ C → C ≤ 9223372036854775807 → Calls Tryz.prog 187 #[.slice X (k.length - p) C, .pointer (some q)] w.drew (Got w.drew x t)) :
    Calls Tryz.prog 186 #[.pointer (some ⟨g, 0, none⟩), .func (.func 187) #[] #[.pointer (some q)]] w (Took w g A c F k x (p + t)) := by
  have h0 := h.c0
  have h1 := h.c1
  have h2 := h.c2
  have hcap := h.cap
  have htop := h.top
  have hle := h.le
  unfold maxLen at htop
  have hsm := h.small
  have hlt := h.lt
  have HCALL := Lib.hid hcall
  clear hcall
  rcases h.left_cases with ⟨hcp, hl⟩ | ⟨hcp, hl⟩
  · have H := Lib.hid h
    have HC := Lib.hid (HCALL.out A 0 hl (by omega) (by omega))
    clear h hl
    go_enter Tryz.func186, Tryz.ntmps186
    go_wp2_with fail
    go_region_held3 (fun w' => w'.cell? ⟨g, 0, none⟩ = some (.slice A k.length c) ∧ w'.cell? ⟨g, 1, none⟩ = some (.int .i64 p)) (go_keep)
      (first | (go_at_call 187; refine (HC.out).mono ?_; rintro e w1 ⟨A1, c1, rfl, hown, hb⟩; have hh0 := (hb.cell (p := ⟨g, 0, none⟩) hlt).trans h0; have hh1 := (hb.cell (p := ⟨g, 1, none⟩) hlt).trans h1; have hf1 := (hb.frozen (p := ⟨g, 1, none⟩) hlt).trans (H.out.f 1); have HO := Lib.hid hown; have HB := Lib.hid hb; clear hown hb))
    go_wp2_with fail
    go_ret
    exact took_row H.out HO.out HB.out ht (by omega)
  · have H := Lib.hid h
    have HC := Lib.hid (HCALL.out (Option.map (fun x => x.add p) A) (c - p) hl (by omega) (by omega))
    clear h hl
    go_enter Tryz.func186, Tryz.ntmps186
    go_wp2_with fail
    go_region_held3 (fun w' => w'.cell? ⟨g, 0, none⟩ = some (.slice A k.length c) ∧ w'.cell? ⟨g, 1, none⟩ = some (.int .i64 p)) (go_keep)
      (first | (go_at_call 187; refine (HC.out).mono ?_; rintro e w1 ⟨A1, c1, rfl, hown, hb⟩; have hh0 := (hb.cell (p := ⟨g, 0, none⟩) hlt).trans h0; have hh1 := (hb.cell (p := ⟨g, 1, none⟩) hlt).trans h1; have hf1 := (hb.frozen (p := ⟨g, 1, none⟩) hlt).trans (H.out.f 1); have HO := Lib.hid hown; have HB := Lib.hid hb; clear hown hb))
    go_wp2_with fail
    go_ret
    exact took_row H.out HO.out HB.out ht (by omega)
end

end Go.Proofs.YtmiadkhfjkaidaaGreatDoor
