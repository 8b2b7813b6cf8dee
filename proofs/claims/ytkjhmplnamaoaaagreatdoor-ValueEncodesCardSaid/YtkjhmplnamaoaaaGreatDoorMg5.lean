/- The number that bytes begin with is found as the mathematics of Num says; for any bytes. A reader of fields in memory, and what reading a number makes of it; for any bytes up to 2^47. What a reader tells of its error and of its end, how one is made, and what a writer tells; for any bytes up to 2^47. What a reader's other calls come to, whatever its bytes are. What reading bytes comes to, whatever the reader's bytes are. What a reader's calls for bytes, raw bytes, texts and signed numbers come to, whatever its bytes are. What a reader's methods for bytes, raw bytes, texts and signed numbers come to, whatever its bytes are. A path's bytes read again: Count, Word, Number of what fits; a step; the path; for any right path's bytes. Names of a record read where they follow. -/
import Derived.Test.YtkjhmplnamaoaaaGreatDoorMg1
import Derived.StillTailTactics
import Derived.Test.YtkjhmplnamaoaaaGreatDoorMg4
import Derived.Deep.RegionHeld3
namespace Go.Proofs.YtkjhmplnamaoaaaGreatDoor
section
open Go.RowKit

theorem or_digit {k : List UInt8} {j : Nat} {x : UInt8} (hx : k[j]? = some x) (hj : j ≤ 9) (h9 : j = 9 → x.toNat ≤ 1) :
    bits .or .u64 ((dig (k.take j) : Nat) : Int) (IntKind.u64.wrap (IntKind.u64.wrap (bits .and .u8 ((x.toNat : Nat) : Int) 127) * 2 ^ (7 * j))) = ((dig (k.take j) + x.toNat % 128 * 128 ^ j : Nat) : Int) := by
  have hl := len_take hx
  have hd := dig_lt (k.take j)
  have hxl : x.toNat < 256 := x.toNat_lt
  have hp : (128 : Nat) ^ j = 2 ^ (7 * j) := by rw [Nat.pow_mul]
  rw [hl, hp] at hd
  have h1 := u8_and_nat x.toNat 127 hxl (by omega)
  rw [show ((127 : Nat) : Int) = 127 from rfl, nat_mask7] at h1
  rw [h1, IntKind.wrap_u64, IntKind.wrap_u64]
  have h2 : (((x.toNat % 128 : Nat) : Int) % 18446744073709551616) = ((x.toNat % 128 : Nat) : Int) := by omega
  have h3 : ((x.toNat % 128 : Nat) : Int) * 2 ^ (7 * j) = ((x.toNat % 128 * 2 ^ (7 * j) : Nat) : Int) := by push_cast; rfl
  have h4 : x.toNat % 128 * 2 ^ (7 * j) < 9223372036854775809 := by
    by_cases e : j = 9
    · have := h9 e
      have h5 : x.toNat % 128 * 2 ^ (7 * j) ≤ 1 * 2 ^ (7 * j) := Nat.mul_le_mul_right _ (by omega)
      rw [e] at h5 ⊢
      omega
    · have h5 : x.toNat % 128 * 2 ^ (7 * j) ≤ 127 * 2 ^ (7 * 8) := Nat.mul_le_mul (by omega) (Nat.pow_le_pow_right (by omega) (by omega))
      omega
  have h6 : dig (k.take j) < 18446744073709551616 := by
    have h5 : 2 ^ (7 * j) ≤ 2 ^ (7 * 9) := Nat.pow_le_pow_right (by omega) (by omega)
    omega
  rw [h2, h3]
  have h7 : ((x.toNat % 128 * 2 ^ (7 * j) : Nat) : Int) % 18446744073709551616 = ((x.toNat % 128 * 2 ^ (7 * j) : Nat) : Int) := by omega
  rw [h7, u64_or_nat _ _ h6 (by omega), Nat.or_comm, nat_join (7 * j) _ _ (Nat.mul_mod_left _ _) hd, hp, Nat.add_comm]

theorem and128 : ∀ x, x < 256 → x &&& 128 = if x < 128 then 0 else 128 := by decide +kernel
theorem top_bit (x : UInt8) : bits .and .u8 ((x.toNat : Nat) : Int) 128 = ((if x.toNat < 128 then 0 else 128 : Nat) : Int) := by
  have hxl : x.toNat < 256 := x.toNat_lt
  have h1 := u8_and_nat x.toNat 128 hxl (by omega)
  rw [show ((128 : Nat) : Int) = 128 from rfl] at h1
  rw [h1, and128 _ hxl]
theorem top_off {x : UInt8} (h : x.toNat < 128) : (bits .and .u8 ((x.toNat : Nat) : Int) 128 != 0) = false := by rw [top_bit, if_pos h]; rfl
theorem top_on {x : UInt8} (h : ¬ x.toNat < 128) : (bits .and .u8 ((x.toNat : Nat) : Int) 128 != 0) = true := by rw [top_bit, if_neg h]; rfl

/-- What split comes to. -/
def SplitOf (k : List UInt8) (w : World) (e : Ending) (w' : World) : Prop :=
  e = .returned (.tuple #[.int .u64 ((dec k).getD (0, 0)).1, .int .i64 ((dec k).getD (0, 0)).2]) ∧ w = w'
theorem split_none {k : List UInt8} {w : World} (h : dec k = none) : SplitOf k w (.returned (.tuple #[.int .u64 0, .int .i64 0])) w := by unfold SplitOf; rw [h]; exact ⟨rfl, rfl⟩
theorem split_some {k : List UInt8} {w : World} {j m : Nat} {y : Int} (h : dec k = some (m, j + 1)) (hy : y = m) : SplitOf k w (.returned (.tuple #[.int .u64 y, .int .i64 ((j : Int) + 1)])) w := by unfold SplitOf; rw [h, hy]; exact ⟨rfl, rfl⟩

set_option maxHeartbeats 1000000 in
theorem split_any (A : Option Addr) (n c : Nat) (k : List UInt8) (F : Nat → Prop) (w : World) (hr : Rd w F A n (Bs k)) (_hn : n ≤ 140737488355328) :
    Calls Tryz.prog 110 #[.slice A n c] w (SplitOf k w) := by
  have HK := Lib.hid hr.len
  have HR := Lib.hid hr
  clear hr
  go_enter Tryz.func110, Tryz.ntmps110
  go_wp2_with fail
  go_loop [2, 8] (fun s i => ∃ j : Nat, j ≤ n ∧ j ≤ 9 ∧ i = .int .i64 j ∧ s = .int .u64 (dig (k.take j)) ∧ ∀ d ∈ k.take j, ¬ d.toNat < 128) (fun _ i => n - (intOf i).toNat)
  case atStart => exact ⟨0, Nat.zero_le _, by omega, rfl, rfl, by simp⟩
  case round =>
    obtain ⟨j, hj, hj9, rfl, rfl, hall⟩ := hrel
    have HALL := Lib.hid hall
    clear hall
    by_cases hlt : j < n
    · obtain ⟨a0, x, rfl, hab, hx, hca⟩ := HR.out.byte hlt
      have HX := Lib.hid hx
      clear hx
      have hxl : x.toNat < 256 := x.toNat_lt
      by_cases h9 : j = 9
      · have q9 : (((j : Nat) : Int) == 9) = true := beq_iff_eq.2 (by omega)
        have H9 := Lib.hid h9
        clear h9
        by_cases hx1 : 1 < x.toNat
        · have qx : (1 : Int) < x.toNat := by omega
          go_wp2_with fail
          go_ret2
          exact split_none (dec_stop HALL.out HX.out H9.out hx1)
        · have qx : ¬ (1 : Int) < x.toNat := by omega
          have qt := top_off (x := x) (by omega)
          by_cases hx0 : x.toNat = 0
          · have q0 : (((x.toNat : Nat) : Int) == 0) = true := beq_iff_eq.2 (by omega)
            have hj0 : 0 < (j : Int) := by have := H9.out; omega
            have H0 := Lib.hid hx0
            clear hx0
            go_wp2_with fail
            go_ret2
            exact split_none (dec_zero HALL.out HX.out (by have := H9.out; omega) H0.out)
          · have q0 : (((x.toNat : Nat) : Int) == 0) = false := beq_eq_false_iff_ne.2 (by omega)
            go_wp2_with fail
            go_ret2
            exact split_some (dec_val HALL.out HX.out hj9 (fun _ => by omega) (by omega) (fun h => absurd h hx0)) (or_digit HX.out hj9 (fun _ => by omega))
      · have q9 : (((j : Nat) : Int) == 9) = false := beq_eq_false_iff_ne.2 (by omega)
        by_cases hc : x.toNat < 128
        · have qt := top_off hc
          by_cases hx0 : x.toNat = 0
          · have q0 : (((x.toNat : Nat) : Int) == 0) = true := beq_iff_eq.2 (by omega)
            have H0 := Lib.hid hx0
            clear hx0
            by_cases hj0 : 0 < j
            · have hj0' : 0 < (j : Int) := by omega
              go_wp2_with fail
              go_ret2
              exact split_none (dec_zero HALL.out HX.out hj0 H0.out)
            · have hj0' : ¬ 0 < (j : Int) := by omega
              go_wp2_with fail
              go_ret2
              exact split_some (dec_val HALL.out HX.out hj9 (fun e => absurd e h9) hc (fun _ => by omega)) (or_digit HX.out hj9 (fun e => absurd e h9))
          · have q0 : (((x.toNat : Nat) : Int) == 0) = false := beq_eq_false_iff_ne.2 (by omega)
            go_wp2_with fail
            go_ret2
            exact split_some (dec_val HALL.out HX.out hj9 (fun e => absurd e h9) hc (fun h => absurd h hx0)) (or_digit HX.out hj9 (fun e => absurd e h9))
        · have qt := top_on hc
          go_wp2_with fail
          go_round
          case rel => exact ⟨j + 1, by omega, by omega, by go_num, by rw [or_digit HX.out hj9 (fun e => absurd e h9), dig_succ HX.out], take_all_succ HALL.out HX.out hc⟩
          case measure => simp [intOf]; omega
    · have e : k.take j = k := List.take_of_length_le (by rw [HK.out]; omega)
      have HE := Lib.hid e
      clear e
      go_wp2_with fail
      go_ret2
      exact split_none (dec_end (by have := HALL.out; rwa [HE.out] at this))
end

section
open Go.RowKit

theorem rcells : Tryz.prog.cellsOf 114 = 3 := by kernel_rfl

/-- A reader in block g: its bytes k, its place p, the number of what broke it. -/
structure Rr (w : World) (g : Nat) (A : Option Addr) (c : Nat) (F : Nat → Prop) (k : List UInt8) (p : Nat) (code : Int) : Prop where
  blk : w.heap[g]? = some (.cells #[.slice A k.length c, .int .i64 p, .int .i64 code] 114 (0, 0))
  rd : Rd w F A k.length (Bs k)
  cap : k.length ≤ c
  top : c ≤ maxLen
  small : k.length ≤ 140737488355328
  le : p ≤ k.length
  far : ¬ F g

section
variable {w w' : World} {g : Nat} {A : Option Addr} {c : Nat} {F : Nat → Prop} {k : List UInt8} {p : Nat} {code : Int}
theorem Rr.c0 (h : Rr w g A c F k p code) : w.cell? ⟨g, 0, none⟩ = some (.slice A k.length c) := by rw [cell_of_row w g 0 _ _ _ h.blk]; rfl
theorem Rr.c1 (h : Rr w g A c F k p code) : w.cell? ⟨g, 1, none⟩ = some (.int .i64 p) := by rw [cell_of_row w g 1 _ _ _ h.blk]; rfl
theorem Rr.c2 (h : Rr w g A c F k p code) : w.cell? ⟨g, 2, none⟩ = some (.int .i64 code) := by rw [cell_of_row w g 2 _ _ _ h.blk]; rfl
theorem Rr.f (h : Rr w g A c F k p code) (i : Nat) : w.frozen? ⟨g, i, none⟩ = false := frozen_of_row w g i _ _ h.blk
theorem Rr.lt (h : Rr w g A c F k p code) : g < w.heap.size := lt_of_cell h.c0
theorem Rr.only {S : Nat → Prop} (h : Rr w g A c F k p code) (ho : Only S w w') (hg : ¬ S g) (hF : ∀ j, F j → ¬ S j) : Rr w' g A c F k p code :=
  ⟨(ho.block g h.lt hg).trans h.blk, h.rd.only ho hF, h.cap, h.top, h.small, h.le, h.far⟩
theorem Rr.below (h : Rr w g A c F k p code) (ho : Below w.heap.size w w') : Rr w' g A c F k p code :=
  h.only (Only.of_below ho (fun _ => False)) (fun h => h) (fun _ _ h => h)
theorem Rr.drewN (h : Rr w g A c F k p code) (n : Nat) : Rr (w.drewN n) g A c F k p code := ⟨h.blk, h.rd, h.cap, h.top, h.small, h.le, h.far⟩
theorem Rr.set (h : Rr w g A c F k p code) (i : Nat) (u : Value) : Rd (w.setCell ⟨g, i, none⟩ u) F A k.length (Bs k) :=
  h.rd.only (S := fun j => j = g) ((Only.refl (fun j => j = g) w).setCell (p := ⟨g, i, none⟩) (.inl rfl) u) fun j hj e => by subst e; exact h.far hj
theorem Rr.move (h : Rr w g A c F k p code) {q : Nat} (hq : q ≤ k.length) : Rr (w.setCell ⟨g, 1, none⟩ (.int .i64 q)) g A c F k q code :=
  ⟨by rw [heap_setCell_same w g 1 _ _ _ h.blk]; rfl, h.set _ _, h.cap, h.top, h.small, hq, h.far⟩
theorem Rr.break_ (h : Rr w g A c F k p code) (d : Int) : Rr (w.setCell ⟨g, 2, none⟩ (.int .i64 d)) g A c F k p d :=
  ⟨by rw [heap_setCell_same w g 2 _ _ _ h.blk]; rfl, h.set _ _, h.cap, h.top, h.small, h.le, h.far⟩
/-- What is left of a reader's bytes, as a slice. -/
theorem Rr.left (h : Rr w g A c F k p code) : Rd w F (if c = p then A else A.map (·.add p)) (k.length - p) (Bs (k.drop p)) := by
  refine ⟨by simp [Bs], fun hn => ?_⟩
  obtain ⟨ad, e, hF, hb, hc⟩ := h.rd.2 (by omega)
  have hcp : ¬ c = p := by have := h.cap; omega
  refine ⟨ad.add p, by rw [if_neg hcp, e]; rfl, by rw [add_block]; exact hF, by rw [add_block]; exact hb, fun j u hu => ?_⟩
  rw [add_add]
  refine hc _ u ?_
  rw [← hu]
  simp [Bs]
end

/-- What a reader has become: its place and its number. -/
structure Readto (w w' : World) (g : Nat) (A : Option Addr) (c : Nat) (F : Nat → Prop) (k : List UInt8) (p : Nat) (code : Int) : Prop where
  rr : Rr w' g A c F k p code
  only : Only (fun j => j = g) w w'

/-- What reading a number comes to: the number, the place, what broke it. -/
def rnum (k : List UInt8) (p most : Nat) : Nat × Nat × Int :=
  match dec (k.drop p) with
  | none => (0, p, 2)
  | some (n, s) => if most < n then (0, p, 15) else (n, p + s, 0)

set_option maxHeartbeats 400000 in
theorem num1_none (A : Option Addr) (n c : Nat) (k : List UInt8) (F : Nat → Prop) (q : Addr) (w : World) (hr : Rd w F A n (Bs k)) (hn : n ≤ 140737488355328) (hd : dec k = none) :
    Calls Tryz.prog 109 #[.slice A n c, .pointer (some q)] w fun e w' => e = .returned (.tuple #[.int .u64 0, .int .i64 0, .int .i64 2]) ∧ w' = w := by
  have HD := Lib.hid hd
  clear hd
  go_enter Tryz.func109, Tryz.ntmps109
  go_wp2_with fail
  refine (split_any A n c k F _ hr hn).mono ?_
  rintro e w' ⟨rfl, rfl⟩
  rw [HD.out]
  go_wp2_with fail
  go_ret3
  exact ⟨rfl, rfl⟩

set_option maxHeartbeats 400000 in
theorem num1_over (A : Option Addr) (n c : Nat) (k : List UInt8) (F : Nat → Prop) (q : Addr) (most m s : Nat) (w : World) (hr : Rd w F A n (Bs k)) (hn : n ≤ 140737488355328) (hq : w.cell? q = some (.int .u64 most)) (hd : dec k = some (m, s)) (hm : most < m) :
    Calls Tryz.prog 109 #[.slice A n c, .pointer (some q)] w fun e w' => e = .returned (.tuple #[.int .u64 0, .int .i64 0, .int .i64 15]) ∧ w' = w := by
  have hs := (enc_dec hd).2.2.1
  have HD := Lib.hid hd
  clear hd
  have h1 : (((s : Nat) : Int) == 0) = false := beq_eq_false_iff_ne.2 (by omega)
  have h2 : (most : Int) < m := by omega
  go_enter Tryz.func109, Tryz.ntmps109
  go_wp2_with fail
  refine (split_any A n c k F _ hr hn).mono ?_
  rintro e w' ⟨rfl, rfl⟩
  rw [HD.out]
  go_wp2_with fail
  go_ret3
  exact ⟨rfl, rfl⟩

set_option maxHeartbeats 400000 in
theorem num1_ok (A : Option Addr) (n c : Nat) (k : List UInt8) (F : Nat → Prop) (q : Addr) (most m s : Nat) (w : World) (hr : Rd w F A n (Bs k)) (hn : n ≤ 140737488355328) (hq : w.cell? q = some (.int .u64 most)) (hd : dec k = some (m, s)) (hm : ¬ most < m) :
    Calls Tryz.prog 109 #[.slice A n c, .pointer (some q)] w fun e w' => e = .returned (.tuple #[.int .u64 m, .int .i64 s, .int .i64 0]) ∧ w' = w := by
  have hs := (enc_dec hd).2.2.1
  have HD := Lib.hid hd
  clear hd
  have h1 : (((s : Nat) : Int) == 0) = false := beq_eq_false_iff_ne.2 (by omega)
  have h2 : ¬ (most : Int) < m := by omega
  go_enter Tryz.func109, Tryz.ntmps109
  go_wp2_with fail
  refine (split_any A n c k F _ hr hn).mono ?_
  rintro e w' ⟨rfl, rfl⟩
  rw [HD.out]
  go_wp2_with fail
  go_ret3
  exact ⟨rfl, rfl⟩

set_option maxHeartbeats 400000 in
/-- (*Reader).Fail at a reader that is whole. -/
theorem fail_any (g : Nat) (A : Option Addr) (c : Nat) (F : Nat → Prop) (k : List UInt8) (p : Nat) (d : Int) (w : World) (h : Rr w g A c F k p 0) :
    Calls Tryz.prog 67 #[.pointer (some ⟨g, 0, none⟩), .int .i64 d] w fun e w' => e = .returned (.tuple #[]) ∧ w' = w.setCell ⟨g, 2, none⟩ (.int .i64 d) := by
  have h2 := h.c2
  have f2 := h.f 2
  clear h
  go_enter Tryz.func67, Tryz.ntmps67
  go_wp2_with fail
  go_end0
  exact ⟨rfl, rfl⟩

set_option maxHeartbeats 400000 in
/-- (*Reader).Fail at a reader that is broken. -/
theorem fail_not (g : Nat) (A : Option Addr) (c : Nat) (F : Nat → Prop) (k : List UInt8) (p : Nat) (code d : Int) (w : World) (h : Rr w g A c F k p code) (hc : code ≠ 0) :
    Calls Tryz.prog 67 #[.pointer (some ⟨g, 0, none⟩), .int .i64 d] w fun e w' => e = .returned (.tuple #[]) ∧ w' = w := by
  have h2 := h.c2
  have f2 := h.f 2
  have q2 : (code == 0) = false := beq_eq_false_iff_ne.2 hc
  clear h hc
  go_enter Tryz.func67, Tryz.ntmps67
  go_wp2_with fail
  go_end0
  exact ⟨rfl, rfl⟩

set_option maxHeartbeats 400000 in
theorem number_broken (g : Nat) (A : Option Addr) (c : Nat) (F : Nat → Prop) (k : List UInt8) (p : Nat) (code : Int) (f : Value) (w : World) (h : Rr w g A c F k p code) (hc : code ≠ 0) :
    Calls Tryz.prog 108 #[.pointer (some ⟨g, 0, none⟩), f] w fun e w' => e = .returned (.int .u64 0) ∧ w = w' := by
  have h2 := h.c2
  have q2 : (code != 0) = true := by rw [bne_iff_ne]; exact hc
  clear h hc
  go_enter Tryz.func108, Tryz.ntmps108
  go_wp2_with fail
  go_ret
  exact ⟨rfl, rfl⟩

/-- The two forms of the address of what is left. -/
theorem Rr.left_cases {w : World} {g : Nat} {A : Option Addr} {c : Nat} {F : Nat → Prop} {k : List UInt8} {p : Nat} {code : Int} (h : Rr w g A c F k p code) :
    (c = p ∧ Rd w F A (k.length - p) (Bs (k.drop p))) ∨ (¬ c = p ∧ Rd w F (Option.map (fun x => x.add p) A) (k.length - p) (Bs (k.drop p))) := by
  have hl := h.left
  by_cases hc : c = p
  · rw [if_pos hc] at hl; exact .inl ⟨hc, hl⟩
  · rw [if_neg hc] at hl; exact .inr ⟨hc, hl⟩

/-- The reader behind a field that took s bytes. -/
theorem Rr.took {w : World} {g : Nat} {A : Option Addr} {c : Nat} {F : Nat → Prop} {k : List UInt8} {p : Nat} (h : Rr w g A c F k p 0) (q : Nat) {s : Nat} (hs : p + s ≤ k.length) {y : Int} (hy : y = ((p + s : Nat) : Int)) :
    Readto w ((w.drewN q).setCell ⟨g, 1, none⟩ (.int .i64 y)) g A c F k (p + s) 0 := by
  subst hy
  exact ⟨(h.drewN q).move hs, ((Only.refl (fun j => j = g) w).drewN q).setCell (p := ⟨g, 1, none⟩) (.inl rfl) _⟩
theorem Rr.fell {w : World} {g : Nat} {A : Option Addr} {c : Nat} {F : Nat → Prop} {k : List UInt8} {p : Nat} (h : Rr w g A c F k p 0) (q : Nat) (d : Int) :
    Readto w ((w.drewN q).setCell ⟨g, 2, none⟩ (.int .i64 d)) g A c F k p d :=
  ⟨(h.drewN q).break_ d, ((Only.refl (fun j => j = g) w).drewN q).setCell (p := ⟨g, 2, none⟩) (.inl rfl) _⟩

theorem num1_cases (A : Option Addr) (n c : Nat) (k : List UInt8) (F : Nat → Prop) (q : Addr) (most : Nat) (w : World) (hr : Rd w F A n (Bs k)) (hn : n ≤ 140737488355328) (hq : w.cell? q = some (.int .u64 most)) :
    ∃ m s : Nat, ∃ d : Int, (∀ i, Calls Tryz.prog 109 #[.slice A n c, .pointer (some q)] (w.drewN i) fun e w' => e = .returned (.tuple #[.int .u64 m, .int .i64 s, .int .i64 d]) ∧ w' = w.drewN i) ∧ (d = 0 ∧ s ≤ k.length ∧ (∀ p l, k = l.drop p → rnum l p most = (m, p + s, 0)) ∨ ((d != 0) = true ∧ (∀ p l, k = l.drop p → rnum l p most = (0, p, d)))) := by
  cases hd : dec k with
  | none => exact ⟨0, 0, 2, fun i => num1_none A n c k F q _ hr hn hd, .inr ⟨rfl, fun p l e => by unfold rnum; rw [← e, hd]⟩⟩
  | some r =>
    obtain ⟨m, s⟩ := r
    by_cases hm : most < m
    · exact ⟨0, 0, 15, fun i => num1_over A n c k F q most m s _ hr hn hq hd hm, .inr ⟨rfl, fun p l e => by unfold rnum; rw [← e, hd]; simp [hm]⟩⟩
    · exact ⟨m, s, 0, fun i => num1_ok A n c k F q most m s _ hr hn hq hd hm, .inl ⟨rfl, (enc_dec hd).2.1, fun p l e => by unfold rnum; rw [← e, hd]; simp [hm]⟩⟩

set_option maxHeartbeats 800000 in
theorem number_read (g : Nat) (A : Option Addr) (c : Nat) (F : Nat → Prop) (k : List UInt8) (p : Nat) (q : Addr) (most : Nat) (w : World) (h : Rr w g A c F k p 0) (hq : w.cell? q = some (.int .u64 most)) :
    Calls Tryz.prog 108 #[.pointer (some ⟨g, 0, none⟩), .func (.func 109) #[] #[.pointer (some q)]] w fun e w' => e = .returned (.int .u64 (rnum k p most).1) ∧ Readto w w' g A c F k (rnum k p most).2.1 (rnum k p most).2.2 := by
  have h0 := h.c0
  have h1 := h.c1
  have h2 := h.c2
  have hcap := h.cap
  have htop := h.top
  have hle := h.le
  unfold maxLen at htop
  have hsm := h.small
  have hsl : k.length - p ≤ 140737488355328 := by omega
  have f1 := h.f 1
  have f2 := h.f 2
  have hkd : (k.drop p).length = k.length - p := List.length_drop
  rcases h.left_cases with ⟨hcp, hl⟩ | ⟨hcp, hl⟩
  · obtain ⟨m, s, d, hcall, hres⟩ := num1_cases _ _ 0 _ F q most w hl hsl hq
    have H := Lib.hid h
    have HKD := Lib.hid hkd
    clear h hkd hl
    rcases hres with ⟨rfl, hs, hres⟩ | ⟨hd, hres⟩
    · rw [HKD.out] at hs
      have HE := Lib.hid (hres p k rfl)
      have HC := Lib.hid hcall
      clear hres hcall hq
      have hps : p + s ≤ 140737488355328 := by omega
      go_enter Tryz.func108, Tryz.ntmps108
      go_wp2_with fail
      go_quiet ((go_at_call 109; exact Calls.quiet_of_same (HC.out _)))
      go_wp2_with fail
      go_ret
      rw [HE.out]
      exact ⟨rfl, H.out.took _ (by omega) (by omega)⟩
    · have HE := Lib.hid (hres p k rfl)
      have HC := Lib.hid hcall
      clear hres hcall hq
      go_enter Tryz.func108, Tryz.ntmps108
      go_wp2_with fail
      go_quiet ((go_at_call 109; exact Calls.quiet_of_same (HC.out _)))
      go_wp2_with fail
      refine (fail_any g A c F k p d _ (H.out.drewN _)).mono ?_
      rintro e w' ⟨rfl, rfl⟩
      go_wp2_with fail
      go_ret
      rw [HE.out]
      exact ⟨rfl, H.out.fell _ _⟩
  · obtain ⟨m, s, d, hcall, hres⟩ := num1_cases _ _ (c - p) _ F q most w hl hsl hq
    have H := Lib.hid h
    have HKD := Lib.hid hkd
    clear h hkd hl
    rcases hres with ⟨rfl, hs, hres⟩ | ⟨hd, hres⟩
    · rw [HKD.out] at hs
      have HE := Lib.hid (hres p k rfl)
      have HC := Lib.hid hcall
      clear hres hcall hq
      have hps : p + s ≤ 140737488355328 := by omega
      go_enter Tryz.func108, Tryz.ntmps108
      go_wp2_with fail
      go_quiet ((go_at_call 109; exact Calls.quiet_of_same (HC.out _)))
      go_wp2_with fail
      go_ret
      rw [HE.out]
      exact ⟨rfl, H.out.took _ (by omega) (by omega)⟩
    · have HE := Lib.hid (hres p k rfl)
      have HC := Lib.hid hcall
      clear hres hcall hq
      go_enter Tryz.func108, Tryz.ntmps108
      go_wp2_with fail
      go_quiet ((go_at_call 109; exact Calls.quiet_of_same (HC.out _)))
      go_wp2_with fail
      refine (fail_any g A c F k p d _ (H.out.drewN _)).mono ?_
      rintro e w' ⟨rfl, rfl⟩
      go_wp2_with fail
      go_ret
      rw [HE.out]
      exact ⟨rfl, H.out.fell _ _⟩
end

section
open Go.RowKit

/-- An error: the number code, in the place p alone. -/
def Flt (w : World) (v : Value) (p : Int) (code : Int) : Prop :=
  ∃ h, v = .iface 135 (.pointer (some ⟨h, 0, none⟩)) ∧ w.heap[h]? = some (.cells #[.int .i64 p, .iface 42 (.int .i64 code)] 137 (0, 0))

set_option maxHeartbeats 400000 in
theorem wrap_some (T : TypeId) (x : Value) (p : Int) (w : World) :
    Calls Tryz.prog 66 #[.iface T x, .int .i64 p] w fun e w' => e = .returned (.iface 135 (.pointer (some ⟨w.heap.size, 0, none⟩))) ∧ w' = w.alloc (.cells #[.int .i64 p, .iface T x] 137) := by
  go_enter Tryz.func66, Tryz.ntmps66
  go_wp2_with fail
  go_ret
  exact ⟨rfl, rfl⟩

set_option maxHeartbeats 400000 in
theorem err_none (g : Nat) (A : Option Addr) (c : Nat) (F : Nat → Prop) (k : List UInt8) (p : Nat) (w : World) (h : Rr w g A c F k p 0) :
    Calls Tryz.prog 44 #[.pointer (some ⟨g, 0, none⟩)] w fun e w' => e = .returned .nilIface ∧ w' = w := by
  have h2 := h.c2
  clear h
  go_enter Tryz.func44, Tryz.ntmps44
  go_wp2_with fail
  go_ret
  exact ⟨rfl, rfl⟩

set_option maxRecDepth 100000 in
set_option maxHeartbeats 400000 in
theorem err_some (g : Nat) (A : Option Addr) (c : Nat) (F : Nat → Prop) (k : List UInt8) (p : Nat) (code : Int) (w : World) (h : Rr w g A c F k p code) (hc : code ≠ 0) :
    Calls Tryz.prog 44 #[.pointer (some ⟨g, 0, none⟩)] w fun e w' => ∃ v, e = .returned v ∧ Flt w' v p code ∧ Below w.heap.size w w' := by
  have h1 := h.c1
  have h2 := h.c2
  have q2 : (code == 0) = false := beq_eq_false_iff_ne.2 hc
  have HC := Lib.hid hc
  clear h hc
  go_enter Tryz.func44, Tryz.ntmps44
  go_wp2_with fail
  go_still_tail 9, (by kernel_rfl)
  go_wp2_with fail
  refine (wrap_some _ _ _ _).mono ?_
  rintro e w' ⟨rfl, rfl⟩
  go_wp2_with fail
  go_ret
  exact ⟨_, rfl, ⟨w.heap.size, rfl, heap_alloc_new w _⟩, ((Below.refl _ _).alloc (Nat.le_refl _) _).drew⟩

set_option maxHeartbeats 400000 in
theorem end_ok (g : Nat) (A : Option Addr) (c : Nat) (F : Nat → Prop) (k : List UInt8) (w : World) (h : Rr w g A c F k k.length 0) :
    Calls Tryz.prog 42 #[.pointer (some ⟨g, 0, none⟩)] w fun e w' => e = .returned .nilIface ∧ ∃ q, w' = w.drewN q := by
  have h0 := h.c0
  have h1 := h.c1
  have H := Lib.hid h
  clear h
  go_enter Tryz.func42, Tryz.ntmps42
  go_wp2_with fail
  refine (err_none g A c F k k.length _ H.out).mono ?_
  rintro e w' ⟨rfl, rfl⟩
  go_wp2_with fail
  go_quiet (fail)
  go_wp2_with fail
  go_ret
  exact ⟨rfl, _, rfl⟩

set_option maxHeartbeats 400000 in
theorem end_left (g : Nat) (A : Option Addr) (c : Nat) (F : Nat → Prop) (k : List UInt8) (p : Nat) (w : World) (h : Rr w g A c F k p 0) (hp : p < k.length) :
    Calls Tryz.prog 42 #[.pointer (some ⟨g, 0, none⟩)] w fun e w' => ∃ v, e = .returned v ∧ Flt w' v p 2 ∧ Below w.heap.size w w' := by
  have h0 := h.c0
  have h1 := h.c1
  have H := Lib.hid h
  clear h
  have hp' : decide (p < k.length) = true := by simpa using hp
  go_enter Tryz.func42, Tryz.ntmps42
  go_wp2_with fail
  refine (err_none g A c F k p _ H.out).mono ?_
  rintro e w' ⟨rfl, rfl⟩
  go_wp2_with fail
  go_quiet (fail)
  go_wp2_with fail
  refine (wrap_some _ _ _ _).mono ?_
  rintro e w' ⟨rfl, rfl⟩
  go_wp2_with fail
  go_ret
  exact ⟨_, rfl, ⟨w'.heap.size, rfl, heap_alloc_new w' _⟩, below_drewN ((Below.refl _ _).alloc (Nat.le_refl _) _) _⟩

set_option maxHeartbeats 400000 in
theorem end_broken (g : Nat) (A : Option Addr) (c : Nat) (F : Nat → Prop) (k : List UInt8) (p : Nat) (code : Int) (w : World) (h : Rr w g A c F k p code) (hc : code ≠ 0) :
    Calls Tryz.prog 42 #[.pointer (some ⟨g, 0, none⟩)] w fun e w' => ∃ v, e = .returned v ∧ Flt w' v p code ∧ Below w.heap.size w w' := by
  have H := Lib.hid h
  clear h
  go_enter Tryz.func42, Tryz.ntmps42
  go_wp2_with fail
  refine (err_some g A c F k p code _ H.out hc).mono ?_
  rintro e w' ⟨v, rfl, ⟨b, rfl, hb⟩, hbel⟩
  go_wp2_with fail
  go_ret
  exact ⟨_, rfl, ⟨b, rfl, hb⟩, hbel⟩

set_option maxHeartbeats 400000 in
theorem new_any (A : Option Addr) (n c : Nat) (k : List UInt8) (F : Nat → Prop) (w : World) (hr : Rd w F A n (Bs k)) (hn : n ≤ 140737488355328) :
    Calls Tryz.prog 41 #[.slice A n c] w fun e w' => ∃ g A' c', e = .returned (.pointer (some ⟨g, 0, none⟩)) ∧ Rr w' g A' c' (fun j => w.heap.size ≤ j ∧ j < g) k 0 0 ∧ w.heap.size ≤ g ∧ Below w.heap.size w w' := by
  have HR := Lib.hid hr
  have HK := Lib.hid hr.len
  clear hr
  go_enter Tryz.func41, Tryz.ntmps41
  go_wp2_with fail
  refine (clone_any A n c k F _ HR.out hn).mono ?_
  rintro e w' ⟨v, rfl, hown, hbel⟩
  obtain ⟨A', c', rfl⟩ := own_slice hown
  have HO := Lib.hid hown
  have HB := Lib.hid hbel
  clear hown hbel
  go_wp2_with fail
  go_ret
  refine ⟨w'.heap.size, A', c', rfl, ⟨heap_alloc_new w' _, ?_, ?_, ?_, by rw [HK.out]; exact hn, Nat.zero_le _, by omega⟩, HB.out.size, HB.out.alloc HB.out.size _⟩
  · refine (Rd.of_own HO.out).belowAll ((Below.refl _ _).alloc (Nat.le_refl _) _) |>.mono fun j _ hj => ?_
    have := HO.out.lt j hj
    exact this
  · have := own_cap HO.out; rwa [Bs_length] at this
  · exact own_cap_le HO.out

set_option maxHeartbeats 400000 in
theorem rnumber_ok (g : Nat) (A : Option Addr) (c : Nat) (F : Nat → Prop) (k : List UInt8) (p : Nat) (most : Nat) (w : World) (h : Rr w g A c F k p 0) :
    Calls Tryz.prog 93 #[.pointer (some ⟨g, 0, none⟩), .int .u64 most] w fun e w' => e = .returned (.int .u64 (rnum k p most).1) ∧ Readto w w' g A c F k (rnum k p most).2.1 (rnum k p most).2.2 := by
  have H := Lib.hid h
  clear h
  go_enter Tryz.func93, Tryz.ntmps93
  go_wp2_with fail
  refine (number_read g A c F k p _ most _ (H.out.below ((Below.refl _ _).alloc (Nat.le_refl _) _)) (by simp)).mono ?_
  rintro e w' ⟨rfl, hr⟩
  have HR := Lib.hid hr
  clear hr
  go_wp2_with fail
  go_ret
  exact ⟨rfl, HR.out.rr, (Only.of_below ((Below.refl _ _).alloc (Nat.le_refl _) _) _).trans HR.out.only fun _ _ h => h⟩

set_option maxHeartbeats 400000 in
theorem rnumber_broken (g : Nat) (A : Option Addr) (c : Nat) (F : Nat → Prop) (k : List UInt8) (p : Nat) (code : Int) (most : Nat) (w : World) (h : Rr w g A c F k p code) (hc : code ≠ 0) :
    Calls Tryz.prog 93 #[.pointer (some ⟨g, 0, none⟩), .int .u64 most] w fun e w' => e = .returned (.int .u64 0) ∧ Below w.heap.size w w' := by
  have H := Lib.hid h
  clear h
  go_enter Tryz.func93, Tryz.ntmps93
  go_wp2_with fail
  refine (number_broken g A c F k p code _ _ (H.out.below ((Below.refl _ _).alloc (Nat.le_refl _) _)) hc).mono ?_
  rintro e w' ⟨rfl, rfl⟩
  go_wp2_with fail
  go_ret
  exact ⟨rfl, (Below.refl _ _).alloc (Nat.le_refl _) _⟩

set_option maxHeartbeats 400000 in
theorem out_any (a : Addr) (v : Value) (l : List UInt8) (w : World) (hw : Wr w a v l) (hlen : l.length ≤ 140737488355328) :
    Calls Tryz.prog 17 #[.pointer (some a)] w fun e w' => ∃ v', e = .returned v' ∧ w'.ownsRow w.heap.size 5 1 v' l.length (Bs l) ∧ Below w.heap.size w w' := by
  obtain ⟨A, c, rfl⟩ := own_slice hw.row
  have hc := hw.cell
  have HR := Lib.hid (Rd.of_own hw.row)
  clear hw
  go_enter Tryz.func17, Tryz.ntmps17
  go_wp2_with fail
  refine (clone_any A l.length c l _ _ HR.out hlen).mono ?_
  rintro e w' ⟨v', rfl, hown, hbel⟩
  have HO := Lib.hid hown
  have HB := Lib.hid hbel
  clear hown hbel
  go_wp2_with fail
  go_ret
  exact ⟨_, rfl, HO.out, HB.out⟩
end

section
set_option maxRecDepth 100000
open Go.RowKit

/-- What reading comes to: a byte, a bool, bytes after their number, raw bytes: each with the place behind it, and what breaks the reader. -/
def rbyte (k : List UInt8) (p : Nat) : UInt8 × Nat × Int := match k[p]? with | none => (0, p, 2) | some c => (c, p + 1, 0)
def rbool (k : List UInt8) (p : Nat) : Bool × Nat × Int := match k[p]? with | none => (false, p, 2) | some c => if 1 < c.toNat then (false, p, 2) else (c.toNat == 1, p + 1, 0)
def rbytes (k : List UInt8) (p : Nat) (most : Int) : List UInt8 × Nat × Int :=
  match dec (k.drop p) with
  | none => ([], p, 2)
  | some (n, s) => if (max most 0).toNat < n then ([], p, 3) else if (k.drop p).length - s < n then ([], p, 2) else (((k.drop p).drop s).take n, p + (s + n), 0)
def rraw (k : List UInt8) (p : Nat) (n : Int) : List UInt8 × Nat × Int :=
  if ((k.drop p).length : Int) < n then ([], p, 2) else ((k.drop p).take n.toNat, p + n.toNat, 0)

theorem drop_zero_at {k : List UInt8} {p : Nat} {x : Option UInt8} (h : (k.drop p)[0]? = x) : k[p]? = x := by rw [List.getElem?_drop] at h; simpa using h

set_option maxHeartbeats 400000 in
theorem byte1_none (A : Option Addr) (c : Nat) (w : World) :
    Calls Tryz.prog 89 #[.slice A 0 c] w fun e w' => e = .returned (.tuple #[.int .u8 0, .int .i64 0, .int .i64 2]) ∧ w' = w := by
  go_enter Tryz.func89, Tryz.ntmps89
  go_wp2_with fail
  go_ret3
  exact ⟨rfl, rfl⟩

set_option maxHeartbeats 400000 in
theorem byte1_some (A : Option Addr) (n c : Nat) (k : List UInt8) (F : Nat → Prop) (x : UInt8) (w : World) (hr : Rd w F A n (Bs k)) (hx : k[0]? = some x) :
    Calls Tryz.prog 89 #[.slice A n c] w fun e w' => e = .returned (.tuple #[.int .u8 x.toNat, .int .i64 1, .int .i64 0]) ∧ w' = w := by
  have h0 := (List.getElem?_eq_some_iff.1 hx).1
  have hn : 0 < n := by have := hr.len; omega
  obtain ⟨ad, y, rfl, _, hy, hc⟩ := hr.byte hn
  obtain rfl : y = x := by rw [hx] at hy; exact (Option.some.inj hy).symm
  have q0 : (((n : Nat) : Int) == 0) = false := beq_eq_false_iff_ne.2 (by omega)
  have hc' : w.cell? ad = some (.int .u8 y.toNat) := hc
  clear hr hx hy h0 hc
  go_enter Tryz.func89, Tryz.ntmps89
  go_wp2_with fail
  go_ret3
  exact ⟨rfl, rfl⟩

set_option maxHeartbeats 400000 in
theorem bool1_none (A : Option Addr) (c : Nat) (w : World) :
    Calls Tryz.prog 91 #[.slice A 0 c] w fun e w' => e = .returned (.tuple #[.bool false, .int .i64 0, .int .i64 2]) ∧ w' = w := by
  go_enter Tryz.func91, Tryz.ntmps91
  go_wp2_with fail
  go_ret3
  exact ⟨rfl, rfl⟩

set_option maxHeartbeats 400000 in
theorem bool1_over (A : Option Addr) (n c : Nat) (k : List UInt8) (F : Nat → Prop) (x : UInt8) (w : World) (hr : Rd w F A n (Bs k)) (hx : k[0]? = some x) (h1 : 1 < x.toNat) :
    Calls Tryz.prog 91 #[.slice A n c] w fun e w' => e = .returned (.tuple #[.bool false, .int .i64 0, .int .i64 2]) ∧ w' = w := by
  have h0 := (List.getElem?_eq_some_iff.1 hx).1
  have hn : 0 < n := by have := hr.len; omega
  obtain ⟨ad, y, rfl, _, hy, hc⟩ := hr.byte hn
  obtain rfl : y = x := by rw [hx] at hy; exact (Option.some.inj hy).symm
  have q0 : (((n : Nat) : Int) == 0) = false := beq_eq_false_iff_ne.2 (by omega)
  have hc' : w.cell? ad = some (.int .u8 y.toNat) := hc
  have q1 : (1 : Int) < y.toNat := by omega
  clear hr hx hy h0 hc
  go_enter Tryz.func91, Tryz.ntmps91
  go_wp2_with fail
  go_ret3
  exact ⟨rfl, rfl⟩

set_option maxHeartbeats 400000 in
theorem bool1_some (A : Option Addr) (n c : Nat) (k : List UInt8) (F : Nat → Prop) (x : UInt8) (w : World) (hr : Rd w F A n (Bs k)) (hx : k[0]? = some x) (h1 : ¬ 1 < x.toNat) :
    Calls Tryz.prog 91 #[.slice A n c] w fun e w' => e = .returned (.tuple #[.bool (x.toNat == 1), .int .i64 1, .int .i64 0]) ∧ w' = w := by
  have h0 := (List.getElem?_eq_some_iff.1 hx).1
  have hn : 0 < n := by have := hr.len; omega
  obtain ⟨ad, y, rfl, _, hy, hc⟩ := hr.byte hn
  obtain rfl : y = x := by rw [hx] at hy; exact (Option.some.inj hy).symm
  have q0 : (((n : Nat) : Int) == 0) = false := beq_eq_false_iff_ne.2 (by omega)
  have hc' : w.cell? ad = some (.int .u8 y.toNat) := hc
  have q1 : ¬ (1 : Int) < y.toNat := by omega
  have hb : (((y.toNat : Nat) : Int) == 1) = (y.toNat == 1) := by rw [Bool.eq_iff_iff]; simp only [beq_iff_eq]; omega
  have HB := Lib.hid hb
  clear hr hx hy h0 hc hb
  go_enter Tryz.func91, Tryz.ntmps91
  go_wp2_with fail
  go_ret3
  exact ⟨by rw [← HB.out]; rfl, rfl⟩

theorem byte1_cases (A : Option Addr) (n c : Nat) (k : List UInt8) (F : Nat → Prop) (w : World) (hr : Rd w F A n (Bs k)) :
    ∃ (m : UInt8) (s : Nat) (d : Int), (∀ i, Calls Tryz.prog 89 #[.slice A n c] (w.drewN i) fun e w' => e = .returned (.tuple #[.int .u8 m.toNat, .int .i64 s, .int .i64 d]) ∧ w' = w.drewN i) ∧ (d = 0 ∧ s ≤ k.length ∧ (∀ p l, k = l.drop p → rbyte l p = (m, p + s, 0)) ∨ ((d != 0) = true ∧ (∀ p l, k = l.drop p → rbyte l p = (0, p, d)))) := by
  obtain rfl : n = k.length := hr.len.symm
  cases hx : k[0]? with
  | none =>
    have hk : k.length = 0 := by simpa using hx
    refine ⟨0, 0, 2, fun i => by rw [hk]; exact byte1_none A c _, .inr ⟨rfl, fun p l e => ?_⟩⟩
    rw [e] at hx
    unfold rbyte; rw [drop_zero_at hx]
  | some x =>
    have h0 := (List.getElem?_eq_some_iff.1 hx).1
    refine ⟨x, 1, 0, fun i => byte1_some A _ c k F x _ hr hx, .inl ⟨rfl, by omega, fun p l e => ?_⟩⟩
    rw [e] at hx
    unfold rbyte; rw [drop_zero_at hx]

theorem bool1_cases (A : Option Addr) (n c : Nat) (k : List UInt8) (F : Nat → Prop) (w : World) (hr : Rd w F A n (Bs k)) :
    ∃ (m : Bool) (s : Nat) (d : Int), (∀ i, Calls Tryz.prog 91 #[.slice A n c] (w.drewN i) fun e w' => e = .returned (.tuple #[.bool m, .int .i64 s, .int .i64 d]) ∧ w' = w.drewN i) ∧ (d = 0 ∧ s ≤ k.length ∧ (∀ p l, k = l.drop p → rbool l p = (m, p + s, 0)) ∨ ((d != 0) = true ∧ (∀ p l, k = l.drop p → rbool l p = (false, p, d)))) := by
  obtain rfl : n = k.length := hr.len.symm
  cases hx : k[0]? with
  | none =>
    have hk : k.length = 0 := by simpa using hx
    refine ⟨false, 0, 2, fun i => by rw [hk]; exact bool1_none A c _, .inr ⟨rfl, fun p l e => ?_⟩⟩
    rw [e] at hx
    unfold rbool; rw [drop_zero_at hx]
  | some x =>
    have h0 := (List.getElem?_eq_some_iff.1 hx).1
    by_cases h1 : 1 < x.toNat
    · refine ⟨false, 0, 2, fun i => bool1_over A _ c k F x _ hr hx h1, .inr ⟨rfl, fun p l e => ?_⟩⟩
      rw [e] at hx
      unfold rbool; rw [drop_zero_at hx]; simp [h1]
    · refine ⟨x.toNat == 1, 1, 0, fun i => bool1_some A _ c k F x _ hr hx h1, .inl ⟨rfl, by omega, fun p l e => ?_⟩⟩
      rw [e] at hx
      unfold rbool; rw [drop_zero_at hx]; simp [h1]

set_option maxHeartbeats 400000 in
theorem fbyte_broken (g : Nat) (A : Option Addr) (c : Nat) (F : Nat → Prop) (k : List UInt8) (p : Nat) (code : Int) (f : Value) (w : World) (h : Rr w g A c F k p code) (hc : code ≠ 0) :
    Calls Tryz.prog 88 #[.pointer (some ⟨g, 0, none⟩), f] w fun e w' => e = .returned (.int .u8 0) ∧ w = w' := by
  have h2 := h.c2
  have q2 : (code != 0) = true := by rw [bne_iff_ne]; exact hc
  clear h hc
  go_enter Tryz.func88, Tryz.ntmps88
  go_wp2_with fail
  go_ret
  exact ⟨rfl, rfl⟩

set_option maxHeartbeats 800000 in
theorem fbyte_read (g : Nat) (A : Option Addr) (c : Nat) (F : Nat → Prop) (k : List UInt8) (p : Nat) (w : World) (h : Rr w g A c F k p 0) :
    Calls Tryz.prog 88 #[.pointer (some ⟨g, 0, none⟩), .func (.func 89) #[] #[]] w fun e w' => e = .returned (.int .u8 (rbyte k p).1.toNat) ∧ Readto w w' g A c F k (rbyte k p).2.1 (rbyte k p).2.2 := by
  have h0 := h.c0
  have h1 := h.c1
  have h2 := h.c2
  have hcap := h.cap
  have htop := h.top
  have hle := h.le
  unfold maxLen at htop
  have hsm := h.small
  have hsl : k.length - p ≤ 140737488355328 := by omega
  have f1 := h.f 1
  have f2 := h.f 2
  have hkd : (k.drop p).length = k.length - p := List.length_drop
  rcases h.left_cases with ⟨hcp, hl⟩ | ⟨hcp, hl⟩
  · obtain ⟨m, s, d, hcall, hres⟩ := byte1_cases _ _ 0 _ F w hl
    have H := Lib.hid h
    have HKD := Lib.hid hkd
    clear h hkd hl
    rcases hres with ⟨rfl, hs, hres⟩ | ⟨hd, hres⟩
    · rw [HKD.out] at hs
      have HE := Lib.hid (hres p k rfl)
      have HC := Lib.hid hcall
      clear hres hcall
      have hps : p + s ≤ 140737488355328 := by omega
      go_enter Tryz.func88, Tryz.ntmps88
      go_wp2_with fail
      go_quiet ((go_at_call 89; exact Calls.quiet_of_same (HC.out _)))
      go_wp2_with fail
      go_ret
      rw [HE.out]
      exact ⟨rfl, H.out.took _ (by omega) (by omega)⟩
    · have HE := Lib.hid (hres p k rfl)
      have HC := Lib.hid hcall
      clear hres hcall
      go_enter Tryz.func88, Tryz.ntmps88
      go_wp2_with fail
      go_quiet ((go_at_call 89; exact Calls.quiet_of_same (HC.out _)))
      go_wp2_with fail
      refine (fail_any g A c F k p d _ (H.out.drewN _)).mono ?_
      rintro e w' ⟨rfl, rfl⟩
      go_wp2_with fail
      go_ret
      rw [HE.out]
      exact ⟨rfl, H.out.fell _ _⟩
  · obtain ⟨m, s, d, hcall, hres⟩ := byte1_cases _ _ (c - p) _ F w hl
    have H := Lib.hid h
    have HKD := Lib.hid hkd
    clear h hkd hl
    rcases hres with ⟨rfl, hs, hres⟩ | ⟨hd, hres⟩
    · rw [HKD.out] at hs
      have HE := Lib.hid (hres p k rfl)
      have HC := Lib.hid hcall
      clear hres hcall
      have hps : p + s ≤ 140737488355328 := by omega
      go_enter Tryz.func88, Tryz.ntmps88
      go_wp2_with fail
      go_quiet ((go_at_call 89; exact Calls.quiet_of_same (HC.out _)))
      go_wp2_with fail
      go_ret
      rw [HE.out]
      exact ⟨rfl, H.out.took _ (by omega) (by omega)⟩
    · have HE := Lib.hid (hres p k rfl)
      have HC := Lib.hid hcall
      clear hres hcall
      go_enter Tryz.func88, Tryz.ntmps88
      go_wp2_with fail
      go_quiet ((go_at_call 89; exact Calls.quiet_of_same (HC.out _)))
      go_wp2_with fail
      refine (fail_any g A c F k p d _ (H.out.drewN _)).mono ?_
      rintro e w' ⟨rfl, rfl⟩
      go_wp2_with fail
      go_ret
      rw [HE.out]
      exact ⟨rfl, H.out.fell _ _⟩

set_option maxHeartbeats 400000 in
theorem fbool_broken (g : Nat) (A : Option Addr) (c : Nat) (F : Nat → Prop) (k : List UInt8) (p : Nat) (code : Int) (f : Value) (w : World) (h : Rr w g A c F k p code) (hc : code ≠ 0) :
    Calls Tryz.prog 90 #[.pointer (some ⟨g, 0, none⟩), f] w fun e w' => e = .returned (.bool false) ∧ w = w' := by
  have h2 := h.c2
  have q2 : (code != 0) = true := by rw [bne_iff_ne]; exact hc
  clear h hc
  go_enter Tryz.func90, Tryz.ntmps90
  go_wp2_with fail
  go_ret
  exact ⟨rfl, rfl⟩

set_option maxHeartbeats 800000 in
theorem fbool_read (g : Nat) (A : Option Addr) (c : Nat) (F : Nat → Prop) (k : List UInt8) (p : Nat) (w : World) (h : Rr w g A c F k p 0) :
    Calls Tryz.prog 90 #[.pointer (some ⟨g, 0, none⟩), .func (.func 91) #[] #[]] w fun e w' => e = .returned (.bool (rbool k p).1) ∧ Readto w w' g A c F k (rbool k p).2.1 (rbool k p).2.2 := by
  have h0 := h.c0
  have h1 := h.c1
  have h2 := h.c2
  have hcap := h.cap
  have htop := h.top
  have hle := h.le
  unfold maxLen at htop
  have hsm := h.small
  have hsl : k.length - p ≤ 140737488355328 := by omega
  have f1 := h.f 1
  have f2 := h.f 2
  have hkd : (k.drop p).length = k.length - p := List.length_drop
  rcases h.left_cases with ⟨hcp, hl⟩ | ⟨hcp, hl⟩
  · obtain ⟨m, s, d, hcall, hres⟩ := bool1_cases _ _ 0 _ F w hl
    have H := Lib.hid h
    have HKD := Lib.hid hkd
    clear h hkd hl
    rcases hres with ⟨rfl, hs, hres⟩ | ⟨hd, hres⟩
    · rw [HKD.out] at hs
      have HE := Lib.hid (hres p k rfl)
      have HC := Lib.hid hcall
      clear hres hcall
      have hps : p + s ≤ 140737488355328 := by omega
      go_enter Tryz.func90, Tryz.ntmps90
      go_wp2_with fail
      go_quiet ((go_at_call 91; exact Calls.quiet_of_same (HC.out _)))
      go_wp2_with fail
      go_ret
      rw [HE.out]
      exact ⟨rfl, H.out.took _ (by omega) (by omega)⟩
    · have HE := Lib.hid (hres p k rfl)
      have HC := Lib.hid hcall
      clear hres hcall
      go_enter Tryz.func90, Tryz.ntmps90
      go_wp2_with fail
      go_quiet ((go_at_call 91; exact Calls.quiet_of_same (HC.out _)))
      go_wp2_with fail
      refine (fail_any g A c F k p d _ (H.out.drewN _)).mono ?_
      rintro e w' ⟨rfl, rfl⟩
      go_wp2_with fail
      go_ret
      rw [HE.out]
      exact ⟨rfl, H.out.fell _ _⟩
  · obtain ⟨m, s, d, hcall, hres⟩ := bool1_cases _ _ (c - p) _ F w hl
    have H := Lib.hid h
    have HKD := Lib.hid hkd
    clear h hkd hl
    rcases hres with ⟨rfl, hs, hres⟩ | ⟨hd, hres⟩
    · rw [HKD.out] at hs
      have HE := Lib.hid (hres p k rfl)
      have HC := Lib.hid hcall
      clear hres hcall
      have hps : p + s ≤ 140737488355328 := by omega
      go_enter Tryz.func90, Tryz.ntmps90
      go_wp2_with fail
      go_quiet ((go_at_call 91; exact Calls.quiet_of_same (HC.out _)))
      go_wp2_with fail
      go_ret
      rw [HE.out]
      exact ⟨rfl, H.out.took _ (by omega) (by omega)⟩
    · have HE := Lib.hid (hres p k rfl)
      have HC := Lib.hid hcall
      clear hres hcall
      go_enter Tryz.func90, Tryz.ntmps90
      go_wp2_with fail
      go_quiet ((go_at_call 91; exact Calls.quiet_of_same (HC.out _)))
      go_wp2_with fail
      refine (fail_any g A c F k p d _ (H.out.drewN _)).mono ?_
      rintro e w' ⟨rfl, rfl⟩
      go_wp2_with fail
      go_ret
      rw [HE.out]
      exact ⟨rfl, H.out.fell _ _⟩

set_option maxHeartbeats 400000 in
theorem rbyte_ok (g : Nat) (A : Option Addr) (c : Nat) (F : Nat → Prop) (k : List UInt8) (p : Nat) (w : World) (h : Rr w g A c F k p 0) :
    Calls Tryz.prog 68 #[.pointer (some ⟨g, 0, none⟩)] w fun e w' => e = .returned (.int .u8 (rbyte k p).1.toNat) ∧ Readto w w' g A c F k (rbyte k p).2.1 (rbyte k p).2.2 := by
  have H := Lib.hid h
  clear h
  go_enter Tryz.func68, Tryz.ntmps68
  go_wp2_with fail
  refine (fbyte_read g A c F k p _ H.out).mono ?_
  rintro e w' ⟨rfl, hr⟩
  have HR := Lib.hid hr
  clear hr
  go_wp2_with fail
  go_ret
  exact ⟨rfl, HR.out⟩

set_option maxHeartbeats 400000 in
theorem rbyte_broken (g : Nat) (A : Option Addr) (c : Nat) (F : Nat → Prop) (k : List UInt8) (p : Nat) (code : Int) (w : World) (h : Rr w g A c F k p code) (hc : code ≠ 0) :
    Calls Tryz.prog 68 #[.pointer (some ⟨g, 0, none⟩)] w fun e w' => e = .returned (.int .u8 0) ∧ Below w.heap.size w w' := by
  have H := Lib.hid h
  clear h
  go_enter Tryz.func68, Tryz.ntmps68
  go_wp2_with fail
  refine (fbyte_broken g A c F k p code _ _ H.out hc).mono ?_
  rintro e w' ⟨rfl, rfl⟩
  go_wp2_with fail
  go_ret
  exact ⟨rfl, Below.refl _ _⟩

set_option maxHeartbeats 400000 in
theorem rbool_ok (g : Nat) (A : Option Addr) (c : Nat) (F : Nat → Prop) (k : List UInt8) (p : Nat) (w : World) (h : Rr w g A c F k p 0) :
    Calls Tryz.prog 70 #[.pointer (some ⟨g, 0, none⟩)] w fun e w' => e = .returned (.bool (rbool k p).1) ∧ Readto w w' g A c F k (rbool k p).2.1 (rbool k p).2.2 := by
  have H := Lib.hid h
  clear h
  go_enter Tryz.func70, Tryz.ntmps70
  go_wp2_with fail
  refine (fbool_read g A c F k p _ H.out).mono ?_
  rintro e w' ⟨rfl, hr⟩
  have HR := Lib.hid hr
  clear hr
  go_wp2_with fail
  go_ret
  exact ⟨rfl, HR.out⟩

set_option maxHeartbeats 400000 in
theorem rbool_broken (g : Nat) (A : Option Addr) (c : Nat) (F : Nat → Prop) (k : List UInt8) (p : Nat) (code : Int) (w : World) (h : Rr w g A c F k p code) (hc : code ≠ 0) :
    Calls Tryz.prog 70 #[.pointer (some ⟨g, 0, none⟩)] w fun e w' => e = .returned (.bool false) ∧ Below w.heap.size w w' := by
  have H := Lib.hid h
  clear h
  go_enter Tryz.func70, Tryz.ntmps70
  go_wp2_with fail
  refine (fbool_broken g A c F k p code _ _ H.out hc).mono ?_
  rintro e w' ⟨rfl, rfl⟩
  go_wp2_with fail
  go_ret
  exact ⟨rfl, Below.refl _ _⟩
end

section
set_option maxRecDepth 100000
open Go.RowKit

/-- A cut of a slice. -/
theorem Rd.cut {w : World} {F : Nat → Prop} {A : Option Addr} {n c lo hi : Nat} {k : List UInt8} (h : Rd w F A n (Bs k)) (h1 : lo ≤ hi) (h2 : hi ≤ n) (h3 : n ≤ c) :
    (c = lo ∧ Rd w F A (hi - lo) (Bs ((k.drop lo).take (hi - lo)))) ∨ (¬ c = lo ∧ Rd w F (Option.map (fun x => x.add lo) A) (hi - lo) (Bs ((k.drop lo).take (hi - lo)))) := by
  have hk := h.len
  by_cases hc : c = lo
  · refine .inl ⟨hc, ?_⟩
    have e : hi - lo = 0 := by omega
    rw [e]
    exact Rd.nil _ _ _
  · refine .inr ⟨hc, by simp [Bs]; omega, fun hn => ?_⟩
    obtain ⟨ad, rfl, hF, hb, hcell⟩ := h.2 (by omega)
    refine ⟨ad.add lo, rfl, by rw [add_block]; exact hF, by rw [add_block]; exact hb, fun j u hu => ?_⟩
    rw [add_add]
    refine hcell _ u ?_
    rw [← hu, Bs_get, Bs_get, List.getElem?_take, if_pos, List.getElem?_drop]
    have := (List.getElem?_eq_some_iff.1 hu).1
    simp [Bs] at this
    omega

set_option maxHeartbeats 400000 in
theorem bytes1_none (A : Option Addr) (n c : Nat) (k : List UInt8) (F : Nat → Prop) (q : Addr) (w : World) (hr : Rd w F A n (Bs k)) (hn : n ≤ 140737488355328) (hd : dec k = none) :
    Calls Tryz.prog 112 #[.slice A n c, .pointer (some q)] w fun e w' => e = .returned (.tuple #[.slice none 0 0, .int .i64 0, .int .i64 2]) ∧ w' = w := by
  have HD := Lib.hid hd
  clear hd
  go_enter Tryz.func112, Tryz.ntmps112
  go_wp2_with fail
  refine (split_any A n c k F _ hr hn).mono ?_
  rintro e w' ⟨rfl, rfl⟩
  rw [HD.out]
  go_wp2_with fail
  go_ret3
  exact ⟨rfl, rfl⟩

set_option maxHeartbeats 400000 in
theorem bytes1_over (A : Option Addr) (n c : Nat) (k : List UInt8) (F : Nat → Prop) (q : Addr) (most : Int) (m s : Nat) (w : World) (hr : Rd w F A n (Bs k)) (hn : n ≤ 140737488355328) (hq : w.cell? q = some (.int .i64 most)) (hm2 : most ≤ 9223372036854775807) (hd : dec k = some (m, s)) (hm : (max most 0).toNat < m) :
    Calls Tryz.prog 112 #[.slice A n c, .pointer (some q)] w fun e w' => e = .returned (.tuple #[.slice none 0 0, .int .i64 0, .int .i64 3]) ∧ w' = w := by
  have hs := (enc_dec hd).2.2.1
  have hsl := (enc_dec hd).2.1
  have hkl := hr.len
  have hml := (enc_dec hd).1
  have HD := Lib.hid hd
  clear hd
  have h1 : (((s : Nat) : Int) == 0) = false := beq_eq_false_iff_ne.2 (by omega)
  have HKL := Lib.hid hkl
  clear hkl
  by_cases h0 : 0 ≤ most
  · have h2 : most < m := by omega
    go_enter Tryz.func112, Tryz.ntmps112
    go_wp2_with fail
    refine (split_any A n c k F _ hr hn).mono ?_
    rintro e w' ⟨rfl, rfl⟩
    rw [HD.out]
    go_wp2_with fail
    go_ret3
    exact ⟨rfl, rfl⟩
  · have h2 : (0 : Int) < m := by omega
    go_enter Tryz.func112, Tryz.ntmps112
    go_wp2_with fail
    refine (split_any A n c k F _ hr hn).mono ?_
    rintro e w' ⟨rfl, rfl⟩
    rw [HD.out]
    go_wp2_with fail
    go_ret3
    exact ⟨rfl, rfl⟩

set_option maxHeartbeats 400000 in
theorem bytes1_short (A : Option Addr) (n c : Nat) (k : List UInt8) (F : Nat → Prop) (q : Addr) (most : Int) (m s : Nat) (w : World) (hr : Rd w F A n (Bs k)) (hn : n ≤ 140737488355328) (hq : w.cell? q = some (.int .i64 most)) (hm2 : most ≤ 9223372036854775807) (hd : dec k = some (m, s)) (hm : ¬ (max most 0).toNat < m) (hl : k.length - s < m) :
    Calls Tryz.prog 112 #[.slice A n c, .pointer (some q)] w fun e w' => e = .returned (.tuple #[.slice none 0 0, .int .i64 0, .int .i64 2]) ∧ w' = w := by
  have hs := (enc_dec hd).2.2.1
  have hsl := (enc_dec hd).2.1
  have hkl := hr.len
  have hml := (enc_dec hd).1
  have HD := Lib.hid hd
  clear hd
  have h1 : (((s : Nat) : Int) == 0) = false := beq_eq_false_iff_ne.2 (by omega)
  have h3 : (n : Int) - s < m := by omega
  have hsn : s ≤ n := by omega
  have HKL := Lib.hid hkl
  clear hkl
  by_cases h0 : 0 ≤ most
  · have h2 : ¬ most < m := by omega
    go_enter Tryz.func112, Tryz.ntmps112
    go_wp2_with fail
    refine (split_any A n c k F _ hr hn).mono ?_
    rintro e w' ⟨rfl, rfl⟩
    rw [HD.out]
    go_wp2_with fail
    go_ret3
    exact ⟨rfl, rfl⟩
  · omega

/-- What reading bytes leaves: a row of its own, and how many were taken. -/
def Got (w : World) (x : List UInt8) (t : Nat) (e : Ending) (w' : World) : Prop :=
  ∃ A c, e = .returned (.tuple #[.slice A x.length c, .int .i64 t, .int .i64 0]) ∧ w'.ownsRow w.heap.size 5 1 (.slice A x.length c) x.length (Bs x) ∧ Below w.heap.size w w'
theorem got {w w' : World} {x : List UInt8} {t : Nat} {A : Option Addr} {n c : Nat} {y : Int} (hn : n = x.length) (hy : y = t) (ho : w'.ownsRow w.heap.size 5 1 (.slice A n c) x.length (Bs x)) (hb : Below w.heap.size w w') :
    Got w x t (.returned (.tuple #[.slice A n c, .int .i64 y, .int .i64 0])) w' := by
  subst hn hy
  exact ⟨A, c, rfl, ho, hb⟩

set_option maxHeartbeats 800000 in
theorem bytes1_ok (A : Option Addr) (n c : Nat) (k : List UInt8) (F : Nat → Prop) (q : Addr) (most : Int) (m s : Nat) (w : World) (hr : Rd w F A n (Bs k)) (hn : n ≤ 140737488355328) (hnc : n ≤ c) (hct : c ≤ 9223372036854775807) (hq : w.cell? q = some (.int .i64 most)) (hm2 : most ≤ 9223372036854775807) (hd : dec k = some (m, s)) (hm : ¬ (max most 0).toNat < m) (hl : ¬ k.length - s < m) :
    Calls Tryz.prog 112 #[.slice A n c, .pointer (some q)] w (Got w ((k.drop s).take m) (s + m)) := by
  have hs := (enc_dec hd).2.2.1
  have hsl := (enc_dec hd).2.1
  have hkl := hr.len
  have hml := (enc_dec hd).1
  have HD := Lib.hid hd
  clear hd
  have h1 : (((s : Nat) : Int) == 0) = false := beq_eq_false_iff_ne.2 (by omega)
  have h3 : ¬ (n : Int) - s < m := by omega
  have hsn : s ≤ n := by omega
  have hsm : s + m ≤ n := by omega
  have hxl : ((k.drop s).take m).length = m := by simp; omega
  have HXL := Lib.hid hxl
  have HKL := Lib.hid hkl
  clear hkl hxl
  have hcut := hr.cut (lo := s) (hi := s + m) (by omega) hsm hnc
  rw [Nat.add_sub_cancel_left] at hcut
  have HR := Lib.hid hr
  clear hr
  generalize (k.drop s).take m = x at *
  by_cases h0 : 0 ≤ most
  · have h2 : ¬ most < m := by omega
    rcases hcut with ⟨hcs, hrc⟩ | ⟨hcs, hrc⟩
    · subst hcs
      have HRC := Lib.hid hrc
      clear hrc
      go_enter Tryz.func112, Tryz.ntmps112
      go_wp2_with fail
      refine (split_any A n _ k F _ HR.out hn).mono ?_
      rintro e w' ⟨rfl, rfl⟩
      rw [HD.out]
      go_wp2_with fail
      refine (clone_any _ m _ x F _ HRC.out (by omega)).mono ?_
      rintro e w1 ⟨v, rfl, hown, hb⟩
      obtain ⟨A1, c1, rfl⟩ := own_slice hown
      have HO := Lib.hid hown
      have HB := Lib.hid hb
      clear hown hb
      go_wp2_with fail
      go_ret3
      exact got rfl (by push_cast; rfl) HO.out HB.out
    · have HRC := Lib.hid hrc
      clear hrc
      go_enter Tryz.func112, Tryz.ntmps112
      go_wp2_with fail
      refine (split_any A n c k F _ HR.out hn).mono ?_
      rintro e w' ⟨rfl, rfl⟩
      rw [HD.out]
      go_wp2_with fail
      refine (clone_any _ m _ x F _ HRC.out (by omega)).mono ?_
      rintro e w1 ⟨v, rfl, hown, hb⟩
      obtain ⟨A1, c1, rfl⟩ := own_slice hown
      have HO := Lib.hid hown
      have HB := Lib.hid hb
      clear hown hb
      go_wp2_with fail
      go_ret3
      exact got rfl (by push_cast; rfl) HO.out HB.out
  · have h2 : ¬ (0 : Int) < m := by omega
    rcases hcut with ⟨hcs, hrc⟩ | ⟨hcs, hrc⟩
    · subst hcs
      have HRC := Lib.hid hrc
      clear hrc
      go_enter Tryz.func112, Tryz.ntmps112
      go_wp2_with fail
      refine (split_any A n _ k F _ HR.out hn).mono ?_
      rintro e w' ⟨rfl, rfl⟩
      rw [HD.out]
      go_wp2_with fail
      refine (clone_any _ m _ x F _ HRC.out (by omega)).mono ?_
      rintro e w1 ⟨v, rfl, hown, hb⟩
      obtain ⟨A1, c1, rfl⟩ := own_slice hown
      have HO := Lib.hid hown
      have HB := Lib.hid hb
      clear hown hb
      go_wp2_with fail
      go_ret3
      exact got rfl (by push_cast; rfl) HO.out HB.out
    · have HRC := Lib.hid hrc
      clear hrc
      go_enter Tryz.func112, Tryz.ntmps112
      go_wp2_with fail
      refine (split_any A n c k F _ HR.out hn).mono ?_
      rintro e w' ⟨rfl, rfl⟩
      rw [HD.out]
      go_wp2_with fail
      refine (clone_any _ m _ x F _ HRC.out (by omega)).mono ?_
      rintro e w1 ⟨v, rfl, hown, hb⟩
      obtain ⟨A1, c1, rfl⟩ := own_slice hown
      have HO := Lib.hid hown
      have HB := Lib.hid hb
      clear hown hb
      go_wp2_with fail
      go_ret3
      exact got rfl (by push_cast; rfl) HO.out HB.out
end

section
set_option maxRecDepth 100000
open Go.RowKit

set_option maxHeartbeats 800000 in
theorem fS_err (g : Nat) (A : Option Addr) (c : Nat) (F : Nat → Prop) (k : List UInt8) (p : Nat) (q : Addr) (d : Int) (w : World) (h : Rr w g A c F k p 0) (hd : (d != 0) = true)
    (hcall : ∀ X C i, (Rd w F X (k.length - p) (Bs (k.drop p))) → Calls Tryz.prog 112 #[.slice X (k.length - p) C, .pointer (some q)] (w.drewN i) fun e w' => e = .returned (.tuple #[.slice none 0 0, .int .i64 0, .int .i64 d]) ∧ w' = w.drewN i) :
    Calls Tryz.prog 111 #[.pointer (some ⟨g, 0, none⟩), .func (.func 112) #[] #[.pointer (some q)]] w fun e w' => e = .returned (.slice none 0 0) ∧ Readto w w' g A c F k p d := by
  have h0 := h.c0
  have h1 := h.c1
  have h2 := h.c2
  have hcap := h.cap
  have htop := h.top
  have hle := h.le
  unfold maxLen at htop
  have f2 := h.f 2
  have HCALL := Lib.hid hcall
  clear hcall
  rcases h.left_cases with ⟨hcp, hl⟩ | ⟨hcp, hl⟩
  · have H := Lib.hid h
    have HC := Lib.hid (fun i => HCALL.out A 0 i hl)
    clear h hl
    go_enter Tryz.func111, Tryz.ntmps111
    go_wp2_with fail
    go_quiet ((go_at_call 112; exact Calls.quiet_of_same (HC.out _)))
    go_wp2_with fail
    refine (fail_any g A c F k p d _ (H.out.drewN _)).mono ?_
    rintro e w' ⟨rfl, rfl⟩
    go_wp2_with fail
    go_ret
    exact ⟨rfl, H.out.fell _ _⟩
  · have H := Lib.hid h
    have HC := Lib.hid (fun i => HCALL.out (Option.map (fun x => x.add p) A) (c - p) i hl)
    clear h hl
    go_enter Tryz.func111, Tryz.ntmps111
    go_wp2_with fail
    go_quiet ((go_at_call 112; exact Calls.quiet_of_same (HC.out _)))
    go_wp2_with fail
    refine (fail_any g A c F k p d _ (H.out.drewN _)).mono ?_
    rintro e w' ⟨rfl, rfl⟩
    go_wp2_with fail
    go_ret
    exact ⟨rfl, H.out.fell _ _⟩

/-- What a reader leaves behind bytes that it read: they lie in a row of their own. -/
def Took (w : World) (g : Nat) (A : Option Addr) (c : Nat) (F : Nat → Prop) (k x : List UInt8) (p : Nat) (e : Ending) (w' : World) : Prop :=
  ∃ A1 c1, e = .returned (.slice A1 x.length c1) ∧ w'.ownsRow w.heap.size 5 1 (.slice A1 x.length c1) x.length (Bs x) ∧ Readto w w' g A c F k p 0
theorem took_row {w w1 : World} {g : Nat} {A : Option Addr} {c : Nat} {F : Nat → Prop} {k x : List UInt8} {p t : Nat} {A1 : Option Addr} {c1 : Nat} {y : Int} (h : Rr w g A c F k p 0)
    (ho : w1.ownsRow w.heap.size 5 1 (.slice A1 x.length c1) x.length (Bs x)) (hb : Below w.heap.size w.drew w1) (ht : p + t ≤ k.length) (hy : y = ((p + t : Nat) : Int)) :
    Took w g A c F k x (p + t) (.returned (.slice A1 x.length c1)) (w1.setCell ⟨g, 1, none⟩ (.int .i64 y)) := by
  subst hy
  have hb' : Below w.heap.size w w1 := ⟨hb.os, hb.tape, hb.output, hb.size, hb.block⟩
  have h1 := h.below hb'
  have hlt := h.lt
  refine ⟨A1, c1, rfl, ?_, h1.move ht, ((Only.of_below hb' (fun j => j = g))).setCell (p := ⟨g, 1, none⟩) (.inl rfl) _⟩
  refine own_only ho ((Only.refl (fun j => j = g) w1).setCell (p := ⟨g, 1, none⟩) (.inl rfl) _) fun j hj e => ?_
  have := (ho.lt j hj).1
  omega

set_option maxHeartbeats 800000 in
theorem fS_ok (g : Nat) (A : Option Addr) (c : Nat) (F : Nat → Prop) (k : List UInt8) (p : Nat) (q : Addr) (x : List UInt8) (t : Nat) (w : World) (h : Rr w g A c F k p 0) (ht : p + t ≤ k.length)
    (hcall : ∀ X C, (Rd w F X (k.length - p) (Bs (k.drop p))) → k.length - p ≤ C → C ≤ 9223372036854775807 → Calls Tryz.prog 112 #[.slice X (k.length - p) C, .pointer (some q)] w.drew (Got w.drew x t)) :
    Calls Tryz.prog 111 #[.pointer (some ⟨g, 0, none⟩), .func (.func 112) #[] #[.pointer (some q)]] w (Took w g A c F k x (p + t)) := by
  have h0 := h.c0
  have h1 := h.c1
  have h2 := h.c2
  have hcap := h.cap
  have htop := h.top
  have hle := h.le
  unfold maxLen at htop
  have hsm := h.small
  have hlt := h.lt
  have HCALL := Lib.hid hcall
  clear hcall
  rcases h.left_cases with ⟨hcp, hl⟩ | ⟨hcp, hl⟩
  · have H := Lib.hid h
    have HC := Lib.hid (HCALL.out A 0 hl (by omega) (by omega))
    clear h hl
    go_enter Tryz.func111, Tryz.ntmps111
    go_wp2_with fail
    go_region_held3 (fun w' => w'.cell? ⟨g, 0, none⟩ = some (.slice A k.length c) ∧ w'.cell? ⟨g, 1, none⟩ = some (.int .i64 p)) (go_keep)
      (first | (go_at_call 112; refine (HC.out).mono ?_; rintro e w1 ⟨A1, c1, rfl, hown, hb⟩; have hh0 := (hb.cell (p := ⟨g, 0, none⟩) hlt).trans h0; have hh1 := (hb.cell (p := ⟨g, 1, none⟩) hlt).trans h1; have hf1 := (hb.frozen (p := ⟨g, 1, none⟩) hlt).trans (H.out.f 1); have HO := Lib.hid hown; have HB := Lib.hid hb; clear hown hb))
    go_wp2_with fail
    go_ret
    exact took_row H.out HO.out HB.out ht (by omega)
  · have H := Lib.hid h
    have HC := Lib.hid (HCALL.out (Option.map (fun x => x.add p) A) (c - p) hl (by omega) (by omega))
    clear h hl
    go_enter Tryz.func111, Tryz.ntmps111
    go_wp2_with fail
    go_region_held3 (fun w' => w'.cell? ⟨g, 0, none⟩ = some (.slice A k.length c) ∧ w'.cell? ⟨g, 1, none⟩ = some (.int .i64 p)) (go_keep)
      (first | (go_at_call 112; refine (HC.out).mono ?_; rintro e w1 ⟨A1, c1, rfl, hown, hb⟩; have hh0 := (hb.cell (p := ⟨g, 0, none⟩) hlt).trans h0; have hh1 := (hb.cell (p := ⟨g, 1, none⟩) hlt).trans h1; have hf1 := (hb.frozen (p := ⟨g, 1, none⟩) hlt).trans (H.out.f 1); have HO := Lib.hid hown; have HB := Lib.hid hb; clear hown hb))
    go_wp2_with fail
    go_ret
    exact took_row H.out HO.out HB.out ht (by omega)
end

section
set_option maxRecDepth 100000
open Go.RowKit

/-- What a reader's call for bytes leaves: they lie in a row of their own; the reader stands where r says. -/
def DidRead (w : World) (g : Nat) (A : Option Addr) (c : Nat) (F : Nat → Prop) (k : List UInt8) (r : List UInt8 × Nat × Int) (e : Ending) (w' : World) : Prop :=
  ∃ A1 c1, e = .returned (.slice A1 r.1.length c1) ∧ w'.ownsRow w.heap.size 5 1 (.slice A1 r.1.length c1) r.1.length (Bs r.1) ∧ Readto w w' g A c F k r.2.1 r.2.2

section
variable {w w1 w' : World} {g : Nat} {A : Option Addr} {c : Nat} {F : Nat → Prop} {k x : List UInt8} {p : Nat} {d : Int} {e : Ending}
theorem Readto.after (h : Readto w1 w' g A c F k p d) (hb : Below w.heap.size w w1) : Readto w w' g A c F k p d :=
  ⟨h.rr, (Only.of_below hb _).trans h.only fun _ _ h => h⟩
theorem did_took {r : List UInt8 × Nat × Int} (h : Took w1 g A c F k x p e w') (hb : Below w.heap.size w w1) (hr : r = (x, p, 0)) : DidRead w g A c F k r e w' := by
  obtain ⟨A1, c1, rfl, ho, hto⟩ := h
  subst hr
  exact ⟨A1, c1, rfl, own_base ho hb.size, hto.after hb⟩
theorem did_err {r : List UInt8 × Nat × Int} (h : Readto w1 w' g A c F k p d) (hb : Below w.heap.size w w1) (hr : r = ([], p, d)) : DidRead w g A c F k r (.returned (.slice none 0 0)) w' := by
  subst hr
  exact ⟨none, 0, rfl, World.ownsRow_nil _ _ _ _, h.after hb⟩
end

set_option maxHeartbeats 400000 in
theorem rbytes_any (g : Nat) (A : Option Addr) (c : Nat) (F : Nat → Prop) (k : List UInt8) (p : Nat) (most : Int) (w : World) (h : Rr w g A c F k p 0) (hm : most ≤ 9223372036854775807) :
    Calls Tryz.prog 94 #[.pointer (some ⟨g, 0, none⟩), .int .i64 most] w (DidRead w g A c F k (rbytes k p most)) := by
  have hb : Below w.heap.size w (w.alloc (.cells #[.int .i64 most] 3)) := (Below.refl _ _).alloc (Nat.le_refl _) _
  have hr1 := h.below hb
  have hq : (w.alloc (.cells #[.int .i64 most] 3)).cell? ⟨w.heap.size, 0, none⟩ = some (.int .i64 most) := by simp
  have hsm := h.small
  have hsl : k.length - p ≤ 140737488355328 := by omega
  have H1 := Lib.hid hr1
  have HQ := Lib.hid hq
  clear h hr1 hq
  cases hd : dec (k.drop p) with
  | none =>
    have he : rbytes k p most = ([], p, 2) := by unfold rbytes; rw [hd]
    have HE := Lib.hid he
    have HD := Lib.hid hd
    clear he hd
    go_enter Tryz.func94, Tryz.ntmps94
    go_wp2_with fail
    refine (fS_err g A c F k p _ 2 _ H1.out rfl fun X C i hl => bytes1_none X _ C _ F _ _ hl hsl HD.out).mono ?_
    rintro e w' ⟨rfl, hto⟩
    have HT := Lib.hid hto
    clear hto
    go_wp2_with fail
    go_ret
    exact did_err HT.out hb HE.out
  | some r =>
    obtain ⟨m, s⟩ := r
    have hdl := (enc_dec hd).2.1
    have hkl : (k.drop p).length = k.length - p := List.length_drop
    by_cases hmm : (max most 0).toNat < m
    · have he : rbytes k p most = ([], p, 3) := by unfold rbytes; rw [hd]; simp only [if_pos hmm]
      have HE := Lib.hid he
      have HD := Lib.hid hd
      clear he hd
      go_enter Tryz.func94, Tryz.ntmps94
      go_wp2_with fail
      refine (fS_err g A c F k p _ 3 _ H1.out rfl fun X C i hl => bytes1_over X _ C _ F _ most m s _ hl hsl HQ.out hm HD.out hmm).mono ?_
      rintro e w' ⟨rfl, hto⟩
      have HT := Lib.hid hto
      clear hto
      go_wp2_with fail
      go_ret
      exact did_err HT.out hb HE.out
    · by_cases hll : (k.drop p).length - s < m
      · have he : rbytes k p most = ([], p, 2) := by unfold rbytes; rw [hd]; simp only [if_neg hmm, if_pos hll]
        have HE := Lib.hid he
        have HD := Lib.hid hd
        clear he hd
        go_enter Tryz.func94, Tryz.ntmps94
        go_wp2_with fail
        refine (fS_err g A c F k p _ 2 _ H1.out rfl fun X C i hl => bytes1_short X _ C _ F _ most m s _ hl hsl HQ.out hm HD.out hmm hll).mono ?_
        rintro e w' ⟨rfl, hto⟩
        have HT := Lib.hid hto
        clear hto
        go_wp2_with fail
        go_ret
        exact did_err HT.out hb HE.out
      · have he : rbytes k p most = (((k.drop p).drop s).take m, p + (s + m), 0) := by unfold rbytes; rw [hd]; simp only [if_neg hmm, if_neg hll]
        have hple := H1.out.le
        have HE := Lib.hid he
        have HD := Lib.hid hd
        clear he hd
        go_enter Tryz.func94, Tryz.ntmps94
        go_wp2_with fail
        refine (fS_ok g A c F k p _ (((k.drop p).drop s).take m) (s + m) _ H1.out (by omega) fun X C hl h1 h2 => bytes1_ok X _ C _ F _ most m s _ hl hsl h1 h2 HQ.out hm HD.out hmm hll).mono ?_
        rintro e w' ⟨A1, c1, rfl, ho, hto⟩
        have HT := Lib.hid hto
        have HO := Lib.hid ho
        clear hto ho
        generalize hx : ((k.drop p).drop s).take m = x at *
        have HX := Lib.hid hx
        clear hx
        go_wp2_with fail
        go_ret
        exact did_took ⟨A1, c1, rfl, HO.out, HT.out⟩ hb HE.out

set_option maxHeartbeats 400000 in
theorem fbytes_broken (g : Nat) (A : Option Addr) (c : Nat) (F : Nat → Prop) (k : List UInt8) (p : Nat) (code : Int) (f : Value) (w : World) (h : Rr w g A c F k p code) (hc : code ≠ 0) :
    Calls Tryz.prog 111 #[.pointer (some ⟨g, 0, none⟩), f] w fun e w' => e = .returned (.slice none 0 0) ∧ w = w' := by
  have h2 := h.c2
  have q2 : (code != 0) = true := by rw [bne_iff_ne]; exact hc
  clear h hc
  go_enter Tryz.func111, Tryz.ntmps111
  go_wp2_with fail
  go_ret
  exact ⟨rfl, rfl⟩

set_option maxHeartbeats 400000 in
theorem rbytes_broken (g : Nat) (A : Option Addr) (c : Nat) (F : Nat → Prop) (k : List UInt8) (p : Nat) (code : Int) (n : Int) (w : World) (h : Rr w g A c F k p code) (hc : code ≠ 0) :
    Calls Tryz.prog 94 #[.pointer (some ⟨g, 0, none⟩), .int .i64 n] w fun e w' => e = .returned (.slice none 0 0) ∧ Below w.heap.size w w' := by
  have hr1 := h.below ((Below.refl w.heap.size w).alloc (Nat.le_refl _) (.cells #[.int .i64 n] 3))
  have H1 := Lib.hid hr1
  clear h hr1
  go_enter Tryz.func94, Tryz.ntmps94
  go_wp2_with fail
  refine (fbytes_broken g A c F k p code _ _ H1.out hc).mono ?_
  rintro e w' ⟨rfl, rfl⟩
  go_wp2_with fail
  go_ret
  exact ⟨rfl, (Below.refl _ _).alloc (Nat.le_refl _) _⟩

set_option maxHeartbeats 400000 in
theorem rtext_any (g : Nat) (A : Option Addr) (c : Nat) (F : Nat → Prop) (k : List UInt8) (p : Nat) (most : Int) (w : World) (h : Rr w g A c F k p 0) (hm : most ≤ 9223372036854775807) :
    Calls Tryz.prog 72 #[.pointer (some ⟨g, 0, none⟩), .int .i64 most] w fun e w' => e = .returned (.string ⟨(rbytes k p most).1.toArray⟩) ∧ Readto w w' g A c F k (rbytes k p most).2.1 (rbytes k p most).2.2 := by
  have H := Lib.hid h
  clear h
  go_enter Tryz.func72, Tryz.ntmps72
  go_wp2_with fail
  refine (rbytes_any g A c F k p most _ H.out hm).mono ?_
  rintro e w' ⟨A1, c1, rfl, ho, hto⟩
  have HT := Lib.hid hto
  have HO := Lib.hid ho
  clear hto ho
  generalize hx : rbytes k p most = x at *
  have HX := Lib.hid hx
  clear hx
  have hconv := to_text A1 x.1.length c1 x.1 _ w' (Rd.of_own HO.out)
  go_wp2_with fail
  go_ret
  rw [HX.out]
  exact ⟨rfl, HT.out⟩

set_option maxHeartbeats 400000 in
theorem rtext_broken (g : Nat) (A : Option Addr) (c : Nat) (F : Nat → Prop) (k : List UInt8) (p : Nat) (code : Int) (most : Int) (w : World) (h : Rr w g A c F k p code) (hc : code ≠ 0) :
    Calls Tryz.prog 72 #[.pointer (some ⟨g, 0, none⟩), .int .i64 most] w fun e w' => e = .returned (.string ⟨#[]⟩) ∧ Below w.heap.size w w' := by
  have H := Lib.hid h
  clear h
  go_enter Tryz.func72, Tryz.ntmps72
  go_wp2_with fail
  refine (rbytes_broken g A c F k p code most _ H.out hc).mono ?_
  rintro e w' ⟨rfl, hb⟩
  have hconv := to_text none 0 0 [] (fun _ => True) w' (Rd.nil _ _ _)
  go_wp2_with fail
  go_ret
  exact ⟨rfl, hb⟩

/-- The signed number for which one stands. -/
def unzig (n : Nat) : Int := if n % 2 = 1 then -((n / 2 : Nat) : Int) - 1 else ((n / 2 : Nat) : Int)
theorem unzig_zig (n : Int) : unzig (zig n) = n := by unfold unzig zig; split <;> split <;> omega

theorem and_one64 {n : Nat} (h : n < 18446744073709551616) : bits .and .u64 (n : Int) 1 = ((n % 2 : Nat) : Int) := by
  have h1 := u64_and_nat n 1 h (by omega)
  rw [nat_mask1] at h1
  exact h1
theorem unfold_odd {n : Nat} (h : n < 18446744073709551616) (h2 : n % 2 = 1) : wrap64 (bits .xor .u64 IntKind.u64.max ((n : Int) / 2)) = unzig n := by
  rw [show ((n : Int) / 2) = ((n / 2 : Nat) : Int) from by omega, not64 (by omega)]
  unfold unzig wrap64
  rw [if_pos h2]
  omega

set_option maxHeartbeats 400000 in
theorem unfold_any (n : Nat) (w : World) (h : n < 18446744073709551616) :
    Calls Tryz.prog 92 #[.int .u64 n] w fun e w' => e = .returned (.int .i64 (unzig n)) ∧ w = w' := by
  by_cases h2 : n % 2 = 1
  · have q : (bits .and .u64 (n : Int) 1 == 1) = true := by rw [and_one64 h, h2]; rfl
    have HU := Lib.hid (unfold_odd h h2)
    go_enter Tryz.func92, Tryz.ntmps92
    go_wp2_with fail
    go_ret
    exact ⟨by rw [← HU.out]; rfl, rfl⟩
  · have q : (bits .and .u64 (n : Int) 1 == 1) = false := by rw [and_one64 h]; exact beq_eq_false_iff_ne.2 (by omega)
    have hu : ((n : Int) / 2) = unzig n := by unfold unzig; rw [if_neg h2]; omega
    have HU := Lib.hid hu
    clear hu
    go_enter Tryz.func92, Tryz.ntmps92
    go_wp2_with fail
    go_ret
    exact ⟨by rw [← HU.out]; rfl, rfl⟩

/-- What reading a signed number comes to. -/
def rint (k : List UInt8) (p : Nat) : Int × Nat × Int := (unzig (rnum k p 18446744073709551615).1, (rnum k p 18446744073709551615).2)

theorem rnum_lt (k : List UInt8) (p most : Nat) : (rnum k p most).1 < 18446744073709551616 := by
  unfold rnum
  cases hd : dec (k.drop p) with
  | none => show 0 < _; omega
  | some r =>
    obtain ⟨m, s⟩ := r
    have := (enc_dec hd).1
    simp only []
    split
    · show 0 < _; omega
    · exact this

set_option maxHeartbeats 400000 in
theorem rint_any (g : Nat) (A : Option Addr) (c : Nat) (F : Nat → Prop) (k : List UInt8) (p : Nat) (w : World) (h : Rr w g A c F k p 0) :
    Calls Tryz.prog 71 #[.pointer (some ⟨g, 0, none⟩)] w fun e w' => e = .returned (.int .i64 (rint k p).1) ∧ Readto w w' g A c F k (rint k p).2.1 (rint k p).2.2 := by
  have H := Lib.hid h
  clear h
  have hlt := rnum_lt k p 18446744073709551615
  have hre : rint k p = (unzig (rnum k p 18446744073709551615).1, (rnum k p 18446744073709551615).2) := rfl
  have HRE := Lib.hid hre
  clear hre
  go_enter Tryz.func71, Tryz.ntmps71
  go_wp2_with fail
  refine (rnumber_ok g A c F k p 18446744073709551615 _ H.out).mono ?_
  rintro e w' ⟨rfl, hto⟩
  have HT := Lib.hid hto
  clear hto
  go_wp2_with fail
  refine (unfold_any _ _ hlt).mono ?_
  rintro e w'' ⟨rfl, rfl⟩
  go_wp2_with fail
  go_ret
  rw [HRE.out]
  exact ⟨rfl, HT.out⟩

set_option maxHeartbeats 400000 in
theorem rint_broken (g : Nat) (A : Option Addr) (c : Nat) (F : Nat → Prop) (k : List UInt8) (p : Nat) (code : Int) (w : World) (h : Rr w g A c F k p code) (hc : code ≠ 0) :
    Calls Tryz.prog 71 #[.pointer (some ⟨g, 0, none⟩)] w fun e w' => e = .returned (.int .i64 0) ∧ Below w.heap.size w w' := by
  have H := Lib.hid h
  clear h
  go_enter Tryz.func71, Tryz.ntmps71
  go_wp2_with fail
  refine (rnumber_broken g A c F k p code _ _ H.out hc).mono ?_
  rintro e w' ⟨rfl, hb⟩
  go_wp2_with fail
  refine (unfold_any 0 _ (by omega)).mono ?_
  rintro e w'' ⟨rfl, rfl⟩
  go_wp2_with fail
  go_ret
  exact ⟨rfl, hb⟩
end

section
set_option maxRecDepth 100000
set_option linter.unusedSimpArgs false
set_option linter.unusedVariables false
open Go.RowKit

theorem rnum_at {k R : List UInt8} {p n most : Nat} (h : k.drop p = enc n ++ R) (hn : n < 18446744073709551616) (hm : n ≤ most) : rnum k p most = (n, p + (enc n).length, 0) := by
  unfold rnum
  rw [h, dec_enc hn]
  simp only
  rw [if_neg (by omega)]
theorem rbytes_at {k b R : List UInt8} {p : Nat} {most : Int} (h : k.drop p = enc b.length ++ (b ++ R)) (hm : (b.length : Int) ≤ most) (hb : b.length < 18446744073709551616) : rbytes k p most = (b, p + ((enc b.length).length + b.length), 0) := by
  unfold rbytes
  rw [h, dec_enc hb]
  simp only
  rw [if_neg (by omega), if_neg (by simp only [List.length_append]; omega), List.drop_left, List.take_left]
theorem bytes_text (s : ByteArray) : (⟨s.data.toList.toArray⟩ : ByteArray) = s := by
  obtain ⟨d⟩ := s
  simp
theorem drop_more {k b R : List UInt8} {p : Nat} (h : k.drop p = b ++ R) : k.drop (p + b.length) = R := by
  rw [← List.drop_drop, h, List.drop_left]

section
variable (g : Nat) (A : Option Addr) (c : Nat) (F : Nat → Prop) (k : List UInt8) (p : Nat)
theorem count_any (n : Nat) (R : List UInt8) (w : World) (h : Rr w g A c F k p 0) (hk : k.drop p = enc n ++ R) (hn : n ≤ 8) :
    Calls Tryz.prog 98 #[.pointer (some ⟨g, 0, none⟩), .int .i64 8] w fun e w' => e = .returned (.int .i64 n) ∧ Readto w w' g A c F k (p + (enc n).length) 0 := by
  have hr := rnumber_ok g A c F k p 18446744073709551615 w h
  rw [rnum_at hk (by omega) (by omega)] at hr
  have HR := Lib.hid hr
  have hn8 : (n : Int) ≤ 8 := by omega
  clear h hk hr
  go_enter Tryz.func98, Tryz.ntmps98
  go_wp2_with fail
  refine HR.out.mono ?_
  rintro e W1 ⟨rfl, hto⟩
  have HT := Lib.hid hto
  clear hto
  go_wp2_with fail
  go_ret
  exact ⟨by first | rfl | (simp), HT.out⟩
theorem sread_any (s : ByteArray) (R : List UInt8) (w : World) (h : Rr w g A c F k p 0) (hk : k.drop p = enc s.size ++ (s.data.toList ++ R)) (hs : s.size ≤ 64) :
    Calls Tryz.prog 96 #[.pointer (some ⟨g, 0, none⟩)] w fun e w' => e = .returned (.string s) ∧ Readto w w' g A c F k (p + ((enc s.size).length + s.size)) 0 := by
  have hsl : s.data.toList.length = s.size := by simp
  have hr := rtext_any g A c F k p 64 w h (by omega)
  rw [rbytes_at (b := s.data.toList) (R := R) (by rw [hsl]; exact hk) (by omega) (by omega), hsl, bytes_text] at hr
  have HR := Lib.hid hr
  clear h hk hr
  go_enter Tryz.func96, Tryz.ntmps96
  go_wp2_with fail
  refine HR.out.mono ?_
  rintro e W1 ⟨rfl, hto⟩
  have HT := Lib.hid hto
  clear hto
  go_wp2_with fail
  go_ret
  exact ⟨rfl, HT.out⟩
theorem nread_any (n : Nat) (R : List UInt8) (w : World) (h : Rr w g A c F k p 0) (hk : k.drop p = enc n ++ R) (hn : n < 18446744073709551616) :
    Calls Tryz.prog 115 #[.pointer (some ⟨g, 0, none⟩)] w fun e w' => e = .returned (.int .u64 n) ∧ Readto w w' g A c F k (p + (enc n).length) 0 := by
  have hr := rnumber_ok g A c F k p 18446744073709551615 w h
  rw [rnum_at hk hn (by omega)] at hr
  have HR := Lib.hid hr
  clear h hk hr
  go_enter Tryz.func115, Tryz.ntmps115
  go_wp2_with fail
  refine HR.out.mono ?_
  rintro e W1 ⟨rfl, hto⟩
  have HT := Lib.hid hto
  clear hto
  go_wp2_with fail
  go_ret
  exact ⟨rfl, HT.out⟩
theorem readto_trans {g : Nat} {A : Option Addr} {c : Nat} {F : Nat → Prop} {k : List UInt8} {p q : Nat} {d d' : Int} {w w' w'' : World} (h : Readto w w' g A c F k p d) (h' : Readto w' w'' g A c F k q d') : Readto w w'' g A c F k q d' :=
  ⟨h'.rr, h.only.trans h'.only fun _ _ h => h⟩
/-- A new block of the call's own is filled: the reader stands as it did. -/
theorem only_setRow (w : World) (b : Nat) (cs : Array Value) : Only (fun j => j = b) w (w.setRow b cs) :=
  ⟨rfl, rfl, rfl, by simp [World.setRow], fun k _ hn => setRow_other w b k cs (fun e => hn e)⟩
theorem readto_set {g : Nat} {A : Option Addr} {c : Nat} {F : Nat → Prop} {k : List UInt8} {p : Nat} {d : Int} {w w' : World} {o : Obj} {cs : Array Value} (h : Readto (w.alloc o) w' g A c F k p d) (hg : g < w.heap.size) (hF : ∀ j, F j → j < g) : Readto w (w'.setRow w.heap.size cs) g A c F k p d := by
  refine ⟨h.rr.only (only_setRow w' _ cs) (by omega) (fun j hj e => by have h1 := hF j hj; have h2 : j = w.heap.size := e; omega), ?_⟩
  have h1 : Only (fun j => j = g) w w' := (Only.of_below (below_new w o) _).trans h.only fun _ _ h => h
  exact h1.trans (only_setRow w' _ cs) fun j hj e => by have h2 : j = w.heap.size := e; omega
theorem st_one (s : ByteArray) (i : Int) : (#[Value.string s, Value.int .u64 i].all fun x => x.oneCell') = true := by simp [Value.oneCell']
theorem stB_cases {x : Stp} (h : stB x = true) : (x.s.size ≠ 0 ∧ nameB x.s = true ∧ x.id = 0) ∨ (x.s = ByteArray.empty ∧ x.id ≠ 0) := by
  unfold stB at h
  rw [Bool.or_eq_true, Bool.and_eq_true, Bool.and_eq_true] at h
  rcases h with ⟨h1, h2⟩ | ⟨h1, h2⟩
  · exact .inl ⟨(name_size h1).1, h1, eq_of_beq h2⟩
  · exact .inr ⟨empty_of (of_decide_eq_true h1), bne_iff_ne.1 h2⟩

end

def stc (l : List Stp) : List Value := l.flatMap fun x => [.string x.s, .int .u64 x.id]
theorem stc_more {l : List Stp} {j : Nat} (hj : j < l.length) : stc (l.take (j + 1)) = stc (l.take j) ++ [.string (stp l j).s, .int .u64 (stp l j).id] := by
  unfold stc
  rw [List.take_add_one, stp_get hj, List.flatMap_append]
  simp
theorem stc_get : ∀ (l : List Stp) (i : Nat) (x : Stp), l[i]? = some x → (stc l)[i * 2]? = some (.string x.s) ∧ (stc l)[i * 2 + 1]? = some (.int .u64 x.id)
  | [], i, x, h => by simp at h
  | y :: l, 0, x, h => by
    simp at h
    subst h
    exact ⟨rfl, rfl⟩
  | y :: l, i + 1, x, h => by
    have ih := stc_get l i x (by simpa using h)
    have e1 : (i + 1) * 2 = i * 2 + 2 := by omega
    rw [e1]
    exact ih
theorem stc_length (l : List Stp) : (stc l).length = l.length * 2 := by
  induction l with
  | nil => rfl
  | cons x l ih => show (stc l).length + 2 = _; rw [ih, List.length_cons]; omega
theorem pB_split {l : List Stp} {j : Nat} (hj : j < l.length) : pBytes l = pB l j ++ (stBytes (stp l j) ++ (l.drop (j + 1)).flatMap stBytes) := by
  unfold pBytes pB
  rw [List.take_length, List.append_assoc]
  congr 1
  rw [← List.flatMap_cons, ← List.flatMap_append]
  congr 1
  conv => lhs; rw [← List.take_append_drop j l]
  congr 1
  rw [List.drop_eq_getElem_cons hj]
  congr 1
  unfold stp
  rw [List.getD, List.getElem?_eq_getElem hj]
  rfl
theorem only_grown {w w' : World} {row : Option Nat} (h : w.grownBy w' row) : Only (fun j => row = some j) w w' :=
  ⟨h.os, h.tape, h.output, h.size, fun k hk hn => h.block k hk (fun e => hn e.symm)⟩
theorem readto_grown {g : Nat} {A : Option Addr} {c : Nat} {F : Nat → Prop} {k : List UInt8} {p : Nat} {d : Int} {w w' w'' : World} {row : Option Nat} (h : Readto w w' g A c F k p d) (hg : g < w.heap.size) (hF : ∀ j, F j → j < g) (hw : w'.grownBy w'' row) (hr : ∀ k, row = some k → w.heap.size ≤ k) : Readto w w'' g A c F k p d := by
  refine ⟨h.rr.only (only_grown hw) (fun e => by have := hr _ e; omega) (fun j hj e => by have h1 := hF j hj; have h2 := hr _ e; omega), ?_⟩
  exact h.only.trans (only_grown hw) fun j hj e => by have h2 := hr _ e; omega
theorem readto_new {g : Nat} {A : Option Addr} {c : Nat} {F : Nat → Prop} {k : List UInt8} {p : Nat} {d : Int} {w w' : World} (h : Readto w w' g A c F k p d) (o : Obj) : Readto w (w'.alloc o) g A c F k p d :=
  ⟨h.rr.below (below_new w' o), h.only.alloc o⟩
end

section
set_option maxRecDepth 100000
set_option linter.unusedSimpArgs false
set_option linter.unusedVariables false
open Go.RowKit

theorem readto_then {g : Nat} {A : Option Addr} {c : Nat} {F : Nat → Prop} {k : List UInt8} {p : Nat} {d : Int} {w w' w'' : World} (h : Readto w w' g A c F k p d) (hb : Below w'.heap.size w' w'') : Readto w w'' g A c F k p d :=
  ⟨h.rr.below hb, h.only.trans (Only.of_below hb _) fun _ _ h => h⟩
theorem fwc_any (q : Addr) (a : Option Addr) (n cap : Nat) (l : List ByteArray) (s : ByteArray) (hs : s.size ≤ maxLen) (hn : n ≤ 9223372036854775807) (hf : folB l s = true) (w : World) (hq : w.cell? q = some (.slice a n cap)) (h : Strs w a n l) :
    Calls Tryz.prog 99 #[.string s, .pointer (some q)] w fun e w' => e = .returned (.bool true) ∧ Below w.heap.size w w' := by
  have hr := follows_any a n cap l s hs hn w h
  rw [hf] at hr
  have HR := Lib.hid hr
  clear hr h hs hn hf
  go_enter Tryz.func99, Tryz.ntmps99
  go_wp2_with fail
  refine HR.out.mono ?_
  rintro e W1 ⟨rfl, hb⟩
  have HB := Lib.hid hb
  clear hb
  go_wp2_with fail
  go_ret
  exact ⟨rfl, by rw [HB.out]; exact Below.refl _ _⟩
section
variable (g : Nat) (A : Option Addr) (c : Nat) (F : Nat → Prop) (k : List UInt8) (p : Nat)
theorem fasked_any (q : Addr) (a : Option Addr) (n cap : Nat) (l : List ByteArray) (s : ByteArray) (R : List UInt8) (w : World) (h : Rr w g A c F k p 0) (hk : k.drop p = enc s.size ++ (s.data.toList ++ R)) (hs : s.size ≤ 64)
    (hn : n ≤ 9223372036854775807) (hf : folB l s = true) (hq : w.cell? q = some (.slice a n cap)) (hqg : q.block ≠ g) (hl : Rd w (fun j => j ≠ g) a n (l.map .string)) :
    Calls Tryz.prog 95 #[.pointer (some ⟨g, 0, none⟩), .func (.func 96) #[] #[], .func (.func 99) #[] #[.pointer (some q)]] w fun e w' => e = .returned (.string s) ∧ Readto w w' g A c F k (p + ((enc s.size).length + s.size)) 0 := by
  have HR := Lib.hid (sread_any g A c F k p s R w h hk hs)
  have HA := Lib.hid (show ∀ w1 : World, Only (fun j => j = g) w w1 → Calls Tryz.prog 99 #[.string s, .pointer (some q)] w1 fun e w' => e = .returned (.bool true) ∧ Below w1.heap.size w1 w' from
    fun w1 ho => fwc_any q a n cap l s (by unfold maxLen; omega) hn hf w1 ((ho.cell hqg (lt_of_cell hq)).trans hq) ((hl.only ho fun _ h => h).mono fun _ _ _ => trivial))
  clear h hk hf hq hl
  go_enter Tryz.func95, Tryz.ntmps95
  go_wp2_with fail
  refine HR.out.mono ?_
  rintro e W1 ⟨rfl, hto⟩
  have HT := Lib.hid hto
  clear hto
  go_wp2_with fail
  refine (HA.out _ HT.out.only).mono ?_
  rintro e W2 ⟨rfl, hb⟩
  have HB := Lib.hid hb
  clear hb
  go_wp2_with fail
  go_ret
  exact ⟨rfl, readto_then HT.out HB.out⟩
theorem fword_any (q : Addr) (a : Option Addr) (n cap : Nat) (l : List ByteArray) (s : ByteArray) (R : List UInt8) (w : World) (h : Rr w g A c F k p 0) (hk : k.drop p = enc s.size ++ (s.data.toList ++ R)) (hs : s.size ≤ 64)
    (hn : n ≤ 9223372036854775807) (hf : folB l s = true) (hq : w.cell? q = some (.slice a n cap)) (hqg : q.block ≠ g) (hl : Rd w (fun j => j ≠ g) a n (l.map .string)) :
    Calls Tryz.prog 73 #[.pointer (some ⟨g, 0, none⟩), .func (.func 99) #[] #[.pointer (some q)]] w fun e w' => e = .returned (.string s) ∧ Readto w w' g A c F k (p + ((enc s.size).length + s.size)) 0 := by
  have HA := Lib.hid (fasked_any g A c F k p q a n cap l s R w h hk hs hn hf hq hqg hl)
  clear h hk hf hq hl
  go_enter Tryz.func73, Tryz.ntmps73
  go_wp2_with fail
  refine HA.out.mono ?_
  rintro e W1 ⟨rfl, hto⟩
  have HT := Lib.hid hto
  clear hto
  go_wp2_with fail
  go_ret
  exact ⟨rfl, HT.out⟩
end
end

end Go.Proofs.YtkjhmplnamaoaaaGreatDoor
