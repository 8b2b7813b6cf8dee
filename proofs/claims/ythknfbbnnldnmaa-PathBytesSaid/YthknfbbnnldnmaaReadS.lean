/- What reading bytes comes to, whatever the reader's bytes are. -/
import Derived.Test.YthknfbbnnldnmaaReadB
import Derived.StillTailTactics
namespace Go.Proofs.Ythknfbbnnldnmaa
set_option maxRecDepth 100000
open Go.RowKit

/-- A cut of a slice. -/
theorem Rd.cut {w : World} {F : Nat → Prop} {A : Option Addr} {n c lo hi : Nat} {k : List UInt8} (h : Rd w F A n (Bs k)) (h1 : lo ≤ hi) (h2 : hi ≤ n) (h3 : n ≤ c) :
    (c = lo ∧ Rd w F A (hi - lo) (Bs ((k.drop lo).take (hi - lo)))) ∨ (¬ c = lo ∧ Rd w F (Option.map (fun x => x.add lo) A) (hi - lo) (Bs ((k.drop lo).take (hi - lo)))) := by
  have hk := h.len
  by_cases hc : c = lo
  · refine .inl ⟨hc, ?_⟩
    have e : hi - lo = 0 := by omega
    rw [e]
    exact Rd.nil _ _ _
  · refine .inr ⟨hc, by simp [Bs]; omega, fun hn => ?_⟩
    obtain ⟨ad, rfl, hF, hb, hcell⟩ := h.2 (by omega)
    refine ⟨ad.add lo, rfl, by rw [add_block]; exact hF, by rw [add_block]; exact hb, fun j u hu => ?_⟩
    rw [add_add]
    refine hcell _ u ?_
    rw [← hu, Bs_get, Bs_get, List.getElem?_take, if_pos, List.getElem?_drop]
    have := (List.getElem?_eq_some_iff.1 hu).1
    simp [Bs] at this
    omega

set_option maxHeartbeats 400000 in
theorem bytes1_none (A : Option Addr) (n c : Nat) (k : List UInt8) (F : Nat → Prop) (q : Addr) (w : World) (hr : Rd w F A n (Bs k)) (hn : n ≤ 140737488355328) (hd : dec k = none) :
    Calls Try.prog 89 #[.slice A n c, .pointer (some q)] w fun e w' => e = .returned (.tuple #[.slice none 0 0, .int .i64 0, .int .i64 2]) ∧ w' = w := by
  have HD := Lib.hid hd
  clear hd
  go_enter Try.func89, Try.ntmps89
  go_wp2_with fail
  refine (split_any A n c k F _ hr hn).mono ?_
  rintro e w' ⟨rfl, rfl⟩
  rw [HD.out]
  go_wp2_with fail
  go_ret3
  exact ⟨rfl, rfl⟩

set_option maxHeartbeats 400000 in
theorem bytes1_over (A : Option Addr) (n c : Nat) (k : List UInt8) (F : Nat → Prop) (q : Addr) (most : Int) (m s : Nat) (w : World) (hr : Rd w F A n (Bs k)) (hn : n ≤ 140737488355328) (hq : w.cell? q = some (.int .i64 most)) (hm2 : most ≤ 9223372036854775807) (hd : dec k = some (m, s)) (hm : (max most 0).toNat < m) :
    Calls Try.prog 89 #[.slice A n c, .pointer (some q)] w fun e w' => e = .returned (.tuple #[.slice none 0 0, .int .i64 0, .int .i64 3]) ∧ w' = w := by
  have hs := (enc_dec hd).2.2.1
  have hsl := (enc_dec hd).2.1
  have hkl := hr.len
  have hml := (enc_dec hd).1
  have HD := Lib.hid hd
  clear hd
  have h1 : (((s : Nat) : Int) == 0) = false := beq_eq_false_iff_ne.2 (by omega)
  have HKL := Lib.hid hkl
  clear hkl
  by_cases h0 : 0 ≤ most
  · have h2 : most < m := by omega
    go_enter Try.func89, Try.ntmps89
    go_wp2_with fail
    refine (split_any A n c k F _ hr hn).mono ?_
    rintro e w' ⟨rfl, rfl⟩
    rw [HD.out]
    go_wp2_with fail
    go_ret3
    exact ⟨rfl, rfl⟩
  · have h2 : (0 : Int) < m := by omega
    go_enter Try.func89, Try.ntmps89
    go_wp2_with fail
    refine (split_any A n c k F _ hr hn).mono ?_
    rintro e w' ⟨rfl, rfl⟩
    rw [HD.out]
    go_wp2_with fail
    go_ret3
    exact ⟨rfl, rfl⟩

set_option maxHeartbeats 400000 in
theorem bytes1_short (A : Option Addr) (n c : Nat) (k : List UInt8) (F : Nat → Prop) (q : Addr) (most : Int) (m s : Nat) (w : World) (hr : Rd w F A n (Bs k)) (hn : n ≤ 140737488355328) (hq : w.cell? q = some (.int .i64 most)) (hm2 : most ≤ 9223372036854775807) (hd : dec k = some (m, s)) (hm : ¬ (max most 0).toNat < m) (hl : k.length - s < m) :
    Calls Try.prog 89 #[.slice A n c, .pointer (some q)] w fun e w' => e = .returned (.tuple #[.slice none 0 0, .int .i64 0, .int .i64 2]) ∧ w' = w := by
  have hs := (enc_dec hd).2.2.1
  have hsl := (enc_dec hd).2.1
  have hkl := hr.len
  have hml := (enc_dec hd).1
  have HD := Lib.hid hd
  clear hd
  have h1 : (((s : Nat) : Int) == 0) = false := beq_eq_false_iff_ne.2 (by omega)
  have h3 : (n : Int) - s < m := by omega
  have hsn : s ≤ n := by omega
  have HKL := Lib.hid hkl
  clear hkl
  by_cases h0 : 0 ≤ most
  · have h2 : ¬ most < m := by omega
    go_enter Try.func89, Try.ntmps89
    go_wp2_with fail
    refine (split_any A n c k F _ hr hn).mono ?_
    rintro e w' ⟨rfl, rfl⟩
    rw [HD.out]
    go_wp2_with fail
    go_ret3
    exact ⟨rfl, rfl⟩
  · omega

/-- What reading bytes leaves: a row of its own, and how many were taken. -/
def Got (w : World) (x : List UInt8) (t : Nat) (e : Ending) (w' : World) : Prop :=
  ∃ A c, e = .returned (.tuple #[.slice A x.length c, .int .i64 t, .int .i64 0]) ∧ w'.ownsRow w.heap.size 5 1 (.slice A x.length c) x.length (Bs x) ∧ Below w.heap.size w w'
theorem got {w w' : World} {x : List UInt8} {t : Nat} {A : Option Addr} {n c : Nat} {y : Int} (hn : n = x.length) (hy : y = t) (ho : w'.ownsRow w.heap.size 5 1 (.slice A n c) x.length (Bs x)) (hb : Below w.heap.size w w') :
    Got w x t (.returned (.tuple #[.slice A n c, .int .i64 y, .int .i64 0])) w' := by
  subst hn hy
  exact ⟨A, c, rfl, ho, hb⟩

set_option maxHeartbeats 800000 in
theorem bytes1_ok (A : Option Addr) (n c : Nat) (k : List UInt8) (F : Nat → Prop) (q : Addr) (most : Int) (m s : Nat) (w : World) (hr : Rd w F A n (Bs k)) (hn : n ≤ 140737488355328) (hnc : n ≤ c) (hct : c ≤ 9223372036854775807) (hq : w.cell? q = some (.int .i64 most)) (hm2 : most ≤ 9223372036854775807) (hd : dec k = some (m, s)) (hm : ¬ (max most 0).toNat < m) (hl : ¬ k.length - s < m) :
    Calls Try.prog 89 #[.slice A n c, .pointer (some q)] w (Got w ((k.drop s).take m) (s + m)) := by
  have hs := (enc_dec hd).2.2.1
  have hsl := (enc_dec hd).2.1
  have hkl := hr.len
  have hml := (enc_dec hd).1
  have HD := Lib.hid hd
  clear hd
  have h1 : (((s : Nat) : Int) == 0) = false := beq_eq_false_iff_ne.2 (by omega)
  have h3 : ¬ (n : Int) - s < m := by omega
  have hsn : s ≤ n := by omega
  have hsm : s + m ≤ n := by omega
  have hxl : ((k.drop s).take m).length = m := by simp; omega
  have HXL := Lib.hid hxl
  have HKL := Lib.hid hkl
  clear hkl hxl
  have hcut := hr.cut (lo := s) (hi := s + m) (by omega) hsm hnc
  rw [Nat.add_sub_cancel_left] at hcut
  have HR := Lib.hid hr
  clear hr
  generalize (k.drop s).take m = x at *
  by_cases h0 : 0 ≤ most
  · have h2 : ¬ most < m := by omega
    rcases hcut with ⟨hcs, hrc⟩ | ⟨hcs, hrc⟩
    · subst hcs
      have HRC := Lib.hid hrc
      clear hrc
      go_enter Try.func89, Try.ntmps89
      go_wp2_with fail
      refine (split_any A n _ k F _ HR.out hn).mono ?_
      rintro e w' ⟨rfl, rfl⟩
      rw [HD.out]
      go_wp2_with fail
      refine (clone_any _ m _ x F _ HRC.out (by omega)).mono ?_
      rintro e w1 ⟨v, rfl, hown, hb⟩
      obtain ⟨A1, c1, rfl⟩ := own_slice hown
      have HO := Lib.hid hown
      have HB := Lib.hid hb
      clear hown hb
      go_wp2_with fail
      go_ret3
      exact got rfl (by push_cast; rfl) HO.out HB.out
    · have HRC := Lib.hid hrc
      clear hrc
      go_enter Try.func89, Try.ntmps89
      go_wp2_with fail
      refine (split_any A n c k F _ HR.out hn).mono ?_
      rintro e w' ⟨rfl, rfl⟩
      rw [HD.out]
      go_wp2_with fail
      refine (clone_any _ m _ x F _ HRC.out (by omega)).mono ?_
      rintro e w1 ⟨v, rfl, hown, hb⟩
      obtain ⟨A1, c1, rfl⟩ := own_slice hown
      have HO := Lib.hid hown
      have HB := Lib.hid hb
      clear hown hb
      go_wp2_with fail
      go_ret3
      exact got rfl (by push_cast; rfl) HO.out HB.out
  · have h2 : ¬ (0 : Int) < m := by omega
    rcases hcut with ⟨hcs, hrc⟩ | ⟨hcs, hrc⟩
    · subst hcs
      have HRC := Lib.hid hrc
      clear hrc
      go_enter Try.func89, Try.ntmps89
      go_wp2_with fail
      refine (split_any A n _ k F _ HR.out hn).mono ?_
      rintro e w' ⟨rfl, rfl⟩
      rw [HD.out]
      go_wp2_with fail
      refine (clone_any _ m _ x F _ HRC.out (by omega)).mono ?_
      rintro e w1 ⟨v, rfl, hown, hb⟩
      obtain ⟨A1, c1, rfl⟩ := own_slice hown
      have HO := Lib.hid hown
      have HB := Lib.hid hb
      clear hown hb
      go_wp2_with fail
      go_ret3
      exact got rfl (by push_cast; rfl) HO.out HB.out
    · have HRC := Lib.hid hrc
      clear hrc
      go_enter Try.func89, Try.ntmps89
      go_wp2_with fail
      refine (split_any A n c k F _ HR.out hn).mono ?_
      rintro e w' ⟨rfl, rfl⟩
      rw [HD.out]
      go_wp2_with fail
      refine (clone_any _ m _ x F _ HRC.out (by omega)).mono ?_
      rintro e w1 ⟨v, rfl, hown, hb⟩
      obtain ⟨A1, c1, rfl⟩ := own_slice hown
      have HO := Lib.hid hown
      have HB := Lib.hid hb
      clear hown hb
      go_wp2_with fail
      go_ret3
      exact got rfl (by push_cast; rfl) HO.out HB.out

end Go.Proofs.Ythknfbbnnldnmaa
