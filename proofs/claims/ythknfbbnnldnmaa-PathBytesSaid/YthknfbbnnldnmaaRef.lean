/- The document's own answers on bytes: what each of its calls makes, in new memory; for any input. -/
import Derived.Test.YthknfbbnnldnmaaWrite
namespace Go.Proofs.Ythknfbbnnldnmaa
open Go.RowKit

theorem ref_low {n : Nat} (h : n < 128) : [Value.int .u8 (n : Int)] = Bs [UInt8.ofNat n] := low_last h
theorem ref_big (n : Nat) : [Value.int .u8 ((n : Int) % 128 + 128)] = Bs [UInt8.ofNat (n % 128 + 128)] := by
  simp only [Bs, List.map_cons, List.map_nil]
  rw [toNat_low (by omega)]
  congr 2

/-- A new row of its own, from literal cells. -/
theorem own_lit (w : World) (l : List UInt8) (cs : Array Value) (h : cs.toList = Bs l) (n : Nat) (hn : l.length = n) (hm : n ≤ maxLen) :
    (w.alloc (.cells cs 5)).ownsRow w.heap.size 5 1 (.slice (some ⟨w.heap.size, 0, none⟩) n n) n (Bs l) := by
  have hs : cs.size = n := by rw [← Array.length_toList, h, Bs_length, hn]
  refine ⟨by rw [Bs_length]; omega, .inr ⟨w.heap.size, n, cs, rfl, Nat.le_refl _, heap_alloc_new w _, Nat.le_refl _, hm, by omega, ?_⟩⟩
  rw [h, List.take_of_length_le (by rw [Bs_length]; omega)]

set_option maxHeartbeats 400000 in
theorem refnum_any (k : Nat) : ∀ (n : Nat) (w : World), n ≤ k → n < 18446744073709551616 →
    Calls Try.prog 29 #[.int .u64 n] w fun e w' => ∃ v, e = .returned v ∧ w'.ownsRow w.heap.size 5 1 v (enc n).length (Bs (enc n)) ∧ Below w.heap.size w w' := by
  induction k using Nat.strongRecOn with
  | ind k ih =>
    intro n w hk hn
    by_cases h : n < 128
    · have hc : (n : Int) < 128 := by omega
      have HE := Lib.hid (enc_small h)
      go_enter Try.func29, Try.ntmps29
      go_wp2_with fail
      go_ret
      refine ⟨_, rfl, ?_, (Below.refl _ _).alloc (Nat.le_refl _) _⟩
      rw [HE.out]
      exact own_lit w [UInt8.ofNat n] _ (ref_low h) 1 rfl (by unfold maxLen; omega)
    · have hc : ¬ (n : Int) < 128 := by omega
      obtain ⟨i0, hi, hz0, hz1, hz2⟩ := info_parts u8_info
      have HE := Lib.hid (enc_big h)
      have hl := enc_length_le hn
      rw [enc_big h, List.length_cons] at hl
      have IH := Lib.hid ih
      clear ih
      go_enter Try.func29, Try.ntmps29
      go_wp2_with fail
      rw [show ((n : Int) / 128) = ((n / 128 : Nat) : Int) from by omega]
      refine (IH.out (n / 128) (by omega) (n / 128) _ (Nat.le_refl _) (by omega)).mono ?_
      rintro e w1 ⟨v, rfl, hown, hbel⟩
      obtain ⟨A, c, rfl⟩ := own_slice hown
      have HO := Lib.hid hown
      have HB := Lib.hid hbel
      clear hown hbel
      go_wp2_with (at_builtin; refine wpList_append_rd _ rfl (.tmp 12) (.tmp 15) 25 rfl w.heap.size 5 i0 (.int .u8 0) 1 Try.underlying25 hi hz0 hz1 hz2 rfl (.slice (some ⟨w.heap.size, 0, none⟩) 1 1) 1 (Bs [UInt8.ofNat (n % 128 + 128)]) rfl (own_below (own_lit w [UInt8.ofNat (n % 128 + 128)] _ (ref_big n) 1 rfl (by unfold maxLen; omega)) HB.out) _ A (enc (n / 128)).length c (Bs (enc (n / 128))) rfl (Rd.of_own HO.out) (Bs_one _) ?c1 ?c2 ?c3 ?_)
      case c1 => unfold maxLen; omega
      case c2 => omega
      case c3 => have := HB.out.size; simp at this; omega
      intro v' w' hown hg hat
      go_wp2
      go_ret
      refine ⟨v', rfl, ?_, ?_⟩
      · rw [HE.out]
        show w'.ownsRow _ _ _ _ _ (Bs ([UInt8.ofNat (n % 128 + 128)] ++ enc (n / 128)))
        rw [List.length_cons, Bs_append, Nat.add_comm, show UInt8.ofNat (n % 128 + 128) = UInt8.ofNat (n % 128) + 128 from by simp]
        exact hown
      · have h1 : Below w.heap.size w w1 := ((Below.refl _ _).alloc (Nat.le_refl _) _).trans (HB.out.mono (by simp))
        exact h1.grown hg h1.size (fun j hj => by simp [Value.ownBlock] at hj; omega)

theorem zig_below {n : Int} (h : n < 0) : 2 * -(n + 1) + 1 = zig n := by
  unfold zig
  rw [if_pos h]
  omega
theorem zig_from {n : Int} (h : ¬ n < 0) : 2 * n = zig n := by
  unfold zig
  rw [if_neg h]
  omega

set_option maxHeartbeats 400000 in
theorem refbytes_any (A : Option Addr) (n c : Nat) (k : List UInt8) (F : Nat → Prop) (w : World) (hr : Rd w F A n (Bs k)) (hn : n ≤ 140737488355000) :
    Calls Try.prog 28 #[.slice A n c] w fun e w' => ∃ v, e = .returned v ∧ w'.ownsRow w.heap.size 5 1 v (enc k.length ++ k).length (Bs (enc k.length ++ k)) ∧ Below w.heap.size w w' := by
  obtain ⟨i0, hi, hz0, hz1, hz2⟩ := info_parts u8_info
  obtain rfl : n = k.length := hr.len.symm
  have hl := enc_length_le (n := k.length) (by omega)
  have HR := Lib.hid hr
  clear hr
  go_enter Try.func28, Try.ntmps28
  go_wp2_with fail
  refine (refnum_any _ k.length _ (Nat.le_refl _) (by omega)).mono ?_
  rintro e w1 ⟨v, rfl, hown, hbel⟩
  have HO := Lib.hid hown
  have HB := Lib.hid hbel
  clear hown hbel
  go_wp2_with (at_builtin; refine wpList_append_rd _ rfl (.tmp 6) (.tmp 7) 25 rfl w.heap.size 5 i0 (.int .u8 0) 1 Try.underlying25 hi hz0 hz1 hz2 rfl v (enc k.length).length (Bs (enc k.length)) rfl HO.out F A k.length c (Bs k) rfl (HR.out.belowAll HB.out) (Bs_one _) ?c1 ?c2 ?c3 ?_)
  case c1 => unfold maxLen; omega
  case c2 => omega
  case c3 => exact HB.out.size
  intro v' w' hown hg hat
  go_wp2
  go_ret
  refine ⟨v', rfl, by rw [Bs_append, List.length_append]; exact hown, HB.out.grown hg HB.out.size fun j hj => (HO.out.lt j hj).1⟩

end Go.Proofs.Ythknfbbnnldnmaa
