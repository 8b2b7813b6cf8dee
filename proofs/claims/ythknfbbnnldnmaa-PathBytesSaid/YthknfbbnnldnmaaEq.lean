/- Two slices of bytes are held against each other byte by byte: the call answers whether they are the same, and changes nothing; no condition but that they are read as bytes. -/
import Derived.Test.YthknfbbnnldnmaaBase
import Derived.Test.YthknfbbnnldnmaaRows
import Derived.Deep.QuietTactic
import Derived.BigQuiet
namespace Go.Proofs.Ythknfbbnnldnmaa
open Go.RowKit

theorem Bs_at {l : List UInt8} {k : Nat} (hk : k < l.length) : (Bs l)[k]? = some (.int .u8 ((l[k]'hk).toNat : Int)) := by
  rw [Bs_get, List.getElem?_eq_getElem hk]; rfl

theorem take_eq_get {l m : List UInt8} {k : Nat} {x : UInt8} (h : l.take k = m.take k) (h1 : l[k]? = some x) (h2 : m[k]? = some x) : l.take (k + 1) = m.take (k + 1) := by
  rw [List.take_add_one, List.take_add_one, h, h1, h2]

set_option maxHeartbeats 400000 in
theorem bytes_ne (a b : Option Addr) (n m c d : Nat) (w : World) (h : n ≠ m) :
    Calls Try.prog 13 #[.slice a n c, .slice b m d] w fun e w' => e = .returned (.bool false) ∧ w = w' := by
  have h1 : (((n : Nat) : Int) != m) = true := by rw [bne_iff_ne]; omega
  have h2 : (n != m) = true := by rw [bne_iff_ne]; omega
  go_enter Try.func13, Try.ntmps13
  go_wp2
  go_ret
  exact ⟨rfl, rfl⟩

set_option maxHeartbeats 800000 in
theorem bytes_len (a b : Option Addr) (n c d : Nat) (l m : List UInt8) (F G : Nat → Prop) (w : World) (hn : n ≤ 9223372036854775807) (ha : Rd w F a n (Bs l)) (hb : Rd w G b n (Bs m)) :
    Calls Try.prog 13 #[.slice a n c, .slice b n d] w fun e w' => e = .returned (.bool (decide (l = m))) ∧ ∃ q, w' = w.drewN q := by
  have hl : l.length = n := by have := ha.1; rwa [Bs_length] at this
  have hm : m.length = n := by have := hb.1; rwa [Bs_length] at this
  have HL := Lib.hid hl
  have HM := Lib.hid hm
  have HA := Lib.hid ha
  have HB := Lib.hid hb
  clear hl hm ha hb
  go_enter Try.func13, Try.ntmps13
  go_wp2
  go_loopw [5] (fun i wr => ∃ k q : Nat, k ≤ n ∧ i = .int .i64 k ∧ wr = w.drewN q ∧ l.take k = m.take k) (fun i _ => n - (intOf i).toNat)
  case atStart => exact ⟨0, 0, Nat.zero_le _, rfl, rfl, rfl⟩
  case round =>
    obtain ⟨k, q, hk, rfl, rfl, ht⟩ := hrel
    have HT := Lib.hid ht
    clear ht
    by_cases hlt : k < n
    · obtain ⟨a0, x, rfl, hab, hx, hca⟩ := HA.out.byte hlt
      obtain ⟨b0, y, rfl, hbb, hy, hcb⟩ := HB.out.byte hlt
      have HX := Lib.hid hx
      have HY := Lib.hid hy
      clear hx hy
      by_cases hxy : x = y
      · subst hxy
        have h1 : (((x.toNat : Nat) : Int) != (x.toNat : Nat)) = false := by simp
        go_wp2
        go_quiet (fail)
        go_wp2
        go_roundw
        case rel => exact ⟨k + 1, _, by omega, by go_num, rfl, take_eq_get HT.out HX.out HY.out⟩
        case measure => simp [intOf]; omega
      · have h1 : (((x.toNat : Nat) : Int) != (y.toNat : Nat)) = true := by
          rw [bne_iff_ne]; intro h; exact hxy (UInt8.toNat_inj.1 (by omega))
        have hne : l ≠ m := by
          rintro rfl
          have := HX.out.symm.trans HY.out
          exact hxy (Option.some.inj this)
        have h2 : decide (l = m) = false := by simp [hne]
        clear hne hxy
        have H2 := Lib.hid h2
        clear h2
        go_wp2
        go_quiet (fail)
        go_wp2
        go_ret
        exact ⟨by rw [H2.out]; rfl, _, World.drewN_drewN _ _ _⟩
    · have he : k = n := by omega
      have hx : l = m := by
        have := HT.out
        rw [he, List.take_of_length_le (by rw [HL.out]; omega), List.take_of_length_le (by rw [HM.out]; omega)] at this
        exact this
      clear he
      go_wp2
      go_ret
      exact ⟨by simp [hx], q, rfl⟩

theorem bytes_any (a b : Option Addr) (n m c d : Nat) (l k : List UInt8) (F G : Nat → Prop) (w : World) (hn : n ≤ maxLen) (ha : Rd w F a n (Bs l)) (hb : Rd w G b m (Bs k)) :
    Calls Try.prog 13 #[.slice a n c, .slice b m d] w fun e w' => e = .returned (.bool (decide (l = k))) ∧ ∃ q, w' = w.drewN q := by
  by_cases h : n = m
  · subst h
    exact bytes_len a b n c d l k F G w (by unfold maxLen at hn; omega) ha hb
  · refine (bytes_ne a b n m c d w h).mono fun e w' ⟨he, hw⟩ => ⟨?_, 0, hw.symm⟩
    have : ¬ l = k := by
      rintro rfl
      exact h (ha.len.symm.trans hb.len)
    rw [he, decide_eq_false this]

end Go.Proofs.Ythknfbbnnldnmaa
