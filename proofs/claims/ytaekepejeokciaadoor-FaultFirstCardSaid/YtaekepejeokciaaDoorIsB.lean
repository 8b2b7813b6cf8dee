/- Whether an error has one of some numbers: for any chain of errors and any numbers; no condition but that the numbers can be read. -/
import Derived.Test.YtaekepejeokciaaDoorIsA
import Derived.Test.YtaekepejeokciaaDoorWrapA
namespace Go.Proofs.YtaekepejeokciaaDoor
set_option maxRecDepth 100000
open Go.RowKit

/-- Does a number stand among some? -/
def hasI (l : List Int) (n : Int) : Bool := l.any fun d => n == d
theorem hasI_snoc {l : List Int} {k : Nat} {x n : Int} (h : l[k]? = some x) : hasI (l.take (k + 1)) n = (hasI (l.take k) n || n == x) := by
  unfold hasI
  rw [List.take_add_one, h]
  simp
theorem hasI_all {l : List Int} {k : Nat} {n : Int} (h : l.length ≤ k) : hasI (l.take k) n = hasI l n := by rw [List.take_of_length_le h]
theorem hasI_more {l : List Int} {k : Nat} {x n : Int} (h : l[k]? = some x) (hx : (n == x) = true) : hasI l n = true := by
  unfold hasI
  exact List.any_eq_true.2 ⟨x, List.mem_of_getElem? h, hx⟩

set_option maxHeartbeats 400000 in
theorem is1_any (d n : Int) (a : Addr) (w : World) (ha : w.cell? a = some (.int .i64 n)) :
    Calls Tryd.prog 57 #[.int .i64 d, .pointer (some a)] w fun e w' => e = .returned (.bool (n == d)) ∧ w' = w := by
  go_enter Tryd.func57, Tryd.ntmps57
  go_wp2_with fail
  refine (eis_any [] n d 0 (.iface 29 (.int .i64 n)) _ rfl).mono ?_
  rintro e w1 ⟨rfl, rfl⟩
  go_wp2_with fail
  go_ret
  exact ⟨rfl, rfl⟩

/-- Where a number stands among some: any place, or -1. -/
def Idx (l : List Int) (n : Int) (w : World) (e : Ending) (w' : World) : Prop :=
  ∃ k : Int, e = .returned (.int .i64 k) ∧ ((hasI l n = true ∧ 0 ≤ k) ∨ (hasI l n = false ∧ k < 0)) ∧ w = w'

set_option maxHeartbeats 800000 in
theorem index_any (a : Option Addr) (m c : Nat) (l : List Int) (F : Nat → Prop) (n : Int) (b : Addr) (w : World) (hm : m ≤ 9223372036854775807) (hr : Rd w F a m (Is l)) (hb : w.cell? b = some (.int .i64 n)) :
    Calls Tryd.prog 91 #[.slice a m c, .func (.func 57) #[] #[.pointer (some b)]] w (Idx l n w) := by
  have HR := Lib.hid hr
  have HL := Lib.hid hr.leni
  have HB := Lib.hid hb
  clear hr hb
  go_enter Tryd.func91, Tryd.ntmps91
  go_wp2_with fail
  go_loopw [8] (fun i wr => ∃ k : Nat, k ≤ m ∧ i = .int .i64 k ∧ wr = w ∧ hasI (l.take k) n = false) (fun i _ => m - (intOf i).toNat)
  case atStart => exact ⟨0, Nat.zero_le _, rfl, rfl, rfl⟩
  case round =>
    obtain ⟨k, hk, rfl, rfl, hno⟩ := hrel
    have HNO := Lib.hid hno
    clear hno
    by_cases hlt : k < m
    · obtain ⟨a0, x, rfl, hab, hx, hca⟩ := HR.out.num hlt
      have HX := Lib.hid hx
      clear hx
      go_wp2_with fail
      refine (is1_any x n b _ HB.out).mono ?_
      rintro e w1 ⟨rfl, rfl⟩
      cases hq : (n == x) with
      | true =>
        have HQ := Lib.hid hq
        clear hq
        go_wp2_with fail
        go_ret
        exact ⟨k, rfl, .inl ⟨hasI_more HX.out HQ.out, by omega⟩, rfl⟩
      | false =>
        have HQ := Lib.hid hq
        clear hq
        go_wp2_with fail
        go_roundw
        case rel => exact ⟨k + 1, by omega, by go_num, by trivial, by rw [hasI_snoc HX.out, HNO.out, HQ.out]; rfl⟩
        case measure => simp [intOf]; omega
    · have he : ¬ (k : Int) < m := by omega
      have HE := Lib.hid (hasI_all (n := n) (k := k) (l := l) (by have := HL.out; omega))
      go_wp2_with fail
      go_ret
      exact ⟨-1, rfl, .inr ⟨by rw [← HE.out, HNO.out], by omega⟩, rfl⟩

set_option maxHeartbeats 400000 in
theorem contains_any (a : Option Addr) (m c : Nat) (l : List Int) (F : Nat → Prop) (n : Int) (b : Addr) (w : World) (hm : m ≤ 9223372036854775807) (hr : Rd w F a m (Is l)) (hb : w.cell? b = some (.int .i64 n)) :
    Calls Tryd.prog 56 #[.slice a m c, .func (.func 57) #[] #[.pointer (some b)]] w fun e w' => e = .returned (.bool (hasI l n)) ∧ w' = w := by
  have HR := Lib.hid hr
  have HB := Lib.hid hb
  clear hr hb
  go_enter Tryd.func56, Tryd.ntmps56
  go_wp2_with fail
  refine (index_any a m c l F n b _ hm HR.out HB.out).mono ?_
  rintro e w1 ⟨k, rfl, hk, rfl⟩
  rcases hk with ⟨h, hk⟩ | ⟨h, hk⟩
  · have H := Lib.hid h
    clear h
    have hk' : ¬ k < 0 := by omega
    go_wp2_with fail
    go_ret
    exact ⟨by rw [H.out]; simp <;> omega, rfl⟩
  · have H := Lib.hid h
    clear h
    go_wp2_with fail
    go_ret
    exact ⟨by rw [H.out]; simp <;> omega, rfl⟩

set_option maxHeartbeats 400000 in
theorem is_er (ps : List Int) (n : Int) (x : Value) (a : Option Addr) (m c : Nat) (l : List Int) (F : Nat → Prop) (w : World) (h : Er w ps n x) (hn : ps.length ≤ 1000) (hg : ErrTy w) (hm : m ≤ 9223372036854775807) (hr : Rd w F a m (Is l)) :
    Calls Tryd.prog 23 #[x, .slice a m c] w fun e w' => e = .returned (.bool (n != 0 && hasI l n)) ∧ Below w.heap.size w w' := by
  have H := Lib.hid h
  have HR := Lib.hid hr
  have HG := Lib.hid hg
  clear hr hg
  rcases h with ⟨rfl, rfl, rfl⟩ | ⟨h0, hc⟩
  · exact (is_nil _ w).mono fun e w' ⟨he, hw⟩ => ⟨he, hw ▸ Below.refl _ _⟩
  · obtain ⟨T, y, rfl⟩ := hc.iface
    have h1 : (n != 0) = true := by rw [bne_iff_ne]; exact h0
    have H1 := Lib.hid h1
    clear h0 hc h1
    go_enter Tryd.func23, Tryd.ntmps23
    go_wp2_with fail
    refine (code_er ps n _ _ H.out hn HG.out).mono ?_
    rintro e w1 ⟨rfl, hb1⟩
    have HB1 := Lib.hid hb1
    clear hb1
    go_wp2_with fail
    refine (contains_any a m c l F n ⟨w1.heap.size, 0, none⟩ _ hm ((HR.out.belowAll HB1.out).belowAll ((Below.refl _ _).alloc (Nat.le_refl _) _)) (by simp)).mono ?_
    rintro e w2 ⟨rfl, rfl⟩
    go_wp2_with fail
    go_ret
    exact ⟨by rw [H1.out, Bool.true_and]; rfl, HB1.out.alloc HB1.out.size _⟩

end Go.Proofs.YtaekepejeokciaaDoor
