/- What a reader tells of its error and of its end, how one is made, and what a writer tells; for any bytes up to 2^47. -/
import Derived.Test.YthknfbbnnldnmaaRead
import Derived.StillTailTactics
namespace Go.Proofs.Ythknfbbnnldnmaa
open Go.RowKit

/-- An error: the number code, in the place p alone. -/
def Flt (w : World) (v : Value) (p : Int) (code : Int) : Prop :=
  ∃ h, v = .iface 81 (.pointer (some ⟨h, 0, none⟩)) ∧ w.heap[h]? = some (.cells #[.int .i64 p, .iface 57 (.int .i64 code)] 83 (0, 0))

set_option maxHeartbeats 400000 in
theorem wrap_some (T : TypeId) (x : Value) (p : Int) (w : World) :
    Calls Try.prog 30 #[.iface T x, .int .i64 p] w fun e w' => e = .returned (.iface 81 (.pointer (some ⟨w.heap.size, 0, none⟩))) ∧ w' = w.alloc (.cells #[.int .i64 p, .iface T x] 83) := by
  go_enter Try.func30, Try.ntmps30
  go_wp2_with fail
  go_ret
  exact ⟨rfl, rfl⟩

set_option maxHeartbeats 400000 in
theorem err_none (g : Nat) (A : Option Addr) (c : Nat) (F : Nat → Prop) (k : List UInt8) (p : Nat) (w : World) (h : Rr w g A c F k p 0) :
    Calls Try.prog 27 #[.pointer (some ⟨g, 0, none⟩)] w fun e w' => e = .returned .nilIface ∧ w' = w := by
  have h2 := h.c2
  clear h
  go_enter Try.func27, Try.ntmps27
  go_wp2_with fail
  go_ret
  exact ⟨rfl, rfl⟩

set_option maxRecDepth 100000 in
set_option maxHeartbeats 400000 in
theorem err_some (g : Nat) (A : Option Addr) (c : Nat) (F : Nat → Prop) (k : List UInt8) (p : Nat) (code : Int) (w : World) (h : Rr w g A c F k p code) (hc : code ≠ 0) :
    Calls Try.prog 27 #[.pointer (some ⟨g, 0, none⟩)] w fun e w' => ∃ v, e = .returned v ∧ Flt w' v p code ∧ Below w.heap.size w w' := by
  have h1 := h.c1
  have h2 := h.c2
  have q2 : (code == 0) = false := beq_eq_false_iff_ne.2 hc
  have HC := Lib.hid hc
  clear h hc
  go_enter Try.func27, Try.ntmps27
  go_wp2_with fail
  go_still_tail 9, (by kernel_rfl)
  go_wp2_with fail
  refine (wrap_some _ _ _ _).mono ?_
  rintro e w' ⟨rfl, rfl⟩
  go_wp2_with fail
  go_ret
  exact ⟨_, rfl, ⟨w.heap.size, rfl, heap_alloc_new w _⟩, ((Below.refl _ _).alloc (Nat.le_refl _) _).drew⟩

set_option maxHeartbeats 400000 in
theorem end_ok (g : Nat) (A : Option Addr) (c : Nat) (F : Nat → Prop) (k : List UInt8) (w : World) (h : Rr w g A c F k k.length 0) :
    Calls Try.prog 15 #[.pointer (some ⟨g, 0, none⟩)] w fun e w' => e = .returned .nilIface ∧ ∃ q, w' = w.drewN q := by
  have h0 := h.c0
  have h1 := h.c1
  have H := Lib.hid h
  clear h
  go_enter Try.func15, Try.ntmps15
  go_wp2_with fail
  refine (err_none g A c F k k.length _ H.out).mono ?_
  rintro e w' ⟨rfl, rfl⟩
  go_wp2_with fail
  go_quiet (fail)
  go_wp2_with fail
  go_ret
  exact ⟨rfl, _, rfl⟩

set_option maxHeartbeats 400000 in
theorem end_left (g : Nat) (A : Option Addr) (c : Nat) (F : Nat → Prop) (k : List UInt8) (p : Nat) (w : World) (h : Rr w g A c F k p 0) (hp : p < k.length) :
    Calls Try.prog 15 #[.pointer (some ⟨g, 0, none⟩)] w fun e w' => ∃ v, e = .returned v ∧ Flt w' v p 2 ∧ Below w.heap.size w w' := by
  have h0 := h.c0
  have h1 := h.c1
  have H := Lib.hid h
  clear h
  have hp' : decide (p < k.length) = true := by simpa using hp
  go_enter Try.func15, Try.ntmps15
  go_wp2_with fail
  refine (err_none g A c F k p _ H.out).mono ?_
  rintro e w' ⟨rfl, rfl⟩
  go_wp2_with fail
  go_quiet (fail)
  go_wp2_with fail
  refine (wrap_some _ _ _ _).mono ?_
  rintro e w' ⟨rfl, rfl⟩
  go_wp2_with fail
  go_ret
  exact ⟨_, rfl, ⟨w'.heap.size, rfl, heap_alloc_new w' _⟩, below_drewN ((Below.refl _ _).alloc (Nat.le_refl _) _) _⟩

set_option maxHeartbeats 400000 in
theorem end_broken (g : Nat) (A : Option Addr) (c : Nat) (F : Nat → Prop) (k : List UInt8) (p : Nat) (code : Int) (w : World) (h : Rr w g A c F k p code) (hc : code ≠ 0) :
    Calls Try.prog 15 #[.pointer (some ⟨g, 0, none⟩)] w fun e w' => ∃ v, e = .returned v ∧ Flt w' v p code ∧ Below w.heap.size w w' := by
  have H := Lib.hid h
  clear h
  go_enter Try.func15, Try.ntmps15
  go_wp2_with fail
  refine (err_some g A c F k p code _ H.out hc).mono ?_
  rintro e w' ⟨v, rfl, ⟨b, rfl, hb⟩, hbel⟩
  go_wp2_with fail
  go_ret
  exact ⟨_, rfl, ⟨b, rfl, hb⟩, hbel⟩

set_option maxHeartbeats 400000 in
theorem new_any (A : Option Addr) (n c : Nat) (k : List UInt8) (F : Nat → Prop) (w : World) (hr : Rd w F A n (Bs k)) (hn : n ≤ 140737488355328) :
    Calls Try.prog 11 #[.slice A n c] w fun e w' => ∃ g A' c', e = .returned (.pointer (some ⟨g, 0, none⟩)) ∧ Rr w' g A' c' (fun j => w.heap.size ≤ j ∧ j < g) k 0 0 ∧ w.heap.size ≤ g ∧ Below w.heap.size w w' := by
  have HR := Lib.hid hr
  have HK := Lib.hid hr.len
  clear hr
  go_enter Try.func11, Try.ntmps11
  go_wp2_with fail
  refine (clone_any A n c k F _ HR.out hn).mono ?_
  rintro e w' ⟨v, rfl, hown, hbel⟩
  obtain ⟨A', c', rfl⟩ := own_slice hown
  have HO := Lib.hid hown
  have HB := Lib.hid hbel
  clear hown hbel
  go_wp2_with fail
  go_ret
  refine ⟨w'.heap.size, A', c', rfl, ⟨heap_alloc_new w' _, ?_, ?_, ?_, by rw [HK.out]; exact hn, Nat.zero_le _, by omega⟩, HB.out.size, HB.out.alloc HB.out.size _⟩
  · refine (Rd.of_own HO.out).belowAll ((Below.refl _ _).alloc (Nat.le_refl _) _) |>.mono fun j _ hj => ?_
    have := HO.out.lt j hj
    exact this
  · have := own_cap HO.out; rwa [Bs_length] at this
  · exact own_cap_le HO.out

set_option maxHeartbeats 400000 in
theorem rnumber_ok (g : Nat) (A : Option Addr) (c : Nat) (F : Nat → Prop) (k : List UInt8) (p : Nat) (most : Nat) (w : World) (h : Rr w g A c F k p 0) :
    Calls Try.prog 42 #[.pointer (some ⟨g, 0, none⟩), .int .u64 most] w fun e w' => e = .returned (.int .u64 (rnum k p most).1) ∧ Readto w w' g A c F k (rnum k p most).2.1 (rnum k p most).2.2 := by
  have H := Lib.hid h
  clear h
  go_enter Try.func42, Try.ntmps42
  go_wp2_with fail
  refine (number_read g A c F k p _ most _ (H.out.below ((Below.refl _ _).alloc (Nat.le_refl _) _)) (by simp)).mono ?_
  rintro e w' ⟨rfl, hr⟩
  have HR := Lib.hid hr
  clear hr
  go_wp2_with fail
  go_ret
  exact ⟨rfl, HR.out.rr, (Only.of_below ((Below.refl _ _).alloc (Nat.le_refl _) _) _).trans HR.out.only fun _ _ h => h⟩

set_option maxHeartbeats 400000 in
theorem rnumber_broken (g : Nat) (A : Option Addr) (c : Nat) (F : Nat → Prop) (k : List UInt8) (p : Nat) (code : Int) (most : Nat) (w : World) (h : Rr w g A c F k p code) (hc : code ≠ 0) :
    Calls Try.prog 42 #[.pointer (some ⟨g, 0, none⟩), .int .u64 most] w fun e w' => e = .returned (.int .u64 0) ∧ Below w.heap.size w w' := by
  have H := Lib.hid h
  clear h
  go_enter Try.func42, Try.ntmps42
  go_wp2_with fail
  refine (number_broken g A c F k p code _ _ (H.out.below ((Below.refl _ _).alloc (Nat.le_refl _) _)) hc).mono ?_
  rintro e w' ⟨rfl, rfl⟩
  go_wp2_with fail
  go_ret
  exact ⟨rfl, (Below.refl _ _).alloc (Nat.le_refl _) _⟩

set_option maxHeartbeats 400000 in
theorem out_any (a : Addr) (v : Value) (l : List UInt8) (w : World) (hw : Wr w a v l) (hlen : l.length ≤ 140737488355328) :
    Calls Try.prog 10 #[.pointer (some a)] w fun e w' => ∃ v', e = .returned v' ∧ w'.ownsRow w.heap.size 5 1 v' l.length (Bs l) ∧ Below w.heap.size w w' := by
  obtain ⟨A, c, rfl⟩ := own_slice hw.row
  have hc := hw.cell
  have HR := Lib.hid (Rd.of_own hw.row)
  clear hw
  go_enter Try.func10, Try.ntmps10
  go_wp2_with fail
  refine (clone_any A l.length c l _ _ HR.out hlen).mono ?_
  rintro e w' ⟨v', rfl, hown, hbel⟩
  have HO := Lib.hid hown
  have HB := Lib.hid hbel
  clear hown hbel
  go_wp2_with fail
  go_ret
  exact ⟨_, rfl, HO.out, HB.out⟩

end Go.Proofs.Ythknfbbnnldnmaa
