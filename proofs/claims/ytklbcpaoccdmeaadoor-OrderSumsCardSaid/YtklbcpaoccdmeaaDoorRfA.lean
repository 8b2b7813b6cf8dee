/- The document's digits: at, Q, Digits, Bytes. -/
import Derived.Test.YtklbcpaoccdmeaaDoorRfM
import Derived.Laws.BitsAllLaws
import Derived.Lib.Hide
import Derived.IntWalk
import Derived.Great.BuildSlice
namespace Go.Proofs.YtklbcpaoccdmeaaDoor
set_option maxRecDepth 100000
open Go.RowKit

theorem at_pos (N n : Nat) (hN : N < 256 ^ n) (a : Option Addr) (cap : Nat) (F : Nat → Prop) (i : Nat) (w : World) (hi : i < 4611686018427387904) (hn : n < 4611686018427387904) (hr : Rd w F a n (Tabs .i64 (byt N) n)) :
    Calls Tryd.prog 30 #[.slice a n cap, .int .i64 (i : Int)] w fun e w' => e = .returned (.int .i64 ((byt N i : Nat) : Int)) ∧ w' = w := by
  by_cases h : i < n
  · obtain ⟨ad, e, _, _, hC⟩ := hr.2 (by omega)
    have hc := hC i _ (Tabs_get .i64 (byt N) n h)
    subst e
    clear hC hr hN
    go_enter Tryd.func30, Tryd.ntmps30
    go_wp2_with fail
    go_ret
    exact ⟨rfl, rfl⟩
  · have hz : byt N i = 0 := byt_of_lt' hN (by omega)
    rw [hz]
    have h2 : (n : Int) ≤ (i : Int) := by omega
    clear hr hN hz
    go_enter Tryd.func30, Tryd.ntmps30
    go_wp2_with fail
    go_ret
    exact ⟨rfl, rfl⟩
theorem at_neg (a : Option Addr) (n cap : Nat) (i : Int) (w : World) (hi : i < 0) :
    Calls Tryd.prog 30 #[.slice a n cap, .int .i64 i] w fun e w' => e = .returned (.int .i64 0) ∧ w' = w := by
  go_enter Tryd.func30, Tryd.ntmps30
  go_wp2_with fail
  go_ret
  exact ⟨rfl, rfl⟩
/-- Moved up. -/
theorem at_up (N n up : Nat) (hN : N < 256 ^ n) (a : Option Addr) (cap : Nat) (F : Nat → Prop) (i : Nat) (w : World) (hi : i < 4611686018427387904) (hn : n < 4611686018427387904) (hr : Rd w F a n (Tabs .i64 (byt N) n)) :
    Calls Tryd.prog 30 #[.slice a n cap, .int .i64 ((i : Int) - (up : Int))] w fun e w' => e = .returned (.int .i64 ((byt (N * 256 ^ up) i : Nat) : Int)) ∧ w' = w := by
  rw [byt_shift]
  by_cases h : i < up
  · rw [if_pos h]
    exact at_neg a n cap _ w (by omega)
  · rw [if_neg h, show ((i : Int) - (up : Int)) = ((i - up : Nat) : Int) by omega]
    exact at_pos N n hN a cap F (i - up) w (by omega) hn hr

theorem q_digits : Tabs .i64 (byt qq) 32 = [.int .i64 237, .int .i64 211, .int .i64 245, .int .i64 92, .int .i64 26, .int .i64 99, .int .i64 18, .int .i64 88, .int .i64 214, .int .i64 156, .int .i64 247, .int .i64 162, .int .i64 222, .int .i64 249, .int .i64 222, .int .i64 20, .int .i64 0, .int .i64 0, .int .i64 0, .int .i64 0, .int .i64 0, .int .i64 0, .int .i64 0, .int .i64 0, .int .i64 0, .int .i64 0, .int .i64 0, .int .i64 0, .int .i64 0, .int .i64 0, .int .i64 0, .int .i64 16] := by kernel_rfl
theorem q_256 : qq < 256 ^ 32 := by rw [p32]; exact qq_lt
theorem Q_any (w : World) : Calls Tryd.prog 25 #[] w fun e w' => ∃ g : Nat, e = .returned (.slice (some ⟨g, 0, none⟩) 32 32) ∧ Row w' g 3 (Tabs .i64 (byt qq) 32) ∧ Below w.heap.size w w' := by
  go_enter Tryd.func25, Tryd.ntmps25
  go_wp2_with fail
  go_ret
  refine ⟨w.heap.size, rfl, ?_, (Below.refl _ _).alloc (Nat.le_refl _) _⟩
  rw [q_digits]
  exact Row.new w _ _

theorem int_inf : ((Tryd.prog.info? 3).map fun i => (i.zero, i.size, i.bytes)) = some (some (.int .i64 0), 1, 8) := by kernel_rfl
set_option maxHeartbeats 1600000 in
theorem digits_any (N n : Nat) (hn : n ≤ 64) (a : Option Addr) (cap : Nat) (F : Nat → Prop) (w : World) (hr : Rd w F a n (By N n)) :
    Calls Tryd.prog 22 #[.slice a n cap] w fun e w' => ∃ v, e = .returned v ∧ w'.ownsRow w.heap.size 3 1 v n (Tabs .i64 (byt N) n) ∧ Below w.heap.size w w' := by
  obtain ⟨i0, hi, hz0, hz1, hz2⟩ := info_parts int_inf
  have HR := Lib.hid hr
  have HI := Lib.hid hi
  have HZ0 := Lib.hid hz0
  have HZ1 := Lib.hid hz1
  have HZ2 := Lib.hid hz2
  clear hr hi hz0 hz1 hz2
  go_enter Tryd.func22, Tryd.ntmps22
  go_wp2_with fail
  go_loopw [3, 4] (fun v i wr => ∃ k : Nat, k ≤ n ∧ i = .int .i64 k ∧ wr.ownsRow w.heap.size 3 1 v k (Tabs .i64 (byt N) k) ∧ Below w.heap.size w wr) (fun _ i _ => n - (intOf i).toNat)
  case atStart => exact ⟨0, Nat.zero_le _, rfl, World.ownsRow_nil _ _ _ _, Below.refl _ _⟩
  case round =>
    obtain ⟨k, hkn, rfl, hown, hbe⟩ := hrel
    obtain ⟨A1, c1, rfl⟩ := own_slice hown
    by_cases hlt : k < n
    · obtain ⟨ad, e, _, hB, hC⟩ := HR.out.2 (by omega)
      have hc := hC k _ (By_get N n hlt)
      have hc2 := (hbe.cell (p := ad.add k) (by rw [add_block]; exact hB)).trans hc
      have hsn := Tabs_snoc .i64 (byt N) k
      have hb255 := byt_lt N k
      have hrd := Rd.lit wr [Value.int .i64 ((byt N k : Nat) : Int)] #[Value.int .i64 ((byt N k : Nat) : Int)] 3 rfl 1 rfl
      have hown1 := hown.alloc (.cells #[Value.int .i64 ((byt N k : Nat) : Int)] 3)
      generalize byt N k = x at *
      have q1 : k + 1 ≤ maxLen := by unfold maxLen; omega
      have q2 : (k + 1) * 8 ≤ 140737488355328 := by omega
      have q3 : w.heap.size ≤ (wr.alloc (.cells #[Value.int .i64 (x : Int)] 3)).heap.size := by have := hbe.size; simp; omega
      have hbe1 := hbe.alloc hbe.size (.cells #[Value.int .i64 (x : Int)] 3)
      have hwx : IntKind.i64.wrap (x : Int) = (x : Int) := IntWalk.i64_in _ (by omega)
      have HOWN := Lib.hid hown1
      have HBE := Lib.hid hbe1
      have HRD := Lib.hid hrd
      have HSN := Lib.hid hsn
      have HQ1 := Lib.hid q1
      have HQ2 := Lib.hid q2
      have HQ3 := Lib.hid q3
      subst e
      clear hown hbe hB hC hc hsn hrd hown1 hbe1 q1 q2 q3
      go_wp2_with (at_builtin; refine wpList_append_rd _ rfl (.tmp 11) (.tmp 17) 42 rfl w.heap.size 3 i0 (.int .i64 0) 8 Tryd.underlying42 HI.out HZ0.out HZ1.out HZ2.out rfl (.slice A1 k c1) k (Tabs .i64 (byt N) k) rfl HOWN.out _ (some ⟨wr.heap.size, 0, none⟩) 1 1 [Value.int .i64 (x : Int)] rfl HRD.out (by intro u hu; rw [List.mem_singleton.1 hu]; rfl) HQ1.out HQ2.out HQ3.out ?_; intro v2 w2 hown2 hgrow hat; have HO2 := Lib.hid hown2; have hb2 := HBE.out.grown hgrow HQ3.out (fun q hq => (HOWN.out.lt q hq).1); have HB2 := Lib.hid hb2; clear hown2 hgrow hat hb2)
      go_roundw
      case rel => exact ⟨k + 1, by omega, by go_num, by rw [HSN.out]; exact HO2.out, HB2.out⟩
      case measure => simp [intOf] <;> omega
    · obtain rfl : k = n := by omega
      have HOWN := Lib.hid hown
      have HBE := Lib.hid hbe
      clear hown hbe
      go_wp2_with fail
      go_ret
      exact ⟨_, rfl, HOWN.out, HBE.out⟩

set_option maxHeartbeats 1600000 in
theorem rbytes_any (N n : Nat) (hN : N < 256 ^ n) (hn : n ≤ 1000) (a : Option Addr) (cap : Nat) (F : Nat → Prop) (w : World) (hr : Rd w F a n (Tabs .i64 (byt N) n)) :
    Calls Tryd.prog 20 #[.slice a n cap] w fun e w' => e = .returned (.agg (By N 32).toArray) ∧ Below w.heap.size w w' := by
  have HR := Lib.hid hr
  have HN := Lib.hid hN
  clear hr hN
  go_enter Tryd.func20, Tryd.ntmps20
  go_wp2_with fail
  go_loopw [4] (fun i wr => ∃ k : Nat, k ≤ 32 ∧ i = .int .i64 k ∧ Row wr (w.heap.size + 1) 23 (Tab .u8 (byt N) 32 k) ∧ Row wr w.heap.size 23 (Tab .u8 (byt N) 32 0) ∧ Below w.heap.size w wr) (fun i _ => 32 - (intOf i).toNat)
  case atStart =>
    refine ⟨0, Nat.zero_le _, rfl, ?_, ?_, Below.alloc2 _ _ _⟩
    · rw [Tab_zero]
      exact Row.new1 w _ (List.replicate 32 (.int .u8 0)) _
    · rw [Tab_zero]
      exact (Row.new w (List.replicate 32 (.int .u8 0)) _).alloc _
  case round =>
    obtain ⟨k, hkn, rfl, hrow, hres, hbe⟩ := hrel
    by_cases hlt : k < 32
    · have hat := at_pos N n HN.out a cap F k wr (by omega) (by omega) (HR.out.belowAll hbe)
      have hfree := hrow.free k
      have hold := hrow.cell (Tab_get .u8 (byt N) 32 k hlt)
      have hset := hrow.set k (.int .u8 ((byt N k : Nat) : Int))
      rw [By_set N 32 hlt] at hset
      have hres2 := hres.setCell (p := ⟨w.heap.size + 1, k, none⟩) (by show _ ≠ w.heap.size + 1; omega) (.int .u8 ((byt N k : Nat) : Int))
      have hb2 := hbe.setCell (p := ⟨w.heap.size + 1, k, none⟩) (by simp) (.int .u8 ((byt N k : Nat) : Int))
      have hb255 := byt_lt N k
      generalize byt N k = y at *
      have hwy : IntKind.u8.wrap (y : Int) = (y : Int) := by rw [IntKind.wrap_u8]; omega
      have HAT := Lib.hid hat
      have HSET := Lib.hid hset
      have HRES2 := Lib.hid hres2
      have HB2 := Lib.hid hb2
      clear hrow hres hbe hset hres2 hb2 hat
      go_wp2_with fail
      refine HAT.out.mono ?_
      rintro e w' ⟨rfl, rfl⟩
      go_wp2_with fail
      go_roundw
      case rel => exact ⟨k + 1, by omega, by go_num, HSET.out, HRES2.out, HB2.out⟩
      case measure => simp [intOf] <;> omega
    · obtain rfl : k = 32 := by omega
      rw [Tab_done] at hrow
      rw [Tab_zero] at hres
      have hS := by_info N
      have hO : (List.replicate 32 (Value.int .u8 0)).toArray.size = (By N 32).toArray.size := by rw [List.size_toArray, List.size_toArray, By_length, List.length_replicate]
      have hrow2 : Row wr (w.heap.size + 1) 23 (By N 32) := hrow
      have HROW := Lib.hid hrow2
      have HRES := Lib.hid hres
      have HBE := Lib.hid hbe
      have HS4 := Lib.hid hS
      have HO4 := Lib.hid hO
      clear hrow hrow2 hres hbe hS hO
      go_wp2_with (first
        | (refine wpList_load_row rfl 23 (.tmp 3) rfl (w.heap.size + 1) rfl 23 _ (0, 0) _ HROW.out Tryd.underlying23 rfl HS4.out ?_)
        | (refine wpList_store_row rfl 23 (.tmp 2) (.tmp 15) rfl w.heap.size _ rfl rfl 23 _ HRES.out HS4.out HO4.out (By_one _ _) ?_))
      have hgot := setRow_heap wr w.heap.size _ (By N 32).toArray _ _ HRES.out
      refine bodyPost_ret (results_cell_row (by rfl) _ _ w.heap.size _ _ _ _ (by rfl) hgot Tryd.underlying23 rfl HS4.out) rfl ?_
      exact ⟨rfl, below_setRow HBE.out (by omega) _⟩

end Go.Proofs.YtklbcpaoccdmeaaDoor
