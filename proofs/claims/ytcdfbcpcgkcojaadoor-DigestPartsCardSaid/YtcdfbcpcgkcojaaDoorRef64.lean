/- The document's turns, as it reckons them. -/
import Derived.Test.YtcdfbcpcgkcojaaDoorWrd64
import Derived.Test.YtcdfbcpcgkcojaaDoorRowz
import Derived.Deep.MidRow
import Derived.Deep.RegionHeld
import Derived.RegionTactic
namespace Go.Proofs.YtcdfbcpcgkcojaaDoor
set_option maxRecDepth 100000
open Go.RowKit

theorem Row.range {w : World} {g : Nat} {T : TypeId} {l : List Value} (h : Row w g T l) : w.rangeAt g 0 l := by
  intro j v hv
  rw [Nat.zero_add]
  exact h.cell hv
/-- The document's kind: its cells; its two lists of constants lie in blocks A and B. -/
def KdL64 (A B : Nat) : List Value := [.int .i64 64, .slice (some ⟨A, 0, none⟩) 8 8, .slice (some ⟨B, 0, none⟩) 80 80, .int .i64 28, .int .i64 34, .int .i64 39, .int .i64 14, .int .i64 18, .int .i64 41, .int .i64 1, .int .i64 8, .int .i64 7, .int .i64 19, .int .i64 61, .int .i64 6, .int .i64 16, .int .u64 18446744073709551615]
theorem kdInfo64 : (Tryd.prog.info? 53).map (·.size) = some 17 := by kernel_rfl
theorem rturn64 (x n : Nat) (hx : x < 18446744073709551616) : bits .and .u64 (bits .or .u64 ((x : Int) / 2 ^ n) (IntKind.u64.wrap ((x : Int) * 2 ^ (64 - n)))) 18446744073709551615 = ((rot 64 x n : Nat) : Int) := by
  have h1 : (x : Int) / 2 ^ n = ((x / 2 ^ n : Nat) : Int) := by push_cast; rfl
  have h2 : (x : Int) * 2 ^ (64 - n) = ((x * 2 ^ (64 - n) : Nat) : Int) := by push_cast; rfl
  have hd : x / 2 ^ n < 18446744073709551616 := Nat.lt_of_le_of_lt (Nat.div_le_self _ _) hx
  have l1 : x / 2 ^ n < 18446744073709551616 := by omega
  have l2 : x * 2 ^ (64 - n) % 18446744073709551616 < 18446744073709551616 := Nat.mod_lt _ (by decide)
  have l3 : (x / 2 ^ n ||| x * 2 ^ (64 - n) % 18446744073709551616) < 18446744073709551616 := Nat.or_lt_two_pow (n := 64) l1 l2
  rw [h1, h2, wrap64_nat, u64_or_nat _ _ l1 l2, show (18446744073709551615 : Int) = ((18446744073709551615 : Nat) : Int) from rfl, u64_and_nat _ _ l3 (by decide)]
  congr 1
  rw [show (18446744073709551615 : Nat) = 2 ^ 64 - 1 from rfl, Nat.and_two_pow_sub_one_eq_mod, Nat.or_mod_two_pow, Nat.mod_eq_of_lt (show x / 2 ^ n < 2 ^ 64 from hd)]
  unfold rot
  congr 1
  exact Nat.mod_mod_of_dvd _ (by decide)

set_option maxHeartbeats 800000 in
theorem right64 (A B x n : Nat) (w : World) (hx : x < 18446744073709551616) (hn : n < 64) (h0 : 0 < n) :
    Calls Tryd.prog 68 #[.agg (KdL64 A B).toArray, .int .u64 x, .int .i64 n] w fun e w' => e = .returned (.int .u64 ((rot 64 x n : Nat) : Int)) ∧ Below w.heap.size w w' := by
  have hrow : Row (w.alloc (.cells (KdL64 A B).toArray 53)) w.heap.size 53 (KdL64 A B) := Row.new _ _ _
  have c0 := hrow.cell (k := 0) rfl
  have c16 := hrow.cell (k := 16) rfl
  have s1 : IntKind.i64.wrap ((64 : Int) - n) = (64 : Int) - n := IntWalk.i64_in _ (by omega)
  have s2 : (0 : Int) ≤ (64 : Int) - n := by omega
  have s3 : ((64 : Int) - n).toNat = 64 - n := by omega
  have hr := rturn64 x n hx
  have HR := Lib.hid hr
  clear hrow hr
  go_enter Tryd.func68, Tryd.ntmps68
  go_wp2_with fail
  go_quiet (fail)
  go_wp2_with fail
  go_ret
  exact ⟨by rw [HR.out]; rfl, below_drewN ((Below.refl _ _).alloc (Nat.le_refl _) _) _⟩

set_option maxHeartbeats 1600000 in
theorem rbig64 (A B x i j k : Nat) (w : World) (hx : x < 18446744073709551616) (hi : i < 64) (hi0 : 0 < i) (hj : j < 64) (hj0 : 0 < j) (hk : k < 64) (hk0 : 0 < k) :
    Calls Tryd.prog 54 #[.agg (KdL64 A B).toArray, .int .u64 x, .agg #[.int .i64 (i : Int), .int .i64 (j : Int), .int .i64 (k : Int)]] w fun e w' => e = .returned (.int .u64 ((big3 64 x i j k : Nat) : Int)) ∧ Below w.heap.size w w' := by
  have h0 : (fun w' : World => Row w' w.heap.size 53 (KdL64 A B) ∧ Row w' (w.heap.size + 1) 50 [.int .i64 (i : Int), .int .i64 (j : Int), .int .i64 (k : Int)]) ((w.alloc (.cells (KdL64 A B).toArray 53)).alloc (.cells #[.int .i64 (i : Int), .int .i64 (j : Int), .int .i64 (k : Int)] 50)).drew :=
    ⟨((Row.new w (KdL64 A B) 53).alloc _).drewN 1, heap_alloc2_new _ _ _⟩
  have hb : Below w.heap.size w ((w.alloc (.cells (KdL64 A B).toArray 53)).alloc (.cells #[.int .i64 (i : Int), .int .i64 (j : Int), .int .i64 (k : Int)] 50)).drew := (((Below.refl _ _).alloc (Nat.le_refl _) _).alloc (by simp) _).drew
  have HH0 := Lib.hid h0
  have HI := Lib.hid kdInfo64
  have HB0 := Lib.hid hb
  have k0 : (0 : Int) ≤ (k : Int) := by omega
  clear h0 hb
  go_enter Tryd.func54, Tryd.ntmps54
  go_wp2_with fail
  refine wp_region_any (by kernel_rfl) ?_
  change wpAny _ _ _ _ _ _ _ (World.drew _)
  refine wpAny_of_held (S := (fun w' : World => Row w' w.heap.size 53 (KdL64 A B) ∧ Row w' (w.heap.size + 1) 50 [.int .i64 (i : Int), .int .i64 (j : Int), .int .i64 (k : Int)])) _ _ _ _ ?_
  have hHeld := HH0.out
  refine wpAnyH_take (i := 1) (v := ?_) rfl (by kernel_rfl) (by kernel_rfl) (by kernel_rfl) (fun _ _ _ h => h) (Or.inl ⟨by rfl, ?_⟩) hHeld ?_
  rotate_left
  · (intro w' hSw; go_simp; try (with_reducible rfl))
  change wpAnyH _ _ _ _ _ _ _ (Act.put _ (some 8) _) _
  simp only [Act.put, List.setIfInBounds_toArray, List.set_cons_zero, List.set_cons_succ]
  refine wpAnyH_take (i := 6) (v := ?_) rfl (by kernel_rfl) (by kernel_rfl) (by kernel_rfl) (fun _ _ _ h => h) (Or.inl ⟨by rfl, ?_⟩) hHeld ?_
  rotate_left
  · (intro w' hSw; go_simp; try (with_reducible rfl))
  change wpAnyH _ _ _ _ _ _ _ (Act.put _ (some 13) _) _
  simp only [Act.put, List.setIfInBounds_toArray, List.set_cons_zero, List.set_cons_succ]
  refine wpAnyH_take (i := 12) (v := ?_) rfl (by kernel_rfl) (by kernel_rfl) (by kernel_rfl) (fun _ _ _ h => h) (Or.inl ⟨by rfl, ?_⟩) hHeld ?_
  rotate_left
  · (intro w' hSw; go_simp; try (with_reducible rfl))
  change wpAnyH _ _ _ _ _ _ _ (Act.put _ (some 19) _) _
  simp only [Act.put, List.setIfInBounds_toArray, List.set_cons_zero, List.set_cons_succ]
  refine wpAnyH_take (i := 2) (v := ?_) rfl (by kernel_rfl) (by kernel_rfl) (by kernel_rfl) (fun _ _ _ h => h) (Or.inl ⟨by rfl, ?_⟩) hHeld ?_
  rotate_left
  · (intro w' hSw; go_simp; try (with_reducible rfl))
  change wpAnyH _ _ _ _ _ _ _ (Act.put _ (some 9) _) _
  simp only [Act.put, List.setIfInBounds_toArray, List.set_cons_zero, List.set_cons_succ]
  refine wpAnyH_take (i := 7) (v := ?_) rfl (by kernel_rfl) (by kernel_rfl) (by kernel_rfl) (fun _ _ _ h => h) (Or.inl ⟨by rfl, ?_⟩) hHeld ?_
  rotate_left
  · (intro w' hSw; go_simp; try (with_reducible rfl))
  change wpAnyH _ _ _ _ _ _ _ (Act.put _ (some 14) _) _
  simp only [Act.put, List.setIfInBounds_toArray, List.set_cons_zero, List.set_cons_succ]
  refine wpAnyH_take (i := 13) (v := ?_) rfl (by kernel_rfl) (by kernel_rfl) (by kernel_rfl) (fun _ _ _ h => h) (Or.inl ⟨by rfl, ?_⟩) hHeld ?_
  rotate_left
  · (intro w' hSw; go_simp; try (with_reducible rfl))
  change wpAnyH _ _ _ _ _ _ _ (Act.put _ (some 20) _) _
  simp only [Act.put, List.setIfInBounds_toArray, List.set_cons_zero, List.set_cons_succ]
  refine wpAnyH_take (i := 0) (v := .agg (KdL64 A B).toArray) rfl (by kernel_rfl) (by kernel_rfl) (by kernel_rfl) (fun _ _ _ h => h) (yieldsIf_load_mid (by rfl) 53 (.tmp 3) rfl w.heap.size 0 rfl (KdL64 A B) _ (fun w' hSw => hSw.1.range) (by rfl) rfl HI.out) hHeld ?_
  change wpAnyH _ _ _ _ _ _ _ (Act.put _ (some 7) _) _
  simp only [Act.put, List.setIfInBounds_toArray, List.set_cons_zero, List.set_cons_succ]
  refine wpAnyH_take (i := 5) (v := .agg (KdL64 A B).toArray) rfl (by kernel_rfl) (by kernel_rfl) (by kernel_rfl) (fun _ _ _ h => h) (yieldsIf_load_mid (by rfl) 53 (.tmp 3) rfl w.heap.size 0 rfl (KdL64 A B) _ (fun w' hSw => hSw.1.range) (by rfl) rfl HI.out) hHeld ?_
  change wpAnyH _ _ _ _ _ _ _ (Act.put _ (some 12) _) _
  simp only [Act.put, List.setIfInBounds_toArray, List.set_cons_zero, List.set_cons_succ]
  refine wpAnyH_take (i := 11) (v := .agg (KdL64 A B).toArray) rfl (by kernel_rfl) (by kernel_rfl) (by kernel_rfl) (fun _ _ _ h => h) (yieldsIf_load_mid (by rfl) 53 (.tmp 3) rfl w.heap.size 0 rfl (KdL64 A B) _ (fun w' hSw => hSw.1.range) (by rfl) rfl HI.out) hHeld ?_
  change wpAnyH _ _ _ _ _ _ _ (Act.put _ (some 18) _) _
  simp only [Act.put, List.setIfInBounds_toArray, List.set_cons_zero, List.set_cons_succ]
  refine wpAnyH_take (i := 3) (v := ?_) rfl (by kernel_rfl) (by kernel_rfl) (by kernel_rfl) (fun _ _ _ h => h) (Or.inl ⟨by rfl, ?_⟩) hHeld ?_
  rotate_left
  · (intro w' hSw; have c0 := hSw.2.cell (k := 0) rfl; go_simp; try (with_reducible rfl))
  change wpAnyH _ _ _ _ _ _ _ (Act.put _ (some 10) _) _
  simp only [Act.put, List.setIfInBounds_toArray, List.set_cons_zero, List.set_cons_succ]
  refine wpAnyH_take (i := 8) (v := ?_) rfl (by kernel_rfl) (by kernel_rfl) (by kernel_rfl) (fun _ _ _ h => h) (Or.inl ⟨by rfl, ?_⟩) hHeld ?_
  rotate_left
  · (intro w' hSw; have c0 := hSw.2.cell (k := 1) rfl; go_simp; try (with_reducible rfl))
  change wpAnyH _ _ _ _ _ _ _ (Act.put _ (some 15) _) _
  simp only [Act.put, List.setIfInBounds_toArray, List.set_cons_zero, List.set_cons_succ]
  refine wpAnyH_take (i := 14) (v := ?_) rfl (by kernel_rfl) (by kernel_rfl) (by kernel_rfl) (fun _ _ _ h => h) (Or.inl ⟨by rfl, ?_⟩) hHeld ?_
  rotate_left
  · (intro w' hSw; have c0 := hSw.2.cell (k := 2) rfl; go_simp; try (with_reducible rfl))
  change wpAnyH _ _ _ _ _ _ _ (Act.put _ (some 21) _) _
  simp only [Act.put, List.setIfInBounds_toArray, List.set_cons_zero, List.set_cons_succ]
  refine wpAnyH_ready (rs := [4]) (by kernel_rfl) (by simp) ?_
  refine AllReadyH.cons rfl (fun K hK => ?_) AllReadyH.nil
  rw [if_pos (by kernel_rfl)]
  go_simp
  refine (right64 A B x i _ hx hi hi0).mono ?_
  rintro e w1 ⟨rfl, hb1⟩
  refine hK.out _ _ ⟨hHeld.1.belowAll hb1, hHeld.2.belowAll hb1⟩ (fun hHeld => ?_)
  clear hK K
  have HB1 := Lib.hid hb1
  clear hb1
  refine wpAnyH_ready (rs := [9]) (by kernel_rfl) (by simp) ?_
  refine AllReadyH.cons rfl (fun K hK => ?_) AllReadyH.nil
  rw [if_pos (by kernel_rfl)]
  go_simp
  refine (right64 A B x j _ hx hj hj0).mono ?_
  rintro e w2 ⟨rfl, hb2⟩
  refine hK.out _ _ ⟨hHeld.1.belowAll hb2, hHeld.2.belowAll hb2⟩ (fun hHeld => ?_)
  clear hK K
  have HB2 := Lib.hid hb2
  clear hb2
  refine wpAnyH_take (i := 10) (v := ?_) rfl (by kernel_rfl) (by kernel_rfl) (by kernel_rfl) (fun _ _ _ h => h) (Or.inl ⟨by rfl, ?_⟩) hHeld ?_
  rotate_left
  · (intro w' hSw; go_simp; try (with_reducible rfl))
  change wpAnyH _ _ _ _ _ _ _ (Act.put _ (some 17) _) _
  simp only [Act.put, List.setIfInBounds_toArray, List.set_cons_zero, List.set_cons_succ]
  refine wpAnyH_ready (rs := [15]) (by kernel_rfl) (by simp) ?_
  refine AllReadyH.cons rfl (fun K hK => ?_) AllReadyH.nil
  rw [if_pos (by kernel_rfl)]
  go_simp
  refine (right64 A B x k _ hx hk hk0).mono ?_
  rintro e w3 ⟨rfl, hb3⟩
  refine hK.out _ _ ⟨hHeld.1.belowAll hb3, hHeld.2.belowAll hb3⟩ (fun hHeld => ?_)
  clear hK K
  have HB3 := Lib.hid hb3
  clear hb3
  refine wpAnyH_take (i := 16) (v := ?_) rfl (by kernel_rfl) (by kernel_rfl) (by kernel_rfl) (fun _ _ _ h => h) (Or.inl ⟨by rfl, ?_⟩) hHeld ?_
  rotate_left
  · (intro w' hSw; go_simp; try (with_reducible rfl))
  change wpAnyH _ _ _ _ _ _ _ (Act.put _ (some 23) _) _
  simp only [Act.put, List.setIfInBounds_toArray, List.set_cons_zero, List.set_cons_succ]
  refine wpAnyH_ready (rs := [17]) (by kernel_rfl) (by simp) ?_
  refine AllReadyH.cons rfl (fun K hK => ?_) AllReadyH.nil
  rw [if_pos (by kernel_rfl)]
  go_simp
  refine hK.out _ _ hHeld (fun hHeld => ?_)
  clear hK K
  refine wpAnyH_done (by kernel_rfl) ?_ _
  go_wp2_with fail
  go_ret
  refine ⟨?_, HB0.out.trans ((HB1.out.mono HB0.out.size).trans ((HB2.out.mono (HB0.out.trans (HB1.out.mono HB0.out.size)).size).trans (HB3.out.mono (HB0.out.trans ((HB1.out.mono HB0.out.size).trans (HB2.out.mono (HB0.out.trans (HB1.out.mono HB0.out.size)).size))).size)))⟩
  have li := rot_lt (b := 64) (n := i) hx
  have lj := rot_lt (b := 64) (n := j) hx
  have lk := rot_lt (b := 64) (n := k) hx
  have x1 : bits .xor .u64 ((rot 64 x i : Nat) : Int) ((rot 64 x j : Nat) : Int) = ((rot 64 x i ^^^ rot 64 x j : Nat) : Int) := u64_xor_nat _ _ (Nat.lt_of_lt_of_le li (by decide)) (Nat.lt_of_lt_of_le lj (by decide))
  rw [x1, u64_xor_nat _ _ (Nat.lt_of_lt_of_le (Nat.xor_lt_two_pow li lj) (by decide)) (Nat.lt_of_lt_of_le lk (by decide))]
  rfl

set_option maxHeartbeats 1600000 in
theorem rsml64 (A B x i j k : Nat) (w : World) (hx : x < 18446744073709551616) (hi : i < 64) (hi0 : 0 < i) (hj : j < 64) (hj0 : 0 < j) (hk : k < 64) :
    Calls Tryd.prog 53 #[.agg (KdL64 A B).toArray, .int .u64 x, .agg #[.int .i64 (i : Int), .int .i64 (j : Int), .int .i64 (k : Int)]] w fun e w' => e = .returned (.int .u64 ((sml3 64 x i j k : Nat) : Int)) ∧ Below w.heap.size w w' := by
  have h0 : (fun w' : World => Row w' w.heap.size 53 (KdL64 A B) ∧ Row w' (w.heap.size + 1) 50 [.int .i64 (i : Int), .int .i64 (j : Int), .int .i64 (k : Int)]) ((w.alloc (.cells (KdL64 A B).toArray 53)).alloc (.cells #[.int .i64 (i : Int), .int .i64 (j : Int), .int .i64 (k : Int)] 50)).drew :=
    ⟨((Row.new w (KdL64 A B) 53).alloc _).drewN 1, heap_alloc2_new _ _ _⟩
  have hb : Below w.heap.size w ((w.alloc (.cells (KdL64 A B).toArray 53)).alloc (.cells #[.int .i64 (i : Int), .int .i64 (j : Int), .int .i64 (k : Int)] 50)).drew := (((Below.refl _ _).alloc (Nat.le_refl _) _).alloc (by simp) _).drew
  have HH0 := Lib.hid h0
  have HI := Lib.hid kdInfo64
  have HB0 := Lib.hid hb
  have k0 : (0 : Int) ≤ (k : Int) := by omega
  clear h0 hb
  go_enter Tryd.func53, Tryd.ntmps53
  go_wp2_with fail
  refine wp_region_any (by kernel_rfl) ?_
  change wpAny _ _ _ _ _ _ _ (World.drew _)
  refine wpAny_of_held (S := (fun w' : World => Row w' w.heap.size 53 (KdL64 A B) ∧ Row w' (w.heap.size + 1) 50 [.int .i64 (i : Int), .int .i64 (j : Int), .int .i64 (k : Int)])) _ _ _ _ ?_
  have hHeld := HH0.out
  refine wpAnyH_take (i := 1) (v := ?_) rfl (by kernel_rfl) (by kernel_rfl) (by kernel_rfl) (fun _ _ _ h => h) (Or.inl ⟨by rfl, ?_⟩) hHeld ?_
  rotate_left
  · (intro w' hSw; go_simp; try (with_reducible rfl))
  change wpAnyH _ _ _ _ _ _ _ (Act.put _ (some 8) _) _
  simp only [Act.put, List.setIfInBounds_toArray, List.set_cons_zero, List.set_cons_succ]
  refine wpAnyH_take (i := 6) (v := ?_) rfl (by kernel_rfl) (by kernel_rfl) (by kernel_rfl) (fun _ _ _ h => h) (Or.inl ⟨by rfl, ?_⟩) hHeld ?_
  rotate_left
  · (intro w' hSw; go_simp; try (with_reducible rfl))
  change wpAnyH _ _ _ _ _ _ _ (Act.put _ (some 13) _) _
  simp only [Act.put, List.setIfInBounds_toArray, List.set_cons_zero, List.set_cons_succ]
  refine wpAnyH_take (i := 11) (v := ?_) rfl (by kernel_rfl) (by kernel_rfl) (by kernel_rfl) (fun _ _ _ h => h) (Or.inl ⟨by rfl, ?_⟩) hHeld ?_
  rotate_left
  · (intro w' hSw; go_simp; try (with_reducible rfl))
  change wpAnyH _ _ _ _ _ _ _ (Act.put _ (some 18) _) _
  simp only [Act.put, List.setIfInBounds_toArray, List.set_cons_zero, List.set_cons_succ]
  refine wpAnyH_take (i := 2) (v := ?_) rfl (by kernel_rfl) (by kernel_rfl) (by kernel_rfl) (fun _ _ _ h => h) (Or.inl ⟨by rfl, ?_⟩) hHeld ?_
  rotate_left
  · (intro w' hSw; go_simp; try (with_reducible rfl))
  change wpAnyH _ _ _ _ _ _ _ (Act.put _ (some 9) _) _
  simp only [Act.put, List.setIfInBounds_toArray, List.set_cons_zero, List.set_cons_succ]
  refine wpAnyH_take (i := 7) (v := ?_) rfl (by kernel_rfl) (by kernel_rfl) (by kernel_rfl) (fun _ _ _ h => h) (Or.inl ⟨by rfl, ?_⟩) hHeld ?_
  rotate_left
  · (intro w' hSw; go_simp; try (with_reducible rfl))
  change wpAnyH _ _ _ _ _ _ _ (Act.put _ (some 14) _) _
  simp only [Act.put, List.setIfInBounds_toArray, List.set_cons_zero, List.set_cons_succ]
  refine wpAnyH_take (i := 12) (v := ?_) rfl (by kernel_rfl) (by kernel_rfl) (by kernel_rfl) (fun _ _ _ h => h) (Or.inl ⟨by rfl, ?_⟩) hHeld ?_
  rotate_left
  · (intro w' hSw; go_simp; try (with_reducible rfl))
  change wpAnyH _ _ _ _ _ _ _ (Act.put _ (some 19) _) _
  simp only [Act.put, List.setIfInBounds_toArray, List.set_cons_zero, List.set_cons_succ]
  refine wpAnyH_take (i := 0) (v := .agg (KdL64 A B).toArray) rfl (by kernel_rfl) (by kernel_rfl) (by kernel_rfl) (fun _ _ _ h => h) (yieldsIf_load_mid (by rfl) 53 (.tmp 3) rfl w.heap.size 0 rfl (KdL64 A B) _ (fun w' hSw => hSw.1.range) (by rfl) rfl HI.out) hHeld ?_
  change wpAnyH _ _ _ _ _ _ _ (Act.put _ (some 7) _) _
  simp only [Act.put, List.setIfInBounds_toArray, List.set_cons_zero, List.set_cons_succ]
  refine wpAnyH_take (i := 5) (v := .agg (KdL64 A B).toArray) rfl (by kernel_rfl) (by kernel_rfl) (by kernel_rfl) (fun _ _ _ h => h) (yieldsIf_load_mid (by rfl) 53 (.tmp 3) rfl w.heap.size 0 rfl (KdL64 A B) _ (fun w' hSw => hSw.1.range) (by rfl) rfl HI.out) hHeld ?_
  change wpAnyH _ _ _ _ _ _ _ (Act.put _ (some 12) _) _
  simp only [Act.put, List.setIfInBounds_toArray, List.set_cons_zero, List.set_cons_succ]
  refine wpAnyH_take (i := 3) (v := ?_) rfl (by kernel_rfl) (by kernel_rfl) (by kernel_rfl) (fun _ _ _ h => h) (Or.inl ⟨by rfl, ?_⟩) hHeld ?_
  rotate_left
  · (intro w' hSw; have c0 := hSw.2.cell (k := 0) rfl; go_simp; try (with_reducible rfl))
  change wpAnyH _ _ _ _ _ _ _ (Act.put _ (some 10) _) _
  simp only [Act.put, List.setIfInBounds_toArray, List.set_cons_zero, List.set_cons_succ]
  refine wpAnyH_take (i := 8) (v := ?_) rfl (by kernel_rfl) (by kernel_rfl) (by kernel_rfl) (fun _ _ _ h => h) (Or.inl ⟨by rfl, ?_⟩) hHeld ?_
  rotate_left
  · (intro w' hSw; have c0 := hSw.2.cell (k := 1) rfl; go_simp; try (with_reducible rfl))
  change wpAnyH _ _ _ _ _ _ _ (Act.put _ (some 15) _) _
  simp only [Act.put, List.setIfInBounds_toArray, List.set_cons_zero, List.set_cons_succ]
  refine wpAnyH_take (i := 13) (v := ?_) rfl (by kernel_rfl) (by kernel_rfl) (by kernel_rfl) (fun _ _ _ h => h) (Or.inl ⟨by rfl, ?_⟩) hHeld ?_
  rotate_left
  · (intro w' hSw; have c0 := hSw.2.cell (k := 2) rfl; go_simp; try (with_reducible rfl))
  change wpAnyH _ _ _ _ _ _ _ (Act.put _ (some 20) _) _
  simp only [Act.put, List.setIfInBounds_toArray, List.set_cons_zero, List.set_cons_succ]
  refine wpAnyH_take (i := 14) (v := ?_) rfl (by kernel_rfl) (by kernel_rfl) (by kernel_rfl) (fun _ _ _ h => h) (Or.inl ⟨by rfl, ?_⟩) hHeld ?_
  rotate_left
  · (intro w' hSw; go_simp; try (with_reducible rfl))
  change wpAnyH _ _ _ _ _ _ _ (Act.put _ (some 21) _) _
  simp only [Act.put, List.setIfInBounds_toArray, List.set_cons_zero, List.set_cons_succ]
  refine wpAnyH_ready (rs := [4]) (by kernel_rfl) (by simp) ?_
  refine AllReadyH.cons rfl (fun K hK => ?_) AllReadyH.nil
  rw [if_pos (by kernel_rfl)]
  go_simp
  refine (right64 A B x i _ hx hi hi0).mono ?_
  rintro e w1 ⟨rfl, hb1⟩
  refine hK.out _ _ ⟨hHeld.1.belowAll hb1, hHeld.2.belowAll hb1⟩ (fun hHeld => ?_)
  clear hK K
  have HB1 := Lib.hid hb1
  clear hb1
  refine wpAnyH_ready (rs := [9]) (by kernel_rfl) (by simp) ?_
  refine AllReadyH.cons rfl (fun K hK => ?_) AllReadyH.nil
  rw [if_pos (by kernel_rfl)]
  go_simp
  refine (right64 A B x j _ hx hj hj0).mono ?_
  rintro e w2 ⟨rfl, hb2⟩
  refine hK.out _ _ ⟨hHeld.1.belowAll hb2, hHeld.2.belowAll hb2⟩ (fun hHeld => ?_)
  clear hK K
  have HB2 := Lib.hid hb2
  clear hb2
  refine wpAnyH_take (i := 10) (v := ?_) rfl (by kernel_rfl) (by kernel_rfl) (by kernel_rfl) (fun _ _ _ h => h) (Or.inl ⟨by rfl, ?_⟩) hHeld ?_
  rotate_left
  · (intro w' hSw; go_simp; try (with_reducible rfl))
  change wpAnyH _ _ _ _ _ _ _ (Act.put _ (some 17) _) _
  simp only [Act.put, List.setIfInBounds_toArray, List.set_cons_zero, List.set_cons_succ]
  refine wpAnyH_take (i := 15) (v := ?_) rfl (by kernel_rfl) (by kernel_rfl) (by kernel_rfl) (fun _ _ _ h => h) (Or.inl ⟨by rfl, ?_⟩) hHeld ?_
  rotate_left
  · (intro w' hSw; go_simp; try (with_reducible rfl))
  change wpAnyH _ _ _ _ _ _ _ (Act.put _ (some 22) _) _
  simp only [Act.put, List.setIfInBounds_toArray, List.set_cons_zero, List.set_cons_succ]
  refine wpAnyH_ready (rs := [16]) (by kernel_rfl) (by simp) ?_
  refine AllReadyH.cons rfl (fun K hK => ?_) AllReadyH.nil
  rw [if_pos (by kernel_rfl)]
  go_simp
  refine hK.out _ _ hHeld (fun hHeld => ?_)
  clear hK K
  refine wpAnyH_done (by kernel_rfl) ?_ _
  go_wp2_with fail
  go_ret
  refine ⟨?_, HB0.out.trans ((HB1.out.mono HB0.out.size).trans ((HB2.out.mono (HB0.out.trans (HB1.out.mono HB0.out.size)).size)))⟩
  have li := rot_lt (b := 64) (n := i) hx
  have lj := rot_lt (b := 64) (n := j) hx
  have lk : x / 2 ^ k < 2 ^ 64 := Nat.lt_of_le_of_lt (Nat.div_le_self _ _) hx
  have ek : (x : Int) / 2 ^ k = ((x / 2 ^ k : Nat) : Int) := by push_cast; rfl
  have x1 : bits .xor .u64 ((rot 64 x i : Nat) : Int) ((rot 64 x j : Nat) : Int) = ((rot 64 x i ^^^ rot 64 x j : Nat) : Int) := u64_xor_nat _ _ (Nat.lt_of_lt_of_le li (by decide)) (Nat.lt_of_lt_of_le lj (by decide))
  rw [x1, ek, u64_xor_nat _ _ (Nat.lt_of_lt_of_le (Nat.xor_lt_two_pow li lj) (by decide)) (Nat.lt_of_lt_of_le lk (by decide))]
  rfl


end Go.Proofs.YtcdfbcpcgkcojaaDoor
