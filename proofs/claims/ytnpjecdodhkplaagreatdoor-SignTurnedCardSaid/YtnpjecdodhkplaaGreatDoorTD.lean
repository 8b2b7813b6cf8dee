import Derived.OwnWalk
import Derived.Laws.BytesArg
import Derived.Laws.BytesString
import Derived.Laws.IdiomStrings
import Derived.Test.YtnpjecdodhkplaaGreatDoorST
namespace Go.Proofs.YtnpjecdodhkplaaGreatDoor
set_option maxRecDepth 100000
open Go.RowKit
open List renaming setIfInBounds_toArray → yA, set_cons_zero → yB, set_cons_succ → yC
open Lib renaming hid → yH
theorem wp_append_rd {P : Program} {o : Oper} {a : Act} {w : World} {K : Act → World → Prop} {Q : Exit → Act → World → Prop} (s x : Operand) (t : TypeId)
  (ho : o.op = .call { callee := .builtin .append, args := #[s, x], argTypes := #[t, t] })
  (base : Nat) (e : TypeId) (i : TypeInfo) (z : Value) (bytes : Nat) (ht : P.underlying t = some (.slice e)) (hi : P.info? e = some i) (hz : i.zero = some z)
  (hsize : i.size = 1) (hby : i.bytes = bytes) (hzs : z.cells.size = 1)
  (v : Value) (n : Nat) (xs : List Value) (hs : a.eval s = v) (hown : w.ownsRow base e 1 v n xs)
  (F : Nat → Prop) (A : Option Addr) (m c : Nat) (news : List Value) (hx : a.eval x = .slice A m c) (hr : Rd w F A m news) (h1 : ∀ u ∈ news, u.oneCell' = true)
  (h63 : n + m ≤ maxLen) (hbytes : (n + m) * bytes ≤ 140737488355328) (hbase : base ≤ w.heap.size)
  (h : ∀ v' w', w'.ownsRow base e 1 v' (n + m) (xs ++ news) → w.grownBy w' v.ownBlock → (v'.ownBlock = v.ownBlock ∨ v'.ownBlock = some w.heap.size) → K (a.put o.dst v') w') : o.wp P a w K Q := by
 obtain ⟨v', w', hrun, h2, h3, h4⟩ := append_rd (P := P) w base t o.type e i z bytes ht hi hz hsize hby hzs v n xs hown F A m c news hr h1 h63 hbytes hbase
 unfold Oper.wp execOp
 simp only [ho, resolve, invoke, builtin, Sem.run_bind, Sem.run_pure, Result.andThen_ok, List.map_toArray, List.map_cons, List.map_nil, hs, hx, hrun]
 exact h v' w' h2 h3 h4
theorem u8_info : (Tryz.prog.info? 5).map (fun i => (i.zero, i.size, i.bytes)) = some (some (.int .u8 0), 1, 1) := by kernel_rfl
def KdL64 (A B : Nat) : List Value := [.int .i64 64, .slice (some ⟨A, 0, none⟩) 8 8, .slice (some ⟨B, 0, none⟩) 80 80, .int .i64 28, .int .i64 34, .int .i64 39, .int .i64 14, .int .i64 18, .int .i64 41, .int .i64 1, .int .i64 8, .int .i64 7, .int .i64 19, .int .i64 61, .int .i64 6, .int .i64 16, .int .u64 18446744073709551615]
theorem kdInfo64 : (Tryz.prog.info? 130).map (·.size) = some 17 := by kernel_rfl
theorem rturn64 (x n : Nat) (hx : x < 18446744073709551616) : bits .and .u64 (bits .or .u64 ((x : Int) / 2 ^ n) (IntKind.u64.wrap ((x : Int) * 2 ^ (64 - n)))) 18446744073709551615 = ((rot 64 x n : Nat) : Int) := by
 have h1 : (x : Int) / 2 ^ n = ((x / 2 ^ n : Nat) : Int) := by push_cast; rfl
 have h2 : (x : Int) * 2 ^ (64 - n) = ((x * 2 ^ (64 - n) : Nat) : Int) := by push_cast; rfl
 have hd : x / 2 ^ n < 18446744073709551616 := Nat.lt_of_le_of_lt (Nat.div_le_self _ _) hx
 have l1 : x / 2 ^ n < 18446744073709551616 := by omega
 have l2 : x * 2 ^ (64 - n) % 18446744073709551616 < 18446744073709551616 := Nat.mod_lt _ (by decide)
 have l3 : (x / 2 ^ n ||| x * 2 ^ (64 - n) % 18446744073709551616) < 18446744073709551616 := Nat.or_lt_two_pow (n := 64) l1 l2
 rw [h1, h2, wrap64_nat, u64_or_nat _ _ l1 l2, show (18446744073709551615 : Int) = ((18446744073709551615 : Nat) : Int) from rfl, u64_and_nat _ _ l3 (by decide)]
 congr 1
 rw [show (18446744073709551615 : Nat) = 2 ^ 64 - 1 from rfl, Nat.and_two_pow_sub_one_eq_mod, Nat.or_mod_two_pow, Nat.mod_eq_of_lt (show x / 2 ^ n < 2 ^ 64 from hd)]
 unfold rot
 congr 1
 exact Nat.mod_mod_of_dvd _ (by decide)
set_option maxHeartbeats 800000 in
theorem right64 (A B x n : Nat) (w : World) (hx : x < 18446744073709551616) (hn : n < 64) (h0 : 0 < n) :
  Calls Tryz.prog 137 #[.agg (KdL64 A B).toArray, .int .u64 x, .int .i64 n] w fun e w' => e = .returned (.int .u64 ((rot 64 x n : Nat) : Int)) ∧ Below w.heap.size w w' := by
 have hrow : Row (w.alloc (.cells (KdL64 A B).toArray 130)) w.heap.size 130 (KdL64 A B) := Row.new _ _ _
 have c0 := hrow.cell (k := 0) rfl
 have c16 := hrow.cell (k := 16) rfl
 have s1 : IntKind.i64.wrap ((64 : Int) - n) = (64 : Int) - n := IntWalk.i64_in _ (by omega)
 have s2 : (0 : Int) ≤ (64 : Int) - n := by omega
 have s3 : ((64 : Int) - n).toNat = 64 - n := by omega
 have hr := rturn64 x n hx
 have HR := yH hr
 clear hrow hr
 go_enter Tryz.func137, Tryz.ntmps137
 go_wp2_with fail
 go_quiet (fail)
 go_wp2_with fail
 go_ret
 exact ⟨by rw [HR.out]; rfl, below_drewN ((Below.refl _ _).alloc (Nat.le_refl _) _) _⟩
set_option maxHeartbeats 1600000 in
theorem rbig64 (A B x i j k : Nat) (w : World) (hx : x < 18446744073709551616) (hi : i < 64) (hi0 : 0 < i) (hj : j < 64) (hj0 : 0 < j) (hk : k < 64) (hk0 : 0 < k) :
  Calls Tryz.prog 132 #[.agg (KdL64 A B).toArray, .int .u64 x, .agg #[.int .i64 (i : Int), .int .i64 (j : Int), .int .i64 (k : Int)]] w fun e w' => e = .returned (.int .u64 ((big3 64 x i j k : Nat) : Int)) ∧ Below w.heap.size w w' := by
 have h0 : (fun w' : World => Row w' w.heap.size 130 (KdL64 A B) ∧ Row w' (w.heap.size + 1) 128 [.int .i64 (i : Int), .int .i64 (j : Int), .int .i64 (k : Int)]) ((w.alloc (.cells (KdL64 A B).toArray 130)).alloc (.cells #[.int .i64 (i : Int), .int .i64 (j : Int), .int .i64 (k : Int)] 128)).drew :=
  ⟨((Row.new w (KdL64 A B) 130).alloc _).drewN 1, heap_alloc2_new _ _ _⟩
 have hb : Below w.heap.size w ((w.alloc (.cells (KdL64 A B).toArray 130)).alloc (.cells #[.int .i64 (i : Int), .int .i64 (j : Int), .int .i64 (k : Int)] 128)).drew := (((Below.refl _ _).alloc (Nat.le_refl _) _).alloc (by simp) _).drew
 have HH0 := yH h0
 have HI := yH kdInfo64
 have HB0 := yH hb
 have k0 : (0 : Int) ≤ (k : Int) := by omega
 clear h0 hb
 go_enter Tryz.func132, Tryz.ntmps132
 go_wp2_with fail
 refine wp_region_any (by kernel_rfl) ?_
 change wpAny _ _ _ _ _ _ _ (World.drew _)
 refine wpAny_of_held (S := (fun w' : World => Row w' w.heap.size 130 (KdL64 A B) ∧ Row w' (w.heap.size + 1) 128 [.int .i64 (i : Int), .int .i64 (j : Int), .int .i64 (k : Int)])) _ _ _ _ ?_
 have hHeld := HH0.out
 have hl : Ls [(1, 8), (6, 13), (12, 19), (2, 9), (7, 14), (13, 20)] := trivial
 repeat
  refine tkl hl (v := ?_) rfl rfl (by kernel_rfl) (fun _ _ _ h => h) (by rfl) ?_ hHeld ?_
  rotate_left
  ·(intro w' hSw; go_simp; try (with_reducible rfl))
  simp only [Act.put, yA, yB, yC]
  replace hl := hl.tl
 clear hl
 refine wpAnyH_take (i := 0) (v := .agg (KdL64 A B).toArray) rfl (by kernel_rfl) (by kernel_rfl) (by kernel_rfl) (fun _ _ _ h => h) (yieldsIf_load_mid (by rfl) 130 (.tmp 3) rfl w.heap.size 0 rfl (KdL64 A B) _ (fun w' hSw => hSw.1.range) (by rfl) rfl HI.out) hHeld ?_
 change wpAnyH _ _ _ _ _ _ _ (Act.put _ (some 7) _) _
 simp only [Act.put, yA, yB, yC]
 refine wpAnyH_take (i := 5) (v := .agg (KdL64 A B).toArray) rfl (by kernel_rfl) (by kernel_rfl) (by kernel_rfl) (fun _ _ _ h => h) (yieldsIf_load_mid (by rfl) 130 (.tmp 3) rfl w.heap.size 0 rfl (KdL64 A B) _ (fun w' hSw => hSw.1.range) (by rfl) rfl HI.out) hHeld ?_
 change wpAnyH _ _ _ _ _ _ _ (Act.put _ (some 12) _) _
 simp only [Act.put, yA, yB, yC]
 refine wpAnyH_take (i := 11) (v := .agg (KdL64 A B).toArray) rfl (by kernel_rfl) (by kernel_rfl) (by kernel_rfl) (fun _ _ _ h => h) (yieldsIf_load_mid (by rfl) 130 (.tmp 3) rfl w.heap.size 0 rfl (KdL64 A B) _ (fun w' hSw => hSw.1.range) (by rfl) rfl HI.out) hHeld ?_
 change wpAnyH _ _ _ _ _ _ _ (Act.put _ (some 18) _) _
 simp only [Act.put, yA, yB, yC]
 refine tk 3 10 (v := ?_) rfl rfl (by kernel_rfl) (fun _ _ _ h => h) (by rfl) ?_ hHeld ?_
 rotate_left
 ·(intro w' hSw; have c0 := hSw.2.cell (k := 0) rfl; go_simp; try (with_reducible rfl))
 simp only [Act.put, yA, yB, yC]
 refine tk 8 15 (v := ?_) rfl rfl (by kernel_rfl) (fun _ _ _ h => h) (by rfl) ?_ hHeld ?_
 rotate_left
 ·(intro w' hSw; have c0 := hSw.2.cell (k := 1) rfl; go_simp; try (with_reducible rfl))
 simp only [Act.put, yA, yB, yC]
 refine tk 14 21 (v := ?_) rfl rfl (by kernel_rfl) (fun _ _ _ h => h) (by rfl) ?_ hHeld ?_
 rotate_left
 ·(intro w' hSw; have c0 := hSw.2.cell (k := 2) rfl; go_simp; try (with_reducible rfl))
 simp only [Act.put, yA, yB, yC]
 refine wpAnyH_ready (rs := [4]) (by kernel_rfl) (by simp) ?_
 refine AllReadyH.cons rfl (fun K hK => ?_) AllReadyH.nil
 rw [if_pos (by kernel_rfl)]
 go_simp
 refine (right64 A B x i _ hx hi hi0).mono ?_
 rintro e w1 ⟨rfl, hb1⟩
 refine hK.out _ _ ⟨hHeld.1.belowAll hb1, hHeld.2.belowAll hb1⟩ (fun hHeld => ?_)
 clear hK K
 have HB1 := yH hb1
 clear hb1
 refine wpAnyH_ready (rs := [9]) (by kernel_rfl) (by simp) ?_
 refine AllReadyH.cons rfl (fun K hK => ?_) AllReadyH.nil
 rw [if_pos (by kernel_rfl)]
 go_simp
 refine (right64 A B x j _ hx hj hj0).mono ?_
 rintro e w2 ⟨rfl, hb2⟩
 refine hK.out _ _ ⟨hHeld.1.belowAll hb2, hHeld.2.belowAll hb2⟩ (fun hHeld => ?_)
 clear hK K
 have HB2 := yH hb2
 clear hb2
 refine tk 10 17 (v := ?_) rfl rfl (by kernel_rfl) (fun _ _ _ h => h) (by rfl) ?_ hHeld ?_
 rotate_left
 ·(intro w' hSw; go_simp; try (with_reducible rfl))
 simp only [Act.put, yA, yB, yC]
 refine wpAnyH_ready (rs := [15]) (by kernel_rfl) (by simp) ?_
 refine AllReadyH.cons rfl (fun K hK => ?_) AllReadyH.nil
 rw [if_pos (by kernel_rfl)]
 go_simp
 refine (right64 A B x k _ hx hk hk0).mono ?_
 rintro e w3 ⟨rfl, hb3⟩
 refine hK.out _ _ ⟨hHeld.1.belowAll hb3, hHeld.2.belowAll hb3⟩ (fun hHeld => ?_)
 clear hK K
 have HB3 := yH hb3
 clear hb3
 refine tk 16 23 (v := ?_) rfl rfl (by kernel_rfl) (fun _ _ _ h => h) (by rfl) ?_ hHeld ?_
 rotate_left
 ·(intro w' hSw; go_simp; try (with_reducible rfl))
 simp only [Act.put, yA, yB, yC]
 refine wpAnyH_ready (rs := [17]) (by kernel_rfl) (by simp) ?_
 refine AllReadyH.cons rfl (fun K hK => ?_) AllReadyH.nil
 rw [if_pos (by kernel_rfl)]
 go_simp
 refine hK.out _ _ hHeld (fun hHeld => ?_)
 clear hK K
 refine wpAnyH_done (by kernel_rfl) ?_ _
 go_wp2_with fail
 go_ret
 refine ⟨?_, HB0.out.trans ((HB1.out.mono HB0.out.size).trans ((HB2.out.mono (HB0.out.trans (HB1.out.mono HB0.out.size)).size).trans (HB3.out.mono (HB0.out.trans ((HB1.out.mono HB0.out.size).trans (HB2.out.mono (HB0.out.trans (HB1.out.mono HB0.out.size)).size))).size)))⟩
 have li := rot_lt (b := 64) (n := i) hx
 have lj := rot_lt (b := 64) (n := j) hx
 have lk := rot_lt (b := 64) (n := k) hx
 have x1 : bits .xor .u64 ((rot 64 x i : Nat) : Int) ((rot 64 x j : Nat) : Int) = ((rot 64 x i ^^^ rot 64 x j : Nat) : Int) := u64_xor_nat _ _ (Nat.lt_of_lt_of_le li (by decide)) (Nat.lt_of_lt_of_le lj (by decide))
 rw [x1, u64_xor_nat _ _ (Nat.lt_of_lt_of_le (Nat.xor_lt_two_pow li lj) (by decide)) (Nat.lt_of_lt_of_le lk (by decide))]
 rfl
set_option maxHeartbeats 1600000 in
theorem rsml64 (A B x i j k : Nat) (w : World) (hx : x < 18446744073709551616) (hi : i < 64) (hi0 : 0 < i) (hj : j < 64) (hj0 : 0 < j) (hk : k < 64) :
  Calls Tryz.prog 131 #[.agg (KdL64 A B).toArray, .int .u64 x, .agg #[.int .i64 (i : Int), .int .i64 (j : Int), .int .i64 (k : Int)]] w fun e w' => e = .returned (.int .u64 ((sml3 64 x i j k : Nat) : Int)) ∧ Below w.heap.size w w' := by
 have h0 : (fun w' : World => Row w' w.heap.size 130 (KdL64 A B) ∧ Row w' (w.heap.size + 1) 128 [.int .i64 (i : Int), .int .i64 (j : Int), .int .i64 (k : Int)]) ((w.alloc (.cells (KdL64 A B).toArray 130)).alloc (.cells #[.int .i64 (i : Int), .int .i64 (j : Int), .int .i64 (k : Int)] 128)).drew :=
  ⟨((Row.new w (KdL64 A B) 130).alloc _).drewN 1, heap_alloc2_new _ _ _⟩
 have hb : Below w.heap.size w ((w.alloc (.cells (KdL64 A B).toArray 130)).alloc (.cells #[.int .i64 (i : Int), .int .i64 (j : Int), .int .i64 (k : Int)] 128)).drew := (((Below.refl _ _).alloc (Nat.le_refl _) _).alloc (by simp) _).drew
 have HH0 := yH h0
 have HI := yH kdInfo64
 have HB0 := yH hb
 have k0 : (0 : Int) ≤ (k : Int) := by omega
 clear h0 hb
 go_enter Tryz.func131, Tryz.ntmps131
 go_wp2_with fail
 refine wp_region_any (by kernel_rfl) ?_
 change wpAny _ _ _ _ _ _ _ (World.drew _)
 refine wpAny_of_held (S := (fun w' : World => Row w' w.heap.size 130 (KdL64 A B) ∧ Row w' (w.heap.size + 1) 128 [.int .i64 (i : Int), .int .i64 (j : Int), .int .i64 (k : Int)])) _ _ _ _ ?_
 have hHeld := HH0.out
 have hl : Ls [(1, 8), (6, 13), (11, 18), (2, 9), (7, 14), (12, 19)] := trivial
 repeat
  refine tkl hl (v := ?_) rfl rfl (by kernel_rfl) (fun _ _ _ h => h) (by rfl) ?_ hHeld ?_
  rotate_left
  ·(intro w' hSw; go_simp; try (with_reducible rfl))
  simp only [Act.put, yA, yB, yC]
  replace hl := hl.tl
 clear hl
 refine wpAnyH_take (i := 0) (v := .agg (KdL64 A B).toArray) rfl (by kernel_rfl) (by kernel_rfl) (by kernel_rfl) (fun _ _ _ h => h) (yieldsIf_load_mid (by rfl) 130 (.tmp 3) rfl w.heap.size 0 rfl (KdL64 A B) _ (fun w' hSw => hSw.1.range) (by rfl) rfl HI.out) hHeld ?_
 change wpAnyH _ _ _ _ _ _ _ (Act.put _ (some 7) _) _
 simp only [Act.put, yA, yB, yC]
 refine wpAnyH_take (i := 5) (v := .agg (KdL64 A B).toArray) rfl (by kernel_rfl) (by kernel_rfl) (by kernel_rfl) (fun _ _ _ h => h) (yieldsIf_load_mid (by rfl) 130 (.tmp 3) rfl w.heap.size 0 rfl (KdL64 A B) _ (fun w' hSw => hSw.1.range) (by rfl) rfl HI.out) hHeld ?_
 change wpAnyH _ _ _ _ _ _ _ (Act.put _ (some 12) _) _
 simp only [Act.put, yA, yB, yC]
 refine tk 3 10 (v := ?_) rfl rfl (by kernel_rfl) (fun _ _ _ h => h) (by rfl) ?_ hHeld ?_
 rotate_left
 ·(intro w' hSw; have c0 := hSw.2.cell (k := 0) rfl; go_simp; try (with_reducible rfl))
 simp only [Act.put, yA, yB, yC]
 refine tk 8 15 (v := ?_) rfl rfl (by kernel_rfl) (fun _ _ _ h => h) (by rfl) ?_ hHeld ?_
 rotate_left
 ·(intro w' hSw; have c0 := hSw.2.cell (k := 1) rfl; go_simp; try (with_reducible rfl))
 simp only [Act.put, yA, yB, yC]
 refine tk 13 20 (v := ?_) rfl rfl (by kernel_rfl) (fun _ _ _ h => h) (by rfl) ?_ hHeld ?_
 rotate_left
 ·(intro w' hSw; have c0 := hSw.2.cell (k := 2) rfl; go_simp; try (with_reducible rfl))
 simp only [Act.put, yA, yB, yC]
 refine tk 14 21 (v := ?_) rfl rfl (by kernel_rfl) (fun _ _ _ h => h) (by rfl) ?_ hHeld ?_
 rotate_left
 ·(intro w' hSw; go_simp; try (with_reducible rfl))
 simp only [Act.put, yA, yB, yC]
 refine wpAnyH_ready (rs := [4]) (by kernel_rfl) (by simp) ?_
 refine AllReadyH.cons rfl (fun K hK => ?_) AllReadyH.nil
 rw [if_pos (by kernel_rfl)]
 go_simp
 refine (right64 A B x i _ hx hi hi0).mono ?_
 rintro e w1 ⟨rfl, hb1⟩
 refine hK.out _ _ ⟨hHeld.1.belowAll hb1, hHeld.2.belowAll hb1⟩ (fun hHeld => ?_)
 clear hK K
 have HB1 := yH hb1
 clear hb1
 refine wpAnyH_ready (rs := [9]) (by kernel_rfl) (by simp) ?_
 refine AllReadyH.cons rfl (fun K hK => ?_) AllReadyH.nil
 rw [if_pos (by kernel_rfl)]
 go_simp
 refine (right64 A B x j _ hx hj hj0).mono ?_
 rintro e w2 ⟨rfl, hb2⟩
 refine hK.out _ _ ⟨hHeld.1.belowAll hb2, hHeld.2.belowAll hb2⟩ (fun hHeld => ?_)
 clear hK K
 have HB2 := yH hb2
 clear hb2
 have hl : Ls [(10, 17), (15, 22)] := trivial
 repeat
  refine tkl hl (v := ?_) rfl rfl (by kernel_rfl) (fun _ _ _ h => h) (by rfl) ?_ hHeld ?_
  rotate_left
  ·(intro w' hSw; go_simp; try (with_reducible rfl))
  simp only [Act.put, yA, yB, yC]
  replace hl := hl.tl
 clear hl
 refine wpAnyH_ready (rs := [16]) (by kernel_rfl) (by simp) ?_
 refine AllReadyH.cons rfl (fun K hK => ?_) AllReadyH.nil
 rw [if_pos (by kernel_rfl)]
 go_simp
 refine hK.out _ _ hHeld (fun hHeld => ?_)
 clear hK K
 refine wpAnyH_done (by kernel_rfl) ?_ _
 go_wp2_with fail
 go_ret
 refine ⟨?_, HB0.out.trans ((HB1.out.mono HB0.out.size).trans ((HB2.out.mono (HB0.out.trans (HB1.out.mono HB0.out.size)).size)))⟩
 have li := rot_lt (b := 64) (n := i) hx
 have lj := rot_lt (b := 64) (n := j) hx
 have lk : x / 2 ^ k < 2 ^ 64 := Nat.lt_of_le_of_lt (Nat.div_le_self _ _) hx
 have ek : (x : Int) / 2 ^ k = ((x / 2 ^ k : Nat) : Int) := by push_cast; rfl
 have x1 : bits .xor .u64 ((rot 64 x i : Nat) : Int) ((rot 64 x j : Nat) : Int) = ((rot 64 x i ^^^ rot 64 x j : Nat) : Int) := u64_xor_nat _ _ (Nat.lt_of_lt_of_le li (by decide)) (Nat.lt_of_lt_of_le lj (by decide))
 rw [x1, ek, u64_xor_nat _ _ (Nat.lt_of_lt_of_le (Nat.xor_lt_two_pow li lj) (by decide)) (Nat.lt_of_lt_of_le lk (by decide))]
 rfl
def Vs64 (l : List Nat) : List Value := l.map fun x => .int .u64 ((x : Nat) : Int)
def rc64 : List Nat := [4794697086780616226, 8158064640168781261, 13096744586834688815, 16840607885511220156, 4131703408338449720, 6480981068601479193, 10538285296894168987, 12329834152419229976, 15566598209576043074, 1334009975649890238, 2608012711638119052, 6128411473006802146, 8268148722764581231, 9286055187155687089, 11230858885718282805, 13951009754708518548, 16472876342353939154, 17275323862435702243, 1135362057144423861, 2597628984639134821, 3308224258029322869, 5365058923640841347, 6679025012923562964, 8573033837759648693, 10970295158949994411, 12119686244451234320, 12683024718118986047, 13788192230050041572, 14330467153632333762, 15395433587784984357, 489312712824947311, 1452737877330783856, 2861767655752347644, 3322285676063803686, 5560940570517711597, 5996557281743188959, 7280758554555802590, 8532644243296465576, 9350256976987008742, 10552545826968843579, 11727347734174303076, 12113106623233404929, 14000437183269869457, 14369950271660146224, 15101387698204529176, 15463397548674623760, 17586052441742319658, 1182934255886127544, 1847814050463011016, 2177327727835720531, 2830643537854262169, 3796741975233480872, 4115178125766777443, 5681478168544905931, 6601373596472566643, 7507060721942968483, 8399075790359081724, 8693463985226723168, 9568029438360202098, 10144078919501101548, 10430055236837252648, 11840083180663258601, 13761210420658862357, 14299343276471374635, 14566680578165727644, 15097957966210449927, 16922976911328602910, 17689382322260857208, 500013540394364858, 748580250866718886, 1242879168328830382, 1977374033974150939, 2944078676154940804, 3659926193048069267, 4368137639120453308, 4836135668995329356, 5532061633213252278, 6448918945643986474, 6902733635092675308, 7801388544844847127]
def fc64 : List Nat := [7640891576956012808, 13503953896175478587, 4354685564936845355, 11912009170470909681, 5840696475078001361, 11170449401992604703, 2270897969802886507, 6620516959819538809]
theorem rc64_eq : ∀ i, i < 80 → rc64.getD i 0 = k64.getD i 0 / 2 ^ (64 - 64) := by decide +kernel
theorem rc64_len : rc64.length = 80 := by decide +kernel
theorem heap3a64 (w : World) (X Y Z : Obj) : (((w.alloc X).alloc Y).alloc Z).heap[w.heap.size]? = some X :=
 (Below.heap_alloc _ _ _ (by simp <;> omega)).trans ((Below.heap_alloc _ _ _ (by simp)).trans (heap_alloc_new _ _))
theorem heap3b64 (w : World) (X Y Z : Obj) : (((w.alloc X).alloc Y).alloc Z).heap[w.heap.size + 1]? = some Y :=
 (Below.heap_alloc _ _ _ (by simp)).trans (heap_alloc2_new _ _ _)
theorem heap3c64 (w : World) (X Y Z : Obj) : (((w.alloc X).alloc Y).alloc Z).heap[w.heap.size + 2]? = some Z := by
 have h := heap_alloc_new ((w.alloc X).alloc Y) Z
 rwa [show ((w.alloc X).alloc Y).heap.size = w.heap.size + 2 by simp] at h
set_option maxHeartbeats 1600000 in
theorem kind64 (w : World) : Calls Tryz.prog 90 #[] w fun e w' => ∃ A B, e = .returned (.agg (KdL64 A B).toArray) ∧ Row w' A 59 (Vs64 fc64) ∧ Row w' B 59 (Vs64 rc64) ∧ Below w.heap.size w w' ∧ w.heap.size ≤ A ∧ w.heap.size ≤ B := by
 go_enter Tryz.func90, Tryz.ntmps90
 go_wp2_with fail
 refine bodyPost_ret (results_cell_row (by rfl) _ _ w.heap.size 130 (KdL64 (w.heap.size + 1) (w.heap.size + 2)).toArray (0, 0) _ (by rfl) ?_ (by rfl) rfl (by kernel_rfl)) rfl ?_
 ·exact heap3a64 w _ _ _
 ·refine ⟨w.heap.size + 1, w.heap.size + 2, rfl, ?_, ?_, ?_, by omega, by omega⟩
  ·exact heap3b64 w _ _ _
  ·exact heap3c64 w _ _ _
  ·exact (((Below.refl _ _).alloc (Nat.le_refl _) _).alloc (by simp) _).alloc (by simp <;> omega) _
theorem exp64_take (l : List Nat) : ∀ (n m : Nat), m ≤ n → (exp64 n l).take (l.length + m) = exp64 m l
 | 0, m, h => by
  obtain rfl : m = 0 := by omega
  exact List.take_of_length_le (by simp [exp64])
 | n + 1, m, h => by
  by_cases e : m = n + 1
  ·subst e
   exact List.take_of_length_le (Nat.le_of_eq (exp64_length _ _))
  ·rw [show exp64 (n + 1) l = exp64 n l ++ [nxt64 (exp64 n l)] from rfl, List.take_append_of_le_length (by rw [exp64_length]; omega)]
   exact exp64_take l n m (by omega)
def ful64 (b : List Nat) : List Nat := exp64 64 b
theorem ful64_len {b : List Nat} (hb : b.length = 16) : (ful64 b).length = 80 := by unfold ful64; rw [exp64_length, hb]
theorem ful64_lt {b : List Nat} (h : ∀ x ∈ b, x < 18446744073709551616) : ∀ x ∈ ful64 b, x < 18446744073709551616 := exp64_lt h 64
theorem ful64_at {b : List Nat} (h : ∀ x ∈ b, x < 18446744073709551616) (i : Nat) : (ful64 b).getD i 0 < 18446744073709551616 := by
 rw [List.getD]
 cases e : (ful64 b)[i]? with
 | none => decide
 | some v => exact ful64_lt h v (List.mem_of_getElem? e)
theorem ful64_succ {b : List Nat} (hb : b.length = 16) {i : Nat} (hi : i < 80) : (ful64 b).take (i + 1) = (ful64 b).take i ++ [(ful64 b).getD i 0] := by
 have hl : i < (ful64 b).length := by rw [ful64_len hb]; exact hi
 rw [List.take_add_one, List.getD, List.getElem?_eq_getElem hl]
 rfl
theorem ful64_lo {b : List Nat} (hb : b.length = 16) {i : Nat} (hi : i < 16) : (ful64 b).getD i 0 = b.getD i 0 := by
 have h := exp64_take b 64 0 (by omega)
 rw [hb] at h
 have h2 : (ful64 b)[i]? = b[i]? := by
  have := congrArg (fun l => l[i]?) h
  simp only [List.getElem?_take, Nat.add_zero] at this
  rw [if_pos hi] at this
  exact this
 rw [List.getD, h2, List.getD]
theorem ful64_hi {b : List Nat} (hb : b.length = 16) {i : Nat} (h16 : 16 ≤ i) (hi : i < 80) : (ful64 b).getD i 0 = (sml3 64 ((ful64 b).getD (i - 2) 0) 19 61 6 + (ful64 b).getD (i - 7) 0 + sml3 64 ((ful64 b).getD (i - 15) 0) 1 8 7 + (ful64 b).getD (i - 16) 0) % 18446744073709551616 := by
 have h1 := exp64_take b 64 (i - 16) (by omega)
 have h2 := exp64_take b 64 (i - 16 + 1) (by omega)
 rw [hb] at h1 h2
 rw [show 16 + (i - 16) = i by omega] at h1
 rw [show 16 + (i - 16 + 1) = i + 1 by omega, show exp64 (i - 16 + 1) b = exp64 (i - 16) b ++ [nxt64 (exp64 (i - 16) b)] from rfl, ← h1] at h2
 have hs := ful64_succ hb hi
 have e := hs.symm.trans h2
 have hx := List.append_cancel_left e
 have hv : (ful64 b).getD i 0 = nxt64 ((ful64 b).take i) := (List.cons.inj hx).1
 have hl : ((ful64 b).take i).length = i := by rw [List.length_take, ful64_len hb]; omega
 have hg : ∀ k, k < i → ((ful64 b).take i).getD k 0 = (ful64 b).getD k 0 := fun k hk => by rw [List.getD, List.getElem?_take, if_pos hk, List.getD]
 rw [hv]
 unfold nxt64
 rw [hl, hg _ (by omega), hg _ (by omega), hg _ (by omega), hg _ (by omega)]
def wpt64 (ms : List Nat) (i : Nat) : Nat → Nat
 | 0 => 0
 | j + 1 => wpt64 ms i j * 256 + ms.getD (i * 8 + j) 0
theorem getD256 {ms : List Nat} (h : ∀ x ∈ ms, x < 256) (k : Nat) : ms.getD k 0 < 256 := by
 rw [List.getD]
 cases e : ms[k]? with
 | none => decide
 | some v => exact h v (List.mem_of_getElem? e)
theorem wpt64_lt {ms : List Nat} (h : ∀ x ∈ ms, x < 256) (i : Nat) : ∀ j, wpt64 ms i j < 256 ^ j
 | 0 => Nat.one_pos
 | j + 1 => by
  have h1 := wpt64_lt h i j
  have h2 := getD256 h (i * 8 + j)
  rw [Nat.pow_succ]
  unfold wpt64
  omega
def wds64 (ms : List Nat) : List Nat := (List.range 16).map fun i => wpt64 ms i 8
theorem wds64_len (ms : List Nat) : (wds64 ms).length = 16 := by simp [wds64]
theorem wds64_get (ms : List Nat) {i : Nat} (hi : i < 16) : (wds64 ms).getD i 0 = wpt64 ms i 8 := by simp [wds64, List.getD, hi]
theorem wds64_lt {ms : List Nat} (h : ∀ x ∈ ms, x < 256) : ∀ x ∈ wds64 ms, x < 18446744073709551616 := by
 intro x hx
 simp only [wds64, List.mem_map] at hx
 obtain ⟨i, _, rfl⟩ := hx
 exact wpt64_lt h i 8
def rst64 (s : S8x64) (b : List Nat) (i : Nat) : S8x64 := rns64 (fun i => rc64.getD i 0) (fun i => (ful64 b).getD i 0) i s
theorem rst64_succ (s : S8x64) (b : List Nat) (i : Nat) : rst64 s b (i + 1) = rnd64 (rst64 s b i) (rc64.getD i 0) ((ful64 b).getD i 0) := rfl
theorem rns64_congr {K K' W W' : Nat → Nat} (s : S8x64) : ∀ {n : Nat}, (∀ i, i < n → K i = K' i ∧ W i = W' i) → rns64 K W n s = rns64 K' W' n s
 | 0, _ => rfl
 | n + 1, h => by
  show rnd64 (rns64 K W n s) (K n) (W n) = rnd64 (rns64 K' W' n s) (K' n) (W' n)
  rw [rns64_congr s (fun i hi => h i (by omega)), (h n (by omega)).1, (h n (by omega)).2]
theorem rst64_eq (s : S8x64) {b : List Nat} (hb : b.length = 16) : rst64 s b 80 = gone64 s b 80 := by
 unfold rst64 gone64
 refine rns64_congr s fun i hi => ⟨rc64_eq i hi, ?_⟩
 have hl : i < (ful64 b).length := by rw [ful64_len hb]; exact hi
 show (ful64 b).getD i 0 = (ws64 b).getD i 0
 have e : ws64 b = ful64 b := by unfold ws64 ful64; exact List.append_nil _
 rw [e]
theorem Vs64_get (l : List Nat) (k : Nat) : (Vs64 l)[k]? = l[k]?.map fun x => .int .u64 ((x : Nat) : Int) := by simp [Vs64]
theorem Vs64_len (l : List Nat) : (Vs64 l).length = l.length := by simp [Vs64]
theorem Vs64_one (l : List Nat) : ∀ u ∈ Vs64 l, u.oneCell' = true := by
 intro u hu
 simp only [Vs64, List.mem_map] at hu
 obtain ⟨c, _, rfl⟩ := hu
 rfl
theorem Vs64_append (l m : List Nat) : Vs64 (l ++ m) = Vs64 l ++ Vs64 m := by simp [Vs64]
theorem rg64 {w : World} {b : Nat} {l : List Nat} (h : w.rangeAt b 0 (Vs64 l)) {k : Nat} (hk : k < l.length) : w.cell? ⟨b, k, none⟩ = some (.int .u64 ((l.getD k 0 : Nat) : Int)) := by
 have := h k (.int .u64 ((l.getD k 0 : Nat) : Int)) (by rw [Vs64_get, List.getD, List.getElem?_eq_getElem hk]; rfl)
 rwa [Nat.zero_add] at this
theorem range64_below {w w' : World} {b o : Nat} {cs : List Value} (h : w.rangeAt b o cs) {B : Nat} (hb : Below B w w') (hB : b < B) : w'.rangeAt b o cs := fun j v hv => (hb.cell (p := ⟨b, o + j, none⟩) hB).trans (h j v hv)
theorem rowmid64 {w : World} {g : Nat} {T : TypeId} {l : List Value} (h : Row w g T l) (o : Nat) {cs : List Value} (e : (l.drop o).take cs.length = cs) : w.rangeAt g o cs := by
 intro j v hv
 have hj : j < cs.length := (List.getElem?_eq_some_iff.1 hv).1
 refine h.cell ?_
 rw [← hv]
 conv => rhs; rw [← e]
 rw [List.getElem?_take, if_pos hj, List.getElem?_drop]
theorem u64_info64 : (Tryz.prog.info? 59).map (fun i => (i.zero, i.size, i.bytes)) = some (some (.int .u64 0), 1, 8) := by kernel_rfl
theorem Below.lt_of64 {w w' : World} (h : Below w.heap.size w w') {a : Addr} {v : Value} (_ : w.cell? a = some v) : ∀ (b : Addr) (u : Value), w.cell? b = some u → w'.cell? b = some u := fun b _ hu => (h.cell (p := b) (lt_of_cell hu)).trans hu
theorem t3Info64 : (Tryz.prog.info? 128).map (·.size) = some 3 := by kernel_rfl
theorem andsum64 (a b c d : Nat) : bits .and .u64 (IntKind.u64.wrap (IntKind.u64.wrap (IntKind.u64.wrap ((a : Int) + b) + c) + d)) 18446744073709551615 = (((a + b + c + d) % 18446744073709551616 : Nat) : Int) := by
 rw [← Int.natCast_add, wrap64_nat, ← Int.natCast_add, wrap64_nat, ← Int.natCast_add, wrap64_nat, show (18446744073709551615 : Int) = ((18446744073709551615 : Nat) : Int) from rfl, u64_and_nat _ _ (Nat.mod_lt _ (by decide)) (by decide)]
 rw [show (18446744073709551615 : Nat) = 2 ^ 64 - 1 from rfl, Nat.and_two_pow_sub_one_eq_mod]
 congr 1
 show _ % 18446744073709551616 = _
 omega
theorem rch64 {e f g : Nat} (he : e < 18446744073709551616) (hf : f < 18446744073709551616) (hg : g < 18446744073709551616) : bits .xor .u64 (bits .and .u64 (e : Int) (f : Int)) (bits .and .u64 (bits .xor .u64 18446744073709551615 (e : Int)) (g : Int)) = ((ch64 e f g : Nat) : Int) := by
 have x1 : bits .xor .u64 18446744073709551615 (e : Int) = ((18446744073709551616 - (e + 1) : Nat) : Int) := by
  rw [show (18446744073709551615 : Int) = ((18446744073709551615 : Nat) : Int) from rfl, u64_xor_nat _ _ (by decide) (by omega)]
  congr 1
  exact xor_ones64 he
 rw [x1, u64_and_nat _ _ (by omega) (by omega), u64_and_nat _ _ (by omega) (by omega), u64_xor_nat _ _ (Nat.lt_of_le_of_lt Nat.and_le_left (by omega)) (Nat.lt_of_le_of_lt Nat.and_le_left (by omega))]
 rfl
theorem rmaj64 {a b c : Nat} (ha : a < 18446744073709551616) (hb : b < 18446744073709551616) (hc : c < 18446744073709551616) : bits .xor .u64 (bits .xor .u64 (bits .and .u64 (a : Int) (b : Int)) (bits .and .u64 (a : Int) (c : Int))) (bits .and .u64 (b : Int) (c : Int)) = ((maj64 a b c : Nat) : Int) := by
 rw [u64_and_nat _ _ (by omega) (by omega), u64_and_nat _ _ (by omega) (by omega), u64_and_nat _ _ (by omega) (by omega), u64_xor_nat _ _ (Nat.lt_of_le_of_lt Nat.and_le_left (by omega)) (Nat.lt_of_le_of_lt Nat.and_le_left (by omega)), u64_xor_nat _ _ (Nat.xor_lt_two_pow (n := 64) (Nat.lt_of_le_of_lt Nat.and_le_left (by omega)) (Nat.lt_of_le_of_lt Nat.and_le_left (by omega))) (Nat.lt_of_le_of_lt Nat.and_le_left (by omega))]
 rfl
def rt64 (h s c k x : Nat) : Nat := (h + s + c + k + x) % 18446744073709551616
theorem rts64 (h s c k x : Nat) : IntKind.u64.wrap (IntKind.u64.wrap (IntKind.u64.wrap (IntKind.u64.wrap ((h : Int) + s) + c) + k) + x) = ((rt64 h s c k x : Nat) : Int) := by
 rw [← Int.natCast_add, wrap64_nat, ← Int.natCast_add, wrap64_nat, ← Int.natCast_add, wrap64_nat, ← Int.natCast_add, wrap64_nat]
 congr 1
 unfold rt64
 omega
def ru64 (s c : Nat) : Nat := (s + c) % 18446744073709551616
theorem rus64 (s c : Nat) : IntKind.u64.wrap ((s : Int) + c) = ((ru64 s c : Nat) : Int) := by rw [← Int.natCast_add, wrap64_nat]; rfl
theorem cut64 (a b : Nat) : bits .and .u64 (IntKind.u64.wrap ((a : Int) + b)) 18446744073709551615 = (((a + b) % 18446744073709551616 : Nat) : Int) := by
 rw [← Int.natCast_add, wrap64_nat, show (18446744073709551615 : Int) = ((18446744073709551615 : Nat) : Int) from rfl, u64_and_nat _ _ (Nat.mod_lt _ (by decide)) (by decide), show (18446744073709551615 : Nat) = 2 ^ 64 - 1 from rfl, Nat.and_two_pow_sub_one_eq_mod]
 congr 1
 show _ % 18446744073709551616 = _
 omega
theorem rndeq64 (S : S8x64) (k x : Nat) : rnd64 S k x = ⟨(rt64 S.h (big3 64 S.e 14 18 41) (ch64 S.e S.f S.g) k x + ru64 (big3 64 S.a 28 34 39) (maj64 S.a S.b S.c)) % 18446744073709551616, S.a, S.b, S.c, (S.d + rt64 S.h (big3 64 S.e 14 18 41) (ch64 S.e S.f S.g) k x) % 18446744073709551616, S.e, S.f, S.g⟩ := by
 unfold rnd64 t64 ma64 rt64 ru64
 generalize big3 64 S.e 14 18 41 = z1
 generalize ch64 S.e S.f S.g = z2
 generalize big3 64 S.a 28 34 39 = z3
 generalize maj64 S.a S.b S.c = z4
 congr 1 <;> omega
theorem sumget64 (a1 a2 a3 a4 a5 a6 a7 a8 b1 b2 b3 b4 b5 b6 b7 b8 : Nat) (f : Nat → Nat → Nat) (j : Nat) (hj : j < 8) : [f a1 b1, f a2 b2, f a3 b3, f a4 b4, f a5 b5, f a6 b6, f a7 b7, f a8 b8].getD j 0 = f ([a1, a2, a3, a4, a5, a6, a7, a8].getD j 0) ([b1, b2, b3, b4, b5, b6, b7, b8].getD j 0) :=
 match j, hj with
 | 0, _ => rfl
 | 1, _ => rfl
 | 2, _ => rfl
 | 3, _ => rfl
 | 4, _ => rfl
 | 5, _ => rfl
 | 6, _ => rfl
 | 7, _ => rfl
 | _ + 8, h => by omega
theorem mxget64 (s : S8x64) (b : List Nat) {j : Nat} (hj : j < 8) : (mxs64 s b).list.getD j 0 = (s.list.getD j 0 + (gone64 s b 80).list.getD j 0) % 18446744073709551616 := by
 unfold mxs64
 generalize gone64 s b 80 = t
 obtain ⟨t1, t2, t3, t4, t5, t6, t7, t8⟩ := t
 obtain ⟨s1, s2, s3, s4, s5, s6, s7, s8⟩ := s
 exact sumget64 s1 s2 s3 s4 s5 s6 s7 s8 t1 t2 t3 t4 t5 t6 t7 t8 (fun x y => (x + y) % 18446744073709551616) j hj
theorem xorbyte64 (x c : Nat) (hx : x < 72057594037927936) (hc : c < 256) : bits .or .u64 (IntKind.u64.wrap ((x : Int) * 256)) (c : Int) = ((x * 256 + c : Nat) : Int) := by
 rw [show (x : Int) * 256 = ((x * 256 : Nat) : Int) by omega, wrap64_nat, Nat.mod_eq_of_lt (by omega), u64_or_nat _ _ (by omega) (by omega), show x * 256 = 2 ^ 8 * x by omega, ← Nat.two_pow_add_eq_or_of_lt (i := 8) (by omega : c < 2 ^ 8)]
def bev64 (x : Nat) : List Nat → Nat
 | [] => x
 | c :: l => bev64 ((x * 256 + c) % 18446744073709551616) l
theorem orbyte64 (x c : Nat) (hc : c < 256) : (x * 256 % 18446744073709551616 ||| c) = (x * 256 + c) % 18446744073709551616 := by
 have e : x * 256 % 18446744073709551616 = 2 ^ 8 * (x % 72057594037927936) := by
  rw [show (18446744073709551616 : Nat) = 72057594037927936 * 256 from rfl, Nat.mul_mod_mul_right]
  omega
 rw [e, ← Nat.two_pow_add_eq_or_of_lt (i := 8) (show c < 2 ^ 8 from hc)]
 have h := Nat.mod_lt x (show 0 < 72057594037927936 by decide)
 omega
theorem fed64_in (s : S8x64) : ∀ (l b : List Nat) (n : Nat), (∀ c ∈ l, c < 256) → n % 8 + l.length < 8 → b.length = 16 →
  fed64 (s, b, n) l = (s, b.set (n / 8 % 16) (bev64 (b.getD (n / 8 % 16) 0) l), n + l.length)
 | [], b, n, _, _, hb => by
  have hi : n / 8 % 16 < b.length := by rw [hb]; exact Nat.mod_lt _ (by decide)
  show (s, b, n) = (s, b.set (n / 8 % 16) (b.getD (n / 8 % 16) 0), n + 0)
  rw [List.getD, List.getElem?_eq_getElem hi]
  simp
 | c :: l, b, n, hl, hn, hb => by
  have hc := hl c (List.mem_cons_self ..)
  simp only [List.length_cons] at hn
  have hi : n / 8 % 16 < b.length := by rw [hb]; exact Nat.mod_lt _ (by decide)
  have e1 : now64 s b n c = s := by unfold now64; rw [if_neg (by omega)]
  have e2 : blk64 b n c = b.set (n / 8 % 16) ((b.getD (n / 8 % 16) 0 * 256 + c) % 18446744073709551616) := by
   unfold blk64
   rw [orbyte64 _ _ hc]
  have hstep : fed64 (s, b, n) (c :: l) = fed64 (now64 s b n c, blk64 b n c, n + 1) l := rfl
  rw [hstep, e1, e2, fed64_in s l _ (n + 1) (fun d hd => hl d (List.mem_cons_of_mem _ hd)) (by omega) (by rw [List.length_set, hb])]
  have e3 : (n + 1) / 8 % 16 = n / 8 % 16 := by omega
  rw [e3]
  have e4 : (b.set (n / 8 % 16) ((b.getD (n / 8 % 16) 0 * 256 + c) % 18446744073709551616)).getD (n / 8 % 16) 0 = (b.getD (n / 8 % 16) 0 * 256 + c) % 18446744073709551616 := by
   rw [List.getD, List.getElem?_set_self hi]
   rfl
  rw [e4, List.set_set]
  simp only [List.length_cons]
  have e5 : n + 1 + l.length = n + (l.length + 1) := by omega
  rw [e5]
  rfl
theorem bev64_snoc (l : List Nat) (c : Nat) : ∀ x, bev64 x (l ++ [c]) = (bev64 x l * 256 + c) % 18446744073709551616 := by
 induction l with
 | nil => intro x; rfl
 | cons d l ih => intro x; exact ih _
theorem fed64_word (s : S8x64) (l b : List Nat) (c n : Nat) (hl : ∀ d ∈ l, d < 256) (hc : c < 256) (hll : l.length = 7) (hn : n % 8 = 0) (hb : b.length = 16) :
  fed64 (s, b, n) (l ++ [c]) = (if (n + 8) % 128 = 0 then mxs64 s (b.set (n / 8 % 16) (bev64 (b.getD (n / 8 % 16) 0) (l ++ [c]))) else s, b.set (n / 8 % 16) (bev64 (b.getD (n / 8 % 16) 0) (l ++ [c])), n + 8) := by
 have hi : n / 8 % 16 < b.length := by rw [hb]; exact Nat.mod_lt _ (by decide)
 rw [fed64_snoc, fed64_in s l b n hl (by omega) hb, hll]
 have e3 : (n + 7) / 8 % 16 = n / 8 % 16 := by omega
 have e2 : blk64 (b.set (n / 8 % 16) (bev64 (b.getD (n / 8 % 16) 0) l)) (n + 7) c = b.set (n / 8 % 16) (bev64 (b.getD (n / 8 % 16) 0) (l ++ [c])) := by
  unfold blk64
  rw [e3, orbyte64 _ _ hc, bev64_snoc, List.set_set]
  congr 3
  rw [List.getD, List.getElem?_set_self hi]
  rfl
 simp only []
 rw [e2]
 unfold now64
 rw [e2]
theorem bev64_new (l : List Nat) (hl : l.length = 8) (x : Nat) : bev64 x l = bev64 0 l := by
 match l, hl with
 | [a0, a1, a2, a3, a4, a5, a6, a7], _ =>
  simp only [bev64]
  omega
theorem bev64_wpt (ms : List Nat) (h : ∀ x ∈ ms, x < 256) (i : Nat) (hi : (i + 1) * 8 ≤ ms.length) : bev64 0 ((ms.drop (i * 8)).take 8) = wpt64 ms i 8 := by
 have hl : ((ms.drop (i * 8)).take 8).length = 8 := by rw [List.length_take, List.length_drop]; omega
 have hg : ∀ j, j < 8 → ((ms.drop (i * 8)).take 8)[j]? = some (ms.getD (i * 8 + j) 0) := by
  intro j hj
  rw [List.getElem?_take, if_pos hj, List.getElem?_drop, List.getD, List.getElem?_eq_getElem (by omega)]
  rfl
 generalize (ms.drop (i * 8)).take 8 = l at *
 match l, hl with
 | [a0, a1, a2, a3, a4, a5, a6, a7], _ =>
  have q0 : a0 = ms.getD (i * 8 + 0) 0 := Option.some.inj (hg 0 (by decide))
  have q1 : a1 = ms.getD (i * 8 + 1) 0 := Option.some.inj (hg 1 (by decide))
  have q2 : a2 = ms.getD (i * 8 + 2) 0 := Option.some.inj (hg 2 (by decide))
  have q3 : a3 = ms.getD (i * 8 + 3) 0 := Option.some.inj (hg 3 (by decide))
  have q4 : a4 = ms.getD (i * 8 + 4) 0 := Option.some.inj (hg 4 (by decide))
  have q5 : a5 = ms.getD (i * 8 + 5) 0 := Option.some.inj (hg 5 (by decide))
  have q6 : a6 = ms.getD (i * 8 + 6) 0 := Option.some.inj (hg 6 (by decide))
  have q7 : a7 = ms.getD (i * 8 + 7) 0 := Option.some.inj (hg 7 (by decide))
  show _ = ((((((((0 * 256 + ms.getD (i * 8 + 0) 0) * 256 + ms.getD (i * 8 + 1) 0) * 256 + ms.getD (i * 8 + 2) 0) * 256 + ms.getD (i * 8 + 3) 0) * 256 + ms.getD (i * 8 + 4) 0) * 256 + ms.getD (i * 8 + 5) 0) * 256 + ms.getD (i * 8 + 6) 0) * 256 + ms.getD (i * 8 + 7) 0)
  simp only [bev64]
  have r0 := getD256 h (i * 8 + 0)
  have r1 := getD256 h (i * 8 + 1)
  have r2 := getD256 h (i * 8 + 2)
  have r3 := getD256 h (i * 8 + 3)
  have r4 := getD256 h (i * 8 + 4)
  have r5 := getD256 h (i * 8 + 5)
  have r6 := getD256 h (i * 8 + 6)
  have r7 := getD256 h (i * 8 + 7)
  generalize ms.getD (i * 8 + 0) 0 = z0 at *
  generalize ms.getD (i * 8 + 1) 0 = z1 at *
  generalize ms.getD (i * 8 + 2) 0 = z2 at *
  generalize ms.getD (i * 8 + 3) 0 = z3 at *
  generalize ms.getD (i * 8 + 4) 0 = z4 at *
  generalize ms.getD (i * 8 + 5) 0 = z5 at *
  generalize ms.getD (i * 8 + 6) 0 = z6 at *
  generalize ms.getD (i * 8 + 7) 0 = z7 at *
  omega
theorem chunk64 (ms : List Nat) (i : Nat) : ms.take ((i + 1) * 8) = ms.take (i * 8) ++ (ms.drop (i * 8)).take 8 := by
 rw [show (i + 1) * 8 = i * 8 + 8 by omega, List.take_add]
theorem splitlast64 (l : List Nat) (hl : l.length = 8) : ∃ l' c, l = l' ++ [c] ∧ l'.length = 7 := by
 match l, hl with
 | [a0, a1, a2, a3, a4, a5, a6, a7], _ => exact ⟨[a0, a1, a2, a3, a4, a5, a6], a7, rfl, rfl⟩
theorem fed64_words (s : S8x64) (ms b : List Nat) (n : Nat) (h : ∀ x ∈ ms, x < 256) (hl : ms.length = 128) (hb : b.length = 16) (hn : n % 128 = 0) : ∀ i, i ≤ 16 →
  fed64 (s, b, n) (ms.take (i * 8)) = (if i = 16 then mxs64 s (wds64 ms) else s, (wds64 ms).take i ++ b.drop i, n + i * 8)
 | 0, _ => by simp [fed64]
 | i + 1, hi => by
  have ih := fed64_words s ms b n h hl hb hn i (by omega)
  have hc : (i + 1) * 8 ≤ ms.length := by omega
  rw [chunk64 ms i, fed64_append, ih, if_neg (by omega)]
  have hcl : ((ms.drop (i * 8)).take 8).length = 8 := by rw [List.length_take, List.length_drop]; omega
  have hval := bev64_wpt ms h i hc
  have hcb : ∀ x ∈ (ms.drop (i * 8)).take 8, x < 256 := fun x hx => h x (List.mem_of_mem_drop (List.mem_of_mem_take hx))
  obtain ⟨l', c, e, hl'⟩ := splitlast64 _ hcl
  have hbl : ((wds64 ms).take i ++ b.drop i).length = 16 := by rw [List.length_append, List.length_take, List.length_drop, wds64_len, hb]; omega
  have hidx : (n + i * 8) / 8 % 16 = i := by omega
  have hnew : ∀ x, bev64 x ((ms.drop (i * 8)).take 8) = wpt64 ms i 8 := fun x => by rw [bev64_new _ hcl x, hval]
  rw [e] at hnew hcb
  rw [e, fed64_word s l' _ c _ (fun d hd => hcb d (List.mem_append_left _ hd)) (hcb c (by simp)) hl' (by omega) hbl, hidx, hnew]
  have hset : ((wds64 ms).take i ++ b.drop i).set i (wpt64 ms i 8) = (wds64 ms).take (i + 1) ++ b.drop (i + 1) := by
   have h1 : ((wds64 ms).take i).length = i := by rw [List.length_take, wds64_len]; omega
   have h2 : i < (wds64 ms).length := by rw [wds64_len]; omega
   have h3 : i < b.length := by omega
   rw [List.set_append_right _ _ (by omega), h1, Nat.sub_self, List.drop_eq_getElem_cons h3, List.set_cons_zero, List.take_add_one, List.getElem?_eq_getElem h2, List.append_assoc]
   have h4 : (wds64 ms)[i] = wpt64 ms i 8 := by
    have := wds64_get ms (i := i) (by omega)
    rw [List.getD, List.getElem?_eq_getElem h2] at this
    exact this
   rw [h4]
   rfl
  rw [hset]
  by_cases h15 : i = 15
  ·subst h15
   have hw : (wds64 ms).take 16 ++ b.drop 16 = wds64 ms := by
    rw [List.drop_eq_nil_of_le (by omega), List.append_nil, List.take_of_length_le (by rw [wds64_len]; exact Nat.le_refl _)]
   rw [if_pos (by omega), if_pos rfl, hw]
  ·rw [if_neg (by omega), if_neg (by omega)]
   congr 2
   omega
theorem fed64_block (s : S8x64) (ms b : List Nat) (n : Nat) (h : ∀ x ∈ ms, x < 256) (hl : ms.length = 128) (hb : b.length = 16) (hn : n % 128 = 0) : fed64 (s, b, n) ms = (mxs64 s (wds64 ms), wds64 ms, n + 128) := by
 have h1 := fed64_words s ms b n h hl hb hn 16 (Nat.le_refl _)
 rw [List.take_of_length_le (by omega), if_pos rfl, List.drop_eq_nil_of_le (by omega), List.append_nil, List.take_of_length_le (by rw [wds64_len]; exact Nat.le_refl _)] at h1
 exact h1
def hf64 : Nat → S8x64 → List Nat → S8x64
 | 0, s, _ => s
 | k + 1, s, m => hf64 k (mxs64 s (wds64 (m.take 128))) (m.drop 128)
theorem hf64_ok : ∀ (k : Nat) (s : S8x64) (m : List Nat), s.ok → (hf64 k s m).ok
 | 0, _, _, h => h
 | k + 1, _, _, _ => hf64_ok k _ _ (mxs64_ok _ _)
theorem fed64_blocks : ∀ (k : Nat) (s : S8x64) (m b : List Nat) (n : Nat), (∀ x ∈ m, x < 256) → m.length = k * 128 → b.length = 16 → n % 128 = 0 → (fed64 (s, b, n) m).1 = hf64 k s m
 | 0, s, m, b, n, _, hl, _, _ => by
  obtain rfl : m = [] := List.eq_nil_of_length_eq_zero (by omega)
  rfl
 | k + 1, s, m, b, n, h, hl, hb, hn => by
  have e : m = m.take 128 ++ m.drop 128 := (List.take_append_drop _ _).symm
  have h1 : (m.take 128).length = 128 := by rw [List.length_take]; omega
  conv => lhs; rw [e]
  rw [fed64_append, fed64_block s _ b n (fun x hx => h x (List.mem_of_mem_take hx)) h1 hb hn, fed64_blocks k _ _ _ _ (fun x hx => h x (List.mem_of_mem_drop hx)) (by rw [List.length_drop]; omega) (wds64_len _) (by omega)]
  rfl
def ln64 (n : Nat) : List Nat := [0, 0, 0, 0, 0, 0, 0, 0, n * 8 / 72057594037927936 % 256, n * 8 / 281474976710656 % 256, n * 8 / 1099511627776 % 256, n * 8 / 4294967296 % 256, n * 8 / 16777216 % 256, n * 8 / 65536 % 256, n * 8 / 256 % 256, n * 8 / 1 % 256]
def msg64 (xs : List Nat) : List Nat := xs ++ (128 :: List.replicate (pad64 xs.length) 0) ++ ln64 xs.length
theorem ln64_len (n : Nat) : (ln64 n).length = 16 := rfl
theorem ln64_lt (n : Nat) : ∀ x ∈ ln64 n, x < 256 := by
 intro x hx
 simp only [ln64, List.mem_cons, List.not_mem_nil, or_false] at hx
 omega
theorem msg64_lt {xs : List Nat} (h : ∀ x ∈ xs, x < 256) : ∀ x ∈ msg64 xs, x < 256 := by
 intro x hx
 rcases List.mem_append.1 hx with hx | hx
 ·rcases List.mem_append.1 hx with hx | hx
  ·exact h x hx
  ·rcases List.mem_cons.1 hx with rfl | hx
   ·decide
   ·rw [List.eq_of_mem_replicate hx]; decide
 ·exact ln64_lt _ x hx
theorem msg64_len (xs : List Nat) : (msg64 xs).length = xs.length + 1 + pad64 xs.length + 16 := by
 unfold msg64
 rw [List.length_append, List.length_append, ln64_len]
 simp
 omega
theorem msg64_mod (xs : List Nat) : (msg64 xs).length % 128 = 0 := by
 rw [msg64_len]
 have := pad64_hit xs.length
 omega
set_option maxHeartbeats 2000000 in
theorem ln64_tell (s : S8x64) (b : List Nat) (N n : Nat) (hb : b.length = 16) (hN : N % 128 = 112) (hn : n < 1152921504606846976) : (fed64 (s, b, N) (ln64 n)).1 = mxs64 s ((b.set 14 (hi64 n)).set 15 (lo64 n)) := by
 have e : ln64 n = ([0, 0, 0, 0, 0, 0, 0] ++ [0]) ++ ([n * 8 / 72057594037927936 % 256, n * 8 / 281474976710656 % 256, n * 8 / 1099511627776 % 256, n * 8 / 4294967296 % 256, n * 8 / 16777216 % 256, n * 8 / 65536 % 256, n * 8 / 256 % 256] ++ [n * 8 / 1 % 256]) := rfl
 have hlt := ln64_lt n
 rw [e] at hlt ⊢
 rw [fed64_append, fed64_word s _ b _ N (fun d hd => hlt d (List.mem_append_left _ (List.mem_append_left _ hd))) (hlt _ (by simp)) rfl (by omega) hb, if_neg (by omega)]
 have i1 : N / 8 % 16 = 14 := by omega
 rw [i1, bev64_new _ rfl]
 have hv1 : bev64 0 ([0, 0, 0, 0, 0, 0, 0] ++ [0]) = hi64 n := by
  unfold hi64
  simp only [List.cons_append, List.nil_append, bev64]
  omega
 rw [hv1, fed64_word s _ _ _ _ (fun d hd => hlt d (List.mem_append_right _ (List.mem_append_left _ hd))) (hlt _ (by simp)) rfl (by omega) (by rw [List.length_set, hb]), if_pos (by omega)]
 have i2 : (N + 8) / 8 % 16 = 15 := by omega
 rw [i2, bev64_new _ rfl]
 have hv2 : bev64 0 ([n * 8 / 72057594037927936 % 256, n * 8 / 281474976710656 % 256, n * 8 / 1099511627776 % 256, n * 8 / 4294967296 % 256, n * 8 / 16777216 % 256, n * 8 / 65536 % 256, n * 8 / 256 % 256] ++ [n * 8 / 1 % 256]) = lo64 n := by
  unfold lo64
  simp only [List.cons_append, List.nil_append, bev64]
  omega
 rw [hv2]
theorem fnl64_doc {xs : List Nat} (h : ∀ x ∈ xs, x < 256) (hn : xs.length < 1152921504606846976) : fnl64 (fed64 beg64 xs) = hf64 ((msg64 xs).length / 128) ini64 (msg64 xs) := by
 have hsz : (fed64 beg64 xs).2.2 = xs.length := by rw [fed64_size]; show 0 + _ = _; omega
 have hgd : Gd64 (fed64 beg64 xs) := beg64_good.fed h
 have hl := lst64_good hgd (pad64 xs.length)
 have hls := lst64_size (fed64 beg64 xs) (pad64 xs.length)
 rw [hsz] at hls
 have hmod : (lst64 (fed64 beg64 xs) (pad64 xs.length)).2.2 % 128 = 112 := by rw [hls]; exact pad64_hit _
 have ht := ln64_tell (lst64 (fed64 beg64 xs) (pad64 xs.length)).1 (lst64 (fed64 beg64 xs) (pad64 xs.length)).2.1 (lst64 (fed64 beg64 xs) (pad64 xs.length)).2.2 xs.length hl.len hmod hn
 have e1 : fnl64 (fed64 beg64 xs) = (fed64 (lst64 (fed64 beg64 xs) (pad64 xs.length)) (ln64 xs.length)).1 := by
  unfold fnl64 fbl64
  rw [hsz]
  exact ht.symm
 have e2 : fed64 (lst64 (fed64 beg64 xs) (pad64 xs.length)) (ln64 xs.length) = fed64 beg64 (msg64 xs) := by
  unfold lst64 msg64
  rw [fed64_append, fed64_append]
 rw [e1, e2]
 have hmm := msg64_mod xs
 exact fed64_blocks _ ini64 (msg64 xs) (List.replicate 16 0) 0 (msg64_lt h) (by omega) (by simp) rfl
end Go.Proofs.YtnpjecdodhkplaaGreatDoor
