import Derived.Test.YtnpjecdodhkplaaGreatDoorTW
namespace Go.Proofs.YtnpjecdodhkplaaGreatDoor
set_option maxRecDepth 100000
set_option linter.unusedSimpArgs false
set_option linter.unusedVariables false
open Go.RowKit
open List renaming setIfInBounds_toArray → yA, set_cons_zero → yB, set_cons_succ → yC
open Lib renaming hid → yH
theorem key_alloc (w : World) : (Instr.alloc 27 true (.tuple #[])).run Tryz.prog w = .ok (.pointer (some ⟨w.heap.size, 0, none⟩)) (w.alloc (.cells (By 0 32).toArray 27)) := by kernel_rfl
theorem sig_alloc (w : World) : (Instr.alloc 31 true (.tuple #[])).run Tryz.prog w = .ok (.pointer (some ⟨w.heap.size, 0, none⟩)) (w.alloc (.cells (SL 0 0).toArray 31)) := by kernel_rfl
theorem sl_get (F S : Nat) {j : Nat} (hj : j < 64) : ∃ x, x < 256 ∧ (SL F S)[j]? = some (.int .u8 ((x : Nat) : Int)) := by
 by_cases h : j < 32
 ·exact ⟨_, byt_lt F j, by rw [SL, List.getElem?_append_left (by rw [By_length]; exact h), By_get F 32 h]⟩
 ·exact ⟨_, byt_lt S (j - 32), by rw [SL, List.getElem?_append_right (by rw [By_length]; omega), By_length, By_get S 32 (k := j - 32) (by omega)]⟩
theorem nb_set (N z : Nat) (hz : z < 256) : ∀ x ∈ (nb N 32).set z 0, x < 256 := fun x hx => by
 rcases List.mem_or_eq_of_mem_set hx with h | h
 ·exact nb_lt N 32 x h
 ·rw [h]; decide
theorem by_of {l : List Nat} (hx : ∀ x ∈ l, x < 256) (hl : l.length = 32) : ∃ N, N < 256 ^ 32 ∧ (l.map fun x => Value.int .u8 ((x : Nat) : Int)) = By N 32 := by
 refine ⟨lev l, ?_, (By_lev hx hl).symm⟩
 have := lev_lt hx
 rwa [hl] at this
theorem key_set (Y j z : Nat) (hz : z < 256) : ∃ Y2, Y2 < 256 ^ 32 ∧ (By Y 32).set j (.int .u8 (z : Int)) = By Y2 32 := by
 have hx : ∀ x ∈ (nb Y 32).set j z, x < 256 := fun x hx => by
  rcases List.mem_or_eq_of_mem_set hx with h | h
  ·exact nb_lt Y 32 x h
  ·rw [h]; exact hz
 obtain ⟨N, h1, h2⟩ := by_of hx (by rw [List.length_set, nb_len])
 refine ⟨N, h1, ?_⟩
 rw [← h2, By_nb, List.map_set]
theorem sig_set (F S j z : Nat) (hz : z < 256) : ∃ F2 S2, F2 < 256 ^ 32 ∧ S2 < 256 ^ 32 ∧ (SL F S).set j (.int .u8 (z : Int)) = SL F2 S2 := by
 have hx : ∀ x ∈ (nb F 32 ++ nb S 32).set j z, x < 256 := fun x hx => by
  rcases List.mem_or_eq_of_mem_set hx with h | h
  ·rcases List.mem_append.1 h with h | h
   ·exact nb_lt F 32 x h
   ·exact nb_lt S 32 x h
  ·rw [h]; exact hz
 have hl : ((nb F 32 ++ nb S 32).set j z).length = 64 := by rw [List.length_set, List.length_append, nb_len, nb_len]
 obtain ⟨F2, f1, f2⟩ := by_of (l := ((nb F 32 ++ nb S 32).set j z).take 32) (fun x h => hx x (List.mem_of_mem_take h)) (by rw [List.length_take, hl]; rfl)
 obtain ⟨S2, s1, s2⟩ := by_of (l := ((nb F 32 ++ nb S 32).set j z).drop 32) (fun x h => hx x (List.mem_of_mem_drop h)) (by rw [List.length_drop, hl])
 refine ⟨F2, S2, f1, s1, ?_⟩
 have e : SL F S = (nb F 32 ++ nb S 32).map fun x => .int .u8 ((x : Nat) : Int) := by rw [SL, By_nb, By_nb, List.map_append]
 rw [e, ← List.map_set (f := fun x : Nat => Value.int .u8 ((x : Nat) : Int)) (a := z), SL, ← f2, ← s2, ← List.map_append, List.take_append_drop]
theorem ix3 (g m : Nat) (h : m < 3) (w : World) : (Instr.indexAt 46 (.pointer (some ⟨g, 0, none⟩)) (.int .i64 (m : Int))).run Tryz.prog w = .ok (.pointer (some ⟨g, m, none⟩)) w := by
 have h1 : (0 : Int) ≤ (m : Int) := by omega
 have h2 : (m : Int) < 3 := by omega
 have e : (⟨g, 0, none⟩ : Addr).add m = ⟨g, m, none⟩ := by rw [Addr.add_mid, Nat.zero_add]
 go_simp
 try rw [e]
theorem sigx8 (g m : Nat) (h : m < 64) (w : World) : (Instr.indexAt 31 (.pointer (some ⟨g, 0, none⟩)) (.int .u8 (m : Int))).run Tryz.prog w = .ok (.pointer (some ⟨g, m, none⟩)) w := by
 have h1 : (0 : Int) ≤ (m : Int) := by omega
 have h2 : (m : Int) < 64 := by omega
 have e : (⟨g, 0, none⟩ : Addr).add m = ⟨g, m, none⟩ := by rw [Addr.add_mid, Nat.zero_add]
 go_simp
 try rw [e]
theorem keyx8 (g m : Nat) (h : m < 32) (w : World) : (Instr.indexAt 27 (.pointer (some ⟨g, 0, none⟩)) (.int .u8 (m : Int))).run Tryz.prog w = .ok (.pointer (some ⟨g, m, none⟩)) w := by
 have h1 : (0 : Int) ≤ (m : Int) := by omega
 have h2 : (m : Int) < 32 := by omega
 have e : (⟨g, 0, none⟩ : Addr).add m = ⟨g, m, none⟩ := by rw [Addr.add_mid, Nat.zero_add]
 go_simp
 try rw [e]
theorem wr8 (z : Nat) (h : z < 256) : IntKind.u8.wrap (z : Int) = (z : Int) := by
 have h0 : IntKind.u8.wrap (z : Int) = (z : Int) % 256 := rfl
 rw [h0]
 omega
theorem rem8 (x m : Nat) (hx : x < 256) (hm : 0 < m) (hm2 : m < 256) (w : World) : (binOp .rem 5 (.int .u8 (x : Int)) (.int .u8 (m : Int))).run Tryz.prog w = .ok (.int .u8 ((x % m : Nat) : Int)) w := by
 have e1 : Int.tmod (x : Int) (m : Int) = (x : Int) % (m : Int) := Int.tmod_eq_emod_of_nonneg (by omega)
 have e2 : IntKind.u8.wrap ((x : Int) % (m : Int)) = (x : Int) % (m : Int) := by have := wr8 (x % m) (Nat.lt_of_le_of_lt (Nat.mod_le _ _) hx); rwa [Int.natCast_emod] at this
 have e4 : (m : Int) ≠ 0 := by omega
 have e5 : ¬ m = 0 := by omega
 rw [Int.natCast_emod]
 go_simp
 try simp only [e1, e2]
theorem remg (x y : Operand) (u v : Value) (w : World) : (eqGuard .rem 5 x y u v).run Tryz.prog w = .ok () w := by rfl
theorem xor_b : ∀ x : Nat, x < 256 → ∀ y : Nat, y < 256 → (0 ≤ bits .xor .u8 (x : Int) (y : Int) ∧ bits .xor .u8 (x : Int) (y : Int) < 256) := by decide +kernel
theorem xor8 (x y : Nat) (hx : x < 256) (hy : y < 256) : ∃ z, z < 256 ∧ ∀ w : World, (binOp .xor 5 (.int .u8 (x : Int)) (.int .u8 (y : Int))).run Tryz.prog w = .ok (.int .u8 ((z : Nat) : Int)) w := by
 obtain ⟨h0, h1⟩ := xor_b x hx y hy
 have e : (((bits .xor .u8 (x : Int) (y : Int)).toNat : Nat) : Int) = bits .xor .u8 (x : Int) (y : Int) := Int.toNat_of_nonneg h0
 refine ⟨(bits .xor .u8 (x : Int) (y : Int)).toNat, by omega, fun w => ?_⟩
 rw [e]
 go_simp
theorem xorg (x y : Operand) (u v : Value) (w : World) : (eqGuard .xor 5 x y u v).run Tryz.prog w = .ok () w := by rfl
set_option maxHeartbeats 40000000 in
theorem tur_law (N T : Nat) (la : List Nat) {A1 : Option Addr} {n1 c1 : Nat} (w : World) (hw : Sv w) (ha : ∀ x ∈ la, x < 256) (ra : Rd w (fun _ => True) A1 n1 (N8 la)) :
  Calls Tryz.prog 5 #[.agg (By N 32).toArray, .slice A1 n1 c1, .agg (By T 3).toArray] w fun e w' => e = .returned (.bool true) ∧ Below w.heap.size w w' := by
 have hs := (Row.new w (By N 32) 23).alloc (.cells (By T 3).toArray 46)
 have ht := Row.new1 w (.cells (By N 32).toArray 23) (By T 3) 46
 have hW := Below.alloc2 w (.cells (By N 32).toArray 23) (.cells (By T 3).toArray 46)
 have HV := yH (hw.belowAll hW)
 have HW := yH hW
 have HS := yH hs
 have HT := yH ht
 have HRA := yH (ra.belowAll hW)
 have hl1 : la.length = n1 := by have := ra.1; rwa [N8_len] at this
 have HL1 := yH hl1
 have HA := yH ha
 clear hw ha ra hs ht hW hl1
 go_enter Tryz.func5, Tryz.ntmps5
 go_wp2_with fail
 generalize (w.alloc (.cells (By N 32).toArray 23)).alloc (.cells (By T 3).toArray 46) = W at *
 by_cases hg1 : 300 < n1
 ·have hgr := gr_any A1 n1 c1 W
  rw [decide_eq_true hg1] at hgr
  refine hgr.mono ?_
  rintro e w1 ⟨rfl, hww⟩
  subst hww
  go_wp2_with fail
  refine (aw_any _ HV.out).mono ?_
  rintro e w2 ⟨rfl, hb⟩
  have HW2 := yH (HW.out.trans (hb.mono HW.out.size))
  clear hb
  go_wp2_with fail
  go_ret
  exact ⟨rfl, HW2.out⟩
 ·have hgr := gr_any A1 n1 c1 W
  rw [decide_eq_false hg1] at hgr
  refine hgr.mono ?_
  rintro e W ⟨rfl, hww⟩
  subst hww
  clear hgr
  have hl6 : la.length < 1000000 := by rw [HL1.out]; omega
  have hpb := fun w hw => pb_any N w hw
  have hsg := fun w hw vs ps A m c r p hm hl => sg_1 N la (vs := vs) (ps := ps) (A := A) (m := m) (c := c) w hw r p hm hl hl6
  have hF := sgF_lt N la
  have hS := sgS_lt N la
  have hY := pbN_lt N
  generalize pbN N = Y at *
  generalize sgF N la = F at *
  generalize sgS N la = S at *
  have HPB := yH hpb
  have HSG := yH hsg
  have HPA := yH (Parts.one (c := c1) HA.out HRA.out)
  have HF := yH hF
  have HS2 := yH hS
  have HY := yH hY
  clear hl6 hpb hsg hS hF hY
  go_upto_region 3 with fail
  refine region_cut (fun a' w' => ∃ gC gD : Nat, ∃ v17 : Value, a' = ⟨#[.agg (By N 32).toArray, .slice A1 n1 c1, .agg (By T 3).toArray, .pointer (some ⟨w.heap.size, 0, none⟩), undef, .pointer (some ⟨w.heap.size + 1, 0, none⟩), .bool false, .pointer (some ⟨gC, 0, none⟩), .pointer (some ⟨gD, 0, none⟩), undef, .slice A1 n1 c1, .bool false, undef, .agg (By N 32).toArray, .agg (By Y 32).toArray, .agg (By N 32).toArray, .slice A1 n1 c1, v17, .agg (SL F S).toArray, undef, undef, undef, undef, undef, undef, undef, undef, undef, undef, undef, undef, undef, undef, undef, undef, undef, undef, undef, undef, undef, undef, undef, undef, undef, undef, undef, undef, undef, undef, undef, undef, undef, undef, undef, undef, undef, undef, undef, undef, undef, undef, undef, undef, undef, undef, undef, undef, undef, undef, undef, undef, undef, undef], []⟩ ∧ Below W.heap.size W w' ∧ W.heap.size ≤ gC ∧ W.heap.size ≤ gD ∧ gC ≠ gD ∧ Row w' gC 27 (By Y 32) ∧ Row w' gD 31 (SL F S)) ?_ ?_
  ·refine wp_region_any (by kernel_rfl) ?_
   change wpAny _ _ _ _ _ _ _ (World.drew _)
   refine wpAny_of_held (S := (fun w' : World => Below W.heap.size W w')) _ _ _ _ ?_
   have hHeld := ((Below.refl W.heap.size W).drew)
   have hH : Below W.heap.size W W.drew := (Below.refl W.heap.size W).drew
   refine wpAnyH_take (i := 0) (v := .agg (By N 32).toArray) rfl (by kernel_rfl) (by kernel_rfl) (by kernel_rfl) (fun _ _ _ h => nomatch h.1) (yieldsIf_load_mid (by rfl) 23 (.tmp 3) rfl w.heap.size 0 rfl (By N 32) _ (fun w' hSw => (HS.out.belowAll hSw).range) Tryz.underlying23 rfl (seed_len _)) hHeld ?_
   change wpAnyH _ _ _ _ _ _ _ (Act.put _ (some 13) _) _
   simp only [Act.put, yA, yB, yC]
   refine wpAnyH_take (i := 2) (v := .agg (By N 32).toArray) rfl (by kernel_rfl) (by kernel_rfl) (by kernel_rfl) (fun _ _ _ h => nomatch h.1) (yieldsIf_load_mid (by rfl) 23 (.tmp 3) rfl w.heap.size 0 rfl (By N 32) _ (fun w' hSw => (HS.out.belowAll hSw).range) Tryz.underlying23 rfl (seed_len _)) hHeld ?_
   change wpAnyH _ _ _ _ _ _ _ (Act.put _ (some 15) _) _
   simp only [Act.put, yA, yB, yC]
   refine wpAnyH_take (i := 3) (v := ?_) rfl (by kernel_rfl) (by kernel_rfl) (by kernel_rfl) (fun _ _ _ h => nomatch h.1) (Or.inl ⟨by rfl, ?_⟩) hHeld ?_
   rotate_left
   ·(intro w' hSw; go_simp; try (with_reducible rfl))
   change wpAnyH _ _ _ _ _ _ _ (Act.put _ (some 16) _) _
   simp only [Act.put, yA, yB, yC]
   clear hHeld
   generalize W.drew = w_0 at *
   refine wpAnyH_ready (rs := [1, 4, 6, 7]) (by kernel_rfl) (by simp) ?_
   refine AllReadyH.cons rfl (fun K hK => ?_) (AllReadyH.cons rfl (fun K hK => ?_) (AllReadyH.cons rfl (fun K hK => ?_) (AllReadyH.cons rfl (fun K hK => ?_) AllReadyH.nil)))
   rw [if_pos (by kernel_rfl)]
   go_simp
   refine (HPB.out _ (HV.out.belowAll hH)).mono ?_
   rintro e w_1 ⟨rfl, hb⟩
   have hHn := hH.trans (hb.mono hH.size)
   refine hK.out _ _ hHn (fun _ => ?_)
   clear hK K
   clear hb hH
   have hH := hHn
   clear hHn
   have m1 := trivial
   rotate_left
   rw [if_pos (by kernel_rfl)]
   refine wp_bOne (.tmp 16) rfl A1 n1 c1 rfl ?_
   have hb := Below.alloc1 w_0 (.cells #[.slice A1 n1 c1] 24)
   have hBn : Rd (w_0.alloc (.cells #[.slice A1 n1 c1] 24)) (fun _ => True) (some ⟨w_0.heap.size, 0, none⟩) 1 [.slice A1 n1 c1] := one_row
   have hHn := hH.trans (hb.mono hH.size)
   refine hK.out _ _ hHn (fun _ => ?_)
   clear hK K
   generalize w_0.alloc (.cells #[.slice A1 n1 c1] 24) = w_4 at hHn hBn ⊢
   clear hb hH
   have hH := hHn
   have hB := hBn
   clear hHn hBn
   have m4 := trivial
   rotate_left
   rw [if_pos (by kernel_rfl)]
   refine wp_allocK 27 (By 0 32) rfl key_alloc ?_
   have hb := Below.alloc1 w_0 (.cells (By 0 32).toArray 27)
   have hCn := Row.new w_0 (By 0 32) 27
   have hHn := hH.trans (hb.mono hH.size)
   have geC : W.heap.size ≤ w_0.heap.size := hH.size
   refine hK.out _ _ hHn (fun _ => ?_)
   clear hK K
   generalize w_0.alloc (.cells (By 0 32).toArray 27) = w_6 at hHn hCn ⊢
   clear hb hH
   have hH := hHn
   have hC := hCn
   clear hHn hCn
   generalize w_0.heap.size = gC at hC geC ⊢
   have m6 := trivial
   rotate_left
   rw [if_pos (by kernel_rfl)]
   refine wp_allocK 31 (SL 0 0) rfl sig_alloc ?_
   have hb := Below.alloc1 w_0 (.cells (SL 0 0).toArray 31)
   have hDn := Row.new w_0 (SL 0 0) 31
   have hHn := hH.trans (hb.mono hH.size)
   have geD : W.heap.size ≤ w_0.heap.size := hH.size
   refine hK.out _ _ hHn (fun _ => ?_)
   clear hK K
   generalize w_0.alloc (.cells (SL 0 0).toArray 31) = w_7 at hHn hDn ⊢
   clear hb hH
   have hH := hHn
   have hD := hDn
   clear hHn hDn
   generalize w_0.heap.size = gD at hD geD ⊢
   have m7 := trivial
   rotate_left
   all_goals try
    clear m1
    refine wpAnyH_ready (rs := [4, 6, 7]) (by kernel_rfl) (by simp) ?_
    refine AllReadyH.cons rfl (fun K hK => ?_) (AllReadyH.cons rfl (fun K hK => ?_) (AllReadyH.cons rfl (fun K hK => ?_) AllReadyH.nil))
    rw [if_pos (by kernel_rfl)]
    refine wp_bOne (.tmp 16) rfl A1 n1 c1 rfl ?_
    have hb := Below.alloc1 w_1 (.cells #[.slice A1 n1 c1] 24)
    have hBn : Rd (w_1.alloc (.cells #[.slice A1 n1 c1] 24)) (fun _ => True) (some ⟨w_1.heap.size, 0, none⟩) 1 [.slice A1 n1 c1] := one_row
    have hHn := hH.trans (hb.mono hH.size)
    refine hK.out _ _ hHn (fun _ => ?_)
    clear hK K
    generalize w_1.alloc (.cells #[.slice A1 n1 c1] 24) = w_14 at hHn hBn ⊢
    clear hb hH
    have hH := hHn
    have hB := hBn
    clear hHn hBn
    have m14 := trivial
    rotate_left
    rw [if_pos (by kernel_rfl)]
    refine wp_allocK 27 (By 0 32) rfl key_alloc ?_
    have hb := Below.alloc1 w_1 (.cells (By 0 32).toArray 27)
    have hCn := Row.new w_1 (By 0 32) 27
    have hHn := hH.trans (hb.mono hH.size)
    have geC : W.heap.size ≤ w_1.heap.size := hH.size
    refine hK.out _ _ hHn (fun _ => ?_)
    clear hK K
    generalize w_1.alloc (.cells (By 0 32).toArray 27) = w_16 at hHn hCn ⊢
    clear hb hH
    have hH := hHn
    have hC := hCn
    clear hHn hCn
    generalize w_1.heap.size = gC at hC geC ⊢
    have m16 := trivial
    rotate_left
    rw [if_pos (by kernel_rfl)]
    refine wp_allocK 31 (SL 0 0) rfl sig_alloc ?_
    have hb := Below.alloc1 w_1 (.cells (SL 0 0).toArray 31)
    have hDn := Row.new w_1 (SL 0 0) 31
    have hHn := hH.trans (hb.mono hH.size)
    have geD : W.heap.size ≤ w_1.heap.size := hH.size
    refine hK.out _ _ hHn (fun _ => ?_)
    clear hK K
    generalize w_1.alloc (.cells (SL 0 0).toArray 31) = w_17 at hHn hDn ⊢
    clear hb hH
    have hH := hHn
    have hD := hDn
    clear hHn hDn
    generalize w_1.heap.size = gD at hD geD ⊢
    have m17 := trivial
    rotate_left
   all_goals try
    clear m4
    refine wpAnyH_ready (rs := [1, 6, 7]) (by kernel_rfl) (by simp) ?_
    refine AllReadyH.cons rfl (fun K hK => ?_) (AllReadyH.cons rfl (fun K hK => ?_) (AllReadyH.cons rfl (fun K hK => ?_) AllReadyH.nil))
    rw [if_pos (by kernel_rfl)]
    go_simp
    refine (HPB.out _ (HV.out.belowAll hH)).mono ?_
    rintro e w_14 ⟨rfl, hb⟩
    have hBn := hB.belowAll hb
    have hHn := hH.trans (hb.mono hH.size)
    refine hK.out _ _ hHn (fun _ => ?_)
    clear hK K
    clear hb hH hB
    have hH := hHn
    have hB := hBn
    clear hHn hBn
    have m14 := trivial
    rotate_left
    rw [if_pos (by kernel_rfl)]
    refine wp_allocK 27 (By 0 32) rfl key_alloc ?_
    have hb := Below.alloc1 w_4 (.cells (By 0 32).toArray 27)
    have hCn := Row.new w_4 (By 0 32) 27
    have hBn := hB.belowAll hb
    have hHn := hH.trans (hb.mono hH.size)
    have geC : W.heap.size ≤ w_4.heap.size := hH.size
    refine hK.out _ _ hHn (fun _ => ?_)
    clear hK K
    generalize w_4.alloc (.cells (By 0 32).toArray 27) = w_46 at hHn hBn hCn ⊢
    clear hb hH hB
    have hH := hHn
    have hB := hBn
    have hC := hCn
    clear hHn hBn hCn
    generalize w_4.heap.size = gC at hC geC ⊢
    have m46 := trivial
    rotate_left
    rw [if_pos (by kernel_rfl)]
    refine wp_allocK 31 (SL 0 0) rfl sig_alloc ?_
    have hb := Below.alloc1 w_4 (.cells (SL 0 0).toArray 31)
    have hDn := Row.new w_4 (SL 0 0) 31
    have hBn := hB.belowAll hb
    have hHn := hH.trans (hb.mono hH.size)
    have geD : W.heap.size ≤ w_4.heap.size := hH.size
    refine hK.out _ _ hHn (fun _ => ?_)
    clear hK K
    generalize w_4.alloc (.cells (SL 0 0).toArray 31) = w_47 at hHn hBn hDn ⊢
    clear hb hH hB
    have hH := hHn
    have hB := hBn
    have hD := hDn
    clear hHn hBn hDn
    generalize w_4.heap.size = gD at hD geD ⊢
    have m47 := trivial
    rotate_left
   all_goals try
    clear m6
    refine wpAnyH_ready (rs := [1, 4, 7]) (by kernel_rfl) (by simp) ?_
    refine AllReadyH.cons rfl (fun K hK => ?_) (AllReadyH.cons rfl (fun K hK => ?_) (AllReadyH.cons rfl (fun K hK => ?_) AllReadyH.nil))
    rw [if_pos (by kernel_rfl)]
    go_simp
    refine (HPB.out _ (HV.out.belowAll hH)).mono ?_
    rintro e w_16 ⟨rfl, hb⟩
    have hCn := hC.belowAll hb
    have hHn := hH.trans (hb.mono hH.size)
    refine hK.out _ _ hHn (fun _ => ?_)
    clear hK K
    clear hb hH hC
    have hH := hHn
    have hC := hCn
    clear hHn hCn
    have m16 := trivial
    rotate_left
    rw [if_pos (by kernel_rfl)]
    refine wp_bOne (.tmp 16) rfl A1 n1 c1 rfl ?_
    have hb := Below.alloc1 w_6 (.cells #[.slice A1 n1 c1] 24)
    have hBn : Rd (w_6.alloc (.cells #[.slice A1 n1 c1] 24)) (fun _ => True) (some ⟨w_6.heap.size, 0, none⟩) 1 [.slice A1 n1 c1] := one_row
    have hCn := hC.belowAll hb
    have hHn := hH.trans (hb.mono hH.size)
    refine hK.out _ _ hHn (fun _ => ?_)
    clear hK K
    generalize w_6.alloc (.cells #[.slice A1 n1 c1] 24) = w_46 at hHn hBn hCn ⊢
    clear hb hH hC
    have hH := hHn
    have hB := hBn
    have hC := hCn
    clear hHn hBn hCn
    have m46 := trivial
    rotate_left
    rw [if_pos (by kernel_rfl)]
    refine wp_allocK 31 (SL 0 0) rfl sig_alloc ?_
    have hb := Below.alloc1 w_6 (.cells (SL 0 0).toArray 31)
    have hDn := Row.new w_6 (SL 0 0) 31
    have hCn := hC.belowAll hb
    have hHn := hH.trans (hb.mono hH.size)
    have geD : W.heap.size ≤ w_6.heap.size := hH.size
    have hlt := hC.lt
    have hne : gC ≠ w_6.heap.size := by omega
    clear hlt
    refine hK.out _ _ hHn (fun _ => ?_)
    clear hK K
    generalize w_6.alloc (.cells (SL 0 0).toArray 31) = w_67 at hHn hCn hDn ⊢
    clear hb hH hC
    have hH := hHn
    have hC := hCn
    have hD := hDn
    clear hHn hCn hDn
    generalize w_6.heap.size = gD at hD geD hne ⊢
    have m67 := trivial
    rotate_left
   all_goals try
    clear m7
    refine wpAnyH_ready (rs := [1, 4, 6]) (by kernel_rfl) (by simp) ?_
    refine AllReadyH.cons rfl (fun K hK => ?_) (AllReadyH.cons rfl (fun K hK => ?_) (AllReadyH.cons rfl (fun K hK => ?_) AllReadyH.nil))
    rw [if_pos (by kernel_rfl)]
    go_simp
    refine (HPB.out _ (HV.out.belowAll hH)).mono ?_
    rintro e w_17 ⟨rfl, hb⟩
    have hDn := hD.belowAll hb
    have hHn := hH.trans (hb.mono hH.size)
    refine hK.out _ _ hHn (fun _ => ?_)
    clear hK K
    clear hb hH hD
    have hH := hHn
    have hD := hDn
    clear hHn hDn
    have m17 := trivial
    rotate_left
    rw [if_pos (by kernel_rfl)]
    refine wp_bOne (.tmp 16) rfl A1 n1 c1 rfl ?_
    have hb := Below.alloc1 w_7 (.cells #[.slice A1 n1 c1] 24)
    have hBn : Rd (w_7.alloc (.cells #[.slice A1 n1 c1] 24)) (fun _ => True) (some ⟨w_7.heap.size, 0, none⟩) 1 [.slice A1 n1 c1] := one_row
    have hDn := hD.belowAll hb
    have hHn := hH.trans (hb.mono hH.size)
    refine hK.out _ _ hHn (fun _ => ?_)
    clear hK K
    generalize w_7.alloc (.cells #[.slice A1 n1 c1] 24) = w_47 at hHn hBn hDn ⊢
    clear hb hH hD
    have hH := hHn
    have hB := hBn
    have hD := hDn
    clear hHn hBn hDn
    have m47 := trivial
    rotate_left
    rw [if_pos (by kernel_rfl)]
    refine wp_allocK 27 (By 0 32) rfl key_alloc ?_
    have hb := Below.alloc1 w_7 (.cells (By 0 32).toArray 27)
    have hCn := Row.new w_7 (By 0 32) 27
    have hDn := hD.belowAll hb
    have hHn := hH.trans (hb.mono hH.size)
    have geC : W.heap.size ≤ w_7.heap.size := hH.size
    have hlt := hD.lt
    have hne : w_7.heap.size ≠ gD := by omega
    clear hlt
    refine hK.out _ _ hHn (fun _ => ?_)
    clear hK K
    generalize w_7.alloc (.cells (By 0 32).toArray 27) = w_67 at hHn hCn hDn ⊢
    clear hb hH hD
    have hH := hHn
    have hC := hCn
    have hD := hDn
    clear hHn hCn hDn
    generalize w_7.heap.size = gC at hC geC hne ⊢
    have m67 := trivial
    rotate_left
   all_goals try
    clear m14
    refine wpAnyH_ready (rs := [5, 6, 7]) (by kernel_rfl) (by simp) ?_
    refine AllReadyH.cons rfl (fun K hK => ?_) (AllReadyH.cons rfl (fun K hK => ?_) (AllReadyH.cons rfl (fun K hK => ?_) AllReadyH.nil))
    rw [if_pos (by kernel_rfl)]
    go_simp
    refine (HSG.out _ (HV.out.belowAll hH) _ _ _ 1 1 hB (HPA.out.belowAll hH) (by decide) (by simp)).mono ?_
    rintro e w_145 ⟨rfl, hb⟩
    have hBn := hB.belowAll hb
    have hHn := hH.trans (hb.mono hH.size)
    refine hK.out _ _ hHn (fun _ => ?_)
    clear hK K
    clear hb hH hB
    have hH := hHn
    have hB := hBn
    clear hHn hBn
    have m145 := trivial
    rotate_left
    rw [if_pos (by kernel_rfl)]
    refine wp_allocK 27 (By 0 32) rfl key_alloc ?_
    have hb := Below.alloc1 w_14 (.cells (By 0 32).toArray 27)
    have hCn := Row.new w_14 (By 0 32) 27
    have hBn := hB.belowAll hb
    have hHn := hH.trans (hb.mono hH.size)
    have geC : W.heap.size ≤ w_14.heap.size := hH.size
    refine hK.out _ _ hHn (fun _ => ?_)
    clear hK K
    generalize w_14.alloc (.cells (By 0 32).toArray 27) = w_146 at hHn hBn hCn ⊢
    clear hb hH hB
    have hH := hHn
    have hB := hBn
    have hC := hCn
    clear hHn hBn hCn
    generalize w_14.heap.size = gC at hC geC ⊢
    have m146 := trivial
    rotate_left
    rw [if_pos (by kernel_rfl)]
    refine wp_allocK 31 (SL 0 0) rfl sig_alloc ?_
    have hb := Below.alloc1 w_14 (.cells (SL 0 0).toArray 31)
    have hDn := Row.new w_14 (SL 0 0) 31
    have hBn := hB.belowAll hb
    have hHn := hH.trans (hb.mono hH.size)
    have geD : W.heap.size ≤ w_14.heap.size := hH.size
    refine hK.out _ _ hHn (fun _ => ?_)
    clear hK K
    generalize w_14.alloc (.cells (SL 0 0).toArray 31) = w_147 at hHn hBn hDn ⊢
    clear hb hH hB
    have hH := hHn
    have hB := hBn
    have hD := hDn
    clear hHn hBn hDn
    generalize w_14.heap.size = gD at hD geD ⊢
    have m147 := trivial
    rotate_left
   all_goals try
    clear m16
    refine wpAnyH_ready (rs := [4, 7]) (by kernel_rfl) (by simp) ?_
    refine AllReadyH.cons rfl (fun K hK => ?_) (AllReadyH.cons rfl (fun K hK => ?_) AllReadyH.nil)
    rw [if_pos (by kernel_rfl)]
    refine wp_bOne (.tmp 16) rfl A1 n1 c1 rfl ?_
    have hb := Below.alloc1 w_16 (.cells #[.slice A1 n1 c1] 24)
    have hBn : Rd (w_16.alloc (.cells #[.slice A1 n1 c1] 24)) (fun _ => True) (some ⟨w_16.heap.size, 0, none⟩) 1 [.slice A1 n1 c1] := one_row
    have hCn := hC.belowAll hb
    have hHn := hH.trans (hb.mono hH.size)
    refine hK.out _ _ hHn (fun _ => ?_)
    clear hK K
    generalize w_16.alloc (.cells #[.slice A1 n1 c1] 24) = w_146 at hHn hBn hCn ⊢
    clear hb hH hC
    have hH := hHn
    have hB := hBn
    have hC := hCn
    clear hHn hBn hCn
    have m146 := trivial
    rotate_left
    rw [if_pos (by kernel_rfl)]
    refine wp_allocK 31 (SL 0 0) rfl sig_alloc ?_
    have hb := Below.alloc1 w_16 (.cells (SL 0 0).toArray 31)
    have hDn := Row.new w_16 (SL 0 0) 31
    have hCn := hC.belowAll hb
    have hHn := hH.trans (hb.mono hH.size)
    have geD : W.heap.size ≤ w_16.heap.size := hH.size
    have hlt := hC.lt
    have hne : gC ≠ w_16.heap.size := by omega
    clear hlt
    refine hK.out _ _ hHn (fun _ => ?_)
    clear hK K
    generalize w_16.alloc (.cells (SL 0 0).toArray 31) = w_167 at hHn hCn hDn ⊢
    clear hb hH hC
    have hH := hHn
    have hC := hCn
    have hD := hDn
    clear hHn hCn hDn
    generalize w_16.heap.size = gD at hD geD hne ⊢
    have m167 := trivial
    rotate_left
   all_goals try
    clear m17
    refine wpAnyH_ready (rs := [4, 6]) (by kernel_rfl) (by simp) ?_
    refine AllReadyH.cons rfl (fun K hK => ?_) (AllReadyH.cons rfl (fun K hK => ?_) AllReadyH.nil)
    rw [if_pos (by kernel_rfl)]
    refine wp_bOne (.tmp 16) rfl A1 n1 c1 rfl ?_
    have hb := Below.alloc1 w_17 (.cells #[.slice A1 n1 c1] 24)
    have hBn : Rd (w_17.alloc (.cells #[.slice A1 n1 c1] 24)) (fun _ => True) (some ⟨w_17.heap.size, 0, none⟩) 1 [.slice A1 n1 c1] := one_row
    have hDn := hD.belowAll hb
    have hHn := hH.trans (hb.mono hH.size)
    refine hK.out _ _ hHn (fun _ => ?_)
    clear hK K
    generalize w_17.alloc (.cells #[.slice A1 n1 c1] 24) = w_147 at hHn hBn hDn ⊢
    clear hb hH hD
    have hH := hHn
    have hB := hBn
    have hD := hDn
    clear hHn hBn hDn
    have m147 := trivial
    rotate_left
    rw [if_pos (by kernel_rfl)]
    refine wp_allocK 27 (By 0 32) rfl key_alloc ?_
    have hb := Below.alloc1 w_17 (.cells (By 0 32).toArray 27)
    have hCn := Row.new w_17 (By 0 32) 27
    have hDn := hD.belowAll hb
    have hHn := hH.trans (hb.mono hH.size)
    have geC : W.heap.size ≤ w_17.heap.size := hH.size
    have hlt := hD.lt
    have hne : w_17.heap.size ≠ gD := by omega
    clear hlt
    refine hK.out _ _ hHn (fun _ => ?_)
    clear hK K
    generalize w_17.alloc (.cells (By 0 32).toArray 27) = w_167 at hHn hCn hDn ⊢
    clear hb hH hD
    have hH := hHn
    have hC := hCn
    have hD := hDn
    clear hHn hCn hDn
    generalize w_17.heap.size = gC at hC geC hne ⊢
    have m167 := trivial
    rotate_left
   all_goals try
    clear m46
    refine wpAnyH_ready (rs := [1, 7]) (by kernel_rfl) (by simp) ?_
    refine AllReadyH.cons rfl (fun K hK => ?_) (AllReadyH.cons rfl (fun K hK => ?_) AllReadyH.nil)
    rw [if_pos (by kernel_rfl)]
    go_simp
    refine (HPB.out _ (HV.out.belowAll hH)).mono ?_
    rintro e w_146 ⟨rfl, hb⟩
    have hBn := hB.belowAll hb
    have hCn := hC.belowAll hb
    have hHn := hH.trans (hb.mono hH.size)
    refine hK.out _ _ hHn (fun _ => ?_)
    clear hK K
    clear hb hH hB hC
    have hH := hHn
    have hB := hBn
    have hC := hCn
    clear hHn hBn hCn
    have m146 := trivial
    rotate_left
    rw [if_pos (by kernel_rfl)]
    refine wp_allocK 31 (SL 0 0) rfl sig_alloc ?_
    have hb := Below.alloc1 w_46 (.cells (SL 0 0).toArray 31)
    have hDn := Row.new w_46 (SL 0 0) 31
    have hBn := hB.belowAll hb
    have hCn := hC.belowAll hb
    have hHn := hH.trans (hb.mono hH.size)
    have geD : W.heap.size ≤ w_46.heap.size := hH.size
    have hlt := hC.lt
    have hne : gC ≠ w_46.heap.size := by omega
    clear hlt
    refine hK.out _ _ hHn (fun _ => ?_)
    clear hK K
    generalize w_46.alloc (.cells (SL 0 0).toArray 31) = w_467 at hHn hBn hCn hDn ⊢
    clear hb hH hB hC
    have hH := hHn
    have hB := hBn
    have hC := hCn
    have hD := hDn
    clear hHn hBn hCn hDn
    generalize w_46.heap.size = gD at hD geD hne ⊢
    have m467 := trivial
    rotate_left
   all_goals try
    clear m47
    refine wpAnyH_ready (rs := [1, 6]) (by kernel_rfl) (by simp) ?_
    refine AllReadyH.cons rfl (fun K hK => ?_) (AllReadyH.cons rfl (fun K hK => ?_) AllReadyH.nil)
    rw [if_pos (by kernel_rfl)]
    go_simp
    refine (HPB.out _ (HV.out.belowAll hH)).mono ?_
    rintro e w_147 ⟨rfl, hb⟩
    have hBn := hB.belowAll hb
    have hDn := hD.belowAll hb
    have hHn := hH.trans (hb.mono hH.size)
    refine hK.out _ _ hHn (fun _ => ?_)
    clear hK K
    clear hb hH hB hD
    have hH := hHn
    have hB := hBn
    have hD := hDn
    clear hHn hBn hDn
    have m147 := trivial
    rotate_left
    rw [if_pos (by kernel_rfl)]
    refine wp_allocK 27 (By 0 32) rfl key_alloc ?_
    have hb := Below.alloc1 w_47 (.cells (By 0 32).toArray 27)
    have hCn := Row.new w_47 (By 0 32) 27
    have hBn := hB.belowAll hb
    have hDn := hD.belowAll hb
    have hHn := hH.trans (hb.mono hH.size)
    have geC : W.heap.size ≤ w_47.heap.size := hH.size
    have hlt := hD.lt
    have hne : w_47.heap.size ≠ gD := by omega
    clear hlt
    refine hK.out _ _ hHn (fun _ => ?_)
    clear hK K
    generalize w_47.alloc (.cells (By 0 32).toArray 27) = w_467 at hHn hBn hCn hDn ⊢
    clear hb hH hB hD
    have hH := hHn
    have hB := hBn
    have hC := hCn
    have hD := hDn
    clear hHn hBn hCn hDn
    generalize w_47.heap.size = gC at hC geC hne ⊢
    have m467 := trivial
    rotate_left
   all_goals try
    clear m67
    refine wpAnyH_ready (rs := [1, 4]) (by kernel_rfl) (by simp) ?_
    refine AllReadyH.cons rfl (fun K hK => ?_) (AllReadyH.cons rfl (fun K hK => ?_) AllReadyH.nil)
    rw [if_pos (by kernel_rfl)]
    go_simp
    refine (HPB.out _ (HV.out.belowAll hH)).mono ?_
    rintro e w_167 ⟨rfl, hb⟩
    have hCn := hC.belowAll hb
    have hDn := hD.belowAll hb
    have hHn := hH.trans (hb.mono hH.size)
    refine hK.out _ _ hHn (fun _ => ?_)
    clear hK K
    clear hb hH hC hD
    have hH := hHn
    have hC := hCn
    have hD := hDn
    clear hHn hCn hDn
    have m167 := trivial
    rotate_left
    rw [if_pos (by kernel_rfl)]
    refine wp_bOne (.tmp 16) rfl A1 n1 c1 rfl ?_
    have hb := Below.alloc1 w_67 (.cells #[.slice A1 n1 c1] 24)
    have hBn : Rd (w_67.alloc (.cells #[.slice A1 n1 c1] 24)) (fun _ => True) (some ⟨w_67.heap.size, 0, none⟩) 1 [.slice A1 n1 c1] := one_row
    have hCn := hC.belowAll hb
    have hDn := hD.belowAll hb
    have hHn := hH.trans (hb.mono hH.size)
    refine hK.out _ _ hHn (fun _ => ?_)
    clear hK K
    generalize w_67.alloc (.cells #[.slice A1 n1 c1] 24) = w_467 at hHn hBn hCn hDn ⊢
    clear hb hH hC hD
    have hH := hHn
    have hB := hBn
    have hC := hCn
    have hD := hDn
    clear hHn hBn hCn hDn
    have m467 := trivial
    rotate_left
   all_goals try
    clear m145
    refine wpAnyH_ready (rs := [6, 7]) (by kernel_rfl) (by simp) ?_
    refine AllReadyH.cons rfl (fun K hK => ?_) (AllReadyH.cons rfl (fun K hK => ?_) AllReadyH.nil)
    rw [if_pos (by kernel_rfl)]
    refine wp_allocK 27 (By 0 32) rfl key_alloc ?_
    have hb := Below.alloc1 w_145 (.cells (By 0 32).toArray 27)
    have hCn := Row.new w_145 (By 0 32) 27
    have hBn := hB.belowAll hb
    have hHn := hH.trans (hb.mono hH.size)
    have geC : W.heap.size ≤ w_145.heap.size := hH.size
    refine hK.out _ _ hHn (fun _ => ?_)
    clear hK K
    generalize w_145.alloc (.cells (By 0 32).toArray 27) = w_1456 at hHn hBn hCn ⊢
    clear hb hH hB
    have hH := hHn
    have hB := hBn
    have hC := hCn
    clear hHn hBn hCn
    generalize w_145.heap.size = gC at hC geC ⊢
    have m1456 := trivial
    rotate_left
    rw [if_pos (by kernel_rfl)]
    refine wp_allocK 31 (SL 0 0) rfl sig_alloc ?_
    have hb := Below.alloc1 w_145 (.cells (SL 0 0).toArray 31)
    have hDn := Row.new w_145 (SL 0 0) 31
    have hBn := hB.belowAll hb
    have hHn := hH.trans (hb.mono hH.size)
    have geD : W.heap.size ≤ w_145.heap.size := hH.size
    refine hK.out _ _ hHn (fun _ => ?_)
    clear hK K
    generalize w_145.alloc (.cells (SL 0 0).toArray 31) = w_1457 at hHn hBn hDn ⊢
    clear hb hH hB
    have hH := hHn
    have hB := hBn
    have hD := hDn
    clear hHn hBn hDn
    generalize w_145.heap.size = gD at hD geD ⊢
    have m1457 := trivial
    rotate_left
   all_goals try
    clear m146
    refine wpAnyH_ready (rs := [5, 7]) (by kernel_rfl) (by simp) ?_
    refine AllReadyH.cons rfl (fun K hK => ?_) (AllReadyH.cons rfl (fun K hK => ?_) AllReadyH.nil)
    rw [if_pos (by kernel_rfl)]
    go_simp
    refine (HSG.out _ (HV.out.belowAll hH) _ _ _ 1 1 hB (HPA.out.belowAll hH) (by decide) (by simp)).mono ?_
    rintro e w_1456 ⟨rfl, hb⟩
    have hBn := hB.belowAll hb
    have hCn := hC.belowAll hb
    have hHn := hH.trans (hb.mono hH.size)
    refine hK.out _ _ hHn (fun _ => ?_)
    clear hK K
    clear hb hH hB hC
    have hH := hHn
    have hB := hBn
    have hC := hCn
    clear hHn hBn hCn
    have m1456 := trivial
    rotate_left
    rw [if_pos (by kernel_rfl)]
    refine wp_allocK 31 (SL 0 0) rfl sig_alloc ?_
    have hb := Below.alloc1 w_146 (.cells (SL 0 0).toArray 31)
    have hDn := Row.new w_146 (SL 0 0) 31
    have hBn := hB.belowAll hb
    have hCn := hC.belowAll hb
    have hHn := hH.trans (hb.mono hH.size)
    have geD : W.heap.size ≤ w_146.heap.size := hH.size
    have hlt := hC.lt
    have hne : gC ≠ w_146.heap.size := by omega
    clear hlt
    refine hK.out _ _ hHn (fun _ => ?_)
    clear hK K
    generalize w_146.alloc (.cells (SL 0 0).toArray 31) = w_1467 at hHn hBn hCn hDn ⊢
    clear hb hH hB hC
    have hH := hHn
    have hB := hBn
    have hC := hCn
    have hD := hDn
    clear hHn hBn hCn hDn
    generalize w_146.heap.size = gD at hD geD hne ⊢
    have m1467 := trivial
    rotate_left
   all_goals try
    clear m147
    refine wpAnyH_ready (rs := [5, 6]) (by kernel_rfl) (by simp) ?_
    refine AllReadyH.cons rfl (fun K hK => ?_) (AllReadyH.cons rfl (fun K hK => ?_) AllReadyH.nil)
    rw [if_pos (by kernel_rfl)]
    go_simp
    refine (HSG.out _ (HV.out.belowAll hH) _ _ _ 1 1 hB (HPA.out.belowAll hH) (by decide) (by simp)).mono ?_
    rintro e w_1457 ⟨rfl, hb⟩
    have hBn := hB.belowAll hb
    have hDn := hD.belowAll hb
    have hHn := hH.trans (hb.mono hH.size)
    refine hK.out _ _ hHn (fun _ => ?_)
    clear hK K
    clear hb hH hB hD
    have hH := hHn
    have hB := hBn
    have hD := hDn
    clear hHn hBn hDn
    have m1457 := trivial
    rotate_left
    rw [if_pos (by kernel_rfl)]
    refine wp_allocK 27 (By 0 32) rfl key_alloc ?_
    have hb := Below.alloc1 w_147 (.cells (By 0 32).toArray 27)
    have hCn := Row.new w_147 (By 0 32) 27
    have hBn := hB.belowAll hb
    have hDn := hD.belowAll hb
    have hHn := hH.trans (hb.mono hH.size)
    have geC : W.heap.size ≤ w_147.heap.size := hH.size
    have hlt := hD.lt
    have hne : w_147.heap.size ≠ gD := by omega
    clear hlt
    refine hK.out _ _ hHn (fun _ => ?_)
    clear hK K
    generalize w_147.alloc (.cells (By 0 32).toArray 27) = w_1467 at hHn hBn hCn hDn ⊢
    clear hb hH hB hD
    have hH := hHn
    have hB := hBn
    have hC := hCn
    have hD := hDn
    clear hHn hBn hCn hDn
    generalize w_147.heap.size = gC at hC geC hne ⊢
    have m1467 := trivial
    rotate_left
   all_goals try
    clear m167
    refine wpAnyH_ready (rs := [4]) (by kernel_rfl) (by simp) ?_
    refine AllReadyH.cons rfl (fun K hK => ?_) AllReadyH.nil
    rw [if_pos (by kernel_rfl)]
    refine wp_bOne (.tmp 16) rfl A1 n1 c1 rfl ?_
    have hb := Below.alloc1 w_167 (.cells #[.slice A1 n1 c1] 24)
    have hBn : Rd (w_167.alloc (.cells #[.slice A1 n1 c1] 24)) (fun _ => True) (some ⟨w_167.heap.size, 0, none⟩) 1 [.slice A1 n1 c1] := one_row
    have hCn := hC.belowAll hb
    have hDn := hD.belowAll hb
    have hHn := hH.trans (hb.mono hH.size)
    refine hK.out _ _ hHn (fun _ => ?_)
    clear hK K
    generalize w_167.alloc (.cells #[.slice A1 n1 c1] 24) = w_1467 at hHn hBn hCn hDn ⊢
    clear hb hH hC hD
    have hH := hHn
    have hB := hBn
    have hC := hCn
    have hD := hDn
    clear hHn hBn hCn hDn
    have m1467 := trivial
    rotate_left
   all_goals try
    clear m467
    refine wpAnyH_ready (rs := [1]) (by kernel_rfl) (by simp) ?_
    refine AllReadyH.cons rfl (fun K hK => ?_) AllReadyH.nil
    rw [if_pos (by kernel_rfl)]
    go_simp
    refine (HPB.out _ (HV.out.belowAll hH)).mono ?_
    rintro e w_1467 ⟨rfl, hb⟩
    have hBn := hB.belowAll hb
    have hCn := hC.belowAll hb
    have hDn := hD.belowAll hb
    have hHn := hH.trans (hb.mono hH.size)
    refine hK.out _ _ hHn (fun _ => ?_)
    clear hK K
    clear hb hH hB hC hD
    have hH := hHn
    have hB := hBn
    have hC := hCn
    have hD := hDn
    clear hHn hBn hCn hDn
    have m1467 := trivial
    rotate_left
   all_goals try
    clear m1456
    refine wpAnyH_ready (rs := [7]) (by kernel_rfl) (by simp) ?_
    refine AllReadyH.cons rfl (fun K hK => ?_) AllReadyH.nil
    rw [if_pos (by kernel_rfl)]
    refine wp_allocK 31 (SL 0 0) rfl sig_alloc ?_
    have hb := Below.alloc1 w_1456 (.cells (SL 0 0).toArray 31)
    have hDn := Row.new w_1456 (SL 0 0) 31
    have hBn := hB.belowAll hb
    have hCn := hC.belowAll hb
    have hHn := hH.trans (hb.mono hH.size)
    have geD : W.heap.size ≤ w_1456.heap.size := hH.size
    have hlt := hC.lt
    have hne : gC ≠ w_1456.heap.size := by omega
    clear hlt
    refine hK.out _ _ hHn (fun _ => ?_)
    clear hK K
    generalize w_1456.alloc (.cells (SL 0 0).toArray 31) = w_14567 at hHn hBn hCn hDn ⊢
    clear hb hH hB hC
    have hH := hHn
    have hB := hBn
    have hC := hCn
    have hD := hDn
    clear hHn hBn hCn hDn
    generalize w_1456.heap.size = gD at hD geD hne ⊢
    have m14567 := trivial
    rotate_left
   all_goals try
    clear m1457
    refine wpAnyH_ready (rs := [6]) (by kernel_rfl) (by simp) ?_
    refine AllReadyH.cons rfl (fun K hK => ?_) AllReadyH.nil
    rw [if_pos (by kernel_rfl)]
    refine wp_allocK 27 (By 0 32) rfl key_alloc ?_
    have hb := Below.alloc1 w_1457 (.cells (By 0 32).toArray 27)
    have hCn := Row.new w_1457 (By 0 32) 27
    have hBn := hB.belowAll hb
    have hDn := hD.belowAll hb
    have hHn := hH.trans (hb.mono hH.size)
    have geC : W.heap.size ≤ w_1457.heap.size := hH.size
    have hlt := hD.lt
    have hne : w_1457.heap.size ≠ gD := by omega
    clear hlt
    refine hK.out _ _ hHn (fun _ => ?_)
    clear hK K
    generalize w_1457.alloc (.cells (By 0 32).toArray 27) = w_14567 at hHn hBn hCn hDn ⊢
    clear hb hH hB hD
    have hH := hHn
    have hB := hBn
    have hC := hCn
    have hD := hDn
    clear hHn hBn hCn hDn
    generalize w_1457.heap.size = gC at hC geC hne ⊢
    have m14567 := trivial
    rotate_left
   all_goals try
    clear m1467
    refine wpAnyH_ready (rs := [5]) (by kernel_rfl) (by simp) ?_
    refine AllReadyH.cons rfl (fun K hK => ?_) AllReadyH.nil
    rw [if_pos (by kernel_rfl)]
    go_simp
    refine (HSG.out _ (HV.out.belowAll hH) _ _ _ 1 1 hB (HPA.out.belowAll hH) (by decide) (by simp)).mono ?_
    rintro e w_14567 ⟨rfl, hb⟩
    have hBn := hB.belowAll hb
    have hCn := hC.belowAll hb
    have hDn := hD.belowAll hb
    have hHn := hH.trans (hb.mono hH.size)
    refine hK.out _ _ hHn (fun _ => ?_)
    clear hK K
    clear hb hH hB hC hD
    have hH := hHn
    have hB := hBn
    have hC := hCn
    have hD := hDn
    clear hHn hBn hCn hDn
    have m14567 := trivial
    rotate_left
   all_goals
    refine wpAnyH_ready (rs := [8]) (by kernel_rfl) (by simp) ?_
    refine AllReadyH.cons rfl (fun K hK => ?_) AllReadyH.nil
    rw [if_pos (by kernel_rfl)]
    refine wp_store_row 27 (.tmp 7) (.tmp 14) rfl gC (By Y 32).toArray rfl rfl 27 _ hC (key_info _) (By_sz _ _) (By_one32 _) ?_
    have hC2 := hC.setRow (By Y 32)
    have hD2 := hD.setRowOther (k := gC) hne.symm (By Y 32).toArray
    have hH2 := below_setRow (g := gC) hH geC (By Y 32).toArray
    refine hK.out _ _ hH2 (fun hHeld => ?_)
    clear hK K
    refine wpAnyH_ready (rs := [9]) (by kernel_rfl) (by simp) ?_
    refine AllReadyH.cons rfl (fun K hK => ?_) AllReadyH.nil
    rw [if_pos (by kernel_rfl)]
    refine wp_store_row 31 (.tmp 8) (.tmp 18) rfl gD (SL F S).toArray rfl rfl 31 _ hD2 (sig_info _ _) (SL_sz _ _ _ _) (SL_one _ _) ?_
    have hD3 := hD2.setRow (SL F S)
    have hC3 := hC2.setRowOther (k := gD) hne (SL F S).toArray
    have hH3 := below_setRow (g := gD) hH2 geD (SL F S).toArray
    refine hK.out _ _ hH3 (fun hHeld => ?_)
    clear hK K
    refine wpAnyH_done (by kernel_rfl) ?_ _
    exact ⟨rfl, gC, gD, _, rfl, hH3, geC, geD, hne, hC3, hD3⟩
  ·rintro a' W2 ⟨gC, gD, v17, rfl, hb, geC, geD, hne, hC, hD⟩
   have HV2 := yH (HV.out.belowAll hb)
   have HW2 := yH (HW.out.trans (hb.mono HW.out.size))
   have HT2 := yH (HT.out.belowAll hb)
   have HRA2 := yH (HRA.out.belowAll hb)
   have HBW := yH hb
   have hlT := HT.out.lt
   have hlW := HW.out.size
   have H7 := yH hC
   have H8 := yH hD
   have hlc := hC.lt
   have hld := hD.lt
   clear hb hC hD HW HT HRA HS HPB HSG HPA
   have hi : Tryz.prog.info? 5 = some (Tryz.prog.info? 5).get! := by kernel_rfl
   have hz : (Tryz.prog.info? 5).get!.zero = some (.int .u8 0) := by kernel_rfl
   have HI := yH hi
   have HZ := yH hz
   have hB := Below.alloc1 W2 (.cells #[] 5)
   have hown : (W2.alloc (.cells #[] 5)).ownsRow W2.heap.size 5 1 (.slice (some ⟨W2.heap.size, 0, none⟩) 0 0) 0 [] := World.ownsRow_made W2 #[] 0 (Nat.le_refl _) (by unfold maxLen; omega) rfl
   have HO := yH hown
   have HBB := yH hB
   have HRA5 := yH (HRA2.out.belowAll hB)
   clear hi hz hB hown
   go_wp2_with (at_builtin; refine wpList_append_rd _ rfl (.tmp 19) (.tmp 20) 24 rfl W2.heap.size 5 _ _ 1 Tryz.underlying24 HI.out HZ.out (by kernel_rfl) (by kernel_rfl) (by rfl) _ 0 [] rfl HO.out (fun _ => True) A1 n1 c1 (N8 la) rfl HRA5.out (N8_ones la) ?c1 ?c2 ?c3 ?_)
   case c1 => unfold maxLen; omega
   case c2 => omega
   case c3 => exact HBB.out.size
   intro v1 w4 hown1 hgr1 _
   have hb4 : Below W2.heap.size W2 w4 := HBB.out.grown hgr1 HBB.out.size (fun q hq => (HO.out.lt q hq).1)
   try rw [List.nil_append, Nat.zero_add] at hown1
   obtain ⟨A4, c4, rfl⟩ := own_slice hown1
   have HO4 := yH hown1
   have HV4 := yH (HV2.out.belowAll hb4)
   have HW4 := yH (HW2.out.trans (hb4.mono HW2.out.size))
   have HT4 := yH (HT2.out.belowAll hb4)
   have H74 := yH (H7.out.belowAll hb4)
   have H84 := yH (H8.out.belowAll hb4)
   have HB4 := yH hb4
   have HBW4 := yH (HBW.out.trans (hb4.mono HBW.out.size))
   clear hown1 hgr1 hb4 HO HBB HRA5 HRA2
   have ha3 := fun k (hk : k < 3) (w' : World) (h : Row w' (w.heap.size + 1) 46 (By T 3)) => h.cell (By_get T 3 hk)
   have la0 := byt_lt T 0
   have la1 := byt_lt T 1
   have la2 := byt_lt T 2
   have q0 := ha3 0 (by decide)
   have q1 := ha3 1 (by decide)
   have q2 := ha3 2 (by decide)
   clear ha3
   generalize byt T 0 = a at *
   generalize byt T 1 = b at *
   generalize byt T 2 = d at *
   have Q1 := yH q1
   have Q2 := yH q2
   have c0 := q0 _ HT4.out
   have c2 := q2 _ HT4.out
   clear q0 q1 q2
   go_wp2_with (at_builtin; refine wpList_append_rd _ rfl (.tmp 55) (.tmp 58) 24 rfl W2.heap.size 5 _ _ 1 Tryz.underlying24 HI.out HZ.out (by kernel_rfl) (by kernel_rfl) (by rfl) _ n1 (N8 la) rfl (HO4.out.alloc _) (fun _ => True) (some ⟨w4.heap.size, 0, none⟩) 1 1 (N8 [d]) rfl ?r2 (N8_ones _) ?e1 ?e2 ?e3 ?_)
   case r2 => exact (Rd.lit w4 (N8 [d]) #[.int .u8 (d : Int)] 5 rfl 1 rfl).mono (fun _ _ _ => trivial)
   case e1 => unfold maxLen; omega
   case e2 => omega
   case e3 => have := HB4.out.size; simp; omega
   clear c0 c2
   have hj : b % 64 < 64 := Nat.mod_lt _ (by decide)
   obtain ⟨x, hx8, hget⟩ : ∃ x, x < 256 ∧ (SL F S)[b % 64]? = some (.int .u8 ((x : Nat) : Int)) := sl_get F S hj
   obtain ⟨z, hz8, hxor⟩ := xor8 x d hx8 la2
   obtain ⟨F2, S2, hF2, hS2, hset⟩ := sig_set F S (b % 64) z hz8
   have hneT : w.heap.size + 1 ≠ gD := by omega
   have hneO : gC ≠ gD := by omega
   have hge : w.heap.size ≤ gD := by omega
   have hgeW : W.heap.size ≤ gD := by omega
   have hlX : gD < W2.heap.size := by omega
   refine wp_region_any (by kernel_rfl) ?_
   change wpAny _ _ _ _ _ _ _ (World.drew _)
   refine wpAny_of_held (S := (fun w' : World => Row w' (w.heap.size + 1) 46 (By T 3))) _ _ _ _ ?_
   have hHeld := (HT4.out.drewN 1)
   refine tg 0 27 rfl rfl (by kernel_rfl) (fun _ _ _ h => h) (by rfl) hHeld (fun w' hSw => ex_ix 46 (.tmp 5) (.const (.int .i64 1)) rfl _ (.int .i64 ((1 : Nat) : Int)) _ rfl rfl (ix3 _ 1 (by decide) w')) ?_
   simp only [Act.put, yA, yB, yC]
   refine tg 1 28 rfl rfl (by kernel_rfl) (fun _ _ _ h => h) (by rfl) hHeld (fun w' hSw => ex_ld 5 (.tmp 27) rfl _ _ rfl (ld_by (Q1.out _ hSw))) ?_
   simp only [Act.put, yA, yB, yC]
   refine tg 2 29 rfl rfl (by kernel_rfl) (fun _ _ _ h => h) (by rfl) hHeld (fun w' hSw => ex_bin .rem 5 5 (.tmp 28) (.const (.int .u8 64)) rfl _ (.int .u8 ((64 : Nat) : Int)) _ rfl rfl (remg _ _ _ _ w') (rem8 b 64 la1 (by decide) (by decide) w')) ?_
   simp only [Act.put, yA, yB, yC]
   refine tg 3 30 rfl rfl (by kernel_rfl) (fun _ _ _ h => h) (by rfl) hHeld (fun w' hSw => ex_ix 46 (.tmp 5) (.const (.int .i64 1)) rfl _ (.int .i64 ((1 : Nat) : Int)) _ rfl rfl (ix3 _ 1 (by decide) w')) ?_
   simp only [Act.put, yA, yB, yC]
   refine tg 4 31 rfl rfl (by kernel_rfl) (fun _ _ _ h => h) (by rfl) hHeld (fun w' hSw => ex_ld 5 (.tmp 30) rfl _ _ rfl (ld_by (Q1.out _ hSw))) ?_
   simp only [Act.put, yA, yB, yC]
   refine tg 5 32 rfl rfl (by kernel_rfl) (fun _ _ _ h => h) (by rfl) hHeld (fun w' hSw => ex_bin .rem 5 5 (.tmp 31) (.const (.int .u8 64)) rfl _ (.int .u8 ((64 : Nat) : Int)) _ rfl rfl (remg _ _ _ _ w') (rem8 b 64 la1 (by decide) (by decide) w')) ?_
   simp only [Act.put, yA, yB, yC]
   refine tg 6 33 rfl rfl (by kernel_rfl) (fun _ _ _ h => h) (by rfl) hHeld (fun w' hSw => ex_ix 31 (.tmp 8) (.tmp 32) rfl _ _ _ rfl rfl (sigx8 _ (b % 64) hj w')) ?_
   simp only [Act.put, yA, yB, yC]
   refine tg 8 35 rfl rfl (by kernel_rfl) (fun _ _ _ h => h) (by rfl) hHeld (fun w' hSw => ex_ix 46 (.tmp 5) (.const (.int .i64 2)) rfl _ (.int .i64 ((2 : Nat) : Int)) _ rfl rfl (ix3 _ 2 (by decide) w')) ?_
   simp only [Act.put, yA, yB, yC]
   refine tg 9 36 rfl rfl (by kernel_rfl) (fun _ _ _ h => h) (by rfl) hHeld (fun w' hSw => ex_ld 5 (.tmp 35) rfl _ _ rfl (ld_by (Q2.out _ hSw))) ?_
   simp only [Act.put, yA, yB, yC]
   refine wpAnyH_ready (rs := [7]) (by kernel_rfl) (by simp) ?_
   refine AllReadyH.cons rfl (fun K hK => ?_) AllReadyH.nil
   rw [if_pos (by kernel_rfl)]
   have hxc : w4.drew.cell? ⟨gD, b % 64, none⟩ = some (.int .u8 (x : Int)) := (H84.out.drewN 1).cell hget
   go_simp
   refine hK.out _ _ hHeld (fun hHeld => ?_)
   clear hK K
   refine tg 10 37 rfl rfl (by kernel_rfl) (fun _ _ _ h => h) (by rfl) hHeld (fun w' hSw => ex_bin .xor 5 5 (.tmp 34) (.tmp 36) rfl _ _ _ rfl rfl (xorg _ _ _ _ w') (hxor w')) ?_
   simp only [Act.put, yA, yB, yC]
   refine tg 11 38 rfl rfl (by kernel_rfl) (fun _ _ _ h => h) (by rfl) hHeld (fun w' hSw => ex_ix 31 (.tmp 8) (.tmp 29) rfl _ _ _ rfl rfl (sigx8 _ (b % 64) hj w')) ?_
   simp only [Act.put, yA, yB, yC]
   refine wpAnyH_ready (rs := [12]) (by kernel_rfl) (by simp) ?_
   refine AllReadyH.cons rfl (fun K hK => ?_) AllReadyH.nil
   rw [if_pos (by kernel_rfl)]
   have hr : Row w4.drew gD 31 (SL F S) := H84.out.drewN 1
   have ho : Row w4.drew gC 27 (By Y 32) := H74.out.drewN 1
   have ht : Row w4.drew (w.heap.size + 1) 46 (By T 3) := HT4.out.drewN 1
   refine wp_store_byte (.tmp 38) (.tmp 37) rfl ⟨gD, b % 64, none⟩ _ (z : Int) rfl rfl (hr.cell hget) (hr.free (b % 64)) ?_
   have nr := hr.set (b % 64) (.int .u8 (z : Int))
   rw [hset] at nr
   have no := ho.setCell (p := ⟨gD, b % 64, none⟩) hneO (.int .u8 (z : Int))
   have nt := ht.setCell (p := ⟨gD, b % 64, none⟩) hneT (.int .u8 (z : Int))
   have nw := HW4.out.drew.setCell (p := ⟨gD, b % 64, none⟩) hge (.int .u8 (z : Int))
   have nv := HV.out.belowAll (HBW4.out.drew.setCell (p := ⟨gD, b % 64, none⟩) hgeW (.int .u8 (z : Int)))
   have nn : Rd (w4.drew.setCell ⟨gD, b % 64, none⟩ (.int .u8 (z : Int))) (fun _ => True) A4 n1 (N8 la) :=
    ((Rd.of_own HO4.out).keep (w' := w4.drew.setCell ⟨gD, b % 64, none⟩ (.int .u8 (z : Int))) (Nat.le_of_eq (Eq.symm (show (w4.drew.setCell ⟨gD, b % 64, none⟩ (.int .u8 (z : Int))).heap.size = w4.drew.heap.size from by simp))) (fun q hq _ => Below.heap_setCell _ _ _ _ (fun h => by have := (HO4.out.lt q hq).1; have h2 : q = gD := h; omega))).mono (fun _ _ _ => trivial)
   refine hK.out _ _ nt (fun hHeld => ?_)
   clear hK K
   generalize (World.setCell _ ⟨gD, b % 64, none⟩ _) = W5 at *
   refine wpAnyH_done (by kernel_rfl) ?_ _
   obtain ⟨Y2, l2, n2, A2, c2, rfl, rfl, rfl, rfl, rfl⟩ : ∃ Y2 l2 n2 A2 c2, Y2 = Y ∧ l2 = la ∧ n2 = n1 ∧ A2 = A4 ∧ c2 = c4 := ⟨_, _, _, _, _, rfl, rfl, rfl, rfl, rfl⟩
   have HF2 := yH hF2
   have HS3 := yH hS2
   have HA2 := yH HA.out
   have HK5 := yH no
   have HG5 := yH nr
   have HN5 := yH nn
   have HV5 := yH nv
   have HW5 := yH nw
   have hn2 : n2 ≤ 301 := by omega
   clear nr no nt nw nv nn hr ho ht hHeld hget hxor hset
   go_upto_region 12 with fail
   rotate_left
   clear c0 c2
   have hj : b % 32 < 32 := Nat.mod_lt _ (by decide)
   obtain ⟨x, hx8, hget⟩ : ∃ x, x < 256 ∧ (By Y 32)[b % 32]? = some (.int .u8 ((x : Nat) : Int)) := ⟨_, byt_lt Y _, By_get Y 32 hj⟩
   obtain ⟨z, hz8, hxor⟩ := xor8 x d hx8 la2
   obtain ⟨Y2, hY2, hset⟩ := key_set Y (b % 32) z hz8
   have hneT : w.heap.size + 1 ≠ gC := by omega
   have hneO : gD ≠ gC := by omega
   have hge : w.heap.size ≤ gC := by omega
   have hgeW : W.heap.size ≤ gC := by omega
   have hlX : gC < W2.heap.size := by omega
   refine wp_region_any (by kernel_rfl) ?_
   change wpAny _ _ _ _ _ _ _ (World.drew _)
   refine wpAny_of_held (S := (fun w' : World => Row w' (w.heap.size + 1) 46 (By T 3))) _ _ _ _ ?_
   have hHeld := (HT4.out.drewN 1)
   refine tg 0 41 rfl rfl (by kernel_rfl) (fun _ _ _ h => h) (by rfl) hHeld (fun w' hSw => ex_ix 46 (.tmp 5) (.const (.int .i64 1)) rfl _ (.int .i64 ((1 : Nat) : Int)) _ rfl rfl (ix3 _ 1 (by decide) w')) ?_
   simp only [Act.put, yA, yB, yC]
   refine tg 1 42 rfl rfl (by kernel_rfl) (fun _ _ _ h => h) (by rfl) hHeld (fun w' hSw => ex_ld 5 (.tmp 41) rfl _ _ rfl (ld_by (Q1.out _ hSw))) ?_
   simp only [Act.put, yA, yB, yC]
   refine tg 2 43 rfl rfl (by kernel_rfl) (fun _ _ _ h => h) (by rfl) hHeld (fun w' hSw => ex_bin .rem 5 5 (.tmp 42) (.const (.int .u8 32)) rfl _ (.int .u8 ((32 : Nat) : Int)) _ rfl rfl (remg _ _ _ _ w') (rem8 b 32 la1 (by decide) (by decide) w')) ?_
   simp only [Act.put, yA, yB, yC]
   refine tg 3 44 rfl rfl (by kernel_rfl) (fun _ _ _ h => h) (by rfl) hHeld (fun w' hSw => ex_ix 46 (.tmp 5) (.const (.int .i64 1)) rfl _ (.int .i64 ((1 : Nat) : Int)) _ rfl rfl (ix3 _ 1 (by decide) w')) ?_
   simp only [Act.put, yA, yB, yC]
   refine tg 4 45 rfl rfl (by kernel_rfl) (fun _ _ _ h => h) (by rfl) hHeld (fun w' hSw => ex_ld 5 (.tmp 44) rfl _ _ rfl (ld_by (Q1.out _ hSw))) ?_
   simp only [Act.put, yA, yB, yC]
   refine tg 5 46 rfl rfl (by kernel_rfl) (fun _ _ _ h => h) (by rfl) hHeld (fun w' hSw => ex_bin .rem 5 5 (.tmp 45) (.const (.int .u8 32)) rfl _ (.int .u8 ((32 : Nat) : Int)) _ rfl rfl (remg _ _ _ _ w') (rem8 b 32 la1 (by decide) (by decide) w')) ?_
   simp only [Act.put, yA, yB, yC]
   refine tg 6 47 rfl rfl (by kernel_rfl) (fun _ _ _ h => h) (by rfl) hHeld (fun w' hSw => ex_ix 27 (.tmp 7) (.tmp 46) rfl _ _ _ rfl rfl (keyx8 _ (b % 32) hj w')) ?_
   simp only [Act.put, yA, yB, yC]
   refine tg 8 49 rfl rfl (by kernel_rfl) (fun _ _ _ h => h) (by rfl) hHeld (fun w' hSw => ex_ix 46 (.tmp 5) (.const (.int .i64 2)) rfl _ (.int .i64 ((2 : Nat) : Int)) _ rfl rfl (ix3 _ 2 (by decide) w')) ?_
   simp only [Act.put, yA, yB, yC]
   refine tg 9 50 rfl rfl (by kernel_rfl) (fun _ _ _ h => h) (by rfl) hHeld (fun w' hSw => ex_ld 5 (.tmp 49) rfl _ _ rfl (ld_by (Q2.out _ hSw))) ?_
   simp only [Act.put, yA, yB, yC]
   refine wpAnyH_ready (rs := [7]) (by kernel_rfl) (by simp) ?_
   refine AllReadyH.cons rfl (fun K hK => ?_) AllReadyH.nil
   rw [if_pos (by kernel_rfl)]
   have hxc : w4.drew.cell? ⟨gC, b % 32, none⟩ = some (.int .u8 (x : Int)) := (H74.out.drewN 1).cell hget
   go_simp
   refine hK.out _ _ hHeld (fun hHeld => ?_)
   clear hK K
   refine tg 10 51 rfl rfl (by kernel_rfl) (fun _ _ _ h => h) (by rfl) hHeld (fun w' hSw => ex_bin .xor 5 5 (.tmp 48) (.tmp 50) rfl _ _ _ rfl rfl (xorg _ _ _ _ w') (hxor w')) ?_
   simp only [Act.put, yA, yB, yC]
   refine tg 11 52 rfl rfl (by kernel_rfl) (fun _ _ _ h => h) (by rfl) hHeld (fun w' hSw => ex_ix 27 (.tmp 7) (.tmp 43) rfl _ _ _ rfl rfl (keyx8 _ (b % 32) hj w')) ?_
   simp only [Act.put, yA, yB, yC]
   refine wpAnyH_ready (rs := [12]) (by kernel_rfl) (by simp) ?_
   refine AllReadyH.cons rfl (fun K hK => ?_) AllReadyH.nil
   rw [if_pos (by kernel_rfl)]
   have hr : Row w4.drew gC 27 (By Y 32) := H74.out.drewN 1
   have ho : Row w4.drew gD 31 (SL F S) := H84.out.drewN 1
   have ht : Row w4.drew (w.heap.size + 1) 46 (By T 3) := HT4.out.drewN 1
   refine wp_store_byte (.tmp 52) (.tmp 51) rfl ⟨gC, b % 32, none⟩ _ (z : Int) rfl rfl (hr.cell hget) (hr.free (b % 32)) ?_
   have nr := hr.set (b % 32) (.int .u8 (z : Int))
   rw [hset] at nr
   have no := ho.setCell (p := ⟨gC, b % 32, none⟩) hneO (.int .u8 (z : Int))
   have nt := ht.setCell (p := ⟨gC, b % 32, none⟩) hneT (.int .u8 (z : Int))
   have nw := HW4.out.drew.setCell (p := ⟨gC, b % 32, none⟩) hge (.int .u8 (z : Int))
   have nv := HV.out.belowAll (HBW4.out.drew.setCell (p := ⟨gC, b % 32, none⟩) hgeW (.int .u8 (z : Int)))
   have nn : Rd (w4.drew.setCell ⟨gC, b % 32, none⟩ (.int .u8 (z : Int))) (fun _ => True) A4 n1 (N8 la) :=
    ((Rd.of_own HO4.out).keep (w' := w4.drew.setCell ⟨gC, b % 32, none⟩ (.int .u8 (z : Int))) (Nat.le_of_eq (Eq.symm (show (w4.drew.setCell ⟨gC, b % 32, none⟩ (.int .u8 (z : Int))).heap.size = w4.drew.heap.size from by simp))) (fun q hq _ => Below.heap_setCell _ _ _ _ (fun h => by have := (HO4.out.lt q hq).1; have h2 : q = gC := h; omega))).mono (fun _ _ _ => trivial)
   refine hK.out _ _ nt (fun hHeld => ?_)
   clear hK K
   generalize (World.setCell _ ⟨gC, b % 32, none⟩ _) = W5 at *
   refine wpAnyH_done (by kernel_rfl) ?_ _
   obtain ⟨F2, S2, l2, n2, A2, c2, rfl, rfl, rfl, rfl, rfl, rfl⟩ : ∃ F2 S2 l2 n2 A2 c2, F2 = F ∧ S2 = S ∧ l2 = la ∧ n2 = n1 ∧ A2 = A4 ∧ c2 = c4 := ⟨_, _, _, _, _, _, rfl, rfl, rfl, rfl, rfl, rfl⟩
   have HF2 := yH HF.out
   have HS3 := yH HS2.out
   have HA2 := yH HA.out
   have HK5 := yH nr
   have HG5 := yH no
   have HN5 := yH nn
   have HV5 := yH nv
   have HW5 := yH nw
   have hn2 : n2 ≤ 301 := by omega
   clear nr no nt nw nv nn hr ho ht hHeld hget hxor hset
   go_upto_region 12 with fail
   rotate_left
   clear c0 c2
   intro v2 w6 hown2 hgr2 _
   have hb6 : Below W2.heap.size W2 w6 := (HB4.out.alloc HB4.out.size _).grown hgr2 (by have := HB4.out.size; simp; omega) (fun q hq => (HO4.out.lt q hq).1)
   obtain ⟨A2, c2, rfl⟩ := own_slice hown2
   obtain ⟨l2, hl2⟩ : ∃ l2, l2 = la ++ [d] := ⟨_, rfl⟩
   have hN : Rd w6 (fun _ => True) A2 (n1 + 1) (N8 l2) := by
    have h := (Rd.of_own hown2).mono (G := fun _ => True) (fun _ _ _ => trivial)
    rw [hl2]
    unfold N8
    rw [List.map_append]
    exact h
   have hA2 : ∀ x ∈ l2, x < 256 := by
    intro x hx
    rw [hl2] at hx
    rcases List.mem_append.1 hx with h | h
    ·exact HA.out x h
    ·rw [List.mem_singleton.1 h]; exact la2
   have HF2 := yH HF.out
   have HS3 := yH HS2.out
   have HA2 := yH hA2
   have HK5 := yH (H7.out.belowAll hb6)
   have HG5 := yH (H8.out.belowAll hb6)
   have HN5 := yH hN
   have HV5 := yH (HV2.out.belowAll hb6)
   have HW5 := yH (HW2.out.trans (hb6.mono HW2.out.size))
   have hn2 : n1 + 1 ≤ 301 := by omega
   clear hown2 hgr2 hb6 hl2 hN hA2
   generalize n1 + 1 = n2 at *
   obtain ⟨F2, S2, Y2, W5, rfl, rfl, rfl, rfl⟩ : ∃ F2 S2 Y2 W5, F2 = F ∧ S2 = S ∧ Y2 = Y ∧ W5 = w6 := ⟨_, _, _, _, rfl, rfl, rfl, rfl⟩
   go_upto_region 12 with fail
   rotate_left
   clear c0 c2
   have hN : Rd w4 (fun _ => True) A4 n1 (N8 la) := (Rd.of_own HO4.out).mono (fun _ _ _ => trivial)
   obtain ⟨F2, S2, Y2, l2, n2, A2, c2, W5, rfl, rfl, rfl, rfl, rfl, rfl, rfl, rfl⟩ : ∃ F2 S2 Y2 l2 n2 A2 c2 W5, F2 = F ∧ S2 = S ∧ Y2 = Y ∧ l2 = la ∧ n2 = n1 ∧ A2 = A4 ∧ c2 = c4 ∧ W5 = w4 := ⟨_, _, _, _, _, _, _, _, rfl, rfl, rfl, rfl, rfl, rfl, rfl, rfl⟩
   have HF2 := yH HF.out
   have HS3 := yH HS2.out
   have HA2 := yH HA.out
   have HK5 := yH H74.out
   have HG5 := yH H84.out
   have HN5 := yH hN
   have HV5 := yH HV4.out
   have HW5 := yH HW4.out
   have hn2 : n2 ≤ 301 := by omega
   rotate_left
   all_goals
    have hl6 : l2.length < 1000000 := by have h := HN5.out.1; rw [N8_len] at h; omega
    have hn6 : n2 ≤ 1000 := by omega
    have hvf2 : ∀ w, Sv w → ∀ vs ps A m c, Rd w (fun _ => True) A m vs → Parts w (fun _ => True) vs ps → m ≤ 1000 → ps.flatten = l2 → Calls Tryz.prog 13 #[.agg (By Y2 32).toArray, .agg (SL F2 S2).toArray, .slice A m c] w fun e w' => e = .returned (.bool (vfB Y2 F2 S2 l2)) ∧ Below w.heap.size w w' := by
     intro w hw vs ps A m c r p hm hl
     have h := vf_any Y2 F2 S2 HF2.out HS3.out (vs := vs) (ps := ps) (A := A) (m := m) (c := c) w hw r p hm (hl ▸ hl6)
     rwa [hl] at h
    have hvr := fun (c : Nat) w h => vf_ref Y2 F2 S2 HF2.out HS3.out l2 (A := A2) (m := n2) (c := c) w HA2.out h hn6
    generalize vfB Y2 F2 S2 l2 = b1 at *
    have HVF := yH hvf2
    have HVR := yH hvr
    clear hl6 hvf2 hvr
    refine wp_region_any (by kernel_rfl) ?_
    change wpAny _ _ _ _ _ _ _ (World.drew _)
    refine wpAny_of_held (S := (fun w' : World => Below W5.heap.size W5 w')) _ _ _ _ ?_
    have hHeld := ((Below.refl W5.heap.size W5).drew)
    refine wpAnyH_take (i := 0) (v := .agg (By Y2 32).toArray) rfl (by kernel_rfl) (by kernel_rfl) (by kernel_rfl) (fun _ _ _ h => h) (yieldsIf_load_mid (by rfl) 27 (.tmp 7) rfl gC 0 rfl (By Y2 32) _ (fun w' hSw => (HK5.out.belowAll hSw).range) Tryz.underlying27 rfl (key_len _)) hHeld ?_
    change wpAnyH _ _ _ _ _ _ _ (Act.put _ (some 60) _) _
    simp only [Act.put, yA, yB, yC]
    refine wpAnyH_take (i := 1) (v := .agg (SL F2 S2).toArray) rfl (by kernel_rfl) (by kernel_rfl) (by kernel_rfl) (fun _ _ _ h => h) (yieldsIf_load_mid (by rfl) 31 (.tmp 8) rfl gD 0 rfl (SL F2 S2) _ (fun w' hSw => (HG5.out.belowAll hSw).range) Tryz.underlying31 rfl (sig_len _ _)) hHeld ?_
    change wpAnyH _ _ _ _ _ _ _ (Act.put _ (some 61) _) _
    simp only [Act.put, yA, yB, yC]
    refine wpAnyH_take (i := 2) (v := ?_) rfl (by kernel_rfl) (by kernel_rfl) (by kernel_rfl) (fun _ _ _ h => h) (Or.inl ⟨by rfl, ?_⟩) hHeld ?_
    rotate_left
    ·(intro w' hSw; go_simp; try (with_reducible rfl))
    change wpAnyH _ _ _ _ _ _ _ (Act.put _ (some 62) _) _
    simp only [Act.put, yA, yB, yC]
    refine wpAnyH_take (i := 5) (v := .agg (By Y2 32).toArray) rfl (by kernel_rfl) (by kernel_rfl) (by kernel_rfl) (fun _ _ _ h => h) (yieldsIf_load_mid (by rfl) 27 (.tmp 7) rfl gC 0 rfl (By Y2 32) _ (fun w' hSw => (HK5.out.belowAll hSw).range) Tryz.underlying27 rfl (key_len _)) hHeld ?_
    change wpAnyH _ _ _ _ _ _ _ (Act.put _ (some 65) _) _
    simp only [Act.put, yA, yB, yC]
    refine wpAnyH_take (i := 6) (v := .agg (SL F2 S2).toArray) rfl (by kernel_rfl) (by kernel_rfl) (by kernel_rfl) (fun _ _ _ h => h) (yieldsIf_load_mid (by rfl) 31 (.tmp 8) rfl gD 0 rfl (SL F2 S2) _ (fun w' hSw => (HG5.out.belowAll hSw).range) Tryz.underlying31 rfl (sig_len _ _)) hHeld ?_
    change wpAnyH _ _ _ _ _ _ _ (Act.put _ (some 66) _) _
    simp only [Act.put, yA, yB, yC]
    refine wpAnyH_take (i := 7) (v := ?_) rfl (by kernel_rfl) (by kernel_rfl) (by kernel_rfl) (fun _ _ _ h => h) (Or.inl ⟨by rfl, ?_⟩) hHeld ?_
    rotate_left
    ·(intro w' hSw; go_simp; try (with_reducible rfl))
    change wpAnyH _ _ _ _ _ _ _ (Act.put _ (some 67) _) _
    simp only [Act.put, yA, yB, yC]
    refine wpAnyH_ready (rs := [3]) (by kernel_rfl) (by simp) ?_
    refine AllReadyH.cons rfl (fun K hK => ?_) AllReadyH.nil
    rw [if_pos (by kernel_rfl)]
    refine wp_bOne (.tmp 62) rfl A2 n2 c2 rfl ?_
    have hal := hHeld.alloc hHeld.size (.cells #[.slice A2 n2 c2] 24)
    refine hK.out _ _ hal (fun hHeld => ?_)
    clear hK K
    have hpp := Parts.one (c := c2) HA2.out (HN5.out.belowAll hHeld)
    have hsv := HV5.out.belowAll hHeld
    have hcall := HVF.out _ hsv _ _ _ 1 1 one_row hpp (by decide) (by simp)
    clear hpp hsv hal
    refine wpAnyH_ready (rs := [4]) (by kernel_rfl) (by simp) ?_
    refine AllReadyH.cons rfl (fun K hK => ?_) AllReadyH.nil
    rw [if_pos (by kernel_rfl)]
    go_simp
    refine hcall.mono ?_
    rintro e w7 ⟨rfl, hb⟩
    refine hK.out _ _ (hHeld.trans (hb.mono hHeld.size)) (fun hHeld => ?_)
    clear hK K
    clear hcall hb
    refine wpAnyH_ready (rs := [8]) (by kernel_rfl) (by simp) ?_
    refine AllReadyH.cons rfl (fun K hK => ?_) AllReadyH.nil
    rw [if_pos (by kernel_rfl)]
    go_simp
    refine (HVR.out _ _ (HN5.out.belowAll hHeld)).mono ?_
    rintro e w8 ⟨rfl, hb⟩
    refine hK.out _ _ (hHeld.trans (hb.mono hHeld.size)) (fun hHeld => ?_)
    clear hK K
    clear hb
    refine tg 9 69 rfl rfl (by kernel_rfl) (fun _ _ _ h => h) (by rfl) hHeld (fun w' hSw => ex_bin .eql 4 4 (.tmp 64) (.tmp 68) rfl _ _ _ rfl rfl (eqg_bool _ _ _ w') (eq_bool b1 w')) ?_
    simp only [Act.put, yA, yB, yC]
    refine wpAnyH_take (i := 10) (v := ?_) rfl (by kernel_rfl) (by kernel_rfl) (by kernel_rfl) (fun _ _ _ h => h) (Or.inl ⟨by rfl, ?_⟩) hHeld ?_
    rotate_left
    ·(intro w' hSw; go_simp; try (with_reducible rfl))
    change wpAnyH _ _ _ _ _ _ _ (Act.put _ (some 70) _) _
    simp only [Act.put, yA, yB, yC]
    refine wpAnyH_ready (rs := [11]) (by kernel_rfl) (by simp) ?_
    refine AllReadyH.cons rfl (fun K hK => ?_) AllReadyH.nil
    rw [if_pos (by kernel_rfl)]
    go_simp
    refine (aw_any _ (HV5.out.belowAll hHeld)).mono ?_
    rintro e w9 ⟨rfl, hb⟩
    refine hK.out _ _ (hHeld.trans (hb.mono hHeld.size)) (fun hHeld => ?_)
    clear hK K
    clear hb
    refine wpAnyH_take (i := 12) (v := ?_) rfl (by kernel_rfl) (by kernel_rfl) (by kernel_rfl) (fun _ _ _ h => h) (Or.inl ⟨by rfl, ?_⟩) hHeld ?_
    rotate_left
    ·(intro w' hSw; go_simp; try (with_reducible rfl))
    change wpAnyH _ _ _ _ _ _ _ (Act.put _ (some 72) _) _
    simp only [Act.put, yA, yB, yC]
    refine wpAnyH_take (i := 13) (v := ?_) rfl (by kernel_rfl) (by kernel_rfl) (by kernel_rfl) (fun _ _ _ h => h) (Or.inl ⟨by rfl, ?_⟩) hHeld ?_
    rotate_left
    ·(intro w' hSw; go_simp; try (with_reducible rfl))
    change wpAnyH _ _ _ _ _ _ _ (Act.put _ (some 6) _) _
    simp only [Act.put, yA, yB, yC]
    refine wpAnyH_done (by kernel_rfl) ?_ _
    have HFF := yH (HW5.out.trans (hHeld.mono HW5.out.size))
    clear hHeld
    go_wp2_with fail
    go_ret
    exact ⟨rfl, HFF.out⟩
end Go.Proofs.YtnpjecdodhkplaaGreatDoor
