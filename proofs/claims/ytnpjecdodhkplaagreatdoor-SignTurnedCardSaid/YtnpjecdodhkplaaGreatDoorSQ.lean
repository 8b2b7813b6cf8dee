import Derived.Test.YtnpjecdodhkplaaGreatDoorSP
namespace Go.Proofs.YtnpjecdodhkplaaGreatDoor
set_option maxRecDepth 100000
set_option linter.unusedSimpArgs false
set_option linter.unusedVariables false
open Go.RowKit
open List renaming setIfInBounds_toArray → yA, set_cons_zero → yB, set_cons_succ → yC
open Lib renaming hid → yH
theorem key_info (N : Nat) : (Tryz.prog.info? 27).map (·.size) = some (By N 32).toArray.size := by rw [List.size_toArray, By_length]; kernel_rfl
theorem key_len (N : Nat) : (Tryz.prog.info? 27).map (·.size) = some (By N 32).length := by rw [By_length]; kernel_rfl
theorem seed_info (N : Nat) : (Tryz.prog.info? 23).map (·.size) = some (By N 32).toArray.size := by rw [List.size_toArray, By_length]; kernel_rfl
theorem by64_info (N : Nat) : (Tryz.prog.info? 30).map (·.size) = some (By N 64).toArray.size := by rw [List.size_toArray, By_length]; kernel_rfl
def SL (n s : Nat) : List Value := By n 32 ++ By s 32
theorem SL_length (n s : Nat) : (SL n s).length = 64 := by rw [SL, List.length_append, By_length, By_length]
theorem SL_one (n s : Nat) : (SL n s).toArray.all (·.oneCell') = true := by
 have h1 := By_one32 n
 have h2 := By_one32 s
 rw [List.all_toArray] at *
 rw [SL, List.all_append, h1, h2]
 rfl
theorem SL_sz (n s m t : Nat) : (SL n s).toArray.size = (SL m t).toArray.size := by rw [List.size_toArray, List.size_toArray, SL_length, SL_length]
theorem sec_info (n s : Nat) : (Tryz.prog.info? 49).map (·.size) = some (SL n s).toArray.size := by rw [List.size_toArray, SL_length]; kernel_rfl
theorem sig_info (n s : Nat) : (Tryz.prog.info? 31).map (·.size) = some (SL n s).toArray.size := by rw [List.size_toArray, SL_length]; kernel_rfl
theorem SL_fst (n s : Nat) : ∀ j v, (By n 32)[j]? = some v → (SL n s)[0 + j]? = some v := part0
theorem SL_snd (n s : Nat) : ∀ j v, (By s 32)[j]? = some v → (SL n s)[32 + j]? = some v := fun j v h => part_skip (n := 32) (m := 0) (By_length n 32) part0 j v h
theorem By_64 (H : Nat) : By H 64 = SL H (H / 256 ^ 32) := by
 refine (By_ext H 64 (SL_length _ _) fun k hk => ?_).symm
 unfold SL
 by_cases h : k < 32
 ·rw [List.getElem?_append_left (by rw [By_length]; exact h), By_get _ _ h]
 ·rw [List.getElem?_append_right (by rw [By_length]; omega), By_length, By_get _ _ (by omega)]
  congr 3
  unfold byt
  rw [Nat.div_div_eq_div_mul, show (256 : Nat) ^ 32 = 2 ^ (8 * 32) by rw [pow256], ← Nat.pow_add, show 8 * 32 + 8 * (k - 32) = 8 * k by omega]
def clps (H : Nat) : List Nat := (List.range 32).map fun i => if i = 0 then byt H 0 / 8 * 8 else if i = 31 then byt H 31 % 64 + 64 else byt H i
def clp (H : Nat) : Nat := lev (clps H)
def slt (H : Nat) : Nat := H / 256 ^ 32
theorem clps_lt (H : Nat) : ∀ x ∈ clps H, x < 256 := by
 intro x hx
 obtain ⟨i, _, rfl⟩ := List.mem_map.1 hx
 have h0 := byt_lt H 0
 have h1 := byt_lt H 31
 have h2 := byt_lt H i
 split
 ·omega
 ·split <;> omega
theorem clp_lt (H : Nat) : clp H < 256 ^ 32 := by
 have h := lev_lt (clps_lt H)
 rwa [clps, List.length_map, List.length_range, ← clps] at h
theorem byt_clp (H : Nat) {k : Nat} (hk : k < 32) : byt (clp H) k = if k = 0 then byt H 0 / 8 * 8 else if k = 31 then byt H 31 % 64 + 64 else byt H k := by
 rw [clp, byt_lev _ (clps_lt H) k (by rw [clps, List.length_map, List.length_range]; exact hk)]
 simp [clps, hk]
theorem SL_clp (H : Nat) : ((SL H (slt H)).set 0 (.int .u8 ((byt H 0 / 8 * 8 : Nat) : Int))).set 31 (.int .u8 ((byt H 31 % 64 + 64 : Nat) : Int)) = SL (clp H) (slt H) := by
 unfold SL
 rw [List.set_append_left _ _ (by rw [By_length]; decide), List.set_append_left _ _ (by rw [List.length_set, By_length]; decide)]
 congr 1
 refine By_ext _ _ (by rw [List.length_set, List.length_set, By_length]) fun k hk => ?_
 rw [byt_clp H hk]
 by_cases h0 : k = 0
 ·subst h0
  rw [List.getElem?_set_ne (by decide), List.getElem?_set_self (by rw [By_length]; decide)]
  rfl
 ·by_cases h1 : k = 31
  ·subst h1
   rw [List.getElem?_set_self (by rw [List.length_set, By_length]; decide)]
   rfl
  ·rw [List.getElem?_set_ne (by omega), List.getElem?_set_ne (by omega), By_get _ _ hk, if_neg h0, if_neg h1]
theorem wp_buildTwo {o : Oper} {a : Act} {w : World} {K : Act → World → Prop} {Q : Exit → Act → World → Prop} (x y : Operand) (ho : o.op = .buildSlice 57 2 #[(0, x), (1, y)]) (a1 a2 : Option Addr) (n1 n2 c1 c2 : Nat)
  (hx : a.eval x = .slice a1 n1 c1) (hy : a.eval y = .slice a2 n2 c2)
  (h : K (a.put o.dst (.slice (some ⟨w.heap.size, 0, none⟩) 2 2)) (w.alloc (.cells #[.slice a1 n1 c1, .slice a2 n2 c2] 24))) : o.wp Tryz.prog a w K Q := by
 have hi : Tryz.prog.info? 24 = some (Tryz.prog.info? 24).get! := by kernel_rfl
 have hz : (Tryz.prog.info? 24).get!.zero = some (.slice none 0 0) := by kernel_rfl
 have hsz : (Tryz.prog.info? 24).get!.size = 1 := by kernel_rfl
 refine wp_buildSlice 57 24 2 _ ho #[.slice a1 n1 c1, .slice a2 n2 c2] _ _ Tryz.underlying57 hi hz (by rw [hsz]; decide) (by rw [hsz]; decide) ?_ h
 rw [hsz]
 simp only [List.map_toArray, List.map_cons, List.map_nil, hx, hy]
 kernel_rfl
theorem sf_n (g : Nat) (w : World) : (Instr.fieldAt 49 (.pointer (some ⟨g, 0, none⟩)) 0).run Tryz.prog w = .ok (.pointer (some ⟨g, 0, none⟩)) w := by kernel_rfl
theorem ky_any (n s : Nat) (w : World) (hw : Sv w) :
  Calls Tryz.prog 17 #[.agg (SL n s).toArray] w fun e w' => e = .returned (.agg (By (ptN (muP baP n)) 32).toArray) ∧ Below w.heap.size w w' := by
 have hs0 := (Row.new w (SL n s) 49).alloc (.cells (By 0 32).toArray 27)
 have hz := Row.new1 w (.cells (SL n s).toArray 49) (By 0 32) 27
 have hW := Below.alloc2 w (.cells (SL n s).toArray 49) (.cells (By 0 32).toArray 27)
 have hv := hw.belowAll hW
 clear hw
 go_enter Tryz.func17, Tryz.ntmps17
 go_wp2_with fail
 rw [z32r]
 generalize ((w.alloc (.cells (SL n s).toArray 49)).alloc (.cells (By 0 32).toArray 27)) = W0 at *
 refine wp_flat_store (aD := ?aD1) (S := fun w' => Below W0.heap.size W0 w') (s := 5) (T := 27) (T' := 27) (g := w.heap.size + 1) (z := By 0 32) (c := By (ptN (muP baP n)) 32) (x := .tmp 2) (y := .tmp 7)
  (vs := [(0, .agg (PL baP).toArray), (1, .pointer (some ⟨w.heap.size, 0, none⟩)), (2, .agg (By n 32).toArray), (3, .agg (PL (muP baP n)).toArray), (4, .agg (By (ptN (muP baP n)) 32).toArray)]) (by kernel_rfl) ((Below.refl _ _).drew) (fun _ _ h k => S_trans h k) ?hD1 ?hk1 rfl rfl rfl rfl ?ea1 ?eb1 (fun w' h => hz.belowAll h) (key_info _) (By_sz _ _) (By_one32 _) ?h1
 case hD1 =>
  refine .s 3 rfl (Gives.c (args := []) rfl Tryz.func23 (fun w' h => ba_any w' (hv.gx.belowAll h))) ?_
  refine .s 4 rfl (Gives.fieldAt 49 (.tmp 1) 0 rfl _ _ rfl (fun w' => sf_n (w.heap.size) w')) ?_
  refine .s 5 rfl (Gives.load_at 22 (.tmp 4) rfl ⟨w.heap.size, 0, none⟩ rfl (By n 32) _ (fun w' h => (hs0.belowAll h).part 0 (By n 32) (SL_fst _ _)) Tryz.underlying22 rfl (by_len _)) ?_
  refine .s 6 rfl (Gives.c (args := [.agg (PL baP).toArray, .agg (By n 32).toArray]) rfl Tryz.func24 (fun w' h => mu_any baP_ok n w' (hv.gx.belowAll h))) ?_
  refine .s 7 rfl (Gives.c (args := [.agg (PL (muP baP n)).toArray]) rfl Tryz.func25 (fun w' h => by_any (muP_ok baP_ok n) w' (hv.gx.belowAll h))) ?_
  exact .nil
 case hk1 => kernel_rfl
 case ea1 => rfl
 case eb1 => rfl
 case h1 =>
 intro W1 hb
 replace hz := (hz.belowAll hb).setRow (By (ptN (muP baP n)) 32)
 replace hW := below_setRow (g := w.heap.size + 1) (hW.trans (hb.mono hW.size)) (by omega) (By (ptN (muP baP n)) 32).toArray
 have HGOT := yH hz
 have HW := yH hW
 clear hz hW hs0 hv hb
 go_wp2_with fail
 refine bodyPost_ret (results_cell_row (by rfl) _ _ (w.heap.size + 1) _ _ _ _ (by rfl) HGOT.out Tryz.underlying27 rfl (key_info _)) rfl ?_
 exact ⟨rfl, HW.out⟩
set_option maxHeartbeats 3200000 in
theorem ch_any (F Y : Nat) {vs : List Value} {ps : List (List Nat)} {A : Option Addr} {m c : Nat} (w : World) (hw : Sv w) (r : Rd w (fun _ => True) A m vs) (p : Parts w (fun _ => True) vs ps) (hm : m ≤ 1000) (hn : ps.flatten.length < 1000000) :
  Calls Tryz.prog 27 #[.agg (By F 32).toArray, .agg (By Y 32).toArray, .slice A m c] w fun e w' => e = .returned (.agg (By (hN (nb F 32 ++ (nb Y 32 ++ ps.flatten))) 32).toArray) ∧ Below w.heap.size w w' := by
 have hf0 := ((Row.new w (By F 32) 22).alloc (.cells (By Y 32).toArray 27)).alloc (.cells (By 0 32).toArray 22)
 have hk0 := (Row.new1 w (.cells (By F 32).toArray 22) (By Y 32) 27).alloc (.cells (By 0 32).toArray 22)
 have hz0 := Row.new2 w (.cells (By F 32).toArray 22) (.cells (By Y 32).toArray 27) (By 0 32) 22
 have hW := Below.alloc3 w (.cells (By F 32).toArray 22) (.cells (By Y 32).toArray 27) (.cells (By 0 32).toArray 22)
 have hsz : (((w.alloc (.cells (By F 32).toArray 22)).alloc (.cells (By Y 32).toArray 27)).alloc (.cells (By 0 32).toArray 22)).heap.size = w.heap.size + 1 + 1 + 1 := by simp
 have HSV := yH (hw.belowAll hW)
 have HR := yH (r.belowAll hW)
 have HP := yH (p.belowAll hW)
 have HF := yH hf0
 have HK := yH hk0
 have HZ := yH hz0
 have HW := yH hW
 have HSZ := yH hsz
 have HN := yH hn
 have HRN := yH r.1
 clear hf0 hk0 hz0 hW hsz hw r p hn
 go_enter Tryz.func27, Tryz.ntmps27
 go_upto_region 1 with fail
 rw [z32r]
 generalize ((w.alloc (.cells (By F 32).toArray 22)).alloc (.cells (By Y 32).toArray 27)).alloc (.cells (By 0 32).toArray 22) = W at *
 refine wp_region_any (by kernel_rfl) ?_
 change wpAny _ _ _ _ _ _ _ (World.drew _)
 refine wpAny_of_held (S := (fun w' : World => Only (fun k => k = w.heap.size + 1 + 1) W w')) _ _ _ _ ?_
 have hHeld := ((Only.refl (fun k => k = w.heap.size + 1 + 1) W).drew)
 have hB0 : Below W.heap.size W W.drew := (Below.refl W.heap.size W).drew
 have hl : Ls [(0, 7), (1, 8), (2, 9)] := trivial
 repeat
  refine tkl hl (v := ?_) rfl rfl (by kernel_rfl) (fun _ _ _ h => h) (by rfl) ?_ hHeld ?_
  rotate_left
  ·(intro w' hSw; go_simp; try (with_reducible rfl))
  simp only [Act.put, yA, yB, yC]
  replace hl := hl.tl
 clear hl
 refine wpAnyH_ready (rs := [3]) (by kernel_rfl) (by simp) ?_
 refine AllReadyH.cons rfl (fun K hK => ?_) AllReadyH.nil
 rw [if_pos (by kernel_rfl)]
 refine wp_buildTwo (.tmp 8) (.tmp 9) rfl (some ⟨w.heap.size, 0, none⟩) (some ⟨w.heap.size + 1, 0, none⟩) 32 32 32 32 rfl rfl ?_
 have hrow := Rd.lit W.drew [.slice (some ⟨w.heap.size, 0, none⟩) 32 32, .slice (some ⟨w.heap.size + 1, 0, none⟩) 32 32] #[.slice (some ⟨w.heap.size, 0, none⟩) 32 32, .slice (some ⟨w.heap.size + 1, 0, none⟩) 32 32] 24 rfl 2 rfl
 refine hK.out _ _ (hHeld.alloc _) (fun hHeld => ?_)
 clear hK K
 have hB1 : Below W.heap.size W (W.drew.alloc (.cells #[.slice (some ⟨w.heap.size, 0, none⟩) 32 32, .slice (some ⟨w.heap.size + 1, 0, none⟩) 32 32] 24)) := hB0.alloc hB0.size _
 have hF2 := HF.out.belowAll hB1
 have hK2 := HK.out.belowAll hB1
 rw [By_nb] at hF2 hK2
 have hpp := (Parts.one (c := 32) (nb_lt F 32) (Rd.row hF2 32 (by simp [nb_len]))).append (Parts.one (c := 32) (nb_lt Y 32) (Rd.row hK2 32 (by simp [nb_len])))
 have hr1 := HR.out.belowAll hB1
 have hp1 := HP.out.belowAll hB1
 have hs1 := HSV.out.belowAll hB1
 have hz1 := HZ.out.belowAll hB1
 have hfl : (([nb F 32] ++ [nb Y 32]) ++ ps).flatten = nb F 32 ++ (nb Y 32 ++ ps.flatten) := by simp
 have hlen : (([nb F 32] ++ [nb Y 32]) ++ ps).flatten.length < 1099511627776 := by rw [hfl, List.length_append, List.length_append, nb_len, nb_len]; have := HN.out; omega
 have hcall := rs_any (c1 := c) (c2 := 2) _ hs1 hr1 hp1 (hrow.mono (fun _ _ _ => trivial)) hpp hm (by decide) (by decide) hlen
 rw [hfl] at hcall
 change Calls _ _ #[.slice A m c, .slice (some ⟨W.drew.heap.size, 0, none⟩) 2 2] _ _ at hcall
 generalize W.drew.alloc (.cells #[.slice (some ⟨w.heap.size, 0, none⟩) 32 32, .slice (some ⟨w.heap.size + 1, 0, none⟩) 32 32] 24) = w_a at *
 refine wpAnyH_ready (rs := [4]) (by kernel_rfl) (by simp) ?_
 refine AllReadyH.cons rfl (fun K hK => ?_) AllReadyH.nil
 rw [if_pos (by kernel_rfl)]
 go_simp
 refine hcall.mono ?_
 rintro e w_c ⟨rfl, hb⟩
 have hz2 := hz1.belowAll hb
 have hB2 := hB1.trans (hb.mono hB1.size)
 refine hK.out _ _ (hHeld.trans (Only.of_below hb _) (fun _ _ h => h)) (fun hHeld => ?_)
 clear hK K
 refine wpAnyH_ready (rs := [5]) (by kernel_rfl) (by simp) ?_
 refine AllReadyH.cons rfl (fun K hK => ?_) AllReadyH.nil
 rw [if_pos (by kernel_rfl)]
 refine wp_store_row 22 (.tmp 6) (.tmp 11) rfl (w.heap.size + 1 + 1) (By (hN (nb F 32 ++ (nb Y 32 ++ ps.flatten))) 32).toArray rfl rfl 22 _ hz2 (by_info _) (By_sz _ _) (By_one32 _) ?_
 have hz3 := hz2.setRow (By (hN (nb F 32 ++ (nb Y 32 ++ ps.flatten))) 32)
 have hw3 := below_setRow (g := w.heap.size + 1 + 1) (HW.out.trans (hB2.mono HW.out.size)) (by omega) (By (hN (nb F 32 ++ (nb Y 32 ++ ps.flatten))) 32).toArray
 refine hK.out _ _ (hHeld.setRow (.inl rfl)) (fun hHeld => ?_)
 clear hK K
 refine wpAnyH_done (by kernel_rfl) ?_ _
 have HG := yH hz3
 have HB := yH hw3
 clear hz3 hw3
 go_wp2_with fail
 refine bodyPost_ret (results_cell_row (by rfl) _ _ (w.heap.size + 1 + 1) _ _ _ _ (by rfl) HG.out Tryz.underlying22 rfl (by_info _)) rfl ?_
 exact ⟨rfl, HB.out⟩
end Go.Proofs.YtnpjecdodhkplaaGreatDoor
