import Derived.Test.YtnpjecdodhkplaaGreatDoorSQ
namespace Go.Proofs.YtnpjecdodhkplaaGreatDoor
set_option maxRecDepth 100000
set_option linter.unusedSimpArgs false
set_option linter.unusedVariables false
open Go.RowKit
open List renaming setIfInBounds_toArray → yA, set_cons_zero → yB, set_cons_succ → yC
open Lib renaming hid → yH
theorem sec_alloc (w : World) : (Instr.alloc 49 true (.tuple #[])).run Tryz.prog w = .ok (.pointer (some ⟨w.heap.size, 0, none⟩)) (w.alloc (.cells (SL 0 0).toArray 49)) := by kernel_rfl
theorem sec_build (n s : Nat) (w : World) : (Instr.build 49 #[(0, .agg (By n 32).toArray), (1, .agg (By s 32).toArray)]).run Tryz.prog w = .ok (.agg (SL n s).toArray) w := run_build w 49 _ _ (by kernel_rfl)
theorem Gives.build2 {P : Program} {S : World → Prop} {o : Oper} {a : Act} (T : TypeId) (x0 x1 : Operand) (ho : o.op = .build T #[(0, x0), (1, x1)]) (u0 u1 v : Value) (h0 : a.eval x0 = u0) (h1 : a.eval x1 = u1)
  (hrun : ∀ w, (Instr.build T #[(0, u0), (1, u1)]).run P w = .ok v w) : Gives P S o v a :=
 Gives.run fun w _ => by
  unfold execOp
  simp only [ho, Sem.run_bind, Sem.run_pure, List.map_toArray, List.map_cons, List.map_nil, h0, h1, hrun, Result.andThen_ok]
theorem and7 : ∀ x : Nat, x < 256 → bits .andNot .u8 (x : Int) 7 = ((x / 8 * 8 : Nat) : Int) := by decide +kernel
theorem and128 : ∀ x : Nat, x < 256 → bits .andNot .u8 (x : Int) 128 = ((x % 128 : Nat) : Int) := by decide +kernel
theorem or64 : ∀ x : Nat, x < 256 → bits .or .u8 ((x % 128 : Nat) : Int) 64 = ((x % 64 + 64 : Nat) : Int) := by decide +kernel
theorem s2b_0 (g : Nat) (w : World) : (Instr.arrayAt 22 (.slice (some ⟨g, 0, none⟩) 32 64)).run Tryz.prog w = .ok (.pointer (some ⟨g, 0, none⟩)) w := by kernel_rfl
theorem s2b_1 (g : Nat) (w : World) : (Instr.arrayAt 22 (.slice (some ⟨g, 32, none⟩) 32 32)).run Tryz.prog w = .ok (.pointer (some ⟨g, 32, none⟩)) w := by kernel_rfl
theorem Gives.arr {P : Program} {S : World → Prop} {o : Oper} {a : Act} (T : TypeId) (x : Operand) (ho : o.op = .sliceToArrayPointer T x) (u r : Value) (hx : a.eval x = u) (hi : ∀ w, (Instr.arrayAt T u).run P w = .ok r w) : Gives P S o r a :=
 Gives.run fun w _ => by
  unfold execOp
  simp only [ho, Sem.run_bind, Sem.run_pure, hx, hi, Result.andThen_ok]
theorem z64sz (H : Nat) : (List.replicate 64 (Value.int .u8 0)).toArray.size = (By H 64).toArray.size := by rw [List.size_toArray, List.size_toArray, By_length]; rfl
set_option maxHeartbeats 3200000 in
theorem sc_any (N : Nat) (w : World) (hw : Sv w) :
  Calls Tryz.prog 16 #[.agg (By N 32).toArray] w fun e w' => e = .returned (.agg (SL (clp (shN (nb N 32))) (slt (shN (nb N 32)))).toArray) ∧ Below w.heap.size w w' := by
 have hs0 := (Row.new w (By N 32) 23).alloc (.cells (SL 0 0).toArray 49)
 have hz0 := Row.new1 w (.cells (By N 32).toArray 23) (SL 0 0) 49
 have hW := Below.alloc2 w (.cells (By N 32).toArray 23) (.cells (SL 0 0).toArray 49)
 have hsz : ((w.alloc (.cells (By N 32).toArray 23)).alloc (.cells (SL 0 0).toArray 49)).heap.size = w.heap.size + 1 + 1 := by simp
 have hlit := Rd.lit ((w.alloc (.cells (By N 32).toArray 23)).alloc (.cells (SL 0 0).toArray 49)) [.slice (some ⟨w.heap.size, 0, none⟩) 32 32] #[.slice (some ⟨w.heap.size, 0, none⟩) 32 32] 24 rfl 1 rfl
 have hB1 := Below.alloc1 ((w.alloc (.cells (By N 32).toArray 23)).alloc (.cells (SL 0 0).toArray 49)) (.cells #[.slice (some ⟨w.heap.size, 0, none⟩) 32 32] 24)
 have hs1 := hs0.belowAll hB1
 rw [By_nb] at hs1
 have hp1 := Parts.one (c := 32) (nb_lt N 32) (Rd.row hs1 32 (by simp [nb_len]))
 have hsum := s5_any [nb N 32] _ _ 1 1 _ ((hw.belowAll hW).belowAll hB1) (hlit.mono (fun _ _ _ => trivial)) hp1 (by decide) (by simp [nb_len])
 rw [hsz, List.flatten_singleton] at hsum
 have HZ := yH (hz0.belowAll hB1)
 have HW := yH (hW.trans (hB1.mono hW.size))
 clear hs0 hz0 hW hlit hs1 hp1 hB1 hw hsz
 obtain ⟨H, hH⟩ : ∃ H, H = shN (nb N 32) := ⟨_, rfl⟩
 rw [← hH] at hsum ⊢
 clear hH
 have HS := yH hsum
 clear hsum
 go_enter Tryz.func16, Tryz.ntmps16
 go_wp2_with fail
 refine HS.out.mono ?_
 rintro e w2 ⟨rfl, hb⟩
 have h3 := Row.new w2 (List.replicate 64 (Value.int .u8 0)) 30
 have hb2 := below_setRow (g := w2.heap.size) (hb.alloc hb.size (.cells (List.replicate 64 (Value.int .u8 0)).toArray 30)) hb.size (By H 64).toArray
 have HZ2 := yH (HZ.out.belowAll hb2)
 have HW2 := yH (HW.out.trans (hb2.mono HW.out.size))
 have H3 := yH h3
 have hr3 := h3.setRow (By H 64)
 rw [By_64] at hr3
 have HR3 := yH hr3
 have hlt := HZ.out.lt
 have hle2 := hb.size
 clear hb h3 hb2 hr3 HS
 go_upto_region 2 with (refine wpList_store_row rfl 30 (.tmp 3) (.tmp 7) rfl w2.heap.size _ rfl rfl 30 _ H3.out (by64_info _) (z64sz _) (By_one _ _) ?_)
 clear H3
 have hr3 := HR3.out
 have hz3 := HZ2.out
 have hw3 := HW2.out
 clear HR3 HZ2 HW2 HZ HW
 rw [← By_64] at hr3
 change Code.wp _ _ _ _ ((w2.alloc (.cells (List.replicate 64 (Value.int .u8 0)).toArray 30)).setRow w2.heap.size (By H 64).toArray)
 rw [By_64] at hr3 hz3 hw3 ⊢
 generalize (w2.alloc (.cells (List.replicate 64 (Value.int .u8 0)).toArray 30)).setRow w2.heap.size (SL H (H / 256 ^ 32)).toArray = W3 at *
 generalize w2.heap.size = g3 at *
 change Row W3 g3 30 (SL H (slt H)) at hr3
 refine wp_vars_one (aD := ?aD1) (B := W3.heap.size) (S := fun w' => Below W3.heap.size W3 w') (k1 := 7) (s1 := 8) (T1 := 49) (L1 := 49) (z1 := SL 0 0) (c1 := SL H (slt H)) (x1 := .tmp 4) (y1 := .tmp 14)
  (vs := [(0, .slice (some ⟨g3, 0, none⟩) 32 64), (1, .pointer (some ⟨g3, 0, none⟩)), (2, .agg (By H 32).toArray), (3, .slice (some ⟨g3, 32, none⟩) 32 32), (4, .pointer (some ⟨g3, 32, none⟩)), (5, .agg (By (slt H) 32).toArray), (6, .agg (SL H (slt H)).toArray)]) (by kernel_rfl) ((Below.refl _ _).drew) (fun _ _ h k => S_trans h k) (fun _ _ cs h hg => S_row h hg cs) (fun _ h => h.size) ?hD1 (.of rfl rfl rfl (fun w' => sec_alloc w')) ?hk1 rfl rfl (some 4) rfl rfl rfl ?e1 ?f1 (sec_info _ _) (SL_sz _ _ _ _) (SL_one _ _) ?h1
 case hD1 =>
  refine .s 8 rfl (Gives.run (fun w' _ => by kernel_rfl)) ?_
  refine .s 9 rfl (Gives.arr 22 (.tmp 8) rfl _ _ rfl (fun w' => s2b_0 _ w')) ?_
  refine .s 10 rfl (Gives.load_at 22 (.tmp 9) rfl ⟨g3, 0, none⟩ rfl (By H 32) _ (fun w' h => (hr3.belowAll h).part 0 (By H 32) (SL_fst _ _)) Tryz.underlying22 rfl (by_len _)) ?_
  refine .s 11 rfl (Gives.run (fun w' _ => by kernel_rfl)) ?_
  refine .s 12 rfl (Gives.arr 22 (.tmp 11) rfl _ _ rfl (fun w' => s2b_1 _ w')) ?_
  refine .s 13 rfl (Gives.load_at 22 (.tmp 12) rfl ⟨g3, 32, none⟩ rfl (By (slt H) 32) _ (fun w' h => (hr3.belowAll h).part 32 (By (slt H) 32) (SL_snd _ _)) Tryz.underlying22 rfl (by_len _)) ?_
  refine .s 14 rfl (Gives.build2 49 (.tmp 10) (.tmp 13) rfl _ _ _ rfl rfl (fun w' => sec_build _ _ w')) ?_
  exact .nil
 case hk1 => kernel_rfl
 case e1 => intro i1; rfl
 case f1 => intro i1; rfl
 case h1 =>
 intro g4 W4 hb hg4 h4
 simp only [Act.put, yA, yB, yC]
 have hlt3 := hz3.lt
 have hz4 := hz3.belowAll hb
 have hw4 := hw3.trans (hb.mono hw3.size)
 have hsz3 := hw3.size
 have hne : w.heap.size + 1 ≠ g4 := by omega
 have hge : w.heap.size ≤ g4 := by omega
 clear hb hr3 hz3 hw3 hlt3 hsz3
 have hc := h4.cell (SL_fst H (slt H) 0 _ (By_get H 32 (k := 0) (by decide)))
 have hf := h4.free 0
 have hand := and7 (byt H 0) (byt_lt H 0)
 have hsl := SL_clp H
 generalize byt H 0 / 8 * 8 = x0 at *
 generalize byt H 0 = c0 at *
 have HSL := yH hsl
 clear hsl
 have hs4 := h4.set 0 (.int .u8 (x0 : Int))
 have hz5 := hz4.setCell (p := ⟨g4, 0, none⟩) hne (.int .u8 (x0 : Int))
 have hw5 := hw4.setCell (p := ⟨g4, 0, none⟩) hge (.int .u8 (x0 : Int))
 have HS4 := yH hs4
 have HZ5 := yH hz5
 have HW5 := yH hw5
 clear hs4 hz5 hw5 hz4 hw4 h4
 go_upto_region 4 with fail
 have hs5 := HS4.out
 have hz5 := HZ5.out
 have hw5 := HW5.out
 clear HS4 HZ5 HW5 hc hf hand
 generalize W4.setCell ⟨g4, 0, none⟩ (.int .u8 (x0 : Int)) = W5 at *
 have hc := hs5.cell (k := 31) (v := .int .u8 ((byt H 31 : Nat) : Int)) (by rw [List.getElem?_set_ne (by decide)]; exact SL_fst H (slt H) 31 _ (By_get H 32 (k := 31) (by decide)))
 have hf := hs5.free 31
 have hand := and128 (byt H 31) (byt_lt H 31)
 have hor := or64 (byt H 31) (byt_lt H 31)
 have hs6 := hs5.set 31 (.int .u8 ((byt H 31 % 64 + 64 : Nat) : Int))
 rw [HSL.out] at hs6
 clear HSL
 generalize byt H 31 % 128 = y1 at *
 generalize byt H 31 % 64 + 64 = x1 at *
 generalize byt H 31 = c1 at *
 have hz6 := hz5.setCell (p := ⟨g4, 31, none⟩) hne (.int .u8 (x1 : Int))
 have hw6 := hw5.setCell (p := ⟨g4, 31, none⟩) hge (.int .u8 (x1 : Int))
 have HS6 := yH hs6
 have HZ6 := yH hz6
 have HW6 := yH hw6
 clear hs5 hz5 hw5 hs6 hz6 hw6
 go_upto_region 5 with fail
 have hs7 := HS6.out
 have hz7 := HZ6.out
 have hw7 := HW6.out
 clear HS6 HZ6 HW6 hc hf hand hor
 generalize W5.setCell ⟨g4, 31, none⟩ (.int .u8 (x1 : Int)) = W6 at *
 have HS7 := yH hs7
 have HZ7 := yH hz7
 have HW7 := yH hw7
 clear hs7 hz7 hw7
 go_wp2_with (first
  | (refine wpList_load_row rfl 49 (.tmp 4) rfl g4 rfl 49 _ (0, 0) _ HS7.out Tryz.underlying49 rfl (sec_info _ _) ?_)
  | (refine wpList_store_row rfl 49 (.tmp 2) (.tmp 28) rfl (w.heap.size + 1) _ rfl rfl 49 _ HZ7.out (sec_info _ _) (SL_sz _ _ _ _) (SL_one _ _) ?_))
 have HR := yH (HZ7.out.setRow (SL (clp H) (slt H)))
 go_wp2_with fail
 refine bodyPost_ret (results_cell_row (by rfl) _ _ (w.heap.size + 1) _ _ _ _ (by rfl) HR.out Tryz.underlying49 rfl (sec_info _ _)) rfl ?_
 exact ⟨rfl, below_setRow HW7.out (by omega) _⟩
def scN (N : Nat) : Nat := clp (shN (nb N 32))
def stN (N : Nat) : Nat := slt (shN (nb N 32))
def pbN (N : Nat) : Nat := ptN (muP baP (scN N))
theorem pb_any (N : Nat) (w : World) (hw : Sv w) :
  Calls Tryz.prog 8 #[.agg (By N 32).toArray] w fun e w' => e = .returned (.agg (By (pbN N) 32).toArray) ∧ Below w.heap.size w w' := by
 have hs := (Row.new w (By N 32) 23).alloc (.cells (By 0 32).toArray 27)
 have hz := Row.new1 w (.cells (By N 32).toArray 23) (By 0 32) 27
 have hW := Below.alloc2 w (.cells (By N 32).toArray 23) (.cells (By 0 32).toArray 27)
 have HV := yH (hw.belowAll hW)
 have HW := yH hW
 have HS := yH hs
 have HZ := yH hz
 clear hw hW hs hz
 go_enter Tryz.func8, Tryz.ntmps8
 go_wp2_with (refine wpList_load_row rfl 23 (.tmp 1) rfl w.heap.size rfl 23 _ (0, 0) _ HS.out Tryz.underlying23 rfl (seed_info _) ?_)
 refine (sc_any N _ HV.out).mono ?_
 rintro e w1 ⟨rfl, hb⟩
 have HZ1 := yH (HZ.out.belowAll hb)
 have HW1 := yH (HW.out.trans (hb.mono HW.out.size))
 have HV1 := yH (HV.out.belowAll hb)
 clear hb
 go_wp2_with fail
 refine (ky_any (scN N) (stN N) _ HV1.out).mono ?_
 rintro e w2 ⟨rfl, hb⟩
 have HZ2 := yH (HZ1.out.belowAll hb)
 have HW2 := yH (HW1.out.trans (hb.mono HW1.out.size))
 clear hb
 go_wp2_with (refine wpList_store_row rfl 27 (.tmp 2) (.tmp 5) rfl (w.heap.size + 1) _ rfl rfl 27 _ HZ2.out (key_info _) (By_sz _ _) (By_one32 _) ?_)
 have HR := yH (HZ2.out.setRow (By (ptN (muP baP (scN N))) 32))
 go_wp2_with fail
 refine bodyPost_ret (results_cell_row (by rfl) _ _ (w.heap.size + 1) _ _ _ _ (by rfl) HR.out Tryz.underlying27 rfl (key_info _)) rfl ?_
 exact ⟨rfl, below_setRow HW2.out (by omega) _⟩
def vfB (K F S : Nat) (l : List Nat) : Bool := decOk K && (decide (S < qq) && decide (ptN (boP (ngP (decPt K)) (hN (nb F 32 ++ (nb K 32 ++ l))) S) = F))
theorem s2a_0 (g : Nat) (w : World) : (Instr.arrayAt 22 (.slice (some ⟨g, 0, none⟩) 32 64)).run Tryz.prog w = .ok (.pointer (some ⟨g, 0, none⟩)) w := by kernel_rfl
theorem s2a_1 (g : Nat) (w : World) : (Instr.arrayAt 22 (.slice (some ⟨g, 32, none⟩) 32 32)).run Tryz.prog w = .ok (.pointer (some ⟨g, 32, none⟩)) w := by kernel_rfl
theorem ptN_lt (p : Pm) : ptN p < 256 ^ 32 := by
 have h1 := nu_pp (mulL p.y (invL p.z))
 have h2 := hh_lt
 unfold ptN
 have e : (256 : Nat) ^ 32 = 57896044618658097711785492504343953926634992332820282019728792003956564819968 + 57896044618658097711785492504343953926634992332820282019728792003956564819968 := by decide
 rw [e]
 split <;> omega
theorem vf_any (K F S : Nat) (hF : F < 256 ^ 32) (hS : S < 256 ^ 32) {vs : List Value} {ps : List (List Nat)} {A : Option Addr} {m c : Nat} (w : World) (hw : Sv w) (r : Rd w (fun _ => True) A m vs) (p : Parts w (fun _ => True) vs ps) (hm : m ≤ 1000) (hn : ps.flatten.length < 1000000) :
  Calls Tryz.prog 13 #[.agg (By K 32).toArray, .agg (SL F S).toArray, .slice A m c] w fun e w' => e = .returned (.bool (vfB K F S ps.flatten)) ∧ Below w.heap.size w w' := by
 have hk := (Row.new w (By K 32) 27).alloc (.cells (SL F S).toArray 31)
 have hg := Row.new1 w (.cells (By K 32).toArray 27) (SL F S) 31
 have hW := Below.alloc2 w (.cells (By K 32).toArray 27) (.cells (SL F S).toArray 31)
 have HV := yH (hw.belowAll hW)
 have HR := yH (r.belowAll hW)
 have HP := yH (p.belowAll hW)
 have hsz : ((w.alloc (.cells (By K 32).toArray 27)).alloc (.cells (SL F S).toArray 31)).heap.size = w.heap.size + 1 + 1 := by simp
 have HSZ := yH hsz
 have HN := yH hn
 clear hw r p hsz hn
 go_enter Tryz.func13, Tryz.ntmps13
 go_upto_region 1 with fail
 generalize ((w.alloc (.cells (By K 32).toArray 27)).alloc (.cells (SL F S).toArray 31)) = W0 at *
 refine wp_vars_two (aD := ?aD1) (B := W0.heap.size) (S := fun w' => Below W0.heap.size W0 w') (k1 := 6) (s1 := 8) (T1 := 22) (L1 := 22) (z1 := By 0 32) (c1 := By F 32) (x1 := .tmp 7) (y1 := .tmp 13) (k2 := 7) (s2 := 9) (T2 := 22) (L2 := 22) (z2 := By 0 32) (c2 := By S 32) (x2 := .tmp 8) (y2 := .tmp 16)
  (vs := [(0, .slice (some ⟨w.heap.size + 1, 0, none⟩) 32 64), (1, .pointer (some ⟨w.heap.size + 1, 0, none⟩)), (2, .agg (By F 32).toArray), (3, .slice (some ⟨w.heap.size + 1, 32, none⟩) 32 32), (4, .pointer (some ⟨w.heap.size + 1, 32, none⟩)), (5, .agg (By S 32).toArray)]) (by kernel_rfl) ((Below.refl _ _).drew) (fun _ _ h k => S_trans h k) (fun _ _ cs h hg => S_row h hg cs) (fun _ h => h.size) ?hD1 (.of rfl rfl rfl (fun w' => by_alloc w')) (.of rfl rfl rfl (fun w' => by_alloc w')) ?hk1 (by decide) rfl rfl rfl rfl (some 7) (some 8) rfl rfl rfl rfl rfl rfl ?e11 ?f11 ?e12 ?f12 (by_info _) (By_sz _ _) (By_one32 _) (by_info _) (By_sz _ _) (By_one32 _) ?h1
 case hD1 =>
  refine .s 11 rfl (Gives.run (fun w' _ => by kernel_rfl)) ?_
  refine .s 12 rfl (Gives.arr 22 (.tmp 11) rfl _ _ rfl (fun w' => s2a_0 _ w')) ?_
  refine .s 13 rfl (Gives.load_at 22 (.tmp 12) rfl ⟨w.heap.size + 1, 0, none⟩ rfl (By F 32) _ (fun w' h => (hg.belowAll h).part 0 (By F 32) (SL_fst _ _)) Tryz.underlying22 rfl (by_len _)) ?_
  refine .s 14 rfl (Gives.run (fun w' _ => by kernel_rfl)) ?_
  refine .s 15 rfl (Gives.arr 22 (.tmp 14) rfl _ _ rfl (fun w' => s2a_1 _ w')) ?_
  refine .s 16 rfl (Gives.load_at 22 (.tmp 15) rfl ⟨w.heap.size + 1, 32, none⟩ rfl (By S 32) _ (fun w' h => (hg.belowAll h).part 32 (By S 32) (SL_snd _ _)) Tryz.underlying22 rfl (by_len _)) ?_
  exact .nil
 case hk1 => kernel_rfl
 case e11 => intro i1 i2; rfl
 case f11 => intro i1 i2; rfl
 case e12 => intro i1 i2; rfl
 case f12 => intro i1 i2; rfl
 case h1 =>
 intro g7 g8 W1 hb hg0 hg1 hn1 h7 h8
 simp only [Act.put, yA, yB, yC]
 have HK := yH (hk.belowAll hb)
 have HV1 := yH (HV.out.belowAll hb)
 have HR1 := yH (HR.out.belowAll hb)
 have HP1 := yH (HP.out.belowAll hb)
 have HW := yH (hW.trans (hb.mono hW.size))
 have H7 := yH h7
 have H8 := yH h8
 clear hk hg hW hb h7 h8
 go_wp2_with (refine wpList_load_row rfl 27 (.tmp 3) rfl w.heap.size rfl 27 _ (0, 0) _ HK.out Tryz.underlying27 rfl (key_info _) ?_)
 have hde := de_any K W1 HV1.out.gx
 by_cases hok : decOk K = true
 ·rw [hok] at hde
  refine hde.mono ?_
  rintro e w1 ⟨rfl, hb⟩
  have hz := Row.new w1 (PL zeP) 64
  have hb2 : Below W1.heap.size W1 ((w1.alloc (.cells (PL zeP).toArray 64)).setRow w1.heap.size (PL (decPt K)).toArray) := below_setRow (hb.alloc hb.size _) hb.size _
  have hp9 := hz.setRow (PL (decPt K))
  have HZ := yH hz
  have HK2 := yH (HK.out.belowAll hb2)
  have HV2 := yH (HV1.out.belowAll hb2)
  have HR2 := yH (HR1.out.belowAll hb2)
  have HP2 := yH (HP1.out.belowAll hb2)
  have HW2 := yH (HW.out.trans (hb2.mono HW.out.size))
  have H72 := yH (H7.out.belowAll hb2)
  have H82 := yH (H8.out.belowAll hb2)
  have H92 := yH hp9
  clear hb hz hb2 hp9 HK HV1 HR1 HP1 HW H7 H8 HV HR HP hde
  go_wp2_with (first
   | (refine wpList_store_row rfl 64 (.tmp 9) (.tmp 20) rfl w1.heap.size _ rfl rfl 64 _ HZ.out (pl_info _) (PL_sz _ _) (PL_one _) ?_)
   | (refine wpList_load_guarded (by kernel_rfl) 22 (.tmp 8) rfl g8 rfl 22 _ H82.out Tryz.underlying22 rfl (by_info _) ?_))
  refine (below_fn S hS _ HV2.out.q).mono ?_
  rintro e w3 ⟨rfl, hb⟩
  have HK3 := yH (HK2.out.belowAll hb)
  have HV3 := yH (HV2.out.belowAll hb)
  have HR3 := yH (HR2.out.belowAll hb)
  have HP3 := yH (HP2.out.belowAll hb)
  have HW3 := yH (HW2.out.trans (hb.mono HW2.out.size))
  have H73 := yH (H72.out.belowAll hb)
  have H83 := yH (H82.out.belowAll hb)
  have H93 := yH (H92.out.belowAll hb)
  clear hb
  by_cases hs : S < qq
  ·rw [decide_eq_true hs]
   go_upto_region 5 with fail
   have hfn : ∀ w', Below w3.heap.size w3 w' → Row w' g7 22 (By F 32) := fun w' h => H73.out.belowAll h
   have hb0 : ptN (boP (ngP (decPt K)) (hN (nb F 32 ++ (nb K 32 ++ ps.flatten))) S) < 256 ^ 32 := ptN_lt _
   refine wp_flat_none (aD := ?aD5) (S := fun w' => Below w3.heap.size w3 w')
    (vs := [(0, .agg (By F 32).toArray), (1, .agg (By K 32).toArray), (2, .slice A m c), (3, .agg (By (hN (nb F 32 ++ (nb K 32 ++ ps.flatten))) 32).toArray), (4, .agg (PL (decPt K)).toArray), (5, .agg (PL (ngP (decPt K))).toArray), (6, .agg (By S 32).toArray), (7, .agg (PL (boP (ngP (decPt K)) (hN (nb F 32 ++ (nb K 32 ++ ps.flatten))) S)).toArray), (8, .agg (By (ptN (boP (ngP (decPt K)) (hN (nb F 32 ++ (nb K 32 ++ ps.flatten))) S)) 32).toArray), (9, .agg (By F 32).toArray), (10, .bool (decide (ptN (boP (ngP (decPt K)) (hN (nb F 32 ++ (nb K 32 ++ ps.flatten))) S) = F))), (11, .bool (decide (ptN (boP (ngP (decPt K)) (hN (nb F 32 ++ (nb K 32 ++ ps.flatten))) S) = F)))]) (by kernel_rfl) ((Below.refl _ _).drew) (fun _ _ h k => S_trans h k) ?hD5 ?hk5 ?h5
   case hD5 =>
    refine .s 29 rfl (Gives.l 22 (.tmp 7) g7 (fun w' h => H73.out.belowAll h) Tryz.underlying22 (by_info _)) ?_
    refine .s 30 rfl (Gives.l 27 (.tmp 3) w.heap.size (fun w' h => HK3.out.belowAll h) Tryz.underlying27 (key_info _)) ?_
    refine .s 31 rfl (Gives.move (x := .tmp 2) rfl rfl) ?_
    refine .s 32 rfl (Gives.c (args := [.agg (By F 32).toArray, .agg (By K 32).toArray, .slice A m c]) rfl Tryz.func27 (fun w' h => ch_any F K w' (HV3.out.belowAll h) (HR3.out.belowAll h) (HP3.out.belowAll h) hm HN.out)) ?_
    refine .s 33 rfl (Gives.l 64 (.tmp 9) w1.heap.size (fun w' h => H93.out.belowAll h) Tryz.underlying64 (pl_info _)) ?_
    refine .s 34 rfl (Gives.c (args := [.agg (PL (decPt K)).toArray]) rfl Tryz.func44 (fun w' h => ng_any (decPt_ok K) w' (HV3.out.gx.belowAll h))) ?_
    refine .s 35 rfl (Gives.l 22 (.tmp 8) g8 (fun w' h => H83.out.belowAll h) Tryz.underlying22 (by_info _)) ?_
    refine .s 36 rfl (Gives.c (args := [.agg (By (hN (nb F 32 ++ (nb K 32 ++ ps.flatten))) 32).toArray, .agg (PL (ngP (decPt K))).toArray, .agg (By S 32).toArray]) rfl Tryz.func43 (fun w' h => bo_any (ngP_ok (decPt_ok K)) _ S w' (HV3.out.gx.belowAll h))) ?_
    refine .s 37 rfl (Gives.c (args := [.agg (PL (boP (ngP (decPt K)) (hN (nb F 32 ++ (nb K 32 ++ ps.flatten))) S)).toArray]) rfl Tryz.func25 (fun w' h => by_any (boP_ok (ngP_ok (decPt_ok K)) _ _) w' (HV3.out.gx.belowAll h))) ?_
    refine .s 38 rfl (Gives.l 22 (.tmp 7) g7 (fun w' h => H73.out.belowAll h) Tryz.underlying22 (by_info _)) ?_
    refine .s 39 rfl (Gives.binop .eql 22 22 (.tmp 37) (.tmp 38) rfl _ _ _ rfl rfl (fun w' => bgrd _ _ _ _ _ w') (fun w' => beq_dec hb0 hF rfl w')) ?_
    refine .s 6 rfl (Gives.assign (x := .tmp 39) rfl rfl) ?_
    exact .nil
   case hk5 => kernel_rfl
   case h5 =>
   intro W5 hb
   have HW5 := yH (HW3.out.trans (hb.mono HW3.out.size))
   clear hb
   go_wp2_with fail
   go_ret
   refine ⟨?_, HW5.out⟩
   rw [vfB, hok, decide_eq_true hs, Bool.true_and, Bool.true_and]
   generalize decide (ptN (boP (ngP (decPt K)) (hN (nb F 32 ++ (nb K 32 ++ ps.flatten))) S) = F) = bb
   rfl
  ·rw [decide_eq_false hs]
   go_wp2_with fail
   go_ret
   refine ⟨?_, HW3.out⟩
   rw [vfB, hok, decide_eq_false hs]
   rfl
 ·have hok2 : decOk K = false := by simpa using hok
  rw [hok2] at hde
  refine hde.mono ?_
  rintro e w1 ⟨rfl, hb⟩
  have hz := Row.new w1 (PL zeP) 64
  have hb2 : Below W1.heap.size W1 ((w1.alloc (.cells (PL zeP).toArray 64)).setRow w1.heap.size (PL (decPt K)).toArray) := below_setRow (hb.alloc hb.size _) hb.size _
  have HZ := yH hz
  have HW2 := yH (HW.out.trans (hb2.mono HW.out.size))
  clear hb hz hb2 HK HV1 HR1 HP1 HW H7 H8 HV HR HP hde
  go_wp2_with (refine wpList_store_row rfl 64 (.tmp 9) (.tmp 20) rfl w1.heap.size _ rfl rfl 64 _ HZ.out (pl_info _) (PL_sz _ _) (PL_one _) ?_)
  go_ret
  refine ⟨?_, HW2.out⟩
  rw [vfB, hok2]
  rfl
end Go.Proofs.YtnpjecdodhkplaaGreatDoor
