import Derived.Test.YtnpjecdodhkplaaGreatDoorSR
namespace Go.Proofs.YtnpjecdodhkplaaGreatDoor
set_option maxRecDepth 100000
set_option linter.unusedSimpArgs false
set_option linter.unusedVariables false
open Go.RowKit
open List renaming setIfInBounds_toArray → yA, set_cons_zero → yB, set_cons_succ → yC
open Lib renaming hid → yH
def rrN (N : Nat) (l : List Nat) : Nat := hN (nb (stN N) 32 ++ l)
def sgF (N : Nat) (l : List Nat) : Nat := ptN (muP baP (rrN N l))
def sgK (N : Nat) (l : List Nat) : Nat := hN (nb (sgF N l) 32 ++ (nb (pbN N) 32 ++ l))
def sgS (N : Nat) (l : List Nat) : Nat := (sgK N l * scN N + rrN N l) % qq
theorem sig_len (n s : Nat) : (Tryz.prog.info? 31).map (·.size) = some (SL n s).length := by rw [SL_length]; kernel_rfl
theorem s2g (g c : Nat) (w : World) : (Instr.arrayAt 31 (.slice (some ⟨g, 0, none⟩) 64 c)).run Tryz.prog w = .ok (.pointer (some ⟨g, 0, none⟩)) w := by kernel_rfl
set_option maxHeartbeats 6400000 in
theorem sg_any (N : Nat) {vs : List Value} {ps : List (List Nat)} {A : Option Addr} {m c : Nat} (w : World) (hw : Sv w) (r : Rd w (fun _ => True) A m vs) (p : Parts w (fun _ => True) vs ps) (hm : m ≤ 1000) (hn : ps.flatten.length < 1000000) :
  Calls Tryz.prog 10 #[.agg (By N 32).toArray, .slice A m c] w fun e w' => e = .returned (.agg (SL (sgF N ps.flatten) (sgS N ps.flatten)).toArray) ∧ Below w.heap.size w w' := by
 have hs0 := (Row.new w (By N 32) 23).alloc (.cells (SL 0 0).toArray 31)
 have hz0 := Row.new1 w (.cells (By N 32).toArray 23) (SL 0 0) 31
 have hW := Below.alloc2 w (.cells (By N 32).toArray 23) (.cells (SL 0 0).toArray 31)
 have HV := yH (hw.belowAll hW)
 have HR := yH (r.belowAll hW)
 have HP := yH (p.belowAll hW)
 have HS := yH hs0
 have HZ := yH hz0
 have HW := yH hW
 have HN := yH hn
 clear hw r p hs0 hz0 hW hn
 obtain ⟨l, hl⟩ : ∃ l, l = ps.flatten := ⟨_, rfl⟩
 rw [← hl]
 have HL := yH hl
 clear hl
 obtain ⟨n, hnn⟩ : ∃ n, n = scN N := ⟨_, rfl⟩
 obtain ⟨s, hss⟩ : ∃ s, s = stN N := ⟨_, rfl⟩
 have hn256 : n < 256 ^ 32 := hnn ▸ clp_lt _
 have hsc := fun w hw => sc_any N w hw
 change ∀ w, Sv w → Calls _ _ _ w (fun e w' => e = .returned (.agg (SL (scN N) (stN N)).toArray) ∧ _) at hsc
 rw [← hnn, ← hss] at hsc
 have HSC := yH hsc
 have hpb : pbN N = ptN (muP baP n) := by rw [hnn]; rfl
 have hF : sgF N l = ptN (muP baP (hN (nb s 32 ++ l))) := by rw [hss]; rfl
 have hS : sgS N l = (hN (nb (ptN (muP baP (hN (nb s 32 ++ l)))) 32 ++ (nb (ptN (muP baP n)) 32 ++ l)) * n + hN (nb s 32 ++ l)) % qq := by rw [hss, hnn]; rfl
 rw [hF, hS]
 clear hnn hss hsc hpb hF hS
 obtain ⟨rr, hrr⟩ : ∃ rr, rr = hN (nb s 32 ++ l) := ⟨_, rfl⟩
 have hr256 : rr < 256 ^ 32 := hrr ▸ hN_256 _
 rw [← hrr]
 obtain ⟨F, hF⟩ : ∃ F, F = ptN (muP baP rr) := ⟨_, rfl⟩
 obtain ⟨Y, hY⟩ : ∃ Y, Y = ptN (muP baP n) := ⟨_, rfl⟩
 have hbF := fun w hq => by_any (muP_ok baP_ok rr) w hq
 have hky := fun w hw => ky_any n s w hw
 rw [← hF] at hbF
 rw [← hY] at hky
 rw [← hF, ← hY]
 clear hF hY
 have hch := fun w hw r p => ch_any F Y (vs := vs) (ps := ps) (A := A) (m := m) (c := c) w hw r p hm HN.out
 rw [← HL.out] at hch
 have hk256 := hN_256 (nb F 32 ++ (nb Y 32 ++ l))
 generalize hN (nb F 32 ++ (nb Y 32 ++ l)) = k at *
 have hma := fun w hq => muladd_fn k n rr hk256 hn256 hr256 w hq
 generalize (k * n + rr) % qq = s8 at *
 have HRR := yH hrr
 have HBF := yH hbF
 have HKY := yH hky
 have HCH := yH hch
 have HMA := yH hma
 clear hrr hr256 hbF hky hch hk256 hma hn256
 go_enter Tryz.func10, Tryz.ntmps10
 go_wp2_with (refine wpList_load_row rfl 23 (.tmp 2) rfl w.heap.size rfl 23 _ (0, 0) _ HS.out Tryz.underlying23 rfl (seed_info _) ?_)
 refine (HSC.out _ HV.out).mono ?_
 rintro e w1 ⟨rfl, hb⟩
 have h5 := Row.new w1 (SL 0 0) 49
 have hb2 := below_setRow (g := w1.heap.size) (hb.alloc hb.size (.cells (SL 0 0).toArray 49)) hb.size (SL n s).toArray
 have H5 := yH h5
 have h5r := h5.setRow (SL n s)
 have HV1 := yH (HV.out.belowAll hb2)
 have HR1 := yH (HR.out.belowAll hb2)
 have HP1 := yH (HP.out.belowAll hb2)
 have HZ1 := yH (HZ.out.belowAll hb2)
 have HW1 := yH (HW.out.trans (hb2.mono HW.out.size))
 have H5R := yH h5r
 clear hb h5 hb2 h5r HS HV HR HP HZ HW HSC
 go_upto_region 2 with (refine wpList_store_row rfl 49 (.tmp 5) (.tmp 10) rfl w1.heap.size _ rfl rfl 49 _ H5.out (sec_info _ _) (SL_sz _ _ _ _) (SL_one _ _) ?_)
 have hv1 := HV1.out
 have hr1 := HR1.out
 have hp1 := HP1.out
 have hz1 := HZ1.out
 have hw1 := HW1.out
 have h5r := H5R.out
 clear HV1 HR1 HP1 HZ1 HW1 H5R H5
 change Code.wp _ _ _ _ ((w1.alloc (.cells (SL 0 0).toArray 49)).setRow w1.heap.size (SL n s).toArray)
 generalize (w1.alloc (.cells (SL 0 0).toArray 49)).setRow w1.heap.size (SL n s).toArray = W1 at *
 generalize w1.heap.size = g5 at *
 have hB := Below.alloc1 W1 (.cells #[.slice (some ⟨g5, 32, none⟩) 32 32] 24)
 have hlit := Rd.lit W1 [.slice (some ⟨g5, 32, none⟩) 32 32] #[.slice (some ⟨g5, 32, none⟩) 32 32] 24 rfl 1 rfl
 have h5b := h5r.belowAll hB
 have hslt : Rd (W1.alloc (.cells #[.slice (some ⟨g5, 32, none⟩) 32 32] 24)) (fun _ => True) (some ⟨g5, 32, none⟩) 32 (By s 32) :=
  ⟨By_length _ _, fun _ => ⟨_, rfl, trivial, h5b.lt, fun j u hu => by rw [Addr.add_mid]; exact h5b.cell (SL_snd n s j u hu)⟩⟩
 rw [By_nb] at hslt
 have hps := Parts.one (c := 32) (nb_lt s 32) hslt
 have hfl : ([nb s 32] ++ ps).flatten = nb s 32 ++ l := by rw [HL.out]; simp
 have hcall := rs_any (c1 := c) (c2 := 1) _ (hv1.belowAll hB) (hr1.belowAll hB) (hp1.belowAll hB) (hlit.mono (fun _ _ _ => trivial)) hps hm (by decide) (by decide) (by rw [hfl, List.length_append, nb_len, HL.out]; have := HN.out; omega)
 rw [hfl, ← HRR.out] at hcall
 have HC := yH hcall
 have HV2 := yH (hv1.belowAll hB)
 have HR2 := yH (hr1.belowAll hB)
 have HP2 := yH (hp1.belowAll hB)
 have HZ2 := yH (hz1.belowAll hB)
 have HW2 := yH (hw1.trans (hB.mono hw1.size))
 have H52 := yH h5b
 clear hB hlit h5b hslt hps hfl hcall hv1 hr1 hp1 hz1 hw1 h5r
 go_wp2_with fail
 refine HC.out.mono ?_
 rintro e w2 ⟨rfl, hb⟩
 clear HC
 have h6 := Row.new w2 (By 0 32) 22
 have hb2 := below_setRow (g := w2.heap.size) (hb.alloc hb.size (.cells (By 0 32).toArray 22)) hb.size (By rr 32).toArray
 have H6 := yH h6
 have H6R := yH (h6.setRow (By rr 32))
 have HV3 := yH (HV2.out.belowAll hb2)
 have HR3 := yH (HR2.out.belowAll hb2)
 have HP3 := yH (HP2.out.belowAll hb2)
 have HZ3 := yH (HZ2.out.belowAll hb2)
 have HW3 := yH (HW2.out.trans (hb2.mono HW2.out.size))
 have H53 := yH (H52.out.belowAll hb2)
 clear hb h6 hb2 HV2 HR2 HP2 HZ2 HW2 H52
 go_upto_region 3 with (refine wpList_store_row rfl 22 (.tmp 6) (.tmp 15) rfl w2.heap.size _ rfl rfl 22 _ H6.out (by_info _) (By_sz _ _) (By_one32 _) ?_)
 have hv3 := HV3.out
 have hr3 := HR3.out
 have hp3 := HP3.out
 have hz3 := HZ3.out
 have hw3 := HW3.out
 have h53 := H53.out
 have h63 := H6R.out
 clear HV3 HR3 HP3 HZ3 HW3 H53 H6R H6
 change Code.wp _ _ _ _ ((w2.alloc (.cells (By 0 32).toArray 22)).setRow w2.heap.size (By rr 32).toArray)
 generalize (w2.alloc (.cells (By 0 32).toArray 22)).setRow w2.heap.size (By rr 32).toArray = W3 at *
 generalize w2.heap.size = g6 at *
 refine wp_vars_one (aD := ?aD1) (B := W3.heap.size) (S := fun w' => Below W3.heap.size W3 w') (k1 := 4) (s1 := 5) (T1 := 22) (L1 := 22) (z1 := By 0 32) (c1 := By F 32) (x1 := .tmp 7) (y1 := .tmp 19)
  (vs := [(0, .agg (PL baP).toArray), (1, .agg (By rr 32).toArray), (2, .agg (PL (muP baP rr)).toArray), (3, .agg (By F 32).toArray)]) (by kernel_rfl) ((Below.refl _ _).drew) (fun _ _ h k => S_trans h k) (fun _ _ cs h hg => S_row h hg cs) (fun _ h => h.size) ?hD1 (.of rfl rfl rfl (fun w' => by_alloc w')) ?hk1 rfl rfl (some 7) rfl rfl rfl ?e1 ?f1 (by_info _) (By_sz _ _) (By_one32 _) ?h1
 case hD1 =>
  refine .s 16 rfl (Gives.c (args := []) rfl Tryz.func23 (fun w' h => ba_any w' (hv3.gx.belowAll h))) ?_
  refine .s 17 rfl (Gives.l 22 (.tmp 6) g6 (fun w' h => h63.belowAll h) Tryz.underlying22 (by_info _)) ?_
  refine .s 18 rfl (Gives.c (args := [.agg (PL baP).toArray, .agg (By rr 32).toArray]) rfl Tryz.func24 (fun w' h => mu_any baP_ok rr w' (hv3.gx.belowAll h))) ?_
  refine .s 19 rfl (Gives.c (args := [.agg (PL (muP baP rr)).toArray]) rfl Tryz.func25 (fun w' h => HBF.out w' (hv3.gx.belowAll h))) ?_
  exact .nil
 case hk1 => kernel_rfl
 case e1 => intro i1; rfl
 case f1 => intro i1; rfl
 case h1 =>
 intro g7 W4 hb hg7 h7
 simp only [Act.put, yA, yB, yC]
 have hv4 := hv3.belowAll hb
 have hr4 := hr3.belowAll hb
 have hp4 := hp3.belowAll hb
 have hz4 := hz3.belowAll hb
 have hw4 := hw3.trans (hb.mono hw3.size)
 have h54 := h53.belowAll hb
 have h64 := h63.belowAll hb
 clear hb hv3 hr3 hp3 hz3 hw3 h53 h63
 go_upto_region 4 with fail
 refine wp_vars_one (aD := ?aD2) (B := W4.heap.size) (S := fun w' => Below W4.heap.size W4 w') (k1 := 9) (s1 := 10) (T1 := 22) (L1 := 22) (z1 := By 0 32) (c1 := By s8 32) (x1 := .tmp 8) (y1 := .tmp 28)
  (vs := [(0, .agg (By F 32).toArray), (1, .agg (SL n s).toArray), (2, .agg (By Y 32).toArray), (3, .slice A m c), (4, .agg (By k 32).toArray), (5, .pointer (some ⟨g5, 0, none⟩)), (6, .agg (By n 32).toArray), (7, .agg (By rr 32).toArray), (8, .agg (By s8 32).toArray)]) (by kernel_rfl) ((Below.refl _ _).drew) (fun _ _ h k => S_trans h k) (fun _ _ cs h hg => S_row h hg cs) (fun _ h => h.size) ?hD2 (.of rfl rfl rfl (fun w' => by_alloc w')) ?hk2 rfl rfl (some 8) rfl rfl rfl ?e2 ?f2 (by_info _) (By_sz _ _) (By_one32 _) ?h2
 case hD2 =>
  refine .s 20 rfl (Gives.l 22 (.tmp 7) g7 (fun w' h => h7.belowAll h) Tryz.underlying22 (by_info _)) ?_
  refine .s 21 rfl (Gives.l 49 (.tmp 5) g5 (fun w' h => h54.belowAll h) Tryz.underlying49 (sec_info _ _)) ?_
  refine .s 22 rfl (Gives.c (args := [.agg (SL n s).toArray]) rfl Tryz.func17 (fun w' h => HKY.out w' (hv4.belowAll h))) ?_
  refine .s 23 rfl (Gives.move (x := .tmp 1) rfl rfl) ?_
  refine .s 24 rfl (Gives.c (args := [.agg (By F 32).toArray, .agg (By Y 32).toArray, .slice A m c]) rfl Tryz.func27 (fun w' h => HCH.out w' (hv4.belowAll h) (hr4.belowAll h) (hp4.belowAll h))) ?_
  refine .s 25 rfl (Gives.fieldAt 49 (.tmp 5) 0 rfl _ _ rfl (fun w' => sf_n g5 w')) ?_
  refine .s 26 rfl (Gives.load_at 22 (.tmp 25) rfl ⟨g5, 0, none⟩ rfl (By n 32) _ (fun w' h => (h54.belowAll h).part 0 (By n 32) (SL_fst _ _)) Tryz.underlying22 rfl (by_len _)) ?_
  refine .s 27 rfl (Gives.l 22 (.tmp 6) g6 (fun w' h => h64.belowAll h) Tryz.underlying22 (by_info _)) ?_
  refine .s 28 rfl (Gives.c (args := [.agg (By k 32).toArray, .agg (By n 32).toArray, .agg (By rr 32).toArray]) rfl Tryz.func26 (fun w' h => HMA.out w' (hv4.belowAll h).q)) ?_
  exact .nil
 case hk2 => kernel_rfl
 case e2 => intro i1; rfl
 case f2 => intro i1; rfl
 case h2 =>
 intro g8 W5 hb hg8 h8
 simp only [Act.put, yA, yB, yC]
 have hz5 := hz4.belowAll hb
 have hw5 := hw4.trans (hb.mono hw4.size)
 have h75 := h7.belowAll hb
 clear hb hv4 hr4 hp4 hz4 hw4 h54 h64 h7
 have HZ := yH hz5
 have HW := yH hw5
 have H7 := yH h75
 have H8 := yH h8
 have hlt := hz5.lt
 clear hz5 hw5 h75 h8
 go_upto_region 5 with fail
 refine wp_region_any (by kernel_rfl) ?_
 change wpAny _ _ _ _ _ _ _ (World.drew _)
 refine wpAny_of_held (S := (fun w' : World => Only (fun k => k = w.heap.size + 1) W5 w')) _ _ _ _ ?_
 have hHeld := ((Only.refl (fun k => k = w.heap.size + 1) W5).drew)
 have hB0 : Below W5.heap.size W5 W5.drew := (Below.refl W5.heap.size W5).drew
 have hl : Ls [(0, 29), (1, 30)] := trivial
 repeat
  refine tkl hl (v := ?_) rfl rfl (by kernel_rfl) (fun _ _ _ h => h) (by rfl) ?_ hHeld ?_
  rotate_left
  ·(intro w' hSw; go_simp; try (with_reducible rfl))
  simp only [Act.put, yA, yB, yC]
  replace hl := hl.tl
 clear hl
 refine wpAnyH_ready (rs := [2]) (by kernel_rfl) (by simp) ?_
 refine AllReadyH.cons rfl (fun K hK => ?_) AllReadyH.nil
 rw [if_pos (by kernel_rfl)]
 refine wp_buildTwo (.tmp 29) (.tmp 30) rfl (some ⟨g7, 0, none⟩) (some ⟨g8, 0, none⟩) 32 32 32 32 rfl rfl ?_
 have hrow := Rd.lit W5.drew [.slice (some ⟨g7, 0, none⟩) 32 32, .slice (some ⟨g8, 0, none⟩) 32 32] #[.slice (some ⟨g7, 0, none⟩) 32 32, .slice (some ⟨g8, 0, none⟩) 32 32] 24 rfl 2 rfl
 refine hK.out _ _ (hHeld.alloc _) (fun hHeld => ?_)
 clear hK K
 have hB1 : Below W5.heap.size W5 (W5.drew.alloc (.cells #[.slice (some ⟨g7, 0, none⟩) 32 32, .slice (some ⟨g8, 0, none⟩) 32 32] 24)) := hB0.alloc hB0.size _
 have h7b := H7.out.belowAll hB1
 have h8b := H8.out.belowAll hB1
 have hz1 := HZ.out.belowAll hB1
 have hpp : Pars (W5.drew.alloc (.cells #[.slice (some ⟨g7, 0, none⟩) 32 32, .slice (some ⟨g8, 0, none⟩) 32 32] 24)) [.slice (some ⟨g7, 0, none⟩) 32 32, .slice (some ⟨g8, 0, none⟩) 32 32] [By F 32, By s8 32] :=
  .cons (fun u hu => List.all_eq_true.1 ((List.all_toArray ..).symm.trans (By_one32 F)) u hu) (Rd.row h7b 32 (By_length _ _)) (.cons (fun u hu => List.all_eq_true.1 ((List.all_toArray ..).symm.trans (By_one32 s8)) u hu) (Rd.row h8b 32 (By_length _ _)) (.nil _))
 have hfl : [By F 32, By s8 32].flatten = SL F s8 := by simp [SL]
 have hcall := catB _ [By F 32, By s8 32] _ 2 2 _ (hrow.mono (fun _ _ _ => trivial)) hpp (by decide) (by rw [hfl, SL_length]; decide) (by rw [hfl, SL_length]; decide)
 rw [hfl, SL_length] at hcall
 change Calls _ _ #[.slice (some ⟨W5.drew.heap.size, 0, none⟩) 2 2] _ _ at hcall
 clear h7b h8b hpp hrow
 generalize W5.drew.alloc (.cells #[.slice (some ⟨g7, 0, none⟩) 32 32, .slice (some ⟨g8, 0, none⟩) 32 32] 24) = w_a at *
 refine wpAnyH_ready (rs := [3]) (by kernel_rfl) (by simp) ?_
 refine AllReadyH.cons rfl (fun K hK => ?_) AllReadyH.nil
 rw [if_pos (by kernel_rfl)]
 go_simp
 refine hcall.mono ?_
 rintro e w_c ⟨v, rfl, hown, hb⟩
 obtain ⟨g, cap, rfl, _⟩ := hown.form (by decide)
 have hrg : w_c.rangeAt g 0 (SL F s8) := fun j u hu => by
  obtain ⟨ad, e1, _, _, hc⟩ := (Rd.of_own hown).2 (by decide)
  cases e1
  have := hc j u hu
  rwa [Addr.add_mid] at this
 have hz2 := hz1.belowAll hb
 have hB2 := hB1.trans (hb.mono hB1.size)
 clear hcall hown
 refine hK.out _ _ (hHeld.trans (Only.of_below hb _) (fun _ _ h => h)) (fun hHeld => ?_)
 clear hK K
 refine wpAnyH_take (i := 4) (v := .pointer (some ⟨g, 0, none⟩)) rfl (by kernel_rfl) (by kernel_rfl) (by kernel_rfl) (fun _ _ _ h => h) (Or.inl ⟨by rfl, ?_⟩) hHeld ?_
 ·(intro w' hSw; go_simp; rw [s2g]; rfl)
 change wpAnyH _ _ _ _ _ _ _ (Act.put _ (some 33) _) _
 simp only [Act.put, yA, yB, yC]
 refine wpAnyH_ready (rs := [5]) (by kernel_rfl) (by simp) ?_
 refine AllReadyH.cons rfl (fun K hK => ?_) AllReadyH.nil
 rw [if_pos (by kernel_rfl)]
 refine wp_load_mid 31 (.tmp 33) rfl g 0 rfl (SL F s8) _ hrg Tryz.underlying31 rfl (sig_len _ _) ?_
 refine hK.out _ _ hHeld (fun hHeld => ?_)
 clear hK K
 refine wpAnyH_ready (rs := [6]) (by kernel_rfl) (by simp) ?_
 refine AllReadyH.cons rfl (fun K hK => ?_) AllReadyH.nil
 rw [if_pos (by kernel_rfl)]
 refine wp_store_row 31 (.tmp 4) (.tmp 34) rfl (w.heap.size + 1) (SL F s8).toArray rfl rfl 31 _ hz2 (sig_info _ _) (SL_sz _ _ _ _) (SL_one _ _) ?_
 have hz3 := hz2.setRow (SL F s8)
 have hw3 := below_setRow (g := w.heap.size + 1) (HW.out.trans (hB2.mono HW.out.size)) (by omega) (SL F s8).toArray
 refine hK.out _ _ (hHeld.setRow (.inl rfl)) (fun hHeld => ?_)
 clear hK K
 refine wpAnyH_done (by kernel_rfl) ?_ _
 have HG := yH hz3
 have HB := yH hw3
 clear hz3 hw3
 go_wp2_with fail
 refine bodyPost_ret (results_cell_row (by rfl) _ _ (w.heap.size + 1) _ _ _ _ (by rfl) HG.out Tryz.underlying31 rfl (sig_info _ _)) rfl ?_
 exact ⟨rfl, HB.out⟩
end Go.Proofs.YtnpjecdodhkplaaGreatDoor
