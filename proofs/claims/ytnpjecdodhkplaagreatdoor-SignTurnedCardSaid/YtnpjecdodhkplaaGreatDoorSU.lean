import Derived.Test.YtnpjecdodhkplaaGreatDoorSS
import Derived.Test.YtnpjecdodhkplaaGreatDoorSM
namespace Go.Proofs.YtnpjecdodhkplaaGreatDoor
set_option maxRecDepth 100000
set_option linter.unusedSimpArgs false
set_option linter.unusedVariables false
open Go.RowKit
open Lib renaming hid → yH
theorem q256 : (256 : Nat) ^ 32 = 2 ^ 256 := by rw [pow256]
theorem qq_qN : qq = qN := rfl
theorem mu_told {n : Nat} (hn : n < 256 ^ 32) : ptN (muP baP n) = told (sm n bA) := is_told (is_mu baP_ok (q256 ▸ hn) is_ba)
theorem vf_back (N : Nat) (l : List Nat) : vfB (pbN N) (sgF N l) (sgS N l) l = true := by
 have hA := on_sm on_bA (scN N)
 have hn : scN N < 256 ^ 32 := clp_lt _
 have hr : rrN N l < 256 ^ 32 := hN_256 _
 have hk : sgK N l < 256 ^ 32 := hN_256 _
 have hs : sgS N l < qq := Nat.mod_lt _ qq_pos
 have hs2 : sgS N l < 2 ^ 256 := Nat.lt_trans hs (by decide)
 have ek : pbN N = told (sm (scN N) bA) := mu_told hn
 have ef : sgF N l = told (sm (rrN N l) bA) := mu_told hr
 have hok : decOk (pbN N) = true := by rw [ek]; exact dec_told hA
 have hd : dcA (pbN N) = sm (scN N) bA := by rw [ek]; exact dcA_told hA
 have hi : Is (decPt (pbN N)) (sm (scN N) bA) := hd ▸ is_dec hok
 have hg := is_ng (decPt_ok (pbN N)) hi
 have hb := is_bo (ngP_ok (decPt_ok (pbN N))) (q256 ▸ hk) hs2 hg
 have es : sgS N l = (sgK N l * scN N + rrN N l) % qN := by rw [sgS, qq_qN]
 rw [es, sig_back, ← es] at hb
 have ep : ptN (boP (ngP (decPt (pbN N))) (sgK N l) (sgS N l)) = sgF N l := by rw [is_told hb, ef]
 rw [vfB, hok, Bool.true_and, decide_eq_true hs, Bool.true_and]
 exact decide_eq_true ep
def sd0 : Nat := 43647624700350065415986689228612485845309737963740022737531181108678917972381
def sn0 : Nat := 36144925721603087658594284515452164870581325872720374094707712194495455132720
def st0 : Nat := 64737059252623978071104362028976657683353137450516199718874906053307798278043
def rr0 : Nat := 2015312323900227545039973048451112962192803170366412514267238242679089760755
def ky0 : Nat := 11903303657706407974989296177215005343713679411332034699907763981919547054807
def sf0 : Nat := 38448863731492799660668882834560725606410712239157980760146247592118262650597
theorem sc_0 : scN sd0 = sn0 := by decide +kernel
theorem st_0 : stN sd0 = st0 := by decide +kernel
theorem rr_0 : rrN sd0 [] = rr0 := by rw [rrN, st_0]; decide +kernel
theorem run_k : runM sn0 256 = cdN 6581572555036800172764337085812239594179264202139226964446942944365992767499 30878084806512139575274829327858655156988147427445549336846122988960790641757 39699777988574501889031677798167199496582860929062402994258420242679007823896 := by decide +kernel
theorem run_f : runM rr0 256 = cdN 3876938703987673511748572381744217517896274428325538178470092449276844684401 41802111807141844655701696060695186459625519683712011743321593086366712608374 13362322158373172520930549788337188037291931083263068464278585585754221629965 := by decide +kernel
theorem pb_0 : pbN sd0 = ky0 := by
 have h := told_of (M := sn0) (zi := 21573726170139914248844029614694508532868124802840410696850497638231070438260) (by decide) run_k (by decide) (by decide) (by decide +kernel)
 rw [pbN, mu_told (n := scN sd0) (clp_lt _), sc_0, h]
 decide +kernel
theorem sf_0 : sgF sd0 [] = sf0 := by
 have h := told_of (M := rr0) (zi := 45856353465929452812751027163275165998269991440413079329594993155331490458724) (by decide) run_f (by decide) (by decide) (by decide +kernel)
 rw [sgF, mu_told (n := rrN sd0 []) (hN_256 _), rr_0, h]
 decide +kernel
theorem aw_1 : byt (pbN sd0) 0 = 215 := by rw [pb_0]; decide +kernel
theorem aw_2 : byt (pbN sd0) 31 = 26 := by rw [pb_0]; decide +kernel
theorem aw_3 : byt (sgF sd0 []) 0 = 229 := by rw [sf_0]; decide +kernel
theorem aw_4 : byt (sgS sd0 []) 31 = 11 := by
 rw [sgS, sgK, sf_0, pb_0, sc_0, rr_0]
 decide +kernel
theorem wpList_buildc {P : Program} {ops : Array Oper} {rest : List Oper} {o : Oper} {a : Act} {w : World} {Q : Exit → Act → World → Prop} (hg : o.guard = none) (t : TypeId) (parts : Array (Nat × Operand)) (ho : o.op = .build t parts) (c : Array Value)
  (hb : P.built t (parts.map fun (i, x) => (i, a.eval x)).toList = some c) (h : wpList P ops Q rest (a.put o.dst (.agg c)) w) : wpList P ops Q (o :: rest) a w :=
 wpList_build hg t parts ho (by rw [hb]; rfl) (by rw [hb]; exact h)
theorem sgF_lt (N : Nat) (l : List Nat) : sgF N l < 256 ^ 32 := ptN_lt _
theorem sgS_lt (N : Nat) (l : List Nat) : sgS N l < 256 ^ 32 := Nat.lt_trans (Nat.mod_lt _ qq_pos) (by decide)
theorem pbN_lt (N : Nat) : pbN N < 256 ^ 32 := ptN_lt _
set_option maxHeartbeats 6400000 in
theorem aw_any (w : World) (hw : Sv w) : Calls Tryz.prog 7 #[] w fun e w' => e = .returned (.bool true) ∧ Below w.heap.size w w' := by
 have h1 := Row.new w (By 0 32) 23
 have hb1 := below_setRow (g := w.heap.size) (Below.alloc1 w (.cells (By 0 32).toArray 23)) (Nat.le_refl _) (By sd0 32).toArray
 have H1 := yH h1
 have h1r := h1.setRow (By sd0 32)
 have HV := yH (hw.belowAll hb1)
 have HW := yH hb1
 have H1R := yH h1r
 clear h1 hb1 h1r hw
 have hpb := fun w hw => pb_any sd0 w hw
 have hsg := fun w hw => sg_any sd0 (vs := []) (ps := []) (A := none) (m := 0) (c := 0) w hw (Rd.nil _ _ _) (Parts.nil _ _) (by decide) (by decide)
 have hvf := fun w hw => vf_any (pbN sd0) (sgF sd0 []) (sgS sd0 []) (sgF_lt _ _) (sgS_lt _ _) (vs := []) (ps := []) (A := none) (m := 0) (c := 0) w hw (Rd.nil _ _ _) (Parts.nil _ _) (by decide) (by decide)
 change ∀ w, Sv w → Calls _ _ _ w (fun e w' => e = .returned (.agg (SL (sgF sd0 []) (sgS sd0 [])).toArray) ∧ _) at hsg
 change ∀ w, Sv w → Calls _ _ _ w (fun e w' => e = .returned (.bool (vfB (pbN sd0) (sgF sd0 []) (sgS sd0 []) [])) ∧ _) at hvf
 rw [vf_back] at hvf
 have a1 := aw_1
 have a2 := aw_2
 have a3 := aw_3
 have a4 := aw_4
 generalize pbN sd0 = Y at *
 generalize sgF sd0 [] = F at *
 generalize sgS sd0 [] = S at *
 have HPB := yH hpb
 have HSG := yH hsg
 have HVF := yH hvf
 have A1 := yH a1
 have A2 := yH a2
 have A3 := yH a3
 have A4 := yH a4
 clear hpb hsg hvf a1 a2 a3 a4
 go_enter Tryz.func7, Tryz.ntmps7
 go_upto_region 2 with (first
  | (refine wpList_buildc rfl 23 _ rfl (By sd0 32).toArray (by kernel_rfl) ?_)
  | (refine wpList_store_row rfl 23 (.tmp 1) (.tmp 4) rfl w.heap.size _ rfl rfl 23 _ H1.out (seed_info _) (By_sz _ _) (By_one32 _) ?_))
 change Code.wp _ _ _ _ ((w.alloc (.cells (By 0 32).toArray 23)).setRow w.heap.size (By sd0 32).toArray)
 generalize (w.alloc (.cells (By 0 32).toArray 23)).setRow w.heap.size (By sd0 32).toArray = W1 at *
 go_wp2_with (refine wpList_load_row rfl 23 (.tmp 1) rfl w.heap.size rfl 23 _ (0, 0) _ H1R.out Tryz.underlying23 rfl (seed_info _) ?_)
 refine (HPB.out _ HV.out).mono ?_
 rintro e w2 ⟨rfl, hb⟩
 have h2 := Row.new w2 (By 0 32) 27
 have hb2 := below_setRow (g := w2.heap.size) (hb.alloc hb.size (.cells (By 0 32).toArray 27)) hb.size (By Y 32).toArray
 have HK := yH h2
 have HKR := yH (h2.setRow (By Y 32))
 have HV2 := yH (HV.out.belowAll hb2)
 have HW2 := yH (HW.out.trans (hb2.mono HW.out.size))
 have H1S := yH (H1R.out.belowAll hb2)
 clear hb h2 hb2 HV HW H1R H1 HPB
 go_upto_region 3 with (refine wpList_store_row rfl 27 (.tmp 2) (.tmp 6) rfl w2.heap.size _ rfl rfl 27 _ HK.out (key_info _) (By_sz _ _) (By_one32 _) ?_)
 have hv := HV2.out
 have hw := HW2.out
 have hs := H1S.out
 have hk := HKR.out
 clear HV2 HW2 H1S HKR HK
 change Code.wp _ _ _ _ ((w2.alloc (.cells (By 0 32).toArray 27)).setRow w2.heap.size (By Y 32).toArray)
 generalize (w2.alloc (.cells (By 0 32).toArray 27)).setRow w2.heap.size (By Y 32).toArray = W2 at *
 generalize w2.heap.size = g2 at *
 have HV := yH hv
 have HW := yH hw
 have HS := yH hs
 have HK := yH hk
 clear hv hw hs hk
 go_wp2_with (refine wpList_load_row rfl 23 (.tmp 1) rfl w.heap.size rfl 23 _ (0, 0) _ HS.out Tryz.underlying23 rfl (seed_info _) ?_)
 refine (HSG.out _ HV.out).mono ?_
 rintro e w3 ⟨rfl, hb⟩
 have h3 := Row.new w3 (SL 0 0) 31
 have hb2 := below_setRow (g := w3.heap.size) (hb.alloc hb.size (.cells (SL 0 0).toArray 31)) hb.size (SL F S).toArray
 have HG := yH h3
 have HGR := yH (h3.setRow (SL F S))
 have HV2 := yH (HV.out.belowAll hb2)
 have HW2 := yH (HW.out.trans (hb2.mono HW.out.size))
 have HK2 := yH (HK.out.belowAll hb2)
 clear hb h3 hb2 HV HW HS HK HSG
 go_upto_region 4 with (refine wpList_store_row rfl 31 (.tmp 3) (.tmp 8) rfl w3.heap.size _ rfl rfl 31 _ HG.out (sig_info _ _) (SL_sz _ _ _ _) (SL_one _ _) ?_)
 have hv := HV2.out
 have hw := HW2.out
 have hk := HK2.out
 have hg := HGR.out
 clear HV2 HW2 HK2 HGR HG
 change Code.wp _ _ _ _ ((w3.alloc (.cells (SL 0 0).toArray 31)).setRow w3.heap.size (SL F S).toArray)
 generalize (w3.alloc (.cells (SL 0 0).toArray 31)).setRow w3.heap.size (SL F S).toArray = W3 at *
 generalize w3.heap.size = g3 at *
 have c1 : W3.cell? ⟨g2, 0, none⟩ = some (.int .u8 215) := (hk.cell (By_get Y 32 (k := 0) (by decide))).trans (by rw [A1.out]; rfl)
 have c2 : W3.cell? ⟨g2, 31, none⟩ = some (.int .u8 26) := (hk.cell (By_get Y 32 (k := 31) (by decide))).trans (by rw [A2.out]; rfl)
 have c3 : W3.cell? ⟨g3, 0, none⟩ = some (.int .u8 229) := (hg.cell (SL_fst F S 0 _ (By_get F 32 (k := 0) (by decide)))).trans (by rw [A3.out]; rfl)
 have c4 : W3.cell? ⟨g3, 63, none⟩ = some (.int .u8 11) := (hg.cell (SL_snd F S 31 _ (By_get S 32 (k := 31) (by decide)))).trans (by rw [A4.out]; rfl)
 have HV := yH hv
 have HW := yH hw
 have HK := yH hk
 have HG := yH hg
 clear hv hw hk hg A1 A2 A3 A4
 go_wp2_with (first
  | (refine wpList_load_guarded (by kernel_rfl) 27 (.tmp 2) rfl g2 rfl 27 _ HK.out Tryz.underlying27 rfl (key_info _) ?_)
  | (refine wpList_load_guarded (by kernel_rfl) 31 (.tmp 3) rfl g3 rfl 31 _ HG.out Tryz.underlying31 rfl (sig_info _ _) ?_))
 refine (HVF.out _ HV.out).mono ?_
 rintro e w4 ⟨rfl, hb⟩
 have HW4 := yH (HW.out.trans (hb.mono HW.out.size))
 clear hb
 go_wp2_with fail
 go_ret
 exact ⟨rfl, HW4.out⟩
end Go.Proofs.YtnpjecdodhkplaaGreatDoor
