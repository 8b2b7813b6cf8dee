/- sgn/Sl -/
import Derived.Test.YtmfibncllbgeoaaDoorSU
import Derived.Test.YtmfibncllbgeoaaDoorSA
import Derived.Test.YtmfibncllbgeoaaDoorSF
import Derived.Test.YtmfibncllbgeoaaDoorSG
import Derived.Test.YtmfibncllbgeoaaDoorSH
import Derived.Test.YtmfibncllbgeoaaDoorSC
import Derived.Test.YtmfibncllbgeoaaDoorSE
import Derived.Test.YtmfibncllbgeoaaDoorSJ
import Derived.Test.YtmfibncllbgeoaaDoorSL
import Derived.Test.YtmfibncllbgeoaaDoorSO
import Derived.Test.YtmfibncllbgeoaaDoorSD
import Derived.Test.YtmfibncllbgeoaaDoorST
import Derived.Test.YtmfibncllbgeoaaDoorSN
import Derived.Test.YtmfibncllbgeoaaDoorSP
import Derived.Test.YtmfibncllbgeoaaDoorSQ
import Derived.Test.YtmfibncllbgeoaaDoorSR
import Derived.Test.YtmfibncllbgeoaaDoorSS
namespace Go.Proofs.YtmfibncllbgeoaaDoor
section
set_option maxRecDepth 100000
set_option linter.unusedSimpArgs false
set_option linter.unusedVariables false
open Go.RowKit
theorem SL_nb (n s : Nat) : SL n s = (nb n 32 ++ nb s 32).map fun x => .int .u8 ((x : Nat) : Int) := by rw [SL, By_nb, By_nb, List.map_append]
theorem sig_eq (F S : Nat) (w : World) : (binOp .eql 30 (.agg (SL F S).toArray) (.agg (SL F S).toArray)).run Tryd.prog w = .ok (.bool true) w := by
  have hi : Tryd.prog.info? 5 = some (Tryd.prog.info? 5).get! := by kernel_rfl
  have h := run_eql_nats (P := Tryd.prog) w (t := 30) (e := 5) (n := 64) (k := .u8) Tryd.underlying30 hi Tryd.underlying5 (by kernel_rfl) (nb F 32 ++ nb S 32) (nb F 32 ++ nb S 32) (by simp [nb_len]) (by simp [nb_len])
  rw [SL_nb, h]
  simp
theorem sguard : Tryd.prog.eqGuardType Tryd.prog.depth 30 = false := by kernel_rfl
theorem exec_eq {a : Act} {o : Oper} {F S : Nat} {T2 : TypeId} (x y : Operand) (ho : o.op = .binOp .eql 30 x y T2) (hx : a.eval x = .agg (SL F S).toArray) (hy : a.eval y = .agg (SL F S).toArray) (w : World) : (execOp a.eval o).run Tryd.prog w = .ok (.value (.bool true)) w := by
  unfold execOp
  simp only [ho, Sem.run_bind, Sem.run_pure, Result.andThen_ok, hx, hy, run_eqGuard_agg (P := Tryd.prog) w .eql 30 x y (SL F S).toArray (SL F S).toArray sguard, sig_eq]
theorem gr_any (A : Option Addr) (n c : Nat) (w : World) : Calls Tryd.prog 5 #[.slice A n c] w fun e w' => e = .returned (.bool (decide (300 < n))) ∧ w' = w := by
  by_cases h : (n : Int) > 300
  · have h2 : 300 < n := by omega
    rw [decide_eq_true h2]
    go_enter Tryd.func5, Tryd.ntmps5
    go_wp2
    go_ret
    first | exact ⟨rfl, rfl⟩ | (simp; omega)
  · have h2 : ¬ 300 < n := by omega
    rw [decide_eq_false h2]
    go_enter Tryd.func5, Tryd.ntmps5
    go_wp2
    go_ret
    first | exact ⟨rfl, rfl⟩ | (simp; omega)
theorem vf_1 (N : Nat) (l : List Nat) {vs : List Value} {ps : List (List Nat)} {A : Option Addr} {m c : Nat} (w : World) (hw : Sv w) (r : Rd w (fun _ => True) A m vs) (p : Parts w (fun _ => True) vs ps) (hm : m ≤ 1000) (hl : ps.flatten = l) (hn : l.length < 1000000) :
    Calls Tryd.prog 9 #[.agg (By (pbN N) 32).toArray, .agg (SL (sgF N l) (sgS N l)).toArray, .slice A m c] w fun e w' => e = .returned (.bool true) ∧ Below w.heap.size w w' := by
  have h := vf_any (pbN N) (sgF N l) (sgS N l) (sgF_lt _ _) (sgS_lt _ _) (c := c) w hw r p hm (hl ▸ hn)
  rw [hl, vf_back] at h
  exact h
theorem sg_1 (N : Nat) (l : List Nat) {vs : List Value} {ps : List (List Nat)} {A : Option Addr} {m c : Nat} (w : World) (hw : Sv w) (r : Rd w (fun _ => True) A m vs) (p : Parts w (fun _ => True) vs ps) (hm : m ≤ 1000) (hl : ps.flatten = l) (hn : l.length < 1000000) :
    Calls Tryd.prog 8 #[.agg (By N 32).toArray, .slice A m c] w fun e w' => e = .returned (.agg (SL (sgF N l) (sgS N l)).toArray) ∧ Below w.heap.size w w' := by
  have h := sg_any N (c := c) w hw r p hm (hl ▸ hn)
  rw [hl] at h
  exact h
theorem kn_1 (N : Nat) (w : World) (hw : Sv w) :
    Calls Tryd.prog 10 #[.agg (By (pbN N) 32).toArray] w fun e w' => e = .returned (.bool true) ∧ Below w.heap.size w w' := by
  have h := kn_any (pbN N) w hw
  have hok : decOk (pbN N) = true := by
    have hb := vf_back N []
    rw [vfB, Bool.and_eq_true] at hb
    exact hb.1
  rw [hok] at h
  exact h
/-- A row of one slice, of two. -/
theorem one_row {W : World} {A : Option Addr} {n c : Nat} : Rd (W.alloc (.cells #[.slice A n c] 24)) (fun _ => True) (some ⟨W.heap.size, 0, none⟩) 1 [.slice A n c] :=
  (Rd.lit W [.slice A n c] #[.slice A n c] 24 rfl 1 rfl).mono (fun _ _ _ => trivial)
theorem two_row {W : World} {A B : Option Addr} {n c m d : Nat} : Rd (W.alloc (.cells #[.slice A n c, .slice B m d] 24)) (fun _ => True) (some ⟨W.heap.size, 0, none⟩) 2 [.slice A n c, .slice B m d] :=
  (Rd.lit W [.slice A n c, .slice B m d] #[.slice A n c, .slice B m d] 24 rfl 2 rfl).mono (fun _ _ _ => trivial)
theorem seed_len (N : Nat) : (Tryd.prog.info? 23).map (·.size) = some (By N 32).length := by rw [By_length]; kernel_rfl
def N8 (l : List Nat) : List Value := l.map fun x => .int .u8 ((x : Nat) : Int)
theorem N8_one (l : List Nat) : ∀ u ∈ N8 l, u.oneCell' = true := by
  intro u hu
  obtain ⟨x, _, rfl⟩ := List.mem_map.1 hu
  rfl
theorem N8_len (l : List Nat) : (N8 l).length = l.length := by simp [N8]
set_option maxHeartbeats 12800000 in
theorem back_law (N : Nat) (la lb : List Nat) {A1 A2 : Option Addr} {n1 c1 n2 c2 : Nat} (w : World) (hw : Sv w) (ha : ∀ x ∈ la, x < 256) (hb : ∀ x ∈ lb, x < 256) (ra : Rd w (fun _ => True) A1 n1 (N8 la)) (rb : Rd w (fun _ => True) A2 n2 (N8 lb)) :
    Calls Tryd.prog 3 #[.agg (By N 32).toArray, .slice A1 n1 c1, .slice A2 n2 c2] w fun e w' => e = .returned (.bool true) ∧ Below w.heap.size w w' := by
  have hs := Row.new w (By N 32) 23
  have hW := Below.alloc1 w (.cells (By N 32).toArray 23)
  have HV := Lib.hid (hw.belowAll hW)
  have HW := Lib.hid hW
  have HS := Lib.hid hs
  have HRA := Lib.hid (ra.belowAll hW)
  have HRB := Lib.hid (rb.belowAll hW)
  have HA := Lib.hid ha
  have HB := Lib.hid hb
  have hl1 : la.length = n1 := by have := ra.1; rwa [N8_len] at this
  have hl2 : lb.length = n2 := by have := rb.1; rwa [N8_len] at this
  have HL1 := Lib.hid hl1
  have HL2 := Lib.hid hl2
  clear hw ha hb ra rb hs hW hl1 hl2
  go_enter Tryd.func3, Tryd.ntmps3
  go_wp2_with fail
  generalize w.alloc (.cells (By N 32).toArray 23) = W at *
  by_cases hg1 : 300 < n1
  · have hgr := gr_any A1 n1 c1 W
    rw [decide_eq_true hg1] at hgr
    refine hgr.mono ?_
    rintro e w1 ⟨rfl, hww⟩
    subst hww
    go_wp2_with fail
    refine (aw_any _ HV.out).mono ?_
    rintro e w2 ⟨rfl, hb⟩
    have HW2 := Lib.hid (HW.out.trans (hb.mono HW.out.size))
    clear hb
    go_wp2_with fail
    go_ret
    exact ⟨rfl, HW2.out⟩
  · have hgr := gr_any A1 n1 c1 W
    rw [decide_eq_false hg1] at hgr
    refine hgr.mono ?_
    rintro e w1 ⟨rfl, hww⟩
    subst hww
    go_wp2_with fail
    by_cases hg2 : 300 < n2
    · have hgr := gr_any A2 n2 c2 w1
      rw [decide_eq_true hg2] at hgr
      refine hgr.mono ?_
      rintro e w2 ⟨rfl, hww⟩
      subst hww
      go_wp2_with fail
      refine (aw_any _ HV.out).mono ?_
      rintro e w3 ⟨rfl, hb⟩
      have HW2 := Lib.hid (HW.out.trans (hb.mono HW.out.size))
      clear hb
      go_wp2_with fail
      go_ret
      exact ⟨rfl, HW2.out⟩
    · have hgr := gr_any A2 n2 c2 w1
      rw [decide_eq_false hg2] at hgr
      refine hgr.mono ?_
      rintro e W ⟨rfl, hww⟩
      subst hww
      go_wp2_with (refine wpList_load_row rfl 23 (.tmp 3) rfl w.heap.size rfl 23 _ (0, 0) _ HS.out Tryd.underlying23 rfl (seed_info _) ?_)
      obtain ⟨l, hl⟩ : ∃ l, l = la ++ lb := ⟨_, rfl⟩
      have hln : l.length = n1 + n2 := by rw [hl, List.length_append, HL1.out, HL2.out]
      have hlx : ∀ x ∈ l, x < 256 := by
        intro x hx
        rw [hl] at hx
        rcases List.mem_append.1 hx with h | h
        · exact HA.out x h
        · exact HB.out x h
      have hl6 : l.length < 1000000 := by omega
      have hpb := fun w hw => pb_any N w hw
      have hsg := fun w hw vs ps A m c r p hm hl => sg_1 N l (vs := vs) (ps := ps) (A := A) (m := m) (c := c) w hw r p hm hl hl6
      have hvf := fun w hw vs ps A m c r p hm hl => vf_1 N l (vs := vs) (ps := ps) (A := A) (m := m) (c := c) w hw r p hm hl hl6
      have hkn := fun w hw => kn_1 N w hw
      generalize pbN N = Y at *
      generalize sgF N l = F at *
      generalize sgS N l = S at *
      have HL := Lib.hid hl
      have HLN := Lib.hid hln
      have HLX := Lib.hid hlx
      have HPB := Lib.hid hpb
      have HSG := Lib.hid hsg
      have HVF := Lib.hid hvf
      have HKN := Lib.hid hkn
      clear hl hln hlx hl6 hpb hsg hvf hkn
      refine (HPB.out _ HV.out).mono ?_
      rintro e w2 ⟨rfl, hb⟩
      have h7 := Row.new w2 (By 0 32) 27
      have hb2 := below_setRow (g := w2.heap.size) (hb.alloc hb.size (.cells (By 0 32).toArray 27)) hb.size (By Y 32).toArray
      have H7 := Lib.hid h7
      have H7R := Lib.hid (h7.setRow (By Y 32))
      have HV1 := Lib.hid (HV.out.belowAll hb2)
      have HW1 := Lib.hid (HW.out.trans (hb2.mono HW.out.size))
      have HS1 := Lib.hid (HS.out.belowAll hb2)
      have HRA1 := Lib.hid (HRA.out.belowAll hb2)
      have HRB1 := Lib.hid (HRB.out.belowAll hb2)
      clear hb h7 hb2 HV HW HS HRA HRB HPB
      go_upto_region 4 with (refine wpList_store_row rfl 27 (.tmp 7) (.tmp 18) rfl w2.heap.size _ rfl rfl 27 _ H7.out (key_info _) (By_sz _ _) (By_one32 _) ?_)
      have hv := HV1.out
      have hw := HW1.out
      have hs := HS1.out
      have ha := HRA1.out
      have hb := HRB1.out
      have h7 := H7R.out
      clear HV1 HW1 HS1 HRA1 HRB1 H7R H7
      change Code.wp _ _ _ _ ((w2.alloc (.cells (By 0 32).toArray 27)).setRow w2.heap.size (By Y 32).toArray)
      generalize (w2.alloc (.cells (By 0 32).toArray 27)).setRow w2.heap.size (By Y 32).toArray = W2 at *
      generalize w2.heap.size = g7 at *
      -- the two parts are signed
      have hB := Below.alloc1 W2 (.cells #[.slice A1 n1 c1, .slice A2 n2 c2] 24)
      have hpp := (Parts.one (c := c1) HA.out (ha.belowAll hB)).append (Parts.one (c := c2) HB.out (hb.belowAll hB))
      have hcall := HSG.out _ (hv.belowAll hB) _ _ _ 2 2 two_row hpp (by decide) (by rw [HL.out]; simp)
      have HC := Lib.hid hcall
      have HV := Lib.hid (hv.belowAll hB)
      have HW := Lib.hid (hw.trans (hB.mono hw.size))
      have HS := Lib.hid (hs.belowAll hB)
      have HSL := Lib.hid hs
      have HRA := Lib.hid (ha.belowAll hB)
      have HRB := Lib.hid (hb.belowAll hB)
      have H7 := Lib.hid (h7.belowAll hB)
      clear hv hw hs ha hb h7 hB hpp hcall
      go_wp2_with (refine wpList_load_row rfl 23 (.tmp 3) rfl w.heap.size rfl 23 _ (0, 0) _ HSL.out Tryd.underlying23 rfl (seed_info _) ?_)
      refine HC.out.mono ?_
      rintro e w3 ⟨rfl, hb⟩
      have h8 := Row.new w3 (SL 0 0) 30
      have hb2 := below_setRow (g := w3.heap.size) (hb.alloc hb.size (.cells (SL 0 0).toArray 30)) hb.size (SL F S).toArray
      have H8 := Lib.hid h8
      have H8R := Lib.hid (h8.setRow (SL F S))
      have HV1 := Lib.hid (HV.out.belowAll hb2)
      have HW1 := Lib.hid (HW.out.trans (hb2.mono HW.out.size))
      have HS1 := Lib.hid (HS.out.belowAll hb2)
      have HRA1 := Lib.hid (HRA.out.belowAll hb2)
      have HRB1 := Lib.hid (HRB.out.belowAll hb2)
      have H71 := Lib.hid (H7.out.belowAll hb2)
      clear hb h8 hb2 HV HW HS HRA HRB H7 HC HSL
      go_upto_region 5 with (refine wpList_store_row rfl 30 (.tmp 8) (.tmp 23) rfl w3.heap.size _ rfl rfl 30 _ H8.out (sig_info _ _) (SL_sz _ _ _ _) (SL_one _ _) ?_)
      have hv := HV1.out
      have hw := HW1.out
      have hs := HS1.out
      have ha := HRA1.out
      have hb := HRB1.out
      have h7 := H71.out
      have h8 := H8R.out
      clear HV1 HW1 HS1 HRA1 HRB1 H71 H8R H8
      change Code.wp _ _ _ _ ((w3.alloc (.cells (SL 0 0).toArray 30)).setRow w3.heap.size (SL F S).toArray)
      generalize (w3.alloc (.cells (SL 0 0).toArray 30)).setRow w3.heap.size (SL F S).toArray = W3 at *
      generalize w3.heap.size = g8 at *
      -- all of it, one behind the other
      have hi : Tryd.prog.info? 5 = some (Tryd.prog.info? 5).get! := by kernel_rfl
      have hz : (Tryd.prog.info? 5).get!.zero = some (.int .u8 0) := by kernel_rfl
      have HI := Lib.hid hi
      have HZ := Lib.hid hz
      have hB := Below.alloc1 W3 (.cells #[] 5)
      have hown : (W3.alloc (.cells #[] 5)).ownsRow W3.heap.size 5 1 (.slice (some ⟨W3.heap.size, 0, none⟩) 0 0) 0 [] := World.ownsRow_made W3 #[] 0 (Nat.le_refl _) (by unfold maxLen; omega) rfl
      have HO := Lib.hid hown
      have HV := Lib.hid hv
      have HW := Lib.hid hw
      have HS := Lib.hid hs
      have HRA := Lib.hid ha
      have HRB := Lib.hid hb
      have H7 := Lib.hid h7
      have H8 := Lib.hid h8
      have HBB := Lib.hid hB
      have HRA5 := Lib.hid (ha.belowAll hB)
      clear hi hz hB hown hv hw hs ha hb h7 h8
      go_wp2_with (at_builtin; refine wpList_append_rd _ rfl (.tmp 24) (.tmp 25) 24 rfl W3.heap.size 5 _ _ 1 Tryd.underlying24 HI.out HZ.out (by kernel_rfl) (by kernel_rfl) (by rfl) _ 0 [] rfl HO.out (fun _ => True) A1 n1 c1 (N8 la) rfl HRA5.out (N8_one la) ?c1 ?c2 ?c3 ?_)
      case c1 => unfold maxLen; omega
      case c2 => omega
      case c3 => exact HBB.out.size
      intro v1 w4 hown1 hgr1 _
      have hb4 : Below W3.heap.size W3 w4 := HBB.out.grown hgr1 HBB.out.size (fun q hq => (HO.out.lt q hq).1)
      try rw [List.nil_append, Nat.zero_add] at hown1
      obtain ⟨A4, c4, rfl⟩ := own_slice hown1
      have HO1 := Lib.hid hown1
      have HB4 := Lib.hid hb4
      have HRB6 := Lib.hid (HRB.out.belowAll hb4)
      clear hown1 hgr1 hb4 HO HBB HRA5
      go_wp2_with (at_builtin; refine wpList_append_rd _ rfl (.tmp 26) (.tmp 27) 24 rfl W3.heap.size 5 _ _ 1 Tryd.underlying24 HI.out HZ.out (by kernel_rfl) (by kernel_rfl) (by rfl) _ n1 (N8 la) rfl HO1.out (fun _ => True) A2 n2 c2 (N8 lb) rfl HRB6.out (N8_one lb) ?d1 ?d2 ?d3 ?_)
      case d1 => unfold maxLen; omega
      case d2 => omega
      case d3 => exact HB4.out.size
      intro v2 w5 hown2 hgr2 _
      have hb5 : Below W3.heap.size W3 w5 := HB4.out.grown hgr2 HB4.out.size (fun q hq => (HO1.out.lt q hq).1)
      obtain ⟨A5, c5, rfl⟩ := own_slice hown2
      have hall : Rd w5 (fun _ => True) A5 (n1 + n2) (N8 l) := by
        have h := (Rd.of_own hown2).mono (G := fun _ => True) (fun _ _ _ => trivial)
        rw [HL.out]
        unfold N8
        rw [List.map_append]
        exact h
      have HALL := Lib.hid hall
      have HV5 := Lib.hid (HV.out.belowAll hb5)
      have HW5 := Lib.hid (HW.out.trans (hb5.mono HW.out.size))
      have HS5 := Lib.hid (HS.out.belowAll hb5)
      have HRA5 := Lib.hid (HRA.out.belowAll hb5)
      have HRB5 := Lib.hid (HRB.out.belowAll hb5)
      have H75 := Lib.hid (H7.out.belowAll hb5)
      have H85 := Lib.hid (H8.out.belowAll hb5)
      clear hown2 hgr2 hb5 hall HO1 HB4 HRB6 HV HW HS HRA HRB H7 H8 HI HZ
      go_upto_region 6 with fail
      refine wp_region_any (by kernel_rfl) ?_
      change wpAny _ _ _ _ _ _ _ (World.drew _)
      refine wpAny_of_held (S := (fun w' : World => Below w5.heap.size w5 w')) _ _ _ _ ?_
      have hHeld := ((Below.refl w5.heap.size w5).drew)
      refine wpAnyH_take (i := 0) (v := .agg (By Y 32).toArray) rfl (by kernel_rfl) (by kernel_rfl) (by kernel_rfl) (fun _ _ _ h => h) (yieldsIf_load_mid (by rfl) 27 (.tmp 7) rfl g7 0 rfl (By Y 32) _ (fun w' hSw => (H75.out.belowAll hSw).range) Tryd.underlying27 rfl (key_len _)) hHeld ?_
      change wpAnyH _ _ _ _ _ _ _ (Act.put _ (some 29) _) _
      simp only [Act.put, List.setIfInBounds_toArray, List.set_cons_zero, List.set_cons_succ]
      refine wpAnyH_take (i := 1) (v := .agg (SL F S).toArray) rfl (by kernel_rfl) (by kernel_rfl) (by kernel_rfl) (fun _ _ _ h => h) (yieldsIf_load_mid (by rfl) 30 (.tmp 8) rfl g8 0 rfl (SL F S) _ (fun w' hSw => (H85.out.belowAll hSw).range) Tryd.underlying30 rfl (sig_len _ _)) hHeld ?_
      change wpAnyH _ _ _ _ _ _ _ (Act.put _ (some 30) _) _
      simp only [Act.put, List.setIfInBounds_toArray, List.set_cons_zero, List.set_cons_succ]
      refine wpAnyH_take (i := 2) (v := ?_) rfl (by kernel_rfl) (by kernel_rfl) (by kernel_rfl) (fun _ _ _ h => h) (Or.inl ⟨by rfl, ?_⟩) hHeld ?_
      rotate_left
      · (intro w' hSw; go_simp; try (with_reducible rfl))
      change wpAnyH _ _ _ _ _ _ _ (Act.put _ (some 31) _) _
      simp only [Act.put, List.setIfInBounds_toArray, List.set_cons_zero, List.set_cons_succ]
      refine wpAnyH_ready (rs := [3]) (by kernel_rfl) (by simp) ?_
      refine AllReadyH.cons rfl (fun K hK => ?_) AllReadyH.nil
      rw [if_pos (by kernel_rfl)]
      refine wp_buildOne (.tmp 31) rfl A5 (n1 + n2) c5 rfl ?_
      have hal := hHeld.alloc hHeld.size (.cells #[.slice A5 (n1 + n2) c5] 24)
      refine hK.out _ _ hal (fun hHeld => ?_)
      clear hK K
      have hpp := Parts.one (c := c5) HLX.out (HALL.out.belowAll hHeld)
      have hsv := HV5.out.belowAll hHeld
      have hcall := HVF.out _ hsv _ _ _ 1 1 one_row hpp (by decide) (by simp)
      clear hpp hsv hal
      refine wpAnyH_ready (rs := [4]) (by kernel_rfl) (by simp) ?_
      refine AllReadyH.cons rfl (fun K hK => ?_) AllReadyH.nil
      rw [if_pos (by kernel_rfl)]
      go_simp
      refine hcall.mono ?_
      rintro e w_c4 ⟨rfl, hb⟩
      refine hK.out _ _ (hHeld.trans (hb.mono hHeld.size)) (fun hHeld => ?_)
      clear hK K
      clear hcall hb
      refine wpAnyH_take (i := 5) (v := ?_) rfl (by kernel_rfl) (by kernel_rfl) (by kernel_rfl) (fun _ _ _ h => h) (Or.inl ⟨by rfl, ?_⟩) hHeld ?_
      rotate_left
      · (intro w' hSw; go_simp; try (with_reducible rfl))
      change wpAnyH _ _ _ _ _ _ _ (Act.put _ (some 34) _) _
      simp only [Act.put, List.setIfInBounds_toArray, List.set_cons_zero, List.set_cons_succ]
      refine wpAnyH_take (i := 6) (v := .agg (By Y 32).toArray) rfl (by kernel_rfl) (by kernel_rfl) (by kernel_rfl) (fun _ _ _ h => h) (yieldsIf_load_mid (by rfl) 27 (.tmp 7) rfl g7 0 rfl (By Y 32) _ (fun w' hSw => (H75.out.belowAll hSw).range) Tryd.underlying27 rfl (key_len _)) hHeld ?_
      change wpAnyH _ _ _ _ _ _ _ (Act.put _ (some 35) _) _
      simp only [Act.put, List.setIfInBounds_toArray, List.set_cons_zero, List.set_cons_succ]
      refine wpAnyH_take (i := 7) (v := .agg (SL F S).toArray) rfl (by kernel_rfl) (by kernel_rfl) (by kernel_rfl) (fun _ _ _ h => h) (yieldsIf_load_mid (by rfl) 30 (.tmp 8) rfl g8 0 rfl (SL F S) _ (fun w' hSw => (H85.out.belowAll hSw).range) Tryd.underlying30 rfl (sig_len _ _)) hHeld ?_
      change wpAnyH _ _ _ _ _ _ _ (Act.put _ (some 36) _) _
      simp only [Act.put, List.setIfInBounds_toArray, List.set_cons_zero, List.set_cons_succ]
      refine wpAnyH_take (i := 8) (v := ?_) rfl (by kernel_rfl) (by kernel_rfl) (by kernel_rfl) (fun _ _ _ h => h) (Or.inl ⟨by rfl, ?_⟩) hHeld ?_
      rotate_left
      · (intro w' hSw; go_simp; try (with_reducible rfl))
      change wpAnyH _ _ _ _ _ _ _ (Act.put _ (some 37) _) _
      simp only [Act.put, List.setIfInBounds_toArray, List.set_cons_zero, List.set_cons_succ]
      refine wpAnyH_take (i := 9) (v := ?_) rfl (by kernel_rfl) (by kernel_rfl) (by kernel_rfl) (fun _ _ _ h => h) (Or.inl ⟨by rfl, ?_⟩) hHeld ?_
      rotate_left
      · (intro w' hSw; go_simp; try (with_reducible rfl))
      change wpAnyH _ _ _ _ _ _ _ (Act.put _ (some 38) _) _
      simp only [Act.put, List.setIfInBounds_toArray, List.set_cons_zero, List.set_cons_succ]
      refine wpAnyH_ready (rs := [10]) (by kernel_rfl) (by simp) ?_
      refine AllReadyH.cons rfl (fun K hK => ?_) AllReadyH.nil
      rw [if_pos (by kernel_rfl)]
      refine wp_buildTwo (.tmp 37) (.tmp 38) rfl A1 A2 n1 n2 c1 c2 rfl rfl ?_
      have hal := hHeld.alloc hHeld.size (.cells #[.slice A1 n1 c1, .slice A2 n2 c2] 24)
      refine hK.out _ _ hal (fun hHeld => ?_)
      clear hK K
      have hpp := (Parts.one (c := c1) HA.out (HRA5.out.belowAll hHeld)).append (Parts.one (c := c2) HB.out (HRB5.out.belowAll hHeld))
      have hsv := HV5.out.belowAll hHeld
      have hcall := HVF.out _ hsv _ _ _ 2 2 two_row hpp (by decide) (by rw [HL.out]; simp)
      clear hpp hsv hal
      refine wpAnyH_ready (rs := [11]) (by kernel_rfl) (by simp) ?_
      refine AllReadyH.cons rfl (fun K hK => ?_) AllReadyH.nil
      rw [if_pos (by kernel_rfl)]
      go_simp
      refine hcall.mono ?_
      rintro e w_c11 ⟨rfl, hb⟩
      refine hK.out _ _ (hHeld.trans (hb.mono hHeld.size)) (fun hHeld => ?_)
      clear hK K
      clear hcall hb
      refine wpAnyH_take (i := 12) (v := ?_) rfl (by kernel_rfl) (by kernel_rfl) (by kernel_rfl) (fun _ _ _ h => h) (Or.inl ⟨by rfl, ?_⟩) hHeld ?_
      rotate_left
      · (intro w' hSw; go_simp; try (with_reducible rfl))
      change wpAnyH _ _ _ _ _ _ _ (Act.put _ (some 41) _) _
      simp only [Act.put, List.setIfInBounds_toArray, List.set_cons_zero, List.set_cons_succ]
      refine wpAnyH_take (i := 13) (v := ?_) rfl (by kernel_rfl) (by kernel_rfl) (by kernel_rfl) (fun _ _ _ h => h) (Or.inl ⟨by rfl, ?_⟩) hHeld ?_
      rotate_left
      · (intro w' hSw; go_simp; try (with_reducible rfl))
      change wpAnyH _ _ _ _ _ _ _ (Act.put _ (some 42) _) _
      simp only [Act.put, List.setIfInBounds_toArray, List.set_cons_zero, List.set_cons_succ]
      refine wpAnyH_take (i := 14) (v := .agg (By N 32).toArray) rfl (by kernel_rfl) (by kernel_rfl) (by kernel_rfl) (fun _ _ _ h => h) (yieldsIf_load_mid (by rfl) 23 (.tmp 3) rfl w.heap.size 0 rfl (By N 32) _ (fun w' hSw => (HS5.out.belowAll hSw).range) Tryd.underlying23 rfl (seed_len _)) hHeld ?_
      change wpAnyH _ _ _ _ _ _ _ (Act.put _ (some 43) _) _
      simp only [Act.put, List.setIfInBounds_toArray, List.set_cons_zero, List.set_cons_succ]
      refine wpAnyH_take (i := 15) (v := ?_) rfl (by kernel_rfl) (by kernel_rfl) (by kernel_rfl) (fun _ _ _ h => h) (Or.inl ⟨by rfl, ?_⟩) hHeld ?_
      rotate_left
      · (intro w' hSw; go_simp; try (with_reducible rfl))
      change wpAnyH _ _ _ _ _ _ _ (Act.put _ (some 44) _) _
      simp only [Act.put, List.setIfInBounds_toArray, List.set_cons_zero, List.set_cons_succ]
      refine wpAnyH_take (i := 18) (v := .agg (SL F S).toArray) rfl (by kernel_rfl) (by kernel_rfl) (by kernel_rfl) (fun _ _ _ h => h) (yieldsIf_load_mid (by rfl) 30 (.tmp 8) rfl g8 0 rfl (SL F S) _ (fun w' hSw => (H85.out.belowAll hSw).range) Tryd.underlying30 rfl (sig_len _ _)) hHeld ?_
      change wpAnyH _ _ _ _ _ _ _ (Act.put _ (some 47) _) _
      simp only [Act.put, List.setIfInBounds_toArray, List.set_cons_zero, List.set_cons_succ]
      refine wpAnyH_ready (rs := [16]) (by kernel_rfl) (by simp) ?_
      refine AllReadyH.cons rfl (fun K hK => ?_) AllReadyH.nil
      rw [if_pos (by kernel_rfl)]
      refine wp_buildOne (.tmp 44) rfl A5 (n1 + n2) c5 rfl ?_
      have hal := hHeld.alloc hHeld.size (.cells #[.slice A5 (n1 + n2) c5] 24)
      refine hK.out _ _ hal (fun hHeld => ?_)
      clear hK K
      have hpp := Parts.one (c := c5) HLX.out (HALL.out.belowAll hHeld)
      have hsv := HV5.out.belowAll hHeld
      have hcall := HSG.out _ hsv _ _ _ 1 1 one_row hpp (by decide) (by simp)
      clear hpp hsv hal
      refine wpAnyH_ready (rs := [17]) (by kernel_rfl) (by simp) ?_
      refine AllReadyH.cons rfl (fun K hK => ?_) AllReadyH.nil
      rw [if_pos (by kernel_rfl)]
      go_simp
      refine hcall.mono ?_
      rintro e w_c17 ⟨rfl, hb⟩
      refine hK.out _ _ (hHeld.trans (hb.mono hHeld.size)) (fun hHeld => ?_)
      clear hK K
      clear hcall hb
      refine wpAnyH_take (i := 19) (v := .bool true) rfl (by kernel_rfl) (by kernel_rfl) (by kernel_rfl) (fun _ _ _ h => h) (Or.inl ⟨by rfl, ?_⟩) hHeld ?_
      · exact fun w' _ => exec_eq (.tmp 46) (.tmp 47) rfl rfl rfl w'
      change wpAnyH _ _ _ _ _ _ _ (Act.put _ (some 48) _) _
      simp only [Act.put, List.setIfInBounds_toArray, List.set_cons_zero, List.set_cons_succ]
      refine wpAnyH_take (i := 20) (v := ?_) rfl (by kernel_rfl) (by kernel_rfl) (by kernel_rfl) (fun _ _ _ h => h) (Or.inl ⟨by rfl, ?_⟩) hHeld ?_
      rotate_left
      · (intro w' hSw; go_simp; try (with_reducible rfl))
      change wpAnyH _ _ _ _ _ _ _ (Act.put _ (some 49) _) _
      simp only [Act.put, List.setIfInBounds_toArray, List.set_cons_zero, List.set_cons_succ]
      refine wpAnyH_take (i := 21) (v := ?_) rfl (by kernel_rfl) (by kernel_rfl) (by kernel_rfl) (fun _ _ _ h => h) (Or.inl ⟨by rfl, ?_⟩) hHeld ?_
      rotate_left
      · (intro w' hSw; go_simp; try (with_reducible rfl))
      change wpAnyH _ _ _ _ _ _ _ (Act.put _ (some 50) _) _
      simp only [Act.put, List.setIfInBounds_toArray, List.set_cons_zero, List.set_cons_succ]
      refine wpAnyH_take (i := 22) (v := .agg (By Y 32).toArray) rfl (by kernel_rfl) (by kernel_rfl) (by kernel_rfl) (fun _ _ _ h => h) (yieldsIf_load_mid (by rfl) 27 (.tmp 7) rfl g7 0 rfl (By Y 32) _ (fun w' hSw => (H75.out.belowAll hSw).range) Tryd.underlying27 rfl (key_len _)) hHeld ?_
      change wpAnyH _ _ _ _ _ _ _ (Act.put _ (some 51) _) _
      simp only [Act.put, List.setIfInBounds_toArray, List.set_cons_zero, List.set_cons_succ]
      refine wpAnyH_ready (rs := [23]) (by kernel_rfl) (by simp) ?_
      refine AllReadyH.cons rfl (fun K hK => ?_) AllReadyH.nil
      rw [if_pos (by kernel_rfl)]
      go_simp
      refine (HKN.out _ (HV5.out.belowAll hHeld)).mono ?_
      rintro e w_c ⟨rfl, hb⟩
      refine hK.out _ _ (hHeld.trans (hb.mono hHeld.size)) (fun hHeld => ?_)
      clear hK K
      clear hb
      refine wpAnyH_take (i := 24) (v := ?_) rfl (by kernel_rfl) (by kernel_rfl) (by kernel_rfl) (fun _ _ _ h => h) (Or.inl ⟨by rfl, ?_⟩) hHeld ?_
      rotate_left
      · (intro w' hSw; go_simp; try (with_reducible rfl))
      change wpAnyH _ _ _ _ _ _ _ (Act.put _ (some 53) _) _
      simp only [Act.put, List.setIfInBounds_toArray, List.set_cons_zero, List.set_cons_succ]
      refine wpAnyH_take (i := 25) (v := ?_) rfl (by kernel_rfl) (by kernel_rfl) (by kernel_rfl) (fun _ _ _ h => h) (Or.inl ⟨by rfl, ?_⟩) hHeld ?_
      rotate_left
      · (intro w' hSw; go_simp; try (with_reducible rfl))
      change wpAnyH _ _ _ _ _ _ _ (Act.put _ (some 54) _) _
      simp only [Act.put, List.setIfInBounds_toArray, List.set_cons_zero, List.set_cons_succ]
      refine wpAnyH_ready (rs := [26]) (by kernel_rfl) (by simp) ?_
      refine AllReadyH.cons rfl (fun K hK => ?_) AllReadyH.nil
      rw [if_pos (by kernel_rfl)]
      go_simp
      refine (aw_any _ (HV5.out.belowAll hHeld)).mono ?_
      rintro e w_d ⟨rfl, hb⟩
      refine hK.out _ _ (hHeld.trans (hb.mono hHeld.size)) (fun hHeld => ?_)
      clear hK K
      clear hb
      refine wpAnyH_take (i := 27) (v := ?_) rfl (by kernel_rfl) (by kernel_rfl) (by kernel_rfl) (fun _ _ _ h => h) (Or.inl ⟨by rfl, ?_⟩) hHeld ?_
      rotate_left
      · (intro w' hSw; go_simp; try (with_reducible rfl))
      change wpAnyH _ _ _ _ _ _ _ (Act.put _ (some 56) _) _
      simp only [Act.put, List.setIfInBounds_toArray, List.set_cons_zero, List.set_cons_succ]
      refine wpAnyH_take (i := 28) (v := ?_) rfl (by kernel_rfl) (by kernel_rfl) (by kernel_rfl) (fun _ _ _ h => h) (Or.inl ⟨by rfl, ?_⟩) hHeld ?_
      rotate_left
      · (intro w' hSw; go_simp; try (with_reducible rfl))
      change wpAnyH _ _ _ _ _ _ _ (Act.put _ (some 6) _) _
      simp only [Act.put, List.setIfInBounds_toArray, List.set_cons_zero, List.set_cons_succ]
      refine wpAnyH_done (by kernel_rfl) ?_ _
      have HF := Lib.hid (HW5.out.trans (hHeld.mono HW5.out.size))
      clear hHeld
      go_wp2_with fail
      go_ret
      exact ⟨rfl, HF.out⟩
end
end Go.Proofs.YtmfibncllbgeoaaDoor
