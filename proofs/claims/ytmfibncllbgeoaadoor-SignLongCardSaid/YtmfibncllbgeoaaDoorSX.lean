/- sgn/Sq -/
import Derived.Test.YtmfibncllbgeoaaDoorSV
import Derived.Test.YtmfibncllbgeoaaDoorSA
import Derived.Test.YtmfibncllbgeoaaDoorSF
import Derived.Test.YtmfibncllbgeoaaDoorSG
import Derived.Test.YtmfibncllbgeoaaDoorSH
import Derived.Test.YtmfibncllbgeoaaDoorSI
import Derived.Test.YtmfibncllbgeoaaDoorSC
import Derived.Test.YtmfibncllbgeoaaDoorSJ
import Derived.Test.YtmfibncllbgeoaaDoorSL
import Derived.Test.YtmfibncllbgeoaaDoorSO
import Derived.Test.YtmfibncllbgeoaaDoorSD
import Derived.Test.YtmfibncllbgeoaaDoorST
import Derived.Test.YtmfibncllbgeoaaDoorSN
import Derived.Test.YtmfibncllbgeoaaDoorSP
import Derived.Test.YtmfibncllbgeoaaDoorSQ
import Derived.Test.YtmfibncllbgeoaaDoorSR
import Derived.Test.YtmfibncllbgeoaaDoorSS
import Derived.Test.YtmfibncllbgeoaaDoorSU
namespace Go.Proofs.YtmfibncllbgeoaaDoor
section
set_option maxRecDepth 100000
set_option linter.unusedSimpArgs false
set_option linter.unusedVariables false
open Go.RowKit
theorem wp_allocK {P : Program} {o : Oper} {a : Act} {w : World} {K : Act → World → Prop} {Q : Exit → Act → World → Prop} (T : TypeId) (z : List Value) (ho : o.op = .alloc T)
    (hrun : ∀ w : World, (Instr.alloc T true (.tuple #[])).run P w = .ok (.pointer (some ⟨w.heap.size, 0, none⟩)) (w.alloc (.cells z.toArray T)))
    (h : K (a.put o.dst (.pointer (some ⟨w.heap.size, 0, none⟩))) (w.alloc (.cells z.toArray T))) : o.wp P a w K Q := by
  have he : (execOp a.eval o).run P w = .ok (.value (.pointer (some ⟨w.heap.size, 0, none⟩))) (w.alloc (.cells z.toArray T)) := by
    unfold execOp
    simp only [ho, Sem.run_bind, Sem.run_pure, hrun, Result.andThen_ok]
  unfold Oper.wp
  rw [he]
  exact h
theorem key_alloc (w : World) : (Instr.alloc 27 true (.tuple #[])).run Tryd.prog w = .ok (.pointer (some ⟨w.heap.size, 0, none⟩)) (w.alloc (.cells (By 0 32).toArray 27)) := by kernel_rfl
theorem sig_alloc (w : World) : (Instr.alloc 30 true (.tuple #[])).run Tryd.prog w = .ok (.pointer (some ⟨w.heap.size, 0, none⟩)) (w.alloc (.cells (SL 0 0).toArray 30)) := by kernel_rfl
theorem byt_256 (N k : Nat) : byt N k = N / 256 ^ k % 256 := by unfold byt; rw [pow256]
/-- What is carried over, behind k bytes. -/
def cyb (N M k : Nat) : Nat := (N % 256 ^ k + M % 256 ^ k) / 256 ^ k
theorem cyb_0 (N M : Nat) : cyb N M 0 = 0 := by simp [cyb, Nat.mod_one]
theorem add_div_cyb (N M k : Nat) : (N + M) / 256 ^ k = N / 256 ^ k + M / 256 ^ k + cyb N M k := by
  have h0 : 0 < 256 ^ k := Nat.pow_pos (by decide)
  have e1 := Nat.div_add_mod N (256 ^ k)
  have e2 := Nat.div_add_mod M (256 ^ k)
  have e : N + M = 256 ^ k * (N / 256 ^ k + M / 256 ^ k) + (N % 256 ^ k + M % 256 ^ k) := by rw [Nat.mul_add]; omega
  rw [e, Nat.mul_add_div h0]
  rfl
theorem cyb_byte (N M k : Nat) : (byt N k + byt M k + cyb N M k) % 256 = byt (N + M) k := by
  rw [byt_256, byt_256, byt_256, add_div_cyb]
  omega
theorem cyb_succ (N M k : Nat) : (byt N k + byt M k + cyb N M k) / 256 = cyb N M (k + 1) := by
  have h0 : 0 < 256 ^ k := Nat.pow_pos (by decide)
  have e : N % 256 ^ (k + 1) + M % 256 ^ (k + 1) = 256 ^ k * (byt N k + byt M k) + (N % 256 ^ k + M % 256 ^ k) := by
    rw [byt_256, byt_256, Nat.pow_succ, Nat.mod_mul, Nat.mod_mul, Nat.mul_add]
    omega
  unfold cyb
  rw [e, Nat.pow_succ, ← Nat.div_div_eq_div_mul, Nat.mul_add_div h0]
theorem cyb_le (N M k : Nat) : cyb N M k ≤ 1 := by
  have h0 : 0 < 256 ^ k := Nat.pow_pos (by decide)
  have h1 := Nat.mod_lt N h0
  have h2 := Nat.mod_lt M h0
  unfold cyb
  have : (N % 256 ^ k + M % 256 ^ k) / 256 ^ k < 2 := by rw [Nat.div_lt_iff_lt_mul h0]; omega
  omega
/-- The signature's cells behind k rounds. -/
def sgR (F S M k : Nat) : List Value := By F 32 ++ Tabs .u8 (fun i => if i < k then byt (S + M) i else byt S i) 32
theorem sgR_length (F S M k : Nat) : (sgR F S M k).length = 64 := by rw [sgR, List.length_append, By_length, Tabs_length]
theorem sgR_0 (F S M : Nat) : sgR F S M 0 = SL F S := by
  have e : (fun i => if i < 0 then byt (S + M) i else byt S i) = byt S := funext fun i => if_neg (Nat.not_lt_zero i)
  unfold sgR SL By
  rw [e]
theorem sgR_32 (F S M : Nat) : sgR F S M 32 = SL F (S + M) := by
  have e : Tabs .u8 (fun i => if i < 32 then byt (S + M) i else byt S i) 32 = By (S + M) 32 := By_ext (S + M) 32 (Tabs_length ..) fun k hk => by rw [Tabs_get _ _ _ hk, if_pos hk]
  rw [sgR, SL, e]
theorem sgR_get (F S M : Nat) {k : Nat} (hk : k < 32) : (sgR F S M k)[32 + k]? = some (.int .u8 ((byt S k : Nat) : Int)) := by
  unfold sgR
  rw [List.getElem?_append_right (by rw [By_length]; omega), By_length, show 32 + k - 32 = k by omega, Tabs_get _ _ _ hk, if_neg (by omega)]
theorem sgR_set (F S M : Nat) {k : Nat} (hk : k < 32) : (sgR F S M k).set (32 + k) (.int .u8 ((byt (S + M) k : Nat) : Int)) = sgR F S M (k + 1) := by
  refine List.ext_getElem? fun j => ?_
  by_cases hj : j < 64
  · by_cases h1 : j < 32
    · rw [List.getElem?_set_ne (by omega)]
      unfold sgR
      rw [List.getElem?_append_left (by rw [By_length]; exact h1), List.getElem?_append_left (by rw [By_length]; exact h1)]
    · unfold sgR
      rw [List.set_append_right _ _ (by rw [By_length]; omega), List.getElem?_append_right (by rw [By_length]; omega), List.getElem?_append_right (by rw [By_length]; omega), By_length, show 32 + k - 32 = k by omega]
      by_cases h2 : j - 32 = k
      · rw [h2, List.getElem?_set_self (by rw [Tabs_length]; exact hk), Tabs_get _ _ _ hk, if_pos (by omega)]
      · rw [List.getElem?_set_ne (Ne.symm h2), Tabs_get _ _ _ (by omega), Tabs_get _ _ _ (by omega)]
        by_cases h3 : j - 32 < k
        · rw [if_pos h3, if_pos (by omega)]
        · rw [if_neg h3, if_neg (by omega)]
  · rw [List.getElem?_eq_none (by rw [List.length_set, sgR_length]; omega), List.getElem?_eq_none (by rw [sgR_length]; omega)]
theorem vf_long (Y F S : Nat) (l : List Nat) : vfB Y F (S + qN) l = false := by
  rw [vfB, decide_eq_false (show ¬ S + qN < qq by rw [qq_qN]; omega), Bool.false_and, Bool.and_false]
theorem wr_small (a : Int) (h0 : 0 ≤ a) (h1 : a < 1000000) : wrap64 a = a := by unfold wrap64; omega
theorem sig_ix (g m : Nat) (h : m < 64) (w : World) : (Instr.indexAt 30 (.pointer (some ⟨g, 0, none⟩)) (.int .i64 (m : Int))).run Tryd.prog w = .ok (.pointer (some ⟨g, m, none⟩)) w := by
  have h1 : (0 : Int) ≤ (m : Int) := by omega
  have h2 : (m : Int) < 64 := by omega
  have e : (⟨g, 0, none⟩ : Addr).add m = ⟨g, m, none⟩ := by rw [Addr.add_mid, Nat.zero_add]
  go_simp
  try rw [e]
theorem ix_by0 (g m : Nat) (h : m < 32) (w : World) : (Instr.indexAt 22 (.pointer (some ⟨g, 0, none⟩)) (.int .i64 (m : Int))).run Tryd.prog w = .ok (.pointer (some ⟨g, m, none⟩)) w := by
  have h2 := ix_by g 0 m h w
  rwa [Nat.zero_add] at h2
theorem i_add (x y z : Nat) (h : x + y = z) (hz : z < 1000000) (w : World) : (binOp .add 3 (.int .i64 (x : Int)) (.int .i64 (y : Int))).run Tryd.prog w = .ok (.int .i64 (z : Int)) w := by
  have e1 : (x : Int) + (y : Int) = (z : Int) := by omega
  have e : IntKind.i64.wrap (z : Int) = (z : Int) := IntWalk.i64_in _ (by omega)
  go_simp
  try rw [e1]
  try rw [e]
theorem i_addg (x y : Operand) (u v : Value) (w : World) : (eqGuard .add 3 x y u v).run Tryd.prog w = .ok () w := by rfl
theorem u8_wr (z : Nat) (h : z < 256) : IntKind.u8.wrap (z : Int) = (z : Int) := by
  have h0 : IntKind.u8.wrap (z : Int) = (z : Int) % 256 := rfl
  rw [h0]
  omega
theorem u_conv (x : Nat) (h : x < 256) (w : World) : (convert 5 3 (.int .u8 (x : Int))).run Tryd.prog w = .ok (.int .i64 (x : Int)) w := by
  have e : IntKind.i64.wrap (x : Int) = (x : Int) := IntWalk.i64_in _ (by omega)
  go_simp
  try rw [e]
theorem Gives.conv {P : Program} {S : World → Prop} {o : Oper} {a : Act} (T T2 : TypeId) (x : Operand) (ho : o.op = .convert T T2 x) (u r : Value) (hx : a.eval x = u) (hi : ∀ w, (convert T T2 u).run P w = .ok r w) : Gives P S o r a :=
  Gives.run fun w _ => by
    unfold execOp
    simp only [ho, Sem.run_bind, Sem.run_pure, hx, hi, Result.andThen_ok]
theorem wr_sum (x y c n : Nat) (h : x + y + c = n) (hn : n < 1000000) : wrap64 ((x : Int) + (y : Int) + (c : Int)) = (n : Int) := by
  have e : (x : Int) + (y : Int) + (c : Int) = (n : Int) := by omega
  rw [e, wr_small _ (by omega) (by omega)]
theorem tm_256 (n z : Nat) (h : n % 256 = z) : Int.tmod (n : Int) 256 = (z : Int) := by rw [Int.tmod_eq_emod_of_nonneg (by omega)]; omega
theorem td_256 (n z : Nat) (h : n / 256 = z) : Int.tdiv (n : Int) 256 = (z : Int) := by rw [Int.tdiv_eq_ediv_of_nonneg (by omega)]; omega
theorem sgS_q (N : Nat) (l : List Nat) : sgS N l < qq := Nat.mod_lt _ qq_pos
theorem region_cut {P : Program} {ops : Array Oper} {id : Nat} {Q : Exit → Act → World → Prop} {a : Act} {W : World} (Post : Act → World → Prop)
    (h : (Code.region id ops true).wp P (fun e a' w' => e = .normal ∧ Post a' w') a W) (hend : ∀ a' w', Post a' w' → Q .normal a' w') : (Code.region id ops true).wp P Q a W :=
  Code.wp_mono (fun e a w hp => by obtain ⟨rfl, hp⟩ := hp; exact hend a w hp) h
set_option maxHeartbeats 40000000 in
theorem long_law (N : Nat) (la : List Nat) {A1 : Option Addr} {n1 c1 : Nat} (w : World) (hw : Sv w) (ha : ∀ x ∈ la, x < 256) (ra : Rd w (fun _ => True) A1 n1 (N8 la)) :
    Calls Tryd.prog 4 #[.agg (By N 32).toArray, .slice A1 n1 c1] w fun e w' => e = .returned (.bool true) ∧ Below w.heap.size w w' := by
  have hs := Row.new w (By N 32) 23
  have hW := Below.alloc1 w (.cells (By N 32).toArray 23)
  have HV := Lib.hid (hw.belowAll hW)
  have HW := Lib.hid hW
  have HS := Lib.hid hs
  have HRA := Lib.hid (ra.belowAll hW)
  have hl1 : la.length = n1 := by have := ra.1; rwa [N8_len] at this
  have HL1 := Lib.hid hl1
  have HA := Lib.hid ha
  clear hw ha ra hs hW hl1
  go_enter Tryd.func4, Tryd.ntmps4
  go_wp2_with fail
  generalize w.alloc (.cells (By N 32).toArray 23) = W at *
  by_cases hg1 : 300 < n1
  · have hgr := gr_any A1 n1 c1 W
    rw [decide_eq_true hg1] at hgr
    refine hgr.mono ?_
    rintro e w1 ⟨rfl, hww⟩
    subst hww
    go_wp2_with fail
    refine (aw_any _ HV.out).mono ?_
    rintro e w2 ⟨rfl, hb⟩
    have HW2 := Lib.hid (HW.out.trans (hb.mono HW.out.size))
    clear hb
    go_wp2_with fail
    go_ret
    exact ⟨rfl, HW2.out⟩
  · have hgr := gr_any A1 n1 c1 W
    rw [decide_eq_false hg1] at hgr
    refine hgr.mono ?_
    rintro e W ⟨rfl, hww⟩
    subst hww
    clear hgr
    have hl6 : la.length < 1000000 := by rw [HL1.out]; omega
    have hpb := fun w hw => pb_any N w hw
    have hsg := fun w hw vs ps A m c r p hm hl => sg_1 N la (vs := vs) (ps := ps) (A := A) (m := m) (c := c) w hw r p hm hl hl6
    have hS := sgS_q N la
    have hF256 := sgF_lt N la
    generalize pbN N = Y at *
    generalize sgF N la = F at *
    generalize sgS N la = S at *
    have HPB := Lib.hid hpb
    have HSG := Lib.hid hsg
    have HPA := Lib.hid (Parts.one (c := c1) HA.out HRA.out)
    have HQ := Lib.hid hS
    have HF := Lib.hid hF256
    clear hl6 hpb hsg hS hF256
    go_upto_region 3 with fail
    refine region_cut (fun a' w' => ∃ gC gD : Nat, ∃ v18 : Value, a' = ⟨#[.agg (By N 32).toArray, .slice A1 n1 c1, .pointer (some ⟨w.heap.size, 0, none⟩), undef, .bool false, .pointer (some ⟨gC, 0, none⟩), .pointer (some ⟨gD, 0, none⟩), undef, undef, undef, undef, .slice A1 n1 c1, .bool false, undef, .agg (By N 32).toArray, .agg (By Y 32).toArray, .agg (By N 32).toArray, .slice A1 n1 c1, v18, .agg (SL F S).toArray, undef, undef, undef, undef, undef, undef, undef, undef, undef, undef, undef, undef, undef, undef, undef, undef, undef, undef, undef, undef, undef, undef, undef, undef, undef, undef, undef, undef, undef, undef, undef, undef, undef, undef], []⟩ ∧ Below W.heap.size W w' ∧ W.heap.size ≤ gC ∧ W.heap.size ≤ gD ∧ gC ≠ gD ∧ Row w' gC 27 (By Y 32) ∧ Row w' gD 30 (SL F S)) ?_ ?_
    · refine wp_region_any (by kernel_rfl) ?_
      change wpAny _ _ _ _ _ _ _ (World.drew _)
      refine wpAny_of_held (S := (fun w' : World => Below W.heap.size W w')) _ _ _ _ ?_
      have hHeld := ((Below.refl W.heap.size W).drew)
      have hH : Below W.heap.size W W.drew := (Below.refl W.heap.size W).drew
      refine wpAnyH_take (i := 0) (v := .agg (By N 32).toArray) rfl (by kernel_rfl) (by kernel_rfl) (by kernel_rfl) (fun _ _ _ h => nomatch h.1) (yieldsIf_load_mid (by rfl) 23 (.tmp 2) rfl w.heap.size 0 rfl (By N 32) _ (fun w' hSw => (HS.out.belowAll hSw).range) Tryd.underlying23 rfl (seed_len _)) hHeld ?_
      change wpAnyH _ _ _ _ _ _ _ (Act.put _ (some 14) _) _
      simp only [Act.put, List.setIfInBounds_toArray, List.set_cons_zero, List.set_cons_succ]
      refine wpAnyH_take (i := 2) (v := .agg (By N 32).toArray) rfl (by kernel_rfl) (by kernel_rfl) (by kernel_rfl) (fun _ _ _ h => nomatch h.1) (yieldsIf_load_mid (by rfl) 23 (.tmp 2) rfl w.heap.size 0 rfl (By N 32) _ (fun w' hSw => (HS.out.belowAll hSw).range) Tryd.underlying23 rfl (seed_len _)) hHeld ?_
      change wpAnyH _ _ _ _ _ _ _ (Act.put _ (some 16) _) _
      simp only [Act.put, List.setIfInBounds_toArray, List.set_cons_zero, List.set_cons_succ]
      refine wpAnyH_take (i := 3) (v := ?_) rfl (by kernel_rfl) (by kernel_rfl) (by kernel_rfl) (fun _ _ _ h => nomatch h.1) (Or.inl ⟨by rfl, ?_⟩) hHeld ?_
      rotate_left
      · (intro w' hSw; go_simp; try (with_reducible rfl))
      change wpAnyH _ _ _ _ _ _ _ (Act.put _ (some 17) _) _
      simp only [Act.put, List.setIfInBounds_toArray, List.set_cons_zero, List.set_cons_succ]
      clear hHeld
      generalize W.drew = w0 at *
      refine wpAnyH_ready (rs := [1, 4, 6, 7]) (by kernel_rfl) (by simp) ?_
      refine AllReadyH.cons rfl (fun K hK => ?_) (AllReadyH.cons rfl (fun K hK => ?_) (AllReadyH.cons rfl (fun K hK => ?_) (AllReadyH.cons rfl (fun K hK => ?_) AllReadyH.nil)))
      · rw [if_pos (by kernel_rfl)]
        go_simp
        refine (HPB.out _ (HV.out.belowAll hH)).mono ?_
        rintro e w1 ⟨rfl, hb⟩
        have hHn := hH.trans (hb.mono hH.size)
        refine hK.out _ _ hHn (fun _ => ?_)
        clear hK K
        clear hb hH
        have hH := hHn
        clear hHn
        refine wpAnyH_ready (rs := [4, 6, 7]) (by kernel_rfl) (by simp) ?_
        refine AllReadyH.cons rfl (fun K hK => ?_) (AllReadyH.cons rfl (fun K hK => ?_) (AllReadyH.cons rfl (fun K hK => ?_) AllReadyH.nil))
        · rw [if_pos (by kernel_rfl)]
          refine wp_buildOne (.tmp 17) rfl A1 n1 c1 rfl ?_
          have hb := Below.alloc1 w1 (.cells #[.slice A1 n1 c1] 24)
          have hBn : Rd (w1.alloc (.cells #[.slice A1 n1 c1] 24)) (fun _ => True) (some ⟨w1.heap.size, 0, none⟩) 1 [.slice A1 n1 c1] := one_row
          have hHn := hH.trans (hb.mono hH.size)
          refine hK.out _ _ hHn (fun _ => ?_)
          clear hK K
          generalize w1.alloc (.cells #[.slice A1 n1 c1] 24) = w2 at hHn hBn ⊢
          clear hb hH
          have hH := hHn
          have hB := hBn
          clear hHn hBn
          refine wpAnyH_ready (rs := [5, 6, 7]) (by kernel_rfl) (by simp) ?_
          refine AllReadyH.cons rfl (fun K hK => ?_) (AllReadyH.cons rfl (fun K hK => ?_) (AllReadyH.cons rfl (fun K hK => ?_) AllReadyH.nil))
          · rw [if_pos (by kernel_rfl)]
            go_simp
            refine (HSG.out _ (HV.out.belowAll hH) _ _ _ 1 1 hB (HPA.out.belowAll hH) (by decide) (by simp)).mono ?_
            rintro e w3 ⟨rfl, hb⟩
            have hBn := hB.belowAll hb
            have hHn := hH.trans (hb.mono hH.size)
            refine hK.out _ _ hHn (fun _ => ?_)
            clear hK K
            clear hb hH hB
            have hH := hHn
            have hB := hBn
            clear hHn hBn
            refine wpAnyH_ready (rs := [6, 7]) (by kernel_rfl) (by simp) ?_
            refine AllReadyH.cons rfl (fun K hK => ?_) (AllReadyH.cons rfl (fun K hK => ?_) AllReadyH.nil)
            · rw [if_pos (by kernel_rfl)]
              refine wp_allocK 27 (By 0 32) rfl key_alloc ?_
              have hb := Below.alloc1 w3 (.cells (By 0 32).toArray 27)
              have hCn := Row.new w3 (By 0 32) 27
              have hBn := hB.belowAll hb
              have hHn := hH.trans (hb.mono hH.size)
              have geC : W.heap.size ≤ w3.heap.size := hH.size
              refine hK.out _ _ hHn (fun _ => ?_)
              clear hK K
              generalize w3.alloc (.cells (By 0 32).toArray 27) = w4 at hHn hBn hCn ⊢
              clear hb hH hB
              have hH := hHn
              have hB := hBn
              have hC := hCn
              clear hHn hBn hCn
              generalize w3.heap.size = gC at hC geC ⊢
              refine wpAnyH_ready (rs := [7]) (by kernel_rfl) (by simp) ?_
              refine AllReadyH.cons rfl (fun K hK => ?_) AllReadyH.nil
              · rw [if_pos (by kernel_rfl)]
                refine wp_allocK 30 (SL 0 0) rfl sig_alloc ?_
                have hb := Below.alloc1 w4 (.cells (SL 0 0).toArray 30)
                have hDn := Row.new w4 (SL 0 0) 30
                have hBn := hB.belowAll hb
                have hCn := hC.belowAll hb
                have hHn := hH.trans (hb.mono hH.size)
                have geD : W.heap.size ≤ w4.heap.size := hH.size
                have hlt := hC.lt
                have hne : gC ≠ w4.heap.size := by omega
                clear hlt
                refine hK.out _ _ hHn (fun _ => ?_)
                clear hK K
                generalize w4.alloc (.cells (SL 0 0).toArray 30) = w5 at hHn hBn hCn hDn ⊢
                clear hb hH hB hC
                have hH := hHn
                have hB := hBn
                have hC := hCn
                have hD := hDn
                clear hHn hBn hCn hDn
                generalize w4.heap.size = gD at hD geD hne ⊢
                refine wpAnyH_ready (rs := [8]) (by kernel_rfl) (by simp) ?_
                refine AllReadyH.cons rfl (fun K hK => ?_) AllReadyH.nil
                rw [if_pos (by kernel_rfl)]
                refine wp_store_row 27 (.tmp 5) (.tmp 15) rfl gC (By Y 32).toArray rfl rfl 27 _ hC (key_info _) (By_sz _ _) (By_one32 _) ?_
                have hC2 := hC.setRow (By Y 32)
                have hD2 := hD.setRowOther (k := gC) hne.symm (By Y 32).toArray
                have hH2 := below_setRow (g := gC) hH geC (By Y 32).toArray
                refine hK.out _ _ hH2 (fun hHeld => ?_)
                clear hK K
                refine wpAnyH_ready (rs := [9]) (by kernel_rfl) (by simp) ?_
                refine AllReadyH.cons rfl (fun K hK => ?_) AllReadyH.nil
                rw [if_pos (by kernel_rfl)]
                refine wp_store_row 30 (.tmp 6) (.tmp 19) rfl gD (SL F S).toArray rfl rfl 30 _ hD2 (sig_info _ _) (SL_sz _ _ _ _) (SL_one _ _) ?_
                have hD3 := hD2.setRow (SL F S)
                have hC3 := hC2.setRowOther (k := gD) hne (SL F S).toArray
                have hH3 := below_setRow (g := gD) hH2 geD (SL F S).toArray
                refine hK.out _ _ hH3 (fun hHeld => ?_)
                clear hK K
                refine wpAnyH_done (by kernel_rfl) ?_ _
                exact ⟨rfl, gC, gD, _, rfl, hH3, geC, geD, hne, hC3, hD3⟩
            · rw [if_pos (by kernel_rfl)]
              refine wp_allocK 30 (SL 0 0) rfl sig_alloc ?_
              have hb := Below.alloc1 w3 (.cells (SL 0 0).toArray 30)
              have hDn := Row.new w3 (SL 0 0) 30
              have hBn := hB.belowAll hb
              have hHn := hH.trans (hb.mono hH.size)
              have geD : W.heap.size ≤ w3.heap.size := hH.size
              refine hK.out _ _ hHn (fun _ => ?_)
              clear hK K
              generalize w3.alloc (.cells (SL 0 0).toArray 30) = w6 at hHn hBn hDn ⊢
              clear hb hH hB
              have hH := hHn
              have hB := hBn
              have hD := hDn
              clear hHn hBn hDn
              generalize w3.heap.size = gD at hD geD ⊢
              refine wpAnyH_ready (rs := [6]) (by kernel_rfl) (by simp) ?_
              refine AllReadyH.cons rfl (fun K hK => ?_) AllReadyH.nil
              · rw [if_pos (by kernel_rfl)]
                refine wp_allocK 27 (By 0 32) rfl key_alloc ?_
                have hb := Below.alloc1 w6 (.cells (By 0 32).toArray 27)
                have hCn := Row.new w6 (By 0 32) 27
                have hBn := hB.belowAll hb
                have hDn := hD.belowAll hb
                have hHn := hH.trans (hb.mono hH.size)
                have geC : W.heap.size ≤ w6.heap.size := hH.size
                have hlt := hD.lt
                have hne : w6.heap.size ≠ gD := by omega
                clear hlt
                refine hK.out _ _ hHn (fun _ => ?_)
                clear hK K
                generalize w6.alloc (.cells (By 0 32).toArray 27) = w7 at hHn hBn hDn hCn ⊢
                clear hb hH hB hD
                have hH := hHn
                have hB := hBn
                have hD := hDn
                have hC := hCn
                clear hHn hBn hDn hCn
                generalize w6.heap.size = gC at hC geC hne ⊢
                refine wpAnyH_ready (rs := [8]) (by kernel_rfl) (by simp) ?_
                refine AllReadyH.cons rfl (fun K hK => ?_) AllReadyH.nil
                rw [if_pos (by kernel_rfl)]
                refine wp_store_row 27 (.tmp 5) (.tmp 15) rfl gC (By Y 32).toArray rfl rfl 27 _ hC (key_info _) (By_sz _ _) (By_one32 _) ?_
                have hC2 := hC.setRow (By Y 32)
                have hD2 := hD.setRowOther (k := gC) hne.symm (By Y 32).toArray
                have hH2 := below_setRow (g := gC) hH geC (By Y 32).toArray
                refine hK.out _ _ hH2 (fun hHeld => ?_)
                clear hK K
                refine wpAnyH_ready (rs := [9]) (by kernel_rfl) (by simp) ?_
                refine AllReadyH.cons rfl (fun K hK => ?_) AllReadyH.nil
                rw [if_pos (by kernel_rfl)]
                refine wp_store_row 30 (.tmp 6) (.tmp 19) rfl gD (SL F S).toArray rfl rfl 30 _ hD2 (sig_info _ _) (SL_sz _ _ _ _) (SL_one _ _) ?_
                have hD3 := hD2.setRow (SL F S)
                have hC3 := hC2.setRowOther (k := gD) hne (SL F S).toArray
                have hH3 := below_setRow (g := gD) hH2 geD (SL F S).toArray
                refine hK.out _ _ hH3 (fun hHeld => ?_)
                clear hK K
                refine wpAnyH_done (by kernel_rfl) ?_ _
                exact ⟨rfl, gC, gD, _, rfl, hH3, geC, geD, hne, hC3, hD3⟩
          · rw [if_pos (by kernel_rfl)]
            refine wp_allocK 27 (By 0 32) rfl key_alloc ?_
            have hb := Below.alloc1 w2 (.cells (By 0 32).toArray 27)
            have hCn := Row.new w2 (By 0 32) 27
            have hBn := hB.belowAll hb
            have hHn := hH.trans (hb.mono hH.size)
            have geC : W.heap.size ≤ w2.heap.size := hH.size
            refine hK.out _ _ hHn (fun _ => ?_)
            clear hK K
            generalize w2.alloc (.cells (By 0 32).toArray 27) = w8 at hHn hBn hCn ⊢
            clear hb hH hB
            have hH := hHn
            have hB := hBn
            have hC := hCn
            clear hHn hBn hCn
            generalize w2.heap.size = gC at hC geC ⊢
            refine wpAnyH_ready (rs := [5, 7]) (by kernel_rfl) (by simp) ?_
            refine AllReadyH.cons rfl (fun K hK => ?_) (AllReadyH.cons rfl (fun K hK => ?_) AllReadyH.nil)
            · rw [if_pos (by kernel_rfl)]
              go_simp
              refine (HSG.out _ (HV.out.belowAll hH) _ _ _ 1 1 hB (HPA.out.belowAll hH) (by decide) (by simp)).mono ?_
              rintro e w9 ⟨rfl, hb⟩
              have hBn := hB.belowAll hb
              have hCn := hC.belowAll hb
              have hHn := hH.trans (hb.mono hH.size)
              refine hK.out _ _ hHn (fun _ => ?_)
              clear hK K
              clear hb hH hB hC
              have hH := hHn
              have hB := hBn
              have hC := hCn
              clear hHn hBn hCn
              refine wpAnyH_ready (rs := [7]) (by kernel_rfl) (by simp) ?_
              refine AllReadyH.cons rfl (fun K hK => ?_) AllReadyH.nil
              · rw [if_pos (by kernel_rfl)]
                refine wp_allocK 30 (SL 0 0) rfl sig_alloc ?_
                have hb := Below.alloc1 w9 (.cells (SL 0 0).toArray 30)
                have hDn := Row.new w9 (SL 0 0) 30
                have hBn := hB.belowAll hb
                have hCn := hC.belowAll hb
                have hHn := hH.trans (hb.mono hH.size)
                have geD : W.heap.size ≤ w9.heap.size := hH.size
                have hlt := hC.lt
                have hne : gC ≠ w9.heap.size := by omega
                clear hlt
                refine hK.out _ _ hHn (fun _ => ?_)
                clear hK K
                generalize w9.alloc (.cells (SL 0 0).toArray 30) = w10 at hHn hBn hCn hDn ⊢
                clear hb hH hB hC
                have hH := hHn
                have hB := hBn
                have hC := hCn
                have hD := hDn
                clear hHn hBn hCn hDn
                generalize w9.heap.size = gD at hD geD hne ⊢
                refine wpAnyH_ready (rs := [8]) (by kernel_rfl) (by simp) ?_
                refine AllReadyH.cons rfl (fun K hK => ?_) AllReadyH.nil
                rw [if_pos (by kernel_rfl)]
                refine wp_store_row 27 (.tmp 5) (.tmp 15) rfl gC (By Y 32).toArray rfl rfl 27 _ hC (key_info _) (By_sz _ _) (By_one32 _) ?_
                have hC2 := hC.setRow (By Y 32)
                have hD2 := hD.setRowOther (k := gC) hne.symm (By Y 32).toArray
                have hH2 := below_setRow (g := gC) hH geC (By Y 32).toArray
                refine hK.out _ _ hH2 (fun hHeld => ?_)
                clear hK K
                refine wpAnyH_ready (rs := [9]) (by kernel_rfl) (by simp) ?_
                refine AllReadyH.cons rfl (fun K hK => ?_) AllReadyH.nil
                rw [if_pos (by kernel_rfl)]
                refine wp_store_row 30 (.tmp 6) (.tmp 19) rfl gD (SL F S).toArray rfl rfl 30 _ hD2 (sig_info _ _) (SL_sz _ _ _ _) (SL_one _ _) ?_
                have hD3 := hD2.setRow (SL F S)
                have hC3 := hC2.setRowOther (k := gD) hne (SL F S).toArray
                have hH3 := below_setRow (g := gD) hH2 geD (SL F S).toArray
                refine hK.out _ _ hH3 (fun hHeld => ?_)
                clear hK K
                refine wpAnyH_done (by kernel_rfl) ?_ _
                exact ⟨rfl, gC, gD, _, rfl, hH3, geC, geD, hne, hC3, hD3⟩
            · rw [if_pos (by kernel_rfl)]
              refine wp_allocK 30 (SL 0 0) rfl sig_alloc ?_
              have hb := Below.alloc1 w8 (.cells (SL 0 0).toArray 30)
              have hDn := Row.new w8 (SL 0 0) 30
              have hBn := hB.belowAll hb
              have hCn := hC.belowAll hb
              have hHn := hH.trans (hb.mono hH.size)
              have geD : W.heap.size ≤ w8.heap.size := hH.size
              have hlt := hC.lt
              have hne : gC ≠ w8.heap.size := by omega
              clear hlt
              refine hK.out _ _ hHn (fun _ => ?_)
              clear hK K
              generalize w8.alloc (.cells (SL 0 0).toArray 30) = w11 at hHn hBn hCn hDn ⊢
              clear hb hH hB hC
              have hH := hHn
              have hB := hBn
              have hC := hCn
              have hD := hDn
              clear hHn hBn hCn hDn
              generalize w8.heap.size = gD at hD geD hne ⊢
              refine wpAnyH_ready (rs := [5]) (by kernel_rfl) (by simp) ?_
              refine AllReadyH.cons rfl (fun K hK => ?_) AllReadyH.nil
              · rw [if_pos (by kernel_rfl)]
                go_simp
                refine (HSG.out _ (HV.out.belowAll hH) _ _ _ 1 1 hB (HPA.out.belowAll hH) (by decide) (by simp)).mono ?_
                rintro e w12 ⟨rfl, hb⟩
                have hBn := hB.belowAll hb
                have hCn := hC.belowAll hb
                have hDn := hD.belowAll hb
                have hHn := hH.trans (hb.mono hH.size)
                refine hK.out _ _ hHn (fun _ => ?_)
                clear hK K
                clear hb hH hB hC hD
                have hH := hHn
                have hB := hBn
                have hC := hCn
                have hD := hDn
                clear hHn hBn hCn hDn
                refine wpAnyH_ready (rs := [8]) (by kernel_rfl) (by simp) ?_
                refine AllReadyH.cons rfl (fun K hK => ?_) AllReadyH.nil
                rw [if_pos (by kernel_rfl)]
                refine wp_store_row 27 (.tmp 5) (.tmp 15) rfl gC (By Y 32).toArray rfl rfl 27 _ hC (key_info _) (By_sz _ _) (By_one32 _) ?_
                have hC2 := hC.setRow (By Y 32)
                have hD2 := hD.setRowOther (k := gC) hne.symm (By Y 32).toArray
                have hH2 := below_setRow (g := gC) hH geC (By Y 32).toArray
                refine hK.out _ _ hH2 (fun hHeld => ?_)
                clear hK K
                refine wpAnyH_ready (rs := [9]) (by kernel_rfl) (by simp) ?_
                refine AllReadyH.cons rfl (fun K hK => ?_) AllReadyH.nil
                rw [if_pos (by kernel_rfl)]
                refine wp_store_row 30 (.tmp 6) (.tmp 19) rfl gD (SL F S).toArray rfl rfl 30 _ hD2 (sig_info _ _) (SL_sz _ _ _ _) (SL_one _ _) ?_
                have hD3 := hD2.setRow (SL F S)
                have hC3 := hC2.setRowOther (k := gD) hne (SL F S).toArray
                have hH3 := below_setRow (g := gD) hH2 geD (SL F S).toArray
                refine hK.out _ _ hH3 (fun hHeld => ?_)
                clear hK K
                refine wpAnyH_done (by kernel_rfl) ?_ _
                exact ⟨rfl, gC, gD, _, rfl, hH3, geC, geD, hne, hC3, hD3⟩
          · rw [if_pos (by kernel_rfl)]
            refine wp_allocK 30 (SL 0 0) rfl sig_alloc ?_
            have hb := Below.alloc1 w2 (.cells (SL 0 0).toArray 30)
            have hDn := Row.new w2 (SL 0 0) 30
            have hBn := hB.belowAll hb
            have hHn := hH.trans (hb.mono hH.size)
            have geD : W.heap.size ≤ w2.heap.size := hH.size
            refine hK.out _ _ hHn (fun _ => ?_)
            clear hK K
            generalize w2.alloc (.cells (SL 0 0).toArray 30) = w13 at hHn hBn hDn ⊢
            clear hb hH hB
            have hH := hHn
            have hB := hBn
            have hD := hDn
            clear hHn hBn hDn
            generalize w2.heap.size = gD at hD geD ⊢
            refine wpAnyH_ready (rs := [5, 6]) (by kernel_rfl) (by simp) ?_
            refine AllReadyH.cons rfl (fun K hK => ?_) (AllReadyH.cons rfl (fun K hK => ?_) AllReadyH.nil)
            · rw [if_pos (by kernel_rfl)]
              go_simp
              refine (HSG.out _ (HV.out.belowAll hH) _ _ _ 1 1 hB (HPA.out.belowAll hH) (by decide) (by simp)).mono ?_
              rintro e w14 ⟨rfl, hb⟩
              have hBn := hB.belowAll hb
              have hDn := hD.belowAll hb
              have hHn := hH.trans (hb.mono hH.size)
              refine hK.out _ _ hHn (fun _ => ?_)
              clear hK K
              clear hb hH hB hD
              have hH := hHn
              have hB := hBn
              have hD := hDn
              clear hHn hBn hDn
              refine wpAnyH_ready (rs := [6]) (by kernel_rfl) (by simp) ?_
              refine AllReadyH.cons rfl (fun K hK => ?_) AllReadyH.nil
              · rw [if_pos (by kernel_rfl)]
                refine wp_allocK 27 (By 0 32) rfl key_alloc ?_
                have hb := Below.alloc1 w14 (.cells (By 0 32).toArray 27)
                have hCn := Row.new w14 (By 0 32) 27
                have hBn := hB.belowAll hb
                have hDn := hD.belowAll hb
                have hHn := hH.trans (hb.mono hH.size)
                have geC : W.heap.size ≤ w14.heap.size := hH.size
                have hlt := hD.lt
                have hne : w14.heap.size ≠ gD := by omega
                clear hlt
                refine hK.out _ _ hHn (fun _ => ?_)
                clear hK K
                generalize w14.alloc (.cells (By 0 32).toArray 27) = w15 at hHn hBn hDn hCn ⊢
                clear hb hH hB hD
                have hH := hHn
                have hB := hBn
                have hD := hDn
                have hC := hCn
                clear hHn hBn hDn hCn
                generalize w14.heap.size = gC at hC geC hne ⊢
                refine wpAnyH_ready (rs := [8]) (by kernel_rfl) (by simp) ?_
                refine AllReadyH.cons rfl (fun K hK => ?_) AllReadyH.nil
                rw [if_pos (by kernel_rfl)]
                refine wp_store_row 27 (.tmp 5) (.tmp 15) rfl gC (By Y 32).toArray rfl rfl 27 _ hC (key_info _) (By_sz _ _) (By_one32 _) ?_
                have hC2 := hC.setRow (By Y 32)
                have hD2 := hD.setRowOther (k := gC) hne.symm (By Y 32).toArray
                have hH2 := below_setRow (g := gC) hH geC (By Y 32).toArray
                refine hK.out _ _ hH2 (fun hHeld => ?_)
                clear hK K
                refine wpAnyH_ready (rs := [9]) (by kernel_rfl) (by simp) ?_
                refine AllReadyH.cons rfl (fun K hK => ?_) AllReadyH.nil
                rw [if_pos (by kernel_rfl)]
                refine wp_store_row 30 (.tmp 6) (.tmp 19) rfl gD (SL F S).toArray rfl rfl 30 _ hD2 (sig_info _ _) (SL_sz _ _ _ _) (SL_one _ _) ?_
                have hD3 := hD2.setRow (SL F S)
                have hC3 := hC2.setRowOther (k := gD) hne (SL F S).toArray
                have hH3 := below_setRow (g := gD) hH2 geD (SL F S).toArray
                refine hK.out _ _ hH3 (fun hHeld => ?_)
                clear hK K
                refine wpAnyH_done (by kernel_rfl) ?_ _
                exact ⟨rfl, gC, gD, _, rfl, hH3, geC, geD, hne, hC3, hD3⟩
            · rw [if_pos (by kernel_rfl)]
              refine wp_allocK 27 (By 0 32) rfl key_alloc ?_
              have hb := Below.alloc1 w13 (.cells (By 0 32).toArray 27)
              have hCn := Row.new w13 (By 0 32) 27
              have hBn := hB.belowAll hb
              have hDn := hD.belowAll hb
              have hHn := hH.trans (hb.mono hH.size)
              have geC : W.heap.size ≤ w13.heap.size := hH.size
              have hlt := hD.lt
              have hne : w13.heap.size ≠ gD := by omega
              clear hlt
              refine hK.out _ _ hHn (fun _ => ?_)
              clear hK K
              generalize w13.alloc (.cells (By 0 32).toArray 27) = w16 at hHn hBn hDn hCn ⊢
              clear hb hH hB hD
              have hH := hHn
              have hB := hBn
              have hD := hDn
              have hC := hCn
              clear hHn hBn hDn hCn
              generalize w13.heap.size = gC at hC geC hne ⊢
              refine wpAnyH_ready (rs := [5]) (by kernel_rfl) (by simp) ?_
              refine AllReadyH.cons rfl (fun K hK => ?_) AllReadyH.nil
              · rw [if_pos (by kernel_rfl)]
                go_simp
                refine (HSG.out _ (HV.out.belowAll hH) _ _ _ 1 1 hB (HPA.out.belowAll hH) (by decide) (by simp)).mono ?_
                rintro e w17 ⟨rfl, hb⟩
                have hBn := hB.belowAll hb
                have hDn := hD.belowAll hb
                have hCn := hC.belowAll hb
                have hHn := hH.trans (hb.mono hH.size)
                refine hK.out _ _ hHn (fun _ => ?_)
                clear hK K
                clear hb hH hB hD hC
                have hH := hHn
                have hB := hBn
                have hD := hDn
                have hC := hCn
                clear hHn hBn hDn hCn
                refine wpAnyH_ready (rs := [8]) (by kernel_rfl) (by simp) ?_
                refine AllReadyH.cons rfl (fun K hK => ?_) AllReadyH.nil
                rw [if_pos (by kernel_rfl)]
                refine wp_store_row 27 (.tmp 5) (.tmp 15) rfl gC (By Y 32).toArray rfl rfl 27 _ hC (key_info _) (By_sz _ _) (By_one32 _) ?_
                have hC2 := hC.setRow (By Y 32)
                have hD2 := hD.setRowOther (k := gC) hne.symm (By Y 32).toArray
                have hH2 := below_setRow (g := gC) hH geC (By Y 32).toArray
                refine hK.out _ _ hH2 (fun hHeld => ?_)
                clear hK K
                refine wpAnyH_ready (rs := [9]) (by kernel_rfl) (by simp) ?_
                refine AllReadyH.cons rfl (fun K hK => ?_) AllReadyH.nil
                rw [if_pos (by kernel_rfl)]
                refine wp_store_row 30 (.tmp 6) (.tmp 19) rfl gD (SL F S).toArray rfl rfl 30 _ hD2 (sig_info _ _) (SL_sz _ _ _ _) (SL_one _ _) ?_
                have hD3 := hD2.setRow (SL F S)
                have hC3 := hC2.setRowOther (k := gD) hne (SL F S).toArray
                have hH3 := below_setRow (g := gD) hH2 geD (SL F S).toArray
                refine hK.out _ _ hH3 (fun hHeld => ?_)
                clear hK K
                refine wpAnyH_done (by kernel_rfl) ?_ _
                exact ⟨rfl, gC, gD, _, rfl, hH3, geC, geD, hne, hC3, hD3⟩
        · rw [if_pos (by kernel_rfl)]
          refine wp_allocK 27 (By 0 32) rfl key_alloc ?_
          have hb := Below.alloc1 w1 (.cells (By 0 32).toArray 27)
          have hCn := Row.new w1 (By 0 32) 27
          have hHn := hH.trans (hb.mono hH.size)
          have geC : W.heap.size ≤ w1.heap.size := hH.size
          refine hK.out _ _ hHn (fun _ => ?_)
          clear hK K
          generalize w1.alloc (.cells (By 0 32).toArray 27) = w18 at hHn hCn ⊢
          clear hb hH
          have hH := hHn
          have hC := hCn
          clear hHn hCn
          generalize w1.heap.size = gC at hC geC ⊢
          refine wpAnyH_ready (rs := [4, 7]) (by kernel_rfl) (by simp) ?_
          refine AllReadyH.cons rfl (fun K hK => ?_) (AllReadyH.cons rfl (fun K hK => ?_) AllReadyH.nil)
          · rw [if_pos (by kernel_rfl)]
            refine wp_buildOne (.tmp 17) rfl A1 n1 c1 rfl ?_
            have hb := Below.alloc1 w18 (.cells #[.slice A1 n1 c1] 24)
            have hBn : Rd (w18.alloc (.cells #[.slice A1 n1 c1] 24)) (fun _ => True) (some ⟨w18.heap.size, 0, none⟩) 1 [.slice A1 n1 c1] := one_row
            have hCn := hC.belowAll hb
            have hHn := hH.trans (hb.mono hH.size)
            refine hK.out _ _ hHn (fun _ => ?_)
            clear hK K
            generalize w18.alloc (.cells #[.slice A1 n1 c1] 24) = w19 at hHn hCn hBn ⊢
            clear hb hH hC
            have hH := hHn
            have hC := hCn
            have hB := hBn
            clear hHn hCn hBn
            refine wpAnyH_ready (rs := [5, 7]) (by kernel_rfl) (by simp) ?_
            refine AllReadyH.cons rfl (fun K hK => ?_) (AllReadyH.cons rfl (fun K hK => ?_) AllReadyH.nil)
            · rw [if_pos (by kernel_rfl)]
              go_simp
              refine (HSG.out _ (HV.out.belowAll hH) _ _ _ 1 1 hB (HPA.out.belowAll hH) (by decide) (by simp)).mono ?_
              rintro e w20 ⟨rfl, hb⟩
              have hCn := hC.belowAll hb
              have hBn := hB.belowAll hb
              have hHn := hH.trans (hb.mono hH.size)
              refine hK.out _ _ hHn (fun _ => ?_)
              clear hK K
              clear hb hH hC hB
              have hH := hHn
              have hC := hCn
              have hB := hBn
              clear hHn hCn hBn
              refine wpAnyH_ready (rs := [7]) (by kernel_rfl) (by simp) ?_
              refine AllReadyH.cons rfl (fun K hK => ?_) AllReadyH.nil
              · rw [if_pos (by kernel_rfl)]
                refine wp_allocK 30 (SL 0 0) rfl sig_alloc ?_
                have hb := Below.alloc1 w20 (.cells (SL 0 0).toArray 30)
                have hDn := Row.new w20 (SL 0 0) 30
                have hCn := hC.belowAll hb
                have hBn := hB.belowAll hb
                have hHn := hH.trans (hb.mono hH.size)
                have geD : W.heap.size ≤ w20.heap.size := hH.size
                have hlt := hC.lt
                have hne : gC ≠ w20.heap.size := by omega
                clear hlt
                refine hK.out _ _ hHn (fun _ => ?_)
                clear hK K
                generalize w20.alloc (.cells (SL 0 0).toArray 30) = w21 at hHn hCn hBn hDn ⊢
                clear hb hH hC hB
                have hH := hHn
                have hC := hCn
                have hB := hBn
                have hD := hDn
                clear hHn hCn hBn hDn
                generalize w20.heap.size = gD at hD geD hne ⊢
                refine wpAnyH_ready (rs := [8]) (by kernel_rfl) (by simp) ?_
                refine AllReadyH.cons rfl (fun K hK => ?_) AllReadyH.nil
                rw [if_pos (by kernel_rfl)]
                refine wp_store_row 27 (.tmp 5) (.tmp 15) rfl gC (By Y 32).toArray rfl rfl 27 _ hC (key_info _) (By_sz _ _) (By_one32 _) ?_
                have hC2 := hC.setRow (By Y 32)
                have hD2 := hD.setRowOther (k := gC) hne.symm (By Y 32).toArray
                have hH2 := below_setRow (g := gC) hH geC (By Y 32).toArray
                refine hK.out _ _ hH2 (fun hHeld => ?_)
                clear hK K
                refine wpAnyH_ready (rs := [9]) (by kernel_rfl) (by simp) ?_
                refine AllReadyH.cons rfl (fun K hK => ?_) AllReadyH.nil
                rw [if_pos (by kernel_rfl)]
                refine wp_store_row 30 (.tmp 6) (.tmp 19) rfl gD (SL F S).toArray rfl rfl 30 _ hD2 (sig_info _ _) (SL_sz _ _ _ _) (SL_one _ _) ?_
                have hD3 := hD2.setRow (SL F S)
                have hC3 := hC2.setRowOther (k := gD) hne (SL F S).toArray
                have hH3 := below_setRow (g := gD) hH2 geD (SL F S).toArray
                refine hK.out _ _ hH3 (fun hHeld => ?_)
                clear hK K
                refine wpAnyH_done (by kernel_rfl) ?_ _
                exact ⟨rfl, gC, gD, _, rfl, hH3, geC, geD, hne, hC3, hD3⟩
            · rw [if_pos (by kernel_rfl)]
              refine wp_allocK 30 (SL 0 0) rfl sig_alloc ?_
              have hb := Below.alloc1 w19 (.cells (SL 0 0).toArray 30)
              have hDn := Row.new w19 (SL 0 0) 30
              have hCn := hC.belowAll hb
              have hBn := hB.belowAll hb
              have hHn := hH.trans (hb.mono hH.size)
              have geD : W.heap.size ≤ w19.heap.size := hH.size
              have hlt := hC.lt
              have hne : gC ≠ w19.heap.size := by omega
              clear hlt
              refine hK.out _ _ hHn (fun _ => ?_)
              clear hK K
              generalize w19.alloc (.cells (SL 0 0).toArray 30) = w22 at hHn hCn hBn hDn ⊢
              clear hb hH hC hB
              have hH := hHn
              have hC := hCn
              have hB := hBn
              have hD := hDn
              clear hHn hCn hBn hDn
              generalize w19.heap.size = gD at hD geD hne ⊢
              refine wpAnyH_ready (rs := [5]) (by kernel_rfl) (by simp) ?_
              refine AllReadyH.cons rfl (fun K hK => ?_) AllReadyH.nil
              · rw [if_pos (by kernel_rfl)]
                go_simp
                refine (HSG.out _ (HV.out.belowAll hH) _ _ _ 1 1 hB (HPA.out.belowAll hH) (by decide) (by simp)).mono ?_
                rintro e w23 ⟨rfl, hb⟩
                have hCn := hC.belowAll hb
                have hBn := hB.belowAll hb
                have hDn := hD.belowAll hb
                have hHn := hH.trans (hb.mono hH.size)
                refine hK.out _ _ hHn (fun _ => ?_)
                clear hK K
                clear hb hH hC hB hD
                have hH := hHn
                have hC := hCn
                have hB := hBn
                have hD := hDn
                clear hHn hCn hBn hDn
                refine wpAnyH_ready (rs := [8]) (by kernel_rfl) (by simp) ?_
                refine AllReadyH.cons rfl (fun K hK => ?_) AllReadyH.nil
                rw [if_pos (by kernel_rfl)]
                refine wp_store_row 27 (.tmp 5) (.tmp 15) rfl gC (By Y 32).toArray rfl rfl 27 _ hC (key_info _) (By_sz _ _) (By_one32 _) ?_
                have hC2 := hC.setRow (By Y 32)
                have hD2 := hD.setRowOther (k := gC) hne.symm (By Y 32).toArray
                have hH2 := below_setRow (g := gC) hH geC (By Y 32).toArray
                refine hK.out _ _ hH2 (fun hHeld => ?_)
                clear hK K
                refine wpAnyH_ready (rs := [9]) (by kernel_rfl) (by simp) ?_
                refine AllReadyH.cons rfl (fun K hK => ?_) AllReadyH.nil
                rw [if_pos (by kernel_rfl)]
                refine wp_store_row 30 (.tmp 6) (.tmp 19) rfl gD (SL F S).toArray rfl rfl 30 _ hD2 (sig_info _ _) (SL_sz _ _ _ _) (SL_one _ _) ?_
                have hD3 := hD2.setRow (SL F S)
                have hC3 := hC2.setRowOther (k := gD) hne (SL F S).toArray
                have hH3 := below_setRow (g := gD) hH2 geD (SL F S).toArray
                refine hK.out _ _ hH3 (fun hHeld => ?_)
                clear hK K
                refine wpAnyH_done (by kernel_rfl) ?_ _
                exact ⟨rfl, gC, gD, _, rfl, hH3, geC, geD, hne, hC3, hD3⟩
          · rw [if_pos (by kernel_rfl)]
            refine wp_allocK 30 (SL 0 0) rfl sig_alloc ?_
            have hb := Below.alloc1 w18 (.cells (SL 0 0).toArray 30)
            have hDn := Row.new w18 (SL 0 0) 30
            have hCn := hC.belowAll hb
            have hHn := hH.trans (hb.mono hH.size)
            have geD : W.heap.size ≤ w18.heap.size := hH.size
            have hlt := hC.lt
            have hne : gC ≠ w18.heap.size := by omega
            clear hlt
            refine hK.out _ _ hHn (fun _ => ?_)
            clear hK K
            generalize w18.alloc (.cells (SL 0 0).toArray 30) = w24 at hHn hCn hDn ⊢
            clear hb hH hC
            have hH := hHn
            have hC := hCn
            have hD := hDn
            clear hHn hCn hDn
            generalize w18.heap.size = gD at hD geD hne ⊢
            refine wpAnyH_ready (rs := [4]) (by kernel_rfl) (by simp) ?_
            refine AllReadyH.cons rfl (fun K hK => ?_) AllReadyH.nil
            · rw [if_pos (by kernel_rfl)]
              refine wp_buildOne (.tmp 17) rfl A1 n1 c1 rfl ?_
              have hb := Below.alloc1 w24 (.cells #[.slice A1 n1 c1] 24)
              have hBn : Rd (w24.alloc (.cells #[.slice A1 n1 c1] 24)) (fun _ => True) (some ⟨w24.heap.size, 0, none⟩) 1 [.slice A1 n1 c1] := one_row
              have hCn := hC.belowAll hb
              have hDn := hD.belowAll hb
              have hHn := hH.trans (hb.mono hH.size)
              refine hK.out _ _ hHn (fun _ => ?_)
              clear hK K
              generalize w24.alloc (.cells #[.slice A1 n1 c1] 24) = w25 at hHn hCn hDn hBn ⊢
              clear hb hH hC hD
              have hH := hHn
              have hC := hCn
              have hD := hDn
              have hB := hBn
              clear hHn hCn hDn hBn
              refine wpAnyH_ready (rs := [5]) (by kernel_rfl) (by simp) ?_
              refine AllReadyH.cons rfl (fun K hK => ?_) AllReadyH.nil
              · rw [if_pos (by kernel_rfl)]
                go_simp
                refine (HSG.out _ (HV.out.belowAll hH) _ _ _ 1 1 hB (HPA.out.belowAll hH) (by decide) (by simp)).mono ?_
                rintro e w26 ⟨rfl, hb⟩
                have hCn := hC.belowAll hb
                have hDn := hD.belowAll hb
                have hBn := hB.belowAll hb
                have hHn := hH.trans (hb.mono hH.size)
                refine hK.out _ _ hHn (fun _ => ?_)
                clear hK K
                clear hb hH hC hD hB
                have hH := hHn
                have hC := hCn
                have hD := hDn
                have hB := hBn
                clear hHn hCn hDn hBn
                refine wpAnyH_ready (rs := [8]) (by kernel_rfl) (by simp) ?_
                refine AllReadyH.cons rfl (fun K hK => ?_) AllReadyH.nil
                rw [if_pos (by kernel_rfl)]
                refine wp_store_row 27 (.tmp 5) (.tmp 15) rfl gC (By Y 32).toArray rfl rfl 27 _ hC (key_info _) (By_sz _ _) (By_one32 _) ?_
                have hC2 := hC.setRow (By Y 32)
                have hD2 := hD.setRowOther (k := gC) hne.symm (By Y 32).toArray
                have hH2 := below_setRow (g := gC) hH geC (By Y 32).toArray
                refine hK.out _ _ hH2 (fun hHeld => ?_)
                clear hK K
                refine wpAnyH_ready (rs := [9]) (by kernel_rfl) (by simp) ?_
                refine AllReadyH.cons rfl (fun K hK => ?_) AllReadyH.nil
                rw [if_pos (by kernel_rfl)]
                refine wp_store_row 30 (.tmp 6) (.tmp 19) rfl gD (SL F S).toArray rfl rfl 30 _ hD2 (sig_info _ _) (SL_sz _ _ _ _) (SL_one _ _) ?_
                have hD3 := hD2.setRow (SL F S)
                have hC3 := hC2.setRowOther (k := gD) hne (SL F S).toArray
                have hH3 := below_setRow (g := gD) hH2 geD (SL F S).toArray
                refine hK.out _ _ hH3 (fun hHeld => ?_)
                clear hK K
                refine wpAnyH_done (by kernel_rfl) ?_ _
                exact ⟨rfl, gC, gD, _, rfl, hH3, geC, geD, hne, hC3, hD3⟩
        · rw [if_pos (by kernel_rfl)]
          refine wp_allocK 30 (SL 0 0) rfl sig_alloc ?_
          have hb := Below.alloc1 w1 (.cells (SL 0 0).toArray 30)
          have hDn := Row.new w1 (SL 0 0) 30
          have hHn := hH.trans (hb.mono hH.size)
          have geD : W.heap.size ≤ w1.heap.size := hH.size
          refine hK.out _ _ hHn (fun _ => ?_)
          clear hK K
          generalize w1.alloc (.cells (SL 0 0).toArray 30) = w27 at hHn hDn ⊢
          clear hb hH
          have hH := hHn
          have hD := hDn
          clear hHn hDn
          generalize w1.heap.size = gD at hD geD ⊢
          refine wpAnyH_ready (rs := [4, 6]) (by kernel_rfl) (by simp) ?_
          refine AllReadyH.cons rfl (fun K hK => ?_) (AllReadyH.cons rfl (fun K hK => ?_) AllReadyH.nil)
          · rw [if_pos (by kernel_rfl)]
            refine wp_buildOne (.tmp 17) rfl A1 n1 c1 rfl ?_
            have hb := Below.alloc1 w27 (.cells #[.slice A1 n1 c1] 24)
            have hBn : Rd (w27.alloc (.cells #[.slice A1 n1 c1] 24)) (fun _ => True) (some ⟨w27.heap.size, 0, none⟩) 1 [.slice A1 n1 c1] := one_row
            have hDn := hD.belowAll hb
            have hHn := hH.trans (hb.mono hH.size)
            refine hK.out _ _ hHn (fun _ => ?_)
            clear hK K
            generalize w27.alloc (.cells #[.slice A1 n1 c1] 24) = w28 at hHn hDn hBn ⊢
            clear hb hH hD
            have hH := hHn
            have hD := hDn
            have hB := hBn
            clear hHn hDn hBn
            refine wpAnyH_ready (rs := [5, 6]) (by kernel_rfl) (by simp) ?_
            refine AllReadyH.cons rfl (fun K hK => ?_) (AllReadyH.cons rfl (fun K hK => ?_) AllReadyH.nil)
            · rw [if_pos (by kernel_rfl)]
              go_simp
              refine (HSG.out _ (HV.out.belowAll hH) _ _ _ 1 1 hB (HPA.out.belowAll hH) (by decide) (by simp)).mono ?_
              rintro e w29 ⟨rfl, hb⟩
              have hDn := hD.belowAll hb
              have hBn := hB.belowAll hb
              have hHn := hH.trans (hb.mono hH.size)
              refine hK.out _ _ hHn (fun _ => ?_)
              clear hK K
              clear hb hH hD hB
              have hH := hHn
              have hD := hDn
              have hB := hBn
              clear hHn hDn hBn
              refine wpAnyH_ready (rs := [6]) (by kernel_rfl) (by simp) ?_
              refine AllReadyH.cons rfl (fun K hK => ?_) AllReadyH.nil
              · rw [if_pos (by kernel_rfl)]
                refine wp_allocK 27 (By 0 32) rfl key_alloc ?_
                have hb := Below.alloc1 w29 (.cells (By 0 32).toArray 27)
                have hCn := Row.new w29 (By 0 32) 27
                have hDn := hD.belowAll hb
                have hBn := hB.belowAll hb
                have hHn := hH.trans (hb.mono hH.size)
                have geC : W.heap.size ≤ w29.heap.size := hH.size
                have hlt := hD.lt
                have hne : w29.heap.size ≠ gD := by omega
                clear hlt
                refine hK.out _ _ hHn (fun _ => ?_)
                clear hK K
                generalize w29.alloc (.cells (By 0 32).toArray 27) = w30 at hHn hDn hBn hCn ⊢
                clear hb hH hD hB
                have hH := hHn
                have hD := hDn
                have hB := hBn
                have hC := hCn
                clear hHn hDn hBn hCn
                generalize w29.heap.size = gC at hC geC hne ⊢
                refine wpAnyH_ready (rs := [8]) (by kernel_rfl) (by simp) ?_
                refine AllReadyH.cons rfl (fun K hK => ?_) AllReadyH.nil
                rw [if_pos (by kernel_rfl)]
                refine wp_store_row 27 (.tmp 5) (.tmp 15) rfl gC (By Y 32).toArray rfl rfl 27 _ hC (key_info _) (By_sz _ _) (By_one32 _) ?_
                have hC2 := hC.setRow (By Y 32)
                have hD2 := hD.setRowOther (k := gC) hne.symm (By Y 32).toArray
                have hH2 := below_setRow (g := gC) hH geC (By Y 32).toArray
                refine hK.out _ _ hH2 (fun hHeld => ?_)
                clear hK K
                refine wpAnyH_ready (rs := [9]) (by kernel_rfl) (by simp) ?_
                refine AllReadyH.cons rfl (fun K hK => ?_) AllReadyH.nil
                rw [if_pos (by kernel_rfl)]
                refine wp_store_row 30 (.tmp 6) (.tmp 19) rfl gD (SL F S).toArray rfl rfl 30 _ hD2 (sig_info _ _) (SL_sz _ _ _ _) (SL_one _ _) ?_
                have hD3 := hD2.setRow (SL F S)
                have hC3 := hC2.setRowOther (k := gD) hne (SL F S).toArray
                have hH3 := below_setRow (g := gD) hH2 geD (SL F S).toArray
                refine hK.out _ _ hH3 (fun hHeld => ?_)
                clear hK K
                refine wpAnyH_done (by kernel_rfl) ?_ _
                exact ⟨rfl, gC, gD, _, rfl, hH3, geC, geD, hne, hC3, hD3⟩
            · rw [if_pos (by kernel_rfl)]
              refine wp_allocK 27 (By 0 32) rfl key_alloc ?_
              have hb := Below.alloc1 w28 (.cells (By 0 32).toArray 27)
              have hCn := Row.new w28 (By 0 32) 27
              have hDn := hD.belowAll hb
              have hBn := hB.belowAll hb
              have hHn := hH.trans (hb.mono hH.size)
              have geC : W.heap.size ≤ w28.heap.size := hH.size
              have hlt := hD.lt
              have hne : w28.heap.size ≠ gD := by omega
              clear hlt
              refine hK.out _ _ hHn (fun _ => ?_)
              clear hK K
              generalize w28.alloc (.cells (By 0 32).toArray 27) = w31 at hHn hDn hBn hCn ⊢
              clear hb hH hD hB
              have hH := hHn
              have hD := hDn
              have hB := hBn
              have hC := hCn
              clear hHn hDn hBn hCn
              generalize w28.heap.size = gC at hC geC hne ⊢
              refine wpAnyH_ready (rs := [5]) (by kernel_rfl) (by simp) ?_
              refine AllReadyH.cons rfl (fun K hK => ?_) AllReadyH.nil
              · rw [if_pos (by kernel_rfl)]
                go_simp
                refine (HSG.out _ (HV.out.belowAll hH) _ _ _ 1 1 hB (HPA.out.belowAll hH) (by decide) (by simp)).mono ?_
                rintro e w32 ⟨rfl, hb⟩
                have hDn := hD.belowAll hb
                have hBn := hB.belowAll hb
                have hCn := hC.belowAll hb
                have hHn := hH.trans (hb.mono hH.size)
                refine hK.out _ _ hHn (fun _ => ?_)
                clear hK K
                clear hb hH hD hB hC
                have hH := hHn
                have hD := hDn
                have hB := hBn
                have hC := hCn
                clear hHn hDn hBn hCn
                refine wpAnyH_ready (rs := [8]) (by kernel_rfl) (by simp) ?_
                refine AllReadyH.cons rfl (fun K hK => ?_) AllReadyH.nil
                rw [if_pos (by kernel_rfl)]
                refine wp_store_row 27 (.tmp 5) (.tmp 15) rfl gC (By Y 32).toArray rfl rfl 27 _ hC (key_info _) (By_sz _ _) (By_one32 _) ?_
                have hC2 := hC.setRow (By Y 32)
                have hD2 := hD.setRowOther (k := gC) hne.symm (By Y 32).toArray
                have hH2 := below_setRow (g := gC) hH geC (By Y 32).toArray
                refine hK.out _ _ hH2 (fun hHeld => ?_)
                clear hK K
                refine wpAnyH_ready (rs := [9]) (by kernel_rfl) (by simp) ?_
                refine AllReadyH.cons rfl (fun K hK => ?_) AllReadyH.nil
                rw [if_pos (by kernel_rfl)]
                refine wp_store_row 30 (.tmp 6) (.tmp 19) rfl gD (SL F S).toArray rfl rfl 30 _ hD2 (sig_info _ _) (SL_sz _ _ _ _) (SL_one _ _) ?_
                have hD3 := hD2.setRow (SL F S)
                have hC3 := hC2.setRowOther (k := gD) hne (SL F S).toArray
                have hH3 := below_setRow (g := gD) hH2 geD (SL F S).toArray
                refine hK.out _ _ hH3 (fun hHeld => ?_)
                clear hK K
                refine wpAnyH_done (by kernel_rfl) ?_ _
                exact ⟨rfl, gC, gD, _, rfl, hH3, geC, geD, hne, hC3, hD3⟩
          · rw [if_pos (by kernel_rfl)]
            refine wp_allocK 27 (By 0 32) rfl key_alloc ?_
            have hb := Below.alloc1 w27 (.cells (By 0 32).toArray 27)
            have hCn := Row.new w27 (By 0 32) 27
            have hDn := hD.belowAll hb
            have hHn := hH.trans (hb.mono hH.size)
            have geC : W.heap.size ≤ w27.heap.size := hH.size
            have hlt := hD.lt
            have hne : w27.heap.size ≠ gD := by omega
            clear hlt
            refine hK.out _ _ hHn (fun _ => ?_)
            clear hK K
            generalize w27.alloc (.cells (By 0 32).toArray 27) = w33 at hHn hDn hCn ⊢
            clear hb hH hD
            have hH := hHn
            have hD := hDn
            have hC := hCn
            clear hHn hDn hCn
            generalize w27.heap.size = gC at hC geC hne ⊢
            refine wpAnyH_ready (rs := [4]) (by kernel_rfl) (by simp) ?_
            refine AllReadyH.cons rfl (fun K hK => ?_) AllReadyH.nil
            · rw [if_pos (by kernel_rfl)]
              refine wp_buildOne (.tmp 17) rfl A1 n1 c1 rfl ?_
              have hb := Below.alloc1 w33 (.cells #[.slice A1 n1 c1] 24)
              have hBn : Rd (w33.alloc (.cells #[.slice A1 n1 c1] 24)) (fun _ => True) (some ⟨w33.heap.size, 0, none⟩) 1 [.slice A1 n1 c1] := one_row
              have hDn := hD.belowAll hb
              have hCn := hC.belowAll hb
              have hHn := hH.trans (hb.mono hH.size)
              refine hK.out _ _ hHn (fun _ => ?_)
              clear hK K
              generalize w33.alloc (.cells #[.slice A1 n1 c1] 24) = w34 at hHn hDn hCn hBn ⊢
              clear hb hH hD hC
              have hH := hHn
              have hD := hDn
              have hC := hCn
              have hB := hBn
              clear hHn hDn hCn hBn
              refine wpAnyH_ready (rs := [5]) (by kernel_rfl) (by simp) ?_
              refine AllReadyH.cons rfl (fun K hK => ?_) AllReadyH.nil
              · rw [if_pos (by kernel_rfl)]
                go_simp
                refine (HSG.out _ (HV.out.belowAll hH) _ _ _ 1 1 hB (HPA.out.belowAll hH) (by decide) (by simp)).mono ?_
                rintro e w35 ⟨rfl, hb⟩
                have hDn := hD.belowAll hb
                have hCn := hC.belowAll hb
                have hBn := hB.belowAll hb
                have hHn := hH.trans (hb.mono hH.size)
                refine hK.out _ _ hHn (fun _ => ?_)
                clear hK K
                clear hb hH hD hC hB
                have hH := hHn
                have hD := hDn
                have hC := hCn
                have hB := hBn
                clear hHn hDn hCn hBn
                refine wpAnyH_ready (rs := [8]) (by kernel_rfl) (by simp) ?_
                refine AllReadyH.cons rfl (fun K hK => ?_) AllReadyH.nil
                rw [if_pos (by kernel_rfl)]
                refine wp_store_row 27 (.tmp 5) (.tmp 15) rfl gC (By Y 32).toArray rfl rfl 27 _ hC (key_info _) (By_sz _ _) (By_one32 _) ?_
                have hC2 := hC.setRow (By Y 32)
                have hD2 := hD.setRowOther (k := gC) hne.symm (By Y 32).toArray
                have hH2 := below_setRow (g := gC) hH geC (By Y 32).toArray
                refine hK.out _ _ hH2 (fun hHeld => ?_)
                clear hK K
                refine wpAnyH_ready (rs := [9]) (by kernel_rfl) (by simp) ?_
                refine AllReadyH.cons rfl (fun K hK => ?_) AllReadyH.nil
                rw [if_pos (by kernel_rfl)]
                refine wp_store_row 30 (.tmp 6) (.tmp 19) rfl gD (SL F S).toArray rfl rfl 30 _ hD2 (sig_info _ _) (SL_sz _ _ _ _) (SL_one _ _) ?_
                have hD3 := hD2.setRow (SL F S)
                have hC3 := hC2.setRowOther (k := gD) hne (SL F S).toArray
                have hH3 := below_setRow (g := gD) hH2 geD (SL F S).toArray
                refine hK.out _ _ hH3 (fun hHeld => ?_)
                clear hK K
                refine wpAnyH_done (by kernel_rfl) ?_ _
                exact ⟨rfl, gC, gD, _, rfl, hH3, geC, geD, hne, hC3, hD3⟩
      · rw [if_pos (by kernel_rfl)]
        refine wp_buildOne (.tmp 17) rfl A1 n1 c1 rfl ?_
        have hb := Below.alloc1 w0 (.cells #[.slice A1 n1 c1] 24)
        have hBn : Rd (w0.alloc (.cells #[.slice A1 n1 c1] 24)) (fun _ => True) (some ⟨w0.heap.size, 0, none⟩) 1 [.slice A1 n1 c1] := one_row
        have hHn := hH.trans (hb.mono hH.size)
        refine hK.out _ _ hHn (fun _ => ?_)
        clear hK K
        generalize w0.alloc (.cells #[.slice A1 n1 c1] 24) = w36 at hHn hBn ⊢
        clear hb hH
        have hH := hHn
        have hB := hBn
        clear hHn hBn
        refine wpAnyH_ready (rs := [1, 6, 7]) (by kernel_rfl) (by simp) ?_
        refine AllReadyH.cons rfl (fun K hK => ?_) (AllReadyH.cons rfl (fun K hK => ?_) (AllReadyH.cons rfl (fun K hK => ?_) AllReadyH.nil))
        · rw [if_pos (by kernel_rfl)]
          go_simp
          refine (HPB.out _ (HV.out.belowAll hH)).mono ?_
          rintro e w37 ⟨rfl, hb⟩
          have hBn := hB.belowAll hb
          have hHn := hH.trans (hb.mono hH.size)
          refine hK.out _ _ hHn (fun _ => ?_)
          clear hK K
          clear hb hH hB
          have hH := hHn
          have hB := hBn
          clear hHn hBn
          refine wpAnyH_ready (rs := [5, 6, 7]) (by kernel_rfl) (by simp) ?_
          refine AllReadyH.cons rfl (fun K hK => ?_) (AllReadyH.cons rfl (fun K hK => ?_) (AllReadyH.cons rfl (fun K hK => ?_) AllReadyH.nil))
          · rw [if_pos (by kernel_rfl)]
            go_simp
            refine (HSG.out _ (HV.out.belowAll hH) _ _ _ 1 1 hB (HPA.out.belowAll hH) (by decide) (by simp)).mono ?_
            rintro e w38 ⟨rfl, hb⟩
            have hBn := hB.belowAll hb
            have hHn := hH.trans (hb.mono hH.size)
            refine hK.out _ _ hHn (fun _ => ?_)
            clear hK K
            clear hb hH hB
            have hH := hHn
            have hB := hBn
            clear hHn hBn
            refine wpAnyH_ready (rs := [6, 7]) (by kernel_rfl) (by simp) ?_
            refine AllReadyH.cons rfl (fun K hK => ?_) (AllReadyH.cons rfl (fun K hK => ?_) AllReadyH.nil)
            · rw [if_pos (by kernel_rfl)]
              refine wp_allocK 27 (By 0 32) rfl key_alloc ?_
              have hb := Below.alloc1 w38 (.cells (By 0 32).toArray 27)
              have hCn := Row.new w38 (By 0 32) 27
              have hBn := hB.belowAll hb
              have hHn := hH.trans (hb.mono hH.size)
              have geC : W.heap.size ≤ w38.heap.size := hH.size
              refine hK.out _ _ hHn (fun _ => ?_)
              clear hK K
              generalize w38.alloc (.cells (By 0 32).toArray 27) = w39 at hHn hBn hCn ⊢
              clear hb hH hB
              have hH := hHn
              have hB := hBn
              have hC := hCn
              clear hHn hBn hCn
              generalize w38.heap.size = gC at hC geC ⊢
              refine wpAnyH_ready (rs := [7]) (by kernel_rfl) (by simp) ?_
              refine AllReadyH.cons rfl (fun K hK => ?_) AllReadyH.nil
              · rw [if_pos (by kernel_rfl)]
                refine wp_allocK 30 (SL 0 0) rfl sig_alloc ?_
                have hb := Below.alloc1 w39 (.cells (SL 0 0).toArray 30)
                have hDn := Row.new w39 (SL 0 0) 30
                have hBn := hB.belowAll hb
                have hCn := hC.belowAll hb
                have hHn := hH.trans (hb.mono hH.size)
                have geD : W.heap.size ≤ w39.heap.size := hH.size
                have hlt := hC.lt
                have hne : gC ≠ w39.heap.size := by omega
                clear hlt
                refine hK.out _ _ hHn (fun _ => ?_)
                clear hK K
                generalize w39.alloc (.cells (SL 0 0).toArray 30) = w40 at hHn hBn hCn hDn ⊢
                clear hb hH hB hC
                have hH := hHn
                have hB := hBn
                have hC := hCn
                have hD := hDn
                clear hHn hBn hCn hDn
                generalize w39.heap.size = gD at hD geD hne ⊢
                refine wpAnyH_ready (rs := [8]) (by kernel_rfl) (by simp) ?_
                refine AllReadyH.cons rfl (fun K hK => ?_) AllReadyH.nil
                rw [if_pos (by kernel_rfl)]
                refine wp_store_row 27 (.tmp 5) (.tmp 15) rfl gC (By Y 32).toArray rfl rfl 27 _ hC (key_info _) (By_sz _ _) (By_one32 _) ?_
                have hC2 := hC.setRow (By Y 32)
                have hD2 := hD.setRowOther (k := gC) hne.symm (By Y 32).toArray
                have hH2 := below_setRow (g := gC) hH geC (By Y 32).toArray
                refine hK.out _ _ hH2 (fun hHeld => ?_)
                clear hK K
                refine wpAnyH_ready (rs := [9]) (by kernel_rfl) (by simp) ?_
                refine AllReadyH.cons rfl (fun K hK => ?_) AllReadyH.nil
                rw [if_pos (by kernel_rfl)]
                refine wp_store_row 30 (.tmp 6) (.tmp 19) rfl gD (SL F S).toArray rfl rfl 30 _ hD2 (sig_info _ _) (SL_sz _ _ _ _) (SL_one _ _) ?_
                have hD3 := hD2.setRow (SL F S)
                have hC3 := hC2.setRowOther (k := gD) hne (SL F S).toArray
                have hH3 := below_setRow (g := gD) hH2 geD (SL F S).toArray
                refine hK.out _ _ hH3 (fun hHeld => ?_)
                clear hK K
                refine wpAnyH_done (by kernel_rfl) ?_ _
                exact ⟨rfl, gC, gD, _, rfl, hH3, geC, geD, hne, hC3, hD3⟩
            · rw [if_pos (by kernel_rfl)]
              refine wp_allocK 30 (SL 0 0) rfl sig_alloc ?_
              have hb := Below.alloc1 w38 (.cells (SL 0 0).toArray 30)
              have hDn := Row.new w38 (SL 0 0) 30
              have hBn := hB.belowAll hb
              have hHn := hH.trans (hb.mono hH.size)
              have geD : W.heap.size ≤ w38.heap.size := hH.size
              refine hK.out _ _ hHn (fun _ => ?_)
              clear hK K
              generalize w38.alloc (.cells (SL 0 0).toArray 30) = w41 at hHn hBn hDn ⊢
              clear hb hH hB
              have hH := hHn
              have hB := hBn
              have hD := hDn
              clear hHn hBn hDn
              generalize w38.heap.size = gD at hD geD ⊢
              refine wpAnyH_ready (rs := [6]) (by kernel_rfl) (by simp) ?_
              refine AllReadyH.cons rfl (fun K hK => ?_) AllReadyH.nil
              · rw [if_pos (by kernel_rfl)]
                refine wp_allocK 27 (By 0 32) rfl key_alloc ?_
                have hb := Below.alloc1 w41 (.cells (By 0 32).toArray 27)
                have hCn := Row.new w41 (By 0 32) 27
                have hBn := hB.belowAll hb
                have hDn := hD.belowAll hb
                have hHn := hH.trans (hb.mono hH.size)
                have geC : W.heap.size ≤ w41.heap.size := hH.size
                have hlt := hD.lt
                have hne : w41.heap.size ≠ gD := by omega
                clear hlt
                refine hK.out _ _ hHn (fun _ => ?_)
                clear hK K
                generalize w41.alloc (.cells (By 0 32).toArray 27) = w42 at hHn hBn hDn hCn ⊢
                clear hb hH hB hD
                have hH := hHn
                have hB := hBn
                have hD := hDn
                have hC := hCn
                clear hHn hBn hDn hCn
                generalize w41.heap.size = gC at hC geC hne ⊢
                refine wpAnyH_ready (rs := [8]) (by kernel_rfl) (by simp) ?_
                refine AllReadyH.cons rfl (fun K hK => ?_) AllReadyH.nil
                rw [if_pos (by kernel_rfl)]
                refine wp_store_row 27 (.tmp 5) (.tmp 15) rfl gC (By Y 32).toArray rfl rfl 27 _ hC (key_info _) (By_sz _ _) (By_one32 _) ?_
                have hC2 := hC.setRow (By Y 32)
                have hD2 := hD.setRowOther (k := gC) hne.symm (By Y 32).toArray
                have hH2 := below_setRow (g := gC) hH geC (By Y 32).toArray
                refine hK.out _ _ hH2 (fun hHeld => ?_)
                clear hK K
                refine wpAnyH_ready (rs := [9]) (by kernel_rfl) (by simp) ?_
                refine AllReadyH.cons rfl (fun K hK => ?_) AllReadyH.nil
                rw [if_pos (by kernel_rfl)]
                refine wp_store_row 30 (.tmp 6) (.tmp 19) rfl gD (SL F S).toArray rfl rfl 30 _ hD2 (sig_info _ _) (SL_sz _ _ _ _) (SL_one _ _) ?_
                have hD3 := hD2.setRow (SL F S)
                have hC3 := hC2.setRowOther (k := gD) hne (SL F S).toArray
                have hH3 := below_setRow (g := gD) hH2 geD (SL F S).toArray
                refine hK.out _ _ hH3 (fun hHeld => ?_)
                clear hK K
                refine wpAnyH_done (by kernel_rfl) ?_ _
                exact ⟨rfl, gC, gD, _, rfl, hH3, geC, geD, hne, hC3, hD3⟩
          · rw [if_pos (by kernel_rfl)]
            refine wp_allocK 27 (By 0 32) rfl key_alloc ?_
            have hb := Below.alloc1 w37 (.cells (By 0 32).toArray 27)
            have hCn := Row.new w37 (By 0 32) 27
            have hBn := hB.belowAll hb
            have hHn := hH.trans (hb.mono hH.size)
            have geC : W.heap.size ≤ w37.heap.size := hH.size
            refine hK.out _ _ hHn (fun _ => ?_)
            clear hK K
            generalize w37.alloc (.cells (By 0 32).toArray 27) = w43 at hHn hBn hCn ⊢
            clear hb hH hB
            have hH := hHn
            have hB := hBn
            have hC := hCn
            clear hHn hBn hCn
            generalize w37.heap.size = gC at hC geC ⊢
            refine wpAnyH_ready (rs := [5, 7]) (by kernel_rfl) (by simp) ?_
            refine AllReadyH.cons rfl (fun K hK => ?_) (AllReadyH.cons rfl (fun K hK => ?_) AllReadyH.nil)
            · rw [if_pos (by kernel_rfl)]
              go_simp
              refine (HSG.out _ (HV.out.belowAll hH) _ _ _ 1 1 hB (HPA.out.belowAll hH) (by decide) (by simp)).mono ?_
              rintro e w44 ⟨rfl, hb⟩
              have hBn := hB.belowAll hb
              have hCn := hC.belowAll hb
              have hHn := hH.trans (hb.mono hH.size)
              refine hK.out _ _ hHn (fun _ => ?_)
              clear hK K
              clear hb hH hB hC
              have hH := hHn
              have hB := hBn
              have hC := hCn
              clear hHn hBn hCn
              refine wpAnyH_ready (rs := [7]) (by kernel_rfl) (by simp) ?_
              refine AllReadyH.cons rfl (fun K hK => ?_) AllReadyH.nil
              · rw [if_pos (by kernel_rfl)]
                refine wp_allocK 30 (SL 0 0) rfl sig_alloc ?_
                have hb := Below.alloc1 w44 (.cells (SL 0 0).toArray 30)
                have hDn := Row.new w44 (SL 0 0) 30
                have hBn := hB.belowAll hb
                have hCn := hC.belowAll hb
                have hHn := hH.trans (hb.mono hH.size)
                have geD : W.heap.size ≤ w44.heap.size := hH.size
                have hlt := hC.lt
                have hne : gC ≠ w44.heap.size := by omega
                clear hlt
                refine hK.out _ _ hHn (fun _ => ?_)
                clear hK K
                generalize w44.alloc (.cells (SL 0 0).toArray 30) = w45 at hHn hBn hCn hDn ⊢
                clear hb hH hB hC
                have hH := hHn
                have hB := hBn
                have hC := hCn
                have hD := hDn
                clear hHn hBn hCn hDn
                generalize w44.heap.size = gD at hD geD hne ⊢
                refine wpAnyH_ready (rs := [8]) (by kernel_rfl) (by simp) ?_
                refine AllReadyH.cons rfl (fun K hK => ?_) AllReadyH.nil
                rw [if_pos (by kernel_rfl)]
                refine wp_store_row 27 (.tmp 5) (.tmp 15) rfl gC (By Y 32).toArray rfl rfl 27 _ hC (key_info _) (By_sz _ _) (By_one32 _) ?_
                have hC2 := hC.setRow (By Y 32)
                have hD2 := hD.setRowOther (k := gC) hne.symm (By Y 32).toArray
                have hH2 := below_setRow (g := gC) hH geC (By Y 32).toArray
                refine hK.out _ _ hH2 (fun hHeld => ?_)
                clear hK K
                refine wpAnyH_ready (rs := [9]) (by kernel_rfl) (by simp) ?_
                refine AllReadyH.cons rfl (fun K hK => ?_) AllReadyH.nil
                rw [if_pos (by kernel_rfl)]
                refine wp_store_row 30 (.tmp 6) (.tmp 19) rfl gD (SL F S).toArray rfl rfl 30 _ hD2 (sig_info _ _) (SL_sz _ _ _ _) (SL_one _ _) ?_
                have hD3 := hD2.setRow (SL F S)
                have hC3 := hC2.setRowOther (k := gD) hne (SL F S).toArray
                have hH3 := below_setRow (g := gD) hH2 geD (SL F S).toArray
                refine hK.out _ _ hH3 (fun hHeld => ?_)
                clear hK K
                refine wpAnyH_done (by kernel_rfl) ?_ _
                exact ⟨rfl, gC, gD, _, rfl, hH3, geC, geD, hne, hC3, hD3⟩
            · rw [if_pos (by kernel_rfl)]
              refine wp_allocK 30 (SL 0 0) rfl sig_alloc ?_
              have hb := Below.alloc1 w43 (.cells (SL 0 0).toArray 30)
              have hDn := Row.new w43 (SL 0 0) 30
              have hBn := hB.belowAll hb
              have hCn := hC.belowAll hb
              have hHn := hH.trans (hb.mono hH.size)
              have geD : W.heap.size ≤ w43.heap.size := hH.size
              have hlt := hC.lt
              have hne : gC ≠ w43.heap.size := by omega
              clear hlt
              refine hK.out _ _ hHn (fun _ => ?_)
              clear hK K
              generalize w43.alloc (.cells (SL 0 0).toArray 30) = w46 at hHn hBn hCn hDn ⊢
              clear hb hH hB hC
              have hH := hHn
              have hB := hBn
              have hC := hCn
              have hD := hDn
              clear hHn hBn hCn hDn
              generalize w43.heap.size = gD at hD geD hne ⊢
              refine wpAnyH_ready (rs := [5]) (by kernel_rfl) (by simp) ?_
              refine AllReadyH.cons rfl (fun K hK => ?_) AllReadyH.nil
              · rw [if_pos (by kernel_rfl)]
                go_simp
                refine (HSG.out _ (HV.out.belowAll hH) _ _ _ 1 1 hB (HPA.out.belowAll hH) (by decide) (by simp)).mono ?_
                rintro e w47 ⟨rfl, hb⟩
                have hBn := hB.belowAll hb
                have hCn := hC.belowAll hb
                have hDn := hD.belowAll hb
                have hHn := hH.trans (hb.mono hH.size)
                refine hK.out _ _ hHn (fun _ => ?_)
                clear hK K
                clear hb hH hB hC hD
                have hH := hHn
                have hB := hBn
                have hC := hCn
                have hD := hDn
                clear hHn hBn hCn hDn
                refine wpAnyH_ready (rs := [8]) (by kernel_rfl) (by simp) ?_
                refine AllReadyH.cons rfl (fun K hK => ?_) AllReadyH.nil
                rw [if_pos (by kernel_rfl)]
                refine wp_store_row 27 (.tmp 5) (.tmp 15) rfl gC (By Y 32).toArray rfl rfl 27 _ hC (key_info _) (By_sz _ _) (By_one32 _) ?_
                have hC2 := hC.setRow (By Y 32)
                have hD2 := hD.setRowOther (k := gC) hne.symm (By Y 32).toArray
                have hH2 := below_setRow (g := gC) hH geC (By Y 32).toArray
                refine hK.out _ _ hH2 (fun hHeld => ?_)
                clear hK K
                refine wpAnyH_ready (rs := [9]) (by kernel_rfl) (by simp) ?_
                refine AllReadyH.cons rfl (fun K hK => ?_) AllReadyH.nil
                rw [if_pos (by kernel_rfl)]
                refine wp_store_row 30 (.tmp 6) (.tmp 19) rfl gD (SL F S).toArray rfl rfl 30 _ hD2 (sig_info _ _) (SL_sz _ _ _ _) (SL_one _ _) ?_
                have hD3 := hD2.setRow (SL F S)
                have hC3 := hC2.setRowOther (k := gD) hne (SL F S).toArray
                have hH3 := below_setRow (g := gD) hH2 geD (SL F S).toArray
                refine hK.out _ _ hH3 (fun hHeld => ?_)
                clear hK K
                refine wpAnyH_done (by kernel_rfl) ?_ _
                exact ⟨rfl, gC, gD, _, rfl, hH3, geC, geD, hne, hC3, hD3⟩
          · rw [if_pos (by kernel_rfl)]
            refine wp_allocK 30 (SL 0 0) rfl sig_alloc ?_
            have hb := Below.alloc1 w37 (.cells (SL 0 0).toArray 30)
            have hDn := Row.new w37 (SL 0 0) 30
            have hBn := hB.belowAll hb
            have hHn := hH.trans (hb.mono hH.size)
            have geD : W.heap.size ≤ w37.heap.size := hH.size
            refine hK.out _ _ hHn (fun _ => ?_)
            clear hK K
            generalize w37.alloc (.cells (SL 0 0).toArray 30) = w48 at hHn hBn hDn ⊢
            clear hb hH hB
            have hH := hHn
            have hB := hBn
            have hD := hDn
            clear hHn hBn hDn
            generalize w37.heap.size = gD at hD geD ⊢
            refine wpAnyH_ready (rs := [5, 6]) (by kernel_rfl) (by simp) ?_
            refine AllReadyH.cons rfl (fun K hK => ?_) (AllReadyH.cons rfl (fun K hK => ?_) AllReadyH.nil)
            · rw [if_pos (by kernel_rfl)]
              go_simp
              refine (HSG.out _ (HV.out.belowAll hH) _ _ _ 1 1 hB (HPA.out.belowAll hH) (by decide) (by simp)).mono ?_
              rintro e w49 ⟨rfl, hb⟩
              have hBn := hB.belowAll hb
              have hDn := hD.belowAll hb
              have hHn := hH.trans (hb.mono hH.size)
              refine hK.out _ _ hHn (fun _ => ?_)
              clear hK K
              clear hb hH hB hD
              have hH := hHn
              have hB := hBn
              have hD := hDn
              clear hHn hBn hDn
              refine wpAnyH_ready (rs := [6]) (by kernel_rfl) (by simp) ?_
              refine AllReadyH.cons rfl (fun K hK => ?_) AllReadyH.nil
              · rw [if_pos (by kernel_rfl)]
                refine wp_allocK 27 (By 0 32) rfl key_alloc ?_
                have hb := Below.alloc1 w49 (.cells (By 0 32).toArray 27)
                have hCn := Row.new w49 (By 0 32) 27
                have hBn := hB.belowAll hb
                have hDn := hD.belowAll hb
                have hHn := hH.trans (hb.mono hH.size)
                have geC : W.heap.size ≤ w49.heap.size := hH.size
                have hlt := hD.lt
                have hne : w49.heap.size ≠ gD := by omega
                clear hlt
                refine hK.out _ _ hHn (fun _ => ?_)
                clear hK K
                generalize w49.alloc (.cells (By 0 32).toArray 27) = w50 at hHn hBn hDn hCn ⊢
                clear hb hH hB hD
                have hH := hHn
                have hB := hBn
                have hD := hDn
                have hC := hCn
                clear hHn hBn hDn hCn
                generalize w49.heap.size = gC at hC geC hne ⊢
                refine wpAnyH_ready (rs := [8]) (by kernel_rfl) (by simp) ?_
                refine AllReadyH.cons rfl (fun K hK => ?_) AllReadyH.nil
                rw [if_pos (by kernel_rfl)]
                refine wp_store_row 27 (.tmp 5) (.tmp 15) rfl gC (By Y 32).toArray rfl rfl 27 _ hC (key_info _) (By_sz _ _) (By_one32 _) ?_
                have hC2 := hC.setRow (By Y 32)
                have hD2 := hD.setRowOther (k := gC) hne.symm (By Y 32).toArray
                have hH2 := below_setRow (g := gC) hH geC (By Y 32).toArray
                refine hK.out _ _ hH2 (fun hHeld => ?_)
                clear hK K
                refine wpAnyH_ready (rs := [9]) (by kernel_rfl) (by simp) ?_
                refine AllReadyH.cons rfl (fun K hK => ?_) AllReadyH.nil
                rw [if_pos (by kernel_rfl)]
                refine wp_store_row 30 (.tmp 6) (.tmp 19) rfl gD (SL F S).toArray rfl rfl 30 _ hD2 (sig_info _ _) (SL_sz _ _ _ _) (SL_one _ _) ?_
                have hD3 := hD2.setRow (SL F S)
                have hC3 := hC2.setRowOther (k := gD) hne (SL F S).toArray
                have hH3 := below_setRow (g := gD) hH2 geD (SL F S).toArray
                refine hK.out _ _ hH3 (fun hHeld => ?_)
                clear hK K
                refine wpAnyH_done (by kernel_rfl) ?_ _
                exact ⟨rfl, gC, gD, _, rfl, hH3, geC, geD, hne, hC3, hD3⟩
            · rw [if_pos (by kernel_rfl)]
              refine wp_allocK 27 (By 0 32) rfl key_alloc ?_
              have hb := Below.alloc1 w48 (.cells (By 0 32).toArray 27)
              have hCn := Row.new w48 (By 0 32) 27
              have hBn := hB.belowAll hb
              have hDn := hD.belowAll hb
              have hHn := hH.trans (hb.mono hH.size)
              have geC : W.heap.size ≤ w48.heap.size := hH.size
              have hlt := hD.lt
              have hne : w48.heap.size ≠ gD := by omega
              clear hlt
              refine hK.out _ _ hHn (fun _ => ?_)
              clear hK K
              generalize w48.alloc (.cells (By 0 32).toArray 27) = w51 at hHn hBn hDn hCn ⊢
              clear hb hH hB hD
              have hH := hHn
              have hB := hBn
              have hD := hDn
              have hC := hCn
              clear hHn hBn hDn hCn
              generalize w48.heap.size = gC at hC geC hne ⊢
              refine wpAnyH_ready (rs := [5]) (by kernel_rfl) (by simp) ?_
              refine AllReadyH.cons rfl (fun K hK => ?_) AllReadyH.nil
              · rw [if_pos (by kernel_rfl)]
                go_simp
                refine (HSG.out _ (HV.out.belowAll hH) _ _ _ 1 1 hB (HPA.out.belowAll hH) (by decide) (by simp)).mono ?_
                rintro e w52 ⟨rfl, hb⟩
                have hBn := hB.belowAll hb
                have hDn := hD.belowAll hb
                have hCn := hC.belowAll hb
                have hHn := hH.trans (hb.mono hH.size)
                refine hK.out _ _ hHn (fun _ => ?_)
                clear hK K
                clear hb hH hB hD hC
                have hH := hHn
                have hB := hBn
                have hD := hDn
                have hC := hCn
                clear hHn hBn hDn hCn
                refine wpAnyH_ready (rs := [8]) (by kernel_rfl) (by simp) ?_
                refine AllReadyH.cons rfl (fun K hK => ?_) AllReadyH.nil
                rw [if_pos (by kernel_rfl)]
                refine wp_store_row 27 (.tmp 5) (.tmp 15) rfl gC (By Y 32).toArray rfl rfl 27 _ hC (key_info _) (By_sz _ _) (By_one32 _) ?_
                have hC2 := hC.setRow (By Y 32)
                have hD2 := hD.setRowOther (k := gC) hne.symm (By Y 32).toArray
                have hH2 := below_setRow (g := gC) hH geC (By Y 32).toArray
                refine hK.out _ _ hH2 (fun hHeld => ?_)
                clear hK K
                refine wpAnyH_ready (rs := [9]) (by kernel_rfl) (by simp) ?_
                refine AllReadyH.cons rfl (fun K hK => ?_) AllReadyH.nil
                rw [if_pos (by kernel_rfl)]
                refine wp_store_row 30 (.tmp 6) (.tmp 19) rfl gD (SL F S).toArray rfl rfl 30 _ hD2 (sig_info _ _) (SL_sz _ _ _ _) (SL_one _ _) ?_
                have hD3 := hD2.setRow (SL F S)
                have hC3 := hC2.setRowOther (k := gD) hne (SL F S).toArray
                have hH3 := below_setRow (g := gD) hH2 geD (SL F S).toArray
                refine hK.out _ _ hH3 (fun hHeld => ?_)
                clear hK K
                refine wpAnyH_done (by kernel_rfl) ?_ _
                exact ⟨rfl, gC, gD, _, rfl, hH3, geC, geD, hne, hC3, hD3⟩
        · rw [if_pos (by kernel_rfl)]
          refine wp_allocK 27 (By 0 32) rfl key_alloc ?_
          have hb := Below.alloc1 w36 (.cells (By 0 32).toArray 27)
          have hCn := Row.new w36 (By 0 32) 27
          have hBn := hB.belowAll hb
          have hHn := hH.trans (hb.mono hH.size)
          have geC : W.heap.size ≤ w36.heap.size := hH.size
          refine hK.out _ _ hHn (fun _ => ?_)
          clear hK K
          generalize w36.alloc (.cells (By 0 32).toArray 27) = w53 at hHn hBn hCn ⊢
          clear hb hH hB
          have hH := hHn
          have hB := hBn
          have hC := hCn
          clear hHn hBn hCn
          generalize w36.heap.size = gC at hC geC ⊢
          refine wpAnyH_ready (rs := [1, 7]) (by kernel_rfl) (by simp) ?_
          refine AllReadyH.cons rfl (fun K hK => ?_) (AllReadyH.cons rfl (fun K hK => ?_) AllReadyH.nil)
          · rw [if_pos (by kernel_rfl)]
            go_simp
            refine (HPB.out _ (HV.out.belowAll hH)).mono ?_
            rintro e w54 ⟨rfl, hb⟩
            have hBn := hB.belowAll hb
            have hCn := hC.belowAll hb
            have hHn := hH.trans (hb.mono hH.size)
            refine hK.out _ _ hHn (fun _ => ?_)
            clear hK K
            clear hb hH hB hC
            have hH := hHn
            have hB := hBn
            have hC := hCn
            clear hHn hBn hCn
            refine wpAnyH_ready (rs := [5, 7]) (by kernel_rfl) (by simp) ?_
            refine AllReadyH.cons rfl (fun K hK => ?_) (AllReadyH.cons rfl (fun K hK => ?_) AllReadyH.nil)
            · rw [if_pos (by kernel_rfl)]
              go_simp
              refine (HSG.out _ (HV.out.belowAll hH) _ _ _ 1 1 hB (HPA.out.belowAll hH) (by decide) (by simp)).mono ?_
              rintro e w55 ⟨rfl, hb⟩
              have hBn := hB.belowAll hb
              have hCn := hC.belowAll hb
              have hHn := hH.trans (hb.mono hH.size)
              refine hK.out _ _ hHn (fun _ => ?_)
              clear hK K
              clear hb hH hB hC
              have hH := hHn
              have hB := hBn
              have hC := hCn
              clear hHn hBn hCn
              refine wpAnyH_ready (rs := [7]) (by kernel_rfl) (by simp) ?_
              refine AllReadyH.cons rfl (fun K hK => ?_) AllReadyH.nil
              · rw [if_pos (by kernel_rfl)]
                refine wp_allocK 30 (SL 0 0) rfl sig_alloc ?_
                have hb := Below.alloc1 w55 (.cells (SL 0 0).toArray 30)
                have hDn := Row.new w55 (SL 0 0) 30
                have hBn := hB.belowAll hb
                have hCn := hC.belowAll hb
                have hHn := hH.trans (hb.mono hH.size)
                have geD : W.heap.size ≤ w55.heap.size := hH.size
                have hlt := hC.lt
                have hne : gC ≠ w55.heap.size := by omega
                clear hlt
                refine hK.out _ _ hHn (fun _ => ?_)
                clear hK K
                generalize w55.alloc (.cells (SL 0 0).toArray 30) = w56 at hHn hBn hCn hDn ⊢
                clear hb hH hB hC
                have hH := hHn
                have hB := hBn
                have hC := hCn
                have hD := hDn
                clear hHn hBn hCn hDn
                generalize w55.heap.size = gD at hD geD hne ⊢
                refine wpAnyH_ready (rs := [8]) (by kernel_rfl) (by simp) ?_
                refine AllReadyH.cons rfl (fun K hK => ?_) AllReadyH.nil
                rw [if_pos (by kernel_rfl)]
                refine wp_store_row 27 (.tmp 5) (.tmp 15) rfl gC (By Y 32).toArray rfl rfl 27 _ hC (key_info _) (By_sz _ _) (By_one32 _) ?_
                have hC2 := hC.setRow (By Y 32)
                have hD2 := hD.setRowOther (k := gC) hne.symm (By Y 32).toArray
                have hH2 := below_setRow (g := gC) hH geC (By Y 32).toArray
                refine hK.out _ _ hH2 (fun hHeld => ?_)
                clear hK K
                refine wpAnyH_ready (rs := [9]) (by kernel_rfl) (by simp) ?_
                refine AllReadyH.cons rfl (fun K hK => ?_) AllReadyH.nil
                rw [if_pos (by kernel_rfl)]
                refine wp_store_row 30 (.tmp 6) (.tmp 19) rfl gD (SL F S).toArray rfl rfl 30 _ hD2 (sig_info _ _) (SL_sz _ _ _ _) (SL_one _ _) ?_
                have hD3 := hD2.setRow (SL F S)
                have hC3 := hC2.setRowOther (k := gD) hne (SL F S).toArray
                have hH3 := below_setRow (g := gD) hH2 geD (SL F S).toArray
                refine hK.out _ _ hH3 (fun hHeld => ?_)
                clear hK K
                refine wpAnyH_done (by kernel_rfl) ?_ _
                exact ⟨rfl, gC, gD, _, rfl, hH3, geC, geD, hne, hC3, hD3⟩
            · rw [if_pos (by kernel_rfl)]
              refine wp_allocK 30 (SL 0 0) rfl sig_alloc ?_
              have hb := Below.alloc1 w54 (.cells (SL 0 0).toArray 30)
              have hDn := Row.new w54 (SL 0 0) 30
              have hBn := hB.belowAll hb
              have hCn := hC.belowAll hb
              have hHn := hH.trans (hb.mono hH.size)
              have geD : W.heap.size ≤ w54.heap.size := hH.size
              have hlt := hC.lt
              have hne : gC ≠ w54.heap.size := by omega
              clear hlt
              refine hK.out _ _ hHn (fun _ => ?_)
              clear hK K
              generalize w54.alloc (.cells (SL 0 0).toArray 30) = w57 at hHn hBn hCn hDn ⊢
              clear hb hH hB hC
              have hH := hHn
              have hB := hBn
              have hC := hCn
              have hD := hDn
              clear hHn hBn hCn hDn
              generalize w54.heap.size = gD at hD geD hne ⊢
              refine wpAnyH_ready (rs := [5]) (by kernel_rfl) (by simp) ?_
              refine AllReadyH.cons rfl (fun K hK => ?_) AllReadyH.nil
              · rw [if_pos (by kernel_rfl)]
                go_simp
                refine (HSG.out _ (HV.out.belowAll hH) _ _ _ 1 1 hB (HPA.out.belowAll hH) (by decide) (by simp)).mono ?_
                rintro e w58 ⟨rfl, hb⟩
                have hBn := hB.belowAll hb
                have hCn := hC.belowAll hb
                have hDn := hD.belowAll hb
                have hHn := hH.trans (hb.mono hH.size)
                refine hK.out _ _ hHn (fun _ => ?_)
                clear hK K
                clear hb hH hB hC hD
                have hH := hHn
                have hB := hBn
                have hC := hCn
                have hD := hDn
                clear hHn hBn hCn hDn
                refine wpAnyH_ready (rs := [8]) (by kernel_rfl) (by simp) ?_
                refine AllReadyH.cons rfl (fun K hK => ?_) AllReadyH.nil
                rw [if_pos (by kernel_rfl)]
                refine wp_store_row 27 (.tmp 5) (.tmp 15) rfl gC (By Y 32).toArray rfl rfl 27 _ hC (key_info _) (By_sz _ _) (By_one32 _) ?_
                have hC2 := hC.setRow (By Y 32)
                have hD2 := hD.setRowOther (k := gC) hne.symm (By Y 32).toArray
                have hH2 := below_setRow (g := gC) hH geC (By Y 32).toArray
                refine hK.out _ _ hH2 (fun hHeld => ?_)
                clear hK K
                refine wpAnyH_ready (rs := [9]) (by kernel_rfl) (by simp) ?_
                refine AllReadyH.cons rfl (fun K hK => ?_) AllReadyH.nil
                rw [if_pos (by kernel_rfl)]
                refine wp_store_row 30 (.tmp 6) (.tmp 19) rfl gD (SL F S).toArray rfl rfl 30 _ hD2 (sig_info _ _) (SL_sz _ _ _ _) (SL_one _ _) ?_
                have hD3 := hD2.setRow (SL F S)
                have hC3 := hC2.setRowOther (k := gD) hne (SL F S).toArray
                have hH3 := below_setRow (g := gD) hH2 geD (SL F S).toArray
                refine hK.out _ _ hH3 (fun hHeld => ?_)
                clear hK K
                refine wpAnyH_done (by kernel_rfl) ?_ _
                exact ⟨rfl, gC, gD, _, rfl, hH3, geC, geD, hne, hC3, hD3⟩
          · rw [if_pos (by kernel_rfl)]
            refine wp_allocK 30 (SL 0 0) rfl sig_alloc ?_
            have hb := Below.alloc1 w53 (.cells (SL 0 0).toArray 30)
            have hDn := Row.new w53 (SL 0 0) 30
            have hBn := hB.belowAll hb
            have hCn := hC.belowAll hb
            have hHn := hH.trans (hb.mono hH.size)
            have geD : W.heap.size ≤ w53.heap.size := hH.size
            have hlt := hC.lt
            have hne : gC ≠ w53.heap.size := by omega
            clear hlt
            refine hK.out _ _ hHn (fun _ => ?_)
            clear hK K
            generalize w53.alloc (.cells (SL 0 0).toArray 30) = w59 at hHn hBn hCn hDn ⊢
            clear hb hH hB hC
            have hH := hHn
            have hB := hBn
            have hC := hCn
            have hD := hDn
            clear hHn hBn hCn hDn
            generalize w53.heap.size = gD at hD geD hne ⊢
            refine wpAnyH_ready (rs := [1]) (by kernel_rfl) (by simp) ?_
            refine AllReadyH.cons rfl (fun K hK => ?_) AllReadyH.nil
            · rw [if_pos (by kernel_rfl)]
              go_simp
              refine (HPB.out _ (HV.out.belowAll hH)).mono ?_
              rintro e w60 ⟨rfl, hb⟩
              have hBn := hB.belowAll hb
              have hCn := hC.belowAll hb
              have hDn := hD.belowAll hb
              have hHn := hH.trans (hb.mono hH.size)
              refine hK.out _ _ hHn (fun _ => ?_)
              clear hK K
              clear hb hH hB hC hD
              have hH := hHn
              have hB := hBn
              have hC := hCn
              have hD := hDn
              clear hHn hBn hCn hDn
              refine wpAnyH_ready (rs := [5]) (by kernel_rfl) (by simp) ?_
              refine AllReadyH.cons rfl (fun K hK => ?_) AllReadyH.nil
              · rw [if_pos (by kernel_rfl)]
                go_simp
                refine (HSG.out _ (HV.out.belowAll hH) _ _ _ 1 1 hB (HPA.out.belowAll hH) (by decide) (by simp)).mono ?_
                rintro e w61 ⟨rfl, hb⟩
                have hBn := hB.belowAll hb
                have hCn := hC.belowAll hb
                have hDn := hD.belowAll hb
                have hHn := hH.trans (hb.mono hH.size)
                refine hK.out _ _ hHn (fun _ => ?_)
                clear hK K
                clear hb hH hB hC hD
                have hH := hHn
                have hB := hBn
                have hC := hCn
                have hD := hDn
                clear hHn hBn hCn hDn
                refine wpAnyH_ready (rs := [8]) (by kernel_rfl) (by simp) ?_
                refine AllReadyH.cons rfl (fun K hK => ?_) AllReadyH.nil
                rw [if_pos (by kernel_rfl)]
                refine wp_store_row 27 (.tmp 5) (.tmp 15) rfl gC (By Y 32).toArray rfl rfl 27 _ hC (key_info _) (By_sz _ _) (By_one32 _) ?_
                have hC2 := hC.setRow (By Y 32)
                have hD2 := hD.setRowOther (k := gC) hne.symm (By Y 32).toArray
                have hH2 := below_setRow (g := gC) hH geC (By Y 32).toArray
                refine hK.out _ _ hH2 (fun hHeld => ?_)
                clear hK K
                refine wpAnyH_ready (rs := [9]) (by kernel_rfl) (by simp) ?_
                refine AllReadyH.cons rfl (fun K hK => ?_) AllReadyH.nil
                rw [if_pos (by kernel_rfl)]
                refine wp_store_row 30 (.tmp 6) (.tmp 19) rfl gD (SL F S).toArray rfl rfl 30 _ hD2 (sig_info _ _) (SL_sz _ _ _ _) (SL_one _ _) ?_
                have hD3 := hD2.setRow (SL F S)
                have hC3 := hC2.setRowOther (k := gD) hne (SL F S).toArray
                have hH3 := below_setRow (g := gD) hH2 geD (SL F S).toArray
                refine hK.out _ _ hH3 (fun hHeld => ?_)
                clear hK K
                refine wpAnyH_done (by kernel_rfl) ?_ _
                exact ⟨rfl, gC, gD, _, rfl, hH3, geC, geD, hne, hC3, hD3⟩
        · rw [if_pos (by kernel_rfl)]
          refine wp_allocK 30 (SL 0 0) rfl sig_alloc ?_
          have hb := Below.alloc1 w36 (.cells (SL 0 0).toArray 30)
          have hDn := Row.new w36 (SL 0 0) 30
          have hBn := hB.belowAll hb
          have hHn := hH.trans (hb.mono hH.size)
          have geD : W.heap.size ≤ w36.heap.size := hH.size
          refine hK.out _ _ hHn (fun _ => ?_)
          clear hK K
          generalize w36.alloc (.cells (SL 0 0).toArray 30) = w62 at hHn hBn hDn ⊢
          clear hb hH hB
          have hH := hHn
          have hB := hBn
          have hD := hDn
          clear hHn hBn hDn
          generalize w36.heap.size = gD at hD geD ⊢
          refine wpAnyH_ready (rs := [1, 6]) (by kernel_rfl) (by simp) ?_
          refine AllReadyH.cons rfl (fun K hK => ?_) (AllReadyH.cons rfl (fun K hK => ?_) AllReadyH.nil)
          · rw [if_pos (by kernel_rfl)]
            go_simp
            refine (HPB.out _ (HV.out.belowAll hH)).mono ?_
            rintro e w63 ⟨rfl, hb⟩
            have hBn := hB.belowAll hb
            have hDn := hD.belowAll hb
            have hHn := hH.trans (hb.mono hH.size)
            refine hK.out _ _ hHn (fun _ => ?_)
            clear hK K
            clear hb hH hB hD
            have hH := hHn
            have hB := hBn
            have hD := hDn
            clear hHn hBn hDn
            refine wpAnyH_ready (rs := [5, 6]) (by kernel_rfl) (by simp) ?_
            refine AllReadyH.cons rfl (fun K hK => ?_) (AllReadyH.cons rfl (fun K hK => ?_) AllReadyH.nil)
            · rw [if_pos (by kernel_rfl)]
              go_simp
              refine (HSG.out _ (HV.out.belowAll hH) _ _ _ 1 1 hB (HPA.out.belowAll hH) (by decide) (by simp)).mono ?_
              rintro e w64 ⟨rfl, hb⟩
              have hBn := hB.belowAll hb
              have hDn := hD.belowAll hb
              have hHn := hH.trans (hb.mono hH.size)
              refine hK.out _ _ hHn (fun _ => ?_)
              clear hK K
              clear hb hH hB hD
              have hH := hHn
              have hB := hBn
              have hD := hDn
              clear hHn hBn hDn
              refine wpAnyH_ready (rs := [6]) (by kernel_rfl) (by simp) ?_
              refine AllReadyH.cons rfl (fun K hK => ?_) AllReadyH.nil
              · rw [if_pos (by kernel_rfl)]
                refine wp_allocK 27 (By 0 32) rfl key_alloc ?_
                have hb := Below.alloc1 w64 (.cells (By 0 32).toArray 27)
                have hCn := Row.new w64 (By 0 32) 27
                have hBn := hB.belowAll hb
                have hDn := hD.belowAll hb
                have hHn := hH.trans (hb.mono hH.size)
                have geC : W.heap.size ≤ w64.heap.size := hH.size
                have hlt := hD.lt
                have hne : w64.heap.size ≠ gD := by omega
                clear hlt
                refine hK.out _ _ hHn (fun _ => ?_)
                clear hK K
                generalize w64.alloc (.cells (By 0 32).toArray 27) = w65 at hHn hBn hDn hCn ⊢
                clear hb hH hB hD
                have hH := hHn
                have hB := hBn
                have hD := hDn
                have hC := hCn
                clear hHn hBn hDn hCn
                generalize w64.heap.size = gC at hC geC hne ⊢
                refine wpAnyH_ready (rs := [8]) (by kernel_rfl) (by simp) ?_
                refine AllReadyH.cons rfl (fun K hK => ?_) AllReadyH.nil
                rw [if_pos (by kernel_rfl)]
                refine wp_store_row 27 (.tmp 5) (.tmp 15) rfl gC (By Y 32).toArray rfl rfl 27 _ hC (key_info _) (By_sz _ _) (By_one32 _) ?_
                have hC2 := hC.setRow (By Y 32)
                have hD2 := hD.setRowOther (k := gC) hne.symm (By Y 32).toArray
                have hH2 := below_setRow (g := gC) hH geC (By Y 32).toArray
                refine hK.out _ _ hH2 (fun hHeld => ?_)
                clear hK K
                refine wpAnyH_ready (rs := [9]) (by kernel_rfl) (by simp) ?_
                refine AllReadyH.cons rfl (fun K hK => ?_) AllReadyH.nil
                rw [if_pos (by kernel_rfl)]
                refine wp_store_row 30 (.tmp 6) (.tmp 19) rfl gD (SL F S).toArray rfl rfl 30 _ hD2 (sig_info _ _) (SL_sz _ _ _ _) (SL_one _ _) ?_
                have hD3 := hD2.setRow (SL F S)
                have hC3 := hC2.setRowOther (k := gD) hne (SL F S).toArray
                have hH3 := below_setRow (g := gD) hH2 geD (SL F S).toArray
                refine hK.out _ _ hH3 (fun hHeld => ?_)
                clear hK K
                refine wpAnyH_done (by kernel_rfl) ?_ _
                exact ⟨rfl, gC, gD, _, rfl, hH3, geC, geD, hne, hC3, hD3⟩
            · rw [if_pos (by kernel_rfl)]
              refine wp_allocK 27 (By 0 32) rfl key_alloc ?_
              have hb := Below.alloc1 w63 (.cells (By 0 32).toArray 27)
              have hCn := Row.new w63 (By 0 32) 27
              have hBn := hB.belowAll hb
              have hDn := hD.belowAll hb
              have hHn := hH.trans (hb.mono hH.size)
              have geC : W.heap.size ≤ w63.heap.size := hH.size
              have hlt := hD.lt
              have hne : w63.heap.size ≠ gD := by omega
              clear hlt
              refine hK.out _ _ hHn (fun _ => ?_)
              clear hK K
              generalize w63.alloc (.cells (By 0 32).toArray 27) = w66 at hHn hBn hDn hCn ⊢
              clear hb hH hB hD
              have hH := hHn
              have hB := hBn
              have hD := hDn
              have hC := hCn
              clear hHn hBn hDn hCn
              generalize w63.heap.size = gC at hC geC hne ⊢
              refine wpAnyH_ready (rs := [5]) (by kernel_rfl) (by simp) ?_
              refine AllReadyH.cons rfl (fun K hK => ?_) AllReadyH.nil
              · rw [if_pos (by kernel_rfl)]
                go_simp
                refine (HSG.out _ (HV.out.belowAll hH) _ _ _ 1 1 hB (HPA.out.belowAll hH) (by decide) (by simp)).mono ?_
                rintro e w67 ⟨rfl, hb⟩
                have hBn := hB.belowAll hb
                have hDn := hD.belowAll hb
                have hCn := hC.belowAll hb
                have hHn := hH.trans (hb.mono hH.size)
                refine hK.out _ _ hHn (fun _ => ?_)
                clear hK K
                clear hb hH hB hD hC
                have hH := hHn
                have hB := hBn
                have hD := hDn
                have hC := hCn
                clear hHn hBn hDn hCn
                refine wpAnyH_ready (rs := [8]) (by kernel_rfl) (by simp) ?_
                refine AllReadyH.cons rfl (fun K hK => ?_) AllReadyH.nil
                rw [if_pos (by kernel_rfl)]
                refine wp_store_row 27 (.tmp 5) (.tmp 15) rfl gC (By Y 32).toArray rfl rfl 27 _ hC (key_info _) (By_sz _ _) (By_one32 _) ?_
                have hC2 := hC.setRow (By Y 32)
                have hD2 := hD.setRowOther (k := gC) hne.symm (By Y 32).toArray
                have hH2 := below_setRow (g := gC) hH geC (By Y 32).toArray
                refine hK.out _ _ hH2 (fun hHeld => ?_)
                clear hK K
                refine wpAnyH_ready (rs := [9]) (by kernel_rfl) (by simp) ?_
                refine AllReadyH.cons rfl (fun K hK => ?_) AllReadyH.nil
                rw [if_pos (by kernel_rfl)]
                refine wp_store_row 30 (.tmp 6) (.tmp 19) rfl gD (SL F S).toArray rfl rfl 30 _ hD2 (sig_info _ _) (SL_sz _ _ _ _) (SL_one _ _) ?_
                have hD3 := hD2.setRow (SL F S)
                have hC3 := hC2.setRowOther (k := gD) hne (SL F S).toArray
                have hH3 := below_setRow (g := gD) hH2 geD (SL F S).toArray
                refine hK.out _ _ hH3 (fun hHeld => ?_)
                clear hK K
                refine wpAnyH_done (by kernel_rfl) ?_ _
                exact ⟨rfl, gC, gD, _, rfl, hH3, geC, geD, hne, hC3, hD3⟩
          · rw [if_pos (by kernel_rfl)]
            refine wp_allocK 27 (By 0 32) rfl key_alloc ?_
            have hb := Below.alloc1 w62 (.cells (By 0 32).toArray 27)
            have hCn := Row.new w62 (By 0 32) 27
            have hBn := hB.belowAll hb
            have hDn := hD.belowAll hb
            have hHn := hH.trans (hb.mono hH.size)
            have geC : W.heap.size ≤ w62.heap.size := hH.size
            have hlt := hD.lt
            have hne : w62.heap.size ≠ gD := by omega
            clear hlt
            refine hK.out _ _ hHn (fun _ => ?_)
            clear hK K
            generalize w62.alloc (.cells (By 0 32).toArray 27) = w68 at hHn hBn hDn hCn ⊢
            clear hb hH hB hD
            have hH := hHn
            have hB := hBn
            have hD := hDn
            have hC := hCn
            clear hHn hBn hDn hCn
            generalize w62.heap.size = gC at hC geC hne ⊢
            refine wpAnyH_ready (rs := [1]) (by kernel_rfl) (by simp) ?_
            refine AllReadyH.cons rfl (fun K hK => ?_) AllReadyH.nil
            · rw [if_pos (by kernel_rfl)]
              go_simp
              refine (HPB.out _ (HV.out.belowAll hH)).mono ?_
              rintro e w69 ⟨rfl, hb⟩
              have hBn := hB.belowAll hb
              have hDn := hD.belowAll hb
              have hCn := hC.belowAll hb
              have hHn := hH.trans (hb.mono hH.size)
              refine hK.out _ _ hHn (fun _ => ?_)
              clear hK K
              clear hb hH hB hD hC
              have hH := hHn
              have hB := hBn
              have hD := hDn
              have hC := hCn
              clear hHn hBn hDn hCn
              refine wpAnyH_ready (rs := [5]) (by kernel_rfl) (by simp) ?_
              refine AllReadyH.cons rfl (fun K hK => ?_) AllReadyH.nil
              · rw [if_pos (by kernel_rfl)]
                go_simp
                refine (HSG.out _ (HV.out.belowAll hH) _ _ _ 1 1 hB (HPA.out.belowAll hH) (by decide) (by simp)).mono ?_
                rintro e w70 ⟨rfl, hb⟩
                have hBn := hB.belowAll hb
                have hDn := hD.belowAll hb
                have hCn := hC.belowAll hb
                have hHn := hH.trans (hb.mono hH.size)
                refine hK.out _ _ hHn (fun _ => ?_)
                clear hK K
                clear hb hH hB hD hC
                have hH := hHn
                have hB := hBn
                have hD := hDn
                have hC := hCn
                clear hHn hBn hDn hCn
                refine wpAnyH_ready (rs := [8]) (by kernel_rfl) (by simp) ?_
                refine AllReadyH.cons rfl (fun K hK => ?_) AllReadyH.nil
                rw [if_pos (by kernel_rfl)]
                refine wp_store_row 27 (.tmp 5) (.tmp 15) rfl gC (By Y 32).toArray rfl rfl 27 _ hC (key_info _) (By_sz _ _) (By_one32 _) ?_
                have hC2 := hC.setRow (By Y 32)
                have hD2 := hD.setRowOther (k := gC) hne.symm (By Y 32).toArray
                have hH2 := below_setRow (g := gC) hH geC (By Y 32).toArray
                refine hK.out _ _ hH2 (fun hHeld => ?_)
                clear hK K
                refine wpAnyH_ready (rs := [9]) (by kernel_rfl) (by simp) ?_
                refine AllReadyH.cons rfl (fun K hK => ?_) AllReadyH.nil
                rw [if_pos (by kernel_rfl)]
                refine wp_store_row 30 (.tmp 6) (.tmp 19) rfl gD (SL F S).toArray rfl rfl 30 _ hD2 (sig_info _ _) (SL_sz _ _ _ _) (SL_one _ _) ?_
                have hD3 := hD2.setRow (SL F S)
                have hC3 := hC2.setRowOther (k := gD) hne (SL F S).toArray
                have hH3 := below_setRow (g := gD) hH2 geD (SL F S).toArray
                refine hK.out _ _ hH3 (fun hHeld => ?_)
                clear hK K
                refine wpAnyH_done (by kernel_rfl) ?_ _
                exact ⟨rfl, gC, gD, _, rfl, hH3, geC, geD, hne, hC3, hD3⟩
      · rw [if_pos (by kernel_rfl)]
        refine wp_allocK 27 (By 0 32) rfl key_alloc ?_
        have hb := Below.alloc1 w0 (.cells (By 0 32).toArray 27)
        have hCn := Row.new w0 (By 0 32) 27
        have hHn := hH.trans (hb.mono hH.size)
        have geC : W.heap.size ≤ w0.heap.size := hH.size
        refine hK.out _ _ hHn (fun _ => ?_)
        clear hK K
        generalize w0.alloc (.cells (By 0 32).toArray 27) = w71 at hHn hCn ⊢
        clear hb hH
        have hH := hHn
        have hC := hCn
        clear hHn hCn
        generalize w0.heap.size = gC at hC geC ⊢
        refine wpAnyH_ready (rs := [1, 4, 7]) (by kernel_rfl) (by simp) ?_
        refine AllReadyH.cons rfl (fun K hK => ?_) (AllReadyH.cons rfl (fun K hK => ?_) (AllReadyH.cons rfl (fun K hK => ?_) AllReadyH.nil))
        · rw [if_pos (by kernel_rfl)]
          go_simp
          refine (HPB.out _ (HV.out.belowAll hH)).mono ?_
          rintro e w72 ⟨rfl, hb⟩
          have hCn := hC.belowAll hb
          have hHn := hH.trans (hb.mono hH.size)
          refine hK.out _ _ hHn (fun _ => ?_)
          clear hK K
          clear hb hH hC
          have hH := hHn
          have hC := hCn
          clear hHn hCn
          refine wpAnyH_ready (rs := [4, 7]) (by kernel_rfl) (by simp) ?_
          refine AllReadyH.cons rfl (fun K hK => ?_) (AllReadyH.cons rfl (fun K hK => ?_) AllReadyH.nil)
          · rw [if_pos (by kernel_rfl)]
            refine wp_buildOne (.tmp 17) rfl A1 n1 c1 rfl ?_
            have hb := Below.alloc1 w72 (.cells #[.slice A1 n1 c1] 24)
            have hBn : Rd (w72.alloc (.cells #[.slice A1 n1 c1] 24)) (fun _ => True) (some ⟨w72.heap.size, 0, none⟩) 1 [.slice A1 n1 c1] := one_row
            have hCn := hC.belowAll hb
            have hHn := hH.trans (hb.mono hH.size)
            refine hK.out _ _ hHn (fun _ => ?_)
            clear hK K
            generalize w72.alloc (.cells #[.slice A1 n1 c1] 24) = w73 at hHn hCn hBn ⊢
            clear hb hH hC
            have hH := hHn
            have hC := hCn
            have hB := hBn
            clear hHn hCn hBn
            refine wpAnyH_ready (rs := [5, 7]) (by kernel_rfl) (by simp) ?_
            refine AllReadyH.cons rfl (fun K hK => ?_) (AllReadyH.cons rfl (fun K hK => ?_) AllReadyH.nil)
            · rw [if_pos (by kernel_rfl)]
              go_simp
              refine (HSG.out _ (HV.out.belowAll hH) _ _ _ 1 1 hB (HPA.out.belowAll hH) (by decide) (by simp)).mono ?_
              rintro e w74 ⟨rfl, hb⟩
              have hCn := hC.belowAll hb
              have hBn := hB.belowAll hb
              have hHn := hH.trans (hb.mono hH.size)
              refine hK.out _ _ hHn (fun _ => ?_)
              clear hK K
              clear hb hH hC hB
              have hH := hHn
              have hC := hCn
              have hB := hBn
              clear hHn hCn hBn
              refine wpAnyH_ready (rs := [7]) (by kernel_rfl) (by simp) ?_
              refine AllReadyH.cons rfl (fun K hK => ?_) AllReadyH.nil
              · rw [if_pos (by kernel_rfl)]
                refine wp_allocK 30 (SL 0 0) rfl sig_alloc ?_
                have hb := Below.alloc1 w74 (.cells (SL 0 0).toArray 30)
                have hDn := Row.new w74 (SL 0 0) 30
                have hCn := hC.belowAll hb
                have hBn := hB.belowAll hb
                have hHn := hH.trans (hb.mono hH.size)
                have geD : W.heap.size ≤ w74.heap.size := hH.size
                have hlt := hC.lt
                have hne : gC ≠ w74.heap.size := by omega
                clear hlt
                refine hK.out _ _ hHn (fun _ => ?_)
                clear hK K
                generalize w74.alloc (.cells (SL 0 0).toArray 30) = w75 at hHn hCn hBn hDn ⊢
                clear hb hH hC hB
                have hH := hHn
                have hC := hCn
                have hB := hBn
                have hD := hDn
                clear hHn hCn hBn hDn
                generalize w74.heap.size = gD at hD geD hne ⊢
                refine wpAnyH_ready (rs := [8]) (by kernel_rfl) (by simp) ?_
                refine AllReadyH.cons rfl (fun K hK => ?_) AllReadyH.nil
                rw [if_pos (by kernel_rfl)]
                refine wp_store_row 27 (.tmp 5) (.tmp 15) rfl gC (By Y 32).toArray rfl rfl 27 _ hC (key_info _) (By_sz _ _) (By_one32 _) ?_
                have hC2 := hC.setRow (By Y 32)
                have hD2 := hD.setRowOther (k := gC) hne.symm (By Y 32).toArray
                have hH2 := below_setRow (g := gC) hH geC (By Y 32).toArray
                refine hK.out _ _ hH2 (fun hHeld => ?_)
                clear hK K
                refine wpAnyH_ready (rs := [9]) (by kernel_rfl) (by simp) ?_
                refine AllReadyH.cons rfl (fun K hK => ?_) AllReadyH.nil
                rw [if_pos (by kernel_rfl)]
                refine wp_store_row 30 (.tmp 6) (.tmp 19) rfl gD (SL F S).toArray rfl rfl 30 _ hD2 (sig_info _ _) (SL_sz _ _ _ _) (SL_one _ _) ?_
                have hD3 := hD2.setRow (SL F S)
                have hC3 := hC2.setRowOther (k := gD) hne (SL F S).toArray
                have hH3 := below_setRow (g := gD) hH2 geD (SL F S).toArray
                refine hK.out _ _ hH3 (fun hHeld => ?_)
                clear hK K
                refine wpAnyH_done (by kernel_rfl) ?_ _
                exact ⟨rfl, gC, gD, _, rfl, hH3, geC, geD, hne, hC3, hD3⟩
            · rw [if_pos (by kernel_rfl)]
              refine wp_allocK 30 (SL 0 0) rfl sig_alloc ?_
              have hb := Below.alloc1 w73 (.cells (SL 0 0).toArray 30)
              have hDn := Row.new w73 (SL 0 0) 30
              have hCn := hC.belowAll hb
              have hBn := hB.belowAll hb
              have hHn := hH.trans (hb.mono hH.size)
              have geD : W.heap.size ≤ w73.heap.size := hH.size
              have hlt := hC.lt
              have hne : gC ≠ w73.heap.size := by omega
              clear hlt
              refine hK.out _ _ hHn (fun _ => ?_)
              clear hK K
              generalize w73.alloc (.cells (SL 0 0).toArray 30) = w76 at hHn hCn hBn hDn ⊢
              clear hb hH hC hB
              have hH := hHn
              have hC := hCn
              have hB := hBn
              have hD := hDn
              clear hHn hCn hBn hDn
              generalize w73.heap.size = gD at hD geD hne ⊢
              refine wpAnyH_ready (rs := [5]) (by kernel_rfl) (by simp) ?_
              refine AllReadyH.cons rfl (fun K hK => ?_) AllReadyH.nil
              · rw [if_pos (by kernel_rfl)]
                go_simp
                refine (HSG.out _ (HV.out.belowAll hH) _ _ _ 1 1 hB (HPA.out.belowAll hH) (by decide) (by simp)).mono ?_
                rintro e w77 ⟨rfl, hb⟩
                have hCn := hC.belowAll hb
                have hBn := hB.belowAll hb
                have hDn := hD.belowAll hb
                have hHn := hH.trans (hb.mono hH.size)
                refine hK.out _ _ hHn (fun _ => ?_)
                clear hK K
                clear hb hH hC hB hD
                have hH := hHn
                have hC := hCn
                have hB := hBn
                have hD := hDn
                clear hHn hCn hBn hDn
                refine wpAnyH_ready (rs := [8]) (by kernel_rfl) (by simp) ?_
                refine AllReadyH.cons rfl (fun K hK => ?_) AllReadyH.nil
                rw [if_pos (by kernel_rfl)]
                refine wp_store_row 27 (.tmp 5) (.tmp 15) rfl gC (By Y 32).toArray rfl rfl 27 _ hC (key_info _) (By_sz _ _) (By_one32 _) ?_
                have hC2 := hC.setRow (By Y 32)
                have hD2 := hD.setRowOther (k := gC) hne.symm (By Y 32).toArray
                have hH2 := below_setRow (g := gC) hH geC (By Y 32).toArray
                refine hK.out _ _ hH2 (fun hHeld => ?_)
                clear hK K
                refine wpAnyH_ready (rs := [9]) (by kernel_rfl) (by simp) ?_
                refine AllReadyH.cons rfl (fun K hK => ?_) AllReadyH.nil
                rw [if_pos (by kernel_rfl)]
                refine wp_store_row 30 (.tmp 6) (.tmp 19) rfl gD (SL F S).toArray rfl rfl 30 _ hD2 (sig_info _ _) (SL_sz _ _ _ _) (SL_one _ _) ?_
                have hD3 := hD2.setRow (SL F S)
                have hC3 := hC2.setRowOther (k := gD) hne (SL F S).toArray
                have hH3 := below_setRow (g := gD) hH2 geD (SL F S).toArray
                refine hK.out _ _ hH3 (fun hHeld => ?_)
                clear hK K
                refine wpAnyH_done (by kernel_rfl) ?_ _
                exact ⟨rfl, gC, gD, _, rfl, hH3, geC, geD, hne, hC3, hD3⟩
          · rw [if_pos (by kernel_rfl)]
            refine wp_allocK 30 (SL 0 0) rfl sig_alloc ?_
            have hb := Below.alloc1 w72 (.cells (SL 0 0).toArray 30)
            have hDn := Row.new w72 (SL 0 0) 30
            have hCn := hC.belowAll hb
            have hHn := hH.trans (hb.mono hH.size)
            have geD : W.heap.size ≤ w72.heap.size := hH.size
            have hlt := hC.lt
            have hne : gC ≠ w72.heap.size := by omega
            clear hlt
            refine hK.out _ _ hHn (fun _ => ?_)
            clear hK K
            generalize w72.alloc (.cells (SL 0 0).toArray 30) = w78 at hHn hCn hDn ⊢
            clear hb hH hC
            have hH := hHn
            have hC := hCn
            have hD := hDn
            clear hHn hCn hDn
            generalize w72.heap.size = gD at hD geD hne ⊢
            refine wpAnyH_ready (rs := [4]) (by kernel_rfl) (by simp) ?_
            refine AllReadyH.cons rfl (fun K hK => ?_) AllReadyH.nil
            · rw [if_pos (by kernel_rfl)]
              refine wp_buildOne (.tmp 17) rfl A1 n1 c1 rfl ?_
              have hb := Below.alloc1 w78 (.cells #[.slice A1 n1 c1] 24)
              have hBn : Rd (w78.alloc (.cells #[.slice A1 n1 c1] 24)) (fun _ => True) (some ⟨w78.heap.size, 0, none⟩) 1 [.slice A1 n1 c1] := one_row
              have hCn := hC.belowAll hb
              have hDn := hD.belowAll hb
              have hHn := hH.trans (hb.mono hH.size)
              refine hK.out _ _ hHn (fun _ => ?_)
              clear hK K
              generalize w78.alloc (.cells #[.slice A1 n1 c1] 24) = w79 at hHn hCn hDn hBn ⊢
              clear hb hH hC hD
              have hH := hHn
              have hC := hCn
              have hD := hDn
              have hB := hBn
              clear hHn hCn hDn hBn
              refine wpAnyH_ready (rs := [5]) (by kernel_rfl) (by simp) ?_
              refine AllReadyH.cons rfl (fun K hK => ?_) AllReadyH.nil
              · rw [if_pos (by kernel_rfl)]
                go_simp
                refine (HSG.out _ (HV.out.belowAll hH) _ _ _ 1 1 hB (HPA.out.belowAll hH) (by decide) (by simp)).mono ?_
                rintro e w80 ⟨rfl, hb⟩
                have hCn := hC.belowAll hb
                have hDn := hD.belowAll hb
                have hBn := hB.belowAll hb
                have hHn := hH.trans (hb.mono hH.size)
                refine hK.out _ _ hHn (fun _ => ?_)
                clear hK K
                clear hb hH hC hD hB
                have hH := hHn
                have hC := hCn
                have hD := hDn
                have hB := hBn
                clear hHn hCn hDn hBn
                refine wpAnyH_ready (rs := [8]) (by kernel_rfl) (by simp) ?_
                refine AllReadyH.cons rfl (fun K hK => ?_) AllReadyH.nil
                rw [if_pos (by kernel_rfl)]
                refine wp_store_row 27 (.tmp 5) (.tmp 15) rfl gC (By Y 32).toArray rfl rfl 27 _ hC (key_info _) (By_sz _ _) (By_one32 _) ?_
                have hC2 := hC.setRow (By Y 32)
                have hD2 := hD.setRowOther (k := gC) hne.symm (By Y 32).toArray
                have hH2 := below_setRow (g := gC) hH geC (By Y 32).toArray
                refine hK.out _ _ hH2 (fun hHeld => ?_)
                clear hK K
                refine wpAnyH_ready (rs := [9]) (by kernel_rfl) (by simp) ?_
                refine AllReadyH.cons rfl (fun K hK => ?_) AllReadyH.nil
                rw [if_pos (by kernel_rfl)]
                refine wp_store_row 30 (.tmp 6) (.tmp 19) rfl gD (SL F S).toArray rfl rfl 30 _ hD2 (sig_info _ _) (SL_sz _ _ _ _) (SL_one _ _) ?_
                have hD3 := hD2.setRow (SL F S)
                have hC3 := hC2.setRowOther (k := gD) hne (SL F S).toArray
                have hH3 := below_setRow (g := gD) hH2 geD (SL F S).toArray
                refine hK.out _ _ hH3 (fun hHeld => ?_)
                clear hK K
                refine wpAnyH_done (by kernel_rfl) ?_ _
                exact ⟨rfl, gC, gD, _, rfl, hH3, geC, geD, hne, hC3, hD3⟩
        · rw [if_pos (by kernel_rfl)]
          refine wp_buildOne (.tmp 17) rfl A1 n1 c1 rfl ?_
          have hb := Below.alloc1 w71 (.cells #[.slice A1 n1 c1] 24)
          have hBn : Rd (w71.alloc (.cells #[.slice A1 n1 c1] 24)) (fun _ => True) (some ⟨w71.heap.size, 0, none⟩) 1 [.slice A1 n1 c1] := one_row
          have hCn := hC.belowAll hb
          have hHn := hH.trans (hb.mono hH.size)
          refine hK.out _ _ hHn (fun _ => ?_)
          clear hK K
          generalize w71.alloc (.cells #[.slice A1 n1 c1] 24) = w81 at hHn hCn hBn ⊢
          clear hb hH hC
          have hH := hHn
          have hC := hCn
          have hB := hBn
          clear hHn hCn hBn
          refine wpAnyH_ready (rs := [1, 7]) (by kernel_rfl) (by simp) ?_
          refine AllReadyH.cons rfl (fun K hK => ?_) (AllReadyH.cons rfl (fun K hK => ?_) AllReadyH.nil)
          · rw [if_pos (by kernel_rfl)]
            go_simp
            refine (HPB.out _ (HV.out.belowAll hH)).mono ?_
            rintro e w82 ⟨rfl, hb⟩
            have hCn := hC.belowAll hb
            have hBn := hB.belowAll hb
            have hHn := hH.trans (hb.mono hH.size)
            refine hK.out _ _ hHn (fun _ => ?_)
            clear hK K
            clear hb hH hC hB
            have hH := hHn
            have hC := hCn
            have hB := hBn
            clear hHn hCn hBn
            refine wpAnyH_ready (rs := [5, 7]) (by kernel_rfl) (by simp) ?_
            refine AllReadyH.cons rfl (fun K hK => ?_) (AllReadyH.cons rfl (fun K hK => ?_) AllReadyH.nil)
            · rw [if_pos (by kernel_rfl)]
              go_simp
              refine (HSG.out _ (HV.out.belowAll hH) _ _ _ 1 1 hB (HPA.out.belowAll hH) (by decide) (by simp)).mono ?_
              rintro e w83 ⟨rfl, hb⟩
              have hCn := hC.belowAll hb
              have hBn := hB.belowAll hb
              have hHn := hH.trans (hb.mono hH.size)
              refine hK.out _ _ hHn (fun _ => ?_)
              clear hK K
              clear hb hH hC hB
              have hH := hHn
              have hC := hCn
              have hB := hBn
              clear hHn hCn hBn
              refine wpAnyH_ready (rs := [7]) (by kernel_rfl) (by simp) ?_
              refine AllReadyH.cons rfl (fun K hK => ?_) AllReadyH.nil
              · rw [if_pos (by kernel_rfl)]
                refine wp_allocK 30 (SL 0 0) rfl sig_alloc ?_
                have hb := Below.alloc1 w83 (.cells (SL 0 0).toArray 30)
                have hDn := Row.new w83 (SL 0 0) 30
                have hCn := hC.belowAll hb
                have hBn := hB.belowAll hb
                have hHn := hH.trans (hb.mono hH.size)
                have geD : W.heap.size ≤ w83.heap.size := hH.size
                have hlt := hC.lt
                have hne : gC ≠ w83.heap.size := by omega
                clear hlt
                refine hK.out _ _ hHn (fun _ => ?_)
                clear hK K
                generalize w83.alloc (.cells (SL 0 0).toArray 30) = w84 at hHn hCn hBn hDn ⊢
                clear hb hH hC hB
                have hH := hHn
                have hC := hCn
                have hB := hBn
                have hD := hDn
                clear hHn hCn hBn hDn
                generalize w83.heap.size = gD at hD geD hne ⊢
                refine wpAnyH_ready (rs := [8]) (by kernel_rfl) (by simp) ?_
                refine AllReadyH.cons rfl (fun K hK => ?_) AllReadyH.nil
                rw [if_pos (by kernel_rfl)]
                refine wp_store_row 27 (.tmp 5) (.tmp 15) rfl gC (By Y 32).toArray rfl rfl 27 _ hC (key_info _) (By_sz _ _) (By_one32 _) ?_
                have hC2 := hC.setRow (By Y 32)
                have hD2 := hD.setRowOther (k := gC) hne.symm (By Y 32).toArray
                have hH2 := below_setRow (g := gC) hH geC (By Y 32).toArray
                refine hK.out _ _ hH2 (fun hHeld => ?_)
                clear hK K
                refine wpAnyH_ready (rs := [9]) (by kernel_rfl) (by simp) ?_
                refine AllReadyH.cons rfl (fun K hK => ?_) AllReadyH.nil
                rw [if_pos (by kernel_rfl)]
                refine wp_store_row 30 (.tmp 6) (.tmp 19) rfl gD (SL F S).toArray rfl rfl 30 _ hD2 (sig_info _ _) (SL_sz _ _ _ _) (SL_one _ _) ?_
                have hD3 := hD2.setRow (SL F S)
                have hC3 := hC2.setRowOther (k := gD) hne (SL F S).toArray
                have hH3 := below_setRow (g := gD) hH2 geD (SL F S).toArray
                refine hK.out _ _ hH3 (fun hHeld => ?_)
                clear hK K
                refine wpAnyH_done (by kernel_rfl) ?_ _
                exact ⟨rfl, gC, gD, _, rfl, hH3, geC, geD, hne, hC3, hD3⟩
            · rw [if_pos (by kernel_rfl)]
              refine wp_allocK 30 (SL 0 0) rfl sig_alloc ?_
              have hb := Below.alloc1 w82 (.cells (SL 0 0).toArray 30)
              have hDn := Row.new w82 (SL 0 0) 30
              have hCn := hC.belowAll hb
              have hBn := hB.belowAll hb
              have hHn := hH.trans (hb.mono hH.size)
              have geD : W.heap.size ≤ w82.heap.size := hH.size
              have hlt := hC.lt
              have hne : gC ≠ w82.heap.size := by omega
              clear hlt
              refine hK.out _ _ hHn (fun _ => ?_)
              clear hK K
              generalize w82.alloc (.cells (SL 0 0).toArray 30) = w85 at hHn hCn hBn hDn ⊢
              clear hb hH hC hB
              have hH := hHn
              have hC := hCn
              have hB := hBn
              have hD := hDn
              clear hHn hCn hBn hDn
              generalize w82.heap.size = gD at hD geD hne ⊢
              refine wpAnyH_ready (rs := [5]) (by kernel_rfl) (by simp) ?_
              refine AllReadyH.cons rfl (fun K hK => ?_) AllReadyH.nil
              · rw [if_pos (by kernel_rfl)]
                go_simp
                refine (HSG.out _ (HV.out.belowAll hH) _ _ _ 1 1 hB (HPA.out.belowAll hH) (by decide) (by simp)).mono ?_
                rintro e w86 ⟨rfl, hb⟩
                have hCn := hC.belowAll hb
                have hBn := hB.belowAll hb
                have hDn := hD.belowAll hb
                have hHn := hH.trans (hb.mono hH.size)
                refine hK.out _ _ hHn (fun _ => ?_)
                clear hK K
                clear hb hH hC hB hD
                have hH := hHn
                have hC := hCn
                have hB := hBn
                have hD := hDn
                clear hHn hCn hBn hDn
                refine wpAnyH_ready (rs := [8]) (by kernel_rfl) (by simp) ?_
                refine AllReadyH.cons rfl (fun K hK => ?_) AllReadyH.nil
                rw [if_pos (by kernel_rfl)]
                refine wp_store_row 27 (.tmp 5) (.tmp 15) rfl gC (By Y 32).toArray rfl rfl 27 _ hC (key_info _) (By_sz _ _) (By_one32 _) ?_
                have hC2 := hC.setRow (By Y 32)
                have hD2 := hD.setRowOther (k := gC) hne.symm (By Y 32).toArray
                have hH2 := below_setRow (g := gC) hH geC (By Y 32).toArray
                refine hK.out _ _ hH2 (fun hHeld => ?_)
                clear hK K
                refine wpAnyH_ready (rs := [9]) (by kernel_rfl) (by simp) ?_
                refine AllReadyH.cons rfl (fun K hK => ?_) AllReadyH.nil
                rw [if_pos (by kernel_rfl)]
                refine wp_store_row 30 (.tmp 6) (.tmp 19) rfl gD (SL F S).toArray rfl rfl 30 _ hD2 (sig_info _ _) (SL_sz _ _ _ _) (SL_one _ _) ?_
                have hD3 := hD2.setRow (SL F S)
                have hC3 := hC2.setRowOther (k := gD) hne (SL F S).toArray
                have hH3 := below_setRow (g := gD) hH2 geD (SL F S).toArray
                refine hK.out _ _ hH3 (fun hHeld => ?_)
                clear hK K
                refine wpAnyH_done (by kernel_rfl) ?_ _
                exact ⟨rfl, gC, gD, _, rfl, hH3, geC, geD, hne, hC3, hD3⟩
          · rw [if_pos (by kernel_rfl)]
            refine wp_allocK 30 (SL 0 0) rfl sig_alloc ?_
            have hb := Below.alloc1 w81 (.cells (SL 0 0).toArray 30)
            have hDn := Row.new w81 (SL 0 0) 30
            have hCn := hC.belowAll hb
            have hBn := hB.belowAll hb
            have hHn := hH.trans (hb.mono hH.size)
            have geD : W.heap.size ≤ w81.heap.size := hH.size
            have hlt := hC.lt
            have hne : gC ≠ w81.heap.size := by omega
            clear hlt
            refine hK.out _ _ hHn (fun _ => ?_)
            clear hK K
            generalize w81.alloc (.cells (SL 0 0).toArray 30) = w87 at hHn hCn hBn hDn ⊢
            clear hb hH hC hB
            have hH := hHn
            have hC := hCn
            have hB := hBn
            have hD := hDn
            clear hHn hCn hBn hDn
            generalize w81.heap.size = gD at hD geD hne ⊢
            refine wpAnyH_ready (rs := [1]) (by kernel_rfl) (by simp) ?_
            refine AllReadyH.cons rfl (fun K hK => ?_) AllReadyH.nil
            · rw [if_pos (by kernel_rfl)]
              go_simp
              refine (HPB.out _ (HV.out.belowAll hH)).mono ?_
              rintro e w88 ⟨rfl, hb⟩
              have hCn := hC.belowAll hb
              have hBn := hB.belowAll hb
              have hDn := hD.belowAll hb
              have hHn := hH.trans (hb.mono hH.size)
              refine hK.out _ _ hHn (fun _ => ?_)
              clear hK K
              clear hb hH hC hB hD
              have hH := hHn
              have hC := hCn
              have hB := hBn
              have hD := hDn
              clear hHn hCn hBn hDn
              refine wpAnyH_ready (rs := [5]) (by kernel_rfl) (by simp) ?_
              refine AllReadyH.cons rfl (fun K hK => ?_) AllReadyH.nil
              · rw [if_pos (by kernel_rfl)]
                go_simp
                refine (HSG.out _ (HV.out.belowAll hH) _ _ _ 1 1 hB (HPA.out.belowAll hH) (by decide) (by simp)).mono ?_
                rintro e w89 ⟨rfl, hb⟩
                have hCn := hC.belowAll hb
                have hBn := hB.belowAll hb
                have hDn := hD.belowAll hb
                have hHn := hH.trans (hb.mono hH.size)
                refine hK.out _ _ hHn (fun _ => ?_)
                clear hK K
                clear hb hH hC hB hD
                have hH := hHn
                have hC := hCn
                have hB := hBn
                have hD := hDn
                clear hHn hCn hBn hDn
                refine wpAnyH_ready (rs := [8]) (by kernel_rfl) (by simp) ?_
                refine AllReadyH.cons rfl (fun K hK => ?_) AllReadyH.nil
                rw [if_pos (by kernel_rfl)]
                refine wp_store_row 27 (.tmp 5) (.tmp 15) rfl gC (By Y 32).toArray rfl rfl 27 _ hC (key_info _) (By_sz _ _) (By_one32 _) ?_
                have hC2 := hC.setRow (By Y 32)
                have hD2 := hD.setRowOther (k := gC) hne.symm (By Y 32).toArray
                have hH2 := below_setRow (g := gC) hH geC (By Y 32).toArray
                refine hK.out _ _ hH2 (fun hHeld => ?_)
                clear hK K
                refine wpAnyH_ready (rs := [9]) (by kernel_rfl) (by simp) ?_
                refine AllReadyH.cons rfl (fun K hK => ?_) AllReadyH.nil
                rw [if_pos (by kernel_rfl)]
                refine wp_store_row 30 (.tmp 6) (.tmp 19) rfl gD (SL F S).toArray rfl rfl 30 _ hD2 (sig_info _ _) (SL_sz _ _ _ _) (SL_one _ _) ?_
                have hD3 := hD2.setRow (SL F S)
                have hC3 := hC2.setRowOther (k := gD) hne (SL F S).toArray
                have hH3 := below_setRow (g := gD) hH2 geD (SL F S).toArray
                refine hK.out _ _ hH3 (fun hHeld => ?_)
                clear hK K
                refine wpAnyH_done (by kernel_rfl) ?_ _
                exact ⟨rfl, gC, gD, _, rfl, hH3, geC, geD, hne, hC3, hD3⟩
        · rw [if_pos (by kernel_rfl)]
          refine wp_allocK 30 (SL 0 0) rfl sig_alloc ?_
          have hb := Below.alloc1 w71 (.cells (SL 0 0).toArray 30)
          have hDn := Row.new w71 (SL 0 0) 30
          have hCn := hC.belowAll hb
          have hHn := hH.trans (hb.mono hH.size)
          have geD : W.heap.size ≤ w71.heap.size := hH.size
          have hlt := hC.lt
          have hne : gC ≠ w71.heap.size := by omega
          clear hlt
          refine hK.out _ _ hHn (fun _ => ?_)
          clear hK K
          generalize w71.alloc (.cells (SL 0 0).toArray 30) = w90 at hHn hCn hDn ⊢
          clear hb hH hC
          have hH := hHn
          have hC := hCn
          have hD := hDn
          clear hHn hCn hDn
          generalize w71.heap.size = gD at hD geD hne ⊢
          refine wpAnyH_ready (rs := [1, 4]) (by kernel_rfl) (by simp) ?_
          refine AllReadyH.cons rfl (fun K hK => ?_) (AllReadyH.cons rfl (fun K hK => ?_) AllReadyH.nil)
          · rw [if_pos (by kernel_rfl)]
            go_simp
            refine (HPB.out _ (HV.out.belowAll hH)).mono ?_
            rintro e w91 ⟨rfl, hb⟩
            have hCn := hC.belowAll hb
            have hDn := hD.belowAll hb
            have hHn := hH.trans (hb.mono hH.size)
            refine hK.out _ _ hHn (fun _ => ?_)
            clear hK K
            clear hb hH hC hD
            have hH := hHn
            have hC := hCn
            have hD := hDn
            clear hHn hCn hDn
            refine wpAnyH_ready (rs := [4]) (by kernel_rfl) (by simp) ?_
            refine AllReadyH.cons rfl (fun K hK => ?_) AllReadyH.nil
            · rw [if_pos (by kernel_rfl)]
              refine wp_buildOne (.tmp 17) rfl A1 n1 c1 rfl ?_
              have hb := Below.alloc1 w91 (.cells #[.slice A1 n1 c1] 24)
              have hBn : Rd (w91.alloc (.cells #[.slice A1 n1 c1] 24)) (fun _ => True) (some ⟨w91.heap.size, 0, none⟩) 1 [.slice A1 n1 c1] := one_row
              have hCn := hC.belowAll hb
              have hDn := hD.belowAll hb
              have hHn := hH.trans (hb.mono hH.size)
              refine hK.out _ _ hHn (fun _ => ?_)
              clear hK K
              generalize w91.alloc (.cells #[.slice A1 n1 c1] 24) = w92 at hHn hCn hDn hBn ⊢
              clear hb hH hC hD
              have hH := hHn
              have hC := hCn
              have hD := hDn
              have hB := hBn
              clear hHn hCn hDn hBn
              refine wpAnyH_ready (rs := [5]) (by kernel_rfl) (by simp) ?_
              refine AllReadyH.cons rfl (fun K hK => ?_) AllReadyH.nil
              · rw [if_pos (by kernel_rfl)]
                go_simp
                refine (HSG.out _ (HV.out.belowAll hH) _ _ _ 1 1 hB (HPA.out.belowAll hH) (by decide) (by simp)).mono ?_
                rintro e w93 ⟨rfl, hb⟩
                have hCn := hC.belowAll hb
                have hDn := hD.belowAll hb
                have hBn := hB.belowAll hb
                have hHn := hH.trans (hb.mono hH.size)
                refine hK.out _ _ hHn (fun _ => ?_)
                clear hK K
                clear hb hH hC hD hB
                have hH := hHn
                have hC := hCn
                have hD := hDn
                have hB := hBn
                clear hHn hCn hDn hBn
                refine wpAnyH_ready (rs := [8]) (by kernel_rfl) (by simp) ?_
                refine AllReadyH.cons rfl (fun K hK => ?_) AllReadyH.nil
                rw [if_pos (by kernel_rfl)]
                refine wp_store_row 27 (.tmp 5) (.tmp 15) rfl gC (By Y 32).toArray rfl rfl 27 _ hC (key_info _) (By_sz _ _) (By_one32 _) ?_
                have hC2 := hC.setRow (By Y 32)
                have hD2 := hD.setRowOther (k := gC) hne.symm (By Y 32).toArray
                have hH2 := below_setRow (g := gC) hH geC (By Y 32).toArray
                refine hK.out _ _ hH2 (fun hHeld => ?_)
                clear hK K
                refine wpAnyH_ready (rs := [9]) (by kernel_rfl) (by simp) ?_
                refine AllReadyH.cons rfl (fun K hK => ?_) AllReadyH.nil
                rw [if_pos (by kernel_rfl)]
                refine wp_store_row 30 (.tmp 6) (.tmp 19) rfl gD (SL F S).toArray rfl rfl 30 _ hD2 (sig_info _ _) (SL_sz _ _ _ _) (SL_one _ _) ?_
                have hD3 := hD2.setRow (SL F S)
                have hC3 := hC2.setRowOther (k := gD) hne (SL F S).toArray
                have hH3 := below_setRow (g := gD) hH2 geD (SL F S).toArray
                refine hK.out _ _ hH3 (fun hHeld => ?_)
                clear hK K
                refine wpAnyH_done (by kernel_rfl) ?_ _
                exact ⟨rfl, gC, gD, _, rfl, hH3, geC, geD, hne, hC3, hD3⟩
          · rw [if_pos (by kernel_rfl)]
            refine wp_buildOne (.tmp 17) rfl A1 n1 c1 rfl ?_
            have hb := Below.alloc1 w90 (.cells #[.slice A1 n1 c1] 24)
            have hBn : Rd (w90.alloc (.cells #[.slice A1 n1 c1] 24)) (fun _ => True) (some ⟨w90.heap.size, 0, none⟩) 1 [.slice A1 n1 c1] := one_row
            have hCn := hC.belowAll hb
            have hDn := hD.belowAll hb
            have hHn := hH.trans (hb.mono hH.size)
            refine hK.out _ _ hHn (fun _ => ?_)
            clear hK K
            generalize w90.alloc (.cells #[.slice A1 n1 c1] 24) = w94 at hHn hCn hDn hBn ⊢
            clear hb hH hC hD
            have hH := hHn
            have hC := hCn
            have hD := hDn
            have hB := hBn
            clear hHn hCn hDn hBn
            refine wpAnyH_ready (rs := [1]) (by kernel_rfl) (by simp) ?_
            refine AllReadyH.cons rfl (fun K hK => ?_) AllReadyH.nil
            · rw [if_pos (by kernel_rfl)]
              go_simp
              refine (HPB.out _ (HV.out.belowAll hH)).mono ?_
              rintro e w95 ⟨rfl, hb⟩
              have hCn := hC.belowAll hb
              have hDn := hD.belowAll hb
              have hBn := hB.belowAll hb
              have hHn := hH.trans (hb.mono hH.size)
              refine hK.out _ _ hHn (fun _ => ?_)
              clear hK K
              clear hb hH hC hD hB
              have hH := hHn
              have hC := hCn
              have hD := hDn
              have hB := hBn
              clear hHn hCn hDn hBn
              refine wpAnyH_ready (rs := [5]) (by kernel_rfl) (by simp) ?_
              refine AllReadyH.cons rfl (fun K hK => ?_) AllReadyH.nil
              · rw [if_pos (by kernel_rfl)]
                go_simp
                refine (HSG.out _ (HV.out.belowAll hH) _ _ _ 1 1 hB (HPA.out.belowAll hH) (by decide) (by simp)).mono ?_
                rintro e w96 ⟨rfl, hb⟩
                have hCn := hC.belowAll hb
                have hDn := hD.belowAll hb
                have hBn := hB.belowAll hb
                have hHn := hH.trans (hb.mono hH.size)
                refine hK.out _ _ hHn (fun _ => ?_)
                clear hK K
                clear hb hH hC hD hB
                have hH := hHn
                have hC := hCn
                have hD := hDn
                have hB := hBn
                clear hHn hCn hDn hBn
                refine wpAnyH_ready (rs := [8]) (by kernel_rfl) (by simp) ?_
                refine AllReadyH.cons rfl (fun K hK => ?_) AllReadyH.nil
                rw [if_pos (by kernel_rfl)]
                refine wp_store_row 27 (.tmp 5) (.tmp 15) rfl gC (By Y 32).toArray rfl rfl 27 _ hC (key_info _) (By_sz _ _) (By_one32 _) ?_
                have hC2 := hC.setRow (By Y 32)
                have hD2 := hD.setRowOther (k := gC) hne.symm (By Y 32).toArray
                have hH2 := below_setRow (g := gC) hH geC (By Y 32).toArray
                refine hK.out _ _ hH2 (fun hHeld => ?_)
                clear hK K
                refine wpAnyH_ready (rs := [9]) (by kernel_rfl) (by simp) ?_
                refine AllReadyH.cons rfl (fun K hK => ?_) AllReadyH.nil
                rw [if_pos (by kernel_rfl)]
                refine wp_store_row 30 (.tmp 6) (.tmp 19) rfl gD (SL F S).toArray rfl rfl 30 _ hD2 (sig_info _ _) (SL_sz _ _ _ _) (SL_one _ _) ?_
                have hD3 := hD2.setRow (SL F S)
                have hC3 := hC2.setRowOther (k := gD) hne (SL F S).toArray
                have hH3 := below_setRow (g := gD) hH2 geD (SL F S).toArray
                refine hK.out _ _ hH3 (fun hHeld => ?_)
                clear hK K
                refine wpAnyH_done (by kernel_rfl) ?_ _
                exact ⟨rfl, gC, gD, _, rfl, hH3, geC, geD, hne, hC3, hD3⟩
      · rw [if_pos (by kernel_rfl)]
        refine wp_allocK 30 (SL 0 0) rfl sig_alloc ?_
        have hb := Below.alloc1 w0 (.cells (SL 0 0).toArray 30)
        have hDn := Row.new w0 (SL 0 0) 30
        have hHn := hH.trans (hb.mono hH.size)
        have geD : W.heap.size ≤ w0.heap.size := hH.size
        refine hK.out _ _ hHn (fun _ => ?_)
        clear hK K
        generalize w0.alloc (.cells (SL 0 0).toArray 30) = w97 at hHn hDn ⊢
        clear hb hH
        have hH := hHn
        have hD := hDn
        clear hHn hDn
        generalize w0.heap.size = gD at hD geD ⊢
        refine wpAnyH_ready (rs := [1, 4, 6]) (by kernel_rfl) (by simp) ?_
        refine AllReadyH.cons rfl (fun K hK => ?_) (AllReadyH.cons rfl (fun K hK => ?_) (AllReadyH.cons rfl (fun K hK => ?_) AllReadyH.nil))
        · rw [if_pos (by kernel_rfl)]
          go_simp
          refine (HPB.out _ (HV.out.belowAll hH)).mono ?_
          rintro e w98 ⟨rfl, hb⟩
          have hDn := hD.belowAll hb
          have hHn := hH.trans (hb.mono hH.size)
          refine hK.out _ _ hHn (fun _ => ?_)
          clear hK K
          clear hb hH hD
          have hH := hHn
          have hD := hDn
          clear hHn hDn
          refine wpAnyH_ready (rs := [4, 6]) (by kernel_rfl) (by simp) ?_
          refine AllReadyH.cons rfl (fun K hK => ?_) (AllReadyH.cons rfl (fun K hK => ?_) AllReadyH.nil)
          · rw [if_pos (by kernel_rfl)]
            refine wp_buildOne (.tmp 17) rfl A1 n1 c1 rfl ?_
            have hb := Below.alloc1 w98 (.cells #[.slice A1 n1 c1] 24)
            have hBn : Rd (w98.alloc (.cells #[.slice A1 n1 c1] 24)) (fun _ => True) (some ⟨w98.heap.size, 0, none⟩) 1 [.slice A1 n1 c1] := one_row
            have hDn := hD.belowAll hb
            have hHn := hH.trans (hb.mono hH.size)
            refine hK.out _ _ hHn (fun _ => ?_)
            clear hK K
            generalize w98.alloc (.cells #[.slice A1 n1 c1] 24) = w99 at hHn hDn hBn ⊢
            clear hb hH hD
            have hH := hHn
            have hD := hDn
            have hB := hBn
            clear hHn hDn hBn
            refine wpAnyH_ready (rs := [5, 6]) (by kernel_rfl) (by simp) ?_
            refine AllReadyH.cons rfl (fun K hK => ?_) (AllReadyH.cons rfl (fun K hK => ?_) AllReadyH.nil)
            · rw [if_pos (by kernel_rfl)]
              go_simp
              refine (HSG.out _ (HV.out.belowAll hH) _ _ _ 1 1 hB (HPA.out.belowAll hH) (by decide) (by simp)).mono ?_
              rintro e w100 ⟨rfl, hb⟩
              have hDn := hD.belowAll hb
              have hBn := hB.belowAll hb
              have hHn := hH.trans (hb.mono hH.size)
              refine hK.out _ _ hHn (fun _ => ?_)
              clear hK K
              clear hb hH hD hB
              have hH := hHn
              have hD := hDn
              have hB := hBn
              clear hHn hDn hBn
              refine wpAnyH_ready (rs := [6]) (by kernel_rfl) (by simp) ?_
              refine AllReadyH.cons rfl (fun K hK => ?_) AllReadyH.nil
              · rw [if_pos (by kernel_rfl)]
                refine wp_allocK 27 (By 0 32) rfl key_alloc ?_
                have hb := Below.alloc1 w100 (.cells (By 0 32).toArray 27)
                have hCn := Row.new w100 (By 0 32) 27
                have hDn := hD.belowAll hb
                have hBn := hB.belowAll hb
                have hHn := hH.trans (hb.mono hH.size)
                have geC : W.heap.size ≤ w100.heap.size := hH.size
                have hlt := hD.lt
                have hne : w100.heap.size ≠ gD := by omega
                clear hlt
                refine hK.out _ _ hHn (fun _ => ?_)
                clear hK K
                generalize w100.alloc (.cells (By 0 32).toArray 27) = w101 at hHn hDn hBn hCn ⊢
                clear hb hH hD hB
                have hH := hHn
                have hD := hDn
                have hB := hBn
                have hC := hCn
                clear hHn hDn hBn hCn
                generalize w100.heap.size = gC at hC geC hne ⊢
                refine wpAnyH_ready (rs := [8]) (by kernel_rfl) (by simp) ?_
                refine AllReadyH.cons rfl (fun K hK => ?_) AllReadyH.nil
                rw [if_pos (by kernel_rfl)]
                refine wp_store_row 27 (.tmp 5) (.tmp 15) rfl gC (By Y 32).toArray rfl rfl 27 _ hC (key_info _) (By_sz _ _) (By_one32 _) ?_
                have hC2 := hC.setRow (By Y 32)
                have hD2 := hD.setRowOther (k := gC) hne.symm (By Y 32).toArray
                have hH2 := below_setRow (g := gC) hH geC (By Y 32).toArray
                refine hK.out _ _ hH2 (fun hHeld => ?_)
                clear hK K
                refine wpAnyH_ready (rs := [9]) (by kernel_rfl) (by simp) ?_
                refine AllReadyH.cons rfl (fun K hK => ?_) AllReadyH.nil
                rw [if_pos (by kernel_rfl)]
                refine wp_store_row 30 (.tmp 6) (.tmp 19) rfl gD (SL F S).toArray rfl rfl 30 _ hD2 (sig_info _ _) (SL_sz _ _ _ _) (SL_one _ _) ?_
                have hD3 := hD2.setRow (SL F S)
                have hC3 := hC2.setRowOther (k := gD) hne (SL F S).toArray
                have hH3 := below_setRow (g := gD) hH2 geD (SL F S).toArray
                refine hK.out _ _ hH3 (fun hHeld => ?_)
                clear hK K
                refine wpAnyH_done (by kernel_rfl) ?_ _
                exact ⟨rfl, gC, gD, _, rfl, hH3, geC, geD, hne, hC3, hD3⟩
            · rw [if_pos (by kernel_rfl)]
              refine wp_allocK 27 (By 0 32) rfl key_alloc ?_
              have hb := Below.alloc1 w99 (.cells (By 0 32).toArray 27)
              have hCn := Row.new w99 (By 0 32) 27
              have hDn := hD.belowAll hb
              have hBn := hB.belowAll hb
              have hHn := hH.trans (hb.mono hH.size)
              have geC : W.heap.size ≤ w99.heap.size := hH.size
              have hlt := hD.lt
              have hne : w99.heap.size ≠ gD := by omega
              clear hlt
              refine hK.out _ _ hHn (fun _ => ?_)
              clear hK K
              generalize w99.alloc (.cells (By 0 32).toArray 27) = w102 at hHn hDn hBn hCn ⊢
              clear hb hH hD hB
              have hH := hHn
              have hD := hDn
              have hB := hBn
              have hC := hCn
              clear hHn hDn hBn hCn
              generalize w99.heap.size = gC at hC geC hne ⊢
              refine wpAnyH_ready (rs := [5]) (by kernel_rfl) (by simp) ?_
              refine AllReadyH.cons rfl (fun K hK => ?_) AllReadyH.nil
              · rw [if_pos (by kernel_rfl)]
                go_simp
                refine (HSG.out _ (HV.out.belowAll hH) _ _ _ 1 1 hB (HPA.out.belowAll hH) (by decide) (by simp)).mono ?_
                rintro e w103 ⟨rfl, hb⟩
                have hDn := hD.belowAll hb
                have hBn := hB.belowAll hb
                have hCn := hC.belowAll hb
                have hHn := hH.trans (hb.mono hH.size)
                refine hK.out _ _ hHn (fun _ => ?_)
                clear hK K
                clear hb hH hD hB hC
                have hH := hHn
                have hD := hDn
                have hB := hBn
                have hC := hCn
                clear hHn hDn hBn hCn
                refine wpAnyH_ready (rs := [8]) (by kernel_rfl) (by simp) ?_
                refine AllReadyH.cons rfl (fun K hK => ?_) AllReadyH.nil
                rw [if_pos (by kernel_rfl)]
                refine wp_store_row 27 (.tmp 5) (.tmp 15) rfl gC (By Y 32).toArray rfl rfl 27 _ hC (key_info _) (By_sz _ _) (By_one32 _) ?_
                have hC2 := hC.setRow (By Y 32)
                have hD2 := hD.setRowOther (k := gC) hne.symm (By Y 32).toArray
                have hH2 := below_setRow (g := gC) hH geC (By Y 32).toArray
                refine hK.out _ _ hH2 (fun hHeld => ?_)
                clear hK K
                refine wpAnyH_ready (rs := [9]) (by kernel_rfl) (by simp) ?_
                refine AllReadyH.cons rfl (fun K hK => ?_) AllReadyH.nil
                rw [if_pos (by kernel_rfl)]
                refine wp_store_row 30 (.tmp 6) (.tmp 19) rfl gD (SL F S).toArray rfl rfl 30 _ hD2 (sig_info _ _) (SL_sz _ _ _ _) (SL_one _ _) ?_
                have hD3 := hD2.setRow (SL F S)
                have hC3 := hC2.setRowOther (k := gD) hne (SL F S).toArray
                have hH3 := below_setRow (g := gD) hH2 geD (SL F S).toArray
                refine hK.out _ _ hH3 (fun hHeld => ?_)
                clear hK K
                refine wpAnyH_done (by kernel_rfl) ?_ _
                exact ⟨rfl, gC, gD, _, rfl, hH3, geC, geD, hne, hC3, hD3⟩
          · rw [if_pos (by kernel_rfl)]
            refine wp_allocK 27 (By 0 32) rfl key_alloc ?_
            have hb := Below.alloc1 w98 (.cells (By 0 32).toArray 27)
            have hCn := Row.new w98 (By 0 32) 27
            have hDn := hD.belowAll hb
            have hHn := hH.trans (hb.mono hH.size)
            have geC : W.heap.size ≤ w98.heap.size := hH.size
            have hlt := hD.lt
            have hne : w98.heap.size ≠ gD := by omega
            clear hlt
            refine hK.out _ _ hHn (fun _ => ?_)
            clear hK K
            generalize w98.alloc (.cells (By 0 32).toArray 27) = w104 at hHn hDn hCn ⊢
            clear hb hH hD
            have hH := hHn
            have hD := hDn
            have hC := hCn
            clear hHn hDn hCn
            generalize w98.heap.size = gC at hC geC hne ⊢
            refine wpAnyH_ready (rs := [4]) (by kernel_rfl) (by simp) ?_
            refine AllReadyH.cons rfl (fun K hK => ?_) AllReadyH.nil
            · rw [if_pos (by kernel_rfl)]
              refine wp_buildOne (.tmp 17) rfl A1 n1 c1 rfl ?_
              have hb := Below.alloc1 w104 (.cells #[.slice A1 n1 c1] 24)
              have hBn : Rd (w104.alloc (.cells #[.slice A1 n1 c1] 24)) (fun _ => True) (some ⟨w104.heap.size, 0, none⟩) 1 [.slice A1 n1 c1] := one_row
              have hDn := hD.belowAll hb
              have hCn := hC.belowAll hb
              have hHn := hH.trans (hb.mono hH.size)
              refine hK.out _ _ hHn (fun _ => ?_)
              clear hK K
              generalize w104.alloc (.cells #[.slice A1 n1 c1] 24) = w105 at hHn hDn hCn hBn ⊢
              clear hb hH hD hC
              have hH := hHn
              have hD := hDn
              have hC := hCn
              have hB := hBn
              clear hHn hDn hCn hBn
              refine wpAnyH_ready (rs := [5]) (by kernel_rfl) (by simp) ?_
              refine AllReadyH.cons rfl (fun K hK => ?_) AllReadyH.nil
              · rw [if_pos (by kernel_rfl)]
                go_simp
                refine (HSG.out _ (HV.out.belowAll hH) _ _ _ 1 1 hB (HPA.out.belowAll hH) (by decide) (by simp)).mono ?_
                rintro e w106 ⟨rfl, hb⟩
                have hDn := hD.belowAll hb
                have hCn := hC.belowAll hb
                have hBn := hB.belowAll hb
                have hHn := hH.trans (hb.mono hH.size)
                refine hK.out _ _ hHn (fun _ => ?_)
                clear hK K
                clear hb hH hD hC hB
                have hH := hHn
                have hD := hDn
                have hC := hCn
                have hB := hBn
                clear hHn hDn hCn hBn
                refine wpAnyH_ready (rs := [8]) (by kernel_rfl) (by simp) ?_
                refine AllReadyH.cons rfl (fun K hK => ?_) AllReadyH.nil
                rw [if_pos (by kernel_rfl)]
                refine wp_store_row 27 (.tmp 5) (.tmp 15) rfl gC (By Y 32).toArray rfl rfl 27 _ hC (key_info _) (By_sz _ _) (By_one32 _) ?_
                have hC2 := hC.setRow (By Y 32)
                have hD2 := hD.setRowOther (k := gC) hne.symm (By Y 32).toArray
                have hH2 := below_setRow (g := gC) hH geC (By Y 32).toArray
                refine hK.out _ _ hH2 (fun hHeld => ?_)
                clear hK K
                refine wpAnyH_ready (rs := [9]) (by kernel_rfl) (by simp) ?_
                refine AllReadyH.cons rfl (fun K hK => ?_) AllReadyH.nil
                rw [if_pos (by kernel_rfl)]
                refine wp_store_row 30 (.tmp 6) (.tmp 19) rfl gD (SL F S).toArray rfl rfl 30 _ hD2 (sig_info _ _) (SL_sz _ _ _ _) (SL_one _ _) ?_
                have hD3 := hD2.setRow (SL F S)
                have hC3 := hC2.setRowOther (k := gD) hne (SL F S).toArray
                have hH3 := below_setRow (g := gD) hH2 geD (SL F S).toArray
                refine hK.out _ _ hH3 (fun hHeld => ?_)
                clear hK K
                refine wpAnyH_done (by kernel_rfl) ?_ _
                exact ⟨rfl, gC, gD, _, rfl, hH3, geC, geD, hne, hC3, hD3⟩
        · rw [if_pos (by kernel_rfl)]
          refine wp_buildOne (.tmp 17) rfl A1 n1 c1 rfl ?_
          have hb := Below.alloc1 w97 (.cells #[.slice A1 n1 c1] 24)
          have hBn : Rd (w97.alloc (.cells #[.slice A1 n1 c1] 24)) (fun _ => True) (some ⟨w97.heap.size, 0, none⟩) 1 [.slice A1 n1 c1] := one_row
          have hDn := hD.belowAll hb
          have hHn := hH.trans (hb.mono hH.size)
          refine hK.out _ _ hHn (fun _ => ?_)
          clear hK K
          generalize w97.alloc (.cells #[.slice A1 n1 c1] 24) = w107 at hHn hDn hBn ⊢
          clear hb hH hD
          have hH := hHn
          have hD := hDn
          have hB := hBn
          clear hHn hDn hBn
          refine wpAnyH_ready (rs := [1, 6]) (by kernel_rfl) (by simp) ?_
          refine AllReadyH.cons rfl (fun K hK => ?_) (AllReadyH.cons rfl (fun K hK => ?_) AllReadyH.nil)
          · rw [if_pos (by kernel_rfl)]
            go_simp
            refine (HPB.out _ (HV.out.belowAll hH)).mono ?_
            rintro e w108 ⟨rfl, hb⟩
            have hDn := hD.belowAll hb
            have hBn := hB.belowAll hb
            have hHn := hH.trans (hb.mono hH.size)
            refine hK.out _ _ hHn (fun _ => ?_)
            clear hK K
            clear hb hH hD hB
            have hH := hHn
            have hD := hDn
            have hB := hBn
            clear hHn hDn hBn
            refine wpAnyH_ready (rs := [5, 6]) (by kernel_rfl) (by simp) ?_
            refine AllReadyH.cons rfl (fun K hK => ?_) (AllReadyH.cons rfl (fun K hK => ?_) AllReadyH.nil)
            · rw [if_pos (by kernel_rfl)]
              go_simp
              refine (HSG.out _ (HV.out.belowAll hH) _ _ _ 1 1 hB (HPA.out.belowAll hH) (by decide) (by simp)).mono ?_
              rintro e w109 ⟨rfl, hb⟩
              have hDn := hD.belowAll hb
              have hBn := hB.belowAll hb
              have hHn := hH.trans (hb.mono hH.size)
              refine hK.out _ _ hHn (fun _ => ?_)
              clear hK K
              clear hb hH hD hB
              have hH := hHn
              have hD := hDn
              have hB := hBn
              clear hHn hDn hBn
              refine wpAnyH_ready (rs := [6]) (by kernel_rfl) (by simp) ?_
              refine AllReadyH.cons rfl (fun K hK => ?_) AllReadyH.nil
              · rw [if_pos (by kernel_rfl)]
                refine wp_allocK 27 (By 0 32) rfl key_alloc ?_
                have hb := Below.alloc1 w109 (.cells (By 0 32).toArray 27)
                have hCn := Row.new w109 (By 0 32) 27
                have hDn := hD.belowAll hb
                have hBn := hB.belowAll hb
                have hHn := hH.trans (hb.mono hH.size)
                have geC : W.heap.size ≤ w109.heap.size := hH.size
                have hlt := hD.lt
                have hne : w109.heap.size ≠ gD := by omega
                clear hlt
                refine hK.out _ _ hHn (fun _ => ?_)
                clear hK K
                generalize w109.alloc (.cells (By 0 32).toArray 27) = w110 at hHn hDn hBn hCn ⊢
                clear hb hH hD hB
                have hH := hHn
                have hD := hDn
                have hB := hBn
                have hC := hCn
                clear hHn hDn hBn hCn
                generalize w109.heap.size = gC at hC geC hne ⊢
                refine wpAnyH_ready (rs := [8]) (by kernel_rfl) (by simp) ?_
                refine AllReadyH.cons rfl (fun K hK => ?_) AllReadyH.nil
                rw [if_pos (by kernel_rfl)]
                refine wp_store_row 27 (.tmp 5) (.tmp 15) rfl gC (By Y 32).toArray rfl rfl 27 _ hC (key_info _) (By_sz _ _) (By_one32 _) ?_
                have hC2 := hC.setRow (By Y 32)
                have hD2 := hD.setRowOther (k := gC) hne.symm (By Y 32).toArray
                have hH2 := below_setRow (g := gC) hH geC (By Y 32).toArray
                refine hK.out _ _ hH2 (fun hHeld => ?_)
                clear hK K
                refine wpAnyH_ready (rs := [9]) (by kernel_rfl) (by simp) ?_
                refine AllReadyH.cons rfl (fun K hK => ?_) AllReadyH.nil
                rw [if_pos (by kernel_rfl)]
                refine wp_store_row 30 (.tmp 6) (.tmp 19) rfl gD (SL F S).toArray rfl rfl 30 _ hD2 (sig_info _ _) (SL_sz _ _ _ _) (SL_one _ _) ?_
                have hD3 := hD2.setRow (SL F S)
                have hC3 := hC2.setRowOther (k := gD) hne (SL F S).toArray
                have hH3 := below_setRow (g := gD) hH2 geD (SL F S).toArray
                refine hK.out _ _ hH3 (fun hHeld => ?_)
                clear hK K
                refine wpAnyH_done (by kernel_rfl) ?_ _
                exact ⟨rfl, gC, gD, _, rfl, hH3, geC, geD, hne, hC3, hD3⟩
            · rw [if_pos (by kernel_rfl)]
              refine wp_allocK 27 (By 0 32) rfl key_alloc ?_
              have hb := Below.alloc1 w108 (.cells (By 0 32).toArray 27)
              have hCn := Row.new w108 (By 0 32) 27
              have hDn := hD.belowAll hb
              have hBn := hB.belowAll hb
              have hHn := hH.trans (hb.mono hH.size)
              have geC : W.heap.size ≤ w108.heap.size := hH.size
              have hlt := hD.lt
              have hne : w108.heap.size ≠ gD := by omega
              clear hlt
              refine hK.out _ _ hHn (fun _ => ?_)
              clear hK K
              generalize w108.alloc (.cells (By 0 32).toArray 27) = w111 at hHn hDn hBn hCn ⊢
              clear hb hH hD hB
              have hH := hHn
              have hD := hDn
              have hB := hBn
              have hC := hCn
              clear hHn hDn hBn hCn
              generalize w108.heap.size = gC at hC geC hne ⊢
              refine wpAnyH_ready (rs := [5]) (by kernel_rfl) (by simp) ?_
              refine AllReadyH.cons rfl (fun K hK => ?_) AllReadyH.nil
              · rw [if_pos (by kernel_rfl)]
                go_simp
                refine (HSG.out _ (HV.out.belowAll hH) _ _ _ 1 1 hB (HPA.out.belowAll hH) (by decide) (by simp)).mono ?_
                rintro e w112 ⟨rfl, hb⟩
                have hDn := hD.belowAll hb
                have hBn := hB.belowAll hb
                have hCn := hC.belowAll hb
                have hHn := hH.trans (hb.mono hH.size)
                refine hK.out _ _ hHn (fun _ => ?_)
                clear hK K
                clear hb hH hD hB hC
                have hH := hHn
                have hD := hDn
                have hB := hBn
                have hC := hCn
                clear hHn hDn hBn hCn
                refine wpAnyH_ready (rs := [8]) (by kernel_rfl) (by simp) ?_
                refine AllReadyH.cons rfl (fun K hK => ?_) AllReadyH.nil
                rw [if_pos (by kernel_rfl)]
                refine wp_store_row 27 (.tmp 5) (.tmp 15) rfl gC (By Y 32).toArray rfl rfl 27 _ hC (key_info _) (By_sz _ _) (By_one32 _) ?_
                have hC2 := hC.setRow (By Y 32)
                have hD2 := hD.setRowOther (k := gC) hne.symm (By Y 32).toArray
                have hH2 := below_setRow (g := gC) hH geC (By Y 32).toArray
                refine hK.out _ _ hH2 (fun hHeld => ?_)
                clear hK K
                refine wpAnyH_ready (rs := [9]) (by kernel_rfl) (by simp) ?_
                refine AllReadyH.cons rfl (fun K hK => ?_) AllReadyH.nil
                rw [if_pos (by kernel_rfl)]
                refine wp_store_row 30 (.tmp 6) (.tmp 19) rfl gD (SL F S).toArray rfl rfl 30 _ hD2 (sig_info _ _) (SL_sz _ _ _ _) (SL_one _ _) ?_
                have hD3 := hD2.setRow (SL F S)
                have hC3 := hC2.setRowOther (k := gD) hne (SL F S).toArray
                have hH3 := below_setRow (g := gD) hH2 geD (SL F S).toArray
                refine hK.out _ _ hH3 (fun hHeld => ?_)
                clear hK K
                refine wpAnyH_done (by kernel_rfl) ?_ _
                exact ⟨rfl, gC, gD, _, rfl, hH3, geC, geD, hne, hC3, hD3⟩
          · rw [if_pos (by kernel_rfl)]
            refine wp_allocK 27 (By 0 32) rfl key_alloc ?_
            have hb := Below.alloc1 w107 (.cells (By 0 32).toArray 27)
            have hCn := Row.new w107 (By 0 32) 27
            have hDn := hD.belowAll hb
            have hBn := hB.belowAll hb
            have hHn := hH.trans (hb.mono hH.size)
            have geC : W.heap.size ≤ w107.heap.size := hH.size
            have hlt := hD.lt
            have hne : w107.heap.size ≠ gD := by omega
            clear hlt
            refine hK.out _ _ hHn (fun _ => ?_)
            clear hK K
            generalize w107.alloc (.cells (By 0 32).toArray 27) = w113 at hHn hDn hBn hCn ⊢
            clear hb hH hD hB
            have hH := hHn
            have hD := hDn
            have hB := hBn
            have hC := hCn
            clear hHn hDn hBn hCn
            generalize w107.heap.size = gC at hC geC hne ⊢
            refine wpAnyH_ready (rs := [1]) (by kernel_rfl) (by simp) ?_
            refine AllReadyH.cons rfl (fun K hK => ?_) AllReadyH.nil
            · rw [if_pos (by kernel_rfl)]
              go_simp
              refine (HPB.out _ (HV.out.belowAll hH)).mono ?_
              rintro e w114 ⟨rfl, hb⟩
              have hDn := hD.belowAll hb
              have hBn := hB.belowAll hb
              have hCn := hC.belowAll hb
              have hHn := hH.trans (hb.mono hH.size)
              refine hK.out _ _ hHn (fun _ => ?_)
              clear hK K
              clear hb hH hD hB hC
              have hH := hHn
              have hD := hDn
              have hB := hBn
              have hC := hCn
              clear hHn hDn hBn hCn
              refine wpAnyH_ready (rs := [5]) (by kernel_rfl) (by simp) ?_
              refine AllReadyH.cons rfl (fun K hK => ?_) AllReadyH.nil
              · rw [if_pos (by kernel_rfl)]
                go_simp
                refine (HSG.out _ (HV.out.belowAll hH) _ _ _ 1 1 hB (HPA.out.belowAll hH) (by decide) (by simp)).mono ?_
                rintro e w115 ⟨rfl, hb⟩
                have hDn := hD.belowAll hb
                have hBn := hB.belowAll hb
                have hCn := hC.belowAll hb
                have hHn := hH.trans (hb.mono hH.size)
                refine hK.out _ _ hHn (fun _ => ?_)
                clear hK K
                clear hb hH hD hB hC
                have hH := hHn
                have hD := hDn
                have hB := hBn
                have hC := hCn
                clear hHn hDn hBn hCn
                refine wpAnyH_ready (rs := [8]) (by kernel_rfl) (by simp) ?_
                refine AllReadyH.cons rfl (fun K hK => ?_) AllReadyH.nil
                rw [if_pos (by kernel_rfl)]
                refine wp_store_row 27 (.tmp 5) (.tmp 15) rfl gC (By Y 32).toArray rfl rfl 27 _ hC (key_info _) (By_sz _ _) (By_one32 _) ?_
                have hC2 := hC.setRow (By Y 32)
                have hD2 := hD.setRowOther (k := gC) hne.symm (By Y 32).toArray
                have hH2 := below_setRow (g := gC) hH geC (By Y 32).toArray
                refine hK.out _ _ hH2 (fun hHeld => ?_)
                clear hK K
                refine wpAnyH_ready (rs := [9]) (by kernel_rfl) (by simp) ?_
                refine AllReadyH.cons rfl (fun K hK => ?_) AllReadyH.nil
                rw [if_pos (by kernel_rfl)]
                refine wp_store_row 30 (.tmp 6) (.tmp 19) rfl gD (SL F S).toArray rfl rfl 30 _ hD2 (sig_info _ _) (SL_sz _ _ _ _) (SL_one _ _) ?_
                have hD3 := hD2.setRow (SL F S)
                have hC3 := hC2.setRowOther (k := gD) hne (SL F S).toArray
                have hH3 := below_setRow (g := gD) hH2 geD (SL F S).toArray
                refine hK.out _ _ hH3 (fun hHeld => ?_)
                clear hK K
                refine wpAnyH_done (by kernel_rfl) ?_ _
                exact ⟨rfl, gC, gD, _, rfl, hH3, geC, geD, hne, hC3, hD3⟩
        · rw [if_pos (by kernel_rfl)]
          refine wp_allocK 27 (By 0 32) rfl key_alloc ?_
          have hb := Below.alloc1 w97 (.cells (By 0 32).toArray 27)
          have hCn := Row.new w97 (By 0 32) 27
          have hDn := hD.belowAll hb
          have hHn := hH.trans (hb.mono hH.size)
          have geC : W.heap.size ≤ w97.heap.size := hH.size
          have hlt := hD.lt
          have hne : w97.heap.size ≠ gD := by omega
          clear hlt
          refine hK.out _ _ hHn (fun _ => ?_)
          clear hK K
          generalize w97.alloc (.cells (By 0 32).toArray 27) = w116 at hHn hDn hCn ⊢
          clear hb hH hD
          have hH := hHn
          have hD := hDn
          have hC := hCn
          clear hHn hDn hCn
          generalize w97.heap.size = gC at hC geC hne ⊢
          refine wpAnyH_ready (rs := [1, 4]) (by kernel_rfl) (by simp) ?_
          refine AllReadyH.cons rfl (fun K hK => ?_) (AllReadyH.cons rfl (fun K hK => ?_) AllReadyH.nil)
          · rw [if_pos (by kernel_rfl)]
            go_simp
            refine (HPB.out _ (HV.out.belowAll hH)).mono ?_
            rintro e w117 ⟨rfl, hb⟩
            have hDn := hD.belowAll hb
            have hCn := hC.belowAll hb
            have hHn := hH.trans (hb.mono hH.size)
            refine hK.out _ _ hHn (fun _ => ?_)
            clear hK K
            clear hb hH hD hC
            have hH := hHn
            have hD := hDn
            have hC := hCn
            clear hHn hDn hCn
            refine wpAnyH_ready (rs := [4]) (by kernel_rfl) (by simp) ?_
            refine AllReadyH.cons rfl (fun K hK => ?_) AllReadyH.nil
            · rw [if_pos (by kernel_rfl)]
              refine wp_buildOne (.tmp 17) rfl A1 n1 c1 rfl ?_
              have hb := Below.alloc1 w117 (.cells #[.slice A1 n1 c1] 24)
              have hBn : Rd (w117.alloc (.cells #[.slice A1 n1 c1] 24)) (fun _ => True) (some ⟨w117.heap.size, 0, none⟩) 1 [.slice A1 n1 c1] := one_row
              have hDn := hD.belowAll hb
              have hCn := hC.belowAll hb
              have hHn := hH.trans (hb.mono hH.size)
              refine hK.out _ _ hHn (fun _ => ?_)
              clear hK K
              generalize w117.alloc (.cells #[.slice A1 n1 c1] 24) = w118 at hHn hDn hCn hBn ⊢
              clear hb hH hD hC
              have hH := hHn
              have hD := hDn
              have hC := hCn
              have hB := hBn
              clear hHn hDn hCn hBn
              refine wpAnyH_ready (rs := [5]) (by kernel_rfl) (by simp) ?_
              refine AllReadyH.cons rfl (fun K hK => ?_) AllReadyH.nil
              · rw [if_pos (by kernel_rfl)]
                go_simp
                refine (HSG.out _ (HV.out.belowAll hH) _ _ _ 1 1 hB (HPA.out.belowAll hH) (by decide) (by simp)).mono ?_
                rintro e w119 ⟨rfl, hb⟩
                have hDn := hD.belowAll hb
                have hCn := hC.belowAll hb
                have hBn := hB.belowAll hb
                have hHn := hH.trans (hb.mono hH.size)
                refine hK.out _ _ hHn (fun _ => ?_)
                clear hK K
                clear hb hH hD hC hB
                have hH := hHn
                have hD := hDn
                have hC := hCn
                have hB := hBn
                clear hHn hDn hCn hBn
                refine wpAnyH_ready (rs := [8]) (by kernel_rfl) (by simp) ?_
                refine AllReadyH.cons rfl (fun K hK => ?_) AllReadyH.nil
                rw [if_pos (by kernel_rfl)]
                refine wp_store_row 27 (.tmp 5) (.tmp 15) rfl gC (By Y 32).toArray rfl rfl 27 _ hC (key_info _) (By_sz _ _) (By_one32 _) ?_
                have hC2 := hC.setRow (By Y 32)
                have hD2 := hD.setRowOther (k := gC) hne.symm (By Y 32).toArray
                have hH2 := below_setRow (g := gC) hH geC (By Y 32).toArray
                refine hK.out _ _ hH2 (fun hHeld => ?_)
                clear hK K
                refine wpAnyH_ready (rs := [9]) (by kernel_rfl) (by simp) ?_
                refine AllReadyH.cons rfl (fun K hK => ?_) AllReadyH.nil
                rw [if_pos (by kernel_rfl)]
                refine wp_store_row 30 (.tmp 6) (.tmp 19) rfl gD (SL F S).toArray rfl rfl 30 _ hD2 (sig_info _ _) (SL_sz _ _ _ _) (SL_one _ _) ?_
                have hD3 := hD2.setRow (SL F S)
                have hC3 := hC2.setRowOther (k := gD) hne (SL F S).toArray
                have hH3 := below_setRow (g := gD) hH2 geD (SL F S).toArray
                refine hK.out _ _ hH3 (fun hHeld => ?_)
                clear hK K
                refine wpAnyH_done (by kernel_rfl) ?_ _
                exact ⟨rfl, gC, gD, _, rfl, hH3, geC, geD, hne, hC3, hD3⟩
          · rw [if_pos (by kernel_rfl)]
            refine wp_buildOne (.tmp 17) rfl A1 n1 c1 rfl ?_
            have hb := Below.alloc1 w116 (.cells #[.slice A1 n1 c1] 24)
            have hBn : Rd (w116.alloc (.cells #[.slice A1 n1 c1] 24)) (fun _ => True) (some ⟨w116.heap.size, 0, none⟩) 1 [.slice A1 n1 c1] := one_row
            have hDn := hD.belowAll hb
            have hCn := hC.belowAll hb
            have hHn := hH.trans (hb.mono hH.size)
            refine hK.out _ _ hHn (fun _ => ?_)
            clear hK K
            generalize w116.alloc (.cells #[.slice A1 n1 c1] 24) = w120 at hHn hDn hCn hBn ⊢
            clear hb hH hD hC
            have hH := hHn
            have hD := hDn
            have hC := hCn
            have hB := hBn
            clear hHn hDn hCn hBn
            refine wpAnyH_ready (rs := [1]) (by kernel_rfl) (by simp) ?_
            refine AllReadyH.cons rfl (fun K hK => ?_) AllReadyH.nil
            · rw [if_pos (by kernel_rfl)]
              go_simp
              refine (HPB.out _ (HV.out.belowAll hH)).mono ?_
              rintro e w121 ⟨rfl, hb⟩
              have hDn := hD.belowAll hb
              have hCn := hC.belowAll hb
              have hBn := hB.belowAll hb
              have hHn := hH.trans (hb.mono hH.size)
              refine hK.out _ _ hHn (fun _ => ?_)
              clear hK K
              clear hb hH hD hC hB
              have hH := hHn
              have hD := hDn
              have hC := hCn
              have hB := hBn
              clear hHn hDn hCn hBn
              refine wpAnyH_ready (rs := [5]) (by kernel_rfl) (by simp) ?_
              refine AllReadyH.cons rfl (fun K hK => ?_) AllReadyH.nil
              · rw [if_pos (by kernel_rfl)]
                go_simp
                refine (HSG.out _ (HV.out.belowAll hH) _ _ _ 1 1 hB (HPA.out.belowAll hH) (by decide) (by simp)).mono ?_
                rintro e w122 ⟨rfl, hb⟩
                have hDn := hD.belowAll hb
                have hCn := hC.belowAll hb
                have hBn := hB.belowAll hb
                have hHn := hH.trans (hb.mono hH.size)
                refine hK.out _ _ hHn (fun _ => ?_)
                clear hK K
                clear hb hH hD hC hB
                have hH := hHn
                have hD := hDn
                have hC := hCn
                have hB := hBn
                clear hHn hDn hCn hBn
                refine wpAnyH_ready (rs := [8]) (by kernel_rfl) (by simp) ?_
                refine AllReadyH.cons rfl (fun K hK => ?_) AllReadyH.nil
                rw [if_pos (by kernel_rfl)]
                refine wp_store_row 27 (.tmp 5) (.tmp 15) rfl gC (By Y 32).toArray rfl rfl 27 _ hC (key_info _) (By_sz _ _) (By_one32 _) ?_
                have hC2 := hC.setRow (By Y 32)
                have hD2 := hD.setRowOther (k := gC) hne.symm (By Y 32).toArray
                have hH2 := below_setRow (g := gC) hH geC (By Y 32).toArray
                refine hK.out _ _ hH2 (fun hHeld => ?_)
                clear hK K
                refine wpAnyH_ready (rs := [9]) (by kernel_rfl) (by simp) ?_
                refine AllReadyH.cons rfl (fun K hK => ?_) AllReadyH.nil
                rw [if_pos (by kernel_rfl)]
                refine wp_store_row 30 (.tmp 6) (.tmp 19) rfl gD (SL F S).toArray rfl rfl 30 _ hD2 (sig_info _ _) (SL_sz _ _ _ _) (SL_one _ _) ?_
                have hD3 := hD2.setRow (SL F S)
                have hC3 := hC2.setRowOther (k := gD) hne (SL F S).toArray
                have hH3 := below_setRow (g := gD) hH2 geD (SL F S).toArray
                refine hK.out _ _ hH3 (fun hHeld => ?_)
                clear hK K
                refine wpAnyH_done (by kernel_rfl) ?_ _
                exact ⟨rfl, gC, gD, _, rfl, hH3, geC, geD, hne, hC3, hD3⟩
    · rintro a' W2 ⟨gC, gD, v18, rfl, hb, geC, geD, hne, hC, hD⟩
      obtain ⟨M, hM⟩ : ∃ M, M = qN := ⟨_, rfl⟩
      have HM := Lib.hid hM
      clear hM
      have hb7 := below_setRow (g := W2.heap.size) (Below.alloc1 W2 (.cells (By 0 32).toArray 22)) (Nat.le_refl _) (By M 32).toArray
      have h7 := Row.new W2 (By 0 32) 22
      have H7 := Lib.hid h7
      have H7R := Lib.hid (h7.setRow (By M 32))
      have HB2 := Lib.hid (hb.trans (hb7.mono hb.size))
      have HC := Lib.hid (hC.belowAll hb7)
      have HD := Lib.hid (hD.belowAll hb7)
      have hltD := hD.lt
      have hltC := hC.lt
      have hsz2 := hb.size
      have hszW := HW.out.size
      clear hb hb7 h7 hC hD HS HRA HPB HSG
      go_upto_region 5 with (first
        | (refine wpList_buildc rfl 22 _ rfl (By M 32).toArray (by rw [HM.out]; kernel_rfl) ?_)
        | (refine wpList_store_row rfl 22 (.tmp 7) (.tmp 20) rfl W2.heap.size _ rfl rfl 22 _ H7.out (by_info _) (By_sz _ _) (By_one32 _) ?_))
      change Code.wp _ _ _ _ ((W2.alloc (.cells (By 0 32).toArray 22)).setRow W2.heap.size (By M 32).toArray)
      have h7 := H7R.out
      have hb3 := HB2.out
      have hC := HC.out
      have hD := HD.out
      clear H7 H7R HB2 HC HD
      generalize (W2.alloc (.cells (By 0 32).toArray 22)).setRow W2.heap.size (By M 32).toArray = W3 at *
      have hneD : gD ≠ W2.heap.size := by omega
      have hneC : gC ≠ gD := hne
      have hgeW : w.heap.size ≤ gD := by omega
      generalize W2.heap.size = g7 at *
      clear hltD hltC hsz2 hszW geC hne
      have h00 : sgR F S M 0 = SL F S := sgR_0 F S M
      rw [← h00] at hD
      have H7 := Lib.hid h7
      have HB3 := Lib.hid hb3
      have HC := Lib.hid hC
      have HD := Lib.hid hD
      have HGD := Lib.hid geD
      clear h7 hb3 hC hD h00 geD
      go_wp2_with fail
      go_loopw [8, 9] (fun ov i wr => ∃ k : Nat, k ≤ 32 ∧ i = .int .i64 (k : Int) ∧ ov = .int .i64 (cyb S M k : Int) ∧ Row wr g7 22 (By M 32) ∧ Row wr gD 30 (sgR F S M k) ∧ Only (fun b => b = gD) W3 wr) (fun _ i _ => 32 - (intOf i).toNat)
      case atStart => exact ⟨0, Nat.zero_le _, rfl, by rw [cyb_0]; rfl, H7.out, HD.out, Only.refl _ _⟩
      case round =>
        obtain ⟨k, hkm, rfl, rfl, h7, hD, ho⟩ := hrel
        by_cases hlt : k < 32
        · have c1 := hD.cell (sgR_get F S M hlt)
          have c2 := h7.cell (By_get M 32 hlt)
          have hf := hD.free (32 + k)
          have hss := sgR_set F S M hlt
          have e1 := cyb_byte S M k
          have e2 := cyb_succ S M k
          have l1 := byt_lt S k
          have l2 := byt_lt M k
          have l3 := cyb_le S M k
          have l4 := byt_lt (S + M) k
          have l5 := cyb_le S M (k + 1)
          generalize byt (S + M) k = z at *
          generalize hdd : cyb S M (k + 1) = d at *
          have HDD := Lib.hid hdd
          clear hdd
          generalize byt S k = x at *
          generalize byt M k = y at *
          generalize cyb S M k = c at *
          have HSS := Lib.hid hss
          have H7O := Lib.hid h7
          have HDO := Lib.hid hD
          have HOO := Lib.hid ho
          clear hss h7 hD ho hf
          have hk1 : (k : Int) < 32 := by omega
          have hk0 : (0 : Int) ≤ (k : Int) := by omega
          have hi0 : (0 : Int) ≤ 32 + (k : Int) := by omega
          have hi1 : 32 + (k : Int) < 64 := by omega
          have hi2 : (32 + (k : Int)).toNat = 32 + k := by omega
          have ew1 : wrap64 ((x : Int) + (y : Int)) = (x : Int) + (y : Int) := wr_small _ (by omega) (by omega)
          have ew3 : wrap64 (32 + (k : Int)) = 32 + (k : Int) := wr_small _ (by omega) (by omega)
          obtain ⟨n, hnn⟩ : ∃ n, x + y + c = n := ⟨_, rfl⟩
          rw [hnn] at e1 e2
          have ew2 := wr_sum x y c n hnn (hnn ▸ Nat.lt_of_le_of_lt (Nat.add_le_add (Nat.add_le_add (Nat.le_of_lt l1) (Nat.le_of_lt l2)) l3) (by decide))
          have et := tm_256 _ _ e1
          have ed := td_256 _ _ e2
          have HET := Lib.hid et
          have HED := Lib.hid ed
          have HE2 := Lib.hid ew2
          clear e1 e2 et ed ew2 ew1 ew3
          have h64 : 32 + k < 64 := by omega
          have h6 : 32 + k < 1000000 := by omega
          have hnb : x + y + c < 1000000 := Nat.lt_of_le_of_lt (Nat.add_le_add (Nat.add_le_add (Nat.le_of_lt l1) (Nat.le_of_lt l2)) l3) (by decide)
          go_wp2_with fail
          have C1 := Lib.hid c1
          have C2 := Lib.hid c2
          refine wp_flat_none (aD := ?aD9) (S := fun w' => Below wr.heap.size wr w')
            (vs := [(0, .int .i64 (k : Int)), (1, .int .i64 ((32 + k : Nat) : Int)), (2, .pointer (some ⟨gD, 32 + k, none⟩)), (3, .int .u8 (x : Int)), (4, .int .i64 (x : Int)), (5, .int .i64 (k : Int)), (6, .pointer (some ⟨g7, k, none⟩)), (7, .int .u8 (y : Int)), (8, .int .i64 (y : Int)), (9, .int .i64 ((x + y : Nat) : Int)), (10, .int .i64 (c : Int)), (11, .int .i64 (n : Int)), (12, .int .i64 (n : Int))]) (by kernel_rfl) ((Below.refl _ _).drew) (fun _ _ h k => S_trans h k) ?hD9 ?hk9 ?h9
          case hD9 =>
            refine .step (some 25) rfl rfl (by kernel_rfl) (Gives.move (x := .tmp 9) rfl rfl) ?_
            simp only [Act.put, List.setIfInBounds_toArray, List.set_cons_zero, List.set_cons_succ]
            refine .step (some 26) rfl rfl (by kernel_rfl) (Gives.binop .add 3 3 (.const (.int .i64 32)) (.tmp 25) rfl (.int .i64 ((32 : Nat) : Int)) (.int .i64 (k : Int)) _ rfl rfl (fun w' => i_addg _ _ _ _ w') (fun w' => i_add 32 k _ rfl h6 w')) ?_
            simp only [Act.put, List.setIfInBounds_toArray, List.set_cons_zero, List.set_cons_succ]
            refine .step (some 27) rfl rfl (by kernel_rfl) (Gives.indexAt 30 (.tmp 6) (.tmp 26) rfl _ _ _ rfl rfl (fun w' => sig_ix _ (32 + k) h64 w')) ?_
            simp only [Act.put, List.setIfInBounds_toArray, List.set_cons_zero, List.set_cons_succ]
            refine .step (some 28) rfl rfl (by kernel_rfl) (Gives.load 5 (.tmp 27) rfl _ _ rfl (fun w' h => ld_by ((h.cell (p := ⟨gD, 32 + k, none⟩) (lt_of_cell C1.out)).trans C1.out))) ?_
            simp only [Act.put, List.setIfInBounds_toArray, List.set_cons_zero, List.set_cons_succ]
            refine .step (some 29) rfl rfl (by kernel_rfl) (Gives.conv 5 3 (.tmp 28) rfl _ _ rfl (fun w' => u_conv x l1 w')) ?_
            simp only [Act.put, List.setIfInBounds_toArray, List.set_cons_zero, List.set_cons_succ]
            refine .step (some 30) rfl rfl (by kernel_rfl) (Gives.move (x := .tmp 9) rfl rfl) ?_
            simp only [Act.put, List.setIfInBounds_toArray, List.set_cons_zero, List.set_cons_succ]
            refine .step (some 31) rfl rfl (by kernel_rfl) (Gives.indexAt 22 (.tmp 7) (.tmp 30) rfl _ _ _ rfl rfl (fun w' => ix_by0 _ k hlt w')) ?_
            simp only [Act.put, List.setIfInBounds_toArray, List.set_cons_zero, List.set_cons_succ]
            refine .step (some 32) rfl rfl (by kernel_rfl) (Gives.load 5 (.tmp 31) rfl _ _ rfl (fun w' h => ld_by ((h.cell (p := ⟨g7, k, none⟩) (lt_of_cell C2.out)).trans C2.out))) ?_
            simp only [Act.put, List.setIfInBounds_toArray, List.set_cons_zero, List.set_cons_succ]
            refine .step (some 33) rfl rfl (by kernel_rfl) (Gives.conv 5 3 (.tmp 32) rfl _ _ rfl (fun w' => u_conv y l2 w')) ?_
            simp only [Act.put, List.setIfInBounds_toArray, List.set_cons_zero, List.set_cons_succ]
            refine .step (some 34) rfl rfl (by kernel_rfl) (Gives.binop .add 3 3 (.tmp 29) (.tmp 33) rfl (.int .i64 (x : Int)) (.int .i64 (y : Int)) _ rfl rfl (fun w' => i_addg _ _ _ _ w') (fun w' => i_add x y _ rfl (Nat.lt_of_le_of_lt (Nat.add_le_add (Nat.le_of_lt l1) (Nat.le_of_lt l2)) (by decide)) w')) ?_
            simp only [Act.put, List.setIfInBounds_toArray, List.set_cons_zero, List.set_cons_succ]
            refine .step (some 35) rfl rfl (by kernel_rfl) (Gives.move (x := .tmp 8) rfl rfl) ?_
            simp only [Act.put, List.setIfInBounds_toArray, List.set_cons_zero, List.set_cons_succ]
            refine .step (some 36) rfl rfl (by kernel_rfl) (Gives.binop .add 3 3 (.tmp 34) (.tmp 35) rfl (.int .i64 ((x + y : Nat) : Int)) (.int .i64 (c : Int)) _ rfl rfl (fun w' => i_addg _ _ _ _ w') (fun w' => i_add (x + y) c n hnn (hnn ▸ Nat.lt_of_le_of_lt (Nat.add_le_add (Nat.add_le_add (Nat.le_of_lt l1) (Nat.le_of_lt l2)) l3) (by decide)) w')) ?_
            simp only [Act.put, List.setIfInBounds_toArray, List.set_cons_zero, List.set_cons_succ]
            refine .step (some 10) rfl rfl (by kernel_rfl) (Gives.assign (x := .tmp 36) rfl rfl) ?_
            simp only [Act.put, List.setIfInBounds_toArray, List.set_cons_zero, List.set_cons_succ]
            exact .nil
          case hk9 => kernel_rfl
          case h9 =>
          intro W9 hb9
          try simp only [Act.put, List.setIfInBounds_toArray, List.set_cons_zero, List.set_cons_succ]
          have c9 : W9.cell? ⟨gD, 32 + k, none⟩ = some (.int .u8 (x : Int)) := (hb9.cell (p := ⟨gD, 32 + k, none⟩) (lt_of_cell C1.out)).trans C1.out
          have h7b := H7O.out.belowAll hb9
          have hDb := HDO.out.belowAll hb9
          have hob : Only (fun b => b = gD) W3 W9 := HOO.out.trans (Only.of_below hb9 _) (fun _ _ h => h)
          have hf := hDb.free (32 + k)
          have hset := hDb.set (32 + k) (.int .u8 (z : Int))
          rw [HSS.out] at hset
          have h7s := h7b.setCell (p := ⟨gD, 32 + k, none⟩) (Ne.symm hneD) (.int .u8 (z : Int))
          have hos := hob.setCell (p := ⟨gD, 32 + k, none⟩) (.inl rfl) (.int .u8 (z : Int))
          have HSET := Lib.hid hset
          have H7S := Lib.hid h7s
          have HOS := Lib.hid hos
          have eu : IntKind.u8.wrap (z : Int) = (z : Int) := by rw [u8_wr _ l4]
          have ez : ((z : Int) % 256) = (z : Int) := Int.emod_eq_of_lt (Int.natCast_nonneg z) (by exact_mod_cast l4)
          have hz0 : (0 : Int) ≤ (z : Int) := Int.natCast_nonneg z
          have et := HET.out
          have ed := HED.out
          clear hb9 h7b hDb hob hset h7s hos C1 C2 H7O HDO HOO HSS
          go_wp2
          go_roundw
          case rel => exact ⟨k + 1, by omega, by go_num, by rw [HDD.out], H7S.out, HSET.out, HOS.out⟩
          case measure => simp [intOf]; omega
        · obtain rfl : k = 32 := by omega
          rw [sgR_32] at hD
          have hbR : Below W.heap.size W wr := HB3.out.trans (ho.below HB3.out.size (fun b e => by rw [e]; exact HGD.out))
          have hCr : Row wr gC 27 (By Y 32) := (ho.block gC HC.out.lt hneC).trans HC.out
          have hs256 : S + M < 256 ^ 32 := by
            have h1 := HQ.out
            rw [HM.out]
            exact Nat.lt_trans (Nat.add_lt_add_right h1 qN) (by decide)
          have hB := Below.alloc1 wr (.cells #[.slice A1 n1 c1] 24)
          have hvf := vf_any Y F (S + M) HF.out hs256 (c := 1) _ ((HV.out.belowAll hbR).belowAll hB) one_row ((HPA.out.belowAll hbR).belowAll hB) (by decide) (by simp; have := HL1.out; omega)
          have hfalse : vfB Y F (S + M) [la].flatten = false := by rw [HM.out]; exact vf_long Y F S _
          rw [hfalse] at hvf
          have HVF := Lib.hid hvf
          have HKR := Lib.hid hCr
          have HSR := Lib.hid hD
          have HV2 := Lib.hid ((HV.out.belowAll hbR).belowAll hB)
          have HW2 := Lib.hid (HW.out.trans ((hbR.trans (hB.mono hbR.size)).mono HW.out.size))
          clear hbR hCr hs256 hB hvf hfalse hD h7 ho
          go_wp2_with (first
            | (refine wpList_load_row rfl 27 (.tmp 5) rfl gC rfl 27 _ (0, 0) _ HKR.out Tryd.underlying27 rfl (key_info _) ?_)
            | (refine wpList_load_row rfl 30 (.tmp 6) rfl gD rfl 30 _ (0, 0) _ HSR.out Tryd.underlying30 rfl (sig_info _ _) ?_))
          refine HVF.out.mono ?_
          rintro e w5 ⟨rfl, hb⟩
          have HV3 := Lib.hid (HV2.out.belowAll hb)
          have HW3 := Lib.hid (HW2.out.trans (hb.mono HW2.out.size))
          clear hb HV2 HW2
          go_wp2_with fail
          refine (aw_any _ HV3.out).mono ?_
          rintro e w6 ⟨rfl, hb⟩
          have HW4 := Lib.hid (HW3.out.trans (hb.mono HW3.out.size))
          clear hb
          go_wp2_with fail
          go_ret
          exact ⟨rfl, HW4.out⟩
end
end Go.Proofs.YtmfibncllbgeoaaDoor
