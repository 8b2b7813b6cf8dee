/- LineMerges' walk. -/
import Derived.Test.YtocgeemjdlnabaaLp
namespace Go.Proofs.Ytocgeemjdlnabaa
set_option maxRecDepth 100000
set_option linter.unusedSimpArgs false
set_option linter.unusedVariables false
open Go.RowKit

theorem flat_nilM : flatM [] = [] := rfl
theorem wpList_build0 {ops : Array Oper} {rest : List Oper} {o : Oper} {a : Act} {w : World} {Q : Exit → Act → World → Prop} (hgd : o.guard = none) (ho : o.op = .buildSlice 22 0 #[])
    (h : wpList Try.prog ops Q rest (a.put o.dst (.slice (some ⟨w.heap.size, 0, none⟩) 0 0)) (w.alloc (.cells #[] 26))) : wpList Try.prog ops Q (o :: rest) a w :=
  wpList_plain hgd fun _ hK => wp_build0 ho (hK _ _ h)
set_option maxHeartbeats 6400000 in
theorem merges_walk (A1 A2 : Option Addr) (n1 n2 c1 c2 : Nat) (D1 D2 : List Mk) (w : World) (h1 : RdHM w A1 n1 D1) (h2 : RdHM w A2 n2 D2) :
    Calls Try.prog 5 #[.slice A1 n1 c1, .slice A2 n2 c2] w fun e w' => e = .returned (.bool true) ∧ Below w.heap.size w w' := by
  have HA := Lib.hid awake18
  by_cases h60 : 60 < n1
  · have h60i : (60 : Int) < (n1 : Int) := by omega
    clear h1 h2
    go_enter Try.func5, Try.ntmps5
    go_wp2_with fail
    refine (HA.out _).mono ?_
    rintro e w' ⟨rfl, hb⟩
    have HB := Lib.hid hb
    clear hb
    go_wp2_with fail
    go_ret
    exact ⟨rfl, HB.out⟩
  have h60i : ¬ (60 : Int) < (n1 : Int) := by omega
  by_cases g60 : 60 < n2
  · have g60i : (60 : Int) < (n2 : Int) := by omega
    clear h1 h2
    go_enter Try.func5, Try.ntmps5
    go_wp2_with fail
    refine (HA.out _).mono ?_
    rintro e w' ⟨rfl, hb⟩
    have HB := Lib.hid hb
    clear hb
    go_wp2_with fail
    go_ret
    exact ⟨rfl, HB.out⟩
  have g60i : ¬ (60 : Int) < (n2 : Int) := by omega
  have hn1 := h1.1
  have hn2 := h2.1
  have HR1 := Lib.hid h1
  have HR2 := Lib.hid h2
  clear h1 h2
  go_enter Try.func5, Try.ntmps5
  go_wp2_with fail
  refine (rsort_any A1 n1 c1 D1 w HR1.out (by omega)).mono ?_
  rintro e W1 ⟨A3, n3, c3, rfl, hr3, hp3, hnc3, hb1⟩
  have hn3 : n3 ≤ 60 := by
    have h1 := hr3.1
    have h2 := So_len D1
    omega
  have HB1 := Lib.hid hb1
  have HS2 := Lib.hid (rsort_any A2 n2 c2 D2 W1 (HR2.out.keep hb1) (by omega))
  have HR3 := Lib.hid hr3
  clear hb1 hr3
  go_wp2_with fail
  refine HS2.out.mono ?_
  rintro e W2 ⟨A4, n4, c4, rfl, hr4, hp4, hnc4, hb2⟩
  have hn4 : n4 ≤ 60 := by
    have h1 := hr4.1
    have h2 := So_len D2
    omega
  have HR4 := Lib.hid hr4
  have HR3b := Lib.hid (HR3.out.keep hb2)
  have HB2 := Lib.hid (HB1.out.trans (hb2.mono HB1.out.size))
  have HR1b := Lib.hid (HR1.out.keep HB2.out)
  have HR2b := Lib.hid (HR2.out.keep HB2.out)
  clear hb2 hr4 HR1 HR2 HR3
  have HR1 := HR1b
  have HR2 := HR2b
  clear HR1b HR2b
  obtain ⟨i, hi, hz, hs, hby⟩ := hash_infoM
  have HI := Lib.hid hi
  have HZ := Lib.hid hz
  have HSZ := Lib.hid hs
  have HBY := Lib.hid hby
  clear hi hz hs hby
  go_wp2_with fail
  go_loopw [7] (fun v wr => ∃ k : Nat, k ≤ cmn D1 D2 ∧ v = .int .i64 (k : Int) ∧ Below W2.heap.size W2 wr) (fun v _ => n1 - (intOf v).toNat)
  case atStart => exact ⟨0, by omega, rfl, Below.refl _ _⟩
  case round =>
    obtain ⟨k, hkc, rfl, hb⟩ := hrel
    have hbd : Below W2.heap.size W2 wr.drew := hb.drew
    have hcl := cmn_le D1 D2
    by_cases hla : k < n1
    · by_cases hlb : k < n2
      · have hx : D1[k]? = some (D1[k]'(by omega)) := List.getElem?_eq_getElem _
        have hy : D2[k]? = some (D2[k]'(by omega)) := List.getElem?_eq_getElem _
        generalize (D1[k]'(by omega)) = x at hx
        generalize (D2[k]'(by omega)) = y at hy
        obtain ⟨b1, o1, rfl, hbl1, hrg1⟩ := rdh_atM HR1.out (by omega)
        obtain ⟨b2, o2, rfl, hbl2, hrg2⟩ := rdh_atM HR2.out (by omega)
        have hw : IntKind.i64.wrap ((k : Int) + 1) = ((k + 1 : Nat) : Int) := by rw [IntKind.wrap_i64]; omega
        have HX := Lib.hid (fun (w' : World) (h : Below W2.heap.size W2 w') => range_below (hrg1 k x hx) h hbl1)
        have HY := Lib.hid (fun (w' : World) (h : Below W2.heap.size W2 w') => range_below (hrg2 k y hy) h hbl2)
        by_cases hxy : x = y
        · have HXY := Lib.hid hxy
          have HN := Lib.hid (cmn_next hkc hx hy hxy)
          clear hxy hx hy hrg1 hrg2
          go_wp2_with fail
          refine wp_region_held (S := fun w' : World => Below W2.heap.size W2 w') (by kernel_rfl) ?_
          change wpAnyH _ _ _ _ _ _ _ _ (World.drew _)
          have hS : (fun w' : World => Below W2.heap.size W2 w') wr.drew := hbd
          refine wpAnyH_take (i := 0) (v := ?_) rfl (by kernel_rfl) (by kernel_rfl) (by kernel_rfl) (fun _ _ _ h => h) (Or.inl ⟨by rfl, ?_⟩) hS ?_
          rotate_left
          · (intro w' hSw; go_simp; try (with_reducible rfl))
          change wpAnyH _ _ _ _ _ _ _ (Act.put _ (some 21) _) _
          try simp only [Act.put, List.setIfInBounds_toArray, List.set_cons_zero, List.set_cons_succ]
          refine wpAnyH_take (i := 1) (v := ?_) rfl (by kernel_rfl) (by kernel_rfl) (by kernel_rfl) (fun _ _ _ h => h) (Or.inl ⟨by rfl, ?_⟩) hS ?_
          rotate_left
          · (intro w' hSw; go_simp; try (with_reducible rfl))
          change wpAnyH _ _ _ _ _ _ _ (Act.put _ (some 22) _) _
          try simp only [Act.put, List.setIfInBounds_toArray, List.set_cons_zero, List.set_cons_succ]
          refine wpAnyH_take (i := 2) (v := ?_) rfl (by kernel_rfl) (by kernel_rfl) (by kernel_rfl) (fun _ _ _ h => h) (Or.inl ⟨by rfl, ?_⟩) hS ?_
          rotate_left
          · (intro w' hSw; go_simp; try (with_reducible rfl))
          change wpAnyH _ _ _ _ _ _ _ (Act.put _ (some 23) _) _
          try simp only [Act.put, List.setIfInBounds_toArray, List.set_cons_zero, List.set_cons_succ]
          refine wpAnyH_take (i := 3) (v := .bool true) rfl (by kernel_rfl) (by kernel_rfl) (by kernel_rfl) (fun _ _ _ h => h) (Or.inl ⟨by rfl, fun w' hSw => ex_binE .lss 3 3 (.tmp 21) (.tmp 23) rfl _ _ _ rfl rfl (lss_guard _ _ _ _ w') (lss_t k n1 hla w')⟩) hS ?_
          change wpAnyH _ _ _ _ _ _ _ (Act.put _ (some 24) _) _
          try simp only [Act.put, List.setIfInBounds_toArray, List.set_cons_zero, List.set_cons_succ]
          refine wpAnyH_take (i := 4) (v := ?_) rfl (by kernel_rfl) (by kernel_rfl) (by kernel_rfl) (fun _ _ _ h => h) (Or.inl ⟨by rfl, ?_⟩) hS ?_
          rotate_left
          · (intro w' hSw; go_simp; try (with_reducible rfl))
          change wpAnyH _ _ _ _ _ _ _ (Act.put _ (some 25) _) _
          try simp only [Act.put, List.setIfInBounds_toArray, List.set_cons_zero, List.set_cons_succ]
          refine wpAnyH_take (i := 5) (v := ?_) rfl (by kernel_rfl) (by kernel_rfl) (by kernel_rfl) (fun _ _ _ h => h) (Or.inl ⟨by rfl, ?_⟩) hS ?_
          rotate_left
          · (intro w' hSw; go_simp; try (with_reducible rfl))
          change wpAnyH _ _ _ _ _ _ _ (Act.put _ (some 26) _) _
          try simp only [Act.put, List.setIfInBounds_toArray, List.set_cons_zero, List.set_cons_succ]
          refine wpAnyH_take (i := 6) (v := ?_) rfl (by kernel_rfl) (by kernel_rfl) (by kernel_rfl) (fun _ _ _ h => h) (Or.inl ⟨by rfl, ?_⟩) hS ?_
          rotate_left
          · (intro w' hSw; go_simp; try (with_reducible rfl))
          change wpAnyH _ _ _ _ _ _ _ (Act.put _ (some 27) _) _
          try simp only [Act.put, List.setIfInBounds_toArray, List.set_cons_zero, List.set_cons_succ]
          refine wpAnyH_take (i := 7) (v := ?_) rfl (by kernel_rfl) (by kernel_rfl) (by kernel_rfl) (fun _ _ _ h => h) (Or.inl ⟨by rfl, ?_⟩) hS ?_
          rotate_left
          · (intro w' hSw; go_simp; try (with_reducible rfl))
          change wpAnyH _ _ _ _ _ _ _ (Act.put _ (some 28) _) _
          try simp only [Act.put, List.setIfInBounds_toArray, List.set_cons_zero, List.set_cons_succ]
          refine wpAnyH_take (i := 8) (v := .bool true) rfl (by kernel_rfl) (by kernel_rfl) (by kernel_rfl) (fun _ _ _ h => h) (Or.inl ⟨by rfl, fun w' hSw => ex_binE .lss 3 3 (.tmp 26) (.tmp 28) rfl _ _ _ rfl rfl (lss_guard _ _ _ _ w') (lss_t k n2 hlb w')⟩) hS ?_
          change wpAnyH _ _ _ _ _ _ _ (Act.put _ (some 29) _) _
          try simp only [Act.put, List.setIfInBounds_toArray, List.set_cons_zero, List.set_cons_succ]
          refine wpAnyH_take (i := 9) (v := ?_) rfl (by kernel_rfl) (by kernel_rfl) (by kernel_rfl) (fun _ _ _ h => h) (Or.inl ⟨by rfl, ?_⟩) hS ?_
          rotate_left
          · (intro w' hSw; go_simp; try (with_reducible rfl))
          change wpAnyH _ _ _ _ _ _ _ (Act.put _ (some 30) _) _
          try simp only [Act.put, List.setIfInBounds_toArray, List.set_cons_zero, List.set_cons_succ]
          refine wpAnyH_take (i := 10) (v := ?_) rfl (by kernel_rfl) (by kernel_rfl) (by kernel_rfl) (fun _ _ _ h => h) (Or.inl ⟨by rfl, ?_⟩) hS ?_
          rotate_left
          · (intro w' hSw; go_simp; try (with_reducible rfl))
          change wpAnyH _ _ _ _ _ _ _ (Act.put _ (some 31) _) _
          try simp only [Act.put, List.setIfInBounds_toArray, List.set_cons_zero, List.set_cons_succ]
          refine wpAnyH_take (i := 11) (v := ?_) rfl (by kernel_rfl) (by kernel_rfl) (by kernel_rfl) (fun _ _ _ h => h) (Or.inl ⟨by rfl, ?_⟩) hS ?_
          rotate_left
          · (intro w' hSw; go_simp; try (with_reducible rfl))
          change wpAnyH _ _ _ _ _ _ _ (Act.put _ (some 32) _) _
          try simp only [Act.put, List.setIfInBounds_toArray, List.set_cons_zero, List.set_cons_succ]
          refine wpAnyH_take (i := 12) (v := ?_) rfl (by kernel_rfl) (by kernel_rfl) (by kernel_rfl) (fun _ _ _ h => h) (Or.inl ⟨by rfl, ?_⟩) hS ?_
          rotate_left
          · (intro w' hSw; go_simp; try (with_reducible rfl))
          change wpAnyH _ _ _ _ _ _ _ (Act.put _ (some 33) _) _
          try simp only [Act.put, List.setIfInBounds_toArray, List.set_cons_zero, List.set_cons_succ]
          refine wpAnyH_take (i := 13) (v := .pointer (some ⟨b1, o1 + k * 33, none⟩)) rfl (by kernel_rfl) (by kernel_rfl) (by kernel_rfl) (fun _ _ _ h => h) (Or.inl ⟨by rfl, fun w' hSw => ex_ixE 22 (.tmp 32) (.tmp 33) rfl _ _ _ rfl rfl (ix_atM b1 o1 n1 c1 k (o1 + k * 33) hla rfl w')⟩) hS ?_
          change wpAnyH _ _ _ _ _ _ _ (Act.put _ (some 34) _) _
          try simp only [Act.put, List.setIfInBounds_toArray, List.set_cons_zero, List.set_cons_succ]
          refine wpAnyH_take (i := 14) (v := .agg (Mk.c x).toArray) rfl (by kernel_rfl) (by kernel_rfl) (by kernel_rfl) (fun _ _ _ h => h) (Or.inl ⟨by rfl, fun w' hSw => ex_ldE 26 (.tmp 34) rfl _ _ rfl (ld_hsM b1 _ x w' (HX.out w' hSw))⟩) hS ?_
          change wpAnyH _ _ _ _ _ _ _ (Act.put _ (some 35) _) _
          try simp only [Act.put, List.setIfInBounds_toArray, List.set_cons_zero, List.set_cons_succ]
          refine wpAnyH_take (i := 15) (v := ?_) rfl (by kernel_rfl) (by kernel_rfl) (by kernel_rfl) (fun _ _ _ h => h) (Or.inl ⟨by rfl, ?_⟩) hS ?_
          rotate_left
          · (intro w' hSw; go_simp; try (with_reducible rfl))
          change wpAnyH _ _ _ _ _ _ _ (Act.put _ (some 36) _) _
          try simp only [Act.put, List.setIfInBounds_toArray, List.set_cons_zero, List.set_cons_succ]
          refine wpAnyH_take (i := 16) (v := ?_) rfl (by kernel_rfl) (by kernel_rfl) (by kernel_rfl) (fun _ _ _ h => h) (Or.inl ⟨by rfl, ?_⟩) hS ?_
          rotate_left
          · (intro w' hSw; go_simp; try (with_reducible rfl))
          change wpAnyH _ _ _ _ _ _ _ (Act.put _ (some 37) _) _
          try simp only [Act.put, List.setIfInBounds_toArray, List.set_cons_zero, List.set_cons_succ]
          refine wpAnyH_take (i := 17) (v := .pointer (some ⟨b2, o2 + k * 33, none⟩)) rfl (by kernel_rfl) (by kernel_rfl) (by kernel_rfl) (fun _ _ _ h => h) (Or.inl ⟨by rfl, fun w' hSw => ex_ixE 22 (.tmp 36) (.tmp 37) rfl _ _ _ rfl rfl (ix_atM b2 o2 n2 c2 k (o2 + k * 33) hlb rfl w')⟩) hS ?_
          change wpAnyH _ _ _ _ _ _ _ (Act.put _ (some 38) _) _
          try simp only [Act.put, List.setIfInBounds_toArray, List.set_cons_zero, List.set_cons_succ]
          refine wpAnyH_take (i := 18) (v := .agg (Mk.c y).toArray) rfl (by kernel_rfl) (by kernel_rfl) (by kernel_rfl) (fun _ _ _ h => h) (Or.inl ⟨by rfl, fun w' hSw => ex_ldE 26 (.tmp 38) rfl _ _ rfl (ld_hsM b2 _ y w' (HY.out w' hSw))⟩) hS ?_
          change wpAnyH _ _ _ _ _ _ _ (Act.put _ (some 39) _) _
          try simp only [Act.put, List.setIfInBounds_toArray, List.set_cons_zero, List.set_cons_succ]
          refine wpAnyH_take (i := 19) (v := .bool true) rfl (by kernel_rfl) (by kernel_rfl) (by kernel_rfl) (fun _ _ _ h => h) (Or.inl ⟨by rfl, fun w' hSw => ex_binE .eql 26 26 (.tmp 35) (.tmp 39) rfl _ _ _ rfl rfl (hs_guardM _ _ _ _ _ w') (eql_tM HXY.out w')⟩) hS ?_
          change wpAnyH _ _ _ _ _ _ _ (Act.put _ (some 40) _) _
          try simp only [Act.put, List.setIfInBounds_toArray, List.set_cons_zero, List.set_cons_succ]
          refine wpAnyH_take (i := 20) (v := ?_) rfl (by kernel_rfl) (by kernel_rfl) (by kernel_rfl) (fun _ _ _ h => h) (Or.inl ⟨by rfl, ?_⟩) hS ?_
          rotate_left
          · (intro w' hSw; go_simp; try (with_reducible rfl))
          change wpAnyH _ _ _ _ _ _ _ (Act.put _ (some 41) _) _
          try simp only [Act.put, List.setIfInBounds_toArray, List.set_cons_zero, List.set_cons_succ]
          refine wpAnyH_done (by kernel_rfl) ?_ _
          go_wp2_with fail
          go_roundw
          case rel => exact ⟨k + 1, HN.out, by go_num, hS⟩
          case measure => simp [intOf] <;> omega
        · have HXY := Lib.hid hxy
          have HK := Lib.hid (cmn_stop hkc hx hy hxy)
          clear hxy hx hy hrg1 hrg2
          go_wp2_with fail
          refine wp_region_held (S := fun w' : World => Below W2.heap.size W2 w') (by kernel_rfl) ?_
          change wpAnyH _ _ _ _ _ _ _ _ (World.drew _)
          have hS : (fun w' : World => Below W2.heap.size W2 w') wr.drew := hbd
          refine wpAnyH_take (i := 0) (v := ?_) rfl (by kernel_rfl) (by kernel_rfl) (by kernel_rfl) (fun _ _ _ h => h) (Or.inl ⟨by rfl, ?_⟩) hS ?_
          rotate_left
          · (intro w' hSw; go_simp; try (with_reducible rfl))
          change wpAnyH _ _ _ _ _ _ _ (Act.put _ (some 21) _) _
          try simp only [Act.put, List.setIfInBounds_toArray, List.set_cons_zero, List.set_cons_succ]
          refine wpAnyH_take (i := 1) (v := ?_) rfl (by kernel_rfl) (by kernel_rfl) (by kernel_rfl) (fun _ _ _ h => h) (Or.inl ⟨by rfl, ?_⟩) hS ?_
          rotate_left
          · (intro w' hSw; go_simp; try (with_reducible rfl))
          change wpAnyH _ _ _ _ _ _ _ (Act.put _ (some 22) _) _
          try simp only [Act.put, List.setIfInBounds_toArray, List.set_cons_zero, List.set_cons_succ]
          refine wpAnyH_take (i := 2) (v := ?_) rfl (by kernel_rfl) (by kernel_rfl) (by kernel_rfl) (fun _ _ _ h => h) (Or.inl ⟨by rfl, ?_⟩) hS ?_
          rotate_left
          · (intro w' hSw; go_simp; try (with_reducible rfl))
          change wpAnyH _ _ _ _ _ _ _ (Act.put _ (some 23) _) _
          try simp only [Act.put, List.setIfInBounds_toArray, List.set_cons_zero, List.set_cons_succ]
          refine wpAnyH_take (i := 3) (v := .bool true) rfl (by kernel_rfl) (by kernel_rfl) (by kernel_rfl) (fun _ _ _ h => h) (Or.inl ⟨by rfl, fun w' hSw => ex_binE .lss 3 3 (.tmp 21) (.tmp 23) rfl _ _ _ rfl rfl (lss_guard _ _ _ _ w') (lss_t k n1 hla w')⟩) hS ?_
          change wpAnyH _ _ _ _ _ _ _ (Act.put _ (some 24) _) _
          try simp only [Act.put, List.setIfInBounds_toArray, List.set_cons_zero, List.set_cons_succ]
          refine wpAnyH_take (i := 4) (v := ?_) rfl (by kernel_rfl) (by kernel_rfl) (by kernel_rfl) (fun _ _ _ h => h) (Or.inl ⟨by rfl, ?_⟩) hS ?_
          rotate_left
          · (intro w' hSw; go_simp; try (with_reducible rfl))
          change wpAnyH _ _ _ _ _ _ _ (Act.put _ (some 25) _) _
          try simp only [Act.put, List.setIfInBounds_toArray, List.set_cons_zero, List.set_cons_succ]
          refine wpAnyH_take (i := 5) (v := ?_) rfl (by kernel_rfl) (by kernel_rfl) (by kernel_rfl) (fun _ _ _ h => h) (Or.inl ⟨by rfl, ?_⟩) hS ?_
          rotate_left
          · (intro w' hSw; go_simp; try (with_reducible rfl))
          change wpAnyH _ _ _ _ _ _ _ (Act.put _ (some 26) _) _
          try simp only [Act.put, List.setIfInBounds_toArray, List.set_cons_zero, List.set_cons_succ]
          refine wpAnyH_take (i := 6) (v := ?_) rfl (by kernel_rfl) (by kernel_rfl) (by kernel_rfl) (fun _ _ _ h => h) (Or.inl ⟨by rfl, ?_⟩) hS ?_
          rotate_left
          · (intro w' hSw; go_simp; try (with_reducible rfl))
          change wpAnyH _ _ _ _ _ _ _ (Act.put _ (some 27) _) _
          try simp only [Act.put, List.setIfInBounds_toArray, List.set_cons_zero, List.set_cons_succ]
          refine wpAnyH_take (i := 7) (v := ?_) rfl (by kernel_rfl) (by kernel_rfl) (by kernel_rfl) (fun _ _ _ h => h) (Or.inl ⟨by rfl, ?_⟩) hS ?_
          rotate_left
          · (intro w' hSw; go_simp; try (with_reducible rfl))
          change wpAnyH _ _ _ _ _ _ _ (Act.put _ (some 28) _) _
          try simp only [Act.put, List.setIfInBounds_toArray, List.set_cons_zero, List.set_cons_succ]
          refine wpAnyH_take (i := 8) (v := .bool true) rfl (by kernel_rfl) (by kernel_rfl) (by kernel_rfl) (fun _ _ _ h => h) (Or.inl ⟨by rfl, fun w' hSw => ex_binE .lss 3 3 (.tmp 26) (.tmp 28) rfl _ _ _ rfl rfl (lss_guard _ _ _ _ w') (lss_t k n2 hlb w')⟩) hS ?_
          change wpAnyH _ _ _ _ _ _ _ (Act.put _ (some 29) _) _
          try simp only [Act.put, List.setIfInBounds_toArray, List.set_cons_zero, List.set_cons_succ]
          refine wpAnyH_take (i := 9) (v := ?_) rfl (by kernel_rfl) (by kernel_rfl) (by kernel_rfl) (fun _ _ _ h => h) (Or.inl ⟨by rfl, ?_⟩) hS ?_
          rotate_left
          · (intro w' hSw; go_simp; try (with_reducible rfl))
          change wpAnyH _ _ _ _ _ _ _ (Act.put _ (some 30) _) _
          try simp only [Act.put, List.setIfInBounds_toArray, List.set_cons_zero, List.set_cons_succ]
          refine wpAnyH_take (i := 10) (v := ?_) rfl (by kernel_rfl) (by kernel_rfl) (by kernel_rfl) (fun _ _ _ h => h) (Or.inl ⟨by rfl, ?_⟩) hS ?_
          rotate_left
          · (intro w' hSw; go_simp; try (with_reducible rfl))
          change wpAnyH _ _ _ _ _ _ _ (Act.put _ (some 31) _) _
          try simp only [Act.put, List.setIfInBounds_toArray, List.set_cons_zero, List.set_cons_succ]
          refine wpAnyH_take (i := 11) (v := ?_) rfl (by kernel_rfl) (by kernel_rfl) (by kernel_rfl) (fun _ _ _ h => h) (Or.inl ⟨by rfl, ?_⟩) hS ?_
          rotate_left
          · (intro w' hSw; go_simp; try (with_reducible rfl))
          change wpAnyH _ _ _ _ _ _ _ (Act.put _ (some 32) _) _
          try simp only [Act.put, List.setIfInBounds_toArray, List.set_cons_zero, List.set_cons_succ]
          refine wpAnyH_take (i := 12) (v := ?_) rfl (by kernel_rfl) (by kernel_rfl) (by kernel_rfl) (fun _ _ _ h => h) (Or.inl ⟨by rfl, ?_⟩) hS ?_
          rotate_left
          · (intro w' hSw; go_simp; try (with_reducible rfl))
          change wpAnyH _ _ _ _ _ _ _ (Act.put _ (some 33) _) _
          try simp only [Act.put, List.setIfInBounds_toArray, List.set_cons_zero, List.set_cons_succ]
          refine wpAnyH_take (i := 13) (v := .pointer (some ⟨b1, o1 + k * 33, none⟩)) rfl (by kernel_rfl) (by kernel_rfl) (by kernel_rfl) (fun _ _ _ h => h) (Or.inl ⟨by rfl, fun w' hSw => ex_ixE 22 (.tmp 32) (.tmp 33) rfl _ _ _ rfl rfl (ix_atM b1 o1 n1 c1 k (o1 + k * 33) hla rfl w')⟩) hS ?_
          change wpAnyH _ _ _ _ _ _ _ (Act.put _ (some 34) _) _
          try simp only [Act.put, List.setIfInBounds_toArray, List.set_cons_zero, List.set_cons_succ]
          refine wpAnyH_take (i := 14) (v := .agg (Mk.c x).toArray) rfl (by kernel_rfl) (by kernel_rfl) (by kernel_rfl) (fun _ _ _ h => h) (Or.inl ⟨by rfl, fun w' hSw => ex_ldE 26 (.tmp 34) rfl _ _ rfl (ld_hsM b1 _ x w' (HX.out w' hSw))⟩) hS ?_
          change wpAnyH _ _ _ _ _ _ _ (Act.put _ (some 35) _) _
          try simp only [Act.put, List.setIfInBounds_toArray, List.set_cons_zero, List.set_cons_succ]
          refine wpAnyH_take (i := 15) (v := ?_) rfl (by kernel_rfl) (by kernel_rfl) (by kernel_rfl) (fun _ _ _ h => h) (Or.inl ⟨by rfl, ?_⟩) hS ?_
          rotate_left
          · (intro w' hSw; go_simp; try (with_reducible rfl))
          change wpAnyH _ _ _ _ _ _ _ (Act.put _ (some 36) _) _
          try simp only [Act.put, List.setIfInBounds_toArray, List.set_cons_zero, List.set_cons_succ]
          refine wpAnyH_take (i := 16) (v := ?_) rfl (by kernel_rfl) (by kernel_rfl) (by kernel_rfl) (fun _ _ _ h => h) (Or.inl ⟨by rfl, ?_⟩) hS ?_
          rotate_left
          · (intro w' hSw; go_simp; try (with_reducible rfl))
          change wpAnyH _ _ _ _ _ _ _ (Act.put _ (some 37) _) _
          try simp only [Act.put, List.setIfInBounds_toArray, List.set_cons_zero, List.set_cons_succ]
          refine wpAnyH_take (i := 17) (v := .pointer (some ⟨b2, o2 + k * 33, none⟩)) rfl (by kernel_rfl) (by kernel_rfl) (by kernel_rfl) (fun _ _ _ h => h) (Or.inl ⟨by rfl, fun w' hSw => ex_ixE 22 (.tmp 36) (.tmp 37) rfl _ _ _ rfl rfl (ix_atM b2 o2 n2 c2 k (o2 + k * 33) hlb rfl w')⟩) hS ?_
          change wpAnyH _ _ _ _ _ _ _ (Act.put _ (some 38) _) _
          try simp only [Act.put, List.setIfInBounds_toArray, List.set_cons_zero, List.set_cons_succ]
          refine wpAnyH_take (i := 18) (v := .agg (Mk.c y).toArray) rfl (by kernel_rfl) (by kernel_rfl) (by kernel_rfl) (fun _ _ _ h => h) (Or.inl ⟨by rfl, fun w' hSw => ex_ldE 26 (.tmp 38) rfl _ _ rfl (ld_hsM b2 _ y w' (HY.out w' hSw))⟩) hS ?_
          change wpAnyH _ _ _ _ _ _ _ (Act.put _ (some 39) _) _
          try simp only [Act.put, List.setIfInBounds_toArray, List.set_cons_zero, List.set_cons_succ]
          refine wpAnyH_take (i := 19) (v := .bool false) rfl (by kernel_rfl) (by kernel_rfl) (by kernel_rfl) (fun _ _ _ h => h) (Or.inl ⟨by rfl, fun w' hSw => ex_binE .eql 26 26 (.tmp 35) (.tmp 39) rfl _ _ _ rfl rfl (hs_guardM _ _ _ _ _ w') (eql_fM HXY.out w')⟩) hS ?_
          change wpAnyH _ _ _ _ _ _ _ (Act.put _ (some 40) _) _
          try simp only [Act.put, List.setIfInBounds_toArray, List.set_cons_zero, List.set_cons_succ]
          refine wpAnyH_take (i := 20) (v := ?_) rfl (by kernel_rfl) (by kernel_rfl) (by kernel_rfl) (fun _ _ _ h => h) (Or.inl ⟨by rfl, ?_⟩) hS ?_
          rotate_left
          · (intro w' hSw; go_simp; try (with_reducible rfl))
          change wpAnyH _ _ _ _ _ _ _ (Act.put _ (some 41) _) _
          try simp only [Act.put, List.setIfInBounds_toArray, List.set_cons_zero, List.set_cons_succ]
          refine wpAnyH_done (by kernel_rfl) ?_ _
          have HBS := Lib.hid hS
          clear hb hbd hS
          have HMG := Lib.hid (fun (w' : World) (h : Below W2.heap.size W2 w') => merge_any A3 A4 n3 n4 c3 c4 (So D1) (So D2) w' (HR3b.out.keep h) (HR4.out.keep h) (by omega))
          go_wp2_with fail
          refine (HMG.out _ HBS.out).mono ?_
          rintro e W3 ⟨v5, rfl, ho5, hb3⟩
          obtain ⟨A5, c5, rfl, hr5⟩ := RdHM.own ho5
          have HR5 := Lib.hid hr5
          have HB3 := Lib.hid (HBS.out.trans (hb3.mono HBS.out.size))
          clear ho5 hb3 hr5
          have HB4 := Lib.hid (below_newE W3 (.cells #[] 26))
          have HO0 := Lib.hid (own0 W3 (Nat.le_refl _))
          have HR1c := Lib.hid ((HR1.out.keep HB3.out).keep HB4.out)
          have HC1 := Lib.hid HR1c.out.cells
          have HL1 := Lib.hid (show (flatM D1).length = n1 * 33 by rw [flat_lengthM, hn1])
          have HL2 := Lib.hid (show (flatM D2).length = n2 * 33 by rw [flat_lengthM, hn2])
          go_wp2_with (first | (refine wpList_build0 rfl rfl ?_) | (at_builtin; refine wpList_append_rdz rfl (.tmp 47) (.tmp 48) 22 rfl W3.heap.size 26 _ _ 33 40 Try.underlying22 HI.out HZ.out HSZ.out HBY.out (by simp [Value.cells]) (by omega) _ 0 [] rfl HO0.out _ n1 c1 (flatM D1) rfl HL1.out HC1.out (flat_oneM _) (by unfold maxLen; omega) (by omega) HB4.out.size ?_))
          intro v6 w6 ho6 hg6
          have hb6 : Below W3.heap.size W3 w6 := HB4.out.grown hg6 HB4.out.size (fun q hq => (HO0.out.lt q hq).1)
          try simp only [Nat.zero_add, List.nil_append] at ho6
          obtain ⟨A6, c6, e6⟩ := own_sliceM ho6
          subst e6
          have HO6 := Lib.hid ho6
          have HB6 := Lib.hid hb6
          have HC2 := Lib.hid ((HR2.out.keep HB3.out).keep hb6).cells
          clear ho6 hg6 hb6
          go_wp2_with (at_builtin; refine wpList_append_rdz rfl (.tmp 49) (.tmp 50) 22 rfl W3.heap.size 26 _ _ 33 40 Try.underlying22 HI.out HZ.out HSZ.out HBY.out (by simp [Value.cells]) (by omega) _ n1 (flatM D1) rfl HO6.out _ n2 c2 (flatM D2) rfl HL2.out HC2.out (flat_oneM _) (by unfold maxLen; omega) (by omega) HB6.out.size ?_)
          intro v7 w7 ho7 hg7
          have hb7 : Below W3.heap.size W3 w7 := HB6.out.grown hg7 HB6.out.size (fun q hq => (HO6.out.lt q hq).1)
          rw [← flat_appM] at ho7
          obtain ⟨A7, c7, rfl, hr7⟩ := RdHM.own ho7
          have HB7 := Lib.hid hb7
          have HS7 := Lib.hid (rsort_any A7 (n1 + n2) c7 (D1 ++ D2) w7 hr7 (by omega))
          have HR5b := Lib.hid (HR5.out.keep hb7)
          clear ho7 hg7 hb7 hr7
          go_wp2_with fail
          refine HS7.out.mono ?_
          rintro e W8 ⟨A8, n8, c8, rfl, hr8, hp8, hnc8, hb8⟩
          have HB8 := Lib.hid (HB7.out.trans (hb8.mono HB7.out.size))
          have he : So (So D1 ++ So D2) = So (D1 ++ D2) := So_ext fun x => by rw [List.mem_append, List.mem_append, So_mem, So_mem]
          have hl8 := So_len (So D1 ++ So D2)
          rw [List.length_append, HR3b.out.1, HR4.out.1] at hl8
          have HSM := Lib.hid (rsame_any A5 A8 _ n8 c5 c8 _ _ W8 (HR5b.out.keep hb8) hr8 (by omega))
          rw [decide_eq_true he] at HSM
          have HRA := Lib.hid ((HR1.out.keep HB3.out).keep HB8.out)
          have HRB := Lib.hid ((HR2.out.keep HB3.out).keep HB8.out)
          clear hb8 hr8 he hl8
          generalize (So (So D1 ++ So D2)).length = n9 at *
          go_wp2_with fail
          refine HSM.out.mono ?_
          rintro e W9 ⟨rfl, hb9⟩
          have HB9 := Lib.hid (HB8.out.trans (hb9.mono HB8.out.size))
          have HCM := Lib.hid (lcommon_any _ _ n1 n2 c1 c2 D1 D2 W9 (HRA.out.keep hb9) (HRB.out.keep hb9) (by omega))
          rw [← HK.out] at HCM
          clear hb9
          go_wp2_with fail
          refine HCM.out.mono ?_
          rintro e W10 ⟨rfl, hb10⟩
          have HB10 := Lib.hid (HB9.out.trans (hb10.mono HB9.out.size))
          clear hb10
          go_wp2_with fail
          refine (HA.out _).mono ?_
          rintro e W11 ⟨rfl, hb11⟩
          have HB11 := Lib.hid (HB10.out.trans (hb11.mono HB10.out.size))
          clear hb11
          go_wp2_with fail
          go_ret
          exact ⟨rfl, HB2.out.trans ((HB3.out.trans (HB11.out.mono HB3.out.size)).mono HB2.out.size)⟩
      · have HK := Lib.hid (show k = cmn D1 D2 by omega)
        go_wp2_with fail
        refine wp_region_held (S := fun w' : World => Below W2.heap.size W2 w') (by kernel_rfl) ?_
        change wpAnyH _ _ _ _ _ _ _ _ (World.drew _)
        have hS : (fun w' : World => Below W2.heap.size W2 w') wr.drew := hbd
        refine wpAnyH_take (i := 0) (v := ?_) rfl (by kernel_rfl) (by kernel_rfl) (by kernel_rfl) (fun _ _ _ h => h) (Or.inl ⟨by rfl, ?_⟩) hS ?_
        rotate_left
        · (intro w' hSw; go_simp; try (with_reducible rfl))
        change wpAnyH _ _ _ _ _ _ _ (Act.put _ (some 21) _) _
        try simp only [Act.put, List.setIfInBounds_toArray, List.set_cons_zero, List.set_cons_succ]
        refine wpAnyH_take (i := 1) (v := ?_) rfl (by kernel_rfl) (by kernel_rfl) (by kernel_rfl) (fun _ _ _ h => h) (Or.inl ⟨by rfl, ?_⟩) hS ?_
        rotate_left
        · (intro w' hSw; go_simp; try (with_reducible rfl))
        change wpAnyH _ _ _ _ _ _ _ (Act.put _ (some 22) _) _
        try simp only [Act.put, List.setIfInBounds_toArray, List.set_cons_zero, List.set_cons_succ]
        refine wpAnyH_take (i := 2) (v := ?_) rfl (by kernel_rfl) (by kernel_rfl) (by kernel_rfl) (fun _ _ _ h => h) (Or.inl ⟨by rfl, ?_⟩) hS ?_
        rotate_left
        · (intro w' hSw; go_simp; try (with_reducible rfl))
        change wpAnyH _ _ _ _ _ _ _ (Act.put _ (some 23) _) _
        try simp only [Act.put, List.setIfInBounds_toArray, List.set_cons_zero, List.set_cons_succ]
        refine wpAnyH_take (i := 3) (v := .bool true) rfl (by kernel_rfl) (by kernel_rfl) (by kernel_rfl) (fun _ _ _ h => h) (Or.inl ⟨by rfl, fun w' hSw => ex_binE .lss 3 3 (.tmp 21) (.tmp 23) rfl _ _ _ rfl rfl (lss_guard _ _ _ _ w') (lss_t k n1 hla w')⟩) hS ?_
        change wpAnyH _ _ _ _ _ _ _ (Act.put _ (some 24) _) _
        try simp only [Act.put, List.setIfInBounds_toArray, List.set_cons_zero, List.set_cons_succ]
        refine wpAnyH_take (i := 4) (v := ?_) rfl (by kernel_rfl) (by kernel_rfl) (by kernel_rfl) (fun _ _ _ h => h) (Or.inl ⟨by rfl, ?_⟩) hS ?_
        rotate_left
        · (intro w' hSw; go_simp; try (with_reducible rfl))
        change wpAnyH _ _ _ _ _ _ _ (Act.put _ (some 25) _) _
        try simp only [Act.put, List.setIfInBounds_toArray, List.set_cons_zero, List.set_cons_succ]
        refine wpAnyH_take (i := 5) (v := ?_) rfl (by kernel_rfl) (by kernel_rfl) (by kernel_rfl) (fun _ _ _ h => h) (Or.inl ⟨by rfl, ?_⟩) hS ?_
        rotate_left
        · (intro w' hSw; go_simp; try (with_reducible rfl))
        change wpAnyH _ _ _ _ _ _ _ (Act.put _ (some 26) _) _
        try simp only [Act.put, List.setIfInBounds_toArray, List.set_cons_zero, List.set_cons_succ]
        refine wpAnyH_take (i := 6) (v := ?_) rfl (by kernel_rfl) (by kernel_rfl) (by kernel_rfl) (fun _ _ _ h => h) (Or.inl ⟨by rfl, ?_⟩) hS ?_
        rotate_left
        · (intro w' hSw; go_simp; try (with_reducible rfl))
        change wpAnyH _ _ _ _ _ _ _ (Act.put _ (some 27) _) _
        try simp only [Act.put, List.setIfInBounds_toArray, List.set_cons_zero, List.set_cons_succ]
        refine wpAnyH_take (i := 7) (v := ?_) rfl (by kernel_rfl) (by kernel_rfl) (by kernel_rfl) (fun _ _ _ h => h) (Or.inl ⟨by rfl, ?_⟩) hS ?_
        rotate_left
        · (intro w' hSw; go_simp; try (with_reducible rfl))
        change wpAnyH _ _ _ _ _ _ _ (Act.put _ (some 28) _) _
        try simp only [Act.put, List.setIfInBounds_toArray, List.set_cons_zero, List.set_cons_succ]
        refine wpAnyH_take (i := 8) (v := .bool false) rfl (by kernel_rfl) (by kernel_rfl) (by kernel_rfl) (fun _ _ _ h => h) (Or.inl ⟨by rfl, fun w' hSw => ex_binE .lss 3 3 (.tmp 26) (.tmp 28) rfl _ _ _ rfl rfl (lss_guard _ _ _ _ w') (lss_f k n2 hlb w')⟩) hS ?_
        change wpAnyH _ _ _ _ _ _ _ (Act.put _ (some 29) _) _
        try simp only [Act.put, List.setIfInBounds_toArray, List.set_cons_zero, List.set_cons_succ]
        refine wpAnyH_take (i := 9) (v := ?_) rfl (by kernel_rfl) (by kernel_rfl) (by kernel_rfl) (fun _ _ _ h => h) (Or.inl ⟨by rfl, ?_⟩) hS ?_
        rotate_left
        · (intro w' hSw; go_simp; try (with_reducible rfl))
        change wpAnyH _ _ _ _ _ _ _ (Act.put _ (some 30) _) _
        try simp only [Act.put, List.setIfInBounds_toArray, List.set_cons_zero, List.set_cons_succ]
        refine wpAnyH_take (i := 10) (v := ?_) rfl (by kernel_rfl) (by kernel_rfl) (by kernel_rfl) (fun _ _ _ h => h) (Or.inl ⟨by rfl, ?_⟩) hS ?_
        rotate_left
        · (intro w' hSw; go_simp; try (with_reducible rfl))
        change wpAnyH _ _ _ _ _ _ _ (Act.put _ (some 31) _) _
        try simp only [Act.put, List.setIfInBounds_toArray, List.set_cons_zero, List.set_cons_succ]
        refine wpAnyH_take (i := 11) (v := undef) rfl (by kernel_rfl) (by kernel_rfl) (by kernel_rfl) (fun _ _ _ h => h) (Or.inr ⟨by rfl, rfl⟩) hS ?_
        change wpAnyH _ _ _ _ _ _ _ (Act.put _ (some 32) _) _
        try simp only [Act.put, List.setIfInBounds_toArray, List.set_cons_zero, List.set_cons_succ]
        refine wpAnyH_take (i := 12) (v := undef) rfl (by kernel_rfl) (by kernel_rfl) (by kernel_rfl) (fun _ _ _ h => h) (Or.inr ⟨by rfl, rfl⟩) hS ?_
        change wpAnyH _ _ _ _ _ _ _ (Act.put _ (some 33) _) _
        try simp only [Act.put, List.setIfInBounds_toArray, List.set_cons_zero, List.set_cons_succ]
        refine wpAnyH_take (i := 13) (v := undef) rfl (by kernel_rfl) (by kernel_rfl) (by kernel_rfl) (fun _ _ _ h => h) (Or.inr ⟨by rfl, rfl⟩) hS ?_
        change wpAnyH _ _ _ _ _ _ _ (Act.put _ (some 34) _) _
        try simp only [Act.put, List.setIfInBounds_toArray, List.set_cons_zero, List.set_cons_succ]
        refine wpAnyH_take (i := 14) (v := undef) rfl (by kernel_rfl) (by kernel_rfl) (by kernel_rfl) (fun _ _ _ h => h) (Or.inr ⟨by rfl, rfl⟩) hS ?_
        change wpAnyH _ _ _ _ _ _ _ (Act.put _ (some 35) _) _
        try simp only [Act.put, List.setIfInBounds_toArray, List.set_cons_zero, List.set_cons_succ]
        refine wpAnyH_take (i := 15) (v := undef) rfl (by kernel_rfl) (by kernel_rfl) (by kernel_rfl) (fun _ _ _ h => h) (Or.inr ⟨by rfl, rfl⟩) hS ?_
        change wpAnyH _ _ _ _ _ _ _ (Act.put _ (some 36) _) _
        try simp only [Act.put, List.setIfInBounds_toArray, List.set_cons_zero, List.set_cons_succ]
        refine wpAnyH_take (i := 16) (v := undef) rfl (by kernel_rfl) (by kernel_rfl) (by kernel_rfl) (fun _ _ _ h => h) (Or.inr ⟨by rfl, rfl⟩) hS ?_
        change wpAnyH _ _ _ _ _ _ _ (Act.put _ (some 37) _) _
        try simp only [Act.put, List.setIfInBounds_toArray, List.set_cons_zero, List.set_cons_succ]
        refine wpAnyH_take (i := 17) (v := undef) rfl (by kernel_rfl) (by kernel_rfl) (by kernel_rfl) (fun _ _ _ h => h) (Or.inr ⟨by rfl, rfl⟩) hS ?_
        change wpAnyH _ _ _ _ _ _ _ (Act.put _ (some 38) _) _
        try simp only [Act.put, List.setIfInBounds_toArray, List.set_cons_zero, List.set_cons_succ]
        refine wpAnyH_take (i := 18) (v := undef) rfl (by kernel_rfl) (by kernel_rfl) (by kernel_rfl) (fun _ _ _ h => h) (Or.inr ⟨by rfl, rfl⟩) hS ?_
        change wpAnyH _ _ _ _ _ _ _ (Act.put _ (some 39) _) _
        try simp only [Act.put, List.setIfInBounds_toArray, List.set_cons_zero, List.set_cons_succ]
        refine wpAnyH_take (i := 19) (v := undef) rfl (by kernel_rfl) (by kernel_rfl) (by kernel_rfl) (fun _ _ _ h => h) (Or.inr ⟨by rfl, rfl⟩) hS ?_
        change wpAnyH _ _ _ _ _ _ _ (Act.put _ (some 40) _) _
        try simp only [Act.put, List.setIfInBounds_toArray, List.set_cons_zero, List.set_cons_succ]
        refine wpAnyH_take (i := 20) (v := ?_) rfl (by kernel_rfl) (by kernel_rfl) (by kernel_rfl) (fun _ _ _ h => h) (Or.inl ⟨by rfl, ?_⟩) hS ?_
        rotate_left
        · (intro w' hSw; go_simp; try (with_reducible rfl))
        change wpAnyH _ _ _ _ _ _ _ (Act.put _ (some 41) _) _
        try simp only [Act.put, List.setIfInBounds_toArray, List.set_cons_zero, List.set_cons_succ]
        refine wpAnyH_done (by kernel_rfl) ?_ _
        have HBS := Lib.hid hS
        clear hb hbd hS
        have HMG := Lib.hid (fun (w' : World) (h : Below W2.heap.size W2 w') => merge_any A3 A4 n3 n4 c3 c4 (So D1) (So D2) w' (HR3b.out.keep h) (HR4.out.keep h) (by omega))
        go_wp2_with fail
        refine (HMG.out _ HBS.out).mono ?_
        rintro e W3 ⟨v5, rfl, ho5, hb3⟩
        obtain ⟨A5, c5, rfl, hr5⟩ := RdHM.own ho5
        have HR5 := Lib.hid hr5
        have HB3 := Lib.hid (HBS.out.trans (hb3.mono HBS.out.size))
        clear ho5 hb3 hr5
        have HB4 := Lib.hid (below_newE W3 (.cells #[] 26))
        have HO0 := Lib.hid (own0 W3 (Nat.le_refl _))
        have HR1c := Lib.hid ((HR1.out.keep HB3.out).keep HB4.out)
        have HC1 := Lib.hid HR1c.out.cells
        have HL1 := Lib.hid (show (flatM D1).length = n1 * 33 by rw [flat_lengthM, hn1])
        have HL2 := Lib.hid (show (flatM D2).length = n2 * 33 by rw [flat_lengthM, hn2])
        go_wp2_with (first | (refine wpList_build0 rfl rfl ?_) | (at_builtin; refine wpList_append_rdz rfl (.tmp 47) (.tmp 48) 22 rfl W3.heap.size 26 _ _ 33 40 Try.underlying22 HI.out HZ.out HSZ.out HBY.out (by simp [Value.cells]) (by omega) _ 0 [] rfl HO0.out _ n1 c1 (flatM D1) rfl HL1.out HC1.out (flat_oneM _) (by unfold maxLen; omega) (by omega) HB4.out.size ?_))
        intro v6 w6 ho6 hg6
        have hb6 : Below W3.heap.size W3 w6 := HB4.out.grown hg6 HB4.out.size (fun q hq => (HO0.out.lt q hq).1)
        try simp only [Nat.zero_add, List.nil_append] at ho6
        obtain ⟨A6, c6, e6⟩ := own_sliceM ho6
        subst e6
        have HO6 := Lib.hid ho6
        have HB6 := Lib.hid hb6
        have HC2 := Lib.hid ((HR2.out.keep HB3.out).keep hb6).cells
        clear ho6 hg6 hb6
        go_wp2_with (at_builtin; refine wpList_append_rdz rfl (.tmp 49) (.tmp 50) 22 rfl W3.heap.size 26 _ _ 33 40 Try.underlying22 HI.out HZ.out HSZ.out HBY.out (by simp [Value.cells]) (by omega) _ n1 (flatM D1) rfl HO6.out _ n2 c2 (flatM D2) rfl HL2.out HC2.out (flat_oneM _) (by unfold maxLen; omega) (by omega) HB6.out.size ?_)
        intro v7 w7 ho7 hg7
        have hb7 : Below W3.heap.size W3 w7 := HB6.out.grown hg7 HB6.out.size (fun q hq => (HO6.out.lt q hq).1)
        rw [← flat_appM] at ho7
        obtain ⟨A7, c7, rfl, hr7⟩ := RdHM.own ho7
        have HB7 := Lib.hid hb7
        have HS7 := Lib.hid (rsort_any A7 (n1 + n2) c7 (D1 ++ D2) w7 hr7 (by omega))
        have HR5b := Lib.hid (HR5.out.keep hb7)
        clear ho7 hg7 hb7 hr7
        go_wp2_with fail
        refine HS7.out.mono ?_
        rintro e W8 ⟨A8, n8, c8, rfl, hr8, hp8, hnc8, hb8⟩
        have HB8 := Lib.hid (HB7.out.trans (hb8.mono HB7.out.size))
        have he : So (So D1 ++ So D2) = So (D1 ++ D2) := So_ext fun x => by rw [List.mem_append, List.mem_append, So_mem, So_mem]
        have hl8 := So_len (So D1 ++ So D2)
        rw [List.length_append, HR3b.out.1, HR4.out.1] at hl8
        have HSM := Lib.hid (rsame_any A5 A8 _ n8 c5 c8 _ _ W8 (HR5b.out.keep hb8) hr8 (by omega))
        rw [decide_eq_true he] at HSM
        have HRA := Lib.hid ((HR1.out.keep HB3.out).keep HB8.out)
        have HRB := Lib.hid ((HR2.out.keep HB3.out).keep HB8.out)
        clear hb8 hr8 he hl8
        generalize (So (So D1 ++ So D2)).length = n9 at *
        go_wp2_with fail
        refine HSM.out.mono ?_
        rintro e W9 ⟨rfl, hb9⟩
        have HB9 := Lib.hid (HB8.out.trans (hb9.mono HB8.out.size))
        have HCM := Lib.hid (lcommon_any _ _ n1 n2 c1 c2 D1 D2 W9 (HRA.out.keep hb9) (HRB.out.keep hb9) (by omega))
        rw [← HK.out] at HCM
        clear hb9
        go_wp2_with fail
        refine HCM.out.mono ?_
        rintro e W10 ⟨rfl, hb10⟩
        have HB10 := Lib.hid (HB9.out.trans (hb10.mono HB9.out.size))
        clear hb10
        go_wp2_with fail
        refine (HA.out _).mono ?_
        rintro e W11 ⟨rfl, hb11⟩
        have HB11 := Lib.hid (HB10.out.trans (hb11.mono HB10.out.size))
        clear hb11
        go_wp2_with fail
        go_ret
        exact ⟨rfl, HB2.out.trans ((HB3.out.trans (HB11.out.mono HB3.out.size)).mono HB2.out.size)⟩
    · have HK := Lib.hid (show k = cmn D1 D2 by omega)
      go_wp2_with fail
      refine wp_region_held (S := fun w' : World => Below W2.heap.size W2 w') (by kernel_rfl) ?_
      change wpAnyH _ _ _ _ _ _ _ _ (World.drew _)
      have hS : (fun w' : World => Below W2.heap.size W2 w') wr.drew := hbd
      refine wpAnyH_take (i := 0) (v := ?_) rfl (by kernel_rfl) (by kernel_rfl) (by kernel_rfl) (fun _ _ _ h => h) (Or.inl ⟨by rfl, ?_⟩) hS ?_
      rotate_left
      · (intro w' hSw; go_simp; try (with_reducible rfl))
      change wpAnyH _ _ _ _ _ _ _ (Act.put _ (some 21) _) _
      try simp only [Act.put, List.setIfInBounds_toArray, List.set_cons_zero, List.set_cons_succ]
      refine wpAnyH_take (i := 1) (v := ?_) rfl (by kernel_rfl) (by kernel_rfl) (by kernel_rfl) (fun _ _ _ h => h) (Or.inl ⟨by rfl, ?_⟩) hS ?_
      rotate_left
      · (intro w' hSw; go_simp; try (with_reducible rfl))
      change wpAnyH _ _ _ _ _ _ _ (Act.put _ (some 22) _) _
      try simp only [Act.put, List.setIfInBounds_toArray, List.set_cons_zero, List.set_cons_succ]
      refine wpAnyH_take (i := 2) (v := ?_) rfl (by kernel_rfl) (by kernel_rfl) (by kernel_rfl) (fun _ _ _ h => h) (Or.inl ⟨by rfl, ?_⟩) hS ?_
      rotate_left
      · (intro w' hSw; go_simp; try (with_reducible rfl))
      change wpAnyH _ _ _ _ _ _ _ (Act.put _ (some 23) _) _
      try simp only [Act.put, List.setIfInBounds_toArray, List.set_cons_zero, List.set_cons_succ]
      refine wpAnyH_take (i := 3) (v := .bool false) rfl (by kernel_rfl) (by kernel_rfl) (by kernel_rfl) (fun _ _ _ h => h) (Or.inl ⟨by rfl, fun w' hSw => ex_binE .lss 3 3 (.tmp 21) (.tmp 23) rfl _ _ _ rfl rfl (lss_guard _ _ _ _ w') (lss_f k n1 hla w')⟩) hS ?_
      change wpAnyH _ _ _ _ _ _ _ (Act.put _ (some 24) _) _
      try simp only [Act.put, List.setIfInBounds_toArray, List.set_cons_zero, List.set_cons_succ]
      refine wpAnyH_take (i := 4) (v := ?_) rfl (by kernel_rfl) (by kernel_rfl) (by kernel_rfl) (fun _ _ _ h => h) (Or.inl ⟨by rfl, ?_⟩) hS ?_
      rotate_left
      · (intro w' hSw; go_simp; try (with_reducible rfl))
      change wpAnyH _ _ _ _ _ _ _ (Act.put _ (some 25) _) _
      try simp only [Act.put, List.setIfInBounds_toArray, List.set_cons_zero, List.set_cons_succ]
      refine wpAnyH_take (i := 5) (v := undef) rfl (by kernel_rfl) (by kernel_rfl) (by kernel_rfl) (fun _ _ _ h => h) (Or.inr ⟨by rfl, rfl⟩) hS ?_
      change wpAnyH _ _ _ _ _ _ _ (Act.put _ (some 26) _) _
      try simp only [Act.put, List.setIfInBounds_toArray, List.set_cons_zero, List.set_cons_succ]
      refine wpAnyH_take (i := 6) (v := undef) rfl (by kernel_rfl) (by kernel_rfl) (by kernel_rfl) (fun _ _ _ h => h) (Or.inr ⟨by rfl, rfl⟩) hS ?_
      change wpAnyH _ _ _ _ _ _ _ (Act.put _ (some 27) _) _
      try simp only [Act.put, List.setIfInBounds_toArray, List.set_cons_zero, List.set_cons_succ]
      refine wpAnyH_take (i := 7) (v := undef) rfl (by kernel_rfl) (by kernel_rfl) (by kernel_rfl) (fun _ _ _ h => h) (Or.inr ⟨by rfl, rfl⟩) hS ?_
      change wpAnyH _ _ _ _ _ _ _ (Act.put _ (some 28) _) _
      try simp only [Act.put, List.setIfInBounds_toArray, List.set_cons_zero, List.set_cons_succ]
      refine wpAnyH_take (i := 8) (v := undef) rfl (by kernel_rfl) (by kernel_rfl) (by kernel_rfl) (fun _ _ _ h => h) (Or.inr ⟨by rfl, rfl⟩) hS ?_
      change wpAnyH _ _ _ _ _ _ _ (Act.put _ (some 29) _) _
      try simp only [Act.put, List.setIfInBounds_toArray, List.set_cons_zero, List.set_cons_succ]
      refine wpAnyH_take (i := 9) (v := ?_) rfl (by kernel_rfl) (by kernel_rfl) (by kernel_rfl) (fun _ _ _ h => h) (Or.inl ⟨by rfl, ?_⟩) hS ?_
      rotate_left
      · (intro w' hSw; go_simp; try (with_reducible rfl))
      change wpAnyH _ _ _ _ _ _ _ (Act.put _ (some 30) _) _
      try simp only [Act.put, List.setIfInBounds_toArray, List.set_cons_zero, List.set_cons_succ]
      refine wpAnyH_take (i := 10) (v := ?_) rfl (by kernel_rfl) (by kernel_rfl) (by kernel_rfl) (fun _ _ _ h => h) (Or.inl ⟨by rfl, ?_⟩) hS ?_
      rotate_left
      · (intro w' hSw; go_simp; try (with_reducible rfl))
      change wpAnyH _ _ _ _ _ _ _ (Act.put _ (some 31) _) _
      try simp only [Act.put, List.setIfInBounds_toArray, List.set_cons_zero, List.set_cons_succ]
      refine wpAnyH_take (i := 11) (v := undef) rfl (by kernel_rfl) (by kernel_rfl) (by kernel_rfl) (fun _ _ _ h => h) (Or.inr ⟨by rfl, rfl⟩) hS ?_
      change wpAnyH _ _ _ _ _ _ _ (Act.put _ (some 32) _) _
      try simp only [Act.put, List.setIfInBounds_toArray, List.set_cons_zero, List.set_cons_succ]
      refine wpAnyH_take (i := 12) (v := undef) rfl (by kernel_rfl) (by kernel_rfl) (by kernel_rfl) (fun _ _ _ h => h) (Or.inr ⟨by rfl, rfl⟩) hS ?_
      change wpAnyH _ _ _ _ _ _ _ (Act.put _ (some 33) _) _
      try simp only [Act.put, List.setIfInBounds_toArray, List.set_cons_zero, List.set_cons_succ]
      refine wpAnyH_take (i := 13) (v := undef) rfl (by kernel_rfl) (by kernel_rfl) (by kernel_rfl) (fun _ _ _ h => h) (Or.inr ⟨by rfl, rfl⟩) hS ?_
      change wpAnyH _ _ _ _ _ _ _ (Act.put _ (some 34) _) _
      try simp only [Act.put, List.setIfInBounds_toArray, List.set_cons_zero, List.set_cons_succ]
      refine wpAnyH_take (i := 14) (v := undef) rfl (by kernel_rfl) (by kernel_rfl) (by kernel_rfl) (fun _ _ _ h => h) (Or.inr ⟨by rfl, rfl⟩) hS ?_
      change wpAnyH _ _ _ _ _ _ _ (Act.put _ (some 35) _) _
      try simp only [Act.put, List.setIfInBounds_toArray, List.set_cons_zero, List.set_cons_succ]
      refine wpAnyH_take (i := 15) (v := undef) rfl (by kernel_rfl) (by kernel_rfl) (by kernel_rfl) (fun _ _ _ h => h) (Or.inr ⟨by rfl, rfl⟩) hS ?_
      change wpAnyH _ _ _ _ _ _ _ (Act.put _ (some 36) _) _
      try simp only [Act.put, List.setIfInBounds_toArray, List.set_cons_zero, List.set_cons_succ]
      refine wpAnyH_take (i := 16) (v := undef) rfl (by kernel_rfl) (by kernel_rfl) (by kernel_rfl) (fun _ _ _ h => h) (Or.inr ⟨by rfl, rfl⟩) hS ?_
      change wpAnyH _ _ _ _ _ _ _ (Act.put _ (some 37) _) _
      try simp only [Act.put, List.setIfInBounds_toArray, List.set_cons_zero, List.set_cons_succ]
      refine wpAnyH_take (i := 17) (v := undef) rfl (by kernel_rfl) (by kernel_rfl) (by kernel_rfl) (fun _ _ _ h => h) (Or.inr ⟨by rfl, rfl⟩) hS ?_
      change wpAnyH _ _ _ _ _ _ _ (Act.put _ (some 38) _) _
      try simp only [Act.put, List.setIfInBounds_toArray, List.set_cons_zero, List.set_cons_succ]
      refine wpAnyH_take (i := 18) (v := undef) rfl (by kernel_rfl) (by kernel_rfl) (by kernel_rfl) (fun _ _ _ h => h) (Or.inr ⟨by rfl, rfl⟩) hS ?_
      change wpAnyH _ _ _ _ _ _ _ (Act.put _ (some 39) _) _
      try simp only [Act.put, List.setIfInBounds_toArray, List.set_cons_zero, List.set_cons_succ]
      refine wpAnyH_take (i := 19) (v := undef) rfl (by kernel_rfl) (by kernel_rfl) (by kernel_rfl) (fun _ _ _ h => h) (Or.inr ⟨by rfl, rfl⟩) hS ?_
      change wpAnyH _ _ _ _ _ _ _ (Act.put _ (some 40) _) _
      try simp only [Act.put, List.setIfInBounds_toArray, List.set_cons_zero, List.set_cons_succ]
      refine wpAnyH_take (i := 20) (v := ?_) rfl (by kernel_rfl) (by kernel_rfl) (by kernel_rfl) (fun _ _ _ h => h) (Or.inl ⟨by rfl, ?_⟩) hS ?_
      rotate_left
      · (intro w' hSw; go_simp; try (with_reducible rfl))
      change wpAnyH _ _ _ _ _ _ _ (Act.put _ (some 41) _) _
      try simp only [Act.put, List.setIfInBounds_toArray, List.set_cons_zero, List.set_cons_succ]
      refine wpAnyH_done (by kernel_rfl) ?_ _
      have HBS := Lib.hid hS
      clear hb hbd hS
      have HMG := Lib.hid (fun (w' : World) (h : Below W2.heap.size W2 w') => merge_any A3 A4 n3 n4 c3 c4 (So D1) (So D2) w' (HR3b.out.keep h) (HR4.out.keep h) (by omega))
      go_wp2_with fail
      refine (HMG.out _ HBS.out).mono ?_
      rintro e W3 ⟨v5, rfl, ho5, hb3⟩
      obtain ⟨A5, c5, rfl, hr5⟩ := RdHM.own ho5
      have HR5 := Lib.hid hr5
      have HB3 := Lib.hid (HBS.out.trans (hb3.mono HBS.out.size))
      clear ho5 hb3 hr5
      have HB4 := Lib.hid (below_newE W3 (.cells #[] 26))
      have HO0 := Lib.hid (own0 W3 (Nat.le_refl _))
      have HR1c := Lib.hid ((HR1.out.keep HB3.out).keep HB4.out)
      have HC1 := Lib.hid HR1c.out.cells
      have HL1 := Lib.hid (show (flatM D1).length = n1 * 33 by rw [flat_lengthM, hn1])
      have HL2 := Lib.hid (show (flatM D2).length = n2 * 33 by rw [flat_lengthM, hn2])
      go_wp2_with (first | (refine wpList_build0 rfl rfl ?_) | (at_builtin; refine wpList_append_rdz rfl (.tmp 47) (.tmp 48) 22 rfl W3.heap.size 26 _ _ 33 40 Try.underlying22 HI.out HZ.out HSZ.out HBY.out (by simp [Value.cells]) (by omega) _ 0 [] rfl HO0.out _ n1 c1 (flatM D1) rfl HL1.out HC1.out (flat_oneM _) (by unfold maxLen; omega) (by omega) HB4.out.size ?_))
      intro v6 w6 ho6 hg6
      have hb6 : Below W3.heap.size W3 w6 := HB4.out.grown hg6 HB4.out.size (fun q hq => (HO0.out.lt q hq).1)
      try simp only [Nat.zero_add, List.nil_append] at ho6
      obtain ⟨A6, c6, e6⟩ := own_sliceM ho6
      subst e6
      have HO6 := Lib.hid ho6
      have HB6 := Lib.hid hb6
      have HC2 := Lib.hid ((HR2.out.keep HB3.out).keep hb6).cells
      clear ho6 hg6 hb6
      go_wp2_with (at_builtin; refine wpList_append_rdz rfl (.tmp 49) (.tmp 50) 22 rfl W3.heap.size 26 _ _ 33 40 Try.underlying22 HI.out HZ.out HSZ.out HBY.out (by simp [Value.cells]) (by omega) _ n1 (flatM D1) rfl HO6.out _ n2 c2 (flatM D2) rfl HL2.out HC2.out (flat_oneM _) (by unfold maxLen; omega) (by omega) HB6.out.size ?_)
      intro v7 w7 ho7 hg7
      have hb7 : Below W3.heap.size W3 w7 := HB6.out.grown hg7 HB6.out.size (fun q hq => (HO6.out.lt q hq).1)
      rw [← flat_appM] at ho7
      obtain ⟨A7, c7, rfl, hr7⟩ := RdHM.own ho7
      have HB7 := Lib.hid hb7
      have HS7 := Lib.hid (rsort_any A7 (n1 + n2) c7 (D1 ++ D2) w7 hr7 (by omega))
      have HR5b := Lib.hid (HR5.out.keep hb7)
      clear ho7 hg7 hb7 hr7
      go_wp2_with fail
      refine HS7.out.mono ?_
      rintro e W8 ⟨A8, n8, c8, rfl, hr8, hp8, hnc8, hb8⟩
      have HB8 := Lib.hid (HB7.out.trans (hb8.mono HB7.out.size))
      have he : So (So D1 ++ So D2) = So (D1 ++ D2) := So_ext fun x => by rw [List.mem_append, List.mem_append, So_mem, So_mem]
      have hl8 := So_len (So D1 ++ So D2)
      rw [List.length_append, HR3b.out.1, HR4.out.1] at hl8
      have HSM := Lib.hid (rsame_any A5 A8 _ n8 c5 c8 _ _ W8 (HR5b.out.keep hb8) hr8 (by omega))
      rw [decide_eq_true he] at HSM
      have HRA := Lib.hid ((HR1.out.keep HB3.out).keep HB8.out)
      have HRB := Lib.hid ((HR2.out.keep HB3.out).keep HB8.out)
      clear hb8 hr8 he hl8
      generalize (So (So D1 ++ So D2)).length = n9 at *
      go_wp2_with fail
      refine HSM.out.mono ?_
      rintro e W9 ⟨rfl, hb9⟩
      have HB9 := Lib.hid (HB8.out.trans (hb9.mono HB8.out.size))
      have HCM := Lib.hid (lcommon_any _ _ n1 n2 c1 c2 D1 D2 W9 (HRA.out.keep hb9) (HRB.out.keep hb9) (by omega))
      rw [← HK.out] at HCM
      clear hb9
      go_wp2_with fail
      refine HCM.out.mono ?_
      rintro e W10 ⟨rfl, hb10⟩
      have HB10 := Lib.hid (HB9.out.trans (hb10.mono HB9.out.size))
      clear hb10
      go_wp2_with fail
      refine (HA.out _).mono ?_
      rintro e W11 ⟨rfl, hb11⟩
      have HB11 := Lib.hid (HB10.out.trans (hb11.mono HB10.out.size))
      clear hb11
      go_wp2_with fail
      go_ret
      exact ⟨rfl, HB2.out.trans ((HB3.out.trans (HB11.out.mono HB3.out.size)).mono HB2.out.size)⟩
end Go.Proofs.Ytocgeemjdlnabaa
