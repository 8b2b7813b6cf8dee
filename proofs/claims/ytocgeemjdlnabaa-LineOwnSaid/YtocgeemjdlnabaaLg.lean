/- slices.Compact's walk. -/
import Derived.Test.YtocgeemjdlnabaaLf
namespace Go.Proofs.Ytocgeemjdlnabaa
set_option maxRecDepth 100000
set_option linter.unusedSimpArgs false
set_option linter.unusedVariables false
open Go.RowKit


theorem ix_atM (g o n cap k p : Nat) (h : k < n) (hp : p = o + k * 33) (w : World) : (Instr.indexAt 22 (.slice (some ⟨g, o, none⟩) n cap) (.int .i64 (k : Int))).run Try.prog w = .ok (.pointer (some ⟨g, p, none⟩)) w := hp ▸ ix_hsM g o n cap k h w
theorem eql_tM {x y : Mk} (h : x = y) (w : World) : (binOp .eql 26 (.agg (Mk.c x).toArray) (.agg (Mk.c y).toArray)).run Try.prog w = .ok (.bool true) w := by
  rw [hs_eqlM, decide_eq_true h]
theorem eql_fM {x y : Mk} (h : ¬ x = y) (w : World) : (binOp .eql 26 (.agg (Mk.c x).toArray) (.agg (Mk.c y).toArray)).run Try.prog w = .ok (.bool false) w := by
  rw [hs_eqlM, decide_eq_false h]
theorem neq_tM {x y : Mk} (h : x = y) (w : World) : (binOp .neq 26 (.agg (Mk.c x).toArray) (.agg (Mk.c y).toArray)).run Try.prog w = .ok (.bool false) w := by
  rw [hs_neqM, decide_eq_true h]; rfl
theorem neq_fM {x y : Mk} (h : ¬ x = y) (w : World) : (binOp .neq 26 (.agg (Mk.c x).toArray) (.agg (Mk.c y).toArray)).run Try.prog w = .ok (.bool true) w := by
  rw [hs_neqM, decide_eq_false h]; rfl
theorem dn_sameM {d : List Mk} {k : Nat} (h0 : 0 < k) (h : d[k]? = d[k - 1]?) : dnM d (k + 1) = dnM d k := by rw [dnM, if_pos ⟨h0, h⟩]
theorem dn_nextM {d : List Mk} {k : Nat} {x : Mk} (hx : d[k]? = some x) (h : ¬ d[k]? = d[k - 1]?) : dnM d (k + 1) = dnM d k ++ [x] := by rw [dnM, if_neg (fun h' => h h'.2), hx]; rfl
theorem dn_oneM {d : List Mk} (h : 0 < d.length) : dnM d 1 = d.take 1 := by
  rw [dnM, if_neg (by omega), dnM, List.getElem?_eq_getElem h]
  cases d with
  | nil => simp at h
  | cons a d => rfl
theorem dnE_getM {d : List Mk} {t i : Nat} (h : (dnM d t).length ≤ i) : (dnM d t ++ d.drop (dnM d t).length)[i]? = d[i]? := by
  rw [List.getElem?_append_right h, List.getElem?_drop]
  congr 1
  omega
theorem dnE_setM {d : List Mk} {t : Nat} {x : Mk} (h : (dnM d t).length < d.length) : (dnM d t ++ d.drop (dnM d t).length).set (dnM d t).length x = (dnM d t ++ [x]) ++ d.drop ((dnM d t).length + 1) := by
  rw [List.set_append_right _ _ (Nat.le_refl _), Nat.sub_self, List.drop_eq_getElem_cons h, List.set_cons_zero]
  simp
theorem hs_infoEM (x : Mk) : (Try.prog.info? 26).map (·.size) = some (Mk.c x).length := by rw [x.c_len]; kernel_rfl
theorem hs_allEM (x : Mk) : (Mk.c x).toArray.all (·.oneCell') = true := all_oneCell_toArray x.c_one
theorem zero_hsM (w : World) : (zeroValue 26).run Try.prog w = .ok (.agg (Value.int .i64 0 :: List.replicate 32 (Value.int .u8 0)).toArray) w := by kernel_rfl
set_option maxHeartbeats 3200000 in
theorem compact_anyM (d : List Mk) (R : List Value) (g n cap : Nat) (w : World) (hrow : Row w g 26 (flatM d ++ R)) (hdn : d.length = n) (hn : n ≤ cap) (hcap : cap ≤ maxLen) (hpos : 0 < n) (hsm : n < 4611686018427387904) :
    Calls Try.prog 25 #[.slice (some ⟨g, 0, none⟩) n cap] w fun e w' => e = .returned (.slice (some ⟨g, 0, none⟩) (dnM d n).length cap) ∧ (∃ R', Row w' g 26 (flatM (dnM d n) ++ R') ∧ (flatM (dnM d n) ++ R').length = (flatM d ++ R).length) ∧ Only (fun k => k = g) w w' := by
  have hmx : cap ≤ 9223372036854775807 := by unfold maxLen at hcap; omega
  clear hcap
  have HROW := Lib.hid hrow
  clear hrow
  go_enter Try.func25, Try.ntmps25
  by_cases h2 : n < 2
  · obtain rfl : n = 1 := by omega
    have h1 : dnM d 1 = d := by rw [dn_oneM (by omega), List.take_of_length_le (by omega)]
    rw [h1]
    have hd1 : d.length = 1 := hdn
    go_wp2_with fail
    go_ret
    refine ⟨by simp [hd1], ⟨R, HROW.out, rfl⟩, Only.refl _ _⟩
  have h2i : ¬ (n : Int) < 2 := by omega
  have HD1 := Lib.hid (dn_oneM (d := d) (by omega))
  have HDN := Lib.hid hdn
  clear hdn
  go_wp2_with fail
  go_loopw [3] (fun v wr => ∃ k : Nat, 1 ≤ k ∧ k ≤ n ∧ v = .int .i64 (k : Int) ∧ dnM d k = d.take k ∧ Row wr g 26 (flatM d ++ R) ∧ Only (fun k => k = g) w wr) (fun v _ => n - (intOf v).toNat)
  case atStart => exact ⟨1, by omega, by omega, rfl, HD1.out, HROW.out, Only.refl _ _⟩
  case round =>
    obtain ⟨k, hk1, hkn, rfl, hdk, hr, hon⟩ := hrel
    have HR := Lib.hid hr
    have HON := Lib.hid hon
    have HDK := Lib.hid hdk
    clear hr hon hdk
    by_cases hlt : k < n
    · have hki : (k : Int) < (n : Int) := by omega
      have hki0 : (0 : Int) ≤ (k : Int) := by omega
      have hx : d[k]? = some (d[k]'(by have := HDN.out; omega)) := List.getElem?_eq_getElem _
      have hy : d[k - 1]? = some (d[k - 1]'(by have := HDN.out; omega)) := List.getElem?_eq_getElem _
      generalize (d[k]'(by have := HDN.out; omega)) = x at hx
      generalize (d[k - 1]'(by have := HDN.out; omega)) = y at hy
      have HX := Lib.hid hx
      have HY := Lib.hid hy
      clear hx hy
      by_cases hxy : x = y
      · have HXY := Lib.hid hxy
        clear hxy
        go_wp2_with fail
        refine wp_region_held (S := (fun w' : World => w'.rangeAt g (k * 33) (Mk.c x) ∧ w'.rangeAt g ((k - 1) * 33) (Mk.c y))) (by kernel_rfl) ?_
        change wpAnyH _ _ _ _ _ _ _ _ (World.drew _)
        have hS : (fun w' : World => w'.rangeAt g (k * 33) (Mk.c x) ∧ w'.rangeAt g ((k - 1) * 33) (Mk.c y)) wr.drew := ⟨(HR.out.drewN 1).rangeM HX.out, (HR.out.drewN 1).rangeM HY.out⟩
        refine wpAnyH_take (i := 0) (v := ?_) rfl (by kernel_rfl) (by kernel_rfl) (by kernel_rfl) (fun _ _ _ h => h) (Or.inl ⟨by rfl, ?_⟩) hS ?_
        rotate_left
        · (intro w' hSw; go_simp; try (with_reducible rfl))
        change wpAnyH _ _ _ _ _ _ _ (Act.put _ (some 16) _) _
        try simp only [Act.put, List.setIfInBounds_toArray, List.set_cons_zero, List.set_cons_succ]
        refine wpAnyH_take (i := 1) (v := ?_) rfl (by kernel_rfl) (by kernel_rfl) (by kernel_rfl) (fun _ _ _ h => h) (Or.inl ⟨by rfl, ?_⟩) hS ?_
        rotate_left
        · (intro w' hSw; go_simp; try (with_reducible rfl))
        change wpAnyH _ _ _ _ _ _ _ (Act.put _ (some 17) _) _
        try simp only [Act.put, List.setIfInBounds_toArray, List.set_cons_zero, List.set_cons_succ]
        refine wpAnyH_take (i := 2) (v := .pointer (some ⟨g, k * 33, none⟩)) rfl (by kernel_rfl) (by kernel_rfl) (by kernel_rfl) (fun _ _ _ h => h) (Or.inl ⟨by rfl, fun w' hSw => ex_ixE 22 (.tmp 16) (.tmp 17) rfl _ _ _ rfl rfl (ix_atM g 0 n cap k (k * 33) (by omega) (by omega) w')⟩) hS ?_
        change wpAnyH _ _ _ _ _ _ _ (Act.put _ (some 18) _) _
        try simp only [Act.put, List.setIfInBounds_toArray, List.set_cons_zero, List.set_cons_succ]
        refine wpAnyH_take (i := 3) (v := .agg (Mk.c x).toArray) rfl (by kernel_rfl) (by kernel_rfl) (by kernel_rfl) (fun _ _ _ h => h) (Or.inl ⟨by rfl, fun w' hSw => ex_ldE 26 (.tmp 18) rfl _ _ rfl (ld_hsM g _ x w' hSw.1)⟩) hS ?_
        change wpAnyH _ _ _ _ _ _ _ (Act.put _ (some 19) _) _
        try simp only [Act.put, List.setIfInBounds_toArray, List.set_cons_zero, List.set_cons_succ]
        refine wpAnyH_take (i := 4) (v := ?_) rfl (by kernel_rfl) (by kernel_rfl) (by kernel_rfl) (fun _ _ _ h => h) (Or.inl ⟨by rfl, ?_⟩) hS ?_
        rotate_left
        · (intro w' hSw; go_simp; try (with_reducible rfl))
        change wpAnyH _ _ _ _ _ _ _ (Act.put _ (some 20) _) _
        try simp only [Act.put, List.setIfInBounds_toArray, List.set_cons_zero, List.set_cons_succ]
        refine wpAnyH_take (i := 5) (v := ?_) rfl (by kernel_rfl) (by kernel_rfl) (by kernel_rfl) (fun _ _ _ h => h) (Or.inl ⟨by rfl, ?_⟩) hS ?_
        rotate_left
        · (intro w' hSw; go_simp; try (with_reducible rfl))
        change wpAnyH _ _ _ _ _ _ _ (Act.put _ (some 21) _) _
        try simp only [Act.put, List.setIfInBounds_toArray, List.set_cons_zero, List.set_cons_succ]
        refine wpAnyH_take (i := 6) (v := .int .i64 ((k - 1 : Nat) : Int)) rfl (by kernel_rfl) (by kernel_rfl) (by kernel_rfl) (fun _ _ _ h => h) (Or.inl ⟨by rfl, fun w' hSw => ex_binE .sub 3 3 (.tmp 21) (.const (.int .i64 1)) rfl _ _ _ rfl rfl (sub_guard _ _ _ _ w') (sub_one k (by omega) (by omega) w')⟩) hS ?_
        change wpAnyH _ _ _ _ _ _ _ (Act.put _ (some 22) _) _
        try simp only [Act.put, List.setIfInBounds_toArray, List.set_cons_zero, List.set_cons_succ]
        refine wpAnyH_take (i := 7) (v := .pointer (some ⟨g, (k - 1) * 33, none⟩)) rfl (by kernel_rfl) (by kernel_rfl) (by kernel_rfl) (fun _ _ _ h => h) (Or.inl ⟨by rfl, fun w' hSw => ex_ixE 22 (.tmp 20) (.tmp 22) rfl _ _ _ rfl rfl (ix_atM g 0 n cap (k - 1) ((k - 1) * 33) (by omega) (by omega) w')⟩) hS ?_
        change wpAnyH _ _ _ _ _ _ _ (Act.put _ (some 23) _) _
        try simp only [Act.put, List.setIfInBounds_toArray, List.set_cons_zero, List.set_cons_succ]
        refine wpAnyH_take (i := 8) (v := .agg (Mk.c y).toArray) rfl (by kernel_rfl) (by kernel_rfl) (by kernel_rfl) (fun _ _ _ h => h) (Or.inl ⟨by rfl, fun w' hSw => ex_ldE 26 (.tmp 23) rfl _ _ rfl (ld_hsM g _ y w' hSw.2)⟩) hS ?_
        change wpAnyH _ _ _ _ _ _ _ (Act.put _ (some 24) _) _
        try simp only [Act.put, List.setIfInBounds_toArray, List.set_cons_zero, List.set_cons_succ]
        refine wpAnyH_take (i := 9) (v := .bool true) rfl (by kernel_rfl) (by kernel_rfl) (by kernel_rfl) (fun _ _ _ h => h) (Or.inl ⟨by rfl, fun w' hSw => ex_binE .eql 26 26 (.tmp 19) (.tmp 24) rfl _ _ _ rfl rfl (hs_guardM _ _ _ _ _ w') (eql_tM HXY.out w')⟩) hS ?_
        change wpAnyH _ _ _ _ _ _ _ (Act.put _ (some 25) _) _
        try simp only [Act.put, List.setIfInBounds_toArray, List.set_cons_zero, List.set_cons_succ]
        refine wpAnyH_done (by kernel_rfl) ?_ _
        clear hS
        go_wp2_with fail
        generalize hm : n - k = m
        generalize hc2 : cap - k = c2
        have HD2 := Lib.hid (dn_sameM (d := d) (k := k) (by omega) (by rw [HX.out, HY.out, HXY.out]))
        go_loopw [3, 5] (fun v j wr => ∃ i : Nat, 1 ≤ i ∧ i ≤ m ∧ j = .int .i64 (i : Int) ∧ v = .int .i64 ((dnM d (k + i)).length : Int) ∧ (dnM d (k + i)).length < k + i ∧ Row wr g 26 (flatM (dnM d (k + i) ++ d.drop (dnM d (k + i)).length) ++ R) ∧ Only (fun k => k = g) w wr) (fun _ j _ => m - (intOf j).toNat)
        case atStart =>
          have hl : (dnM d (k + 1)).length = k := by rw [HD2.out, HDK.out, List.length_take, HDN.out]; omega
          refine ⟨1, by omega, by omega, rfl, by rw [hl], by omega, ?_, HON.out.drew⟩
          rw [hl, HD2.out, HDK.out, List.take_append_drop]
          exact HR.out.drewN 1
        case round =>
          obtain ⟨i, hi1, him, rfl, rfl, hlen, hr, hon⟩ := hrel
          generalize hL : (dnM d (k + i)).length = L at *
          have HLL := Lib.hid hL
          have HR2 := Lib.hid hr
          have HON2 := Lib.hid hon
          clear hr hon
          have hLn : L < n := by omega
          by_cases hlt2 : i < m
          · have hii : (i : Int) < (m : Int) := by omega
            have hii0 : (0 : Int) ≤ (i : Int) := by omega
            have hx2 : d[k + i]? = some (d[k + i]'(by have := HDN.out; omega)) := List.getElem?_eq_getElem _
            have hy2 : d[k + i - 1]? = some (d[k + i - 1]'(by have := HDN.out; omega)) := List.getElem?_eq_getElem _
            generalize (d[k + i]'(by have := HDN.out; omega)) = x2 at hx2
            generalize (d[k + i - 1]'(by have := HDN.out; omega)) = y2 at hy2
            have HX2 := Lib.hid hx2
            have HY2 := Lib.hid hy2
            have HEX := Lib.hid (show (dnM d (k + i) ++ d.drop L)[k + i]? = some x2 from by rw [← HLL.out, dnE_getM (by rw [HLL.out]; omega)]; exact hx2)
            have HEY := Lib.hid (show (dnM d (k + i) ++ d.drop L)[k + i - 1]? = some y2 from by rw [← HLL.out, dnE_getM (by rw [HLL.out]; omega)]; exact hy2)
            have hw : IntKind.i64.wrap ((i : Int) + 1) = ((i + 1 : Nat) : Int) := by rw [IntKind.wrap_i64]; omega
            have hwL : IntKind.i64.wrap ((L : Int) + 1) = ((L + 1 : Nat) : Int) := by rw [IntKind.wrap_i64]; omega
            clear hx2 hy2 hL
            by_cases hxy2 : x2 = y2
            · have HXY2 := Lib.hid hxy2
              clear hxy2
              go_wp2_with fail
              refine wp_region_held (S := (fun w' : World => w'.rangeAt g ((k + i) * 33) (Mk.c x2) ∧ w'.rangeAt g ((k + i - 1) * 33) (Mk.c y2))) (by kernel_rfl) ?_
              change wpAnyH _ _ _ _ _ _ _ _ (World.drew _)
              have hS : (fun w' : World => w'.rangeAt g ((k + i) * 33) (Mk.c x2) ∧ w'.rangeAt g ((k + i - 1) * 33) (Mk.c y2)) wr.drew := ⟨(HR2.out.drewN 1).rangeM HEX.out, (HR2.out.drewN 1).rangeM HEY.out⟩
              refine wpAnyH_take (i := 0) (v := ?_) rfl (by kernel_rfl) (by kernel_rfl) (by kernel_rfl) (fun _ _ _ h => h) (Or.inl ⟨by rfl, ?_⟩) hS ?_
              rotate_left
              · (intro w' hSw; go_simp; try (with_reducible rfl))
              change wpAnyH _ _ _ _ _ _ _ (Act.put _ (some 35) _) _
              try simp only [Act.put, List.setIfInBounds_toArray, List.set_cons_zero, List.set_cons_succ]
              refine wpAnyH_take (i := 1) (v := ?_) rfl (by kernel_rfl) (by kernel_rfl) (by kernel_rfl) (fun _ _ _ h => h) (Or.inl ⟨by rfl, ?_⟩) hS ?_
              rotate_left
              · (intro w' hSw; go_simp; try (with_reducible rfl))
              change wpAnyH _ _ _ _ _ _ _ (Act.put _ (some 36) _) _
              try simp only [Act.put, List.setIfInBounds_toArray, List.set_cons_zero, List.set_cons_succ]
              refine wpAnyH_take (i := 2) (v := .pointer (some ⟨g, (k + i) * 33, none⟩)) rfl (by kernel_rfl) (by kernel_rfl) (by kernel_rfl) (fun _ _ _ h => h) (Or.inl ⟨by rfl, fun w' hSw => ex_ixE 22 (.tmp 35) (.tmp 36) rfl _ _ _ rfl rfl (ix_atM g (k * 33) m c2 i ((k + i) * 33) (by omega) (by omega) w')⟩) hS ?_
              change wpAnyH _ _ _ _ _ _ _ (Act.put _ (some 37) _) _
              try simp only [Act.put, List.setIfInBounds_toArray, List.set_cons_zero, List.set_cons_succ]
              refine wpAnyH_take (i := 3) (v := .agg (Mk.c x2).toArray) rfl (by kernel_rfl) (by kernel_rfl) (by kernel_rfl) (fun _ _ _ h => h) (Or.inl ⟨by rfl, fun w' hSw => ex_ldE 26 (.tmp 37) rfl _ _ rfl (ld_hsM g _ x2 w' hSw.1)⟩) hS ?_
              change wpAnyH _ _ _ _ _ _ _ (Act.put _ (some 38) _) _
              try simp only [Act.put, List.setIfInBounds_toArray, List.set_cons_zero, List.set_cons_succ]
              refine wpAnyH_take (i := 4) (v := ?_) rfl (by kernel_rfl) (by kernel_rfl) (by kernel_rfl) (fun _ _ _ h => h) (Or.inl ⟨by rfl, ?_⟩) hS ?_
              rotate_left
              · (intro w' hSw; go_simp; try (with_reducible rfl))
              change wpAnyH _ _ _ _ _ _ _ (Act.put _ (some 39) _) _
              try simp only [Act.put, List.setIfInBounds_toArray, List.set_cons_zero, List.set_cons_succ]
              refine wpAnyH_take (i := 5) (v := ?_) rfl (by kernel_rfl) (by kernel_rfl) (by kernel_rfl) (fun _ _ _ h => h) (Or.inl ⟨by rfl, ?_⟩) hS ?_
              rotate_left
              · (intro w' hSw; go_simp; try (with_reducible rfl))
              change wpAnyH _ _ _ _ _ _ _ (Act.put _ (some 40) _) _
              try simp only [Act.put, List.setIfInBounds_toArray, List.set_cons_zero, List.set_cons_succ]
              refine wpAnyH_take (i := 6) (v := .int .i64 ((i - 1 : Nat) : Int)) rfl (by kernel_rfl) (by kernel_rfl) (by kernel_rfl) (fun _ _ _ h => h) (Or.inl ⟨by rfl, fun w' hSw => ex_binE .sub 3 3 (.tmp 40) (.const (.int .i64 1)) rfl _ _ _ rfl rfl (sub_guard _ _ _ _ w') (sub_one i (by omega) (by omega) w')⟩) hS ?_
              change wpAnyH _ _ _ _ _ _ _ (Act.put _ (some 41) _) _
              try simp only [Act.put, List.setIfInBounds_toArray, List.set_cons_zero, List.set_cons_succ]
              refine wpAnyH_take (i := 7) (v := .pointer (some ⟨g, (k + i - 1) * 33, none⟩)) rfl (by kernel_rfl) (by kernel_rfl) (by kernel_rfl) (fun _ _ _ h => h) (Or.inl ⟨by rfl, fun w' hSw => ex_ixE 22 (.tmp 39) (.tmp 41) rfl _ _ _ rfl rfl (ix_atM g (k * 33) m c2 (i - 1) ((k + i - 1) * 33) (by omega) (by omega) w')⟩) hS ?_
              change wpAnyH _ _ _ _ _ _ _ (Act.put _ (some 42) _) _
              try simp only [Act.put, List.setIfInBounds_toArray, List.set_cons_zero, List.set_cons_succ]
              refine wpAnyH_take (i := 8) (v := .agg (Mk.c y2).toArray) rfl (by kernel_rfl) (by kernel_rfl) (by kernel_rfl) (fun _ _ _ h => h) (Or.inl ⟨by rfl, fun w' hSw => ex_ldE 26 (.tmp 42) rfl _ _ rfl (ld_hsM g _ y2 w' hSw.2)⟩) hS ?_
              change wpAnyH _ _ _ _ _ _ _ (Act.put _ (some 43) _) _
              try simp only [Act.put, List.setIfInBounds_toArray, List.set_cons_zero, List.set_cons_succ]
              refine wpAnyH_take (i := 9) (v := .bool false) rfl (by kernel_rfl) (by kernel_rfl) (by kernel_rfl) (fun _ _ _ h => h) (Or.inl ⟨by rfl, fun w' hSw => ex_binE .neq 26 26 (.tmp 38) (.tmp 43) rfl _ _ _ rfl rfl (hs_guardM _ _ _ _ _ w') (neq_tM HXY2.out w')⟩) hS ?_
              change wpAnyH _ _ _ _ _ _ _ (Act.put _ (some 44) _) _
              try simp only [Act.put, List.setIfInBounds_toArray, List.set_cons_zero, List.set_cons_succ]
              refine wpAnyH_done (by kernel_rfl) ?_ _
              clear hS
              go_wp2_with fail
              go_roundw
              case rel =>
                have hd : dnM d (k + (i + 1)) = dnM d (k + i) := dn_sameM (k := k + i) (by omega) (by rw [HX2.out, HY2.out, HXY2.out])
                refine ⟨i + 1, by omega, by omega, by go_num, by rw [hd, HLL.out], by rw [hd, HLL.out]; omega, ?_, HON2.out.drew⟩
                rw [hd, HLL.out]
                exact HR2.out.drewN 1
              case measure => simp [intOf] <;> omega
            · have HXY2 := Lib.hid hxy2
              clear hxy2
              go_wp2_with fail
              refine wp_region_held (S := (fun w' : World => w'.rangeAt g ((k + i) * 33) (Mk.c x2) ∧ w'.rangeAt g ((k + i - 1) * 33) (Mk.c y2))) (by kernel_rfl) ?_
              change wpAnyH _ _ _ _ _ _ _ _ (World.drew _)
              have hS : (fun w' : World => w'.rangeAt g ((k + i) * 33) (Mk.c x2) ∧ w'.rangeAt g ((k + i - 1) * 33) (Mk.c y2)) wr.drew := ⟨(HR2.out.drewN 1).rangeM HEX.out, (HR2.out.drewN 1).rangeM HEY.out⟩
              refine wpAnyH_take (i := 0) (v := ?_) rfl (by kernel_rfl) (by kernel_rfl) (by kernel_rfl) (fun _ _ _ h => h) (Or.inl ⟨by rfl, ?_⟩) hS ?_
              rotate_left
              · (intro w' hSw; go_simp; try (with_reducible rfl))
              change wpAnyH _ _ _ _ _ _ _ (Act.put _ (some 35) _) _
              try simp only [Act.put, List.setIfInBounds_toArray, List.set_cons_zero, List.set_cons_succ]
              refine wpAnyH_take (i := 1) (v := ?_) rfl (by kernel_rfl) (by kernel_rfl) (by kernel_rfl) (fun _ _ _ h => h) (Or.inl ⟨by rfl, ?_⟩) hS ?_
              rotate_left
              · (intro w' hSw; go_simp; try (with_reducible rfl))
              change wpAnyH _ _ _ _ _ _ _ (Act.put _ (some 36) _) _
              try simp only [Act.put, List.setIfInBounds_toArray, List.set_cons_zero, List.set_cons_succ]
              refine wpAnyH_take (i := 2) (v := .pointer (some ⟨g, (k + i) * 33, none⟩)) rfl (by kernel_rfl) (by kernel_rfl) (by kernel_rfl) (fun _ _ _ h => h) (Or.inl ⟨by rfl, fun w' hSw => ex_ixE 22 (.tmp 35) (.tmp 36) rfl _ _ _ rfl rfl (ix_atM g (k * 33) m c2 i ((k + i) * 33) (by omega) (by omega) w')⟩) hS ?_
              change wpAnyH _ _ _ _ _ _ _ (Act.put _ (some 37) _) _
              try simp only [Act.put, List.setIfInBounds_toArray, List.set_cons_zero, List.set_cons_succ]
              refine wpAnyH_take (i := 3) (v := .agg (Mk.c x2).toArray) rfl (by kernel_rfl) (by kernel_rfl) (by kernel_rfl) (fun _ _ _ h => h) (Or.inl ⟨by rfl, fun w' hSw => ex_ldE 26 (.tmp 37) rfl _ _ rfl (ld_hsM g _ x2 w' hSw.1)⟩) hS ?_
              change wpAnyH _ _ _ _ _ _ _ (Act.put _ (some 38) _) _
              try simp only [Act.put, List.setIfInBounds_toArray, List.set_cons_zero, List.set_cons_succ]
              refine wpAnyH_take (i := 4) (v := ?_) rfl (by kernel_rfl) (by kernel_rfl) (by kernel_rfl) (fun _ _ _ h => h) (Or.inl ⟨by rfl, ?_⟩) hS ?_
              rotate_left
              · (intro w' hSw; go_simp; try (with_reducible rfl))
              change wpAnyH _ _ _ _ _ _ _ (Act.put _ (some 39) _) _
              try simp only [Act.put, List.setIfInBounds_toArray, List.set_cons_zero, List.set_cons_succ]
              refine wpAnyH_take (i := 5) (v := ?_) rfl (by kernel_rfl) (by kernel_rfl) (by kernel_rfl) (fun _ _ _ h => h) (Or.inl ⟨by rfl, ?_⟩) hS ?_
              rotate_left
              · (intro w' hSw; go_simp; try (with_reducible rfl))
              change wpAnyH _ _ _ _ _ _ _ (Act.put _ (some 40) _) _
              try simp only [Act.put, List.setIfInBounds_toArray, List.set_cons_zero, List.set_cons_succ]
              refine wpAnyH_take (i := 6) (v := .int .i64 ((i - 1 : Nat) : Int)) rfl (by kernel_rfl) (by kernel_rfl) (by kernel_rfl) (fun _ _ _ h => h) (Or.inl ⟨by rfl, fun w' hSw => ex_binE .sub 3 3 (.tmp 40) (.const (.int .i64 1)) rfl _ _ _ rfl rfl (sub_guard _ _ _ _ w') (sub_one i (by omega) (by omega) w')⟩) hS ?_
              change wpAnyH _ _ _ _ _ _ _ (Act.put _ (some 41) _) _
              try simp only [Act.put, List.setIfInBounds_toArray, List.set_cons_zero, List.set_cons_succ]
              refine wpAnyH_take (i := 7) (v := .pointer (some ⟨g, (k + i - 1) * 33, none⟩)) rfl (by kernel_rfl) (by kernel_rfl) (by kernel_rfl) (fun _ _ _ h => h) (Or.inl ⟨by rfl, fun w' hSw => ex_ixE 22 (.tmp 39) (.tmp 41) rfl _ _ _ rfl rfl (ix_atM g (k * 33) m c2 (i - 1) ((k + i - 1) * 33) (by omega) (by omega) w')⟩) hS ?_
              change wpAnyH _ _ _ _ _ _ _ (Act.put _ (some 42) _) _
              try simp only [Act.put, List.setIfInBounds_toArray, List.set_cons_zero, List.set_cons_succ]
              refine wpAnyH_take (i := 8) (v := .agg (Mk.c y2).toArray) rfl (by kernel_rfl) (by kernel_rfl) (by kernel_rfl) (fun _ _ _ h => h) (Or.inl ⟨by rfl, fun w' hSw => ex_ldE 26 (.tmp 42) rfl _ _ rfl (ld_hsM g _ y2 w' hSw.2)⟩) hS ?_
              change wpAnyH _ _ _ _ _ _ _ (Act.put _ (some 43) _) _
              try simp only [Act.put, List.setIfInBounds_toArray, List.set_cons_zero, List.set_cons_succ]
              refine wpAnyH_take (i := 9) (v := .bool true) rfl (by kernel_rfl) (by kernel_rfl) (by kernel_rfl) (fun _ _ _ h => h) (Or.inl ⟨by rfl, fun w' hSw => ex_binE .neq 26 26 (.tmp 38) (.tmp 43) rfl _ _ _ rfl rfl (hs_guardM _ _ _ _ _ w') (neq_fM HXY2.out w')⟩) hS ?_
              change wpAnyH _ _ _ _ _ _ _ (Act.put _ (some 44) _) _
              try simp only [Act.put, List.setIfInBounds_toArray, List.set_cons_zero, List.set_cons_succ]
              refine wpAnyH_done (by kernel_rfl) ?_ _
              clear hS
              have HRG := Lib.hid (show wr.drew.rangeAt g (k * 33 + i * 33) (Mk.c x2) from (show k * 33 + i * 33 = (k + i) * 33 by omega) ▸ (HR2.out.drewN 1).rangeM HEX.out)
              have HTH := Lib.hid (show wr.drew.there g (L * 33) (Mk.c x2).toArray.size from by
                refine (HR2.out.drewN 1).thereE ?_
                rw [List.size_toArray, x2.c_len, List.length_append, flat_lengthM, List.length_append, HLL.out, List.length_drop, HDN.out]
                omega)
              have hLi : (L : Int) < (n : Int) := by omega
              have hLi0 : (0 : Int) ≤ (L : Int) := by omega
              go_wp2_with (first | (refine wpList_load_mid rfl 26 (.tmp 49) rfl g (k * 33 + i * 33) rfl (Mk.c x2) _ HRG.out Try.underlying26 rfl (hs_infoEM x2) ?_) | (refine wpList_store_mid rfl 26 (.tmp 51) (.tmp 50) rfl g (L * 33) (Mk.c x2).toArray rfl rfl HTH.out (by rw [List.size_toArray]; exact hs_infoEM x2) (hs_allEM x2) ?_))
              go_roundw
              case rel =>
                have hd : dnM d (k + (i + 1)) = dnM d (k + i) ++ [x2] := dn_nextM (k := k + i) HX2.out (by rw [HX2.out, HY2.out]; intro h; exact HXY2.out (Option.some.inj h))
                have hdl : (dnM d (k + (i + 1))).length = L + 1 := by rw [hd, List.length_append, HLL.out]; rfl
                refine ⟨i + 1, by omega, by omega, by go_num, by rw [hdl]; go_num, by rw [hdl]; omega, ?_, ?_⟩
                · rw [hdl, hd]
                  have hrow2 := (HR2.out.drewN 1).setCellsE (Mk.c x2) (o := L * 33)
                  rw [flat_setM x2 R (by rw [List.length_append, HLL.out, List.length_drop, HDN.out]; omega)] at hrow2
                  have hds := dnE_setM (d := d) (t := k + i) (x := x2) (by rw [HLL.out, HDN.out]; exact hLn)
                  rw [HLL.out] at hds
                  rw [hds] at hrow2
                  exact hrow2
                · exact HON2.out.drew.trans (only_setCells _ _ _ _) fun _ _ e => e
              case measure => simp [intOf] <;> omega
          · obtain rfl : i = m := by omega
            have hkm : k + i = n := by omega
            rw [hkm] at HLL HR2
            have hLi : (L : Int) ≤ (n : Int) := by omega
            have hLi0 : (0 : Int) ≤ (L : Int) := by omega
            have hni : ¬ (i : Int) < (i : Int) := by omega
            have hthere : wr.there g (L * 33) ((n - L) * 33) := HR2.out.thereE (by rw [List.length_append, flat_lengthM, List.length_append, HLL.out, List.length_drop, HDN.out]; omega)
            obtain ⟨vs, hvl, hrun⟩ := run_clearz (P := Try.prog) wr 22 26 0 _ 33 Try.underlying22 zero_hsM (by simp [Value.cells]) (by intro v hv; simp [Value.cells] at hv; rcases hv with e | e <;> (rw [e]; rfl)) (by omega) g (L * 33) (n - L) (cap - L) (by omega) hthere
            have HRUN := Lib.hid hrun
            have HVL := Lib.hid hvl
            clear hrun hvl hthere hL
            go_wp2_with fail
            rw [HRUN.out]
            simp only [Result.andThen]
            rw [Oper.upon_value]
            go_wp2_with fail
            go_ret
            have hfa : flatM (dnM d n ++ d.drop L) ++ R = flatM (dnM d n) ++ (flatM (d.drop L) ++ R) := by
              unfold flatM
              rw [List.flatMap_append, List.append_assoc]
            have hrow := HR2.out.setCellsE vs (o := L * 33)
            rw [hfa, setsE_ahead _ _ _ _ (by rw [flat_lengthM, HLL.out]; exact Nat.le_refl _)] at hrow
            refine ⟨by rw [HLL.out]; rfl, ⟨_, hrow, ?_⟩, HON2.out.trans (only_setCells _ _ _ _) fun _ _ e => e⟩
            simp only [List.length_append, setsE_len, flat_lengthM, HLL.out, List.length_drop, HDN.out]
            omega
      · have HXY := Lib.hid hxy
        clear hxy
        go_wp2_with fail
        refine wp_region_held (S := (fun w' : World => w'.rangeAt g (k * 33) (Mk.c x) ∧ w'.rangeAt g ((k - 1) * 33) (Mk.c y))) (by kernel_rfl) ?_
        change wpAnyH _ _ _ _ _ _ _ _ (World.drew _)
        have hS : (fun w' : World => w'.rangeAt g (k * 33) (Mk.c x) ∧ w'.rangeAt g ((k - 1) * 33) (Mk.c y)) wr.drew := ⟨(HR.out.drewN 1).rangeM HX.out, (HR.out.drewN 1).rangeM HY.out⟩
        refine wpAnyH_take (i := 0) (v := ?_) rfl (by kernel_rfl) (by kernel_rfl) (by kernel_rfl) (fun _ _ _ h => h) (Or.inl ⟨by rfl, ?_⟩) hS ?_
        rotate_left
        · (intro w' hSw; go_simp; try (with_reducible rfl))
        change wpAnyH _ _ _ _ _ _ _ (Act.put _ (some 16) _) _
        try simp only [Act.put, List.setIfInBounds_toArray, List.set_cons_zero, List.set_cons_succ]
        refine wpAnyH_take (i := 1) (v := ?_) rfl (by kernel_rfl) (by kernel_rfl) (by kernel_rfl) (fun _ _ _ h => h) (Or.inl ⟨by rfl, ?_⟩) hS ?_
        rotate_left
        · (intro w' hSw; go_simp; try (with_reducible rfl))
        change wpAnyH _ _ _ _ _ _ _ (Act.put _ (some 17) _) _
        try simp only [Act.put, List.setIfInBounds_toArray, List.set_cons_zero, List.set_cons_succ]
        refine wpAnyH_take (i := 2) (v := .pointer (some ⟨g, k * 33, none⟩)) rfl (by kernel_rfl) (by kernel_rfl) (by kernel_rfl) (fun _ _ _ h => h) (Or.inl ⟨by rfl, fun w' hSw => ex_ixE 22 (.tmp 16) (.tmp 17) rfl _ _ _ rfl rfl (ix_atM g 0 n cap k (k * 33) (by omega) (by omega) w')⟩) hS ?_
        change wpAnyH _ _ _ _ _ _ _ (Act.put _ (some 18) _) _
        try simp only [Act.put, List.setIfInBounds_toArray, List.set_cons_zero, List.set_cons_succ]
        refine wpAnyH_take (i := 3) (v := .agg (Mk.c x).toArray) rfl (by kernel_rfl) (by kernel_rfl) (by kernel_rfl) (fun _ _ _ h => h) (Or.inl ⟨by rfl, fun w' hSw => ex_ldE 26 (.tmp 18) rfl _ _ rfl (ld_hsM g _ x w' hSw.1)⟩) hS ?_
        change wpAnyH _ _ _ _ _ _ _ (Act.put _ (some 19) _) _
        try simp only [Act.put, List.setIfInBounds_toArray, List.set_cons_zero, List.set_cons_succ]
        refine wpAnyH_take (i := 4) (v := ?_) rfl (by kernel_rfl) (by kernel_rfl) (by kernel_rfl) (fun _ _ _ h => h) (Or.inl ⟨by rfl, ?_⟩) hS ?_
        rotate_left
        · (intro w' hSw; go_simp; try (with_reducible rfl))
        change wpAnyH _ _ _ _ _ _ _ (Act.put _ (some 20) _) _
        try simp only [Act.put, List.setIfInBounds_toArray, List.set_cons_zero, List.set_cons_succ]
        refine wpAnyH_take (i := 5) (v := ?_) rfl (by kernel_rfl) (by kernel_rfl) (by kernel_rfl) (fun _ _ _ h => h) (Or.inl ⟨by rfl, ?_⟩) hS ?_
        rotate_left
        · (intro w' hSw; go_simp; try (with_reducible rfl))
        change wpAnyH _ _ _ _ _ _ _ (Act.put _ (some 21) _) _
        try simp only [Act.put, List.setIfInBounds_toArray, List.set_cons_zero, List.set_cons_succ]
        refine wpAnyH_take (i := 6) (v := .int .i64 ((k - 1 : Nat) : Int)) rfl (by kernel_rfl) (by kernel_rfl) (by kernel_rfl) (fun _ _ _ h => h) (Or.inl ⟨by rfl, fun w' hSw => ex_binE .sub 3 3 (.tmp 21) (.const (.int .i64 1)) rfl _ _ _ rfl rfl (sub_guard _ _ _ _ w') (sub_one k (by omega) (by omega) w')⟩) hS ?_
        change wpAnyH _ _ _ _ _ _ _ (Act.put _ (some 22) _) _
        try simp only [Act.put, List.setIfInBounds_toArray, List.set_cons_zero, List.set_cons_succ]
        refine wpAnyH_take (i := 7) (v := .pointer (some ⟨g, (k - 1) * 33, none⟩)) rfl (by kernel_rfl) (by kernel_rfl) (by kernel_rfl) (fun _ _ _ h => h) (Or.inl ⟨by rfl, fun w' hSw => ex_ixE 22 (.tmp 20) (.tmp 22) rfl _ _ _ rfl rfl (ix_atM g 0 n cap (k - 1) ((k - 1) * 33) (by omega) (by omega) w')⟩) hS ?_
        change wpAnyH _ _ _ _ _ _ _ (Act.put _ (some 23) _) _
        try simp only [Act.put, List.setIfInBounds_toArray, List.set_cons_zero, List.set_cons_succ]
        refine wpAnyH_take (i := 8) (v := .agg (Mk.c y).toArray) rfl (by kernel_rfl) (by kernel_rfl) (by kernel_rfl) (fun _ _ _ h => h) (Or.inl ⟨by rfl, fun w' hSw => ex_ldE 26 (.tmp 23) rfl _ _ rfl (ld_hsM g _ y w' hSw.2)⟩) hS ?_
        change wpAnyH _ _ _ _ _ _ _ (Act.put _ (some 24) _) _
        try simp only [Act.put, List.setIfInBounds_toArray, List.set_cons_zero, List.set_cons_succ]
        refine wpAnyH_take (i := 9) (v := .bool false) rfl (by kernel_rfl) (by kernel_rfl) (by kernel_rfl) (fun _ _ _ h => h) (Or.inl ⟨by rfl, fun w' hSw => ex_binE .eql 26 26 (.tmp 19) (.tmp 24) rfl _ _ _ rfl rfl (hs_guardM _ _ _ _ _ w') (eql_fM HXY.out w')⟩) hS ?_
        change wpAnyH _ _ _ _ _ _ _ (Act.put _ (some 25) _) _
        try simp only [Act.put, List.setIfInBounds_toArray, List.set_cons_zero, List.set_cons_succ]
        refine wpAnyH_done (by kernel_rfl) ?_ _
        clear hS
        have hw : IntKind.i64.wrap ((k : Int) + 1) = ((k + 1 : Nat) : Int) := by rw [IntKind.wrap_i64]; omega
        go_wp2_with fail
        go_roundw
        case rel =>
          refine ⟨k + 1, by omega, by omega, by go_num, ?_, HR.out.drewN 1, HON.out.drew⟩
          rw [dn_nextM HX.out (by rw [HX.out, HY.out]; intro h; exact HXY.out (Option.some.inj h)), HDK.out, List.take_add_one, HX.out]
          rfl
        case measure => simp [intOf] <;> omega
    · obtain rfl : k = n := by omega
      have hnn : ¬ (k : Int) < (k : Int) := by omega
      have hall : dnM d k = d := by rw [HDK.out, List.take_of_length_le (by have := HDN.out; omega)]
      have HALL := Lib.hid hall
      clear hall
      go_wp2_with fail
      go_ret
      rw [HALL.out]
      exact ⟨by rw [HDN.out]; rfl, ⟨R, HR.out, rfl⟩, HON.out⟩


end Go.Proofs.Ytocgeemjdlnabaa
