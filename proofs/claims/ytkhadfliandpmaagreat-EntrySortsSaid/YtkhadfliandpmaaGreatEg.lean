/- slices.Compact's walk. -/
import Derived.Test.YtkhadfliandpmaaGreatEf
namespace Go.Proofs.YtkhadfliandpmaaGreat
set_option maxRecDepth 100000
set_option linter.unusedSimpArgs false
set_option linter.unusedVariables false
open Go.RowKit

theorem ix_at (g o n cap k p : Nat) (h : k < n) (hp : p = o + k * 32) (w : World) : (Instr.indexAt 22 (.slice (some ⟨g, o, none⟩) n cap) (.int .i64 (k : Int))).run Tryz.prog w = .ok (.pointer (some ⟨g, p, none⟩)) w := hp ▸ ix_hs g o n cap k h w
theorem eql_t {x y : Hs} (h : x = y) (w : World) : (binOp .eql 26 (.agg x.c.toArray) (.agg y.c.toArray)).run Tryz.prog w = .ok (.bool true) w := by
  rw [hs_eql, decide_eq_true h]
theorem eql_f {x y : Hs} (h : ¬ x = y) (w : World) : (binOp .eql 26 (.agg x.c.toArray) (.agg y.c.toArray)).run Tryz.prog w = .ok (.bool false) w := by
  rw [hs_eql, decide_eq_false h]
theorem neq_t {x y : Hs} (h : x = y) (w : World) : (binOp .neq 26 (.agg x.c.toArray) (.agg y.c.toArray)).run Tryz.prog w = .ok (.bool false) w := by
  rw [hs_neq, decide_eq_true h]; rfl
theorem neq_f {x y : Hs} (h : ¬ x = y) (w : World) : (binOp .neq 26 (.agg x.c.toArray) (.agg y.c.toArray)).run Tryz.prog w = .ok (.bool true) w := by
  rw [hs_neq, decide_eq_false h]; rfl
theorem dn_same {d : List Hs} {k : Nat} (h0 : 0 < k) (h : d[k]? = d[k - 1]?) : dn d (k + 1) = dn d k := by rw [dn, if_pos ⟨h0, h⟩]
theorem dn_next {d : List Hs} {k : Nat} {x : Hs} (hx : d[k]? = some x) (h : ¬ d[k]? = d[k - 1]?) : dn d (k + 1) = dn d k ++ [x] := by rw [dn, if_neg (fun h' => h h'.2), hx]; rfl
theorem dn_one {d : List Hs} (h : 0 < d.length) : dn d 1 = d.take 1 := by
  rw [dn, if_neg (by omega), dn, List.getElem?_eq_getElem h]
  cases d with
  | nil => simp at h
  | cons a d => rfl
theorem dnE_get {d : List Hs} {t i : Nat} (h : (dn d t).length ≤ i) : (dn d t ++ d.drop (dn d t).length)[i]? = d[i]? := by
  rw [List.getElem?_append_right h, List.getElem?_drop]
  congr 1
  omega
theorem dnE_set {d : List Hs} {t : Nat} {x : Hs} (h : (dn d t).length < d.length) : (dn d t ++ d.drop (dn d t).length).set (dn d t).length x = (dn d t ++ [x]) ++ d.drop ((dn d t).length + 1) := by
  rw [List.set_append_right _ _ (Nat.le_refl _), Nat.sub_self, List.drop_eq_getElem_cons h, List.set_cons_zero]
  simp
theorem hs_infoE (x : Hs) : (Tryz.prog.info? 26).map (·.size) = some x.c.length := by rw [x.c_len]; kernel_rfl
theorem hs_allE (x : Hs) : x.c.toArray.all (·.oneCell') = true := all_oneCell_toArray x.c_one
theorem wpList_clearE {P : Program} {w w' : World} {ops : Array Oper} {rest : List Oper} {o : Oper} {a : Act} {Q : Exit → Act → World → Prop} (hgd : o.guard = none) (x : Operand) (T : TypeId)
    (ho : o.op = .call { callee := .builtin .clear, args := #[x], argTypes := #[T] }) (v : Value) (hx : a.eval x = v) (hr : (Builtin.clear_ #[T] o.type #[v]).run P w = .ok (.tuple #[]) w')
    (h : wpList P ops Q rest (a.put o.dst (.tuple #[])) w') : wpList P ops Q (o :: rest) a w := by
  refine wpList_plain hgd fun K hK => ?_
  unfold Oper.wp
  simp [execOp, ho, resolve, invoke, builtin, hx, hr, Result.andThen]
  exact hK _ _ h
theorem zero_hs (w : World) : (zeroValue 26).run Tryz.prog w = .ok (.agg (List.replicate 32 (Value.int .u8 0)).toArray) w := by kernel_rfl
set_option maxHeartbeats 3200000 in
theorem compact_any (d : List Hs) (R : List Value) (g n cap : Nat) (w : World) (hrow : Row w g 26 (flat d ++ R)) (hdn : d.length = n) (hn : n ≤ cap) (hcap : cap ≤ maxLen) (hpos : 0 < n) (hsm : n < 4611686018427387904) :
    Calls Tryz.prog 13 #[.slice (some ⟨g, 0, none⟩) n cap] w fun e w' => e = .returned (.slice (some ⟨g, 0, none⟩) (dn d n).length cap) ∧ (∃ R', Row w' g 26 (flat (dn d n) ++ R') ∧ (flat (dn d n) ++ R').length = (flat d ++ R).length) ∧ Only (fun k => k = g) w w' := by
  have hmx : cap ≤ 9223372036854775807 := by unfold maxLen at hcap; omega
  clear hcap
  have HROW := Lib.hid hrow
  clear hrow
  go_enter Tryz.func13, Tryz.ntmps13
  by_cases h2 : n < 2
  · obtain rfl : n = 1 := by omega
    have h1 : dn d 1 = d := by rw [dn_one (by omega), List.take_of_length_le (by omega)]
    rw [h1]
    have hd1 : d.length = 1 := hdn
    go_wp2_with fail
    go_ret
    refine ⟨by simp [hd1], ⟨R, HROW.out, rfl⟩, Only.refl _ _⟩
  have h2i : ¬ (n : Int) < 2 := by omega
  have HD1 := Lib.hid (dn_one (d := d) (by omega))
  have HDN := Lib.hid hdn
  clear hdn
  go_wp2_with fail
  go_loopw [3] (fun v wr => ∃ k : Nat, 1 ≤ k ∧ k ≤ n ∧ v = .int .i64 (k : Int) ∧ dn d k = d.take k ∧ Row wr g 26 (flat d ++ R) ∧ Only (fun k => k = g) w wr) (fun v _ => n - (intOf v).toNat)
  case atStart => exact ⟨1, by omega, by omega, rfl, HD1.out, HROW.out, Only.refl _ _⟩
  case round =>
    obtain ⟨k, hk1, hkn, rfl, hdk, hr, hon⟩ := hrel
    have HR := Lib.hid hr
    have HON := Lib.hid hon
    have HDK := Lib.hid hdk
    clear hr hon hdk
    by_cases hlt : k < n
    · have hki : (k : Int) < (n : Int) := by omega
      have hki0 : (0 : Int) ≤ (k : Int) := by omega
      have hx : d[k]? = some (d[k]'(by have := HDN.out; omega)) := List.getElem?_eq_getElem _
      have hy : d[k - 1]? = some (d[k - 1]'(by have := HDN.out; omega)) := List.getElem?_eq_getElem _
      generalize (d[k]'(by have := HDN.out; omega)) = x at hx
      generalize (d[k - 1]'(by have := HDN.out; omega)) = y at hy
      have HX := Lib.hid hx
      have HY := Lib.hid hy
      clear hx hy
      by_cases hxy : x = y
      · have HXY := Lib.hid hxy
        clear hxy
        go_wp2_with fail
        refine wp_region_held (S := (fun w' : World => w'.rangeAt g (k * 32) x.c ∧ w'.rangeAt g ((k - 1) * 32) y.c)) (by kernel_rfl) ?_
        change wpAnyH _ _ _ _ _ _ _ _ (World.drew _)
        have hS : (fun w' : World => w'.rangeAt g (k * 32) x.c ∧ w'.rangeAt g ((k - 1) * 32) y.c) wr.drew := ⟨(HR.out.drewN 1).rangeE HX.out, (HR.out.drewN 1).rangeE HY.out⟩
        refine wpAnyH_take (i := 0) (v := ?_) rfl (by kernel_rfl) (by kernel_rfl) (by kernel_rfl) (fun _ _ _ h => h) (Or.inl ⟨by rfl, ?_⟩) hS ?_
        rotate_left
        · (intro w' hSw; go_simp; try (with_reducible rfl))
        change wpAnyH _ _ _ _ _ _ _ (Act.put _ (some 16) _) _
        try simp only [Act.put, List.setIfInBounds_toArray, List.set_cons_zero, List.set_cons_succ]
        refine wpAnyH_take (i := 1) (v := ?_) rfl (by kernel_rfl) (by kernel_rfl) (by kernel_rfl) (fun _ _ _ h => h) (Or.inl ⟨by rfl, ?_⟩) hS ?_
        rotate_left
        · (intro w' hSw; go_simp; try (with_reducible rfl))
        change wpAnyH _ _ _ _ _ _ _ (Act.put _ (some 17) _) _
        try simp only [Act.put, List.setIfInBounds_toArray, List.set_cons_zero, List.set_cons_succ]
        refine wpAnyH_take (i := 2) (v := .pointer (some ⟨g, k * 32, none⟩)) rfl (by kernel_rfl) (by kernel_rfl) (by kernel_rfl) (fun _ _ _ h => h) (Or.inl ⟨by rfl, fun w' hSw => ex_ixE 22 (.tmp 16) (.tmp 17) rfl _ _ _ rfl rfl (ix_at g 0 n cap k (k * 32) (by omega) (by omega) w')⟩) hS ?_
        change wpAnyH _ _ _ _ _ _ _ (Act.put _ (some 18) _) _
        try simp only [Act.put, List.setIfInBounds_toArray, List.set_cons_zero, List.set_cons_succ]
        refine wpAnyH_take (i := 3) (v := .agg x.c.toArray) rfl (by kernel_rfl) (by kernel_rfl) (by kernel_rfl) (fun _ _ _ h => h) (Or.inl ⟨by rfl, fun w' hSw => ex_ldE 26 (.tmp 18) rfl _ _ rfl (ld_hs g _ x w' hSw.1)⟩) hS ?_
        change wpAnyH _ _ _ _ _ _ _ (Act.put _ (some 19) _) _
        try simp only [Act.put, List.setIfInBounds_toArray, List.set_cons_zero, List.set_cons_succ]
        refine wpAnyH_take (i := 4) (v := ?_) rfl (by kernel_rfl) (by kernel_rfl) (by kernel_rfl) (fun _ _ _ h => h) (Or.inl ⟨by rfl, ?_⟩) hS ?_
        rotate_left
        · (intro w' hSw; go_simp; try (with_reducible rfl))
        change wpAnyH _ _ _ _ _ _ _ (Act.put _ (some 20) _) _
        try simp only [Act.put, List.setIfInBounds_toArray, List.set_cons_zero, List.set_cons_succ]
        refine wpAnyH_take (i := 5) (v := ?_) rfl (by kernel_rfl) (by kernel_rfl) (by kernel_rfl) (fun _ _ _ h => h) (Or.inl ⟨by rfl, ?_⟩) hS ?_
        rotate_left
        · (intro w' hSw; go_simp; try (with_reducible rfl))
        change wpAnyH _ _ _ _ _ _ _ (Act.put _ (some 21) _) _
        try simp only [Act.put, List.setIfInBounds_toArray, List.set_cons_zero, List.set_cons_succ]
        refine wpAnyH_take (i := 6) (v := .int .i64 ((k - 1 : Nat) : Int)) rfl (by kernel_rfl) (by kernel_rfl) (by kernel_rfl) (fun _ _ _ h => h) (Or.inl ⟨by rfl, fun w' hSw => ex_binE .sub 3 3 (.tmp 21) (.const (.int .i64 1)) rfl _ _ _ rfl rfl (sub_guard _ _ _ _ w') (sub_one k (by omega) (by omega) w')⟩) hS ?_
        change wpAnyH _ _ _ _ _ _ _ (Act.put _ (some 22) _) _
        try simp only [Act.put, List.setIfInBounds_toArray, List.set_cons_zero, List.set_cons_succ]
        refine wpAnyH_take (i := 7) (v := .pointer (some ⟨g, (k - 1) * 32, none⟩)) rfl (by kernel_rfl) (by kernel_rfl) (by kernel_rfl) (fun _ _ _ h => h) (Or.inl ⟨by rfl, fun w' hSw => ex_ixE 22 (.tmp 20) (.tmp 22) rfl _ _ _ rfl rfl (ix_at g 0 n cap (k - 1) ((k - 1) * 32) (by omega) (by omega) w')⟩) hS ?_
        change wpAnyH _ _ _ _ _ _ _ (Act.put _ (some 23) _) _
        try simp only [Act.put, List.setIfInBounds_toArray, List.set_cons_zero, List.set_cons_succ]
        refine wpAnyH_take (i := 8) (v := .agg y.c.toArray) rfl (by kernel_rfl) (by kernel_rfl) (by kernel_rfl) (fun _ _ _ h => h) (Or.inl ⟨by rfl, fun w' hSw => ex_ldE 26 (.tmp 23) rfl _ _ rfl (ld_hs g _ y w' hSw.2)⟩) hS ?_
        change wpAnyH _ _ _ _ _ _ _ (Act.put _ (some 24) _) _
        try simp only [Act.put, List.setIfInBounds_toArray, List.set_cons_zero, List.set_cons_succ]
        refine wpAnyH_take (i := 9) (v := .bool true) rfl (by kernel_rfl) (by kernel_rfl) (by kernel_rfl) (fun _ _ _ h => h) (Or.inl ⟨by rfl, fun w' hSw => ex_binE .eql 26 26 (.tmp 19) (.tmp 24) rfl _ _ _ rfl rfl (hs_guard _ _ _ _ _ w') (eql_t HXY.out w')⟩) hS ?_
        change wpAnyH _ _ _ _ _ _ _ (Act.put _ (some 25) _) _
        try simp only [Act.put, List.setIfInBounds_toArray, List.set_cons_zero, List.set_cons_succ]
        refine wpAnyH_done (by kernel_rfl) ?_ _
        clear hS
        go_wp2_with fail
        generalize hm : n - k = m
        generalize hc2 : cap - k = c2
        have HD2 := Lib.hid (dn_same (d := d) (k := k) (by omega) (by rw [HX.out, HY.out, HXY.out]))
        go_loopw [3, 5] (fun v j wr => ∃ i : Nat, 1 ≤ i ∧ i ≤ m ∧ j = .int .i64 (i : Int) ∧ v = .int .i64 ((dn d (k + i)).length : Int) ∧ (dn d (k + i)).length < k + i ∧ Row wr g 26 (flat (dn d (k + i) ++ d.drop (dn d (k + i)).length) ++ R) ∧ Only (fun k => k = g) w wr) (fun _ j _ => m - (intOf j).toNat)
        case atStart =>
          have hl : (dn d (k + 1)).length = k := by rw [HD2.out, HDK.out, List.length_take, HDN.out]; omega
          refine ⟨1, by omega, by omega, rfl, by rw [hl], by omega, ?_, HON.out.drew⟩
          rw [hl, HD2.out, HDK.out, List.take_append_drop]
          exact HR.out.drewN 1
        case round =>
          obtain ⟨i, hi1, him, rfl, rfl, hlen, hr, hon⟩ := hrel
          generalize hL : (dn d (k + i)).length = L at *
          have HLL := Lib.hid hL
          have HR2 := Lib.hid hr
          have HON2 := Lib.hid hon
          clear hr hon
          have hLn : L < n := by omega
          by_cases hlt2 : i < m
          · have hii : (i : Int) < (m : Int) := by omega
            have hii0 : (0 : Int) ≤ (i : Int) := by omega
            have hx2 : d[k + i]? = some (d[k + i]'(by have := HDN.out; omega)) := List.getElem?_eq_getElem _
            have hy2 : d[k + i - 1]? = some (d[k + i - 1]'(by have := HDN.out; omega)) := List.getElem?_eq_getElem _
            generalize (d[k + i]'(by have := HDN.out; omega)) = x2 at hx2
            generalize (d[k + i - 1]'(by have := HDN.out; omega)) = y2 at hy2
            have HX2 := Lib.hid hx2
            have HY2 := Lib.hid hy2
            have HEX := Lib.hid (show (dn d (k + i) ++ d.drop L)[k + i]? = some x2 from by rw [← HLL.out, dnE_get (by rw [HLL.out]; omega)]; exact hx2)
            have HEY := Lib.hid (show (dn d (k + i) ++ d.drop L)[k + i - 1]? = some y2 from by rw [← HLL.out, dnE_get (by rw [HLL.out]; omega)]; exact hy2)
            have hw : IntKind.i64.wrap ((i : Int) + 1) = ((i + 1 : Nat) : Int) := by rw [IntKind.wrap_i64]; omega
            have hwL : IntKind.i64.wrap ((L : Int) + 1) = ((L + 1 : Nat) : Int) := by rw [IntKind.wrap_i64]; omega
            clear hx2 hy2 hL
            by_cases hxy2 : x2 = y2
            · have HXY2 := Lib.hid hxy2
              clear hxy2
              go_wp2_with fail
              refine wp_region_held (S := (fun w' : World => w'.rangeAt g ((k + i) * 32) x2.c ∧ w'.rangeAt g ((k + i - 1) * 32) y2.c)) (by kernel_rfl) ?_
              change wpAnyH _ _ _ _ _ _ _ _ (World.drew _)
              have hS : (fun w' : World => w'.rangeAt g ((k + i) * 32) x2.c ∧ w'.rangeAt g ((k + i - 1) * 32) y2.c) wr.drew := ⟨(HR2.out.drewN 1).rangeE HEX.out, (HR2.out.drewN 1).rangeE HEY.out⟩
              refine wpAnyH_take (i := 0) (v := ?_) rfl (by kernel_rfl) (by kernel_rfl) (by kernel_rfl) (fun _ _ _ h => h) (Or.inl ⟨by rfl, ?_⟩) hS ?_
              rotate_left
              · (intro w' hSw; go_simp; try (with_reducible rfl))
              change wpAnyH _ _ _ _ _ _ _ (Act.put _ (some 35) _) _
              try simp only [Act.put, List.setIfInBounds_toArray, List.set_cons_zero, List.set_cons_succ]
              refine wpAnyH_take (i := 1) (v := ?_) rfl (by kernel_rfl) (by kernel_rfl) (by kernel_rfl) (fun _ _ _ h => h) (Or.inl ⟨by rfl, ?_⟩) hS ?_
              rotate_left
              · (intro w' hSw; go_simp; try (with_reducible rfl))
              change wpAnyH _ _ _ _ _ _ _ (Act.put _ (some 36) _) _
              try simp only [Act.put, List.setIfInBounds_toArray, List.set_cons_zero, List.set_cons_succ]
              refine wpAnyH_take (i := 2) (v := .pointer (some ⟨g, (k + i) * 32, none⟩)) rfl (by kernel_rfl) (by kernel_rfl) (by kernel_rfl) (fun _ _ _ h => h) (Or.inl ⟨by rfl, fun w' hSw => ex_ixE 22 (.tmp 35) (.tmp 36) rfl _ _ _ rfl rfl (ix_at g (k * 32) m c2 i ((k + i) * 32) (by omega) (by omega) w')⟩) hS ?_
              change wpAnyH _ _ _ _ _ _ _ (Act.put _ (some 37) _) _
              try simp only [Act.put, List.setIfInBounds_toArray, List.set_cons_zero, List.set_cons_succ]
              refine wpAnyH_take (i := 3) (v := .agg x2.c.toArray) rfl (by kernel_rfl) (by kernel_rfl) (by kernel_rfl) (fun _ _ _ h => h) (Or.inl ⟨by rfl, fun w' hSw => ex_ldE 26 (.tmp 37) rfl _ _ rfl (ld_hs g _ x2 w' hSw.1)⟩) hS ?_
              change wpAnyH _ _ _ _ _ _ _ (Act.put _ (some 38) _) _
              try simp only [Act.put, List.setIfInBounds_toArray, List.set_cons_zero, List.set_cons_succ]
              refine wpAnyH_take (i := 4) (v := ?_) rfl (by kernel_rfl) (by kernel_rfl) (by kernel_rfl) (fun _ _ _ h => h) (Or.inl ⟨by rfl, ?_⟩) hS ?_
              rotate_left
              · (intro w' hSw; go_simp; try (with_reducible rfl))
              change wpAnyH _ _ _ _ _ _ _ (Act.put _ (some 39) _) _
              try simp only [Act.put, List.setIfInBounds_toArray, List.set_cons_zero, List.set_cons_succ]
              refine wpAnyH_take (i := 5) (v := ?_) rfl (by kernel_rfl) (by kernel_rfl) (by kernel_rfl) (fun _ _ _ h => h) (Or.inl ⟨by rfl, ?_⟩) hS ?_
              rotate_left
              · (intro w' hSw; go_simp; try (with_reducible rfl))
              change wpAnyH _ _ _ _ _ _ _ (Act.put _ (some 40) _) _
              try simp only [Act.put, List.setIfInBounds_toArray, List.set_cons_zero, List.set_cons_succ]
              refine wpAnyH_take (i := 6) (v := .int .i64 ((i - 1 : Nat) : Int)) rfl (by kernel_rfl) (by kernel_rfl) (by kernel_rfl) (fun _ _ _ h => h) (Or.inl ⟨by rfl, fun w' hSw => ex_binE .sub 3 3 (.tmp 40) (.const (.int .i64 1)) rfl _ _ _ rfl rfl (sub_guard _ _ _ _ w') (sub_one i (by omega) (by omega) w')⟩) hS ?_
              change wpAnyH _ _ _ _ _ _ _ (Act.put _ (some 41) _) _
              try simp only [Act.put, List.setIfInBounds_toArray, List.set_cons_zero, List.set_cons_succ]
              refine wpAnyH_take (i := 7) (v := .pointer (some ⟨g, (k + i - 1) * 32, none⟩)) rfl (by kernel_rfl) (by kernel_rfl) (by kernel_rfl) (fun _ _ _ h => h) (Or.inl ⟨by rfl, fun w' hSw => ex_ixE 22 (.tmp 39) (.tmp 41) rfl _ _ _ rfl rfl (ix_at g (k * 32) m c2 (i - 1) ((k + i - 1) * 32) (by omega) (by omega) w')⟩) hS ?_
              change wpAnyH _ _ _ _ _ _ _ (Act.put _ (some 42) _) _
              try simp only [Act.put, List.setIfInBounds_toArray, List.set_cons_zero, List.set_cons_succ]
              refine wpAnyH_take (i := 8) (v := .agg y2.c.toArray) rfl (by kernel_rfl) (by kernel_rfl) (by kernel_rfl) (fun _ _ _ h => h) (Or.inl ⟨by rfl, fun w' hSw => ex_ldE 26 (.tmp 42) rfl _ _ rfl (ld_hs g _ y2 w' hSw.2)⟩) hS ?_
              change wpAnyH _ _ _ _ _ _ _ (Act.put _ (some 43) _) _
              try simp only [Act.put, List.setIfInBounds_toArray, List.set_cons_zero, List.set_cons_succ]
              refine wpAnyH_take (i := 9) (v := .bool false) rfl (by kernel_rfl) (by kernel_rfl) (by kernel_rfl) (fun _ _ _ h => h) (Or.inl ⟨by rfl, fun w' hSw => ex_binE .neq 26 26 (.tmp 38) (.tmp 43) rfl _ _ _ rfl rfl (hs_guard _ _ _ _ _ w') (neq_t HXY2.out w')⟩) hS ?_
              change wpAnyH _ _ _ _ _ _ _ (Act.put _ (some 44) _) _
              try simp only [Act.put, List.setIfInBounds_toArray, List.set_cons_zero, List.set_cons_succ]
              refine wpAnyH_done (by kernel_rfl) ?_ _
              clear hS
              go_wp2_with fail
              go_roundw
              case rel =>
                have hd : dn d (k + (i + 1)) = dn d (k + i) := dn_same (k := k + i) (by omega) (by rw [HX2.out, HY2.out, HXY2.out])
                refine ⟨i + 1, by omega, by omega, by go_num, by rw [hd, HLL.out], by rw [hd, HLL.out]; omega, ?_, HON2.out.drew⟩
                rw [hd, HLL.out]
                exact HR2.out.drewN 1
              case measure => simp [intOf] <;> omega
            · have HXY2 := Lib.hid hxy2
              clear hxy2
              go_wp2_with fail
              refine wp_region_held (S := (fun w' : World => w'.rangeAt g ((k + i) * 32) x2.c ∧ w'.rangeAt g ((k + i - 1) * 32) y2.c)) (by kernel_rfl) ?_
              change wpAnyH _ _ _ _ _ _ _ _ (World.drew _)
              have hS : (fun w' : World => w'.rangeAt g ((k + i) * 32) x2.c ∧ w'.rangeAt g ((k + i - 1) * 32) y2.c) wr.drew := ⟨(HR2.out.drewN 1).rangeE HEX.out, (HR2.out.drewN 1).rangeE HEY.out⟩
              refine wpAnyH_take (i := 0) (v := ?_) rfl (by kernel_rfl) (by kernel_rfl) (by kernel_rfl) (fun _ _ _ h => h) (Or.inl ⟨by rfl, ?_⟩) hS ?_
              rotate_left
              · (intro w' hSw; go_simp; try (with_reducible rfl))
              change wpAnyH _ _ _ _ _ _ _ (Act.put _ (some 35) _) _
              try simp only [Act.put, List.setIfInBounds_toArray, List.set_cons_zero, List.set_cons_succ]
              refine wpAnyH_take (i := 1) (v := ?_) rfl (by kernel_rfl) (by kernel_rfl) (by kernel_rfl) (fun _ _ _ h => h) (Or.inl ⟨by rfl, ?_⟩) hS ?_
              rotate_left
              · (intro w' hSw; go_simp; try (with_reducible rfl))
              change wpAnyH _ _ _ _ _ _ _ (Act.put _ (some 36) _) _
              try simp only [Act.put, List.setIfInBounds_toArray, List.set_cons_zero, List.set_cons_succ]
              refine wpAnyH_take (i := 2) (v := .pointer (some ⟨g, (k + i) * 32, none⟩)) rfl (by kernel_rfl) (by kernel_rfl) (by kernel_rfl) (fun _ _ _ h => h) (Or.inl ⟨by rfl, fun w' hSw => ex_ixE 22 (.tmp 35) (.tmp 36) rfl _ _ _ rfl rfl (ix_at g (k * 32) m c2 i ((k + i) * 32) (by omega) (by omega) w')⟩) hS ?_
              change wpAnyH _ _ _ _ _ _ _ (Act.put _ (some 37) _) _
              try simp only [Act.put, List.setIfInBounds_toArray, List.set_cons_zero, List.set_cons_succ]
              refine wpAnyH_take (i := 3) (v := .agg x2.c.toArray) rfl (by kernel_rfl) (by kernel_rfl) (by kernel_rfl) (fun _ _ _ h => h) (Or.inl ⟨by rfl, fun w' hSw => ex_ldE 26 (.tmp 37) rfl _ _ rfl (ld_hs g _ x2 w' hSw.1)⟩) hS ?_
              change wpAnyH _ _ _ _ _ _ _ (Act.put _ (some 38) _) _
              try simp only [Act.put, List.setIfInBounds_toArray, List.set_cons_zero, List.set_cons_succ]
              refine wpAnyH_take (i := 4) (v := ?_) rfl (by kernel_rfl) (by kernel_rfl) (by kernel_rfl) (fun _ _ _ h => h) (Or.inl ⟨by rfl, ?_⟩) hS ?_
              rotate_left
              · (intro w' hSw; go_simp; try (with_reducible rfl))
              change wpAnyH _ _ _ _ _ _ _ (Act.put _ (some 39) _) _
              try simp only [Act.put, List.setIfInBounds_toArray, List.set_cons_zero, List.set_cons_succ]
              refine wpAnyH_take (i := 5) (v := ?_) rfl (by kernel_rfl) (by kernel_rfl) (by kernel_rfl) (fun _ _ _ h => h) (Or.inl ⟨by rfl, ?_⟩) hS ?_
              rotate_left
              · (intro w' hSw; go_simp; try (with_reducible rfl))
              change wpAnyH _ _ _ _ _ _ _ (Act.put _ (some 40) _) _
              try simp only [Act.put, List.setIfInBounds_toArray, List.set_cons_zero, List.set_cons_succ]
              refine wpAnyH_take (i := 6) (v := .int .i64 ((i - 1 : Nat) : Int)) rfl (by kernel_rfl) (by kernel_rfl) (by kernel_rfl) (fun _ _ _ h => h) (Or.inl ⟨by rfl, fun w' hSw => ex_binE .sub 3 3 (.tmp 40) (.const (.int .i64 1)) rfl _ _ _ rfl rfl (sub_guard _ _ _ _ w') (sub_one i (by omega) (by omega) w')⟩) hS ?_
              change wpAnyH _ _ _ _ _ _ _ (Act.put _ (some 41) _) _
              try simp only [Act.put, List.setIfInBounds_toArray, List.set_cons_zero, List.set_cons_succ]
              refine wpAnyH_take (i := 7) (v := .pointer (some ⟨g, (k + i - 1) * 32, none⟩)) rfl (by kernel_rfl) (by kernel_rfl) (by kernel_rfl) (fun _ _ _ h => h) (Or.inl ⟨by rfl, fun w' hSw => ex_ixE 22 (.tmp 39) (.tmp 41) rfl _ _ _ rfl rfl (ix_at g (k * 32) m c2 (i - 1) ((k + i - 1) * 32) (by omega) (by omega) w')⟩) hS ?_
              change wpAnyH _ _ _ _ _ _ _ (Act.put _ (some 42) _) _
              try simp only [Act.put, List.setIfInBounds_toArray, List.set_cons_zero, List.set_cons_succ]
              refine wpAnyH_take (i := 8) (v := .agg y2.c.toArray) rfl (by kernel_rfl) (by kernel_rfl) (by kernel_rfl) (fun _ _ _ h => h) (Or.inl ⟨by rfl, fun w' hSw => ex_ldE 26 (.tmp 42) rfl _ _ rfl (ld_hs g _ y2 w' hSw.2)⟩) hS ?_
              change wpAnyH _ _ _ _ _ _ _ (Act.put _ (some 43) _) _
              try simp only [Act.put, List.setIfInBounds_toArray, List.set_cons_zero, List.set_cons_succ]
              refine wpAnyH_take (i := 9) (v := .bool true) rfl (by kernel_rfl) (by kernel_rfl) (by kernel_rfl) (fun _ _ _ h => h) (Or.inl ⟨by rfl, fun w' hSw => ex_binE .neq 26 26 (.tmp 38) (.tmp 43) rfl _ _ _ rfl rfl (hs_guard _ _ _ _ _ w') (neq_f HXY2.out w')⟩) hS ?_
              change wpAnyH _ _ _ _ _ _ _ (Act.put _ (some 44) _) _
              try simp only [Act.put, List.setIfInBounds_toArray, List.set_cons_zero, List.set_cons_succ]
              refine wpAnyH_done (by kernel_rfl) ?_ _
              clear hS
              have HRG := Lib.hid (show wr.drew.rangeAt g (k * 32 + i * 32) x2.c from (show k * 32 + i * 32 = (k + i) * 32 by omega) ▸ (HR2.out.drewN 1).rangeE HEX.out)
              have HTH := Lib.hid (show wr.drew.there g (L * 32) x2.c.toArray.size from by
                refine (HR2.out.drewN 1).thereE ?_
                rw [List.size_toArray, x2.c_len, List.length_append, flat_length, List.length_append, HLL.out, List.length_drop, HDN.out]
                omega)
              have hLi : (L : Int) < (n : Int) := by omega
              have hLi0 : (0 : Int) ≤ (L : Int) := by omega
              go_wp2_with (first | (refine wpList_load_mid rfl 26 (.tmp 49) rfl g (k * 32 + i * 32) rfl x2.c _ HRG.out Tryz.underlying26 rfl (hs_infoE x2) ?_) | (refine wpList_store_mid rfl 26 (.tmp 51) (.tmp 50) rfl g (L * 32) x2.c.toArray rfl rfl HTH.out (by rw [List.size_toArray]; exact hs_infoE x2) (hs_allE x2) ?_))
              go_roundw
              case rel =>
                have hd : dn d (k + (i + 1)) = dn d (k + i) ++ [x2] := dn_next (k := k + i) HX2.out (by rw [HX2.out, HY2.out]; intro h; exact HXY2.out (Option.some.inj h))
                have hdl : (dn d (k + (i + 1))).length = L + 1 := by rw [hd, List.length_append, HLL.out]; rfl
                refine ⟨i + 1, by omega, by omega, by go_num, by rw [hdl]; go_num, by rw [hdl]; omega, ?_, ?_⟩
                · rw [hdl, hd]
                  have hrow2 := (HR2.out.drewN 1).setCellsE x2.c (o := L * 32)
                  rw [flat_set x2 R (by rw [List.length_append, HLL.out, List.length_drop, HDN.out]; omega)] at hrow2
                  have hds := dnE_set (d := d) (t := k + i) (x := x2) (by rw [HLL.out, HDN.out]; exact hLn)
                  rw [HLL.out] at hds
                  rw [hds] at hrow2
                  exact hrow2
                · exact HON2.out.drew.trans (only_setCells _ _ _ _) fun _ _ e => e
              case measure => simp [intOf] <;> omega
          · obtain rfl : i = m := by omega
            have hkm : k + i = n := by omega
            rw [hkm] at HLL HR2
            have hLi : (L : Int) ≤ (n : Int) := by omega
            have hLi0 : (0 : Int) ≤ (L : Int) := by omega
            have hni : ¬ (i : Int) < (i : Int) := by omega
            have hthere : wr.there g (L * 32) ((n - L) * 32) := HR2.out.thereE (by rw [List.length_append, flat_length, List.length_append, HLL.out, List.length_drop, HDN.out]; omega)
            obtain ⟨vs, hvl, hrun⟩ := run_clearz (P := Tryz.prog) wr 22 26 0 _ 32 Tryz.underlying22 zero_hs (by simp [Value.cells]) (by intro v hv; simp [Value.cells] at hv; rw [hv]; rfl) (by omega) g (L * 32) (n - L) (cap - L) (by omega) hthere
            have HRUN := Lib.hid hrun
            have HVL := Lib.hid hvl
            clear hrun hvl hthere hL
            go_wp2_with ((with_reducible show wpList _ _ _ _ _ _); (refine wpList_clearE rfl (.tmp 56) 22 rfl _ rfl HRUN.out ?_))
            go_ret
            have hfa : flat (dn d n ++ d.drop L) ++ R = flat (dn d n) ++ (flat (d.drop L) ++ R) := by
              unfold flat
              rw [List.flatMap_append, List.append_assoc]
            have hrow := HR2.out.setCellsE vs (o := L * 32)
            rw [hfa, setsE_ahead _ _ _ _ (by rw [flat_length, HLL.out]; exact Nat.le_refl _)] at hrow
            refine ⟨by rw [HLL.out]; rfl, ⟨_, hrow, ?_⟩, HON2.out.trans (only_setCells _ _ _ _) fun _ _ e => e⟩
            simp only [List.length_append, setsE_len, flat_length, HLL.out, List.length_drop, HDN.out]
            omega
      · have HXY := Lib.hid hxy
        clear hxy
        go_wp2_with fail
        refine wp_region_held (S := (fun w' : World => w'.rangeAt g (k * 32) x.c ∧ w'.rangeAt g ((k - 1) * 32) y.c)) (by kernel_rfl) ?_
        change wpAnyH _ _ _ _ _ _ _ _ (World.drew _)
        have hS : (fun w' : World => w'.rangeAt g (k * 32) x.c ∧ w'.rangeAt g ((k - 1) * 32) y.c) wr.drew := ⟨(HR.out.drewN 1).rangeE HX.out, (HR.out.drewN 1).rangeE HY.out⟩
        refine wpAnyH_take (i := 0) (v := ?_) rfl (by kernel_rfl) (by kernel_rfl) (by kernel_rfl) (fun _ _ _ h => h) (Or.inl ⟨by rfl, ?_⟩) hS ?_
        rotate_left
        · (intro w' hSw; go_simp; try (with_reducible rfl))
        change wpAnyH _ _ _ _ _ _ _ (Act.put _ (some 16) _) _
        try simp only [Act.put, List.setIfInBounds_toArray, List.set_cons_zero, List.set_cons_succ]
        refine wpAnyH_take (i := 1) (v := ?_) rfl (by kernel_rfl) (by kernel_rfl) (by kernel_rfl) (fun _ _ _ h => h) (Or.inl ⟨by rfl, ?_⟩) hS ?_
        rotate_left
        · (intro w' hSw; go_simp; try (with_reducible rfl))
        change wpAnyH _ _ _ _ _ _ _ (Act.put _ (some 17) _) _
        try simp only [Act.put, List.setIfInBounds_toArray, List.set_cons_zero, List.set_cons_succ]
        refine wpAnyH_take (i := 2) (v := .pointer (some ⟨g, k * 32, none⟩)) rfl (by kernel_rfl) (by kernel_rfl) (by kernel_rfl) (fun _ _ _ h => h) (Or.inl ⟨by rfl, fun w' hSw => ex_ixE 22 (.tmp 16) (.tmp 17) rfl _ _ _ rfl rfl (ix_at g 0 n cap k (k * 32) (by omega) (by omega) w')⟩) hS ?_
        change wpAnyH _ _ _ _ _ _ _ (Act.put _ (some 18) _) _
        try simp only [Act.put, List.setIfInBounds_toArray, List.set_cons_zero, List.set_cons_succ]
        refine wpAnyH_take (i := 3) (v := .agg x.c.toArray) rfl (by kernel_rfl) (by kernel_rfl) (by kernel_rfl) (fun _ _ _ h => h) (Or.inl ⟨by rfl, fun w' hSw => ex_ldE 26 (.tmp 18) rfl _ _ rfl (ld_hs g _ x w' hSw.1)⟩) hS ?_
        change wpAnyH _ _ _ _ _ _ _ (Act.put _ (some 19) _) _
        try simp only [Act.put, List.setIfInBounds_toArray, List.set_cons_zero, List.set_cons_succ]
        refine wpAnyH_take (i := 4) (v := ?_) rfl (by kernel_rfl) (by kernel_rfl) (by kernel_rfl) (fun _ _ _ h => h) (Or.inl ⟨by rfl, ?_⟩) hS ?_
        rotate_left
        · (intro w' hSw; go_simp; try (with_reducible rfl))
        change wpAnyH _ _ _ _ _ _ _ (Act.put _ (some 20) _) _
        try simp only [Act.put, List.setIfInBounds_toArray, List.set_cons_zero, List.set_cons_succ]
        refine wpAnyH_take (i := 5) (v := ?_) rfl (by kernel_rfl) (by kernel_rfl) (by kernel_rfl) (fun _ _ _ h => h) (Or.inl ⟨by rfl, ?_⟩) hS ?_
        rotate_left
        · (intro w' hSw; go_simp; try (with_reducible rfl))
        change wpAnyH _ _ _ _ _ _ _ (Act.put _ (some 21) _) _
        try simp only [Act.put, List.setIfInBounds_toArray, List.set_cons_zero, List.set_cons_succ]
        refine wpAnyH_take (i := 6) (v := .int .i64 ((k - 1 : Nat) : Int)) rfl (by kernel_rfl) (by kernel_rfl) (by kernel_rfl) (fun _ _ _ h => h) (Or.inl ⟨by rfl, fun w' hSw => ex_binE .sub 3 3 (.tmp 21) (.const (.int .i64 1)) rfl _ _ _ rfl rfl (sub_guard _ _ _ _ w') (sub_one k (by omega) (by omega) w')⟩) hS ?_
        change wpAnyH _ _ _ _ _ _ _ (Act.put _ (some 22) _) _
        try simp only [Act.put, List.setIfInBounds_toArray, List.set_cons_zero, List.set_cons_succ]
        refine wpAnyH_take (i := 7) (v := .pointer (some ⟨g, (k - 1) * 32, none⟩)) rfl (by kernel_rfl) (by kernel_rfl) (by kernel_rfl) (fun _ _ _ h => h) (Or.inl ⟨by rfl, fun w' hSw => ex_ixE 22 (.tmp 20) (.tmp 22) rfl _ _ _ rfl rfl (ix_at g 0 n cap (k - 1) ((k - 1) * 32) (by omega) (by omega) w')⟩) hS ?_
        change wpAnyH _ _ _ _ _ _ _ (Act.put _ (some 23) _) _
        try simp only [Act.put, List.setIfInBounds_toArray, List.set_cons_zero, List.set_cons_succ]
        refine wpAnyH_take (i := 8) (v := .agg y.c.toArray) rfl (by kernel_rfl) (by kernel_rfl) (by kernel_rfl) (fun _ _ _ h => h) (Or.inl ⟨by rfl, fun w' hSw => ex_ldE 26 (.tmp 23) rfl _ _ rfl (ld_hs g _ y w' hSw.2)⟩) hS ?_
        change wpAnyH _ _ _ _ _ _ _ (Act.put _ (some 24) _) _
        try simp only [Act.put, List.setIfInBounds_toArray, List.set_cons_zero, List.set_cons_succ]
        refine wpAnyH_take (i := 9) (v := .bool false) rfl (by kernel_rfl) (by kernel_rfl) (by kernel_rfl) (fun _ _ _ h => h) (Or.inl ⟨by rfl, fun w' hSw => ex_binE .eql 26 26 (.tmp 19) (.tmp 24) rfl _ _ _ rfl rfl (hs_guard _ _ _ _ _ w') (eql_f HXY.out w')⟩) hS ?_
        change wpAnyH _ _ _ _ _ _ _ (Act.put _ (some 25) _) _
        try simp only [Act.put, List.setIfInBounds_toArray, List.set_cons_zero, List.set_cons_succ]
        refine wpAnyH_done (by kernel_rfl) ?_ _
        clear hS
        have hw : IntKind.i64.wrap ((k : Int) + 1) = ((k + 1 : Nat) : Int) := by rw [IntKind.wrap_i64]; omega
        go_wp2_with fail
        go_roundw
        case rel =>
          refine ⟨k + 1, by omega, by omega, by go_num, ?_, HR.out.drewN 1, HON.out.drew⟩
          rw [dn_next HX.out (by rw [HX.out, HY.out]; intro h; exact HXY.out (Option.some.inj h)), HDK.out, List.take_add_one, HX.out]
          rfl
        case measure => simp [intOf] <;> omega
    · obtain rfl : k = n := by omega
      have hnn : ¬ (k : Int) < (k : Int) := by omega
      have hall : dn d k = d := by rw [HDK.out, List.take_of_length_le (by have := HDN.out; omega)]
      have HALL := Lib.hid hall
      clear hall
      go_wp2_with fail
      go_ret
      rw [HALL.out]
      exact ⟨by rw [HDN.out]; rfl, ⟨R, HR.out, rfl⟩, HON.out⟩

end Go.Proofs.YtkhadfliandpmaaGreat
