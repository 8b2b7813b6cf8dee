/- EntrySorts' walk. -/
import Derived.Test.YtkhadfliandpmaaGreatEh
namespace Go.Proofs.YtkhadfliandpmaaGreat
set_option maxRecDepth 100000
set_option linter.unusedSimpArgs false
set_option linter.unusedVariables false
open Go.RowKit

theorem count_one {L : List Hs} (h : L.Pairwise fun a b => a.n < b.n) {x : Hs} (hx : x ∈ L) : L.count x = 1 := by
  have hn : L.Nodup := h.imp fun {a b} hab e => by subst e; omega
  rw [hn.count, if_pos hx]
theorem count_next {L : List Hs} {k : Nat} {x y : Hs} (hy : L[k]? = some y) : (L.take (k + 1)).count x = (L.take k).count x + (if y = x then 1 else 0) := by
  rw [List.take_add_one, hy, List.count_append]
  congr 1
  show [y].count x = _
  rw [List.count_singleton]
  by_cases h : y = x
  · simp [h]
  · rw [if_neg h, if_neg (by rw [beq_iff_eq]; exact h)]
theorem rdh_at {w : World} {A : Option Addr} {n : Nat} {D : List Hs} (h : RdH w A n D) (hn : 0 < n) : ∃ b o, A = some ⟨b, o, none⟩ ∧ b < w.heap.size ∧ ∀ (i : Nat) (x : Hs), D[i]? = some x → w.rangeAt b (o + i * 32) x.c := by
  obtain ⟨ad, rfl, hlt, hc⟩ := h.2 hn
  have h0 : D[0]? = some (D[0]'(by have := h.1; omega)) := List.getElem?_eq_getElem _
  have hf := flat_at h0 [] (j := 0) (v := (D[0]'(by have := h.1; omega)).c[0]'(by rw [Hs.c_len]; omega)) (List.getElem?_eq_getElem _)
  rw [List.append_nil, show 0 * 32 + 0 = 0 from rfl] at hf
  have hs := World.cell?_spot (hc _ _ hf)
  have hs' : ad.spot = none := by
    unfold Addr.add at hs
    rwa [if_pos rfl] at hs
  obtain ⟨b, o, sp⟩ := ad
  simp only at hs'
  subst hs'
  refine ⟨b, o, rfl, hlt, fun i x hx j v hv => ?_⟩
  have h1 := flat_at hx [] hv
  rw [List.append_nil] at h1
  have h2 := hc _ _ h1
  rw [Addr.add_mid, ← Nat.add_assoc] at h2
  exact h2
theorem range_below {w w' : World} {b o B : Nat} {cs : List Value} (h : w.rangeAt b o cs) (hb : Below B w w') (hlt : b < B) : w'.rangeAt b o cs := fun j v hv => (hb.cell (p := ⟨b, o + j, none⟩) hlt).trans (h j v hv)
set_option maxHeartbeats 3200000 in
theorem sorts_walk (hA : ∀ w : World, Calls Tryz.prog 4 #[] w fun e w' => e = .returned (.bool true) ∧ Below w.heap.size w w') (A : Option Addr) (n c : Nat) (D : List Hs) (w : World) (hr : RdH w A n D) :
    Calls Tryz.prog 3 #[.slice A n c] w fun e w' => e = .returned (.bool true) ∧ Below w.heap.size w w' := by
  have HA := Lib.hid hA
  clear hA
  by_cases h60 : 60 < n
  · have h60i : (60 : Int) < (n : Int) := by omega
    go_enter Tryz.func3, Tryz.ntmps3
    go_wp2_with fail
    refine (HA.out _).mono ?_
    rintro e w' ⟨rfl, hb⟩
    have HB := Lib.hid hb
    clear hb
    go_wp2_with fail
    go_ret
    exact ⟨rfl, HB.out⟩
  have h60i : ¬ (60 : Int) < (n : Int) := by omega
  have hsm : n < 4611686018427387904 := by omega
  have HS := Lib.hid (sort_any A n c D w hr (by omega))
  have hDn := hr.1
  rcases Nat.eq_zero_or_pos n with h0 | h0
  · subst h0
    clear hr
    have HS : Hid (Calls Tryz.prog 5 #[.slice A 0 c] w fun e w' => ∃ p c', e = .returned (.slice p 0 c') ∧ Below w.heap.size w w') := Lib.hid (HS.out.mono fun e w' ⟨v, h1, h2, h3⟩ => by
      subst h1
      rcases h2.2 with ⟨rfl, _⟩ | ⟨g, cap, cur, rfl, _⟩
      · exact ⟨none, 0, rfl, h3⟩
      · exact ⟨_, cap, rfl, h3⟩)
    go_enter Tryz.func3, Tryz.ntmps3
    go_wp2_with fail
    refine HS.out.mono ?_
    rintro e W1 ⟨p, c', rfl, hb⟩
    have HB := Lib.hid hb
    clear hb
    -- MAIN
    go_wp2_with fail
    refine wp_loop_rounds 1 ?_
    rw [rounds_succ]
    go_wp2_with fail
    refine wp_loop_rounds 1 ?_
    rw [rounds_succ]
    go_wp2_with fail
    refine (HA.out _).mono ?_
    rintro e W2 ⟨rfl, hb⟩
    have HB2 := Lib.hid (HB.out.trans (hb.mono HB.out.size))
    clear hb
    go_wp2_with fail
    go_ret
    exact ⟨rfl, HB2.out⟩
  · obtain ⟨b, o, rfl, hbl, hc⟩ := rdh_at hr h0
    have hasc := (dn_asc (Srt_asc D) (k := n) (by rw [Srt_len]; omega)).1
    have hmem : ∀ x, x ∈ dn (Srt D) n ↔ x ∈ D := fun x => by rw [dn_mem (by rw [Srt_len]; omega), List.take_of_length_le (by rw [Srt_len]; omega), Srt_mem]
    have hml : (dn (Srt D) n).length ≤ n := dn_len
    have hm0 := dn_pos (d := Srt D) (by rw [Srt_len]; omega) h0
    have HS := Lib.hid (HS.out.mono fun e w' ⟨v, h1, h2, h3⟩ => (show ∃ g cap R, e = Ending.returned (.slice (some ⟨g, 0, none⟩) (dn (Srt D) n).length cap) ∧ Row w' g 26 (flat (dn (Srt D) n) ++ R) ∧ (dn (Srt D) n).length ≤ cap ∧ Below w.heap.size w w' from by
      obtain ⟨g, cap, R, rfl, _, hrow, hmc, _, _⟩ := own_row h2 hm0
      exact ⟨g, cap, R, h1, hrow, hmc, h3⟩))
    generalize dn (Srt D) n = L at *
    generalize hm : L.length = m at *
    have HD := Lib.hid hc
    have HASC := Lib.hid hasc
    have HMEM := Lib.hid hmem
    have HM := Lib.hid hm
    have HDN := Lib.hid hDn
    clear hc hasc hmem hm hDn hr
    go_enter Tryz.func3, Tryz.ntmps3
    go_wp2_with fail
    refine HS.out.mono ?_
    rintro e W1 ⟨g, cap, R, rfl, hrow, hmc, hb⟩
    have HROW := Lib.hid hrow
    have HB := Lib.hid hb
    clear hrow hb
    go_wp2_with fail
    go_loopw [4] (fun v wr => ∃ k : Nat, k ≤ n ∧ v = .int .i64 (k : Int) ∧ Row wr g 26 (flat L ++ R) ∧ Below w.heap.size w wr) (fun v _ => n - (intOf v).toNat)
    case atStart => exact ⟨0, by omega, rfl, HROW.out, HB.out⟩
    case round =>
      obtain ⟨i, hin, rfl, hr, hb⟩ := hrel
      have HR := Lib.hid hr
      have HBW := Lib.hid hb
      clear hr hb
      by_cases hlt : i < n
      · have hii : (i : Int) < (n : Int) := by omega
        have hii0 : (0 : Int) ≤ (i : Int) := by omega
        have h0i : (0 : Int) < (n : Int) := by omega
        have hx : D[i]? = some (D[i]'(by have := HDN.out; omega)) := List.getElem?_eq_getElem _
        have hxm : (D[i]'(by have := HDN.out; omega)) ∈ L := (HMEM.out _).2 (List.getElem_mem _)
        have hx0 : D[0]? = some (D[0]'(by have := HDN.out; omega)) := List.getElem?_eq_getElem _
        generalize (D[i]'(by have := HDN.out; omega)) = x at hx hxm
        generalize (D[0]'(by have := HDN.out; omega)) = x0 at hx0
        have HX := Lib.hid (fun (w' : World) (h : Below w.heap.size w w') => range_below (HD.out i x hx) h hbl)
        have HX0 := Lib.hid (fun (w' : World) (h : Below w.heap.size w w') => range_below (HD.out 0 x0 hx0) h hbl)
        have HCO := Lib.hid (count_one HASC.out hxm)
        clear hx hx0 hxm
        go_wp2_with fail
        go_loopw [5, 6] (fun cnt v wr => ∃ j : Nat, j ≤ m ∧ v = .int .i64 (j : Int) ∧ cnt = .int .i64 (((L.take j).count x : Nat) : Int) ∧ Row wr g 26 (flat L ++ R) ∧ Below w.heap.size w wr) (fun _ v _ => m - (intOf v).toNat)
        case atStart => exact ⟨0, by omega, rfl, by simp, HR.out, HBW.out⟩
        case round =>
          obtain ⟨j, hjm, rfl, rfl, hr, hb⟩ := hrel
          have HR2 := Lib.hid hr
          have HBW2 := Lib.hid hb
          clear hr hb
          by_cases hjlt : j < m
          · have hji : (j : Int) < (m : Int) := by omega
            have hji0 : (0 : Int) ≤ (j : Int) := by omega
            have hy : L[j]? = some (L[j]'(by have := HM.out; omega)) := List.getElem?_eq_getElem _
            generalize (L[j]'(by have := HM.out; omega)) = y at hy
            have hcn := count_next (x := x) hy
            have hcl : (L.take j).count x ≤ 100 := by
              have h1 := List.count_le_length (a := x) (l := L.take j)
              rw [List.length_take] at h1
              omega
            have hw : IntKind.i64.wrap ((j : Int) + 1) = ((j + 1 : Nat) : Int) := by rw [IntKind.wrap_i64]; omega
            have HY := Lib.hid hy
            have HCN := Lib.hid hcn
            clear hy hcn
            generalize (L.take j).count x = q at *
            have hwq : IntKind.i64.wrap ((q : Int) + 1) = ((q + 1 : Nat) : Int) := by rw [IntKind.wrap_i64]; omega
            by_cases hyx : y = x
            · have HYX := Lib.hid hyx
              have HCN2 := Lib.hid (HCN.out.trans (by rw [if_pos hyx]))
              clear hyx
              go_wp2_with fail
              refine wp_region_held (S := (fun w' : World => w'.rangeAt g (j * 32) y.c ∧ w'.rangeAt b (o + i * 32) x.c)) (by kernel_rfl) ?_
              change wpAnyH _ _ _ _ _ _ _ _ (World.drew _)
              have hS : (fun w' : World => w'.rangeAt g (j * 32) y.c ∧ w'.rangeAt b (o + i * 32) x.c) wr.drew := ⟨(HR2.out.drewN 1).rangeE HY.out, HX.out _ HBW2.out.drew⟩
              refine wpAnyH_take (i := 0) (v := ?_) rfl (by kernel_rfl) (by kernel_rfl) (by kernel_rfl) (fun _ _ _ h => h) (Or.inl ⟨by rfl, ?_⟩) hS ?_
              rotate_left
              · (intro w' hSw; go_simp; try (with_reducible rfl))
              change wpAnyH _ _ _ _ _ _ _ (Act.put _ (some 28) _) _
              try simp only [Act.put, List.setIfInBounds_toArray, List.set_cons_zero, List.set_cons_succ]
              refine wpAnyH_take (i := 1) (v := ?_) rfl (by kernel_rfl) (by kernel_rfl) (by kernel_rfl) (fun _ _ _ h => h) (Or.inl ⟨by rfl, ?_⟩) hS ?_
              rotate_left
              · (intro w' hSw; go_simp; try (with_reducible rfl))
              change wpAnyH _ _ _ _ _ _ _ (Act.put _ (some 29) _) _
              try simp only [Act.put, List.setIfInBounds_toArray, List.set_cons_zero, List.set_cons_succ]
              refine wpAnyH_take (i := 2) (v := .pointer (some ⟨g, j * 32, none⟩)) rfl (by kernel_rfl) (by kernel_rfl) (by kernel_rfl) (fun _ _ _ h => h) (Or.inl ⟨by rfl, fun w' hSw => ex_ixE 22 (.tmp 28) (.tmp 29) rfl _ _ _ rfl rfl (ix_at g 0 m cap (j) (j * 32) (by omega) (by omega) w')⟩) hS ?_
              change wpAnyH _ _ _ _ _ _ _ (Act.put _ (some 30) _) _
              try simp only [Act.put, List.setIfInBounds_toArray, List.set_cons_zero, List.set_cons_succ]
              refine wpAnyH_take (i := 3) (v := .agg y.c.toArray) rfl (by kernel_rfl) (by kernel_rfl) (by kernel_rfl) (fun _ _ _ h => h) (Or.inl ⟨by rfl, fun w' hSw => ex_ldE 26 (.tmp 30) rfl _ _ rfl (ld_hs g _ y w' hSw.1)⟩) hS ?_
              change wpAnyH _ _ _ _ _ _ _ (Act.put _ (some 31) _) _
              try simp only [Act.put, List.setIfInBounds_toArray, List.set_cons_zero, List.set_cons_succ]
              refine wpAnyH_take (i := 4) (v := ?_) rfl (by kernel_rfl) (by kernel_rfl) (by kernel_rfl) (fun _ _ _ h => h) (Or.inl ⟨by rfl, ?_⟩) hS ?_
              rotate_left
              · (intro w' hSw; go_simp; try (with_reducible rfl))
              change wpAnyH _ _ _ _ _ _ _ (Act.put _ (some 32) _) _
              try simp only [Act.put, List.setIfInBounds_toArray, List.set_cons_zero, List.set_cons_succ]
              refine wpAnyH_take (i := 5) (v := ?_) rfl (by kernel_rfl) (by kernel_rfl) (by kernel_rfl) (fun _ _ _ h => h) (Or.inl ⟨by rfl, ?_⟩) hS ?_
              rotate_left
              · (intro w' hSw; go_simp; try (with_reducible rfl))
              change wpAnyH _ _ _ _ _ _ _ (Act.put _ (some 33) _) _
              try simp only [Act.put, List.setIfInBounds_toArray, List.set_cons_zero, List.set_cons_succ]
              refine wpAnyH_take (i := 6) (v := .pointer (some ⟨b, o + i * 32, none⟩)) rfl (by kernel_rfl) (by kernel_rfl) (by kernel_rfl) (fun _ _ _ h => h) (Or.inl ⟨by rfl, fun w' hSw => ex_ixE 22 (.tmp 32) (.tmp 33) rfl _ _ _ rfl rfl (ix_at b o n c (i) (o + i * 32) (by omega) (by omega) w')⟩) hS ?_
              change wpAnyH _ _ _ _ _ _ _ (Act.put _ (some 34) _) _
              try simp only [Act.put, List.setIfInBounds_toArray, List.set_cons_zero, List.set_cons_succ]
              refine wpAnyH_take (i := 7) (v := .agg x.c.toArray) rfl (by kernel_rfl) (by kernel_rfl) (by kernel_rfl) (fun _ _ _ h => h) (Or.inl ⟨by rfl, fun w' hSw => ex_ldE 26 (.tmp 34) rfl _ _ rfl (ld_hs b _ x w' hSw.2)⟩) hS ?_
              change wpAnyH _ _ _ _ _ _ _ (Act.put _ (some 35) _) _
              try simp only [Act.put, List.setIfInBounds_toArray, List.set_cons_zero, List.set_cons_succ]
              refine wpAnyH_take (i := 8) (v := .bool true) rfl (by kernel_rfl) (by kernel_rfl) (by kernel_rfl) (fun _ _ _ h => h) (Or.inl ⟨by rfl, fun w' hSw => ex_binE .eql 26 26 (.tmp 31) (.tmp 35) rfl _ _ _ rfl rfl (hs_guard _ _ _ _ _ w') (eql_t HYX.out w')⟩) hS ?_
              change wpAnyH _ _ _ _ _ _ _ (Act.put _ (some 36) _) _
              try simp only [Act.put, List.setIfInBounds_toArray, List.set_cons_zero, List.set_cons_succ]
              refine wpAnyH_done (by kernel_rfl) ?_ _
              clear hS
              go_wp2_with fail
              go_roundw
              case rel => exact ⟨j + 1, by omega, by go_num, by rw [HCN2.out]; go_num, HR2.out.drewN 1, HBW2.out.drew⟩
              case measure => simp [intOf] <;> omega
            · have HYX := Lib.hid hyx
              have HCN2 := Lib.hid (HCN.out.trans (by rw [if_neg hyx]))
              clear hyx
              go_wp2_with fail
              refine wp_region_held (S := (fun w' : World => w'.rangeAt g (j * 32) y.c ∧ w'.rangeAt b (o + i * 32) x.c)) (by kernel_rfl) ?_
              change wpAnyH _ _ _ _ _ _ _ _ (World.drew _)
              have hS : (fun w' : World => w'.rangeAt g (j * 32) y.c ∧ w'.rangeAt b (o + i * 32) x.c) wr.drew := ⟨(HR2.out.drewN 1).rangeE HY.out, HX.out _ HBW2.out.drew⟩
              refine wpAnyH_take (i := 0) (v := ?_) rfl (by kernel_rfl) (by kernel_rfl) (by kernel_rfl) (fun _ _ _ h => h) (Or.inl ⟨by rfl, ?_⟩) hS ?_
              rotate_left
              · (intro w' hSw; go_simp; try (with_reducible rfl))
              change wpAnyH _ _ _ _ _ _ _ (Act.put _ (some 28) _) _
              try simp only [Act.put, List.setIfInBounds_toArray, List.set_cons_zero, List.set_cons_succ]
              refine wpAnyH_take (i := 1) (v := ?_) rfl (by kernel_rfl) (by kernel_rfl) (by kernel_rfl) (fun _ _ _ h => h) (Or.inl ⟨by rfl, ?_⟩) hS ?_
              rotate_left
              · (intro w' hSw; go_simp; try (with_reducible rfl))
              change wpAnyH _ _ _ _ _ _ _ (Act.put _ (some 29) _) _
              try simp only [Act.put, List.setIfInBounds_toArray, List.set_cons_zero, List.set_cons_succ]
              refine wpAnyH_take (i := 2) (v := .pointer (some ⟨g, j * 32, none⟩)) rfl (by kernel_rfl) (by kernel_rfl) (by kernel_rfl) (fun _ _ _ h => h) (Or.inl ⟨by rfl, fun w' hSw => ex_ixE 22 (.tmp 28) (.tmp 29) rfl _ _ _ rfl rfl (ix_at g 0 m cap (j) (j * 32) (by omega) (by omega) w')⟩) hS ?_
              change wpAnyH _ _ _ _ _ _ _ (Act.put _ (some 30) _) _
              try simp only [Act.put, List.setIfInBounds_toArray, List.set_cons_zero, List.set_cons_succ]
              refine wpAnyH_take (i := 3) (v := .agg y.c.toArray) rfl (by kernel_rfl) (by kernel_rfl) (by kernel_rfl) (fun _ _ _ h => h) (Or.inl ⟨by rfl, fun w' hSw => ex_ldE 26 (.tmp 30) rfl _ _ rfl (ld_hs g _ y w' hSw.1)⟩) hS ?_
              change wpAnyH _ _ _ _ _ _ _ (Act.put _ (some 31) _) _
              try simp only [Act.put, List.setIfInBounds_toArray, List.set_cons_zero, List.set_cons_succ]
              refine wpAnyH_take (i := 4) (v := ?_) rfl (by kernel_rfl) (by kernel_rfl) (by kernel_rfl) (fun _ _ _ h => h) (Or.inl ⟨by rfl, ?_⟩) hS ?_
              rotate_left
              · (intro w' hSw; go_simp; try (with_reducible rfl))
              change wpAnyH _ _ _ _ _ _ _ (Act.put _ (some 32) _) _
              try simp only [Act.put, List.setIfInBounds_toArray, List.set_cons_zero, List.set_cons_succ]
              refine wpAnyH_take (i := 5) (v := ?_) rfl (by kernel_rfl) (by kernel_rfl) (by kernel_rfl) (fun _ _ _ h => h) (Or.inl ⟨by rfl, ?_⟩) hS ?_
              rotate_left
              · (intro w' hSw; go_simp; try (with_reducible rfl))
              change wpAnyH _ _ _ _ _ _ _ (Act.put _ (some 33) _) _
              try simp only [Act.put, List.setIfInBounds_toArray, List.set_cons_zero, List.set_cons_succ]
              refine wpAnyH_take (i := 6) (v := .pointer (some ⟨b, o + i * 32, none⟩)) rfl (by kernel_rfl) (by kernel_rfl) (by kernel_rfl) (fun _ _ _ h => h) (Or.inl ⟨by rfl, fun w' hSw => ex_ixE 22 (.tmp 32) (.tmp 33) rfl _ _ _ rfl rfl (ix_at b o n c (i) (o + i * 32) (by omega) (by omega) w')⟩) hS ?_
              change wpAnyH _ _ _ _ _ _ _ (Act.put _ (some 34) _) _
              try simp only [Act.put, List.setIfInBounds_toArray, List.set_cons_zero, List.set_cons_succ]
              refine wpAnyH_take (i := 7) (v := .agg x.c.toArray) rfl (by kernel_rfl) (by kernel_rfl) (by kernel_rfl) (fun _ _ _ h => h) (Or.inl ⟨by rfl, fun w' hSw => ex_ldE 26 (.tmp 34) rfl _ _ rfl (ld_hs b _ x w' hSw.2)⟩) hS ?_
              change wpAnyH _ _ _ _ _ _ _ (Act.put _ (some 35) _) _
              try simp only [Act.put, List.setIfInBounds_toArray, List.set_cons_zero, List.set_cons_succ]
              refine wpAnyH_take (i := 8) (v := .bool false) rfl (by kernel_rfl) (by kernel_rfl) (by kernel_rfl) (fun _ _ _ h => h) (Or.inl ⟨by rfl, fun w' hSw => ex_binE .eql 26 26 (.tmp 31) (.tmp 35) rfl _ _ _ rfl rfl (hs_guard _ _ _ _ _ w') (eql_f HYX.out w')⟩) hS ?_
              change wpAnyH _ _ _ _ _ _ _ (Act.put _ (some 36) _) _
              try simp only [Act.put, List.setIfInBounds_toArray, List.set_cons_zero, List.set_cons_succ]
              refine wpAnyH_done (by kernel_rfl) ?_ _
              clear hS
              go_wp2_with fail
              go_roundw
              case rel => exact ⟨j + 1, by omega, by go_num, by rw [HCN2.out]; rfl, HR2.out.drewN 1, HBW2.out.drew⟩
              case measure => simp [intOf] <;> omega
          · obtain rfl : j = m := by omega
            have hjj : ¬ (j : Int) < (j : Int) := by omega
            have hq : (L.take j).count x = 1 := by rw [List.take_of_length_le (by rw [HM.out]; exact Nat.le_refl _)]; exact HCO.out
            rw [hq]
            clear hq
            go_wp2_with fail
            go_loopw [7, 8] (fun nn v wr => ∃ q : Nat, q ≤ 8 ∧ v = .int .i64 (q : Int) ∧ nn = .int .u64 ((num (x.1.take q) : Nat) : Int) ∧ Row wr g 26 (flat L ++ R) ∧ Below w.heap.size w wr) (fun _ v _ => 8 - (intOf v).toNat)
            case atStart => exact ⟨0, by omega, rfl, by simp [num], HR2.out, HBW2.out⟩
            case round =>
              obtain ⟨q, hq8, rfl, rfl, hr, hb⟩ := hrel
              have HR3 := Lib.hid hr
              have HBW3 := Lib.hid hb
              clear hr hb
              by_cases hq : q < 8
              · have hqi : (q : Int) < 8 := by omega
                have hqi3 : (q : Int) < 32 := by omega
                have hqi0 : (0 : Int) ≤ (q : Int) := by omega
                have hlen : q < x.1.length := by rw [x.2]; omega
                have c1 : wr.cell? ⟨b, o + i * 32 + q, none⟩ = some (.int .u8 ((x.1.getD q 0).toNat : Int)) := by
                  refine HX.out _ HBW3.out q _ ?_
                  show (Bs x.1)[q]? = _
                  rw [Bs_get, List.getElem?_eq_getElem hlen, List.getD_eq_getElem?_getD, List.getElem?_eq_getElem hlen]
                  rfl
                have hnt := num_takeE (l := x.1) (i := q) hlen
                have hltN : num (x.1.take q) < 72057594037927936 := by
                  have h1 := num_lt (x.1.take q)
                  have h2 : (x.1.take q).length ≤ 7 := by rw [List.length_take]; omega
                  have h3 : 256 ^ (x.1.take q).length ≤ 256 ^ 7 := Nat.pow_le_pow_right (by omega) h2
                  omega
                have hu : (x.1.getD q 0).toNat < 256 := (x.1.getD q 0).toNat_lt
                have HNT := Lib.hid hnt
                clear hnt
                generalize (x.1.getD q 0).toNat = u at *
                generalize num (x.1.take q) = N at *
                have hw : IntKind.i64.wrap ((q : Int) + 1) = ((q + 1 : Nat) : Int) := by rw [IntKind.wrap_i64]; omega
                have hw1 : IntKind.u64.wrap ((N : Int) * 256) = (N : Int) * 256 := by rw [IntKind.wrap_u64]; omega
                have hw2 : IntKind.u64.wrap ((N : Int) * 256 + (u : Int)) = (N : Int) * 256 + (u : Int) := by rw [IntKind.wrap_u64]; omega
                have hw3 : IntKind.u64.wrap (u : Int) = (u : Int) := by rw [IntKind.wrap_u64]; omega
                go_wp2_with fail
                go_roundw
                case rel => exact ⟨q + 1, by omega, by go_num, by rw [HNT.out]; go_num, HR3.out, HBW3.out⟩
                case measure => simp [intOf] <;> omega
              · obtain rfl : q = 8 := by omega
                go_wp2_with fail
                let S0 : World → Prop := fun w' => Below w.heap.size w w' ∧ Row w' g 26 (flat L ++ R)
                refine wp_region_held (S := S0) (by kernel_rfl) ?_
                change wpAnyH _ _ _ _ _ _ _ _ (World.drew _)
                have hS : S0 wr.drew := ⟨HBW3.out.drew, HR3.out.drewN 1⟩
                refine wpAnyH_take (i := 0) (v := ?_) rfl (by kernel_rfl) (by kernel_rfl) (by kernel_rfl) (fun _ _ _ h => h) (Or.inl ⟨by rfl, ?_⟩) hS ?_
                rotate_left
                · (intro w' hSw; go_simp; try (with_reducible rfl))
                change wpAnyH _ _ _ _ _ _ _ (Act.put _ (some 53) _) _
                try simp only [Act.put, List.setIfInBounds_toArray, List.set_cons_zero, List.set_cons_succ]
                refine wpAnyH_take (i := 1) (v := ?_) rfl (by kernel_rfl) (by kernel_rfl) (by kernel_rfl) (fun _ _ _ h => h) (Or.inl ⟨by rfl, ?_⟩) hS ?_
                rotate_left
                · (intro w' hSw; go_simp; try (with_reducible rfl))
                change wpAnyH _ _ _ _ _ _ _ (Act.put _ (some 54) _) _
                try simp only [Act.put, List.setIfInBounds_toArray, List.set_cons_zero, List.set_cons_succ]
                refine wpAnyH_take (i := 2) (v := ?_) rfl (by kernel_rfl) (by kernel_rfl) (by kernel_rfl) (fun _ _ _ h => h) (Or.inl ⟨by rfl, ?_⟩) hS ?_
                rotate_left
                · (intro w' hSw; go_simp; try (with_reducible rfl))
                change wpAnyH _ _ _ _ _ _ _ (Act.put _ (some 55) _) _
                try simp only [Act.put, List.setIfInBounds_toArray, List.set_cons_zero, List.set_cons_succ]
                refine wpAnyH_take (i := 3) (v := ?_) rfl (by kernel_rfl) (by kernel_rfl) (by kernel_rfl) (fun _ _ _ h => h) (Or.inl ⟨by rfl, ?_⟩) hS ?_
                rotate_left
                · (intro w' hSw; go_simp; try (with_reducible rfl))
                change wpAnyH _ _ _ _ _ _ _ (Act.put _ (some 56) _) _
                try simp only [Act.put, List.setIfInBounds_toArray, List.set_cons_zero, List.set_cons_succ]
                refine wpAnyH_take (i := 4) (v := ?_) rfl (by kernel_rfl) (by kernel_rfl) (by kernel_rfl) (fun _ _ _ h => h) (Or.inl ⟨by rfl, ?_⟩) hS ?_
                rotate_left
                · (intro w' hSw; go_simp; try (with_reducible rfl))
                change wpAnyH _ _ _ _ _ _ _ (Act.put _ (some 57) _) _
                try simp only [Act.put, List.setIfInBounds_toArray, List.set_cons_zero, List.set_cons_succ]
                refine wpAnyH_take (i := 5) (v := .pointer (some ⟨b, o + i * 32, none⟩)) rfl (by kernel_rfl) (by kernel_rfl) (by kernel_rfl) (fun _ _ _ h => h) (Or.inl ⟨by rfl, fun w' hSw => ex_ixE 22 (.tmp 56) (.tmp 57) rfl _ _ _ rfl rfl (ix_at b o n c (i) (o + i * 32) (by omega) (by omega) w')⟩) hS ?_
                change wpAnyH _ _ _ _ _ _ _ (Act.put _ (some 58) _) _
                try simp only [Act.put, List.setIfInBounds_toArray, List.set_cons_zero, List.set_cons_succ]
                refine wpAnyH_take (i := 6) (v := .agg x.c.toArray) rfl (by kernel_rfl) (by kernel_rfl) (by kernel_rfl) (fun _ _ _ h => h) (Or.inl ⟨by rfl, fun w' hSw => ex_ldE 26 (.tmp 58) rfl _ _ rfl (ld_hs b _ x w' (HX.out w' hSw.1))⟩) hS ?_
                change wpAnyH _ _ _ _ _ _ _ (Act.put _ (some 59) _) _
                try simp only [Act.put, List.setIfInBounds_toArray, List.set_cons_zero, List.set_cons_succ]
                refine wpAnyH_take (i := 8) (v := ?_) rfl (by kernel_rfl) (by kernel_rfl) (by kernel_rfl) (fun _ _ _ h => h) (Or.inl ⟨by rfl, ?_⟩) hS ?_
                rotate_left
                · (intro w' hSw; go_simp; try (with_reducible rfl))
                change wpAnyH _ _ _ _ _ _ _ (Act.put _ (some 61) _) _
                try simp only [Act.put, List.setIfInBounds_toArray, List.set_cons_zero, List.set_cons_succ]
                refine wpAnyH_ready (rs := [7]) (by kernel_rfl) (by simp) ?_
                refine AllReadyH.cons rfl (fun K hK => ?_) AllReadyH.nil
                rw [if_pos (by kernel_rfl)]
                go_simp
                refine (seed_any x _).mono ?_
                rintro e w1 ⟨rfl, hb⟩
                have hS1 : S0 w1 := ⟨hS.1.trans (hb.mono hS.1.size), hS.2.belowAll hb⟩
                refine hK.out _ _ hS1 (fun _ => ?_)
                clear hK K hb hS
                have hS := hS1
                clear hS1
                try simp only [Act.put, List.setIfInBounds_toArray, List.set_cons_zero, List.set_cons_succ]
                refine wpAnyH_take (i := 9) (v := ?_) rfl (by kernel_rfl) (by kernel_rfl) (by kernel_rfl) (fun _ _ _ h => h) (Or.inl ⟨by rfl, ?_⟩) hS ?_
                rotate_left
                · (intro w' hSw; go_simp; try (with_reducible rfl))
                change wpAnyH _ _ _ _ _ _ _ (Act.put _ (some 62) _) _
                try simp only [Act.put, List.setIfInBounds_toArray, List.set_cons_zero, List.set_cons_succ]
                refine wpAnyH_take (i := 10) (v := ?_) rfl (by kernel_rfl) (by kernel_rfl) (by kernel_rfl) (fun _ _ _ h => h) (Or.inl ⟨by rfl, ?_⟩) hS ?_
                rotate_left
                · (intro w' hSw; go_simp; try (with_reducible rfl))
                change wpAnyH _ _ _ _ _ _ _ (Act.put _ (some 63) _) _
                try simp only [Act.put, List.setIfInBounds_toArray, List.set_cons_zero, List.set_cons_succ]
                refine wpAnyH_take (i := 11) (v := ?_) rfl (by kernel_rfl) (by kernel_rfl) (by kernel_rfl) (fun _ _ _ h => h) (Or.inl ⟨by rfl, ?_⟩) hS ?_
                rotate_left
                · (intro w' hSw; go_simp; try (with_reducible rfl))
                change wpAnyH _ _ _ _ _ _ _ (Act.put _ (some 64) _) _
                try simp only [Act.put, List.setIfInBounds_toArray, List.set_cons_zero, List.set_cons_succ]
                refine wpAnyH_take (i := 12) (v := ?_) rfl (by kernel_rfl) (by kernel_rfl) (by kernel_rfl) (fun _ _ _ h => h) (Or.inl ⟨by rfl, ?_⟩) hS ?_
                rotate_left
                · (intro w' hSw; go_simp; try (with_reducible rfl))
                change wpAnyH _ _ _ _ _ _ _ (Act.put _ (some 65) _) _
                try simp only [Act.put, List.setIfInBounds_toArray, List.set_cons_zero, List.set_cons_succ]
                refine wpAnyH_take (i := 13) (v := ?_) rfl (by kernel_rfl) (by kernel_rfl) (by kernel_rfl) (fun _ _ _ h => h) (Or.inl ⟨by rfl, ?_⟩) hS ?_
                rotate_left
                · (intro w' hSw; go_simp; try (with_reducible rfl))
                change wpAnyH _ _ _ _ _ _ _ (Act.put _ (some 66) _) _
                try simp only [Act.put, List.setIfInBounds_toArray, List.set_cons_zero, List.set_cons_succ]
                refine wpAnyH_take (i := 14) (v := .pointer (some ⟨b, o + i * 32, none⟩)) rfl (by kernel_rfl) (by kernel_rfl) (by kernel_rfl) (fun _ _ _ h => h) (Or.inl ⟨by rfl, fun w' hSw => ex_ixE 22 (.tmp 65) (.tmp 66) rfl _ _ _ rfl rfl (ix_at b o n c (i) (o + i * 32) (by omega) (by omega) w')⟩) hS ?_
                change wpAnyH _ _ _ _ _ _ _ (Act.put _ (some 67) _) _
                try simp only [Act.put, List.setIfInBounds_toArray, List.set_cons_zero, List.set_cons_succ]
                refine wpAnyH_take (i := 15) (v := .agg x.c.toArray) rfl (by kernel_rfl) (by kernel_rfl) (by kernel_rfl) (fun _ _ _ h => h) (Or.inl ⟨by rfl, fun w' hSw => ex_ldE 26 (.tmp 67) rfl _ _ rfl (ld_hs b _ x w' (HX.out w' hSw.1))⟩) hS ?_
                change wpAnyH _ _ _ _ _ _ _ (Act.put _ (some 68) _) _
                try simp only [Act.put, List.setIfInBounds_toArray, List.set_cons_zero, List.set_cons_succ]
                refine wpAnyH_take (i := 16) (v := ?_) rfl (by kernel_rfl) (by kernel_rfl) (by kernel_rfl) (fun _ _ _ h => h) (Or.inl ⟨by rfl, ?_⟩) hS ?_
                rotate_left
                · (intro w' hSw; go_simp; try (with_reducible rfl))
                change wpAnyH _ _ _ _ _ _ _ (Act.put _ (some 69) _) _
                try simp only [Act.put, List.setIfInBounds_toArray, List.set_cons_zero, List.set_cons_succ]
                refine wpAnyH_take (i := 17) (v := .pointer (some ⟨b, o + 0 * 32, none⟩)) rfl (by kernel_rfl) (by kernel_rfl) (by kernel_rfl) (fun _ _ _ h => h) (Or.inl ⟨by rfl, fun w' hSw => ex_ixE 22 (.tmp 69) (.const (.int .i64 0)) rfl _ _ _ rfl rfl (ix_at b o n c 0 (o + 0 * 32) (by omega) (by omega) w')⟩) hS ?_
                change wpAnyH _ _ _ _ _ _ _ (Act.put _ (some 70) _) _
                try simp only [Act.put, List.setIfInBounds_toArray, List.set_cons_zero, List.set_cons_succ]
                refine wpAnyH_take (i := 18) (v := .agg x0.c.toArray) rfl (by kernel_rfl) (by kernel_rfl) (by kernel_rfl) (fun _ _ _ h => h) (Or.inl ⟨by rfl, fun w' hSw => ex_ldE 26 (.tmp 70) rfl _ _ rfl (ld_hs b _ x0 w' (HX0.out w' hSw.1))⟩) hS ?_
                change wpAnyH _ _ _ _ _ _ _ (Act.put _ (some 71) _) _
                try simp only [Act.put, List.setIfInBounds_toArray, List.set_cons_zero, List.set_cons_succ]
                refine wpAnyH_take (i := 20) (v := ?_) rfl (by kernel_rfl) (by kernel_rfl) (by kernel_rfl) (fun _ _ _ h => h) (Or.inl ⟨by rfl, ?_⟩) hS ?_
                rotate_left
                · (intro w' hSw; go_simp; try (with_reducible rfl))
                change wpAnyH _ _ _ _ _ _ _ (Act.put _ (some 73) _) _
                try simp only [Act.put, List.setIfInBounds_toArray, List.set_cons_zero, List.set_cons_succ]
                refine wpAnyH_take (i := 21) (v := ?_) rfl (by kernel_rfl) (by kernel_rfl) (by kernel_rfl) (fun _ _ _ h => h) (Or.inl ⟨by rfl, ?_⟩) hS ?_
                rotate_left
                · (intro w' hSw; go_simp; try (with_reducible rfl))
                change wpAnyH _ _ _ _ _ _ _ (Act.put _ (some 74) _) _
                try simp only [Act.put, List.setIfInBounds_toArray, List.set_cons_zero, List.set_cons_succ]
                refine wpAnyH_take (i := 22) (v := .pointer (some ⟨b, o + i * 32, none⟩)) rfl (by kernel_rfl) (by kernel_rfl) (by kernel_rfl) (fun _ _ _ h => h) (Or.inl ⟨by rfl, fun w' hSw => ex_ixE 22 (.tmp 73) (.tmp 74) rfl _ _ _ rfl rfl (ix_at b o n c (i) (o + i * 32) (by omega) (by omega) w')⟩) hS ?_
                change wpAnyH _ _ _ _ _ _ _ (Act.put _ (some 75) _) _
                try simp only [Act.put, List.setIfInBounds_toArray, List.set_cons_zero, List.set_cons_succ]
                refine wpAnyH_take (i := 23) (v := .agg x.c.toArray) rfl (by kernel_rfl) (by kernel_rfl) (by kernel_rfl) (fun _ _ _ h => h) (Or.inl ⟨by rfl, fun w' hSw => ex_ldE 26 (.tmp 75) rfl _ _ rfl (ld_hs b _ x w' (HX.out w' hSw.1))⟩) hS ?_
                change wpAnyH _ _ _ _ _ _ _ (Act.put _ (some 76) _) _
                try simp only [Act.put, List.setIfInBounds_toArray, List.set_cons_zero, List.set_cons_succ]
                refine wpAnyH_take (i := 24) (v := ?_) rfl (by kernel_rfl) (by kernel_rfl) (by kernel_rfl) (fun _ _ _ h => h) (Or.inl ⟨by rfl, ?_⟩) hS ?_
                rotate_left
                · (intro w' hSw; go_simp; try (with_reducible rfl))
                change wpAnyH _ _ _ _ _ _ _ (Act.put _ (some 77) _) _
                try simp only [Act.put, List.setIfInBounds_toArray, List.set_cons_zero, List.set_cons_succ]
                refine wpAnyH_take (i := 25) (v := .pointer (some ⟨b, o + 0 * 32, none⟩)) rfl (by kernel_rfl) (by kernel_rfl) (by kernel_rfl) (fun _ _ _ h => h) (Or.inl ⟨by rfl, fun w' hSw => ex_ixE 22 (.tmp 77) (.const (.int .i64 0)) rfl _ _ _ rfl rfl (ix_at b o n c 0 (o + 0 * 32) (by omega) (by omega) w')⟩) hS ?_
                change wpAnyH _ _ _ _ _ _ _ (Act.put _ (some 78) _) _
                try simp only [Act.put, List.setIfInBounds_toArray, List.set_cons_zero, List.set_cons_succ]
                refine wpAnyH_take (i := 26) (v := .agg x0.c.toArray) rfl (by kernel_rfl) (by kernel_rfl) (by kernel_rfl) (fun _ _ _ h => h) (Or.inl ⟨by rfl, fun w' hSw => ex_ldE 26 (.tmp 78) rfl _ _ rfl (ld_hs b _ x0 w' (HX0.out w' hSw.1))⟩) hS ?_
                change wpAnyH _ _ _ _ _ _ _ (Act.put _ (some 79) _) _
                try simp only [Act.put, List.setIfInBounds_toArray, List.set_cons_zero, List.set_cons_succ]
                refine wpAnyH_ready (rs := [19]) (by kernel_rfl) (by simp) ?_
                refine AllReadyH.cons rfl (fun K hK => ?_) AllReadyH.nil
                rw [if_pos (by kernel_rfl)]
                go_simp
                refine (eless_any x x0 _).mono ?_
                rintro e w2 ⟨rfl, hb⟩
                have hS1 : S0 w2 := ⟨hS.1.trans (hb.mono hS.1.size), hS.2.belowAll hb⟩
                refine hK.out _ _ hS1 (fun _ => ?_)
                clear hK K hb hS
                have hS := hS1
                clear hS1
                try simp only [Act.put, List.setIfInBounds_toArray, List.set_cons_zero, List.set_cons_succ]
                refine wpAnyH_ready (rs := [27]) (by kernel_rfl) (by simp) ?_
                refine AllReadyH.cons rfl (fun K hK => ?_) AllReadyH.nil
                rw [if_pos (by kernel_rfl)]
                go_simp
                refine (rless_any x x0 _).mono ?_
                rintro e w3 ⟨rfl, hb⟩
                have hS1 : S0 w3 := ⟨hS.1.trans (hb.mono hS.1.size), hS.2.belowAll hb⟩
                refine hK.out _ _ hS1 (fun _ => ?_)
                clear hK K hb hS
                have hS := hS1
                clear hS1
                try simp only [Act.put, List.setIfInBounds_toArray, List.set_cons_zero, List.set_cons_succ]
                refine wpAnyH_take (i := 28) (v := ?_) rfl (by kernel_rfl) (by kernel_rfl) (by kernel_rfl) (fun _ _ _ h => h) (Or.inl ⟨by rfl, ?_⟩) hS ?_
                rotate_left
                · (intro w' hSw; go_simp; try (with_reducible rfl))
                change wpAnyH _ _ _ _ _ _ _ (Act.put _ (some 81) _) _
                try simp only [Act.put, List.setIfInBounds_toArray, List.set_cons_zero, List.set_cons_succ]
                refine wpAnyH_take (i := 29) (v := ?_) rfl (by kernel_rfl) (by kernel_rfl) (by kernel_rfl) (fun _ _ _ h => h) (Or.inl ⟨by rfl, ?_⟩) hS ?_
                rotate_left
                · (intro w' hSw; go_simp; try (with_reducible rfl))
                change wpAnyH _ _ _ _ _ _ _ (Act.put _ (some 82) _) _
                try simp only [Act.put, List.setIfInBounds_toArray, List.set_cons_zero, List.set_cons_succ]
                refine wpAnyH_done (by kernel_rfl) ?_ _
                have HS3 := Lib.hid hS
                clear hS
                have hw : IntKind.i64.wrap ((i : Int) + 1) = ((i + 1 : Nat) : Int) := by rw [IntKind.wrap_i64]; omega
                go_wp2_with fail
                go_roundw
                case rel => exact ⟨i + 1, by omega, by go_num, HS3.out.2, HS3.out.1⟩
                case measure => simp [intOf] <;> omega
      · obtain rfl : i = n := by omega
        have hii : ¬ (i : Int) < (i : Int) := by omega
        go_wp2_with fail
        go_loopw [9] (fun v wr => ∃ j : Nat, 1 ≤ j ∧ j ≤ m ∧ v = .int .i64 (j : Int) ∧ Row wr g 26 (flat L ++ R) ∧ Below w.heap.size w wr) (fun v _ => m - (intOf v).toNat)
        case atStart => exact ⟨1, by omega, by omega, rfl, HR.out, HBW.out⟩
        case round =>
          obtain ⟨j, hj1, hjm, rfl, hr, hb⟩ := hrel
          have HR2 := Lib.hid hr
          have HBW2 := Lib.hid hb
          clear hr hb
          by_cases hjlt : j < m
          · have hji : (j : Int) < (m : Int) := by omega
            have hji0 : (0 : Int) ≤ (j : Int) := by omega
            have hy : L[j]? = some (L[j]'(by have := HM.out; omega)) := List.getElem?_eq_getElem _
            have hz : L[j - 1]? = some (L[j - 1]'(by have := HM.out; omega)) := List.getElem?_eq_getElem _
            have hyz : (L[j - 1]'(by have := HM.out; omega)).n < (L[j]'(by have := HM.out; omega)).n := List.pairwise_iff_getElem.1 HASC.out _ _ _ _ (by omega)
            generalize (L[j]'(by have := HM.out; omega)) = y at hy hyz
            generalize (L[j - 1]'(by have := HM.out; omega)) = z at hz hyz
            have HY := Lib.hid hy
            have HZ := Lib.hid hz
            have hlt' := rless_any z y
            rw [decide_eq_true hyz] at hlt'
            have HLT := Lib.hid hlt'
            clear hy hz hyz hlt'
            have hw : IntKind.i64.wrap ((j : Int) + 1) = ((j + 1 : Nat) : Int) := by rw [IntKind.wrap_i64]; omega
            go_wp2_with fail
            let S0 : World → Prop := fun w' => Below w.heap.size w w' ∧ Row w' g 26 (flat L ++ R)
            refine wp_region_held (S := S0) (by kernel_rfl) ?_
            change wpAnyH _ _ _ _ _ _ _ _ (World.drew _)
            have hS : S0 wr.drew := ⟨HBW2.out.drew, HR2.out.drewN 1⟩
            refine wpAnyH_take (i := 0) (v := ?_) rfl (by kernel_rfl) (by kernel_rfl) (by kernel_rfl) (fun _ _ _ h => h) (Or.inl ⟨by rfl, ?_⟩) hS ?_
            rotate_left
            · (intro w' hSw; go_simp; try (with_reducible rfl))
            change wpAnyH _ _ _ _ _ _ _ (Act.put _ (some 89) _) _
            try simp only [Act.put, List.setIfInBounds_toArray, List.set_cons_zero, List.set_cons_succ]
            refine wpAnyH_take (i := 1) (v := ?_) rfl (by kernel_rfl) (by kernel_rfl) (by kernel_rfl) (fun _ _ _ h => h) (Or.inl ⟨by rfl, ?_⟩) hS ?_
            rotate_left
            · (intro w' hSw; go_simp; try (with_reducible rfl))
            change wpAnyH _ _ _ _ _ _ _ (Act.put _ (some 90) _) _
            try simp only [Act.put, List.setIfInBounds_toArray, List.set_cons_zero, List.set_cons_succ]
            refine wpAnyH_take (i := 2) (v := .int .i64 ((j - 1 : Nat) : Int)) rfl (by kernel_rfl) (by kernel_rfl) (by kernel_rfl) (fun _ _ _ h => h) (Or.inl ⟨by rfl, fun w' hSw => ex_binE .sub 3 3 (.tmp 90) (.const (.int .i64 1)) rfl _ _ _ rfl rfl (sub_guard _ _ _ _ w') (sub_one j (by omega) (by omega) w')⟩) hS ?_
            change wpAnyH _ _ _ _ _ _ _ (Act.put _ (some 91) _) _
            try simp only [Act.put, List.setIfInBounds_toArray, List.set_cons_zero, List.set_cons_succ]
            refine wpAnyH_take (i := 3) (v := .pointer (some ⟨g, (j - 1) * 32, none⟩)) rfl (by kernel_rfl) (by kernel_rfl) (by kernel_rfl) (fun _ _ _ h => h) (Or.inl ⟨by rfl, fun w' hSw => ex_ixE 22 (.tmp 89) (.tmp 91) rfl _ _ _ rfl rfl (ix_at g 0 m cap (j - 1) ((j - 1) * 32) (by omega) (by omega) w')⟩) hS ?_
            change wpAnyH _ _ _ _ _ _ _ (Act.put _ (some 92) _) _
            try simp only [Act.put, List.setIfInBounds_toArray, List.set_cons_zero, List.set_cons_succ]
            refine wpAnyH_take (i := 4) (v := .agg z.c.toArray) rfl (by kernel_rfl) (by kernel_rfl) (by kernel_rfl) (fun _ _ _ h => h) (Or.inl ⟨by rfl, fun w' hSw => ex_ldE 26 (.tmp 92) rfl _ _ rfl (ld_hs g _ z w' (hSw.2.rangeE HZ.out))⟩) hS ?_
            change wpAnyH _ _ _ _ _ _ _ (Act.put _ (some 93) _) _
            try simp only [Act.put, List.setIfInBounds_toArray, List.set_cons_zero, List.set_cons_succ]
            refine wpAnyH_take (i := 5) (v := ?_) rfl (by kernel_rfl) (by kernel_rfl) (by kernel_rfl) (fun _ _ _ h => h) (Or.inl ⟨by rfl, ?_⟩) hS ?_
            rotate_left
            · (intro w' hSw; go_simp; try (with_reducible rfl))
            change wpAnyH _ _ _ _ _ _ _ (Act.put _ (some 94) _) _
            try simp only [Act.put, List.setIfInBounds_toArray, List.set_cons_zero, List.set_cons_succ]
            refine wpAnyH_take (i := 6) (v := ?_) rfl (by kernel_rfl) (by kernel_rfl) (by kernel_rfl) (fun _ _ _ h => h) (Or.inl ⟨by rfl, ?_⟩) hS ?_
            rotate_left
            · (intro w' hSw; go_simp; try (with_reducible rfl))
            change wpAnyH _ _ _ _ _ _ _ (Act.put _ (some 95) _) _
            try simp only [Act.put, List.setIfInBounds_toArray, List.set_cons_zero, List.set_cons_succ]
            refine wpAnyH_take (i := 7) (v := .pointer (some ⟨g, j * 32, none⟩)) rfl (by kernel_rfl) (by kernel_rfl) (by kernel_rfl) (fun _ _ _ h => h) (Or.inl ⟨by rfl, fun w' hSw => ex_ixE 22 (.tmp 94) (.tmp 95) rfl _ _ _ rfl rfl (ix_at g 0 m cap (j) (j * 32) (by omega) (by omega) w')⟩) hS ?_
            change wpAnyH _ _ _ _ _ _ _ (Act.put _ (some 96) _) _
            try simp only [Act.put, List.setIfInBounds_toArray, List.set_cons_zero, List.set_cons_succ]
            refine wpAnyH_take (i := 8) (v := .agg y.c.toArray) rfl (by kernel_rfl) (by kernel_rfl) (by kernel_rfl) (fun _ _ _ h => h) (Or.inl ⟨by rfl, fun w' hSw => ex_ldE 26 (.tmp 96) rfl _ _ rfl (ld_hs g _ y w' (hSw.2.rangeE HY.out))⟩) hS ?_
            change wpAnyH _ _ _ _ _ _ _ (Act.put _ (some 97) _) _
            try simp only [Act.put, List.setIfInBounds_toArray, List.set_cons_zero, List.set_cons_succ]
            refine wpAnyH_ready (rs := [9]) (by kernel_rfl) (by simp) ?_
            refine AllReadyH.cons rfl (fun K hK => ?_) AllReadyH.nil
            rw [if_pos (by kernel_rfl)]
            go_simp
            refine (HLT.out _).mono ?_
            rintro e w1 ⟨rfl, hb⟩
            have hS1 : S0 w1 := ⟨hS.1.trans (hb.mono hS.1.size), hS.2.belowAll hb⟩
            refine hK.out _ _ hS1 (fun _ => ?_)
            clear hK K hb hS
            have hS := hS1
            clear hS1
            try simp only [Act.put, List.setIfInBounds_toArray, List.set_cons_zero, List.set_cons_succ]
            refine wpAnyH_take (i := 10) (v := ?_) rfl (by kernel_rfl) (by kernel_rfl) (by kernel_rfl) (fun _ _ _ h => h) (Or.inl ⟨by rfl, ?_⟩) hS ?_
            rotate_left
            · (intro w' hSw; go_simp; try (with_reducible rfl))
            change wpAnyH _ _ _ _ _ _ _ (Act.put _ (some 99) _) _
            try simp only [Act.put, List.setIfInBounds_toArray, List.set_cons_zero, List.set_cons_succ]
            refine wpAnyH_done (by kernel_rfl) ?_ _
            have HS3 := Lib.hid hS
            clear hS
            go_wp2_with fail
            go_roundw
            case rel => exact ⟨j + 1, by omega, by omega, by go_num, HS3.out.2, HS3.out.1⟩
            case measure => simp [intOf] <;> omega
          · obtain rfl : j = m := by omega
            have hjj : ¬ (j : Int) < (j : Int) := by omega
            have hjn : (j : Int) ≤ (i : Int) := by omega
            have hj0 : ¬ (j : Int) = 0 := by omega
            have hi0 : ¬ (i : Int) = 0 := by omega
            have hj0' : ¬ j = 0 := by omega
            have hi0' : ¬ i = 0 := by omega
            have hb1 : ((i : Int) == 0) = false := beq_eq_false_iff_ne.2 hi0
            have hb2 : ((j : Int) == 0) = false := beq_eq_false_iff_ne.2 hj0
            have hb3 : ((i : Int) == 0) = ((j : Int) == 0) := by rw [hb1, hb2]
            go_wp2_with fail
            refine (HA.out _).mono ?_
            rintro e W5 ⟨rfl, hb⟩
            have HB5 := Lib.hid (HBW2.out.trans (hb.mono HBW2.out.size))
            clear hb
            go_wp2_with fail
            go_ret
            exact ⟨rfl, HB5.out⟩

end Go.Proofs.YtkhadfliandpmaaGreat
