/- line.Place. -/
import Derived.Test.YtocgeemjdlnabaaLc
import Derived.Test.YtocgeemjdlnabaaShelg
namespace Go.Proofs.Ytocgeemjdlnabaa
set_option maxRecDepth 100000
set_option linter.unusedSimpArgs false
set_option linter.unusedVariables false
open Go.RowKit

/-- Is the mark there? -/
def isAt (D : List Mk) (m : Mk) : Bool := decide (D[pl D m]? = some m)
theorem isAt_some {D : List Mk} {m x : Mk} (h : D[pl D m]? = some x) : isAt D m = decide (x = m) := by
  unfold isAt
  rw [h]
  simp
theorem isAt_none {D : List Mk} {m : Mk} (h : D[pl D m]? = none) : isAt D m = false := by
  unfold isAt
  rw [h]
  simp
/-- Which marks aren't ahead, by place. -/
def notAh (D : List Mk) (m : Mk) (i : Nat) : Bool := match D[i]? with
  | some x => !decide (Mk.n x < Mk.n m)
  | none => true
theorem search_any (D : List Mk) (m : Mk) (n c bl bm b o : Nat) (W : World) (hD : D.length = n) (ha : Asc D) (hn : n ≤ 1000000) (hl : 0 < n → W.cell? ⟨bl, 0, none⟩ = some (.slice (some ⟨b, o, none⟩) n c)) (hbl : bl < W.heap.size)
    (hx : ∀ (i : Nat) (x : Mk), D[i]? = some x → W.rangeAt b (o + i * 33) (Mk.c x)) (hb : 0 < n → b < W.heap.size) (hm : W.rangeAt bm 0 (Mk.c m)) (hbm : bm < W.heap.size) :
    Calls Try.prog 28 #[.int .i64 (n : Int), .func (.func 29) #[] #[.pointer (some ⟨bl, 0, none⟩), .pointer (some ⟨bm, 0, none⟩)]] W fun e w' => e = .returned (.int .i64 (pl D m : Int)) ∧ Below W.heap.size W w' := by
  have eg : ∀ args w, (callFunc 29 args).run Try.prog w = .ok (.enter 29 args) w := enters_of Try.func29 (by kernel_rfl) rfl
  have h := Any.sort_Search srchH 29 #[.pointer (some ⟨bl, 0, none⟩), .pointer (some ⟨bm, 0, none⟩)] n (notAh D m) W eg (by omega)
    (fun q os i hi => by
      have hB := below_growE W q os
      have hg : D[i]? = some (D[i]'(by omega)) := List.getElem?_eq_getElem _
      have h0 : 0 < n := by omega
      have hs := hB.size
      have h1 := place1_any (D[i]'(by omega)) m bl bm b o n c i _ hi (by omega) ((hB.cell (p := ⟨bl, 0, none⟩) hbl).trans (hl h0)) (by omega) (range_below (hx _ _ hg) hB (hb h0)) (by have := hb h0; omega) (range_below hm hB hbm) (by omega)
      refine h1.mono ?_
      rintro e w' ⟨rfl, q', os', rfl⟩
      refine ⟨?_, q', os', rfl⟩
      unfold notAh
      rw [hg])
    (fun i j hij hj hi => by
      have hgi : D[i]? = some (D[i]'(by omega)) := List.getElem?_eq_getElem _
      have hgj : D[j]? = some (D[j]'(by omega)) := List.getElem?_eq_getElem _
      unfold notAh at hi ⊢
      rw [hgi] at hi
      rw [hgj]
      rcases Nat.eq_or_lt_of_le hij with e | h
      · subst e; exact hi
      · have := List.pairwise_iff_getElem.1 ha i j (by omega) (by omega) h
        simp at hi ⊢
        omega)
  change Calls Try.prog 28 _ _ _ at h
  have hc : (List.range n).countP (fun i => !notAh D m i) = pl D m := by
    rw [← hD]
    refine pl_count ha m _ fun i x hx => ?_
    unfold notAh
    rw [hx]
    simp
  rw [hc] at h
  refine h.mono ?_
  rintro e w' ⟨rfl, q, os, rfl⟩
  exact ⟨rfl, below_growE _ _ _⟩
set_option maxHeartbeats 3200000 in
theorem place_any (A : Option Addr) (n c : Nat) (D : List Mk) (m : Mk) (w : World) (hr : RdHM w A n D) (ha : Asc D) (hn : n ≤ 1000000) :
    Calls Try.prog 19 #[.slice A n c, .agg (Mk.c m).toArray] w fun e w' => e = .returned (.tuple #[.int .i64 (pl D m : Int), .bool (isAt D m)]) ∧ Below w.heap.size w w' := by
  have hDn := hr.1
  have hpl := pl_le D m
  have hB0 : Below w.heap.size w ((w.alloc (.cells #[.slice A n c] 22)).alloc (.cells (Mk.c m).toArray 26)) := (below_newE w _).alloc (by simp) _
  have hl0 : ((w.alloc (.cells #[.slice A n c] 22)).alloc (.cells (Mk.c m).toArray 26)).cell? ⟨w.heap.size, 0, none⟩ = some (.slice A n c) := ((Row.new w [.slice A n c] 22).belowAll (below_newE _ (.cells (Mk.c m).toArray 26))).cell (k := 0) rfl
  have hm0 : ((w.alloc (.cells #[.slice A n c] 22)).alloc (.cells (Mk.c m).toArray 26)).rangeAt (w.heap.size + 1) 0 (Mk.c m) := fun j v hv => (row_new1E w (.cells #[.slice A n c] 22) (Mk.c m) 26).cell (by rw [Nat.zero_add]; exact hv)
  have hs0 : ((w.alloc (.cells #[.slice A n c] 22)).alloc (.cells (Mk.c m).toArray 26)).heap.size = w.heap.size + 2 := by simp
  obtain ⟨b, o, hAe, hbl, hc⟩ : ∃ b o, (0 < n → A = some ⟨b, o, none⟩) ∧ (0 < n → b < w.heap.size) ∧ ∀ (i : Nat) (x : Mk), D[i]? = some x → w.rangeAt b (o + i * 33) (Mk.c x) := by
    rcases Nat.eq_zero_or_pos n with h0 | h0
    · refine ⟨0, 0, fun h => absurd h (by omega), fun h => absurd h (by omega), fun i x hx => ?_⟩
      have := (List.getElem?_eq_some_iff.1 hx).1
      omega
    · obtain ⟨b, o, h1, h2, h3⟩ := rdh_atM hr h0
      exact ⟨b, o, fun _ => h1, fun _ => h2, h3⟩
  have HS := Lib.hid (search_any D m n c w.heap.size (w.heap.size + 1) b o _ hDn ha hn (fun h => by rw [hl0, hAe h]) (by omega) (fun i x hx => by
    have h0 : 0 < n := by have := (List.getElem?_eq_some_iff.1 hx).1; omega
    exact range_below (hc i x hx) hB0 (hbl h0)) (fun h => by have := hbl h; omega) hm0 (by omega))
  have HL := Lib.hid hl0
  have HM := Lib.hid hm0
  have HB := Lib.hid hB0
  have HX := Lib.hid hc
  have HS0 := Lib.hid hs0
  clear hl0 hm0 hB0 hc hr hs0
  generalize hx : (Mk.c m).toArray = x at *
  go_enter Try.func19, Try.ntmps19
  go_wp2_with fail
  generalize hW0 : ((w.alloc (.cells #[.slice A n c] 22)).alloc (.cells x 26)) = W0 at *
  refine HS.out.mono ?_
  rintro e W2 ⟨rfl, hb⟩
  have hs := hb.size
  have HB2 := Lib.hid (HB.out.trans (hb.mono HB.out.size))
  have hs0 := HS0.out
  have HL2 := Lib.hid (fun (w' : World) (h : Below W2.heap.size W2 w') => (h.cell (p := ⟨w.heap.size, 0, none⟩) (by show w.heap.size < _; omega)).trans ((hb.cell (p := ⟨w.heap.size, 0, none⟩) (by show w.heap.size < _; omega)).trans HL.out))
  have HM2 := Lib.hid (fun (w' : World) (h : Below W2.heap.size W2 w') => range_below (range_below HM.out hb (by omega)) h (by omega))
  have HX2 := Lib.hid (fun (w' : World) (h : Below W2.heap.size W2 w') (i : Nat) (x : Mk) (hx : D[i]? = some x) => (show w'.rangeAt b (o + i * 33) (Mk.c x) from by
    have h0 : 0 < n := by have := (List.getElem?_eq_some_iff.1 hx).1; omega
    have h1 := hbl h0
    exact range_below (range_below (HX.out i x hx) HB2.out h1) h (by omega)))
  have hBD : Below W2.heap.size W2 W2.drew := (Below.refl _ _).drew
  have HBE := Lib.hid (fun (w' : World) (h : Below W2.heap.size W2 w') => HB2.out.trans (h.mono HB2.out.size))
  clear hb HB HL HM HX HS0
  go_wp2_with fail
  by_cases hlt : pl D m < n
  · have hx : D[pl D m]? = some (D[pl D m]'(by omega)) := List.getElem?_eq_getElem _
    generalize (D[pl D m]'(by omega)) = y at hx
    have HY := Lib.hid (fun (w' : World) (h : Below W2.heap.size W2 w') => HX2.out w' h _ y hx)
    have HI := Lib.hid (isAt_some hx)
    obtain rfl : A = some ⟨b, o, none⟩ := hAe (by omega)
    clear hx
    generalize hk : pl D m = k at *
    have HK := Lib.hid hk
    clear hk
    refine wp_region_held (S := fun w' : World => Below W2.heap.size W2 w') (by kernel_rfl) ?_
    change wpAnyH _ _ _ _ _ _ _ _ (World.drew _)
    have hS : (fun w' : World => Below W2.heap.size W2 w') W2.drew := hBD
    refine wpAnyH_take (i := 0) (v := ?_) rfl (by kernel_rfl) (by kernel_rfl) (by kernel_rfl) (fun _ _ _ h => h) (Or.inl ⟨by rfl, ?_⟩) hS ?_
    rotate_left
    · (intro w' hSw; go_simp; try (with_reducible rfl))
    change wpAnyH _ _ _ _ _ _ _ (Act.put _ (some 11) _) _
    try simp only [Act.put, List.setIfInBounds_toArray, List.set_cons_zero, List.set_cons_succ]
    refine wpAnyH_take (i := 1) (v := ?_) rfl (by kernel_rfl) (by kernel_rfl) (by kernel_rfl) (fun _ _ _ h => h) (Or.inl ⟨by rfl, ?_⟩) hS ?_
    rotate_left
    · (intro w' hSw; go_simp; try (with_reducible rfl))
    change wpAnyH _ _ _ _ _ _ _ (Act.put _ (some 12) _) _
    try simp only [Act.put, List.setIfInBounds_toArray, List.set_cons_zero, List.set_cons_succ]
    refine wpAnyH_take (i := 2) (v := .slice (some ⟨b, o, none⟩) n c) rfl (by kernel_rfl) (by kernel_rfl) (by kernel_rfl) (fun _ _ _ h => h) (Or.inl ⟨by rfl, fun w' hSw => ex_ldE 22 (.tmp 2) rfl _ _ rfl (by have h1 := HL2.out w' hSw; go_simp)⟩) hS ?_
    change wpAnyH _ _ _ _ _ _ _ (Act.put _ (some 13) _) _
    try simp only [Act.put, List.setIfInBounds_toArray, List.set_cons_zero, List.set_cons_succ]
    refine wpAnyH_take (i := 3) (v := ?_) rfl (by kernel_rfl) (by kernel_rfl) (by kernel_rfl) (fun _ _ _ h => h) (Or.inl ⟨by rfl, ?_⟩) hS ?_
    rotate_left
    · (intro w' hSw; go_simp; try (with_reducible rfl))
    change wpAnyH _ _ _ _ _ _ _ (Act.put _ (some 14) _) _
    try simp only [Act.put, List.setIfInBounds_toArray, List.set_cons_zero, List.set_cons_succ]
    refine wpAnyH_take (i := 4) (v := .bool true) rfl (by kernel_rfl) (by kernel_rfl) (by kernel_rfl) (fun _ _ _ h => h) (Or.inl ⟨by rfl, fun w' hSw => ex_binE .lss 3 3 (.tmp 12) (.tmp 14) rfl _ _ _ rfl rfl (lss_guard _ _ _ _ w') (lss_t k n hlt w')⟩) hS ?_
    change wpAnyH _ _ _ _ _ _ _ (Act.put _ (some 15) _) _
    try simp only [Act.put, List.setIfInBounds_toArray, List.set_cons_zero, List.set_cons_succ]
    refine wpAnyH_take (i := 5) (v := ?_) rfl (by kernel_rfl) (by kernel_rfl) (by kernel_rfl) (fun _ _ _ h => h) (Or.inl ⟨by rfl, ?_⟩) hS ?_
    rotate_left
    · (intro w' hSw; go_simp; try (with_reducible rfl))
    change wpAnyH _ _ _ _ _ _ _ (Act.put _ (some 16) _) _
    try simp only [Act.put, List.setIfInBounds_toArray, List.set_cons_zero, List.set_cons_succ]
    refine wpAnyH_take (i := 6) (v := .slice (some ⟨b, o, none⟩) n c) rfl (by kernel_rfl) (by kernel_rfl) (by kernel_rfl) (fun _ _ _ h => h) (Or.inl ⟨by rfl, fun w' hSw => ex_ldE 22 (.tmp 2) rfl _ _ rfl (by have h1 := HL2.out w' hSw; go_simp)⟩) hS ?_
    change wpAnyH _ _ _ _ _ _ _ (Act.put _ (some 17) _) _
    try simp only [Act.put, List.setIfInBounds_toArray, List.set_cons_zero, List.set_cons_succ]
    refine wpAnyH_take (i := 7) (v := ?_) rfl (by kernel_rfl) (by kernel_rfl) (by kernel_rfl) (fun _ _ _ h => h) (Or.inl ⟨by rfl, ?_⟩) hS ?_
    rotate_left
    · (intro w' hSw; go_simp; try (with_reducible rfl))
    change wpAnyH _ _ _ _ _ _ _ (Act.put _ (some 18) _) _
    try simp only [Act.put, List.setIfInBounds_toArray, List.set_cons_zero, List.set_cons_succ]
    refine wpAnyH_take (i := 8) (v := .pointer (some ⟨b, o + k * 33, none⟩)) rfl (by kernel_rfl) (by kernel_rfl) (by kernel_rfl) (fun _ _ _ h => h) (Or.inl ⟨by rfl, fun w' hSw => ex_ixE 22 (.tmp 17) (.tmp 18) rfl _ _ _ rfl rfl (ix_atM b o n c k (o + k * 33) hlt rfl w')⟩) hS ?_
    change wpAnyH _ _ _ _ _ _ _ (Act.put _ (some 19) _) _
    try simp only [Act.put, List.setIfInBounds_toArray, List.set_cons_zero, List.set_cons_succ]
    refine wpAnyH_take (i := 9) (v := .agg (Mk.c y).toArray) rfl (by kernel_rfl) (by kernel_rfl) (by kernel_rfl) (fun _ _ _ h => h) (Or.inl ⟨by rfl, fun w' hSw => ex_ldE 26 (.tmp 19) rfl _ _ rfl (ld_hsM b _ y w' (HY.out w' hSw))⟩) hS ?_
    change wpAnyH _ _ _ _ _ _ _ (Act.put _ (some 20) _) _
    try simp only [Act.put, List.setIfInBounds_toArray, List.set_cons_zero, List.set_cons_succ]
    refine wpAnyH_take (i := 10) (v := .agg (Mk.c m).toArray) rfl (by kernel_rfl) (by kernel_rfl) (by kernel_rfl) (fun _ _ _ h => h) (Or.inl ⟨by rfl, fun w' hSw => ex_ldE 26 (.tmp 3) rfl _ _ rfl (ld_hsM _ _ m w' (HM2.out w' hSw))⟩) hS ?_
    change wpAnyH _ _ _ _ _ _ _ (Act.put _ (some 21) _) _
    try simp only [Act.put, List.setIfInBounds_toArray, List.set_cons_zero, List.set_cons_succ]
    refine wpAnyH_take (i := 11) (v := .bool (decide (y = m))) rfl (by kernel_rfl) (by kernel_rfl) (by kernel_rfl) (fun _ _ _ h => h) (Or.inl ⟨by rfl, fun w' hSw => ex_binE .eql 26 26 (.tmp 20) (.tmp 21) rfl _ _ _ rfl rfl (hs_guardM _ _ _ _ _ w') (hs_eqlM y m w')⟩) hS ?_
    change wpAnyH _ _ _ _ _ _ _ (Act.put _ (some 22) _) _
    try simp only [Act.put, List.setIfInBounds_toArray, List.set_cons_zero, List.set_cons_succ]
    refine wpAnyH_take (i := 12) (v := ?_) rfl (by kernel_rfl) (by kernel_rfl) (by kernel_rfl) (fun _ _ _ h => h) (Or.inl ⟨by rfl, ?_⟩) hS ?_
    rotate_left
    · (intro w' hSw; go_simp; try (with_reducible rfl))
    change wpAnyH _ _ _ _ _ _ _ (Act.put _ (some 23) _) _
    try simp only [Act.put, List.setIfInBounds_toArray, List.set_cons_zero, List.set_cons_succ]
    refine wpAnyH_take (i := 13) (v := ?_) rfl (by kernel_rfl) (by kernel_rfl) (by kernel_rfl) (fun _ _ _ h => h) (Or.inl ⟨by rfl, ?_⟩) hS ?_
    rotate_left
    · (intro w' hSw; go_simp; try (with_reducible rfl))
    change wpAnyH _ _ _ _ _ _ _ (Act.put _ (some 4) _) _
    try simp only [Act.put, List.setIfInBounds_toArray, List.set_cons_zero, List.set_cons_succ]
    refine wpAnyH_take (i := 14) (v := ?_) rfl (by kernel_rfl) (by kernel_rfl) (by kernel_rfl) (fun _ _ _ h => h) (Or.inl ⟨by rfl, ?_⟩) hS ?_
    rotate_left
    · (intro w' hSw; go_simp; try (with_reducible rfl))
    change wpAnyH _ _ _ _ _ _ _ (Act.put _ (some 5) _) _
    try simp only [Act.put, List.setIfInBounds_toArray, List.set_cons_zero, List.set_cons_succ]
    refine wpAnyH_done (by kernel_rfl) ?_ _
    go_wp2_with fail
    go_ret2
    exact ⟨by rw [HI.out, HK.out]; rfl, HBE.out _ hS⟩
  · have HI := Lib.hid (isAt_none (D := D) (m := m) (List.getElem?_eq_none (by omega)))
    generalize hk : pl D m = k at *
    have HK := Lib.hid hk
    clear hk
    refine wp_region_held (S := fun w' : World => Below W2.heap.size W2 w') (by kernel_rfl) ?_
    change wpAnyH _ _ _ _ _ _ _ _ (World.drew _)
    have hS : (fun w' : World => Below W2.heap.size W2 w') W2.drew := hBD
    refine wpAnyH_take (i := 0) (v := ?_) rfl (by kernel_rfl) (by kernel_rfl) (by kernel_rfl) (fun _ _ _ h => h) (Or.inl ⟨by rfl, ?_⟩) hS ?_
    rotate_left
    · (intro w' hSw; go_simp; try (with_reducible rfl))
    change wpAnyH _ _ _ _ _ _ _ (Act.put _ (some 11) _) _
    try simp only [Act.put, List.setIfInBounds_toArray, List.set_cons_zero, List.set_cons_succ]
    refine wpAnyH_take (i := 1) (v := ?_) rfl (by kernel_rfl) (by kernel_rfl) (by kernel_rfl) (fun _ _ _ h => h) (Or.inl ⟨by rfl, ?_⟩) hS ?_
    rotate_left
    · (intro w' hSw; go_simp; try (with_reducible rfl))
    change wpAnyH _ _ _ _ _ _ _ (Act.put _ (some 12) _) _
    try simp only [Act.put, List.setIfInBounds_toArray, List.set_cons_zero, List.set_cons_succ]
    refine wpAnyH_take (i := 2) (v := .slice A n c) rfl (by kernel_rfl) (by kernel_rfl) (by kernel_rfl) (fun _ _ _ h => h) (Or.inl ⟨by rfl, fun w' hSw => ex_ldE 22 (.tmp 2) rfl _ _ rfl (by have h1 := HL2.out w' hSw; go_simp)⟩) hS ?_
    change wpAnyH _ _ _ _ _ _ _ (Act.put _ (some 13) _) _
    try simp only [Act.put, List.setIfInBounds_toArray, List.set_cons_zero, List.set_cons_succ]
    refine wpAnyH_take (i := 3) (v := ?_) rfl (by kernel_rfl) (by kernel_rfl) (by kernel_rfl) (fun _ _ _ h => h) (Or.inl ⟨by rfl, ?_⟩) hS ?_
    rotate_left
    · (intro w' hSw; go_simp; try (with_reducible rfl))
    change wpAnyH _ _ _ _ _ _ _ (Act.put _ (some 14) _) _
    try simp only [Act.put, List.setIfInBounds_toArray, List.set_cons_zero, List.set_cons_succ]
    refine wpAnyH_take (i := 4) (v := .bool false) rfl (by kernel_rfl) (by kernel_rfl) (by kernel_rfl) (fun _ _ _ h => h) (Or.inl ⟨by rfl, fun w' hSw => ex_binE .lss 3 3 (.tmp 12) (.tmp 14) rfl _ _ _ rfl rfl (lss_guard _ _ _ _ w') (lss_f k n hlt w')⟩) hS ?_
    change wpAnyH _ _ _ _ _ _ _ (Act.put _ (some 15) _) _
    try simp only [Act.put, List.setIfInBounds_toArray, List.set_cons_zero, List.set_cons_succ]
    refine wpAnyH_take (i := 5) (v := ?_) rfl (by kernel_rfl) (by kernel_rfl) (by kernel_rfl) (fun _ _ _ h => h) (Or.inl ⟨by rfl, ?_⟩) hS ?_
    rotate_left
    · (intro w' hSw; go_simp; try (with_reducible rfl))
    change wpAnyH _ _ _ _ _ _ _ (Act.put _ (some 16) _) _
    try simp only [Act.put, List.setIfInBounds_toArray, List.set_cons_zero, List.set_cons_succ]
    refine wpAnyH_take (i := 6) (v := undef) rfl (by kernel_rfl) (by kernel_rfl) (by kernel_rfl) (fun _ _ _ h => h) (Or.inr ⟨by rfl, rfl⟩) hS ?_
    change wpAnyH _ _ _ _ _ _ _ (Act.put _ (some 17) _) _
    try simp only [Act.put, List.setIfInBounds_toArray, List.set_cons_zero, List.set_cons_succ]
    refine wpAnyH_take (i := 7) (v := undef) rfl (by kernel_rfl) (by kernel_rfl) (by kernel_rfl) (fun _ _ _ h => h) (Or.inr ⟨by rfl, rfl⟩) hS ?_
    change wpAnyH _ _ _ _ _ _ _ (Act.put _ (some 18) _) _
    try simp only [Act.put, List.setIfInBounds_toArray, List.set_cons_zero, List.set_cons_succ]
    refine wpAnyH_take (i := 8) (v := undef) rfl (by kernel_rfl) (by kernel_rfl) (by kernel_rfl) (fun _ _ _ h => h) (Or.inr ⟨by rfl, rfl⟩) hS ?_
    change wpAnyH _ _ _ _ _ _ _ (Act.put _ (some 19) _) _
    try simp only [Act.put, List.setIfInBounds_toArray, List.set_cons_zero, List.set_cons_succ]
    refine wpAnyH_take (i := 9) (v := undef) rfl (by kernel_rfl) (by kernel_rfl) (by kernel_rfl) (fun _ _ _ h => h) (Or.inr ⟨by rfl, rfl⟩) hS ?_
    change wpAnyH _ _ _ _ _ _ _ (Act.put _ (some 20) _) _
    try simp only [Act.put, List.setIfInBounds_toArray, List.set_cons_zero, List.set_cons_succ]
    refine wpAnyH_take (i := 10) (v := undef) rfl (by kernel_rfl) (by kernel_rfl) (by kernel_rfl) (fun _ _ _ h => h) (Or.inr ⟨by rfl, rfl⟩) hS ?_
    change wpAnyH _ _ _ _ _ _ _ (Act.put _ (some 21) _) _
    try simp only [Act.put, List.setIfInBounds_toArray, List.set_cons_zero, List.set_cons_succ]
    refine wpAnyH_take (i := 11) (v := undef) rfl (by kernel_rfl) (by kernel_rfl) (by kernel_rfl) (fun _ _ _ h => h) (Or.inr ⟨by rfl, rfl⟩) hS ?_
    change wpAnyH _ _ _ _ _ _ _ (Act.put _ (some 22) _) _
    try simp only [Act.put, List.setIfInBounds_toArray, List.set_cons_zero, List.set_cons_succ]
    refine wpAnyH_take (i := 12) (v := ?_) rfl (by kernel_rfl) (by kernel_rfl) (by kernel_rfl) (fun _ _ _ h => h) (Or.inl ⟨by rfl, ?_⟩) hS ?_
    rotate_left
    · (intro w' hSw; go_simp; try (with_reducible rfl))
    change wpAnyH _ _ _ _ _ _ _ (Act.put _ (some 23) _) _
    try simp only [Act.put, List.setIfInBounds_toArray, List.set_cons_zero, List.set_cons_succ]
    refine wpAnyH_take (i := 13) (v := ?_) rfl (by kernel_rfl) (by kernel_rfl) (by kernel_rfl) (fun _ _ _ h => h) (Or.inl ⟨by rfl, ?_⟩) hS ?_
    rotate_left
    · (intro w' hSw; go_simp; try (with_reducible rfl))
    change wpAnyH _ _ _ _ _ _ _ (Act.put _ (some 4) _) _
    try simp only [Act.put, List.setIfInBounds_toArray, List.set_cons_zero, List.set_cons_succ]
    refine wpAnyH_take (i := 14) (v := ?_) rfl (by kernel_rfl) (by kernel_rfl) (by kernel_rfl) (fun _ _ _ h => h) (Or.inl ⟨by rfl, ?_⟩) hS ?_
    rotate_left
    · (intro w' hSw; go_simp; try (with_reducible rfl))
    change wpAnyH _ _ _ _ _ _ _ (Act.put _ (some 5) _) _
    try simp only [Act.put, List.setIfInBounds_toArray, List.set_cons_zero, List.set_cons_succ]
    refine wpAnyH_done (by kernel_rfl) ?_ _
    go_wp2_with fail
    go_ret2
    exact ⟨by rw [HI.out, HK.out]; rfl, HBE.out _ hS⟩

end Go.Proofs.Ytocgeemjdlnabaa
