/- line.Less, line.Place. -/
import Derived.Test.YtocgeemjdlnabaaLh
namespace Go.Proofs.Ytocgeemjdlnabaa
set_option maxRecDepth 100000
set_option linter.unusedSimpArgs false
set_option linter.unusedVariables false
open Go.RowKit

theorem grow2q (W : World) (o o' : Obj) (q : Nat) (os : Array Obj) : Sort.grow (((W.alloc o).alloc o').drewN q) os = Sort.grow (W.drewN q) (#[o, o'] ++ os) := by
  rw [Sort.alloc_eq_grow, Sort.alloc_eq_grow, Sort.grow_grow]
  show Sort.grow (Sort.grow (W.drewN q) _) os = _
  rw [Sort.grow_grow]
  rfl
theorem grow_on (W : World) (q q' : Nat) (os os' : Array Obj) : Sort.grow ((Sort.grow (W.drewN q) os).drewN q') os' = Sort.grow (W.drewN (q + q')) (os ++ os') := by
  show Sort.grow (Sort.grow ((W.drewN q).drewN q') os) os' = _
  rw [Sort.grow_grow, World.drewN_drewN]
theorem grow_drew (W : World) (q : Nat) (os : Array Obj) : Sort.grow (W.drew.drewN q) os = Sort.grow (W.drewN (1 + q)) os := by
  show Sort.grow ((W.drewN 1).drewN q) os = _
  rw [World.drewN_drewN]
theorem mk_info (a : Mk) : (Try.prog.info? 26).map (·.size) = some (Mk.c a).toArray.size := by
  rw [List.size_toArray, Mk.c_len]; kernel_rfl
set_option maxHeartbeats 1600000 in
theorem less_anyM (a b : Mk) (W : World) :
    Calls Try.prog 15 #[.agg (Mk.c a).toArray, .agg (Mk.c b).toArray] W fun e w' => e = .returned (.bool (decide (Mk.n a < Mk.n b))) ∧ ∃ q os', w' = Sort.grow (W.drewN q) os' := by
  have R1 := Lib.hid ((Row.new W (Mk.c a) 26).belowAll (below_newE _ (.cells (Mk.c b).toArray 26)))
  have R2 := Lib.hid (row_new1E W (.cells (Mk.c a).toArray 26) (Mk.c b) 26)
  have HC := Lib.hid (compare_anyM a b)
  have HI1 := Lib.hid (mk_info a)
  have HI2 := Lib.hid (mk_info b)
  have HCF := Lib.hid (Mk.cf_lt a b)
  have HG := Lib.hid (grow2q W (.cells (Mk.c a).toArray 26) (.cells (Mk.c b).toArray 26))
  generalize Mk.cf a b = r at *
  generalize hx : (Mk.c a).toArray = x at *
  generalize hy : (Mk.c b).toArray = y at *
  have R1' := Lib.hid (show ((W.alloc (.cells x 26)).alloc (.cells y 26)).heap[W.heap.size]? = some (.cells x 26 (0, 0)) from hx ▸ R1.out)
  have R2' := Lib.hid (show ((W.alloc (.cells x 26)).alloc (.cells y 26)).heap[W.heap.size + 1]? = some (.cells y 26 (0, 0)) from hy ▸ R2.out)
  go_enter Try.func15, Try.ntmps15
  go_wp2_with (first | (refine wpList_load_row rfl 26 (.tmp 2) rfl W.heap.size rfl 26 _ (0, 0) _ R1'.out Try.underlying26 rfl HI1.out ?_) | (refine wpList_load_row rfl 26 (.tmp 3) rfl (W.heap.size + 1) rfl 26 _ (0, 0) _ R2'.out Try.underlying26 rfl HI2.out ?_))
  refine (HC.out _).mono ?_
  rintro e w' ⟨rfl, q, os, rfl⟩
  go_wp2_with fail
  go_ret
  exact ⟨congrArg (fun b => Ending.returned (.bool b)) HCF.out, q, _, HG.out q os⟩
theorem lss_t (k n : Nat) (h : k < n) (w : World) : (binOp .lss 3 (.int .i64 (k : Int)) (.int .i64 (n : Int))).run Try.prog w = .ok (.bool true) w := by
  have h1 : (k : Int) < (n : Int) := by omega
  go_simp
theorem lss_f (k n : Nat) (h : ¬ k < n) (w : World) : (binOp .lss 3 (.int .i64 (k : Int)) (.int .i64 (n : Int))).run Try.prog w = .ok (.bool false) w := by
  have h1 : ¬ (k : Int) < (n : Int) := by omega
  go_simp
theorem lss_guard (x y : Operand) (u v : Value) (w : World) : (eqGuard .lss 3 x y u v).run Try.prog w = .ok () w := by rfl
theorem range_below {w w' : World} {b o B : Nat} {cs : List Value} (h : w.rangeAt b o cs) (hb : Below B w w') (hlt : b < B) : w'.rangeAt b o cs := fun j v hv => (hb.cell (p := ⟨b, o + j, none⟩) hlt).trans (h j v hv)
theorem rdh_atM {w : World} {A : Option Addr} {n : Nat} {D : List Mk} (h : RdHM w A n D) (hn : 0 < n) : ∃ b o, A = some ⟨b, o, none⟩ ∧ b < w.heap.size ∧ ∀ (i : Nat) (x : Mk), D[i]? = some x → w.rangeAt b (o + i * 33) (Mk.c x) := by
  obtain ⟨ad, rfl, hlt, hc⟩ := h.2 hn
  have h0 : D[0]? = some (D[0]'(by have := h.1; omega)) := List.getElem?_eq_getElem _
  have hf := flat_atM h0 [] (j := 0) (v := (Mk.c (D[0]'(by have := h.1; omega)))[0]'(by rw [Mk.c_len]; omega)) (List.getElem?_eq_getElem _)
  rw [List.append_nil, show 0 * 33 + 0 = 0 from rfl] at hf
  have hs := World.cell?_spot (hc _ _ hf)
  have hs' : ad.spot = none := by
    unfold Addr.add at hs
    rwa [if_pos rfl] at hs
  obtain ⟨b, o, sp⟩ := ad
  simp only at hs'
  subst hs'
  refine ⟨b, o, rfl, hlt, fun i x hx j v hv => ?_⟩
  have h1 := flat_atM hx [] hv
  rw [List.append_nil] at h1
  have h2 := hc _ _ h1
  rw [Addr.add_mid, ← Nat.add_assoc] at h2
  exact h2
theorem RdHM.keep {w w' : World} {A : Option Addr} {n : Nat} {D : List Mk} (h : RdHM w A n D) (hb : Below w.heap.size w w') : RdHM w' A n D :=
  ⟨h.1, fun hn => by
    obtain ⟨ad, e, hlt, hc⟩ := h.2 hn
    exact ⟨ad, e, Nat.lt_of_lt_of_le hlt hb.size, fun j v hv => (hb.cell (p := ad.add j) (by rw [add_block]; exact hlt)).trans (hc j v hv)⟩⟩
theorem RdHM.own {w : World} {B n : Nat} {v : Value} {D : List Mk} (h : w.ownsRow B 26 33 v n (flatM D)) : ∃ A c, v = .slice A n c ∧ RdHM w A n D := by
  have hl := h.1
  rw [flat_lengthM] at hl
  have hl' : D.length = n := by omega
  rcases h.2 with ⟨rfl, h0⟩ | ⟨g, cap, cur, rfl, _, hh, h1, _, h3, h4⟩
  · subst h0; exact ⟨none, 0, rfl, hl', fun h => absurd h (by omega)⟩
  · refine ⟨_, cap, rfl, hl', fun _ => ⟨_, rfl, by exact (Array.getElem?_eq_some_iff.1 hh).1, fun j u hj => ?_⟩⟩
    have e : (⟨g, 0, none⟩ : Addr).add j = ⟨g, j, none⟩ := by unfold Addr.add; split <;> simp_all
    rw [e]
    have hr : Row w g 26 (flatM D ++ cur.toList.drop (n * 33)) := by
      show w.heap[g]? = _
      rw [← h4, List.take_append_drop]
      exact hh
    refine hr.cell ?_
    rw [List.getElem?_append_left (List.getElem?_eq_some_iff.1 hj).1]
    exact hj
theorem RdHM.rowM {w : World} {g n : Nat} {T : TypeId} {D : List Mk} {R : List Value} (h : Row w g T (flatM D ++ R)) (hn : D.length = n) : RdHM w (some ⟨g, 0, none⟩) n D :=
  ⟨hn, fun _ => ⟨_, rfl, h.lt, fun j u hj => by
    have e : (⟨g, 0, none⟩ : Addr).add j = ⟨g, j, none⟩ := by unfold Addr.add; split <;> simp_all
    rw [e]
    refine h.cell ?_
    rw [List.getElem?_append_left (List.getElem?_eq_some_iff.1 hj).1]
    exact hj⟩⟩
set_option maxHeartbeats 3200000 in
theorem place1_any (x m : Mk) (bl bm b o n c i : Nat) (W : World) (hi : i < n) (hsm : n < 4611686018427387904) (hl : W.cell? ⟨bl, 0, none⟩ = some (.slice (some ⟨b, o, none⟩) n c)) (hbl : bl < W.heap.size) (hx : W.rangeAt b (o + i * 33) (Mk.c x)) (hb : b < W.heap.size) (hm : W.rangeAt bm 0 (Mk.c m)) (hbm : bm < W.heap.size) :
    Calls Try.prog 29 #[.int .i64 (i : Int), .pointer (some ⟨bl, 0, none⟩), .pointer (some ⟨bm, 0, none⟩)] W fun e w' => e = .returned (.bool (!decide (Mk.n x < Mk.n m))) ∧ ∃ q os', w' = Sort.grow (W.drewN q) os' := by
  have hii : (i : Int) < (n : Int) := by omega
  have hii0 : (0 : Int) ≤ (i : Int) := by omega
  have HL := Lib.hid (fun (w' : World) (h : Below W.heap.size W w') => (h.cell (p := ⟨bl, 0, none⟩) hbl).trans hl)
  have HX := Lib.hid (fun (w' : World) (h : Below W.heap.size W w') => range_below hx h hb)
  have HM := Lib.hid (fun (w' : World) (h : Below W.heap.size W w') => range_below hm h hbm)
  have HLE := Lib.hid (less_anyM x m)
  have HG := Lib.hid (grow_drew W)
  have hBD : Below W.heap.size W W.drew := (Below.refl _ _).drew
  generalize decide (Mk.n x < Mk.n m) = r at *
  clear hl hx hm
  go_enter Try.func29, Try.ntmps29
  go_wp2_with fail
  refine wp_region_held (S := fun w' : World => Below W.heap.size W w') (by kernel_rfl) ?_
  change wpAnyH _ _ _ _ _ _ _ _ (World.drew _)
  have hS : (fun w' : World => Below W.heap.size W w') W.drew := hBD
  refine wpAnyH_take (i := 0) (v := .slice (some ⟨b, o, none⟩) n c) rfl (by kernel_rfl) (by kernel_rfl) (by kernel_rfl) (fun _ _ _ h => h) (Or.inl ⟨by rfl, fun w' hSw => ex_ldE 22 (.tmp 1) rfl _ _ rfl (by have h1 := HL.out w' hSw; go_simp)⟩) hS ?_
  change wpAnyH _ _ _ _ _ _ _ (Act.put _ (some 5) _) _
  try simp only [Act.put, List.setIfInBounds_toArray, List.set_cons_zero, List.set_cons_succ]
  refine wpAnyH_take (i := 1) (v := ?_) rfl (by kernel_rfl) (by kernel_rfl) (by kernel_rfl) (fun _ _ _ h => h) (Or.inl ⟨by rfl, ?_⟩) hS ?_
  rotate_left
  · (intro w' hSw; go_simp; try (with_reducible rfl))
  change wpAnyH _ _ _ _ _ _ _ (Act.put _ (some 6) _) _
  try simp only [Act.put, List.setIfInBounds_toArray, List.set_cons_zero, List.set_cons_succ]
  refine wpAnyH_take (i := 2) (v := .pointer (some ⟨b, o + i * 33, none⟩)) rfl (by kernel_rfl) (by kernel_rfl) (by kernel_rfl) (fun _ _ _ h => h) (Or.inl ⟨by rfl, fun w' hSw => ex_ixE 22 (.tmp 5) (.tmp 6) rfl _ _ _ rfl rfl (ix_atM b o n c i (o + i * 33) hi rfl w')⟩) hS ?_
  change wpAnyH _ _ _ _ _ _ _ (Act.put _ (some 7) _) _
  try simp only [Act.put, List.setIfInBounds_toArray, List.set_cons_zero, List.set_cons_succ]
  refine wpAnyH_take (i := 3) (v := .agg (Mk.c x).toArray) rfl (by kernel_rfl) (by kernel_rfl) (by kernel_rfl) (fun _ _ _ h => h) (Or.inl ⟨by rfl, fun w' hSw => ex_ldE 26 (.tmp 7) rfl _ _ rfl (ld_hsM b _ x w' (HX.out w' hSw))⟩) hS ?_
  change wpAnyH _ _ _ _ _ _ _ (Act.put _ (some 8) _) _
  try simp only [Act.put, List.setIfInBounds_toArray, List.set_cons_zero, List.set_cons_succ]
  refine wpAnyH_take (i := 4) (v := .agg (Mk.c m).toArray) rfl (by kernel_rfl) (by kernel_rfl) (by kernel_rfl) (fun _ _ _ h => h) (Or.inl ⟨by rfl, fun w' hSw => ex_ldE 26 (.tmp 2) rfl _ _ rfl (ld_hsM bm _ m w' (HM.out w' hSw))⟩) hS ?_
  change wpAnyH _ _ _ _ _ _ _ (Act.put _ (some 9) _) _
  try simp only [Act.put, List.setIfInBounds_toArray, List.set_cons_zero, List.set_cons_succ]
  refine wpAnyH_ready (rs := [5]) (by kernel_rfl) (by simp) ?_
  refine AllReadyH.cons rfl (fun K hK => ?_) AllReadyH.nil
  rw [if_pos (by kernel_rfl)]
  go_simp
  refine (HLE.out _).mono ?_
  rintro e w1 ⟨rfl, q, os, rfl⟩
  refine hK.out _ _ (hS.trans ((below_growE _ _ _).mono hS.size)) (fun hS1 => ?_)
  clear hK K hS
  have hS := hS1
  clear hS1
  try simp only [Act.put, List.setIfInBounds_toArray, List.set_cons_zero, List.set_cons_succ]
  refine wpAnyH_take (i := 6) (v := ?_) rfl (by kernel_rfl) (by kernel_rfl) (by kernel_rfl) (fun _ _ _ h => h) (Or.inl ⟨by rfl, ?_⟩) hS ?_
  rotate_left
  · (intro w' hSw; go_simp; try (with_reducible rfl))
  change wpAnyH _ _ _ _ _ _ _ (Act.put _ (some 11) _) _
  try simp only [Act.put, List.setIfInBounds_toArray, List.set_cons_zero, List.set_cons_succ]
  refine wpAnyH_take (i := 7) (v := ?_) rfl (by kernel_rfl) (by kernel_rfl) (by kernel_rfl) (fun _ _ _ h => h) (Or.inl ⟨by rfl, ?_⟩) hS ?_
  rotate_left
  · (intro w' hSw; go_simp; try (with_reducible rfl))
  change wpAnyH _ _ _ _ _ _ _ (Act.put _ (some 4) _) _
  try simp only [Act.put, List.setIfInBounds_toArray, List.set_cons_zero, List.set_cons_succ]
  refine wpAnyH_done (by kernel_rfl) ?_ _
  go_wp2_with fail
  go_ret
  exact ⟨rfl, _, _, HG.out q os⟩

end Go.Proofs.Ytocgeemjdlnabaa
