/- The document's Less, Insert, Sort. -/
import Derived.Test.YtocgeemjdlnabaaLm
import Derived.Test.YtocgeemjdlnabaaEc
import Derived.BigFrame
namespace Go.Proofs.Ytocgeemjdlnabaa
set_option maxRecDepth 100000
set_option linter.unusedSimpArgs false
set_option linter.unusedVariables false
open Go.RowKit

theorem wpList_load_want {P : Program} {ops : Array Oper} {rest : List Oper} {op : Oper} {a : Act} {w : World} {Q : Exit → Act → World → Prop} (hw : Region.wanted op (yielded ops a.tmps) = true) (ty : TypeId) (x : Operand) (ho : op.op = .load ty x)
    (b o : Nat) (hx : a.eval x = .pointer (some ⟨b, o, none⟩)) (cs : List Value) (d : TypeDesc) (hc : w.rangeAt b o cs)
    (hu : P.underlying ty = some d) (hd : d.isRow = true) (hi : (P.info? ty).map (·.size) = some cs.length)
    (h : wpList P ops Q rest (a.put op.dst (.agg cs.toArray)) w) : wpList P ops Q (op :: rest) a w :=
  BigFrame.wpList_want hw fun _ hK => wp_load_mid ty x ho b o hx cs d hc hu hd hi (hK _ _ h)
set_option maxHeartbeats 1600000 in
theorem rless_anyM (a b : Mk) (W : World) :
    Calls Try.prog 16 #[.agg (Mk.c a).toArray, .agg (Mk.c b).toArray] W fun e w' => e = .returned (.bool (decide (Mk.n a < Mk.n b))) ∧ Below W.heap.size W w' := by
  have HB := Lib.hid ((below_newE W (.cells (Mk.c a).toArray 26)).alloc (by simp) (.cells (Mk.c b).toArray 26))
  have R1 := (Row.new W (Mk.c a) 26).belowAll (below_newE _ (.cells (Mk.c b).toArray 26))
  have R2 := row_new1E W (.cells (Mk.c a).toArray 26) (Mk.c b) 26
  obtain ⟨c1, r1⟩ := mk_one a _ _ _ R1
  obtain ⟨c2, r2⟩ := mk_one b _ _ _ R2
  have HR1 := Lib.hid r1
  have HR2 := Lib.hid r2
  have HI1 := Lib.hid (hs_sizeE a.2)
  have HI2 := Lib.hid (hs_sizeE b.2)
  have HL := Lib.hid (rless_any a.2 b.2)
  have hlt := Mk.lt_iff a b
  clear R1 R2 r1 r2
  generalize hx : (Mk.c a).toArray = x at *
  generalize hy : (Mk.c b).toArray = y at *
  generalize hd1 : a.1 = d1 at *
  generalize hd2 : b.1 = d2 at *
  clear hx hy hd1 hd2
  by_cases h1 : d1 < d2
  · have HC := Lib.hid (show decide (Mk.n a < Mk.n b) = true from decide_eq_true (hlt.2 (Or.inl h1)))
    rw [HC.out]
    clear hlt HC
    go_enter Try.func16, Try.ntmps16
    go_wp2_with fail
    go_ret
    exact ⟨rfl, HB.out⟩
  · by_cases h2 : d1 = d2
    · subst h2
      have HC := Lib.hid (show decide (Mk.n a < Mk.n b) = decide (a.2.n < b.2.n) by rw [Bool.eq_iff_iff, decide_eq_true_iff, decide_eq_true_iff, hlt]; omega)
      rw [HC.out]
      clear hlt HC
      generalize decide (a.2.n < b.2.n) = r at *
      go_enter Try.func16, Try.ntmps16
      go_wp2_with (first | (refine wpList_load_want rfl 24 (.tmp 17) rfl W.heap.size 1 rfl a.2.c _ HR1.out Try.underlying24 rfl HI1.out ?_) | (refine wpList_load_want rfl 24 (.tmp 19) rfl (W.heap.size + 1) 1 rfl b.2.c _ HR2.out Try.underlying24 rfl HI2.out ?_))
      refine (HL.out _).mono ?_
      rintro e w' ⟨rfl, hb⟩
      have HB2 := Lib.hid (HB.out.trans (hb.mono HB.out.size))
      clear hb
      go_wp2_with fail
      go_ret
      exact ⟨rfl, HB2.out⟩
    · have HC := Lib.hid (show decide (Mk.n a < Mk.n b) = false from decide_eq_false (by rw [hlt]; omega))
      rw [HC.out]
      clear hlt HC
      go_enter Try.func16, Try.ntmps16
      go_wp2_with fail
      go_ret
      exact ⟨rfl, HB.out⟩

theorem wp_append_rdz {P : Program} {o : Oper} {a : Act} {w : World} {K : Act → World → Prop} {Q : Exit → Act → World → Prop} (s x : Operand) (t : TypeId)
    (ho : o.op = .call { callee := .builtin .append, args := #[s, x], argTypes := #[t, t] })
    (base : Nat) (e : TypeId) (i : TypeInfo) (z : Value) (sz bytes : Nat) (ht : P.underlying t = some (.slice e)) (hi : P.info? e = some i) (hz : i.zero = some z)
    (hsize : i.size = sz) (hby : i.bytes = bytes) (hzs : z.cells.size = sz) (hsz : 0 < sz) (v : Value) (n : Nat) (xs : List Value) (hs : a.eval s = v) (hown : w.ownsRow base e sz v n xs)
    (A : Option Addr) (m c : Nat) (news : List Value) (hx : a.eval x = .slice A m c) (hl : news.length = m * sz) (hr : 0 < m → ∃ ad : Addr, A = some ad ∧ ∀ j u, news[j]? = some u → w.cell? (ad.add j) = some u) (h1 : ∀ u ∈ news, u.oneCell' = true)
    (h63 : n + m ≤ maxLen) (hbytes : (n + m) * bytes ≤ 140737488355328) (hbase : base ≤ w.heap.size)
    (h : ∀ v' w', w'.ownsRow base e sz v' (n + m) (xs ++ news) → w.grownBy w' v.ownBlock → K (a.put o.dst v') w') : o.wp P a w K Q := by
  obtain ⟨v', w', hrun, h2, h3⟩ := append_rdz (P := P) w base t o.type e i z sz bytes ht hi hz hsize hby hzs hsz v n xs hown A m c news hl hr h1 h63 hbytes hbase
  unfold Oper.wp execOp
  simp only [ho, resolve, invoke, builtin, Sem.run_bind, Sem.run_pure, Result.andThen_ok, List.map_toArray, List.map_cons, List.map_nil, hs, hx, hrun]
  exact h v' w' h2 h3
theorem wp_build0 {o : Oper} {a : Act} {w : World} {K : Act → World → Prop} {Q : Exit → Act → World → Prop} (ho : o.op = .buildSlice 22 0 #[])
    (h : K (a.put o.dst (.slice (some ⟨w.heap.size, 0, none⟩) 0 0)) (w.alloc (.cells #[] 26))) : o.wp Try.prog a w K Q := by
  obtain ⟨ie, hie, hz, hs, _⟩ := hash_infoM
  have hu := Try.underlying22
  unfold Oper.wp execOp
  simp [ho, Instr.buildSlice, run_underlying hu, sizeOf, typeInfo, hie, newRow, Instr.fill]
  rw [Oper.upon_value]
  have e : ∀ f : Nat → Value, Array.map f (Array.range 0) = #[] := fun f => by simp
  rw [e]
  exact h
theorem RdHM.cells {w : World} {A : Option Addr} {n : Nat} {D : List Mk} (h : RdHM w A n D) : 0 < n → ∃ ad : Addr, A = some ad ∧ ∀ j u, (flatM D)[j]? = some u → w.cell? (ad.add j) = some u := fun h0 => by
  obtain ⟨ad, e, _, hc⟩ := h.2 h0
  exact ⟨ad, e, hc⟩
theorem below_grownM {w w' w0 : World} {B : Nat} {v : Value} (hb : Below B w0 w) (hg : w.grownBy w' v.ownBlock) (hB : B ≤ w.heap.size) (hv : ∀ k, v.ownBlock = some k → B ≤ k) : Below B w0 w' := hb.grown hg hB hv
theorem own_pln {w : World} {B n : Nat} {v : Value} {D : List Mk} (h : w.ownsRow B 26 33 v n (flatM D)) : ∃ A c, v = .slice A n c ∧ RdHM w A n D ∧ Pln A ∧ n ≤ c := by
  obtain ⟨A, c, rfl, hr⟩ := RdHM.own h
  refine ⟨A, c, rfl, hr, ?_⟩
  rcases h.2 with ⟨e, h0⟩ | ⟨g, cap, cur, e, _, _, h1, _⟩
  · injection e with e1 e2 e3; exact ⟨Or.inl e1, by omega⟩
  · injection e with e1 e2 e3; exact ⟨Or.inr ⟨g, 0, e1⟩, by omega⟩
theorem new_own (w : World) (m : Mk) {B : Nat} (hB : B ≤ w.heap.size) : (w.alloc (.cells (Mk.c m).toArray 26)).ownsRow B 26 33 (.slice (some ⟨w.heap.size, 0, none⟩) 1 1) 1 (flatM [m]) :=
  row_ownM (L := [m]) (R := []) hB (by rw [List.append_nil, flat_singleM]; exact Row.new w (Mk.c m) _) (by rw [List.append_nil, flat_lengthM]; rfl) (Nat.le_refl _) (by unfold maxLen; omega)
theorem own0 (w : World) {B : Nat} (hB : B ≤ w.heap.size) : (w.alloc (.cells #[] 26)).ownsRow B 26 33 (.slice (some ⟨w.heap.size, 0, none⟩) 0 0) 0 [] :=
  World.ownsRow_made w #[] 0 hB (Nat.zero_le _) (by simp)
set_option maxHeartbeats 6400000 in
theorem rinsert_any (A : Option Addr) (n c : Nat) (D : List Mk) (m : Mk) (w : World) (hr : RdHM w A n D) (hA : Pln A) (hnc : n ≤ c) (hn : n ≤ 900000) :
    Calls Try.prog 17 #[.slice A n c, .agg (Mk.c m).toArray] w fun e w' => ∃ A' n' c', e = .returned (.tuple #[.slice A' n' c', .int .i64 (pl D m : Int), .bool (!isAt D m)]) ∧ RdHM w' A' n' (ins D m) ∧ Pln A' ∧ n' ≤ c' ∧ Below w.heap.size w w' := by
  have hDn := hr.1
  have hpl := pl_le D m
  have HB0 := Lib.hid (below_newE w (.cells (Mk.c m).toArray 26))
  have R1 := Row.new w (Mk.c m) 26
  have hs0 : (w.alloc (.cells (Mk.c m).toArray 26)).heap.size = w.heap.size + 1 := by simp
  have HR0 := Lib.hid (hr.keep HB0.out)
  have HM0 := Lib.hid (show (w.alloc (.cells (Mk.c m).toArray 26)).rangeAt w.heap.size 0 (Mk.c m) from fun j v hv => R1.cell (by rw [Nat.zero_add]; exact hv))
  have HLE := Lib.hid (fun x => rless_anyM x m)
  clear hr R1
  obtain ⟨b, o, hAe, hbl, hc⟩ : ∃ b o, (0 < n → A = some ⟨b, o, none⟩) ∧ (0 < n → b < (w.alloc (.cells (Mk.c m).toArray 26)).heap.size) ∧ ∀ (i : Nat) (x : Mk), D[i]? = some x → (w.alloc (.cells (Mk.c m).toArray 26)).rangeAt b (o + i * 33) (Mk.c x) := by
    rcases Nat.eq_zero_or_pos n with h0 | h0
    · refine ⟨0, 0, fun h => absurd h (by omega), fun h => absurd h (by omega), fun i x hx => ?_⟩
      have := (List.getElem?_eq_some_iff.1 hx).1
      omega
    · obtain ⟨b, o, h1, h2, h3⟩ := rdh_atM HR0.out h0
      exact ⟨b, o, fun _ => h1, fun _ => h2, h3⟩
  have HX0 := Lib.hid hc
  clear hc
  go_enter Try.func17, Try.ntmps17
  go_wp2_with fail
  generalize hW0 : (w.alloc (.cells (Mk.c m).toArray 26)) = W0 at *
  have HXX := Lib.hid (fun (w' : World) (h : Below W0.heap.size W0 w') (i : Nat) (x : Mk) (hx : D[i]? = some x) => (show w'.rangeAt b (o + i * 33) (Mk.c x) from
    range_below (HX0.out i x hx) h (hbl (by have := (List.getElem?_eq_some_iff.1 hx).1; omega))))
  have HMM := Lib.hid (fun (w' : World) (h : Below W0.heap.size W0 w') => range_below HM0.out h (by omega))
  go_loopw [7] (fun v wr => ∃ k : Nat, k ≤ n ∧ k ≤ pl D m ∧ v = .int .i64 (k : Int) ∧ Below W0.heap.size W0 wr) (fun v _ => n - (intOf v).toNat)
  case atStart => exact ⟨0, by omega, by omega, rfl, Below.refl _ _⟩
  case round =>
    obtain ⟨k, hkn, hkp, rfl, hb⟩ := hrel
    have hbd : Below W0.heap.size W0 wr.drew := hb.drew
    by_cases hlt : k < n
    · have hx : D[k]? = some (D[k]'(by omega)) := List.getElem?_eq_getElem _
      generalize (D[k]'(by omega)) = x at hx
      have HX := Lib.hid (fun (w' : World) (h : Below W0.heap.size W0 w') => HXX.out w' h k x hx)
      obtain rfl : A = some ⟨b, o, none⟩ := hAe (by omega)
      have hw : IntKind.i64.wrap ((k : Int) + 1) = ((k + 1 : Nat) : Int) := by rw [IntKind.wrap_i64]; omega
      by_cases hxm : Mk.n x < Mk.n m
      · have HN := Lib.hid (pl_next hkp hx hxm)
        have HLX := Lib.hid (show ∀ W : World, Calls Try.prog 16 #[.agg (Mk.c x).toArray, .agg (Mk.c m).toArray] W fun e w' => e = .returned (.bool true) ∧ Below W.heap.size W w' from fun W => by have := HLE.out x W; rwa [decide_eq_true hxm] at this)
        clear hx hxm
        go_wp2_with fail
        refine wp_region_held (S := fun w' : World => Below W0.heap.size W0 w') (by kernel_rfl) ?_
        change wpAnyH _ _ _ _ _ _ _ _ (World.drew _)
        have hS : (fun w' : World => Below W0.heap.size W0 w') wr.drew := hbd
        refine wpAnyH_take (i := 0) (v := ?_) rfl (by kernel_rfl) (by kernel_rfl) (by kernel_rfl) (fun _ _ _ h => h) (Or.inl ⟨by rfl, ?_⟩) hS ?_
        rotate_left
        · (intro w' hSw; go_simp; try (with_reducible rfl))
        change wpAnyH _ _ _ _ _ _ _ (Act.put _ (some 9) _) _
        try simp only [Act.put, List.setIfInBounds_toArray, List.set_cons_zero, List.set_cons_succ]
        refine wpAnyH_take (i := 1) (v := ?_) rfl (by kernel_rfl) (by kernel_rfl) (by kernel_rfl) (fun _ _ _ h => h) (Or.inl ⟨by rfl, ?_⟩) hS ?_
        rotate_left
        · (intro w' hSw; go_simp; try (with_reducible rfl))
        change wpAnyH _ _ _ _ _ _ _ (Act.put _ (some 10) _) _
        try simp only [Act.put, List.setIfInBounds_toArray, List.set_cons_zero, List.set_cons_succ]
        refine wpAnyH_take (i := 2) (v := ?_) rfl (by kernel_rfl) (by kernel_rfl) (by kernel_rfl) (fun _ _ _ h => h) (Or.inl ⟨by rfl, ?_⟩) hS ?_
        rotate_left
        · (intro w' hSw; go_simp; try (with_reducible rfl))
        change wpAnyH _ _ _ _ _ _ _ (Act.put _ (some 11) _) _
        try simp only [Act.put, List.setIfInBounds_toArray, List.set_cons_zero, List.set_cons_succ]
        refine wpAnyH_take (i := 3) (v := .bool true) rfl (by kernel_rfl) (by kernel_rfl) (by kernel_rfl) (fun _ _ _ h => h) (Or.inl ⟨by rfl, fun w' hSw => ex_binE .lss 3 3 (.tmp 9) (.tmp 11) rfl _ _ _ rfl rfl (lss_guard _ _ _ _ w') (lss_t k n hlt w')⟩) hS ?_
        change wpAnyH _ _ _ _ _ _ _ (Act.put _ (some 12) _) _
        try simp only [Act.put, List.setIfInBounds_toArray, List.set_cons_zero, List.set_cons_succ]
        refine wpAnyH_take (i := 4) (v := ?_) rfl (by kernel_rfl) (by kernel_rfl) (by kernel_rfl) (fun _ _ _ h => h) (Or.inl ⟨by rfl, ?_⟩) hS ?_
        rotate_left
        · (intro w' hSw; go_simp; try (with_reducible rfl))
        change wpAnyH _ _ _ _ _ _ _ (Act.put _ (some 13) _) _
        try simp only [Act.put, List.setIfInBounds_toArray, List.set_cons_zero, List.set_cons_succ]
        refine wpAnyH_take (i := 5) (v := ?_) rfl (by kernel_rfl) (by kernel_rfl) (by kernel_rfl) (fun _ _ _ h => h) (Or.inl ⟨by rfl, ?_⟩) hS ?_
        rotate_left
        · (intro w' hSw; go_simp; try (with_reducible rfl))
        change wpAnyH _ _ _ _ _ _ _ (Act.put _ (some 14) _) _
        try simp only [Act.put, List.setIfInBounds_toArray, List.set_cons_zero, List.set_cons_succ]
        refine wpAnyH_take (i := 6) (v := ?_) rfl (by kernel_rfl) (by kernel_rfl) (by kernel_rfl) (fun _ _ _ h => h) (Or.inl ⟨by rfl, ?_⟩) hS ?_
        rotate_left
        · (intro w' hSw; go_simp; try (with_reducible rfl))
        change wpAnyH _ _ _ _ _ _ _ (Act.put _ (some 15) _) _
        try simp only [Act.put, List.setIfInBounds_toArray, List.set_cons_zero, List.set_cons_succ]
        refine wpAnyH_take (i := 7) (v := .pointer (some ⟨b, o + k * 33, none⟩)) rfl (by kernel_rfl) (by kernel_rfl) (by kernel_rfl) (fun _ _ _ h => h) (Or.inl ⟨by rfl, fun w' hSw => ex_ixE 22 (.tmp 14) (.tmp 15) rfl _ _ _ rfl rfl (ix_atM b o n c k (o + k * 33) hlt rfl w')⟩) hS ?_
        change wpAnyH _ _ _ _ _ _ _ (Act.put _ (some 16) _) _
        try simp only [Act.put, List.setIfInBounds_toArray, List.set_cons_zero, List.set_cons_succ]
        refine wpAnyH_take (i := 8) (v := .agg (Mk.c x).toArray) rfl (by kernel_rfl) (by kernel_rfl) (by kernel_rfl) (fun _ _ _ h => h) (Or.inl ⟨by rfl, fun w' hSw => ex_ldE 26 (.tmp 16) rfl _ _ rfl (ld_hsM b _ x w' (HX.out w' hSw))⟩) hS ?_
        change wpAnyH _ _ _ _ _ _ _ (Act.put _ (some 17) _) _
        try simp only [Act.put, List.setIfInBounds_toArray, List.set_cons_zero, List.set_cons_succ]
        refine wpAnyH_take (i := 9) (v := .agg (Mk.c m).toArray) rfl (by kernel_rfl) (by kernel_rfl) (by kernel_rfl) (fun _ _ _ h => h) (Or.inl ⟨by rfl, fun w' hSw => ex_ldE 26 (.tmp 3) rfl _ _ rfl (ld_hsM _ _ m w' (HMM.out w' hSw))⟩) hS ?_
        change wpAnyH _ _ _ _ _ _ _ (Act.put _ (some 18) _) _
        try simp only [Act.put, List.setIfInBounds_toArray, List.set_cons_zero, List.set_cons_succ]
        refine wpAnyH_ready (rs := [10]) (by kernel_rfl) (by simp) ?_
        refine AllReadyH.cons rfl (fun K hK => ?_) AllReadyH.nil
        rw [if_pos (by kernel_rfl)]
        go_simp
        refine (HLX.out _).mono ?_
        rintro e w1 ⟨rfl, hb1⟩
        refine hK.out _ _ (hS.trans (hb1.mono hS.size)) (fun hS1 => ?_)
        clear hK K hS
        have hS := hS1
        clear hS1
        try simp only [Act.put, List.setIfInBounds_toArray, List.set_cons_zero, List.set_cons_succ]
        refine wpAnyH_take (i := 11) (v := ?_) rfl (by kernel_rfl) (by kernel_rfl) (by kernel_rfl) (fun _ _ _ h => h) (Or.inl ⟨by rfl, ?_⟩) hS ?_
        rotate_left
        · (intro w' hSw; go_simp; try (with_reducible rfl))
        change wpAnyH _ _ _ _ _ _ _ (Act.put _ (some 20) _) _
        try simp only [Act.put, List.setIfInBounds_toArray, List.set_cons_zero, List.set_cons_succ]
        refine wpAnyH_done (by kernel_rfl) ?_ _
        go_wp2_with fail
        go_roundw
        case rel => exact ⟨k + 1, by omega, HN.out, by go_num, hS⟩
        case measure => simp [intOf] <;> omega
      · have hk : k = pl D m := pl_eq (by omega) hkp (fun y hy => by rw [hx] at hy; cases hy; exact hxm)
        have HLX := Lib.hid (show ∀ W : World, Calls Try.prog 16 #[.agg (Mk.c x).toArray, .agg (Mk.c m).toArray] W fun e w' => e = .returned (.bool false) ∧ Below W.heap.size W w' from fun W => by have := HLE.out x W; rwa [decide_eq_false hxm] at this)
        have HI := Lib.hid (show isAt D m = decide (x = m) from isAt_some (hk ▸ hx))
        clear hx hxm
        have HK := Lib.hid hk
        clear hk
        go_wp2_with fail
        refine wp_region_held (S := fun w' : World => Below W0.heap.size W0 w') (by kernel_rfl) ?_
        change wpAnyH _ _ _ _ _ _ _ _ (World.drew _)
        have hS : (fun w' : World => Below W0.heap.size W0 w') wr.drew := hbd
        refine wpAnyH_take (i := 0) (v := ?_) rfl (by kernel_rfl) (by kernel_rfl) (by kernel_rfl) (fun _ _ _ h => h) (Or.inl ⟨by rfl, ?_⟩) hS ?_
        rotate_left
        · (intro w' hSw; go_simp; try (with_reducible rfl))
        change wpAnyH _ _ _ _ _ _ _ (Act.put _ (some 9) _) _
        try simp only [Act.put, List.setIfInBounds_toArray, List.set_cons_zero, List.set_cons_succ]
        refine wpAnyH_take (i := 1) (v := ?_) rfl (by kernel_rfl) (by kernel_rfl) (by kernel_rfl) (fun _ _ _ h => h) (Or.inl ⟨by rfl, ?_⟩) hS ?_
        rotate_left
        · (intro w' hSw; go_simp; try (with_reducible rfl))
        change wpAnyH _ _ _ _ _ _ _ (Act.put _ (some 10) _) _
        try simp only [Act.put, List.setIfInBounds_toArray, List.set_cons_zero, List.set_cons_succ]
        refine wpAnyH_take (i := 2) (v := ?_) rfl (by kernel_rfl) (by kernel_rfl) (by kernel_rfl) (fun _ _ _ h => h) (Or.inl ⟨by rfl, ?_⟩) hS ?_
        rotate_left
        · (intro w' hSw; go_simp; try (with_reducible rfl))
        change wpAnyH _ _ _ _ _ _ _ (Act.put _ (some 11) _) _
        try simp only [Act.put, List.setIfInBounds_toArray, List.set_cons_zero, List.set_cons_succ]
        refine wpAnyH_take (i := 3) (v := .bool true) rfl (by kernel_rfl) (by kernel_rfl) (by kernel_rfl) (fun _ _ _ h => h) (Or.inl ⟨by rfl, fun w' hSw => ex_binE .lss 3 3 (.tmp 9) (.tmp 11) rfl _ _ _ rfl rfl (lss_guard _ _ _ _ w') (lss_t k n hlt w')⟩) hS ?_
        change wpAnyH _ _ _ _ _ _ _ (Act.put _ (some 12) _) _
        try simp only [Act.put, List.setIfInBounds_toArray, List.set_cons_zero, List.set_cons_succ]
        refine wpAnyH_take (i := 4) (v := ?_) rfl (by kernel_rfl) (by kernel_rfl) (by kernel_rfl) (fun _ _ _ h => h) (Or.inl ⟨by rfl, ?_⟩) hS ?_
        rotate_left
        · (intro w' hSw; go_simp; try (with_reducible rfl))
        change wpAnyH _ _ _ _ _ _ _ (Act.put _ (some 13) _) _
        try simp only [Act.put, List.setIfInBounds_toArray, List.set_cons_zero, List.set_cons_succ]
        refine wpAnyH_take (i := 5) (v := ?_) rfl (by kernel_rfl) (by kernel_rfl) (by kernel_rfl) (fun _ _ _ h => h) (Or.inl ⟨by rfl, ?_⟩) hS ?_
        rotate_left
        · (intro w' hSw; go_simp; try (with_reducible rfl))
        change wpAnyH _ _ _ _ _ _ _ (Act.put _ (some 14) _) _
        try simp only [Act.put, List.setIfInBounds_toArray, List.set_cons_zero, List.set_cons_succ]
        refine wpAnyH_take (i := 6) (v := ?_) rfl (by kernel_rfl) (by kernel_rfl) (by kernel_rfl) (fun _ _ _ h => h) (Or.inl ⟨by rfl, ?_⟩) hS ?_
        rotate_left
        · (intro w' hSw; go_simp; try (with_reducible rfl))
        change wpAnyH _ _ _ _ _ _ _ (Act.put _ (some 15) _) _
        try simp only [Act.put, List.setIfInBounds_toArray, List.set_cons_zero, List.set_cons_succ]
        refine wpAnyH_take (i := 7) (v := .pointer (some ⟨b, o + k * 33, none⟩)) rfl (by kernel_rfl) (by kernel_rfl) (by kernel_rfl) (fun _ _ _ h => h) (Or.inl ⟨by rfl, fun w' hSw => ex_ixE 22 (.tmp 14) (.tmp 15) rfl _ _ _ rfl rfl (ix_atM b o n c k (o + k * 33) hlt rfl w')⟩) hS ?_
        change wpAnyH _ _ _ _ _ _ _ (Act.put _ (some 16) _) _
        try simp only [Act.put, List.setIfInBounds_toArray, List.set_cons_zero, List.set_cons_succ]
        refine wpAnyH_take (i := 8) (v := .agg (Mk.c x).toArray) rfl (by kernel_rfl) (by kernel_rfl) (by kernel_rfl) (fun _ _ _ h => h) (Or.inl ⟨by rfl, fun w' hSw => ex_ldE 26 (.tmp 16) rfl _ _ rfl (ld_hsM b _ x w' (HX.out w' hSw))⟩) hS ?_
        change wpAnyH _ _ _ _ _ _ _ (Act.put _ (some 17) _) _
        try simp only [Act.put, List.setIfInBounds_toArray, List.set_cons_zero, List.set_cons_succ]
        refine wpAnyH_take (i := 9) (v := .agg (Mk.c m).toArray) rfl (by kernel_rfl) (by kernel_rfl) (by kernel_rfl) (fun _ _ _ h => h) (Or.inl ⟨by rfl, fun w' hSw => ex_ldE 26 (.tmp 3) rfl _ _ rfl (ld_hsM _ _ m w' (HMM.out w' hSw))⟩) hS ?_
        change wpAnyH _ _ _ _ _ _ _ (Act.put _ (some 18) _) _
        try simp only [Act.put, List.setIfInBounds_toArray, List.set_cons_zero, List.set_cons_succ]
        refine wpAnyH_ready (rs := [10]) (by kernel_rfl) (by simp) ?_
        refine AllReadyH.cons rfl (fun K hK => ?_) AllReadyH.nil
        rw [if_pos (by kernel_rfl)]
        go_simp
        refine (HLX.out _).mono ?_
        rintro e w1 ⟨rfl, hb1⟩
        refine hK.out _ _ (hS.trans (hb1.mono hS.size)) (fun hS1 => ?_)
        clear hK K hS
        have hS := hS1
        clear hS1
        try simp only [Act.put, List.setIfInBounds_toArray, List.set_cons_zero, List.set_cons_succ]
        refine wpAnyH_take (i := 11) (v := ?_) rfl (by kernel_rfl) (by kernel_rfl) (by kernel_rfl) (fun _ _ _ h => h) (Or.inl ⟨by rfl, ?_⟩) hS ?_
        rotate_left
        · (intro w' hSw; go_simp; try (with_reducible rfl))
        change wpAnyH _ _ _ _ _ _ _ (Act.put _ (some 20) _) _
        try simp only [Act.put, List.setIfInBounds_toArray, List.set_cons_zero, List.set_cons_succ]
        refine wpAnyH_done (by kernel_rfl) ?_ _
        clear hbd
        have hbd := hS.drew
        clear hS
        by_cases hxe : x = m
        · have HXE := Lib.hid hxe
          have HIT := Lib.hid (show isAt D m = true by rw [HI.out]; exact decide_eq_true hxe)
          clear hxe
          go_wp2_with fail
          refine wp_region_held (S := fun w' : World => Below W0.heap.size W0 w') (by kernel_rfl) ?_
          change wpAnyH _ _ _ _ _ _ _ _ (World.drew _)
          have hS : (fun w' : World => Below W0.heap.size W0 w') (World.drew _) := hbd
          refine wpAnyH_take (i := 0) (v := ?_) rfl (by kernel_rfl) (by kernel_rfl) (by kernel_rfl) (fun _ _ _ h => h) (Or.inl ⟨by rfl, ?_⟩) hS ?_
          rotate_left
          · (intro w' hSw; go_simp; try (with_reducible rfl))
          change wpAnyH _ _ _ _ _ _ _ (Act.put _ (some 23) _) _
          try simp only [Act.put, List.setIfInBounds_toArray, List.set_cons_zero, List.set_cons_succ]
          refine wpAnyH_take (i := 1) (v := ?_) rfl (by kernel_rfl) (by kernel_rfl) (by kernel_rfl) (fun _ _ _ h => h) (Or.inl ⟨by rfl, ?_⟩) hS ?_
          rotate_left
          · (intro w' hSw; go_simp; try (with_reducible rfl))
          change wpAnyH _ _ _ _ _ _ _ (Act.put _ (some 24) _) _
          try simp only [Act.put, List.setIfInBounds_toArray, List.set_cons_zero, List.set_cons_succ]
          refine wpAnyH_take (i := 2) (v := ?_) rfl (by kernel_rfl) (by kernel_rfl) (by kernel_rfl) (fun _ _ _ h => h) (Or.inl ⟨by rfl, ?_⟩) hS ?_
          rotate_left
          · (intro w' hSw; go_simp; try (with_reducible rfl))
          change wpAnyH _ _ _ _ _ _ _ (Act.put _ (some 25) _) _
          try simp only [Act.put, List.setIfInBounds_toArray, List.set_cons_zero, List.set_cons_succ]
          refine wpAnyH_take (i := 3) (v := .bool true) rfl (by kernel_rfl) (by kernel_rfl) (by kernel_rfl) (fun _ _ _ h => h) (Or.inl ⟨by rfl, fun w' hSw => ex_binE .lss 3 3 (.tmp 23) (.tmp 25) rfl _ _ _ rfl rfl (lss_guard _ _ _ _ w') (lss_t k n hlt w')⟩) hS ?_
          change wpAnyH _ _ _ _ _ _ _ (Act.put _ (some 26) _) _
          try simp only [Act.put, List.setIfInBounds_toArray, List.set_cons_zero, List.set_cons_succ]
          refine wpAnyH_take (i := 4) (v := ?_) rfl (by kernel_rfl) (by kernel_rfl) (by kernel_rfl) (fun _ _ _ h => h) (Or.inl ⟨by rfl, ?_⟩) hS ?_
          rotate_left
          · (intro w' hSw; go_simp; try (with_reducible rfl))
          change wpAnyH _ _ _ _ _ _ _ (Act.put _ (some 27) _) _
          try simp only [Act.put, List.setIfInBounds_toArray, List.set_cons_zero, List.set_cons_succ]
          refine wpAnyH_take (i := 5) (v := ?_) rfl (by kernel_rfl) (by kernel_rfl) (by kernel_rfl) (fun _ _ _ h => h) (Or.inl ⟨by rfl, ?_⟩) hS ?_
          rotate_left
          · (intro w' hSw; go_simp; try (with_reducible rfl))
          change wpAnyH _ _ _ _ _ _ _ (Act.put _ (some 28) _) _
          try simp only [Act.put, List.setIfInBounds_toArray, List.set_cons_zero, List.set_cons_succ]
          refine wpAnyH_take (i := 6) (v := ?_) rfl (by kernel_rfl) (by kernel_rfl) (by kernel_rfl) (fun _ _ _ h => h) (Or.inl ⟨by rfl, ?_⟩) hS ?_
          rotate_left
          · (intro w' hSw; go_simp; try (with_reducible rfl))
          change wpAnyH _ _ _ _ _ _ _ (Act.put _ (some 29) _) _
          try simp only [Act.put, List.setIfInBounds_toArray, List.set_cons_zero, List.set_cons_succ]
          refine wpAnyH_take (i := 7) (v := .pointer (some ⟨b, o + k * 33, none⟩)) rfl (by kernel_rfl) (by kernel_rfl) (by kernel_rfl) (fun _ _ _ h => h) (Or.inl ⟨by rfl, fun w' hSw => ex_ixE 22 (.tmp 28) (.tmp 29) rfl _ _ _ rfl rfl (ix_atM b o n c k (o + k * 33) hlt rfl w')⟩) hS ?_
          change wpAnyH _ _ _ _ _ _ _ (Act.put _ (some 30) _) _
          try simp only [Act.put, List.setIfInBounds_toArray, List.set_cons_zero, List.set_cons_succ]
          refine wpAnyH_take (i := 8) (v := .agg (Mk.c x).toArray) rfl (by kernel_rfl) (by kernel_rfl) (by kernel_rfl) (fun _ _ _ h => h) (Or.inl ⟨by rfl, fun w' hSw => ex_ldE 26 (.tmp 30) rfl _ _ rfl (ld_hsM b _ x w' (HX.out w' hSw))⟩) hS ?_
          change wpAnyH _ _ _ _ _ _ _ (Act.put _ (some 31) _) _
          try simp only [Act.put, List.setIfInBounds_toArray, List.set_cons_zero, List.set_cons_succ]
          refine wpAnyH_take (i := 9) (v := .agg (Mk.c m).toArray) rfl (by kernel_rfl) (by kernel_rfl) (by kernel_rfl) (fun _ _ _ h => h) (Or.inl ⟨by rfl, fun w' hSw => ex_ldE 26 (.tmp 3) rfl _ _ rfl (ld_hsM _ _ m w' (HMM.out w' hSw))⟩) hS ?_
          change wpAnyH _ _ _ _ _ _ _ (Act.put _ (some 32) _) _
          try simp only [Act.put, List.setIfInBounds_toArray, List.set_cons_zero, List.set_cons_succ]
          refine wpAnyH_take (i := 10) (v := .bool true) rfl (by kernel_rfl) (by kernel_rfl) (by kernel_rfl) (fun _ _ _ h => h) (Or.inl ⟨by rfl, fun w' hSw => ex_binE .eql 26 26 (.tmp 31) (.tmp 32) rfl _ _ _ rfl rfl (hs_guardM _ _ _ _ _ w') (eql_tM HXE.out w')⟩) hS ?_
          change wpAnyH _ _ _ _ _ _ _ (Act.put _ (some 33) _) _
          try simp only [Act.put, List.setIfInBounds_toArray, List.set_cons_zero, List.set_cons_succ]
          refine wpAnyH_take (i := 11) (v := ?_) rfl (by kernel_rfl) (by kernel_rfl) (by kernel_rfl) (fun _ _ _ h => h) (Or.inl ⟨by rfl, ?_⟩) hS ?_
          rotate_left
          · (intro w' hSw; go_simp; try (with_reducible rfl))
          change wpAnyH _ _ _ _ _ _ _ (Act.put _ (some 34) _) _
          try simp only [Act.put, List.setIfInBounds_toArray, List.set_cons_zero, List.set_cons_succ]
          refine wpAnyH_done (by kernel_rfl) ?_ _
          go_wp2_with fail
          go_ret3
          refine ⟨_, _, _, by rw [HIT.out, ← HK.out]; rfl, ?_, Or.inr ⟨_, _, rfl⟩, hnc, HB0.out.trans (hS.mono HB0.out.size)⟩
          rw [ins_isAt HIT.out]
          exact HR0.out.keep hS
        · have HXE := Lib.hid hxe
          have HIF := Lib.hid (show isAt D m = false by rw [HI.out]; exact decide_eq_false hxe)
          clear hxe
          go_wp2_with fail
          refine wp_region_held (S := fun w' : World => Below W0.heap.size W0 w') (by kernel_rfl) ?_
          change wpAnyH _ _ _ _ _ _ _ _ (World.drew _)
          have hS : (fun w' : World => Below W0.heap.size W0 w') (World.drew _) := hbd
          refine wpAnyH_take (i := 0) (v := ?_) rfl (by kernel_rfl) (by kernel_rfl) (by kernel_rfl) (fun _ _ _ h => h) (Or.inl ⟨by rfl, ?_⟩) hS ?_
          rotate_left
          · (intro w' hSw; go_simp; try (with_reducible rfl))
          change wpAnyH _ _ _ _ _ _ _ (Act.put _ (some 23) _) _
          try simp only [Act.put, List.setIfInBounds_toArray, List.set_cons_zero, List.set_cons_succ]
          refine wpAnyH_take (i := 1) (v := ?_) rfl (by kernel_rfl) (by kernel_rfl) (by kernel_rfl) (fun _ _ _ h => h) (Or.inl ⟨by rfl, ?_⟩) hS ?_
          rotate_left
          · (intro w' hSw; go_simp; try (with_reducible rfl))
          change wpAnyH _ _ _ _ _ _ _ (Act.put _ (some 24) _) _
          try simp only [Act.put, List.setIfInBounds_toArray, List.set_cons_zero, List.set_cons_succ]
          refine wpAnyH_take (i := 2) (v := ?_) rfl (by kernel_rfl) (by kernel_rfl) (by kernel_rfl) (fun _ _ _ h => h) (Or.inl ⟨by rfl, ?_⟩) hS ?_
          rotate_left
          · (intro w' hSw; go_simp; try (with_reducible rfl))
          change wpAnyH _ _ _ _ _ _ _ (Act.put _ (some 25) _) _
          try simp only [Act.put, List.setIfInBounds_toArray, List.set_cons_zero, List.set_cons_succ]
          refine wpAnyH_take (i := 3) (v := .bool true) rfl (by kernel_rfl) (by kernel_rfl) (by kernel_rfl) (fun _ _ _ h => h) (Or.inl ⟨by rfl, fun w' hSw => ex_binE .lss 3 3 (.tmp 23) (.tmp 25) rfl _ _ _ rfl rfl (lss_guard _ _ _ _ w') (lss_t k n hlt w')⟩) hS ?_
          change wpAnyH _ _ _ _ _ _ _ (Act.put _ (some 26) _) _
          try simp only [Act.put, List.setIfInBounds_toArray, List.set_cons_zero, List.set_cons_succ]
          refine wpAnyH_take (i := 4) (v := ?_) rfl (by kernel_rfl) (by kernel_rfl) (by kernel_rfl) (fun _ _ _ h => h) (Or.inl ⟨by rfl, ?_⟩) hS ?_
          rotate_left
          · (intro w' hSw; go_simp; try (with_reducible rfl))
          change wpAnyH _ _ _ _ _ _ _ (Act.put _ (some 27) _) _
          try simp only [Act.put, List.setIfInBounds_toArray, List.set_cons_zero, List.set_cons_succ]
          refine wpAnyH_take (i := 5) (v := ?_) rfl (by kernel_rfl) (by kernel_rfl) (by kernel_rfl) (fun _ _ _ h => h) (Or.inl ⟨by rfl, ?_⟩) hS ?_
          rotate_left
          · (intro w' hSw; go_simp; try (with_reducible rfl))
          change wpAnyH _ _ _ _ _ _ _ (Act.put _ (some 28) _) _
          try simp only [Act.put, List.setIfInBounds_toArray, List.set_cons_zero, List.set_cons_succ]
          refine wpAnyH_take (i := 6) (v := ?_) rfl (by kernel_rfl) (by kernel_rfl) (by kernel_rfl) (fun _ _ _ h => h) (Or.inl ⟨by rfl, ?_⟩) hS ?_
          rotate_left
          · (intro w' hSw; go_simp; try (with_reducible rfl))
          change wpAnyH _ _ _ _ _ _ _ (Act.put _ (some 29) _) _
          try simp only [Act.put, List.setIfInBounds_toArray, List.set_cons_zero, List.set_cons_succ]
          refine wpAnyH_take (i := 7) (v := .pointer (some ⟨b, o + k * 33, none⟩)) rfl (by kernel_rfl) (by kernel_rfl) (by kernel_rfl) (fun _ _ _ h => h) (Or.inl ⟨by rfl, fun w' hSw => ex_ixE 22 (.tmp 28) (.tmp 29) rfl _ _ _ rfl rfl (ix_atM b o n c k (o + k * 33) hlt rfl w')⟩) hS ?_
          change wpAnyH _ _ _ _ _ _ _ (Act.put _ (some 30) _) _
          try simp only [Act.put, List.setIfInBounds_toArray, List.set_cons_zero, List.set_cons_succ]
          refine wpAnyH_take (i := 8) (v := .agg (Mk.c x).toArray) rfl (by kernel_rfl) (by kernel_rfl) (by kernel_rfl) (fun _ _ _ h => h) (Or.inl ⟨by rfl, fun w' hSw => ex_ldE 26 (.tmp 30) rfl _ _ rfl (ld_hsM b _ x w' (HX.out w' hSw))⟩) hS ?_
          change wpAnyH _ _ _ _ _ _ _ (Act.put _ (some 31) _) _
          try simp only [Act.put, List.setIfInBounds_toArray, List.set_cons_zero, List.set_cons_succ]
          refine wpAnyH_take (i := 9) (v := .agg (Mk.c m).toArray) rfl (by kernel_rfl) (by kernel_rfl) (by kernel_rfl) (fun _ _ _ h => h) (Or.inl ⟨by rfl, fun w' hSw => ex_ldE 26 (.tmp 3) rfl _ _ rfl (ld_hsM _ _ m w' (HMM.out w' hSw))⟩) hS ?_
          change wpAnyH _ _ _ _ _ _ _ (Act.put _ (some 32) _) _
          try simp only [Act.put, List.setIfInBounds_toArray, List.set_cons_zero, List.set_cons_succ]
          refine wpAnyH_take (i := 10) (v := .bool false) rfl (by kernel_rfl) (by kernel_rfl) (by kernel_rfl) (fun _ _ _ h => h) (Or.inl ⟨by rfl, fun w' hSw => ex_binE .eql 26 26 (.tmp 31) (.tmp 32) rfl _ _ _ rfl rfl (hs_guardM _ _ _ _ _ w') (eql_fM HXE.out w')⟩) hS ?_
          change wpAnyH _ _ _ _ _ _ _ (Act.put _ (some 33) _) _
          try simp only [Act.put, List.setIfInBounds_toArray, List.set_cons_zero, List.set_cons_succ]
          refine wpAnyH_take (i := 11) (v := ?_) rfl (by kernel_rfl) (by kernel_rfl) (by kernel_rfl) (fun _ _ _ h => h) (Or.inl ⟨by rfl, ?_⟩) hS ?_
          rotate_left
          · (intro w' hSw; go_simp; try (with_reducible rfl))
          change wpAnyH _ _ _ _ _ _ _ (Act.put _ (some 34) _) _
          try simp only [Act.put, List.setIfInBounds_toArray, List.set_cons_zero, List.set_cons_succ]
          refine wpAnyH_done (by kernel_rfl) ?_ _
          clear hbd
          have hbd := hS.drew
          clear hS
          have hkc : k ≤ c := by omega
          have hkci : ((k : Nat) : Int) ≤ (c : Int) := by omega
          have hki0 : (0 : Int) ≤ ((k : Nat) : Int) := by omega
          have hkni : ((k : Nat) : Int) ≤ (n : Int) := by omega
          go_wp2_with fail
          refine wp_region_held (S := fun w' : World => Below W0.heap.size W0 w') (by kernel_rfl) ?_
          change wpAnyH _ _ _ _ _ _ _ _ (World.drew (w1.drew))
          have hbd : (fun w' : World => Below W0.heap.size W0 w') (World.drew (w1.drew)) := hbd
          generalize hWc : World.drew (w1.drew) = Wc at hbd ⊢
          have hS : (fun w' : World => Below W0.heap.size W0 w') Wc := hbd
          have hsz := hbd.size
          obtain ⟨ie, hie, hiz, his, hib⟩ := hash_infoM
          have HIE := Lib.hid hie
          have HIZ := Lib.hid hiz
          have HIS := Lib.hid his
          have HIB := Lib.hid hib
          clear hie hiz his hib
          have HRT := Lib.hid (fun (w' : World) (h : Below W0.heap.size W0 w') => ((HR0.out.take (k := k) (by omega)).keep h).cells)
          have HRTL := Lib.hid (show (flatM (D.take k)).length = k * 33 by rw [flat_lengthM, List.length_take, Nat.min_eq_left (by omega)])
          refine wpAnyH_take (i := 1) (v := ?_) rfl (by kernel_rfl) (by kernel_rfl) (by kernel_rfl) (fun _ _ _ h => h) (Or.inl ⟨by rfl, ?_⟩) hS ?_
          rotate_left
          · (intro w' hSw; go_simp; try (with_reducible rfl))
          change wpAnyH _ _ _ _ _ _ _ (Act.put _ (some 38) _) _
          try simp only [Act.put, List.setIfInBounds_toArray, List.set_cons_zero, List.set_cons_succ]
          refine wpAnyH_take (i := 2) (v := ?_) rfl (by kernel_rfl) (by kernel_rfl) (by kernel_rfl) (fun _ _ _ h => h) (Or.inl ⟨by rfl, ?_⟩) hS ?_
          rotate_left
          · (intro w' hSw; go_simp; try (with_reducible rfl))
          change wpAnyH _ _ _ _ _ _ _ (Act.put _ (some 39) _) _
          try simp only [Act.put, List.setIfInBounds_toArray, List.set_cons_zero, List.set_cons_succ]
          refine wpAnyH_take (i := 3) (v := ?_) rfl (by kernel_rfl) (by kernel_rfl) (by kernel_rfl) (fun _ _ _ h => h) (Or.inl ⟨by rfl, ?_⟩) hS ?_
          rotate_left
          · (intro w' hSw; go_simp; try (with_reducible rfl))
          change wpAnyH _ _ _ _ _ _ _ (Act.put _ (some 40) _) _
          try simp only [Act.put, List.setIfInBounds_toArray, List.set_cons_zero, List.set_cons_succ]
          refine wpAnyH_take (i := 5) (v := .agg (Mk.c m).toArray) rfl (by kernel_rfl) (by kernel_rfl) (by kernel_rfl) (fun _ _ _ h => h) (Or.inl ⟨by rfl, fun w' hSw => ex_ldE 26 (.tmp 3) rfl _ _ rfl (ld_hsM _ _ m w' (HMM.out w' hSw))⟩) hS ?_
          change wpAnyH _ _ _ _ _ _ _ (Act.put _ (some 42) _) _
          try simp only [Act.put, List.setIfInBounds_toArray, List.set_cons_zero, List.set_cons_succ]
          refine wpAnyH_ready (rs := [0, 6]) (by kernel_rfl) (by simp) ?_
          refine AllReadyH.cons rfl (fun K hK => ?_) (AllReadyH.cons rfl (fun K hK => ?_) AllReadyH.nil)
          · rw [if_pos (by kernel_rfl)]
            refine wp_build0 rfl ?_
            refine hK.out _ _ (hS.alloc hS.size _) (fun hS1 => ?_)
            clear hK K hS
            have hS := hS1
            clear hS1
            change wpAnyH _ _ _ _ _ _ _ (Act.put _ (some 37) _) _
            try simp only [Act.put, List.setIfInBounds_toArray, List.set_cons_zero, List.set_cons_succ]
            refine wpAnyH_ready (rs := [4, 6]) (by kernel_rfl) (by simp) ?_
            refine AllReadyH.cons rfl (fun K hK => ?_) (AllReadyH.cons rfl (fun K hK => ?_) AllReadyH.nil)
            · rw [if_pos (by kernel_rfl)]
              refine wp_append_rdz (.tmp 37) (.tmp 40) 22 rfl W0.heap.size 26 _ _ 33 40 Try.underlying22 HIE.out HIZ.out HIS.out HIB.out (by simp [Value.cells]) (by omega) (.slice (some ⟨Wc.heap.size, 0, none⟩) 0 0) 0 [] rfl (own0 Wc hsz) _ k _ (flatM (D.take k)) rfl HRTL.out (HRT.out _ hS) (flat_oneM _) (by unfold maxLen; omega) (by omega) hS.size ?_
              intro v4 w4 ho4 hg4
              have hb4 : Below W0.heap.size W0 w4 := hS.grown hg4 hS.size (fun q hq => ((own0 Wc hsz).lt q hq).1)
              rw [Nat.zero_add, List.nil_append] at ho4
              refine hK.out _ _ (hb4) (fun hS1 => ?_)
              clear hK K hS
              have hS := hS1
              clear hS1
              change wpAnyH _ _ _ _ _ _ _ (Act.put _ (some 41) _) _
              try simp only [Act.put, List.setIfInBounds_toArray, List.set_cons_zero, List.set_cons_succ]
              refine wpAnyH_ready (rs := [6]) (by kernel_rfl) (by simp) ?_
              refine AllReadyH.cons rfl (fun K hK => ?_) AllReadyH.nil
              rw [if_pos (by kernel_rfl)]
              refine wp_buildMks 1 _ rfl [m] rfl (by omega) (by omega) rfl ?_
              rw [flat_singleM]
              refine hK.out _ _ (hS.alloc hS.size _) (fun hS1 => ?_)
              clear hK K hS
              have hS := hS1
              clear hS1
              change wpAnyH _ _ _ _ _ _ _ (Act.put _ (some 43) _) _
              try simp only [Act.put, List.setIfInBounds_toArray, List.set_cons_zero, List.set_cons_succ]
              refine wpAnyH_ready (rs := [7]) (by kernel_rfl) (by simp) ?_
              refine AllReadyH.cons rfl (fun K hK => ?_) AllReadyH.nil
              rw [if_pos (by kernel_rfl)]
              refine wp_append_rdz (.tmp 41) (.tmp 43) 22 rfl W0.heap.size 26 _ _ 33 40 Try.underlying22 HIE.out HIZ.out HIS.out HIB.out (by simp [Value.cells]) (by omega) v4 k (flatM (D.take k)) rfl (own_keep ho4 (below_newE _ _)) _ 1 1 (flatM [m]) rfl (by rw [flat_lengthM]; rfl) (fun _ => ⟨_, rfl, by rw [flat_singleM]; exact new_cells (Mk.c m)⟩) (flat_oneM _) (by unfold maxLen; omega) (by omega) hS.size ?_
              intro v7 w7 ho7 hg7
              have hb7 : Below W0.heap.size W0 w7 := hS.grown hg7 hS.size (fun q hq => (ho4.lt q hq).1)
              refine hK.out _ _ (hb7) (fun hS1 => ?_)
              clear hK K hS
              have hS := hS1
              clear hS1
              change wpAnyH _ _ _ _ _ _ _ (Act.put _ (some 44) _) _
              try simp only [Act.put, List.setIfInBounds_toArray, List.set_cons_zero, List.set_cons_succ]
              refine wpAnyH_take (i := 8) (v := ?_) rfl (by kernel_rfl) (by kernel_rfl) (by kernel_rfl) (fun _ _ _ h => h) (Or.inl ⟨by rfl, ?_⟩) hS ?_
              rotate_left
              · (intro w' hSw; go_simp; try (with_reducible rfl))
              change wpAnyH _ _ _ _ _ _ _ (Act.put _ (some 8) _) _
              try simp only [Act.put, List.setIfInBounds_toArray, List.set_cons_zero, List.set_cons_succ]
              refine wpAnyH_done (by kernel_rfl) ?_ _
              clear hg7
              obtain ⟨A7, c7, e7⟩ := own_sliceM ho7
              subst e7
              have HO7 := Lib.hid ho7
              clear ho7
              have HRD0 := ((HR0.out.dropIf (k := k) (by omega) hnc).keep hb7).cells
              by_cases hck : c = k
              all_goals (first | rw [if_pos hck] at HRD0 | rw [if_neg hck] at HRD0)
              all_goals
                have HRD := Lib.hid HRD0
                clear HRD0
                go_wp2_with (at_builtin; refine wpList_append_rdz rfl (.tmp 45) (.tmp 48) 22 rfl W0.heap.size 26 _ _ 33 40 Try.underlying22 HIE.out HIZ.out HIS.out HIB.out (by simp [Value.cells]) (by omega) _ _ _ rfl HO7.out _ (n - k) _ (flatM (D.drop k)) rfl (by rw [flat_lengthM, List.length_drop, hDn]) HRD.out (flat_oneM _) (by unfold maxLen; omega) (by omega) hb7.size ?_)
                intro v9 w9 ho9 hg9
                have hb9 : Below W0.heap.size W0 w9 := hb7.grown hg9 hb7.size (fun q hq => (HO7.out.lt q hq).1)
                rw [← flat_appM, ← flat_appM, List.singleton_append, HK.out, ← ins_notAt HIF.out, show pl D m + 1 + (n - pl D m) = n + 1 by have := HK.out; omega] at ho9
                obtain ⟨A9, c9, e9, hr9, hp9, hc9⟩ := own_pln ho9
                subst e9
                clear ho9 hg9
                have HR9 := Lib.hid hr9
                clear hr9
                go_wp2_with fail
                go_ret3
                exact ⟨_, _, _, by rw [HIF.out, ← HK.out]; rfl, HR9.out, hp9, hc9, HB0.out.trans (hb9.mono HB0.out.size)⟩
            · rw [if_pos (by kernel_rfl)]
              refine wp_buildMks 1 _ rfl [m] rfl (by omega) (by omega) rfl ?_
              rw [flat_singleM]
              refine hK.out _ _ (hS.alloc hS.size _) (fun hS1 => ?_)
              clear hK K hS
              have hS := hS1
              clear hS1
              change wpAnyH _ _ _ _ _ _ _ (Act.put _ (some 43) _) _
              try simp only [Act.put, List.setIfInBounds_toArray, List.set_cons_zero, List.set_cons_succ]
              refine wpAnyH_ready (rs := [4]) (by kernel_rfl) (by simp) ?_
              refine AllReadyH.cons rfl (fun K hK => ?_) AllReadyH.nil
              rw [if_pos (by kernel_rfl)]
              refine wp_append_rdz (.tmp 37) (.tmp 40) 22 rfl W0.heap.size 26 _ _ 33 40 Try.underlying22 HIE.out HIZ.out HIS.out HIB.out (by simp [Value.cells]) (by omega) (.slice (some ⟨Wc.heap.size, 0, none⟩) 0 0) 0 [] rfl (own_keep (own0 Wc hsz) (below_newE _ _)) _ k _ (flatM (D.take k)) rfl HRTL.out (HRT.out _ hS) (flat_oneM _) (by unfold maxLen; omega) (by omega) hS.size ?_
              intro v4 w4 ho4 hg4
              have hb4 : Below W0.heap.size W0 w4 := hS.grown hg4 hS.size (fun q hq => ((own0 Wc hsz).lt q hq).1)
              rw [Nat.zero_add, List.nil_append] at ho4
              have hm4 := (new_own (Wc.alloc (.cells #[] 26)) m (Nat.zero_le _)).kept hg4 (Or.inr (by simp [Value.ownBlock]))
              refine hK.out _ _ (hb4) (fun hS1 => ?_)
              clear hK K hS
              have hS := hS1
              clear hS1
              change wpAnyH _ _ _ _ _ _ _ (Act.put _ (some 41) _) _
              try simp only [Act.put, List.setIfInBounds_toArray, List.set_cons_zero, List.set_cons_succ]
              refine wpAnyH_ready (rs := [7]) (by kernel_rfl) (by simp) ?_
              refine AllReadyH.cons rfl (fun K hK => ?_) AllReadyH.nil
              rw [if_pos (by kernel_rfl)]
              refine wp_append_rdz (.tmp 41) (.tmp 43) 22 rfl W0.heap.size 26 _ _ 33 40 Try.underlying22 HIE.out HIZ.out HIS.out HIB.out (by simp [Value.cells]) (by omega) v4 k (flatM (D.take k)) rfl (ho4) _ 1 1 (flatM [m]) rfl (by rw [flat_lengthM]; rfl) (by obtain ⟨A, c, e, hr⟩ := RdHM.own hm4; cases e; exact hr.cells) (flat_oneM _) (by unfold maxLen; omega) (by omega) hS.size ?_
              intro v7 w7 ho7 hg7
              have hb7 : Below W0.heap.size W0 w7 := hS.grown hg7 hS.size (fun q hq => (ho4.lt q hq).1)
              refine hK.out _ _ (hb7) (fun hS1 => ?_)
              clear hK K hS
              have hS := hS1
              clear hS1
              change wpAnyH _ _ _ _ _ _ _ (Act.put _ (some 44) _) _
              try simp only [Act.put, List.setIfInBounds_toArray, List.set_cons_zero, List.set_cons_succ]
              refine wpAnyH_take (i := 8) (v := ?_) rfl (by kernel_rfl) (by kernel_rfl) (by kernel_rfl) (fun _ _ _ h => h) (Or.inl ⟨by rfl, ?_⟩) hS ?_
              rotate_left
              · (intro w' hSw; go_simp; try (with_reducible rfl))
              change wpAnyH _ _ _ _ _ _ _ (Act.put _ (some 8) _) _
              try simp only [Act.put, List.setIfInBounds_toArray, List.set_cons_zero, List.set_cons_succ]
              refine wpAnyH_done (by kernel_rfl) ?_ _
              clear hg7
              obtain ⟨A7, c7, e7⟩ := own_sliceM ho7
              subst e7
              have HO7 := Lib.hid ho7
              clear ho7
              have HRD0 := ((HR0.out.dropIf (k := k) (by omega) hnc).keep hb7).cells
              by_cases hck : c = k
              all_goals (first | rw [if_pos hck] at HRD0 | rw [if_neg hck] at HRD0)
              all_goals
                have HRD := Lib.hid HRD0
                clear HRD0
                go_wp2_with (at_builtin; refine wpList_append_rdz rfl (.tmp 45) (.tmp 48) 22 rfl W0.heap.size 26 _ _ 33 40 Try.underlying22 HIE.out HIZ.out HIS.out HIB.out (by simp [Value.cells]) (by omega) _ _ _ rfl HO7.out _ (n - k) _ (flatM (D.drop k)) rfl (by rw [flat_lengthM, List.length_drop, hDn]) HRD.out (flat_oneM _) (by unfold maxLen; omega) (by omega) hb7.size ?_)
                intro v9 w9 ho9 hg9
                have hb9 : Below W0.heap.size W0 w9 := hb7.grown hg9 hb7.size (fun q hq => (HO7.out.lt q hq).1)
                rw [← flat_appM, ← flat_appM, List.singleton_append, HK.out, ← ins_notAt HIF.out, show pl D m + 1 + (n - pl D m) = n + 1 by have := HK.out; omega] at ho9
                obtain ⟨A9, c9, e9, hr9, hp9, hc9⟩ := own_pln ho9
                subst e9
                clear ho9 hg9
                have HR9 := Lib.hid hr9
                clear hr9
                go_wp2_with fail
                go_ret3
                exact ⟨_, _, _, by rw [HIF.out, ← HK.out]; rfl, HR9.out, hp9, hc9, HB0.out.trans (hb9.mono HB0.out.size)⟩
          · rw [if_pos (by kernel_rfl)]
            refine wp_buildMks 1 _ rfl [m] rfl (by omega) (by omega) rfl ?_
            rw [flat_singleM]
            refine hK.out _ _ (hS.alloc hS.size _) (fun hS1 => ?_)
            clear hK K hS
            have hS := hS1
            clear hS1
            change wpAnyH _ _ _ _ _ _ _ (Act.put _ (some 43) _) _
            try simp only [Act.put, List.setIfInBounds_toArray, List.set_cons_zero, List.set_cons_succ]
            refine wpAnyH_ready (rs := [0]) (by kernel_rfl) (by simp) ?_
            refine AllReadyH.cons rfl (fun K hK => ?_) AllReadyH.nil
            rw [if_pos (by kernel_rfl)]
            refine wp_build0 rfl ?_
            have hS0 := hS
            refine hK.out _ _ (hS.alloc hS.size _) (fun hS1 => ?_)
            clear hK K hS
            have hS := hS1
            clear hS1
            change wpAnyH _ _ _ _ _ _ _ (Act.put _ (some 37) _) _
            try simp only [Act.put, List.setIfInBounds_toArray, List.set_cons_zero, List.set_cons_succ]
            refine wpAnyH_ready (rs := [4]) (by kernel_rfl) (by simp) ?_
            refine AllReadyH.cons rfl (fun K hK => ?_) AllReadyH.nil
            rw [if_pos (by kernel_rfl)]
            refine wp_append_rdz (.tmp 37) (.tmp 40) 22 rfl W0.heap.size 26 _ _ 33 40 Try.underlying22 HIE.out HIZ.out HIS.out HIB.out (by simp [Value.cells]) (by omega) (.slice (some ⟨(Wc.alloc (.cells (Mk.c m).toArray 26)).heap.size, 0, none⟩) 0 0) 0 [] rfl (own0 (Wc.alloc (.cells (Mk.c m).toArray 26)) (hS0.size)) _ k _ (flatM (D.take k)) rfl HRTL.out (HRT.out _ hS) (flat_oneM _) (by unfold maxLen; omega) (by omega) hS.size ?_
            intro v4 w4 ho4 hg4
            have hb4 : Below W0.heap.size W0 w4 := hS.grown hg4 hS.size (fun q hq => ((own0 (Wc.alloc (.cells (Mk.c m).toArray 26)) (hS0.size)).lt q hq).1)
            rw [Nat.zero_add, List.nil_append] at ho4
            have hm4 := (own_keep (new_own Wc m (Nat.zero_le _)) (below_newE _ (.cells #[] 26))).kept hg4 (Or.inr (by simp [Value.ownBlock]))
            refine hK.out _ _ (hb4) (fun hS1 => ?_)
            clear hK K hS
            have hS := hS1
            clear hS1
            change wpAnyH _ _ _ _ _ _ _ (Act.put _ (some 41) _) _
            try simp only [Act.put, List.setIfInBounds_toArray, List.set_cons_zero, List.set_cons_succ]
            refine wpAnyH_ready (rs := [7]) (by kernel_rfl) (by simp) ?_
            refine AllReadyH.cons rfl (fun K hK => ?_) AllReadyH.nil
            rw [if_pos (by kernel_rfl)]
            refine wp_append_rdz (.tmp 41) (.tmp 43) 22 rfl W0.heap.size 26 _ _ 33 40 Try.underlying22 HIE.out HIZ.out HIS.out HIB.out (by simp [Value.cells]) (by omega) v4 k (flatM (D.take k)) rfl (ho4) _ 1 1 (flatM [m]) rfl (by rw [flat_lengthM]; rfl) (by obtain ⟨A, c, e, hr⟩ := RdHM.own hm4; cases e; exact hr.cells) (flat_oneM _) (by unfold maxLen; omega) (by omega) hS.size ?_
            intro v7 w7 ho7 hg7
            have hb7 : Below W0.heap.size W0 w7 := hS.grown hg7 hS.size (fun q hq => (ho4.lt q hq).1)
            refine hK.out _ _ (hb7) (fun hS1 => ?_)
            clear hK K hS
            have hS := hS1
            clear hS1
            change wpAnyH _ _ _ _ _ _ _ (Act.put _ (some 44) _) _
            try simp only [Act.put, List.setIfInBounds_toArray, List.set_cons_zero, List.set_cons_succ]
            refine wpAnyH_take (i := 8) (v := ?_) rfl (by kernel_rfl) (by kernel_rfl) (by kernel_rfl) (fun _ _ _ h => h) (Or.inl ⟨by rfl, ?_⟩) hS ?_
            rotate_left
            · (intro w' hSw; go_simp; try (with_reducible rfl))
            change wpAnyH _ _ _ _ _ _ _ (Act.put _ (some 8) _) _
            try simp only [Act.put, List.setIfInBounds_toArray, List.set_cons_zero, List.set_cons_succ]
            refine wpAnyH_done (by kernel_rfl) ?_ _
            clear hg7
            obtain ⟨A7, c7, e7⟩ := own_sliceM ho7
            subst e7
            have HO7 := Lib.hid ho7
            clear ho7
            have HRD0 := ((HR0.out.dropIf (k := k) (by omega) hnc).keep hb7).cells
            by_cases hck : c = k
            all_goals (first | rw [if_pos hck] at HRD0 | rw [if_neg hck] at HRD0)
            all_goals
              have HRD := Lib.hid HRD0
              clear HRD0
              go_wp2_with (at_builtin; refine wpList_append_rdz rfl (.tmp 45) (.tmp 48) 22 rfl W0.heap.size 26 _ _ 33 40 Try.underlying22 HIE.out HIZ.out HIS.out HIB.out (by simp [Value.cells]) (by omega) _ _ _ rfl HO7.out _ (n - k) _ (flatM (D.drop k)) rfl (by rw [flat_lengthM, List.length_drop, hDn]) HRD.out (flat_oneM _) (by unfold maxLen; omega) (by omega) hb7.size ?_)
              intro v9 w9 ho9 hg9
              have hb9 : Below W0.heap.size W0 w9 := hb7.grown hg9 hb7.size (fun q hq => (HO7.out.lt q hq).1)
              rw [← flat_appM, ← flat_appM, List.singleton_append, HK.out, ← ins_notAt HIF.out, show pl D m + 1 + (n - pl D m) = n + 1 by have := HK.out; omega] at ho9
              obtain ⟨A9, c9, e9, hr9, hp9, hc9⟩ := own_pln ho9
              subst e9
              clear ho9 hg9
              have HR9 := Lib.hid hr9
              clear hr9
              go_wp2_with fail
              go_ret3
              exact ⟨_, _, _, by rw [HIF.out, ← HK.out]; rfl, HR9.out, hp9, hc9, HB0.out.trans (hb9.mono HB0.out.size)⟩
    · obtain rfl : k = n := by omega
      have hk : k = pl D m := by omega
      have HIF := Lib.hid (show isAt D m = false from isAt_none (hk ▸ List.getElem?_eq_none (by omega)))
      have HK := Lib.hid hk
      clear hk
      go_wp2_with fail
      refine wp_region_held (S := fun w' : World => Below W0.heap.size W0 w') (by kernel_rfl) ?_
      change wpAnyH _ _ _ _ _ _ _ _ (World.drew _)
      have hS : (fun w' : World => Below W0.heap.size W0 w') wr.drew := hbd
      refine wpAnyH_take (i := 0) (v := ?_) rfl (by kernel_rfl) (by kernel_rfl) (by kernel_rfl) (fun _ _ _ h => h) (Or.inl ⟨by rfl, ?_⟩) hS ?_
      rotate_left
      · (intro w' hSw; go_simp; try (with_reducible rfl))
      change wpAnyH _ _ _ _ _ _ _ (Act.put _ (some 9) _) _
      try simp only [Act.put, List.setIfInBounds_toArray, List.set_cons_zero, List.set_cons_succ]
      refine wpAnyH_take (i := 1) (v := ?_) rfl (by kernel_rfl) (by kernel_rfl) (by kernel_rfl) (fun _ _ _ h => h) (Or.inl ⟨by rfl, ?_⟩) hS ?_
      rotate_left
      · (intro w' hSw; go_simp; try (with_reducible rfl))
      change wpAnyH _ _ _ _ _ _ _ (Act.put _ (some 10) _) _
      try simp only [Act.put, List.setIfInBounds_toArray, List.set_cons_zero, List.set_cons_succ]
      refine wpAnyH_take (i := 2) (v := ?_) rfl (by kernel_rfl) (by kernel_rfl) (by kernel_rfl) (fun _ _ _ h => h) (Or.inl ⟨by rfl, ?_⟩) hS ?_
      rotate_left
      · (intro w' hSw; go_simp; try (with_reducible rfl))
      change wpAnyH _ _ _ _ _ _ _ (Act.put _ (some 11) _) _
      try simp only [Act.put, List.setIfInBounds_toArray, List.set_cons_zero, List.set_cons_succ]
      refine wpAnyH_take (i := 3) (v := .bool false) rfl (by kernel_rfl) (by kernel_rfl) (by kernel_rfl) (fun _ _ _ h => h) (Or.inl ⟨by rfl, fun w' hSw => ex_binE .lss 3 3 (.tmp 9) (.tmp 11) rfl _ _ _ rfl rfl (lss_guard _ _ _ _ w') (lss_f k k hlt w')⟩) hS ?_
      change wpAnyH _ _ _ _ _ _ _ (Act.put _ (some 12) _) _
      try simp only [Act.put, List.setIfInBounds_toArray, List.set_cons_zero, List.set_cons_succ]
      refine wpAnyH_take (i := 4) (v := ?_) rfl (by kernel_rfl) (by kernel_rfl) (by kernel_rfl) (fun _ _ _ h => h) (Or.inl ⟨by rfl, ?_⟩) hS ?_
      rotate_left
      · (intro w' hSw; go_simp; try (with_reducible rfl))
      change wpAnyH _ _ _ _ _ _ _ (Act.put _ (some 13) _) _
      try simp only [Act.put, List.setIfInBounds_toArray, List.set_cons_zero, List.set_cons_succ]
      refine wpAnyH_take (i := 5) (v := undef) rfl (by kernel_rfl) (by kernel_rfl) (by kernel_rfl) (fun _ _ _ h => h) (Or.inr ⟨by rfl, rfl⟩) hS ?_
      change wpAnyH _ _ _ _ _ _ _ (Act.put _ (some 14) _) _
      try simp only [Act.put, List.setIfInBounds_toArray, List.set_cons_zero, List.set_cons_succ]
      refine wpAnyH_take (i := 6) (v := undef) rfl (by kernel_rfl) (by kernel_rfl) (by kernel_rfl) (fun _ _ _ h => h) (Or.inr ⟨by rfl, rfl⟩) hS ?_
      change wpAnyH _ _ _ _ _ _ _ (Act.put _ (some 15) _) _
      try simp only [Act.put, List.setIfInBounds_toArray, List.set_cons_zero, List.set_cons_succ]
      refine wpAnyH_take (i := 7) (v := undef) rfl (by kernel_rfl) (by kernel_rfl) (by kernel_rfl) (fun _ _ _ h => h) (Or.inr ⟨by rfl, rfl⟩) hS ?_
      change wpAnyH _ _ _ _ _ _ _ (Act.put _ (some 16) _) _
      try simp only [Act.put, List.setIfInBounds_toArray, List.set_cons_zero, List.set_cons_succ]
      refine wpAnyH_take (i := 8) (v := undef) rfl (by kernel_rfl) (by kernel_rfl) (by kernel_rfl) (fun _ _ _ h => h) (Or.inr ⟨by rfl, rfl⟩) hS ?_
      change wpAnyH _ _ _ _ _ _ _ (Act.put _ (some 17) _) _
      try simp only [Act.put, List.setIfInBounds_toArray, List.set_cons_zero, List.set_cons_succ]
      refine wpAnyH_take (i := 9) (v := undef) rfl (by kernel_rfl) (by kernel_rfl) (by kernel_rfl) (fun _ _ _ h => h) (Or.inr ⟨by rfl, rfl⟩) hS ?_
      change wpAnyH _ _ _ _ _ _ _ (Act.put _ (some 18) _) _
      try simp only [Act.put, List.setIfInBounds_toArray, List.set_cons_zero, List.set_cons_succ]
      refine wpAnyH_take (i := 10) (v := undef) rfl (by kernel_rfl) (by kernel_rfl) (by kernel_rfl) (fun _ _ _ h => h) (Or.inr ⟨by rfl, rfl⟩) hS ?_
      change wpAnyH _ _ _ _ _ _ _ (Act.put _ (some 19) _) _
      try simp only [Act.put, List.setIfInBounds_toArray, List.set_cons_zero, List.set_cons_succ]
      refine wpAnyH_take (i := 11) (v := ?_) rfl (by kernel_rfl) (by kernel_rfl) (by kernel_rfl) (fun _ _ _ h => h) (Or.inl ⟨by rfl, ?_⟩) hS ?_
      rotate_left
      · (intro w' hSw; go_simp; try (with_reducible rfl))
      change wpAnyH _ _ _ _ _ _ _ (Act.put _ (some 20) _) _
      try simp only [Act.put, List.setIfInBounds_toArray, List.set_cons_zero, List.set_cons_succ]
      refine wpAnyH_done (by kernel_rfl) ?_ _
      clear hbd
      have hbd := hS.drew
      clear hS
      go_wp2_with fail
      refine wp_region_held (S := fun w' : World => Below W0.heap.size W0 w') (by kernel_rfl) ?_
      change wpAnyH _ _ _ _ _ _ _ _ (World.drew _)
      have hS : (fun w' : World => Below W0.heap.size W0 w') (World.drew _) := hbd
      refine wpAnyH_take (i := 0) (v := ?_) rfl (by kernel_rfl) (by kernel_rfl) (by kernel_rfl) (fun _ _ _ h => h) (Or.inl ⟨by rfl, ?_⟩) hS ?_
      rotate_left
      · (intro w' hSw; go_simp; try (with_reducible rfl))
      change wpAnyH _ _ _ _ _ _ _ (Act.put _ (some 23) _) _
      try simp only [Act.put, List.setIfInBounds_toArray, List.set_cons_zero, List.set_cons_succ]
      refine wpAnyH_take (i := 1) (v := ?_) rfl (by kernel_rfl) (by kernel_rfl) (by kernel_rfl) (fun _ _ _ h => h) (Or.inl ⟨by rfl, ?_⟩) hS ?_
      rotate_left
      · (intro w' hSw; go_simp; try (with_reducible rfl))
      change wpAnyH _ _ _ _ _ _ _ (Act.put _ (some 24) _) _
      try simp only [Act.put, List.setIfInBounds_toArray, List.set_cons_zero, List.set_cons_succ]
      refine wpAnyH_take (i := 2) (v := ?_) rfl (by kernel_rfl) (by kernel_rfl) (by kernel_rfl) (fun _ _ _ h => h) (Or.inl ⟨by rfl, ?_⟩) hS ?_
      rotate_left
      · (intro w' hSw; go_simp; try (with_reducible rfl))
      change wpAnyH _ _ _ _ _ _ _ (Act.put _ (some 25) _) _
      try simp only [Act.put, List.setIfInBounds_toArray, List.set_cons_zero, List.set_cons_succ]
      refine wpAnyH_take (i := 3) (v := .bool false) rfl (by kernel_rfl) (by kernel_rfl) (by kernel_rfl) (fun _ _ _ h => h) (Or.inl ⟨by rfl, fun w' hSw => ex_binE .lss 3 3 (.tmp 23) (.tmp 25) rfl _ _ _ rfl rfl (lss_guard _ _ _ _ w') (lss_f k k hlt w')⟩) hS ?_
      change wpAnyH _ _ _ _ _ _ _ (Act.put _ (some 26) _) _
      try simp only [Act.put, List.setIfInBounds_toArray, List.set_cons_zero, List.set_cons_succ]
      refine wpAnyH_take (i := 4) (v := ?_) rfl (by kernel_rfl) (by kernel_rfl) (by kernel_rfl) (fun _ _ _ h => h) (Or.inl ⟨by rfl, ?_⟩) hS ?_
      rotate_left
      · (intro w' hSw; go_simp; try (with_reducible rfl))
      change wpAnyH _ _ _ _ _ _ _ (Act.put _ (some 27) _) _
      try simp only [Act.put, List.setIfInBounds_toArray, List.set_cons_zero, List.set_cons_succ]
      refine wpAnyH_take (i := 5) (v := undef) rfl (by kernel_rfl) (by kernel_rfl) (by kernel_rfl) (fun _ _ _ h => h) (Or.inr ⟨by rfl, rfl⟩) hS ?_
      change wpAnyH _ _ _ _ _ _ _ (Act.put _ (some 28) _) _
      try simp only [Act.put, List.setIfInBounds_toArray, List.set_cons_zero, List.set_cons_succ]
      refine wpAnyH_take (i := 6) (v := undef) rfl (by kernel_rfl) (by kernel_rfl) (by kernel_rfl) (fun _ _ _ h => h) (Or.inr ⟨by rfl, rfl⟩) hS ?_
      change wpAnyH _ _ _ _ _ _ _ (Act.put _ (some 29) _) _
      try simp only [Act.put, List.setIfInBounds_toArray, List.set_cons_zero, List.set_cons_succ]
      refine wpAnyH_take (i := 7) (v := undef) rfl (by kernel_rfl) (by kernel_rfl) (by kernel_rfl) (fun _ _ _ h => h) (Or.inr ⟨by rfl, rfl⟩) hS ?_
      change wpAnyH _ _ _ _ _ _ _ (Act.put _ (some 30) _) _
      try simp only [Act.put, List.setIfInBounds_toArray, List.set_cons_zero, List.set_cons_succ]
      refine wpAnyH_take (i := 8) (v := undef) rfl (by kernel_rfl) (by kernel_rfl) (by kernel_rfl) (fun _ _ _ h => h) (Or.inr ⟨by rfl, rfl⟩) hS ?_
      change wpAnyH _ _ _ _ _ _ _ (Act.put _ (some 31) _) _
      try simp only [Act.put, List.setIfInBounds_toArray, List.set_cons_zero, List.set_cons_succ]
      refine wpAnyH_take (i := 9) (v := undef) rfl (by kernel_rfl) (by kernel_rfl) (by kernel_rfl) (fun _ _ _ h => h) (Or.inr ⟨by rfl, rfl⟩) hS ?_
      change wpAnyH _ _ _ _ _ _ _ (Act.put _ (some 32) _) _
      try simp only [Act.put, List.setIfInBounds_toArray, List.set_cons_zero, List.set_cons_succ]
      refine wpAnyH_take (i := 10) (v := undef) rfl (by kernel_rfl) (by kernel_rfl) (by kernel_rfl) (fun _ _ _ h => h) (Or.inr ⟨by rfl, rfl⟩) hS ?_
      change wpAnyH _ _ _ _ _ _ _ (Act.put _ (some 33) _) _
      try simp only [Act.put, List.setIfInBounds_toArray, List.set_cons_zero, List.set_cons_succ]
      refine wpAnyH_take (i := 11) (v := ?_) rfl (by kernel_rfl) (by kernel_rfl) (by kernel_rfl) (fun _ _ _ h => h) (Or.inl ⟨by rfl, ?_⟩) hS ?_
      rotate_left
      · (intro w' hSw; go_simp; try (with_reducible rfl))
      change wpAnyH _ _ _ _ _ _ _ (Act.put _ (some 34) _) _
      try simp only [Act.put, List.setIfInBounds_toArray, List.set_cons_zero, List.set_cons_succ]
      refine wpAnyH_done (by kernel_rfl) ?_ _
      rcases hA with rfl | ⟨b', o', rfl⟩
      · have h0 : k = 0 := by
          rcases Nat.eq_zero_or_pos k with e | e
          · exact e
          · cases hAe e
        subst h0
        clear hbd
        have hbd := hS.drew
        clear hS
        have hkc : 0 ≤ c := by omega
        have hkci : ((0 : Nat) : Int) ≤ (c : Int) := by omega
        have hki0 : (0 : Int) ≤ ((0 : Nat) : Int) := by omega
        have hkni : ((0 : Nat) : Int) ≤ (0 : Int) := by omega
        go_wp2_with fail
        refine wp_region_held (S := fun w' : World => Below W0.heap.size W0 w') (by kernel_rfl) ?_
        change wpAnyH _ _ _ _ _ _ _ _ (World.drew (wr.drew.drew))
        have hbd : (fun w' : World => Below W0.heap.size W0 w') (World.drew (wr.drew.drew)) := hbd
        generalize hWc : World.drew (wr.drew.drew) = Wc at hbd ⊢
        have hS : (fun w' : World => Below W0.heap.size W0 w') Wc := hbd
        have hsz := hbd.size
        obtain ⟨ie, hie, hiz, his, hib⟩ := hash_infoM
        have HIE := Lib.hid hie
        have HIZ := Lib.hid hiz
        have HIS := Lib.hid his
        have HIB := Lib.hid hib
        clear hie hiz his hib
        have HRT := Lib.hid (fun (w' : World) (h : Below W0.heap.size W0 w') => ((HR0.out.take (k := 0) (by omega)).keep h).cells)
        have HRTL := Lib.hid (show (flatM (D.take 0)).length = 0 * 33 by rw [flat_lengthM, List.length_take, Nat.min_eq_left (by omega)])
        refine wpAnyH_take (i := 1) (v := ?_) rfl (by kernel_rfl) (by kernel_rfl) (by kernel_rfl) (fun _ _ _ h => h) (Or.inl ⟨by rfl, ?_⟩) hS ?_
        rotate_left
        · (intro w' hSw; go_simp; try (with_reducible rfl))
        change wpAnyH _ _ _ _ _ _ _ (Act.put _ (some 38) _) _
        try simp only [Act.put, List.setIfInBounds_toArray, List.set_cons_zero, List.set_cons_succ]
        refine wpAnyH_take (i := 2) (v := ?_) rfl (by kernel_rfl) (by kernel_rfl) (by kernel_rfl) (fun _ _ _ h => h) (Or.inl ⟨by rfl, ?_⟩) hS ?_
        rotate_left
        · (intro w' hSw; go_simp; try (with_reducible rfl))
        change wpAnyH _ _ _ _ _ _ _ (Act.put _ (some 39) _) _
        try simp only [Act.put, List.setIfInBounds_toArray, List.set_cons_zero, List.set_cons_succ]
        refine wpAnyH_take (i := 3) (v := ?_) rfl (by kernel_rfl) (by kernel_rfl) (by kernel_rfl) (fun _ _ _ h => h) (Or.inl ⟨by rfl, ?_⟩) hS ?_
        rotate_left
        · (intro w' hSw; go_simp; try (with_reducible rfl))
        change wpAnyH _ _ _ _ _ _ _ (Act.put _ (some 40) _) _
        try simp only [Act.put, List.setIfInBounds_toArray, List.set_cons_zero, List.set_cons_succ]
        refine wpAnyH_take (i := 5) (v := .agg (Mk.c m).toArray) rfl (by kernel_rfl) (by kernel_rfl) (by kernel_rfl) (fun _ _ _ h => h) (Or.inl ⟨by rfl, fun w' hSw => ex_ldE 26 (.tmp 3) rfl _ _ rfl (ld_hsM _ _ m w' (HMM.out w' hSw))⟩) hS ?_
        change wpAnyH _ _ _ _ _ _ _ (Act.put _ (some 42) _) _
        try simp only [Act.put, List.setIfInBounds_toArray, List.set_cons_zero, List.set_cons_succ]
        refine wpAnyH_ready (rs := [0, 6]) (by kernel_rfl) (by simp) ?_
        refine AllReadyH.cons rfl (fun K hK => ?_) (AllReadyH.cons rfl (fun K hK => ?_) AllReadyH.nil)
        · rw [if_pos (by kernel_rfl)]
          refine wp_build0 rfl ?_
          refine hK.out _ _ (hS.alloc hS.size _) (fun hS1 => ?_)
          clear hK K hS
          have hS := hS1
          clear hS1
          change wpAnyH _ _ _ _ _ _ _ (Act.put _ (some 37) _) _
          try simp only [Act.put, List.setIfInBounds_toArray, List.set_cons_zero, List.set_cons_succ]
          refine wpAnyH_ready (rs := [4, 6]) (by kernel_rfl) (by simp) ?_
          refine AllReadyH.cons rfl (fun K hK => ?_) (AllReadyH.cons rfl (fun K hK => ?_) AllReadyH.nil)
          · rw [if_pos (by kernel_rfl)]
            refine wp_append_rdz (.tmp 37) (.tmp 40) 22 rfl W0.heap.size 26 _ _ 33 40 Try.underlying22 HIE.out HIZ.out HIS.out HIB.out (by simp [Value.cells]) (by omega) (.slice (some ⟨Wc.heap.size, 0, none⟩) 0 0) 0 [] rfl (own0 Wc hsz) _ 0 _ (flatM (D.take 0)) rfl HRTL.out (HRT.out _ hS) (flat_oneM _) (by unfold maxLen; omega) (by omega) hS.size ?_
            intro v4 w4 ho4 hg4
            have hb4 : Below W0.heap.size W0 w4 := hS.grown hg4 hS.size (fun q hq => ((own0 Wc hsz).lt q hq).1)
            rw [Nat.zero_add, List.nil_append] at ho4
            refine hK.out _ _ (hb4) (fun hS1 => ?_)
            clear hK K hS
            have hS := hS1
            clear hS1
            change wpAnyH _ _ _ _ _ _ _ (Act.put _ (some 41) _) _
            try simp only [Act.put, List.setIfInBounds_toArray, List.set_cons_zero, List.set_cons_succ]
            refine wpAnyH_ready (rs := [6]) (by kernel_rfl) (by simp) ?_
            refine AllReadyH.cons rfl (fun K hK => ?_) AllReadyH.nil
            rw [if_pos (by kernel_rfl)]
            refine wp_buildMks 1 _ rfl [m] rfl (by omega) (by omega) rfl ?_
            rw [flat_singleM]
            refine hK.out _ _ (hS.alloc hS.size _) (fun hS1 => ?_)
            clear hK K hS
            have hS := hS1
            clear hS1
            change wpAnyH _ _ _ _ _ _ _ (Act.put _ (some 43) _) _
            try simp only [Act.put, List.setIfInBounds_toArray, List.set_cons_zero, List.set_cons_succ]
            refine wpAnyH_ready (rs := [7]) (by kernel_rfl) (by simp) ?_
            refine AllReadyH.cons rfl (fun K hK => ?_) AllReadyH.nil
            rw [if_pos (by kernel_rfl)]
            refine wp_append_rdz (.tmp 41) (.tmp 43) 22 rfl W0.heap.size 26 _ _ 33 40 Try.underlying22 HIE.out HIZ.out HIS.out HIB.out (by simp [Value.cells]) (by omega) v4 0 (flatM (D.take 0)) rfl (own_keep ho4 (below_newE _ _)) _ 1 1 (flatM [m]) rfl (by rw [flat_lengthM]; rfl) (fun _ => ⟨_, rfl, by rw [flat_singleM]; exact new_cells (Mk.c m)⟩) (flat_oneM _) (by unfold maxLen; omega) (by omega) hS.size ?_
            intro v7 w7 ho7 hg7
            have hb7 : Below W0.heap.size W0 w7 := hS.grown hg7 hS.size (fun q hq => (ho4.lt q hq).1)
            refine hK.out _ _ (hb7) (fun hS1 => ?_)
            clear hK K hS
            have hS := hS1
            clear hS1
            change wpAnyH _ _ _ _ _ _ _ (Act.put _ (some 44) _) _
            try simp only [Act.put, List.setIfInBounds_toArray, List.set_cons_zero, List.set_cons_succ]
            refine wpAnyH_take (i := 8) (v := ?_) rfl (by kernel_rfl) (by kernel_rfl) (by kernel_rfl) (fun _ _ _ h => h) (Or.inl ⟨by rfl, ?_⟩) hS ?_
            rotate_left
            · (intro w' hSw; go_simp; try (with_reducible rfl))
            change wpAnyH _ _ _ _ _ _ _ (Act.put _ (some 8) _) _
            try simp only [Act.put, List.setIfInBounds_toArray, List.set_cons_zero, List.set_cons_succ]
            refine wpAnyH_done (by kernel_rfl) ?_ _
            clear hg7
            obtain ⟨A7, c7, e7⟩ := own_sliceM ho7
            subst e7
            have HO7 := Lib.hid ho7
            clear ho7
            have hI9 : ins D m = D.take 0 ++ [m] := by rw [ins_notAt HIF.out, ← HK.out, List.drop_eq_nil_of_le (by omega)]
            all_goals
              go_wp2_with (at_builtin; refine wpList_append_rdz rfl (.tmp 45) (.tmp 48) 22 rfl W0.heap.size 26 _ _ 33 40 Try.underlying22 HIE.out HIZ.out HIS.out HIB.out (by simp [Value.cells]) (by omega) _ _ _ rfl HO7.out _ 0 _ [] rfl rfl (fun h => absurd h (by omega)) (by simp) (by unfold maxLen; omega) (by omega) hb7.size ?_)
              intro v9 w9 ho9 hg9
              have hb9 : Below W0.heap.size W0 w9 := hb7.grown hg9 hb7.size (fun q hq => (HO7.out.lt q hq).1)
              have ho9 : w9.ownsRow W0.heap.size 26 33 v9 (0 + 1) (flatM (ins D m)) := by rw [hI9, flat_appM]; have h := ho9; (try rw [hs0]); (try rw [List.append_nil] at h); (try rw [List.take_zero]); exact h
              obtain ⟨A9, c9, e9, hr9, hp9, hc9⟩ := own_pln ho9
              subst e9
              clear ho9 hg9
              have HR9 := Lib.hid hr9
              clear hr9
              go_wp2_with fail
              go_ret3
              exact ⟨_, _, _, by rw [HIF.out, ← HK.out]; rfl, HR9.out, hp9, hc9, HB0.out.trans (hb9.mono HB0.out.size)⟩
          · rw [if_pos (by kernel_rfl)]
            refine wp_buildMks 1 _ rfl [m] rfl (by omega) (by omega) rfl ?_
            rw [flat_singleM]
            refine hK.out _ _ (hS.alloc hS.size _) (fun hS1 => ?_)
            clear hK K hS
            have hS := hS1
            clear hS1
            change wpAnyH _ _ _ _ _ _ _ (Act.put _ (some 43) _) _
            try simp only [Act.put, List.setIfInBounds_toArray, List.set_cons_zero, List.set_cons_succ]
            refine wpAnyH_ready (rs := [4]) (by kernel_rfl) (by simp) ?_
            refine AllReadyH.cons rfl (fun K hK => ?_) AllReadyH.nil
            rw [if_pos (by kernel_rfl)]
            refine wp_append_rdz (.tmp 37) (.tmp 40) 22 rfl W0.heap.size 26 _ _ 33 40 Try.underlying22 HIE.out HIZ.out HIS.out HIB.out (by simp [Value.cells]) (by omega) (.slice (some ⟨Wc.heap.size, 0, none⟩) 0 0) 0 [] rfl (own_keep (own0 Wc hsz) (below_newE _ _)) _ 0 _ (flatM (D.take 0)) rfl HRTL.out (HRT.out _ hS) (flat_oneM _) (by unfold maxLen; omega) (by omega) hS.size ?_
            intro v4 w4 ho4 hg4
            have hb4 : Below W0.heap.size W0 w4 := hS.grown hg4 hS.size (fun q hq => ((own0 Wc hsz).lt q hq).1)
            rw [Nat.zero_add, List.nil_append] at ho4
            have hm4 := (new_own (Wc.alloc (.cells #[] 26)) m (Nat.zero_le _)).kept hg4 (Or.inr (by simp [Value.ownBlock]))
            refine hK.out _ _ (hb4) (fun hS1 => ?_)
            clear hK K hS
            have hS := hS1
            clear hS1
            change wpAnyH _ _ _ _ _ _ _ (Act.put _ (some 41) _) _
            try simp only [Act.put, List.setIfInBounds_toArray, List.set_cons_zero, List.set_cons_succ]
            refine wpAnyH_ready (rs := [7]) (by kernel_rfl) (by simp) ?_
            refine AllReadyH.cons rfl (fun K hK => ?_) AllReadyH.nil
            rw [if_pos (by kernel_rfl)]
            refine wp_append_rdz (.tmp 41) (.tmp 43) 22 rfl W0.heap.size 26 _ _ 33 40 Try.underlying22 HIE.out HIZ.out HIS.out HIB.out (by simp [Value.cells]) (by omega) v4 0 (flatM (D.take 0)) rfl (ho4) _ 1 1 (flatM [m]) rfl (by rw [flat_lengthM]; rfl) (by obtain ⟨A, c, e, hr⟩ := RdHM.own hm4; cases e; exact hr.cells) (flat_oneM _) (by unfold maxLen; omega) (by omega) hS.size ?_
            intro v7 w7 ho7 hg7
            have hb7 : Below W0.heap.size W0 w7 := hS.grown hg7 hS.size (fun q hq => (ho4.lt q hq).1)
            refine hK.out _ _ (hb7) (fun hS1 => ?_)
            clear hK K hS
            have hS := hS1
            clear hS1
            change wpAnyH _ _ _ _ _ _ _ (Act.put _ (some 44) _) _
            try simp only [Act.put, List.setIfInBounds_toArray, List.set_cons_zero, List.set_cons_succ]
            refine wpAnyH_take (i := 8) (v := ?_) rfl (by kernel_rfl) (by kernel_rfl) (by kernel_rfl) (fun _ _ _ h => h) (Or.inl ⟨by rfl, ?_⟩) hS ?_
            rotate_left
            · (intro w' hSw; go_simp; try (with_reducible rfl))
            change wpAnyH _ _ _ _ _ _ _ (Act.put _ (some 8) _) _
            try simp only [Act.put, List.setIfInBounds_toArray, List.set_cons_zero, List.set_cons_succ]
            refine wpAnyH_done (by kernel_rfl) ?_ _
            clear hg7
            obtain ⟨A7, c7, e7⟩ := own_sliceM ho7
            subst e7
            have HO7 := Lib.hid ho7
            clear ho7
            have hI9 : ins D m = D.take 0 ++ [m] := by rw [ins_notAt HIF.out, ← HK.out, List.drop_eq_nil_of_le (by omega)]
            all_goals
              go_wp2_with (at_builtin; refine wpList_append_rdz rfl (.tmp 45) (.tmp 48) 22 rfl W0.heap.size 26 _ _ 33 40 Try.underlying22 HIE.out HIZ.out HIS.out HIB.out (by simp [Value.cells]) (by omega) _ _ _ rfl HO7.out _ 0 _ [] rfl rfl (fun h => absurd h (by omega)) (by simp) (by unfold maxLen; omega) (by omega) hb7.size ?_)
              intro v9 w9 ho9 hg9
              have hb9 : Below W0.heap.size W0 w9 := hb7.grown hg9 hb7.size (fun q hq => (HO7.out.lt q hq).1)
              have ho9 : w9.ownsRow W0.heap.size 26 33 v9 (0 + 1) (flatM (ins D m)) := by rw [hI9, flat_appM]; have h := ho9; (try rw [hs0]); (try rw [List.append_nil] at h); (try rw [List.take_zero]); exact h
              obtain ⟨A9, c9, e9, hr9, hp9, hc9⟩ := own_pln ho9
              subst e9
              clear ho9 hg9
              have HR9 := Lib.hid hr9
              clear hr9
              go_wp2_with fail
              go_ret3
              exact ⟨_, _, _, by rw [HIF.out, ← HK.out]; rfl, HR9.out, hp9, hc9, HB0.out.trans (hb9.mono HB0.out.size)⟩
        · rw [if_pos (by kernel_rfl)]
          refine wp_buildMks 1 _ rfl [m] rfl (by omega) (by omega) rfl ?_
          rw [flat_singleM]
          refine hK.out _ _ (hS.alloc hS.size _) (fun hS1 => ?_)
          clear hK K hS
          have hS := hS1
          clear hS1
          change wpAnyH _ _ _ _ _ _ _ (Act.put _ (some 43) _) _
          try simp only [Act.put, List.setIfInBounds_toArray, List.set_cons_zero, List.set_cons_succ]
          refine wpAnyH_ready (rs := [0]) (by kernel_rfl) (by simp) ?_
          refine AllReadyH.cons rfl (fun K hK => ?_) AllReadyH.nil
          rw [if_pos (by kernel_rfl)]
          refine wp_build0 rfl ?_
          have hS0 := hS
          refine hK.out _ _ (hS.alloc hS.size _) (fun hS1 => ?_)
          clear hK K hS
          have hS := hS1
          clear hS1
          change wpAnyH _ _ _ _ _ _ _ (Act.put _ (some 37) _) _
          try simp only [Act.put, List.setIfInBounds_toArray, List.set_cons_zero, List.set_cons_succ]
          refine wpAnyH_ready (rs := [4]) (by kernel_rfl) (by simp) ?_
          refine AllReadyH.cons rfl (fun K hK => ?_) AllReadyH.nil
          rw [if_pos (by kernel_rfl)]
          refine wp_append_rdz (.tmp 37) (.tmp 40) 22 rfl W0.heap.size 26 _ _ 33 40 Try.underlying22 HIE.out HIZ.out HIS.out HIB.out (by simp [Value.cells]) (by omega) (.slice (some ⟨(Wc.alloc (.cells (Mk.c m).toArray 26)).heap.size, 0, none⟩) 0 0) 0 [] rfl (own0 (Wc.alloc (.cells (Mk.c m).toArray 26)) (hS0.size)) _ 0 _ (flatM (D.take 0)) rfl HRTL.out (HRT.out _ hS) (flat_oneM _) (by unfold maxLen; omega) (by omega) hS.size ?_
          intro v4 w4 ho4 hg4
          have hb4 : Below W0.heap.size W0 w4 := hS.grown hg4 hS.size (fun q hq => ((own0 (Wc.alloc (.cells (Mk.c m).toArray 26)) (hS0.size)).lt q hq).1)
          rw [Nat.zero_add, List.nil_append] at ho4
          have hm4 := (own_keep (new_own Wc m (Nat.zero_le _)) (below_newE _ (.cells #[] 26))).kept hg4 (Or.inr (by simp [Value.ownBlock]))
          refine hK.out _ _ (hb4) (fun hS1 => ?_)
          clear hK K hS
          have hS := hS1
          clear hS1
          change wpAnyH _ _ _ _ _ _ _ (Act.put _ (some 41) _) _
          try simp only [Act.put, List.setIfInBounds_toArray, List.set_cons_zero, List.set_cons_succ]
          refine wpAnyH_ready (rs := [7]) (by kernel_rfl) (by simp) ?_
          refine AllReadyH.cons rfl (fun K hK => ?_) AllReadyH.nil
          rw [if_pos (by kernel_rfl)]
          refine wp_append_rdz (.tmp 41) (.tmp 43) 22 rfl W0.heap.size 26 _ _ 33 40 Try.underlying22 HIE.out HIZ.out HIS.out HIB.out (by simp [Value.cells]) (by omega) v4 0 (flatM (D.take 0)) rfl (ho4) _ 1 1 (flatM [m]) rfl (by rw [flat_lengthM]; rfl) (by obtain ⟨A, c, e, hr⟩ := RdHM.own hm4; cases e; exact hr.cells) (flat_oneM _) (by unfold maxLen; omega) (by omega) hS.size ?_
          intro v7 w7 ho7 hg7
          have hb7 : Below W0.heap.size W0 w7 := hS.grown hg7 hS.size (fun q hq => (ho4.lt q hq).1)
          refine hK.out _ _ (hb7) (fun hS1 => ?_)
          clear hK K hS
          have hS := hS1
          clear hS1
          change wpAnyH _ _ _ _ _ _ _ (Act.put _ (some 44) _) _
          try simp only [Act.put, List.setIfInBounds_toArray, List.set_cons_zero, List.set_cons_succ]
          refine wpAnyH_take (i := 8) (v := ?_) rfl (by kernel_rfl) (by kernel_rfl) (by kernel_rfl) (fun _ _ _ h => h) (Or.inl ⟨by rfl, ?_⟩) hS ?_
          rotate_left
          · (intro w' hSw; go_simp; try (with_reducible rfl))
          change wpAnyH _ _ _ _ _ _ _ (Act.put _ (some 8) _) _
          try simp only [Act.put, List.setIfInBounds_toArray, List.set_cons_zero, List.set_cons_succ]
          refine wpAnyH_done (by kernel_rfl) ?_ _
          clear hg7
          obtain ⟨A7, c7, e7⟩ := own_sliceM ho7
          subst e7
          have HO7 := Lib.hid ho7
          clear ho7
          have hI9 : ins D m = D.take 0 ++ [m] := by rw [ins_notAt HIF.out, ← HK.out, List.drop_eq_nil_of_le (by omega)]
          all_goals
            go_wp2_with (at_builtin; refine wpList_append_rdz rfl (.tmp 45) (.tmp 48) 22 rfl W0.heap.size 26 _ _ 33 40 Try.underlying22 HIE.out HIZ.out HIS.out HIB.out (by simp [Value.cells]) (by omega) _ _ _ rfl HO7.out _ 0 _ [] rfl rfl (fun h => absurd h (by omega)) (by simp) (by unfold maxLen; omega) (by omega) hb7.size ?_)
            intro v9 w9 ho9 hg9
            have hb9 : Below W0.heap.size W0 w9 := hb7.grown hg9 hb7.size (fun q hq => (HO7.out.lt q hq).1)
            have ho9 : w9.ownsRow W0.heap.size 26 33 v9 (0 + 1) (flatM (ins D m)) := by rw [hI9, flat_appM]; have h := ho9; (try rw [hs0]); (try rw [List.append_nil] at h); (try rw [List.take_zero]); exact h
            obtain ⟨A9, c9, e9, hr9, hp9, hc9⟩ := own_pln ho9
            subst e9
            clear ho9 hg9
            have HR9 := Lib.hid hr9
            clear hr9
            go_wp2_with fail
            go_ret3
            exact ⟨_, _, _, by rw [HIF.out, ← HK.out]; rfl, HR9.out, hp9, hc9, HB0.out.trans (hb9.mono HB0.out.size)⟩
      · clear hAe hbl HX0 HXX
        clear hbd
        have hbd := hS.drew
        clear hS
        have hkc : k ≤ c := by omega
        have hkci : ((k : Nat) : Int) ≤ (c : Int) := by omega
        have hki0 : (0 : Int) ≤ ((k : Nat) : Int) := by omega
        have hkni : ((k : Nat) : Int) ≤ (k : Int) := by omega
        go_wp2_with fail
        refine wp_region_held (S := fun w' : World => Below W0.heap.size W0 w') (by kernel_rfl) ?_
        change wpAnyH _ _ _ _ _ _ _ _ (World.drew (wr.drew.drew))
        have hbd : (fun w' : World => Below W0.heap.size W0 w') (World.drew (wr.drew.drew)) := hbd
        generalize hWc : World.drew (wr.drew.drew) = Wc at hbd ⊢
        have hS : (fun w' : World => Below W0.heap.size W0 w') Wc := hbd
        have hsz := hbd.size
        obtain ⟨ie, hie, hiz, his, hib⟩ := hash_infoM
        have HIE := Lib.hid hie
        have HIZ := Lib.hid hiz
        have HIS := Lib.hid his
        have HIB := Lib.hid hib
        clear hie hiz his hib
        have HRT := Lib.hid (fun (w' : World) (h : Below W0.heap.size W0 w') => ((HR0.out.take (k := k) (by omega)).keep h).cells)
        have HRTL := Lib.hid (show (flatM (D.take k)).length = k * 33 by rw [flat_lengthM, List.length_take, Nat.min_eq_left (by omega)])
        refine wpAnyH_take (i := 1) (v := ?_) rfl (by kernel_rfl) (by kernel_rfl) (by kernel_rfl) (fun _ _ _ h => h) (Or.inl ⟨by rfl, ?_⟩) hS ?_
        rotate_left
        · (intro w' hSw; go_simp; try (with_reducible rfl))
        change wpAnyH _ _ _ _ _ _ _ (Act.put _ (some 38) _) _
        try simp only [Act.put, List.setIfInBounds_toArray, List.set_cons_zero, List.set_cons_succ]
        refine wpAnyH_take (i := 2) (v := ?_) rfl (by kernel_rfl) (by kernel_rfl) (by kernel_rfl) (fun _ _ _ h => h) (Or.inl ⟨by rfl, ?_⟩) hS ?_
        rotate_left
        · (intro w' hSw; go_simp; try (with_reducible rfl))
        change wpAnyH _ _ _ _ _ _ _ (Act.put _ (some 39) _) _
        try simp only [Act.put, List.setIfInBounds_toArray, List.set_cons_zero, List.set_cons_succ]
        refine wpAnyH_take (i := 3) (v := ?_) rfl (by kernel_rfl) (by kernel_rfl) (by kernel_rfl) (fun _ _ _ h => h) (Or.inl ⟨by rfl, ?_⟩) hS ?_
        rotate_left
        · (intro w' hSw; go_simp; try (with_reducible rfl))
        change wpAnyH _ _ _ _ _ _ _ (Act.put _ (some 40) _) _
        try simp only [Act.put, List.setIfInBounds_toArray, List.set_cons_zero, List.set_cons_succ]
        refine wpAnyH_take (i := 5) (v := .agg (Mk.c m).toArray) rfl (by kernel_rfl) (by kernel_rfl) (by kernel_rfl) (fun _ _ _ h => h) (Or.inl ⟨by rfl, fun w' hSw => ex_ldE 26 (.tmp 3) rfl _ _ rfl (ld_hsM _ _ m w' (HMM.out w' hSw))⟩) hS ?_
        change wpAnyH _ _ _ _ _ _ _ (Act.put _ (some 42) _) _
        try simp only [Act.put, List.setIfInBounds_toArray, List.set_cons_zero, List.set_cons_succ]
        refine wpAnyH_ready (rs := [0, 6]) (by kernel_rfl) (by simp) ?_
        refine AllReadyH.cons rfl (fun K hK => ?_) (AllReadyH.cons rfl (fun K hK => ?_) AllReadyH.nil)
        · rw [if_pos (by kernel_rfl)]
          refine wp_build0 rfl ?_
          refine hK.out _ _ (hS.alloc hS.size _) (fun hS1 => ?_)
          clear hK K hS
          have hS := hS1
          clear hS1
          change wpAnyH _ _ _ _ _ _ _ (Act.put _ (some 37) _) _
          try simp only [Act.put, List.setIfInBounds_toArray, List.set_cons_zero, List.set_cons_succ]
          refine wpAnyH_ready (rs := [4, 6]) (by kernel_rfl) (by simp) ?_
          refine AllReadyH.cons rfl (fun K hK => ?_) (AllReadyH.cons rfl (fun K hK => ?_) AllReadyH.nil)
          · rw [if_pos (by kernel_rfl)]
            refine wp_append_rdz (.tmp 37) (.tmp 40) 22 rfl W0.heap.size 26 _ _ 33 40 Try.underlying22 HIE.out HIZ.out HIS.out HIB.out (by simp [Value.cells]) (by omega) (.slice (some ⟨Wc.heap.size, 0, none⟩) 0 0) 0 [] rfl (own0 Wc hsz) _ k _ (flatM (D.take k)) rfl HRTL.out (HRT.out _ hS) (flat_oneM _) (by unfold maxLen; omega) (by omega) hS.size ?_
            intro v4 w4 ho4 hg4
            have hb4 : Below W0.heap.size W0 w4 := hS.grown hg4 hS.size (fun q hq => ((own0 Wc hsz).lt q hq).1)
            rw [Nat.zero_add, List.nil_append] at ho4
            refine hK.out _ _ (hb4) (fun hS1 => ?_)
            clear hK K hS
            have hS := hS1
            clear hS1
            change wpAnyH _ _ _ _ _ _ _ (Act.put _ (some 41) _) _
            try simp only [Act.put, List.setIfInBounds_toArray, List.set_cons_zero, List.set_cons_succ]
            refine wpAnyH_ready (rs := [6]) (by kernel_rfl) (by simp) ?_
            refine AllReadyH.cons rfl (fun K hK => ?_) AllReadyH.nil
            rw [if_pos (by kernel_rfl)]
            refine wp_buildMks 1 _ rfl [m] rfl (by omega) (by omega) rfl ?_
            rw [flat_singleM]
            refine hK.out _ _ (hS.alloc hS.size _) (fun hS1 => ?_)
            clear hK K hS
            have hS := hS1
            clear hS1
            change wpAnyH _ _ _ _ _ _ _ (Act.put _ (some 43) _) _
            try simp only [Act.put, List.setIfInBounds_toArray, List.set_cons_zero, List.set_cons_succ]
            refine wpAnyH_ready (rs := [7]) (by kernel_rfl) (by simp) ?_
            refine AllReadyH.cons rfl (fun K hK => ?_) AllReadyH.nil
            rw [if_pos (by kernel_rfl)]
            refine wp_append_rdz (.tmp 41) (.tmp 43) 22 rfl W0.heap.size 26 _ _ 33 40 Try.underlying22 HIE.out HIZ.out HIS.out HIB.out (by simp [Value.cells]) (by omega) v4 k (flatM (D.take k)) rfl (own_keep ho4 (below_newE _ _)) _ 1 1 (flatM [m]) rfl (by rw [flat_lengthM]; rfl) (fun _ => ⟨_, rfl, by rw [flat_singleM]; exact new_cells (Mk.c m)⟩) (flat_oneM _) (by unfold maxLen; omega) (by omega) hS.size ?_
            intro v7 w7 ho7 hg7
            have hb7 : Below W0.heap.size W0 w7 := hS.grown hg7 hS.size (fun q hq => (ho4.lt q hq).1)
            refine hK.out _ _ (hb7) (fun hS1 => ?_)
            clear hK K hS
            have hS := hS1
            clear hS1
            change wpAnyH _ _ _ _ _ _ _ (Act.put _ (some 44) _) _
            try simp only [Act.put, List.setIfInBounds_toArray, List.set_cons_zero, List.set_cons_succ]
            refine wpAnyH_take (i := 8) (v := ?_) rfl (by kernel_rfl) (by kernel_rfl) (by kernel_rfl) (fun _ _ _ h => h) (Or.inl ⟨by rfl, ?_⟩) hS ?_
            rotate_left
            · (intro w' hSw; go_simp; try (with_reducible rfl))
            change wpAnyH _ _ _ _ _ _ _ (Act.put _ (some 8) _) _
            try simp only [Act.put, List.setIfInBounds_toArray, List.set_cons_zero, List.set_cons_succ]
            refine wpAnyH_done (by kernel_rfl) ?_ _
            clear hg7
            obtain ⟨A7, c7, e7⟩ := own_sliceM ho7
            subst e7
            have HO7 := Lib.hid ho7
            clear ho7
            have hI9 : ins D m = D.take k ++ [m] := by rw [ins_notAt HIF.out, ← HK.out, List.drop_eq_nil_of_le (by omega)]
            by_cases hck : c = k
            all_goals
              go_wp2_with (at_builtin; refine wpList_append_rdz rfl (.tmp 45) (.tmp 48) 22 rfl W0.heap.size 26 _ _ 33 40 Try.underlying22 HIE.out HIZ.out HIS.out HIB.out (by simp [Value.cells]) (by omega) _ _ _ rfl HO7.out _ 0 _ [] rfl rfl (fun h => absurd h (by omega)) (by simp) (by unfold maxLen; omega) (by omega) hb7.size ?_)
              intro v9 w9 ho9 hg9
              have hb9 : Below W0.heap.size W0 w9 := hb7.grown hg9 hb7.size (fun q hq => (HO7.out.lt q hq).1)
              have ho9 : w9.ownsRow W0.heap.size 26 33 v9 (k + 1) (flatM (ins D m)) := by rw [hI9, flat_appM]; have h := ho9; (try rw [hs0]); (try rw [List.append_nil] at h); (try rw [List.take_zero]); exact h
              obtain ⟨A9, c9, e9, hr9, hp9, hc9⟩ := own_pln ho9
              subst e9
              clear ho9 hg9
              have HR9 := Lib.hid hr9
              clear hr9
              go_wp2_with fail
              go_ret3
              exact ⟨_, _, _, by rw [HIF.out, ← HK.out]; rfl, HR9.out, hp9, hc9, HB0.out.trans (hb9.mono HB0.out.size)⟩
          · rw [if_pos (by kernel_rfl)]
            refine wp_buildMks 1 _ rfl [m] rfl (by omega) (by omega) rfl ?_
            rw [flat_singleM]
            refine hK.out _ _ (hS.alloc hS.size _) (fun hS1 => ?_)
            clear hK K hS
            have hS := hS1
            clear hS1
            change wpAnyH _ _ _ _ _ _ _ (Act.put _ (some 43) _) _
            try simp only [Act.put, List.setIfInBounds_toArray, List.set_cons_zero, List.set_cons_succ]
            refine wpAnyH_ready (rs := [4]) (by kernel_rfl) (by simp) ?_
            refine AllReadyH.cons rfl (fun K hK => ?_) AllReadyH.nil
            rw [if_pos (by kernel_rfl)]
            refine wp_append_rdz (.tmp 37) (.tmp 40) 22 rfl W0.heap.size 26 _ _ 33 40 Try.underlying22 HIE.out HIZ.out HIS.out HIB.out (by simp [Value.cells]) (by omega) (.slice (some ⟨Wc.heap.size, 0, none⟩) 0 0) 0 [] rfl (own_keep (own0 Wc hsz) (below_newE _ _)) _ k _ (flatM (D.take k)) rfl HRTL.out (HRT.out _ hS) (flat_oneM _) (by unfold maxLen; omega) (by omega) hS.size ?_
            intro v4 w4 ho4 hg4
            have hb4 : Below W0.heap.size W0 w4 := hS.grown hg4 hS.size (fun q hq => ((own0 Wc hsz).lt q hq).1)
            rw [Nat.zero_add, List.nil_append] at ho4
            have hm4 := (new_own (Wc.alloc (.cells #[] 26)) m (Nat.zero_le _)).kept hg4 (Or.inr (by simp [Value.ownBlock]))
            refine hK.out _ _ (hb4) (fun hS1 => ?_)
            clear hK K hS
            have hS := hS1
            clear hS1
            change wpAnyH _ _ _ _ _ _ _ (Act.put _ (some 41) _) _
            try simp only [Act.put, List.setIfInBounds_toArray, List.set_cons_zero, List.set_cons_succ]
            refine wpAnyH_ready (rs := [7]) (by kernel_rfl) (by simp) ?_
            refine AllReadyH.cons rfl (fun K hK => ?_) AllReadyH.nil
            rw [if_pos (by kernel_rfl)]
            refine wp_append_rdz (.tmp 41) (.tmp 43) 22 rfl W0.heap.size 26 _ _ 33 40 Try.underlying22 HIE.out HIZ.out HIS.out HIB.out (by simp [Value.cells]) (by omega) v4 k (flatM (D.take k)) rfl (ho4) _ 1 1 (flatM [m]) rfl (by rw [flat_lengthM]; rfl) (by obtain ⟨A, c, e, hr⟩ := RdHM.own hm4; cases e; exact hr.cells) (flat_oneM _) (by unfold maxLen; omega) (by omega) hS.size ?_
            intro v7 w7 ho7 hg7
            have hb7 : Below W0.heap.size W0 w7 := hS.grown hg7 hS.size (fun q hq => (ho4.lt q hq).1)
            refine hK.out _ _ (hb7) (fun hS1 => ?_)
            clear hK K hS
            have hS := hS1
            clear hS1
            change wpAnyH _ _ _ _ _ _ _ (Act.put _ (some 44) _) _
            try simp only [Act.put, List.setIfInBounds_toArray, List.set_cons_zero, List.set_cons_succ]
            refine wpAnyH_take (i := 8) (v := ?_) rfl (by kernel_rfl) (by kernel_rfl) (by kernel_rfl) (fun _ _ _ h => h) (Or.inl ⟨by rfl, ?_⟩) hS ?_
            rotate_left
            · (intro w' hSw; go_simp; try (with_reducible rfl))
            change wpAnyH _ _ _ _ _ _ _ (Act.put _ (some 8) _) _
            try simp only [Act.put, List.setIfInBounds_toArray, List.set_cons_zero, List.set_cons_succ]
            refine wpAnyH_done (by kernel_rfl) ?_ _
            clear hg7
            obtain ⟨A7, c7, e7⟩ := own_sliceM ho7
            subst e7
            have HO7 := Lib.hid ho7
            clear ho7
            have hI9 : ins D m = D.take k ++ [m] := by rw [ins_notAt HIF.out, ← HK.out, List.drop_eq_nil_of_le (by omega)]
            by_cases hck : c = k
            all_goals
              go_wp2_with (at_builtin; refine wpList_append_rdz rfl (.tmp 45) (.tmp 48) 22 rfl W0.heap.size 26 _ _ 33 40 Try.underlying22 HIE.out HIZ.out HIS.out HIB.out (by simp [Value.cells]) (by omega) _ _ _ rfl HO7.out _ 0 _ [] rfl rfl (fun h => absurd h (by omega)) (by simp) (by unfold maxLen; omega) (by omega) hb7.size ?_)
              intro v9 w9 ho9 hg9
              have hb9 : Below W0.heap.size W0 w9 := hb7.grown hg9 hb7.size (fun q hq => (HO7.out.lt q hq).1)
              have ho9 : w9.ownsRow W0.heap.size 26 33 v9 (k + 1) (flatM (ins D m)) := by rw [hI9, flat_appM]; have h := ho9; (try rw [hs0]); (try rw [List.append_nil] at h); (try rw [List.take_zero]); exact h
              obtain ⟨A9, c9, e9, hr9, hp9, hc9⟩ := own_pln ho9
              subst e9
              clear ho9 hg9
              have HR9 := Lib.hid hr9
              clear hr9
              go_wp2_with fail
              go_ret3
              exact ⟨_, _, _, by rw [HIF.out, ← HK.out]; rfl, HR9.out, hp9, hc9, HB0.out.trans (hb9.mono HB0.out.size)⟩
        · rw [if_pos (by kernel_rfl)]
          refine wp_buildMks 1 _ rfl [m] rfl (by omega) (by omega) rfl ?_
          rw [flat_singleM]
          refine hK.out _ _ (hS.alloc hS.size _) (fun hS1 => ?_)
          clear hK K hS
          have hS := hS1
          clear hS1
          change wpAnyH _ _ _ _ _ _ _ (Act.put _ (some 43) _) _
          try simp only [Act.put, List.setIfInBounds_toArray, List.set_cons_zero, List.set_cons_succ]
          refine wpAnyH_ready (rs := [0]) (by kernel_rfl) (by simp) ?_
          refine AllReadyH.cons rfl (fun K hK => ?_) AllReadyH.nil
          rw [if_pos (by kernel_rfl)]
          refine wp_build0 rfl ?_
          have hS0 := hS
          refine hK.out _ _ (hS.alloc hS.size _) (fun hS1 => ?_)
          clear hK K hS
          have hS := hS1
          clear hS1
          change wpAnyH _ _ _ _ _ _ _ (Act.put _ (some 37) _) _
          try simp only [Act.put, List.setIfInBounds_toArray, List.set_cons_zero, List.set_cons_succ]
          refine wpAnyH_ready (rs := [4]) (by kernel_rfl) (by simp) ?_
          refine AllReadyH.cons rfl (fun K hK => ?_) AllReadyH.nil
          rw [if_pos (by kernel_rfl)]
          refine wp_append_rdz (.tmp 37) (.tmp 40) 22 rfl W0.heap.size 26 _ _ 33 40 Try.underlying22 HIE.out HIZ.out HIS.out HIB.out (by simp [Value.cells]) (by omega) (.slice (some ⟨(Wc.alloc (.cells (Mk.c m).toArray 26)).heap.size, 0, none⟩) 0 0) 0 [] rfl (own0 (Wc.alloc (.cells (Mk.c m).toArray 26)) (hS0.size)) _ k _ (flatM (D.take k)) rfl HRTL.out (HRT.out _ hS) (flat_oneM _) (by unfold maxLen; omega) (by omega) hS.size ?_
          intro v4 w4 ho4 hg4
          have hb4 : Below W0.heap.size W0 w4 := hS.grown hg4 hS.size (fun q hq => ((own0 (Wc.alloc (.cells (Mk.c m).toArray 26)) (hS0.size)).lt q hq).1)
          rw [Nat.zero_add, List.nil_append] at ho4
          have hm4 := (own_keep (new_own Wc m (Nat.zero_le _)) (below_newE _ (.cells #[] 26))).kept hg4 (Or.inr (by simp [Value.ownBlock]))
          refine hK.out _ _ (hb4) (fun hS1 => ?_)
          clear hK K hS
          have hS := hS1
          clear hS1
          change wpAnyH _ _ _ _ _ _ _ (Act.put _ (some 41) _) _
          try simp only [Act.put, List.setIfInBounds_toArray, List.set_cons_zero, List.set_cons_succ]
          refine wpAnyH_ready (rs := [7]) (by kernel_rfl) (by simp) ?_
          refine AllReadyH.cons rfl (fun K hK => ?_) AllReadyH.nil
          rw [if_pos (by kernel_rfl)]
          refine wp_append_rdz (.tmp 41) (.tmp 43) 22 rfl W0.heap.size 26 _ _ 33 40 Try.underlying22 HIE.out HIZ.out HIS.out HIB.out (by simp [Value.cells]) (by omega) v4 k (flatM (D.take k)) rfl (ho4) _ 1 1 (flatM [m]) rfl (by rw [flat_lengthM]; rfl) (by obtain ⟨A, c, e, hr⟩ := RdHM.own hm4; cases e; exact hr.cells) (flat_oneM _) (by unfold maxLen; omega) (by omega) hS.size ?_
          intro v7 w7 ho7 hg7
          have hb7 : Below W0.heap.size W0 w7 := hS.grown hg7 hS.size (fun q hq => (ho4.lt q hq).1)
          refine hK.out _ _ (hb7) (fun hS1 => ?_)
          clear hK K hS
          have hS := hS1
          clear hS1
          change wpAnyH _ _ _ _ _ _ _ (Act.put _ (some 44) _) _
          try simp only [Act.put, List.setIfInBounds_toArray, List.set_cons_zero, List.set_cons_succ]
          refine wpAnyH_take (i := 8) (v := ?_) rfl (by kernel_rfl) (by kernel_rfl) (by kernel_rfl) (fun _ _ _ h => h) (Or.inl ⟨by rfl, ?_⟩) hS ?_
          rotate_left
          · (intro w' hSw; go_simp; try (with_reducible rfl))
          change wpAnyH _ _ _ _ _ _ _ (Act.put _ (some 8) _) _
          try simp only [Act.put, List.setIfInBounds_toArray, List.set_cons_zero, List.set_cons_succ]
          refine wpAnyH_done (by kernel_rfl) ?_ _
          clear hg7
          obtain ⟨A7, c7, e7⟩ := own_sliceM ho7
          subst e7
          have HO7 := Lib.hid ho7
          clear ho7
          have hI9 : ins D m = D.take k ++ [m] := by rw [ins_notAt HIF.out, ← HK.out, List.drop_eq_nil_of_le (by omega)]
          by_cases hck : c = k
          all_goals
            go_wp2_with (at_builtin; refine wpList_append_rdz rfl (.tmp 45) (.tmp 48) 22 rfl W0.heap.size 26 _ _ 33 40 Try.underlying22 HIE.out HIZ.out HIS.out HIB.out (by simp [Value.cells]) (by omega) _ _ _ rfl HO7.out _ 0 _ [] rfl rfl (fun h => absurd h (by omega)) (by simp) (by unfold maxLen; omega) (by omega) hb7.size ?_)
            intro v9 w9 ho9 hg9
            have hb9 : Below W0.heap.size W0 w9 := hb7.grown hg9 hb7.size (fun q hq => (HO7.out.lt q hq).1)
            have ho9 : w9.ownsRow W0.heap.size 26 33 v9 (k + 1) (flatM (ins D m)) := by rw [hI9, flat_appM]; have h := ho9; (try rw [hs0]); (try rw [List.append_nil] at h); (try rw [List.take_zero]); exact h
            obtain ⟨A9, c9, e9, hr9, hp9, hc9⟩ := own_pln ho9
            subst e9
            clear ho9 hg9
            have HR9 := Lib.hid hr9
            clear hr9
            go_wp2_with fail
            go_ret3
            exact ⟨_, _, _, by rw [HIF.out, ← HK.out]; rfl, HR9.out, hp9, hc9, HB0.out.trans (hb9.mono HB0.out.size)⟩

end Go.Proofs.Ytocgeemjdlnabaa
