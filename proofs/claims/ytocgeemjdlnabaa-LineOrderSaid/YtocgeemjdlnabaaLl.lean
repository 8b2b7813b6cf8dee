/- line.Insert, line.Merge. -/
import Derived.Test.YtocgeemjdlnabaaLk
import Derived.Test.YtocgeemjdlnabaaLi
import Derived.Great.BuildSlice
namespace Go.Proofs.Ytocgeemjdlnabaa
set_option maxRecDepth 100000
set_option linter.unusedSimpArgs false
set_option linter.unusedVariables false
open Go.RowKit

/-- A slice's address is nil or plain. -/
def Pln (A : Option Addr) : Prop := A = none ∨ ∃ b o, A = some ⟨b, o, none⟩
theorem wp_buildMks {o : Oper} {a : Act} {w : World} {K : Act → World → Prop} {Q : Exit → Act → World → Prop} (len : Nat) (parts : Array (Nat × Operand)) (ho : o.op = .buildSlice 22 len parts)
    (l : List Mk) (hlen : len = l.length) (hpos : 0 < len) (hsm : len < 1000) (hp : (parts.toList.map fun y => (y.1, a.eval y.2)) = ((l.map fun x => Value.agg (Mk.c x).toArray).zipIdx 0).map fun x => (x.2, x.1))
    (h : K (a.put o.dst (.slice (some ⟨w.heap.size, 0, none⟩) len len)) (w.alloc (.cells (flatM l).toArray 26))) : o.wp Try.prog a w K Q := by
  obtain ⟨ie, hie, hz, hs, _⟩ := hash_infoM
  refine wp_buildSlice 22 26 len parts ho (flatM l).toArray ie _ Try.underlying22 hie hz (by rw [hs]; omega) (by rw [hs]; omega) ?_ h
  rw [Array.toList_map, show (parts.toList.map fun (i, x) => (i, a.eval x)) = (parts.toList.map fun y => (y.1, a.eval y.2)) from rfl, hp, hs]
  have hw := Great.fill_whole (s := 33) (by decide) (l.map fun x => Value.agg (Mk.c x).toArray) ((Array.range (len * 33)).map ((Value.agg (Value.int .i64 0 :: List.replicate 32 (Value.int .u8 0)).toArray).cells[· % (Value.agg (Value.int .i64 0 :: List.replicate 32 (Value.int .u8 0)).toArray).cells.size]!)) (fun v hv => by
    obtain ⟨N, _, rfl⟩ := List.mem_map.1 hv
    show (Mk.c N).toArray.size = 33
    rw [List.size_toArray, Mk.c_len]) (by simp [hlen])
  rw [hw]
  congr 2
  unfold flatM
  rw [List.flatMap_map]
  rfl
theorem flat_singleM (m : Mk) : flatM [m] = Mk.c m := by unfold flatM; rw [List.flatMap_cons, List.flatMap_nil, List.append_nil]
theorem ins_isAt {D : List Mk} {m : Mk} (h : isAt D m = true) : ins D m = D := by
  unfold isAt at h
  exact ins_there (of_decide_eq_true h)
theorem ins_notAt {D : List Mk} {m : Mk} (h : isAt D m = false) : ins D m = D.take (pl D m) ++ m :: D.drop (pl D m) := by
  unfold isAt at h
  exact ins_new (of_decide_eq_false h)
theorem RdHM.take {w : World} {A : Option Addr} {n k : Nat} {D : List Mk} (h : RdHM w A n D) (hk : k ≤ n) : RdHM w A k (D.take k) :=
  ⟨by rw [List.length_take, h.1, Nat.min_eq_left hk], fun h0 => by
    obtain ⟨ad, e, hlt, hc⟩ := h.2 (by omega)
    refine ⟨ad, e, hlt, fun j v hj => hc j v ?_⟩
    have e2 : flatM D = flatM (D.take k) ++ flatM (D.drop k) := by rw [← flat_appM, List.take_append_drop]
    rw [e2, List.getElem?_append_left (List.getElem?_eq_some_iff.1 hj).1]
    exact hj⟩
theorem RdHM.drop {w : World} {b o n k : Nat} {D : List Mk} (h : RdHM w (some ⟨b, o, none⟩) n D) (hk : k ≤ n) : RdHM w (some ⟨b, o + k * 33, none⟩) (n - k) (D.drop k) :=
  ⟨by rw [List.length_drop, h.1], fun h0 => by
    obtain ⟨ad, e, hlt, hc⟩ := h.2 (by omega)
    cases e
    refine ⟨_, rfl, hlt, fun j v hj => ?_⟩
    have e2 : flatM D = flatM (D.take k) ++ flatM (D.drop k) := by rw [← flat_appM, List.take_append_drop]
    have hl : (flatM (D.take k)).length = k * 33 := by rw [flat_lengthM, List.length_take, h.1, Nat.min_eq_left hk]
    have h1 := hc (k * 33 + j) v (by rw [e2, List.getElem?_append_right (by omega), hl, show k * 33 + j - k * 33 = j by omega]; exact hj)
    rw [Addr.add_mid, ← Nat.add_assoc] at h1
    rw [Addr.add_mid]
    exact h1⟩
theorem RdHM.dropIf {w : World} {b o n c k : Nat} {D : List Mk} (h : RdHM w (some ⟨b, o, none⟩) n D) (hk : k ≤ n) (hc : n ≤ c) : RdHM w (if c = k then some ⟨b, o, none⟩ else some ⟨b, o + k * 33, none⟩) (n - k) (D.drop k) := by
  by_cases e : c = k
  · rw [if_pos e]
    have h0 : n - k = 0 := by omega
    rw [h0]
    exact ⟨by rw [List.length_drop, h.1]; exact h0, fun h => absurd h (by omega)⟩
  · rw [if_neg e]
    exact h.drop hk
theorem RdHM.cons3 {w : World} {a1 a2 a3 : Option Addr} {n1 n2 n3 c1 c2 c3 : Nat} {D1 D2 D3 : List Mk} (h1 : RdHM w a1 n1 D1) (h2 : RdHM w a2 n2 D2) (h3 : RdHM w a3 n3 D3) : ParsM w [.slice a1 n1 c1, .slice a2 n2 c2, .slice a3 n3 c3] [D1, D2, D3] :=
  .cons h1 (.cons h2 (.cons h3 (.nil w)))
theorem RdHM.one (w : World) (m : Mk) (T : TypeId) : RdHM (w.alloc (.cells (Mk.c m).toArray T)) (some ⟨w.heap.size, 0, none⟩) 1 [m] :=
  RdHM.rowM (R := []) (by rw [List.append_nil]; unfold flatM; rw [List.flatMap_cons, List.flatMap_nil, List.append_nil]; exact Row.new w (Mk.c m) T) rfl
set_option maxHeartbeats 3200000 in
theorem insert_any (A : Option Addr) (n c : Nat) (D : List Mk) (m : Mk) (w : World) (hr : RdHM w A n D) (hA : Pln A) (hnc : n ≤ c) (ha : Asc D) (hn : n ≤ 900000) :
    Calls Try.prog 18 #[.slice A n c, .agg (Mk.c m).toArray] w fun e w' => ∃ v, e = .returned (.tuple #[v, .int .i64 (pl D m : Int), .bool (!isAt D m)]) ∧ w'.ownsRow w.heap.size 26 33 v (ins D m).length (flatM (ins D m)) ∧ Below w.heap.size w w' := by
  have hDn := hr.1
  have hpl := pl_le D m
  have HB0 := Lib.hid (below_newE w (.cells (Mk.c m).toArray 26))
  have R1 := Lib.hid (Row.new w (Mk.c m) 26)
  have HR0 := Lib.hid (hr.keep HB0.out)
  have HI1 := Lib.hid (mk_info m)
  have HP := Lib.hid (place_any A n c D m _ HR0.out ha (by omega))
  clear hr
  generalize hx : (Mk.c m).toArray = x at *
  have R1' := Lib.hid (show (w.alloc (.cells x 26)).heap[w.heap.size]? = some (.cells x 26 (0, 0)) from hx ▸ R1.out)
  go_enter Try.func18, Try.ntmps18
  go_wp2_with (refine wpList_load_row rfl 26 (.tmp 3) rfl w.heap.size rfl 26 _ (0, 0) _ R1'.out Try.underlying26 rfl HI1.out ?_)
  refine HP.out.mono ?_
  rintro e W1 ⟨rfl, hb⟩
  have HR1 := Lib.hid (HR0.out.keep hb)
  have hs1 : w.heap.size < W1.heap.size := Nat.lt_of_lt_of_le (by simp) hb.size
  have HM1 := Lib.hid (fun (w' : World) (h : Below W1.heap.size W1 w') => range_below (b := w.heap.size) (o := 0) (cs := Mk.c m) (range_below (fun j v hv => R1.out.cell (by rw [Nat.zero_add]; exact hv)) hb (by simp)) h hs1)
  have HB1 := Lib.hid (HB0.out.trans (hb.mono HB0.out.size))
  clear hb
  by_cases hat : isAt D m = true
  · have HI := Lib.hid (ins_isAt hat)
    have h0 : 0 < n := by
      rcases Nat.eq_zero_or_pos n with e | e
      · have hD : D = [] := List.length_eq_zero_iff.1 (by omega)
        subst hD
        simp [isAt] at hat
      · exact e
    obtain ⟨ad, rfl, hlt, hc⟩ := HR1.out.2 h0
    have HCL := Lib.hid (hclone_anyM ad n c (flatM D) W1 (by rw [flat_lengthM, hDn]) (by omega) hc (flat_oneM D))
    clear hc
    go_wp2_with fail
    refine HCL.out.mono ?_
    rintro e W2 ⟨v', rfl, ho, hb⟩
    have HO := Lib.hid ho
    have HB2 := Lib.hid (HB1.out.trans (hb.mono HB1.out.size))
    clear ho hb
    go_wp2_with fail
    go_ret3
    refine ⟨v', by rw [hat]; rfl, ?_, HB2.out⟩
    rw [HI.out, hDn]
    exact own_base HO.out (Nat.le_of_lt hs1)
  · have hat : isAt D m = false := by simpa using hat
    have HI := Lib.hid (ins_notAt hat)
    have hBD : Below W1.heap.size W1 W1.drew := (Below.refl _ _).drew
    have hk : pl D m ≤ n := by omega
    have hki : ((pl D m : Nat) : Int) ≤ (n : Int) := by omega
    have hki0 : (0 : Int) ≤ ((pl D m : Nat) : Int) := by omega
    have hkc : ((pl D m : Nat) : Int) ≤ (c : Int) := by omega
    have HCAT := Lib.hid (fun (A1 A2 : Option Addr) (c1 c2 : Nat) (h1 : RdHM W1 A1 (pl D m) (D.take (pl D m))) (h2 : RdHM W1 A2 (n - pl D m) (D.drop (pl D m))) => (show Calls Try.prog 27 #[.slice (some ⟨W1.heap.size + 1, 0, none⟩) 3 3]
        ((W1.drew.alloc (.cells (Mk.c m).toArray 26)).alloc (.cells #[.slice A1 (pl D m) c1, .slice (some ⟨W1.heap.size, 0, none⟩) 1 1, .slice A2 (n - pl D m) c2] 22)) fun e w' => ∃ v, e = .returned v ∧ w'.ownsRow w.heap.size 26 33 v (ins D m).length (flatM (ins D m)) ∧ Below W1.heap.size W1 w' from by
      have hB1 : Below W1.heap.size W1 (W1.drew.alloc (.cells (Mk.c m).toArray 26)) := hBD.alloc (Nat.le_refl _) _
      have hB2 : Below W1.heap.size W1 ((W1.drew.alloc (.cells (Mk.c m).toArray 26)).alloc (.cells #[.slice A1 (pl D m) c1, .slice (some ⟨W1.heap.size, 0, none⟩) 1 1, .slice A2 (n - pl D m) c2] 22)) := hB1.alloc hB1.size _
      have hr := Rd.lit (W1.drew.alloc (.cells (Mk.c m).toArray 26)) [.slice A1 (pl D m) c1, .slice (some ⟨W1.heap.size, 0, none⟩) 1 1, .slice A2 (n - pl D m) c2] #[.slice A1 (pl D m) c1, .slice (some ⟨W1.heap.size, 0, none⟩) 1 1, .slice A2 (n - pl D m) c2] 22 rfl 3 rfl
      have hfl : [D.take (pl D m), [m], D.drop (pl D m)].flatten = ins D m := by rw [HI.out]; simp
      have h := catM _ [D.take (pl D m), [m], D.drop (pl D m)] _ 3 3 _ ⟨hr.1, fun h0 => by obtain ⟨ad, e, _, h3, h4⟩ := hr.2 h0; exact ⟨ad, e, trivial, h3, h4⟩⟩ ((h1.keep hB2).cons3 ((RdHM.one W1.drew m 26).keep (below_newE _ _)) (h2.keep hB2)) (by omega) (by rw [hfl]; have := ins_len D m; omega)
      rw [hfl] at h
      have hsz : (W1.drew.alloc (.cells (Mk.c m).toArray 26)).heap.size = W1.heap.size + 1 := by simp
      rw [hsz] at h
      refine h.mono ?_
      rintro e w' ⟨v, rfl, ho, hb⟩
      have hsz := hB2.size
      exact ⟨v, rfl, own_base ho (by omega), hB2.trans (hb.mono hB2.size)⟩))
    rcases hA with rfl | ⟨b, o, rfl⟩
    · have h0 : n = 0 := by
        rcases Nat.eq_zero_or_pos n with e | e
        · exact e
        · obtain ⟨ad, e, _⟩ := HR1.out.2 e; cases e
      subst h0
      have hD : D = [] := List.length_eq_zero_iff.1 (by omega)
      subst hD
      have HCA := Lib.hid (HCAT.out none none c c HR1.out HR1.out)
      generalize hkk : pl [] m = k at *
      have hk0 : k = 0 := by omega
      subst hk0
      have HK := Lib.hid hkk
      clear hkk HCAT
      go_wp2_with fail
      refine wp_region_held (S := fun w' : World => Below W1.heap.size W1 w') (by kernel_rfl) ?_
      change wpAnyH _ _ _ _ _ _ _ _ (World.drew _)
      have hS : (fun w' : World => Below W1.heap.size W1 w') W1.drew := hBD
      refine wpAnyH_take (i := 0) (v := ?_) rfl (by kernel_rfl) (by kernel_rfl) (by kernel_rfl) (fun _ _ _ h => h) (Or.inl ⟨by rfl, ?_⟩) hS ?_
      rotate_left
      · (intro w' hSw; go_simp; try (with_reducible rfl))
      change wpAnyH _ _ _ _ _ _ _ (Act.put _ (some 19) _) _
      try simp only [Act.put, List.setIfInBounds_toArray, List.set_cons_zero, List.set_cons_succ]
      refine wpAnyH_take (i := 1) (v := ?_) rfl (by kernel_rfl) (by kernel_rfl) (by kernel_rfl) (fun _ _ _ h => h) (Or.inl ⟨by rfl, ?_⟩) hS ?_
      rotate_left
      · (intro w' hSw; go_simp; try (with_reducible rfl))
      change wpAnyH _ _ _ _ _ _ _ (Act.put _ (some 20) _) _
      try simp only [Act.put, List.setIfInBounds_toArray, List.set_cons_zero, List.set_cons_succ]
      refine wpAnyH_take (i := 2) (v := ?_) rfl (by kernel_rfl) (by kernel_rfl) (by kernel_rfl) (fun _ _ _ h => h) (Or.inl ⟨by rfl, ?_⟩) hS ?_
      rotate_left
      · (intro w' hSw; go_simp; try (with_reducible rfl))
      change wpAnyH _ _ _ _ _ _ _ (Act.put _ (some 21) _) _
      try simp only [Act.put, List.setIfInBounds_toArray, List.set_cons_zero, List.set_cons_succ]
      refine wpAnyH_take (i := 3) (v := .agg (Mk.c m).toArray) rfl (by kernel_rfl) (by kernel_rfl) (by kernel_rfl) (fun _ _ _ h => h) (Or.inl ⟨by rfl, fun w' hSw => ex_ldE 26 (.tmp 3) rfl _ _ rfl (ld_hsM _ _ m w' (HM1.out w' hSw))⟩) hS ?_
      change wpAnyH _ _ _ _ _ _ _ (Act.put _ (some 22) _) _
      try simp only [Act.put, List.setIfInBounds_toArray, List.set_cons_zero, List.set_cons_succ]
      refine wpAnyH_take (i := 5) (v := ?_) rfl (by kernel_rfl) (by kernel_rfl) (by kernel_rfl) (fun _ _ _ h => h) (Or.inl ⟨by rfl, ?_⟩) hS ?_
      rotate_left
      · (intro w' hSw; go_simp; try (with_reducible rfl))
      change wpAnyH _ _ _ _ _ _ _ (Act.put _ (some 24) _) _
      try simp only [Act.put, List.setIfInBounds_toArray, List.set_cons_zero, List.set_cons_succ]
      refine wpAnyH_take (i := 6) (v := ?_) rfl (by kernel_rfl) (by kernel_rfl) (by kernel_rfl) (fun _ _ _ h => h) (Or.inl ⟨by rfl, ?_⟩) hS ?_
      rotate_left
      · (intro w' hSw; go_simp; try (with_reducible rfl))
      change wpAnyH _ _ _ _ _ _ _ (Act.put _ (some 25) _) _
      try simp only [Act.put, List.setIfInBounds_toArray, List.set_cons_zero, List.set_cons_succ]
      refine wpAnyH_take (i := 7) (v := ?_) rfl (by kernel_rfl) (by kernel_rfl) (by kernel_rfl) (fun _ _ _ h => h) (Or.inl ⟨by rfl, ?_⟩) hS ?_
      rotate_left
      · (intro w' hSw; go_simp; try (with_reducible rfl))
      change wpAnyH _ _ _ _ _ _ _ (Act.put _ (some 26) _) _
      try simp only [Act.put, List.setIfInBounds_toArray, List.set_cons_zero, List.set_cons_succ]
      refine wpAnyH_take (i := 10) (v := ?_) rfl (by kernel_rfl) (by kernel_rfl) (by kernel_rfl) (fun _ _ _ h => h) (Or.inl ⟨by rfl, ?_⟩) hS ?_
      rotate_left
      · (intro w' hSw; go_simp; try (with_reducible rfl))
      change wpAnyH _ _ _ _ _ _ _ (Act.put _ (some 29) _) _
      try simp only [Act.put, List.setIfInBounds_toArray, List.set_cons_zero, List.set_cons_succ]
      subst hx
      refine wpAnyH_ready (rs := [4]) (by kernel_rfl) (by simp) ?_
      refine AllReadyH.cons rfl (fun K hK => ?_) AllReadyH.nil
      rw [if_pos (by kernel_rfl)]
      refine wp_buildMks 1 _ rfl [m] rfl (by omega) (by omega) rfl ?_
      rw [flat_singleM]
      refine hK.out _ _ (hS.alloc hS.size _) (fun hS1 => ?_)
      clear hK K hS
      have hS := hS1
      clear hS1
      try simp only [Act.put, List.setIfInBounds_toArray, List.set_cons_zero, List.set_cons_succ]
      refine wpAnyH_ready (rs := [8]) (by kernel_rfl) (by simp) ?_
      refine AllReadyH.cons rfl (fun K hK => ?_) AllReadyH.nil
      rw [if_pos (by kernel_rfl)]
      go_simp
      refine hK.out _ _ (hS.alloc hS.size _) (fun hS1 => ?_)
      clear hK K hS
      have hS := hS1
      clear hS1
      try simp only [Act.put, List.setIfInBounds_toArray, List.set_cons_zero, List.set_cons_succ]
      refine wpAnyH_ready (rs := [9]) (by kernel_rfl) (by simp) ?_
      refine AllReadyH.cons rfl (fun K hK => ?_) AllReadyH.nil
      rw [if_pos (by kernel_rfl)]
      go_simp
      refine (HCA.out).mono ?_
      rintro e w1 ⟨v, rfl, ho, hb⟩
      refine hK.out _ _ (hb) (fun hS1 => ?_)
      clear hK K hS
      have hS := hS1
      clear hS1
      try simp only [Act.put, List.setIfInBounds_toArray, List.set_cons_zero, List.set_cons_succ]
      refine wpAnyH_take (i := 11) (v := ?_) rfl (by kernel_rfl) (by kernel_rfl) (by kernel_rfl) (fun _ _ _ h => h) (Or.inl ⟨by rfl, ?_⟩) hS ?_
      rotate_left
      · (intro w' hSw; go_simp; try (with_reducible rfl))
      change wpAnyH _ _ _ _ _ _ _ (Act.put _ (some 4) _) _
      try simp only [Act.put, List.setIfInBounds_toArray, List.set_cons_zero, List.set_cons_succ]
      refine wpAnyH_take (i := 12) (v := ?_) rfl (by kernel_rfl) (by kernel_rfl) (by kernel_rfl) (fun _ _ _ h => h) (Or.inl ⟨by rfl, ?_⟩) hS ?_
      rotate_left
      · (intro w' hSw; go_simp; try (with_reducible rfl))
      change wpAnyH _ _ _ _ _ _ _ (Act.put _ (some 5) _) _
      try simp only [Act.put, List.setIfInBounds_toArray, List.set_cons_zero, List.set_cons_succ]
      refine wpAnyH_take (i := 13) (v := ?_) rfl (by kernel_rfl) (by kernel_rfl) (by kernel_rfl) (fun _ _ _ h => h) (Or.inl ⟨by rfl, ?_⟩) hS ?_
      rotate_left
      · (intro w' hSw; go_simp; try (with_reducible rfl))
      change wpAnyH _ _ _ _ _ _ _ (Act.put _ (some 6) _) _
      try simp only [Act.put, List.setIfInBounds_toArray, List.set_cons_zero, List.set_cons_succ]
      refine wpAnyH_done (by kernel_rfl) ?_ _
      go_wp2_with fail
      go_ret3
      exact ⟨v, by rw [HK.out, hat]; rfl, ho, HB1.out.trans (hS.mono HB1.out.size)⟩
    · have HCA := Lib.hid (HCAT.out (some ⟨b, o, none⟩) _ c (c - pl D m) (HR1.out.take hk) (HR1.out.dropIf hk hnc))
      generalize hkk : pl D m = k at *
      have HK := Lib.hid hkk
      clear hkk HCAT
      go_wp2_with fail
      refine wp_region_held (S := fun w' : World => Below W1.heap.size W1 w') (by kernel_rfl) ?_
      change wpAnyH _ _ _ _ _ _ _ _ (World.drew _)
      have hS : (fun w' : World => Below W1.heap.size W1 w') W1.drew := hBD
      refine wpAnyH_take (i := 0) (v := ?_) rfl (by kernel_rfl) (by kernel_rfl) (by kernel_rfl) (fun _ _ _ h => h) (Or.inl ⟨by rfl, ?_⟩) hS ?_
      rotate_left
      · (intro w' hSw; go_simp; try (with_reducible rfl))
      change wpAnyH _ _ _ _ _ _ _ (Act.put _ (some 19) _) _
      try simp only [Act.put, List.setIfInBounds_toArray, List.set_cons_zero, List.set_cons_succ]
      refine wpAnyH_take (i := 1) (v := ?_) rfl (by kernel_rfl) (by kernel_rfl) (by kernel_rfl) (fun _ _ _ h => h) (Or.inl ⟨by rfl, ?_⟩) hS ?_
      rotate_left
      · (intro w' hSw; go_simp; try (with_reducible rfl))
      change wpAnyH _ _ _ _ _ _ _ (Act.put _ (some 20) _) _
      try simp only [Act.put, List.setIfInBounds_toArray, List.set_cons_zero, List.set_cons_succ]
      refine wpAnyH_take (i := 2) (v := ?_) rfl (by kernel_rfl) (by kernel_rfl) (by kernel_rfl) (fun _ _ _ h => h) (Or.inl ⟨by rfl, ?_⟩) hS ?_
      rotate_left
      · (intro w' hSw; go_simp; try (with_reducible rfl))
      change wpAnyH _ _ _ _ _ _ _ (Act.put _ (some 21) _) _
      try simp only [Act.put, List.setIfInBounds_toArray, List.set_cons_zero, List.set_cons_succ]
      refine wpAnyH_take (i := 3) (v := .agg (Mk.c m).toArray) rfl (by kernel_rfl) (by kernel_rfl) (by kernel_rfl) (fun _ _ _ h => h) (Or.inl ⟨by rfl, fun w' hSw => ex_ldE 26 (.tmp 3) rfl _ _ rfl (ld_hsM _ _ m w' (HM1.out w' hSw))⟩) hS ?_
      change wpAnyH _ _ _ _ _ _ _ (Act.put _ (some 22) _) _
      try simp only [Act.put, List.setIfInBounds_toArray, List.set_cons_zero, List.set_cons_succ]
      refine wpAnyH_take (i := 5) (v := ?_) rfl (by kernel_rfl) (by kernel_rfl) (by kernel_rfl) (fun _ _ _ h => h) (Or.inl ⟨by rfl, ?_⟩) hS ?_
      rotate_left
      · (intro w' hSw; go_simp; try (with_reducible rfl))
      change wpAnyH _ _ _ _ _ _ _ (Act.put _ (some 24) _) _
      try simp only [Act.put, List.setIfInBounds_toArray, List.set_cons_zero, List.set_cons_succ]
      refine wpAnyH_take (i := 6) (v := ?_) rfl (by kernel_rfl) (by kernel_rfl) (by kernel_rfl) (fun _ _ _ h => h) (Or.inl ⟨by rfl, ?_⟩) hS ?_
      rotate_left
      · (intro w' hSw; go_simp; try (with_reducible rfl))
      change wpAnyH _ _ _ _ _ _ _ (Act.put _ (some 25) _) _
      try simp only [Act.put, List.setIfInBounds_toArray, List.set_cons_zero, List.set_cons_succ]
      refine wpAnyH_take (i := 7) (v := ?_) rfl (by kernel_rfl) (by kernel_rfl) (by kernel_rfl) (fun _ _ _ h => h) (Or.inl ⟨by rfl, ?_⟩) hS ?_
      rotate_left
      · (intro w' hSw; go_simp; try (with_reducible rfl))
      change wpAnyH _ _ _ _ _ _ _ (Act.put _ (some 26) _) _
      try simp only [Act.put, List.setIfInBounds_toArray, List.set_cons_zero, List.set_cons_succ]
      refine wpAnyH_take (i := 10) (v := ?_) rfl (by kernel_rfl) (by kernel_rfl) (by kernel_rfl) (fun _ _ _ h => h) (Or.inl ⟨by rfl, ?_⟩) hS ?_
      rotate_left
      · (intro w' hSw; go_simp; try (with_reducible rfl))
      change wpAnyH _ _ _ _ _ _ _ (Act.put _ (some 29) _) _
      try simp only [Act.put, List.setIfInBounds_toArray, List.set_cons_zero, List.set_cons_succ]
      generalize (if c = k then (some ⟨b, o, none⟩ : Option Addr) else some ⟨b, o + k * 33, none⟩) = A2 at *
      subst hx
      refine wpAnyH_ready (rs := [4]) (by kernel_rfl) (by simp) ?_
      refine AllReadyH.cons rfl (fun K hK => ?_) AllReadyH.nil
      rw [if_pos (by kernel_rfl)]
      refine wp_buildMks 1 _ rfl [m] rfl (by omega) (by omega) rfl ?_
      rw [flat_singleM]
      refine hK.out _ _ (hS.alloc hS.size _) (fun hS1 => ?_)
      clear hK K hS
      have hS := hS1
      clear hS1
      try simp only [Act.put, List.setIfInBounds_toArray, List.set_cons_zero, List.set_cons_succ]
      refine wpAnyH_ready (rs := [8]) (by kernel_rfl) (by simp) ?_
      refine AllReadyH.cons rfl (fun K hK => ?_) AllReadyH.nil
      rw [if_pos (by kernel_rfl)]
      go_simp
      refine hK.out _ _ (hS.alloc hS.size _) (fun hS1 => ?_)
      clear hK K hS
      have hS := hS1
      clear hS1
      try simp only [Act.put, List.setIfInBounds_toArray, List.set_cons_zero, List.set_cons_succ]
      refine wpAnyH_ready (rs := [9]) (by kernel_rfl) (by simp) ?_
      refine AllReadyH.cons rfl (fun K hK => ?_) AllReadyH.nil
      rw [if_pos (by kernel_rfl)]
      go_simp
      refine (HCA.out).mono ?_
      rintro e w1 ⟨v, rfl, ho, hb⟩
      refine hK.out _ _ (hb) (fun hS1 => ?_)
      clear hK K hS
      have hS := hS1
      clear hS1
      try simp only [Act.put, List.setIfInBounds_toArray, List.set_cons_zero, List.set_cons_succ]
      refine wpAnyH_take (i := 11) (v := ?_) rfl (by kernel_rfl) (by kernel_rfl) (by kernel_rfl) (fun _ _ _ h => h) (Or.inl ⟨by rfl, ?_⟩) hS ?_
      rotate_left
      · (intro w' hSw; go_simp; try (with_reducible rfl))
      change wpAnyH _ _ _ _ _ _ _ (Act.put _ (some 4) _) _
      try simp only [Act.put, List.setIfInBounds_toArray, List.set_cons_zero, List.set_cons_succ]
      refine wpAnyH_take (i := 12) (v := ?_) rfl (by kernel_rfl) (by kernel_rfl) (by kernel_rfl) (fun _ _ _ h => h) (Or.inl ⟨by rfl, ?_⟩) hS ?_
      rotate_left
      · (intro w' hSw; go_simp; try (with_reducible rfl))
      change wpAnyH _ _ _ _ _ _ _ (Act.put _ (some 5) _) _
      try simp only [Act.put, List.setIfInBounds_toArray, List.set_cons_zero, List.set_cons_succ]
      refine wpAnyH_take (i := 13) (v := ?_) rfl (by kernel_rfl) (by kernel_rfl) (by kernel_rfl) (fun _ _ _ h => h) (Or.inl ⟨by rfl, ?_⟩) hS ?_
      rotate_left
      · (intro w' hSw; go_simp; try (with_reducible rfl))
      change wpAnyH _ _ _ _ _ _ _ (Act.put _ (some 6) _) _
      try simp only [Act.put, List.setIfInBounds_toArray, List.set_cons_zero, List.set_cons_succ]
      refine wpAnyH_done (by kernel_rfl) ?_ _
      go_wp2_with fail
      go_ret3
      exact ⟨v, by rw [HK.out, hat]; rfl, ho, HB1.out.trans (hS.mono HB1.out.size)⟩
end Go.Proofs.Ytocgeemjdlnabaa
