/- delta.Common: its map of places is filled. -/
import Derived.Test.YtpegkalhjnldkaaDj
namespace Go.Proofs.Ytpegkalhjnldkaa
set_option maxRecDepth 100000
set_option linter.unusedSimpArgs false
set_option linter.unusedVariables false
open Go.RowKit Go.Shelf
attribute [local go_sem] Oper.semAt_some

theorem mk_one (x : Int) (w : World) : (Instr.buildSlice 46 1 #[(0, .int .i64 x)]).run Try.prog w = .ok (.slice (some ⟨w.heap.size, 0, none⟩) 1 1) (w.alloc (.cells #[.int .i64 x] 3)) := by
  go_simp
theorem ld_map (b k : Nat) (p : Option Nat) (w : World) (h : w.cell? ⟨b, k, none⟩ = some (.map p)) : (Instr.loadAt 42 (.pointer (some ⟨b, k, none⟩))).run Try.prog w = .ok (.map p) w := by
  go_simp
theorem reads_look {P : Program} {S : World → Prop} {o : Oper} {a : Act} (t : TypeId) (m x : Operand) (ho : o.op = .lookup t m x false) (u key v : Value) (hm : a.eval m = u) (hx : a.eval x = key) (h : ∀ w, S w → (Instr.lookup t u key false).run P w = .ok v w) : Reads P S o v a := fun w hS => by
  simp [execOp, ho, hm, hx, h w hS, Result.andThen]
theorem wp_update {P : Program} {o : Oper} {a : Act} {w w' : World} {K : Act → World → Prop} {Q : Exit → Act → World → Prop} (t : TypeId) (m x v : Operand) (ho : o.op = .mapUpdate t m x v) (u key y : Value) (hm : a.eval m = u) (hx : a.eval x = key) (hv : a.eval v = y) (hr : (Instr.mapUpdate t u key y).run P w = .ok () w')
    (h : K (a.put o.dst undef) w') : o.wp P a w K Q := by
  unfold Oper.wp
  simp [execOp, ho, hm, hx, hv, hr, Result.andThen]
  exact h
def ActC (A B : Option Addr) (n m cA cB h : Nat) (a : List Int) (x : Fin 64) : Act := { tmps := #[.slice A n cA, .slice B m cB, undef, undef, .int .i64 0, .pointer (some ⟨h + 1, 0, none⟩), .int .i64 (x.1 : Int), .int .u64 (a[x.1]?.getD 0), undef, undef, undef, undef, undef, undef, undef, .map (some h), .slice A n cA, .func (.func 15) #[] #[.pointer (some ⟨h + 1 + 1, 0, none⟩)], .int .i64 (x.1 : Int), .int .u64 (a[x.1]?.getD 0), undef, undef, undef, undef, undef, undef, undef, undef, undef, undef, undef, undef, undef, undef, undef, undef, undef, undef, undef, undef, undef, undef, undef, undef, undef, undef, undef, undef, undef, undef, undef, undef, undef, undef, undef, undef, undef, undef, undef, undef, undef, undef, undef, undef], defers := [] }

set_option maxHeartbeats 3200000 in
theorem common_any (A B : Option Addr) (n m cA cB : Nat) (a b : List Int) (w : World) (ha : RdU w A n a) (hb : RdU w B m b) (hn : n ≤ 60) (hm : m ≤ 60) (wa : ∀ x ∈ a, (Lit.int .u64 x).wf = true) (wb : ∀ x ∈ b, (Lit.int .u64 x).wf = true) :
    Calls Try.prog 5 #[.slice A n cA, .slice B m cB] w fun e w' => e = .returned (.int .i64 (Lcs.lcs a b : Nat)) ∧ Below w.heap.size w w' := by
  have HA := Lib.hid ha
  have HB := Lib.hid hb
  have HWA := Lib.hid (show ∀ x : Fin 64, (Lit.int .u64 (a[x.1]?.getD 0)).wf = true from fun x => by
    cases h : a[x.1]? with
    | none => rfl
    | some y => exact wa y (List.mem_of_getElem? h))
  have HWB := Lib.hid wb
  clear ha hb wa wb
  have hmm := @run_makeMap Try.prog
  refine callsIn_wide.1 (callsIn_of_wp_marks (F := Fence.wide) (n := 3) Try.func5 rfl trivial ?_ rfl)
  refine wpIn_wide.2 ?_
  simp only [Try.ntmps5, List.size_toArray, List.length_cons, List.length_nil, Nat.reduceAdd, Nat.reduceSub, Array.replicate_succ, Array.replicate_zero, List.push_toArray, List.append_toArray, List.nil_append, List.cons_append]
  go_wp2_with fail
  refine (back_wide A n cA _).mono ?_
  rintro e w1 ⟨rfl, rfl⟩
  go_wp2_with fail
  have bM : ((w.alloc (.map #[] 0)).alloc (.cells #[.map (some w.heap.size)] 42)).alloc (.cells #[.slice A n cA] 22) = ((w.alloc (.map #[] 0)).alloc (.cells #[.map (some w.heap.size)] 42)).alloc (.cells #[.slice A n cA] 22) := rfl
  have hm0 : (((w.alloc (.map #[] 0)).alloc (.cells #[.map (some w.heap.size)] 42)).alloc (.cells #[.slice A n cA] 22)).heap[w.heap.size]? = some (.map #[] 0) :=
    ((Below.refl (w.heap.size + 1) (w.alloc (.map #[] 0))).alloc (by simp) _ |>.alloc (by simp) _).block w.heap.size (by omega) |>.trans (Go.MapKept.heap_alloc w _).1
  have hc1 : (((w.alloc (.map #[] 0)).alloc (.cells #[.map (some w.heap.size)] 42)).alloc (.cells #[.slice A n cA] 22)).cell? ⟨w.heap.size + 1, 0, none⟩ = some (.map (some w.heap.size)) := by
    have h := (Row.new (w.alloc (.map #[] 0)) [.map (some w.heap.size)] 42).alloc (.cells #[.slice A n cA] 22)
    rw [World.size_alloc] at h
    exact h.cell (k := 0) rfl
  have hc2 : (((w.alloc (.map #[] 0)).alloc (.cells #[.map (some w.heap.size)] 42)).alloc (.cells #[.slice A n cA] 22)).cell? ⟨w.heap.size + 1 + 1, 0, none⟩ = some (.slice A n cA) := by
    have h := Row.new ((w.alloc (.map #[] 0)).alloc (.cells #[.map (some w.heap.size)] 42)) [.slice A n cA] 22
    rw [World.size_alloc, World.size_alloc] at h
    exact h.cell (k := 0) rfl
  have hB0 : Below w.heap.size w (((w.alloc (.map #[] 0)).alloc (.cells #[.map (some w.heap.size)] 42)).alloc (.cells #[.slice A n cA] 22)) := (((Below.refl _ w).alloc (Nat.le_refl _) _).alloc (by simp) _).alloc (by simp; omega) _
  have hsz : (((w.alloc (.map #[] 0)).alloc (.cells #[.map (some w.heap.size)] 42)).alloc (.cells #[.slice A n cA] 22)).heap.size = w.heap.size + 3 := by simp
  generalize ((w.alloc (.map #[] 0)).alloc (.cells #[.map (some w.heap.size)] 42)).alloc (.cells #[.slice A n cA] 22) = W3 at *
  clear bM
  refine wpIn_wide.1 (wpIn_rangeFunc_ownG (F := Fence.wide) (n := 3) rfl (by omega) (gf := 15) (lb := #[.pointer (some ⟨w.heap.size + 1 + 1, 0, none⟩)]) rfl trivial (enters_of Try.func15 (by kernel_rfl) rfl)
    (back_stops Fence.wide 2 trivial rfl (by omega) (w.heap.size + 1 + 1) w.heap.size A n cA a hn w W3 HA.out (Nat.le_refl _) hB0 (by omega) (by omega) hc2) (fun h k => h.trans k) (KpB.put (by omega) (by omega)) (Below.refl _ _) (fun _ => rfl)
    (fun pre W => ((w.heap.size + 3 ≤ W.heap.size ∧ W.cell? ⟨w.heap.size + 1, 0, none⟩ = some (.map (some w.heap.size))) ∧ ∃ D, Gr W (w.heap.size + 3) w.heap.size pre.length D ∧ Mn D (fOf a pre)) ∧ Below w.heap.size w W)
    (fun _ _ _ => False)
    (OwnFrom.and (fun s X Y row hs hg hr => ⟨⟨Nat.le_trans hs.1.1 hg.size, cell_kept hs.1.2 hg (fun r e => (hr r e).2)⟩, by obtain ⟨D, h1, h2⟩ := hs.2; exact ⟨D, groups_from h1 hg (by omega) hr, h2⟩⟩) (ownFrom_below (Nat.le_refl _) (by omega)))
    (fun _ _ _ _ _ hs _ _ => hs)
    ⟨⟨⟨by omega, hc1⟩, .map [], groups_none hm0 (by omega), Mn.none (fun y => rfl)⟩, hB0⟩
    (ActC A B n m cA cB w.heap.size a) ?assign ?body ?done ?stop)
  case assign =>
    intro l x W K hK
    unfold at_
    gi_wp2
    exact hK
  case body =>
    rintro l pre x W ⟨⟨⟨hs3, hc⟩, D, hD, hM⟩, hB⟩ hlt
    obtain ⟨v, zs, hlk, hat, hoi, hzl, hback⟩ := groups_look hD (HWA.out x) (by unfold maxLen; omega)
    obtain ⟨es, ck, hmb⟩ := groups_block hD
    have hzs := dOf_eq hoi ((hM _).symm.trans hat)
    have hxw : (Lit.int .i64 (x.1 : Int)).wf = true := by
      have := x.2
      show (decide (IntKind.i64.min ≤ (x.1 : Int)) && decide ((x.1 : Int) ≤ IntKind.i64.max)) = true
      have h1 : IntKind.i64.min = -9223372036854775808 := by decide
      have h2 : IntKind.i64.max = 9223372036854775807 := by decide
      rw [h1, h2, decide_eq_true (by omega), decide_eq_true (by omega)]
      rfl
    obtain ⟨ti, hi, hz, hs, hbb⟩ := int_info
    clear HA HB HWA hm0 hc1 hc2 hB0
    unfold ActC
    gi_wp2
    have hQ : ¬ LetsOut (Exit.inBlock 1 (ownPostG W3.heap.size (KpB w.heap.size (w.heap.size + 1 + 1)) (fun pre W => ((w.heap.size + 3 ≤ W.heap.size ∧ W.cell? ⟨w.heap.size + 1, 0, none⟩ = some (.map (some w.heap.size))) ∧ ∃ D, Gr W (w.heap.size + 3) w.heap.size pre.length D ∧ Mn D (fOf a pre)) ∧ Below w.heap.size w W) (fun _ _ _ => False) (pre ++ [x]) W)) := by
      rintro ⟨a', w', h⟩
      exact h
    refine startIn (fun W' => W'.cell? ⟨w.heap.size + 1, 0, none⟩ = some (.map (some w.heap.size)) ∧ W'.heap[w.heap.size]? = W.heap[w.heap.size]?) [8] (by kernel_rfl) (by kernel_rfl) hQ ?_
    have hS0 : (fun W' : World => W'.cell? ⟨w.heap.size + 1, 0, none⟩ = some (.map (some w.heap.size)) ∧ W'.heap[w.heap.size]? = W.heap[w.heap.size]?) W.drew := ⟨hc, rfl⟩
    refine takeT (v := .map (some w.heap.size)) 0 (some 20) rfl rfl (by kernel_rfl) (by kernel_rfl) (fun _ _ _ h => h) (Reads.load 42 (.tmp 5) rfl _ (.map (some w.heap.size)) rfl (fun w' h => ld_map _ _ _ w' h.1)) hS0 ?_
    simp only [Act.put, List.setIfInBounds_toArray, List.set_cons_zero, List.set_cons_succ]
    refine takeT (v := .int .u64 (a[x.1]?.getD 0)) 1 (some 21) rfl rfl (by kernel_rfl) (by kernel_rfl) (fun _ _ _ h => h) (Reads.move (x := .tmp 7) rfl rfl) hS0 ?_
    simp only [Act.put, List.setIfInBounds_toArray, List.set_cons_zero, List.set_cons_succ]
    refine takeT (v := .map (some w.heap.size)) 2 (some 22) rfl rfl (by kernel_rfl) (by kernel_rfl) (fun _ _ _ h => h) (Reads.load 42 (.tmp 5) rfl _ (.map (some w.heap.size)) rfl (fun w' h => ld_map _ _ _ w' h.1)) hS0 ?_
    simp only [Act.put, List.setIfInBounds_toArray, List.set_cons_zero, List.set_cons_succ]
    refine takeT (v := .int .u64 (a[x.1]?.getD 0)) 3 (some 23) rfl rfl (by kernel_rfl) (by kernel_rfl) (fun _ _ _ h => h) (Reads.move (x := .tmp 7) rfl rfl) hS0 ?_
    simp only [Act.put, List.setIfInBounds_toArray, List.set_cons_zero, List.set_cons_succ]
    refine takeT (v := v) 4 (some 24) rfl rfl (by kernel_rfl) (by kernel_rfl) (fun _ _ _ h => h) (reads_look 42 (.tmp 22) (.tmp 23) rfl (.map (some w.heap.size)) (.int .u64 (a[x.1]?.getD 0)) v rfl rfl (fun w' h => hlk w' h.2)) hS0 ?_
    simp only [Act.put, List.setIfInBounds_toArray, List.set_cons_zero, List.set_cons_succ]
    refine takeT (v := .int .i64 (x.1 : Int)) 5 (some 25) rfl rfl (by kernel_rfl) (by kernel_rfl) (fun _ _ _ h => h) (Reads.move (x := .tmp 6) rfl rfl) hS0 ?_
    simp only [Act.put, List.setIfInBounds_toArray, List.set_cons_zero, List.set_cons_succ]
    have hlt0 : w.heap.size < W.heap.size := by omega
    have hg6 : W.grownBy (W.drew.alloc (.cells #[.int .i64 (x.1 : Int)] 3)) v.ownBlock := ⟨rfl, rfl, rfl, by simp, fun k hk _ => heap_alloc_old W.drew _ hk⟩
    have hS6 : (fun W' : World => W'.cell? ⟨w.heap.size + 1, 0, none⟩ = some (.map (some w.heap.size)) ∧ W'.heap[w.heap.size]? = W.heap[w.heap.size]?) (W.drew.alloc (.cells #[.int .i64 (x.1 : Int)] 3)) := ⟨(World.cell?_of_block (heap_alloc_old W.drew _ (by show w.heap.size + 1 < W.heap.size; omega))).trans hc, heap_alloc_old W.drew _ hlt0⟩
    have ho6 : (W.drew.alloc (.cells #[.int .i64 (x.1 : Int)] 3)).ownsInts (w.heap.size + 3) 3 .i64 v zs := World.ownsInts.alloc (w := W.drew) hoi _
    refine oneT 6 (by kernel_rfl) rfl (by kernel_rfl) (fun K2 hK => ?_)
    refine wp_slice1 46 3 (.tmp 25) rfl (.int .i64 (x.1 : Int)) rfl #[.int .i64 (x.1 : Int)] (fun w' => mk_one _ w') ?_
    refine hK.out _ _ (fun _ => hS6) ?_
    clear hK K2
    change wpAnyT _ _ _ _ _ _ _ _ (Act.put _ (some 26) _) _
    simp only [Act.put, List.setIfInBounds_toArray, List.set_cons_zero, List.set_cons_succ]
    refine oneT 7 (by kernel_rfl) rfl (by kernel_rfl) (fun K2 hK => ?_)
    refine wp_append_at (.tmp 24) (.tmp 26) 46 rfl (w.heap.size + 3) 3 ti (.int .i64 0) 1 8 Try.underlying46 hi hz hs hbb rfl (by decide) v zs.length (zs.map (Value.int .i64)) rfl ho6.1 ⟨W.drew.heap.size, 0, none⟩ 1 1 [.int .i64 (x.1 : Int)] rfl rfl (cell_one_new W.drew _ _)
      (by intro u hu; simp at hu; subst hu; rfl) (by unfold maxLen; omega) (by omega) (by show w.heap.size + 3 ≤ (W.drew.alloc _).heap.size; have := hg6.size; omega) (fun v' w8 ho8 hg8 hl8 => ?_)
    have hg := hg6.trans hg8
    have hvb : ∀ k, v.ownBlock = some k → w.heap.size + 3 ≤ k := fun k e => (hoi.1.lt k e).1
    have b8 : ∀ k, k < w.heap.size + 3 → w8.heap[k]? = W.heap[k]? := fun k hk => hg.block k (by omega) (fun e => by have := hvb k e.symm; omega)
    refine hK.out _ _ (fun _ => ⟨(World.cell?_of_block (b8 (w.heap.size + 1) (by omega))).trans hc, b8 _ (by omega)⟩) ?_
    clear hK K2
    change wpAnyT _ _ _ _ _ _ _ _ (Act.put _ (some 27) _) _
    simp only [Act.put, List.setIfInBounds_toArray, List.set_cons_zero, List.set_cons_succ]
    have hoi8 := hoi.appended ho8 hxw
    obtain ⟨w9, hrun, hG9, hg9⟩ := hback w8 v' (zs ++ [(x.1 : Int)]) hg hoi8 (by simp; omega) (by
      rcases hl8 with h | h
      · exact .inl h
      · exact .inr ⟨_, h, by show W.heap.size ≤ (W.drew.alloc _).heap.size; exact hg6.size⟩)
    refine oneT 8 (by kernel_rfl) rfl (by kernel_rfl) (fun K2 hK => ?_)
    refine wp_update 42 (.tmp 20) (.tmp 21) (.tmp 27) rfl (.map (some w.heap.size)) (.int .u64 (a[x.1]?.getD 0)) v' rfl rfl rfl hrun ?_
    refine hK.out _ _ (late_okD (by kernel_rfl)) ?_
    clear hK K2
    refine doneT (by kernel_rfl) ?_ _
    have b9 : ∀ k, k < w.heap.size + 3 → k ≠ w.heap.size → w9.heap[k]? = W.heap[k]? := fun k hk hne => (hg9.block k (by have := hg.size; omega) (fun e => by cases e; exact hne rfl)).trans (b8 k hk)
    refine ⟨⟨Nat.le_trans hg.size hg9.size, fun k o hk h0 ho => ?_⟩, ⟨(Below.refl w.heap.size W).groups hoi hg hg9 (by omega) (by omega) (Nat.le_refl _), World.cell?_of_block (b9 (w.heap.size + 1 + 1) (by omega) (by omega))⟩, ⟨⟨⟨by have := hg.size; have := hg9.size; omega, (World.cell?_of_block (b9 (w.heap.size + 1) (by omega) (by omega))).trans hc⟩, _, by rw [List.length_append]; exact hG9, ?_⟩, hB.groups hoi hg hg9 (by omega) (by omega) (Nat.le_refl _)⟩⟩
    · have hkl : k < W.heap.size := (Array.getElem?_eq_some_iff.1 h0).1
      have h8 : w8.heap[k]? = some o := by
        rw [hg.block k hkl (fun e => ?_)]
        · exact h0
        · rcases hoi.1.2 with ⟨e0, _⟩ | ⟨g, cap, cur, e0, _, hrow, _⟩
          · rw [e0] at e; cases e
          · rw [e0] at e
            cases e
            rw [hrow] at h0
            cases h0
            cases ho
      rw [hg9.block k (by have := hg.size; omega) (fun e => by cases e; omega)]
      exact h8
    · refine hM.put (groups_isMap hD) ?_ (fun y hy => fOf_other a pre x hy)
      rw [hoi8.datum_pos (by simp), fOf_same, ← hzs, dOf_pos (by simp)]
  case done =>
    rintro dq ys W hdq rfl ⟨⟨⟨hs3, hc⟩, D, hD, hM⟩, hB⟩ hK
    have HD := Lib.hid hD
    have HM := Lib.hid hM
    have HW := Lib.hid hB
    have HK := Lib.hid hK
    have HDQ := Lib.hid hdq
    clear hD hM hB hK hm0 hc1 hc2 hB0 hdq
    go_wp2_with fail
    go_loopw [8, 30] (fun v8 v30 wr => ∃ j : Nat, j ≤ m ∧ v30 = .int .i64 (j : Int) ∧ En W.heap.size wr v8 (Lcs.ends a (b.take j)) ∧ Below W.heap.size W wr) (fun _ v _ => m - (intOf v).toNat)
    case atStart => exact ⟨0, by omega, rfl, World.ownsRow_nil _ _ _ _, Below.refl _ _⟩
    case round =>
      obtain ⟨j, hj, rfl, he, hbw⟩ := hrel
      have HE := Lib.hid he
      have HBW := Lib.hid hbw
      clear he hbw
      by_cases hlt : j < m
      · obtain ⟨bb, ob, rfl, hbl, hbc⟩ := HB.out.2 (by omega)
        have hy : b[j]? = some (b[j]'(by have := HB.out.1; omega)) := List.getElem?_eq_getElem _
        have hyw := HWB.out _ (List.mem_of_getElem? hy)
        generalize (b[j]'(by have := HB.out.1; omega)) = y at hy hyw
        have hwr : Below w.heap.size w wr := HW.out.trans (HBW.out.mono HW.out.size)
        have hcy : wr.cell? ⟨bb, ob + j, none⟩ = some (.int .u64 y) := (hwr.cell (p := ⟨bb, ob + j, none⟩) hbl).trans (hbc j y hy)
        have hcb : wr.cell? ⟨w.heap.size + 1, 0, none⟩ = some (.map (some w.heap.size)) := (HBW.out.cell (p := ⟨w.heap.size + 1, 0, none⟩) (by show w.heap.size + 1 < W.heap.size; omega)).trans hc
        obtain ⟨v, zs, hlk, hat, hoi, hzl, _⟩ := groups_look HD.out hyw (by rw [upto_length]; unfold maxLen; omega)
        have hzs := dOf_eq hoi ((HM.out y).symm.trans hat)
        have hfa := fOf_all a y (by have := HA.out.1; omega)
        rw [HA.out.1] at hfa
        rw [hfa] at hzs
        have HL := Lib.hid (hlk wr (HBW.out.block _ (by omega)))
        subst hzs
        have hoz := hoi.1
        rw [List.length_map] at hoz
        have HZ := Lib.hid hoz
        have HPL := Lib.hid (show ∀ i ∈ Lcs.places a y, i < n from fun i hi => by have := plc_lt a y a.length (Nat.le_refl _) i hi; have := HA.out.1; omega)
        obtain ⟨pv, cv, rfl⟩ := own_slE hoz
        have hPn : (Lcs.places a y).length ≤ 60 := by
          rw [List.length_map, upto_length] at hzl
          omega
        clear hoz hat hzl
        have hj0 : (0 : Int) ≤ (j : Int) := by omega
        have hj1 : (j : Int) < (m : Int) := by omega
        have HEN := Lib.hid (Lcs.ends_append a (b.take j) y)
        have HTK := Lib.hid (show b.take (j + 1) = b.take j ++ [y] by rw [List.take_add_one, hy]; rfl)
        have HINV := Lib.hid (Lcs.inv_ends a (b.take j))
        clear hlk hfa hwr hyw hbc
        have hw1 : IntKind.i64.wrap ((j : Int) + 1) = ((j + 1 : Nat) : Int) := by rw [IntKind.wrap_i64]; omega
        clear hoi
        have HS0 := Lib.hid HINV.out.sorted
        have HB0 := Lib.hid (show ∀ x ∈ Lcs.ends a (b.take j), x < n from fun x hx => by have := HINV.out.below x hx; have := HA.out.1; omega)
        clear HINV
        go_wp2_with (at_lookup; refine wpList_look_run rfl 42 (.tmp 34) (.tmp 35) rfl (.map (some w.heap.size)) (.int .u64 y) _ rfl rfl HL.out ?_)
        clear HL HM HD hcy hcb
        generalize Lcs.ends a (b.take j) = E0 at *
        generalize Lcs.places a y = P at *
        go_loopw [8, 38] (fun v8 v38 wr => ∃ t : Nat, t ≤ P.length ∧ v38 = .int .i64 (t : Int) ∧ En W.heap.size wr v8 ((P.take t).foldl Lcs.put E0) ∧ Below W.heap.size W wr ∧ ((P.take t).foldl Lcs.put E0).Pairwise (· < ·) ∧ ∀ x ∈ (P.take t).foldl Lcs.put E0, x < n) (fun _ v _ => P.length - (intOf v).toNat)
        case atStart => exact ⟨0, by omega, rfl, HE.out, HBW.out, HS0.out, HB0.out⟩
        case round =>
          obtain ⟨t, ht, rfl, he, hbw, hso, hbe⟩ := hrel
          clear HE HBW
          have HBW := Lib.hid hbw
          by_cases hlt2 : t < P.length
          · obtain ⟨gv, capv, e0, _, hgl, hcv⟩ := own_atE HZ.out (by omega)
            cases e0
            have hp : P[t]? = some (P[t]'hlt2) := List.getElem?_eq_getElem _
            have hpn := HPL.out _ (List.mem_of_getElem? hp)
            have HST := Lib.hid (show (P.take (t + 1)).foldl Lcs.put E0 = Lcs.put ((P.take t).foldl Lcs.put E0) (P[t]'hlt2) by rw [List.take_add_one, hp, List.foldl_append]; rfl)
            have hcp := (hcv t (.int .i64 ((P[t]'hlt2 : Nat) : Int)) (by rw [List.map_map, List.getElem?_map, hp]; rfl)).1
            have hcq := (hbw.cell (p := ⟨gv, t, none⟩) hgl).trans hcp
            generalize (P[t]'hlt2) = p at *
            generalize (P.take t).foldl Lcs.put E0 = E at *
            have hEn : E.length ≤ 60 := by
              have := len_le E 0 n hso (fun x hx => ⟨Nat.zero_le _, hbe x hx⟩)
              omega
            have hps := Lcs.put_sorted E hso p
            have hpb : ∀ x ∈ Lcs.put E p, x < n := fun x hx => by
              rcases Lcs.mem_put hx with h | h
              · exact hbe x h
              · omega
            have HPS := Lib.hid (And.intro hps hpb)
            have HEE := Lib.hid he
            have HSO := Lib.hid hso
            clear hps hpb he hso hbe hbw hcv hcp
            have ht0 : (0 : Int) ≤ (t : Int) := by omega
            have ht1 : (t : Int) < (P.length : Int) := by omega
            have hw2 : IntKind.i64.wrap ((t : Int) + 1) = ((t + 1 : Nat) : Int) := by rw [IntKind.wrap_i64]; omega
            go_wp2_with fail
            refine (search_own HEE.out HSO.out p hEn).mono ?_
            rintro e w4 ⟨⟨fd, rfl⟩, q, rfl⟩
            have hkl := Lcs.cnt_le E p
            obtain ⟨p8, c8, rfl⟩ := own_slE HEE.out
            by_cases hke : Lcs.cnt E p = E.length
            · have HPE := Lib.hid (put_last hke)
              rw [hke]
              clear hke hkl
              obtain ⟨ti, hi, hz, hs, hbb⟩ := int_info
              have hEq : En W.heap.size (wr.drewN q) (.slice p8 E.length c8) E := HEE.out
              have hBq : Below W.heap.size W (wr.drewN q) := below_drewN HBW.out q
              have HOA := Lib.hid (World.ownsRow.alloc (w := wr.drewN q) hEq (.cells #[.int .i64 (p : Int)] 3))
              have HBA := Lib.hid (hBq.alloc hBq.size (.cells #[.int .i64 (p : Int)] 3))
              clear hEq hBq
              have hEl0 : (0 : Int) ≤ (E.length : Int) := by omega
              have hEl1 : (E.length : Int) < (E.length : Int) + 1 := by omega
              have HAP := Lib.hid (show ((E.map fun p : Nat => Value.int .i64 (p : Int)) ++ [.int .i64 (p : Int)])[E.length]? = some (.int .i64 (p : Int)) by rw [List.getElem?_append_right (by simp)]; simp)
              have HMX := Lib.hid (show E.length + 1 ≤ maxLen by unfold maxLen; omega)
              have HBY := Lib.hid (show (E.length + 1) * 8 ≤ 140737488355328 by omega)
              have HON := Lib.hid (show ∀ u ∈ [Value.int .i64 (p : Int)], u.oneCell' = true by intro u hu; simp at hu; subst hu; rfl)
              go_wp2_with (at_builtin; refine wpList_append_own_at _ rfl (.tmp 52) (.tmp 54) 46 rfl W.heap.size 3 ti (.int .i64 0) 1 8 Try.underlying46 hi hz hs hbb rfl (by decide) (.slice p8 E.length c8) E.length _ rfl HOA.out ⟨(wr.drewN q).heap.size, 0, none⟩ 1 1 [.int .i64 (p : Int)] rfl rfl (cell_one_new (wr.drewN q) _ _) HON.out HMX.out HBY.out HBA.out.size ?_; intro v9 w9 ho9 hg9 _ _; obtain ⟨g9, cap9, rfl, hb9, hgl9, hc9⟩ := own_atE ho9 (Nat.succ_pos _); have hx9 := hc9 E.length (.int .i64 (p : Int)) HAP.out; have hx91 := hx9.1; have hx92 := hx9.2; clear hx9 hc9)
              have hb9' := (HBA.out.grown hg9 HBA.out.size (fun k e => (HOA.out.lt k e).1))
              go_roundw
              case rel =>
                refine ⟨t + 1, by omega, by go_num, ?_, hb9'.setCell hb9 _, by rw [HST.out]; exact HPS.out⟩
                rw [HST.out, HPE.out]
                have hset := own_setE ho9 E.length (.int .i64 (p : Int))
                rw [List.set_append_right _ _ (by simp), List.length_map, Nat.sub_self, List.set_cons_zero] at hset
                unfold En
                rw [List.length_append, List.map_append]
                exact hset
              case measure => simp [intOf] <;> omega
            · have hkn : Lcs.cnt E p < E.length := by omega
              have HPE := Lib.hid (put_in hkn)
              obtain ⟨g8, cap8, e8, hb8, hgl8, hc8⟩ := own_atE HEE.out (by omega)
              cases e8
              generalize Lcs.cnt E p = k at *
              have hx8 := hc8 k _ (by rw [List.getElem?_map, List.getElem?_eq_getElem hkn]; rfl)
              have hx81 : (wr.drewN q).cell? ⟨g8, k, none⟩ = _ := hx8.1
              have hx82 : (wr.drewN q).frozen? ⟨g8, k, none⟩ = false := hx8.2
              have hk0 : (0 : Int) ≤ (k : Int) := by omega
              have hk1 : (k : Int) < (E.length : Int) := by omega
              have hk2 : ¬ (k : Int) = (E.length : Int) := by omega
              go_wp2_with fail
              go_roundw
              case rel =>
                refine ⟨t + 1, by omega, by go_num, ?_, (below_drewN HBW.out q).setCell hb8 _, by rw [HST.out]; exact HPS.out⟩
                rw [HST.out, HPE.out]
                have := own_setE (w := wr.drewN q) HEE.out k (.int .i64 (p : Int))
                unfold En
                rw [List.length_set, List.map_set]
                exact this
              case measure => simp [intOf] <;> omega
          · obtain rfl : t = P.length := by omega
            rw [List.take_length] at he
            have HE2 := Lib.hid he
            clear he hso hbe hbw
            go_wp2_with fail
            go_roundw
            case rel => exact ⟨j + 1, by omega, by go_num, by rw [HTK.out, HEN.out]; exact HE2.out, HBW.out⟩
            case measure => simp [intOf] <;> omega
      · obtain rfl : j = m := by omega
        obtain ⟨p8, c8, rfl⟩ := own_slE HE.out
        have hlen : (Lcs.ends a (b.take j)).length = Lcs.lcs a b := by
          rw [Lcs.ends_length, List.take_of_length_le (by have := HB.out.1; omega)]
        rw [hlen]
        go_wp2_with fail
        have hK' := (HBW.out.block dq (by have := (Array.getElem?_eq_some_iff.1 HK.out).1; exact this)).trans HK.out
        have hfin : Below w.heap.size w wr := HW.out.trans (HBW.out.mono HW.out.size)
        refine ⟨by simp, .inl ⟨_, _, rfl, run_takeDeferred hK', ?_⟩⟩
        exact ⟨_, results_tmp rfl _ _ _, rfl, hfin.trans (belowK_b (w := w) (Nat.le_refl _) wr dq _ _ (by have := HDQ.out; omega) hK' rfl rfl)⟩
  case stop =>
    rintro D c pre W _ _ h _
    exact h.elim

end Go.Proofs.Ytpegkalhjnldkaa
