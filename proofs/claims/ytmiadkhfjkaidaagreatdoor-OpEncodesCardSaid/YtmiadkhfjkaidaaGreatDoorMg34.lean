/- Where a step leads, at one field and at one element: Find, Part of fields; Elem; place.Part. A value without lists and parts: gone through, copied; for any such value. A value without lists and parts, copied: Walk with what makes it its own, Ends, Copy; for any such value. -/
import Derived.Test.YtmiadkhfjkaidaaGreatDoorMg11
import Derived.Test.YtmiadkhfjkaidaaGreatDoorMg13
import Derived.Test.YtmiadkhfjkaidaaGreatDoorMg17
namespace Go.Proofs.YtmiadkhfjkaidaaGreatDoor
section
set_option maxRecDepth 100000
set_option linter.unusedSimpArgs false
set_option linter.unusedVariables false
open Go.RowKit

theorem findc_any (s x : ByteArray) (g : Nat) (w : World) (hg : w.cell? ⟨g, 0, none⟩ = some (.string s)) :
    Calls Tryz.prog 155 #[.string x, .pointer (some ⟨g, 0, none⟩)] w fun e w' => e = .returned (.bool (eqS x s)) ∧ w' = w := by
  go_enter Tryz.func155, Tryz.ntmps155
  go_wp2_with fail
  go_ret
  exact ⟨rfl, rfl⟩
theorem eqS_self (s : ByteArray) : eqS s s = true := by unfold eqS; exact beq_self_eq_true _
set_option maxHeartbeats 800000 in
theorem ifind_one (a g c : Nat) (s : ByteArray) (w : World) (ha : w.cell? ⟨a, 0, none⟩ = some (.string s)) (hg : w.cell? ⟨g, 0, none⟩ = some (.string s)) :
    Calls Tryz.prog 154 #[.slice (some ⟨a, 0, none⟩) 1 c, .func (.func 155) #[] #[.pointer (some ⟨g, 0, none⟩)]] w fun e w' => e = .returned (.int .i64 0) ∧ w' = w := by
  have hc := findc_any s s g w hg
  rw [eqS_self] at hc
  have HC := Lib.hid hc
  clear hc hg
  go_enter Tryz.func154, Tryz.ntmps154
  go_wp2_with fail
  go_loopw [8] (fun i wr => i = .int .i64 0 ∧ wr = w) (fun i _ => 0)
  case atStart => exact ⟨rfl, rfl⟩
  case round =>
    obtain ⟨rfl, rfl⟩ := hrel
    go_wp2_with fail
    refine HC.out.mono ?_
    rintro e W1 ⟨rfl, rfl⟩
    go_wp2_with fail
    go_ret
    exact ⟨rfl, rfl⟩
theorem find_one (a c : Nat) (s : ByteArray) (w : World) (ha : w.cell? ⟨a, 0, none⟩ = some (.string s)) :
    Calls Tryz.prog 111 #[.slice (some ⟨a, 0, none⟩) 1 c, .string s] w fun e w' => e = .returned (.int .i64 0) ∧ Below w.heap.size w w' := by
  have hlt : a < w.heap.size := lt_of_cell ha
  have HC := Lib.hid (ifind_one a w.heap.size c s (w.alloc (.cells #[.string s] 9)) ((Below.cell (below_new w _) hlt).trans ha) ((Row.new w [.string s] 9).cell (k := 0) rfl))
  clear ha
  go_enter Tryz.func111, Tryz.ntmps111
  go_wp2_with fail
  refine HC.out.mono ?_
  rintro e W1 ⟨rfl, rfl⟩
  go_wp2_with fail
  go_ret
  exact ⟨rfl, below_new _ _⟩
theorem fpart_one (a c p c2 : Nat) (s : ByteArray) (w : World) (ha : w.cell? ⟨a, 0, none⟩ = some (.string s)) :
    Calls Tryz.prog 74 #[.slice (some ⟨a, 0, none⟩) 1 c, .slice (some ⟨p, 0, none⟩) 1 c2, .string s] w fun e w' => e = .returned (.pointer (some ⟨p, 0, none⟩)) ∧ Below w.heap.size w w' := by
  have HC := Lib.hid (find_one a c s w ha)
  clear ha
  go_enter Tryz.func74, Tryz.ntmps74
  go_wp2_with fail
  refine HC.out.mono ?_
  rintro e W1 ⟨rfl, hb⟩
  have HB := Lib.hid hb
  clear hb
  go_wp2_with fail
  go_ret
  exact ⟨rfl, HB.out⟩
theorem elem_one (b c : Nat) (id : Int) (N : Value) (S : Value) (X P : Value) (w : World) (hb : w.cell? ⟨b, 0, none⟩ = some (.int .u64 id)) :
    Calls Tryz.prog 75 #[.agg #[.int .i64 6, N, S, X, .slice (some ⟨b, 0, none⟩) 1 c, P], .int .u64 id] w fun e w' => e = .returned (.tuple #[.int .i64 0, .bool true]) ∧ Below w.heap.size w w' := by
  have hlt : b < w.heap.size := lt_of_cell hb
  have hn : Nums (w.alloc (.cells #[.int .i64 6, N, S, X, .slice (some ⟨b, 0, none⟩) 1 c, P] 28)) (some ⟨b, 0, none⟩) 1 [id] := by
    refine ⟨rfl, fun _ => ⟨⟨b, 0, none⟩, rfl, trivial, by simp; omega, fun j u hj => ?_⟩⟩
    match j, hj with
    | 0, hj =>
      simp at hj
      subst hj
      exact (Below.cell (p := (⟨b, 0, none⟩ : Addr).add 0) (below_new w _) hlt).trans hb
  have hi := index_any (some ⟨b, 0, none⟩) 1 c [id] id (by omega) _ hn
  have HI := Lib.hid hi
  clear hb hn hi
  go_enter Tryz.func75, Tryz.ntmps75
  go_wp2_with fail
  refine HI.out.mono ?_
  rintro e W1 ⟨⟨r, rfl, hr⟩, rfl⟩
  obtain rfl : r = 0 := by
    rcases hr with ⟨_, h⟩ | ⟨i, hi, rfl, _, _⟩
    · have := h 0 (by omega)
      simp at this
    · omega
  clear hr
  go_wp2_with fail
  go_ret2
  exact ⟨rfl, below_new _ _⟩

theorem Gives.nil {P : Program} {S : World → Prop} {o : Oper} {a : Act} (x : Operand) (ho : o.op = .nilCheck x) (ad : Addr) (hx : a.eval x = .pointer (some ad)) : Gives P S o (.pointer (some ad)) a :=
  Gives.run fun w _ => by
    unfold execOp
    simp only [ho, hx]
    rfl
theorem ldp_strs {a : Addr} {v : Value} {w : World} (h : w.cell? a = some v) : (Instr.loadAt 24 (.pointer (some a))).run Tryz.prog w = .ok v w := by go_simp
theorem ldp_str {a : Addr} {v : Value} {w : World} (h : w.cell? a = some v) : (Instr.loadAt 9 (.pointer (some a))).run Tryz.prog w = .ok v w := by go_simp
theorem ldp_vals {a : Addr} {v : Value} {w : World} (h : w.cell? a = some v) : (Instr.loadAt 26 (.pointer (some a))).run Tryz.prog w = .ok v w := by go_simp
theorem ld_u64 {a : Addr} {v : Value} {w : World} (h : w.cell? a = some v) : (Instr.loadAt 23 (.pointer (some a))).run Tryz.prog w = .ok v w := by go_simp
theorem fa_v (g k : Nat) (w : World) (hk : k < 6 := by omega) : (Instr.fieldAt 28 (.pointer (some ⟨g, 0, none⟩)) k).run Tryz.prog w = .ok (.pointer (some ⟨g, k, none⟩)) w := by
  match k, hk with
  | 0, _ => go_simp
  | 1, _ => go_simp
  | 2, _ => go_simp
  | 3, _ => go_simp
  | 4, _ => go_simp
  | 5, _ => go_simp
theorem fa_st (g k : Nat) (w : World) (hk : k < 2 := by omega) : (Instr.fieldAt 67 (.pointer (some ⟨g, 0, none⟩)) k).run Tryz.prog w = .ok (.pointer (some ⟨g, k, none⟩)) w := by
  match k, hk with
  | 0, _ => go_simp
  | 1, _ => go_simp
set_option maxHeartbeats 1600000 in
theorem spart_rec (g a c p c2 : Nat) (s : ByteArray) (i : Int) (hs : s.size ≠ 0) (w : World) (h0 : w.cell? ⟨g, 0, none⟩ = some (.int .i64 5)) (h3 : w.cell? ⟨g, 3, none⟩ = some (.slice (some ⟨a, 0, none⟩) 1 c))
    (h5 : w.cell? ⟨g, 5, none⟩ = some (.slice (some ⟨p, 0, none⟩) 1 c2)) (ha : w.cell? ⟨a, 0, none⟩ = some (.string s)) :
    Calls Tryz.prog 35 #[.pointer (some ⟨g, 0, none⟩), .agg #[.string s, .int .u64 i]] w fun e w' => e = .returned (.pointer (some ⟨p, 0, none⟩)) ∧ Below w.heap.size w w' := by
  have hne := toList_ne hs
  have hne2 := isEmpty_ne hs
  have hne3 : (s.toList == []) = false := beq_eq_false_iff_ne.2 hne
  have hne4 : (s.toList != []) = true := bne_iff_ne.2 hne
  have l0 := lt_of_cell h0
  have l3 := lt_of_cell h3
  have l5 := lt_of_cell h5
  have la := lt_of_cell ha
  have hbn := below_new w (.cells #[.string s, .int .u64 i] 67)
  have hst := (Row.new w [.string s, .int .u64 i] 67).cell (k := 0) rfl
  have hltn : w.heap.size < (w.alloc (.cells #[.string s, .int .u64 i] 67)).heap.size := by simp
  have HK := Lib.hid (fun (w' : World) (h : Below (w.alloc (.cells #[.string s, .int .u64 i] 67)).heap.size (w.alloc (.cells #[.string s, .int .u64 i] 67)) w') => (⟨(h.cell (Nat.lt_of_lt_of_le l0 hbn.size)).trans ((hbn.cell l0).trans h0), (h.cell (Nat.lt_of_lt_of_le l3 hbn.size)).trans ((hbn.cell l3).trans h3), (h.cell (Nat.lt_of_lt_of_le l5 hbn.size)).trans ((hbn.cell l5).trans h5), (h.cell (p := ⟨w.heap.size, 0, none⟩) hltn).trans hst, (h.cell (Nat.lt_of_lt_of_le la hbn.size)).trans ((hbn.cell la).trans ha)⟩ : w'.cell? ⟨g, 0, none⟩ = some (.int .i64 5) ∧ w'.cell? ⟨g, 3, none⟩ = some (.slice (some ⟨a, 0, none⟩) 1 c) ∧ w'.cell? ⟨g, 5, none⟩ = some (.slice (some ⟨p, 0, none⟩) 1 c2) ∧ w'.cell? ⟨w.heap.size, 0, none⟩ = some (.string s) ∧ w'.cell? ⟨a, 0, none⟩ = some (.string s)))
  have g0 := (HK.out (w.alloc (.cells #[.string s, .int .u64 i] 67)) (Below.refl _ _)).1
  have g1 := (HK.out (w.alloc (.cells #[.string s, .int .u64 i] 67)) (Below.refl _ _)).2.2.2.1
  have HBN := Lib.hid hbn
  clear h0 h3 h5 ha hbn hst l0 l3 l5 la
  go_enter Tryz.func35, Tryz.ntmps35
  go_wp2_with fail
  generalize w.alloc (.cells #[.string s, .int .u64 i] 67) = W1 at *
  refine wp_flat_none (aD := ?aD) (S := fun w' => Below W1.heap.size W1 w') (vs := [(0, .pointer (some ⟨g, 0, none⟩)), (1, .pointer (some ⟨g, 0, none⟩)), (2, .pointer (some ⟨g, 3, none⟩)), (3, .slice (some ⟨a, 0, none⟩) 1 c), (4, .pointer (some ⟨g, 0, none⟩)), (5, .pointer (some ⟨g, 0, none⟩)), (6, .pointer (some ⟨g, 5, none⟩)), (7, .slice (some ⟨p, 0, none⟩) 1 c2), (8, .pointer (some ⟨w.heap.size, 0, none⟩)), (9, .string s), (10, .pointer (some ⟨p, 0, none⟩)), (11, .pointer (some ⟨p, 0, none⟩))]) (by kernel_rfl) ((Below.refl _ _).drew) (fun _ _ h k => S_trans h k) ?hD ?hk ?h
  case hD =>
    refine .step (some 17) rfl rfl (by kernel_rfl) (Gives.move rfl rfl) ?_
    simp only [Act.put, List.setIfInBounds_toArray, List.set_cons_zero, List.set_cons_succ]
    refine .step (some 18) rfl rfl (by kernel_rfl) (Gives.nil (.tmp 17) rfl _ rfl) ?_
    simp only [Act.put, List.setIfInBounds_toArray, List.set_cons_zero, List.set_cons_succ]
    refine .step (some 19) rfl rfl (by kernel_rfl) (Gives.fieldAt 28 (.tmp 18) 3 rfl _ _ rfl (fun w' => fa_v g 3 w')) ?_
    simp only [Act.put, List.setIfInBounds_toArray, List.set_cons_zero, List.set_cons_succ]
    refine .step (some 20) rfl rfl (by kernel_rfl) (Gives.load 24 (.tmp 19) rfl _ _ rfl (fun w' h => ldp_strs (HK.out w' h).2.1)) ?_
    simp only [Act.put, List.setIfInBounds_toArray, List.set_cons_zero, List.set_cons_succ]
    refine .step (some 21) rfl rfl (by kernel_rfl) (Gives.move rfl rfl) ?_
    simp only [Act.put, List.setIfInBounds_toArray, List.set_cons_zero, List.set_cons_succ]
    refine .step (some 22) rfl rfl (by kernel_rfl) (Gives.nil (.tmp 21) rfl _ rfl) ?_
    simp only [Act.put, List.setIfInBounds_toArray, List.set_cons_zero, List.set_cons_succ]
    refine .step (some 23) rfl rfl (by kernel_rfl) (Gives.fieldAt 28 (.tmp 22) 5 rfl _ _ rfl (fun w' => fa_v g 5 w')) ?_
    simp only [Act.put, List.setIfInBounds_toArray, List.set_cons_zero, List.set_cons_succ]
    refine .step (some 24) rfl rfl (by kernel_rfl) (Gives.load 26 (.tmp 23) rfl _ _ rfl (fun w' h => ldp_vals (HK.out w' h).2.2.1)) ?_
    simp only [Act.put, List.setIfInBounds_toArray, List.set_cons_zero, List.set_cons_succ]
    refine .step (some 25) rfl rfl (by kernel_rfl) (Gives.fieldAt 67 (.tmp 3) 0 rfl _ _ rfl (fun w' => fa_st _ 0 w')) ?_
    simp only [Act.put, List.setIfInBounds_toArray, List.set_cons_zero, List.set_cons_succ]
    refine .step (some 26) rfl rfl (by kernel_rfl) (Gives.load 9 (.tmp 25) rfl _ _ rfl (fun w' h => ldp_str (HK.out w' h).2.2.2.1)) ?_
    simp only [Act.put, List.setIfInBounds_toArray, List.set_cons_zero, List.set_cons_succ]
    refine .step (some 27) rfl rfl (by kernel_rfl) (Gives.call (args := [.slice (some ⟨a, 0, none⟩) 1 c, .slice (some ⟨p, 0, none⟩) 1 c2, .string s]) rfl Tryz.func74 (by kernel_rfl) (by kernel_rfl) rfl (fun w' h => fpart_one a c p c2 s w' (HK.out w' h).2.2.2.2)) ?_
    simp only [Act.put, List.setIfInBounds_toArray, List.set_cons_zero, List.set_cons_succ]
    refine .step (some 4) rfl rfl (by kernel_rfl) (Gives.assign (x := .tmp 27) rfl rfl) ?_
    simp only [Act.put, List.setIfInBounds_toArray, List.set_cons_zero, List.set_cons_succ]
    exact .nil
  case hk => kernel_rfl
  case h =>
  intro W2 hb
  have HB := Lib.hid (HBN.out.trans (hb.mono HBN.out.size))
  clear hb
  go_wp2_with fail
  go_ret
  exact ⟨rfl, HB.out⟩

theorem ld_val {g : Nat} {w : World} (cs : List Value) (hl : cs.length = 6) (h : ∀ j v, cs[j]? = some v → w.cell? ⟨g, j, none⟩ = some v) :
    (Instr.loadAt 28 (.pointer (some ⟨g, 0, none⟩))).run Tryz.prog w = .ok (.agg cs.toArray) w := by
  have hv := run_loadVar_st (P := Tryz.prog) w ⟨g, 0, none⟩ 28 cs (fun j v hj => by
    have ea : (⟨g, 0, none⟩ : Addr).add j = ⟨g, j, none⟩ := by unfold Addr.add; split <;> simp_all
    rw [ea]
    exact h j v hj) Tryz.underlying28 (v_len hl)
  simp only [Instr.loadAt, Instr.sureAddr, Sem.run_bind, Sem.run_pure, Result.andThen_ok, hv]
def Cells (w : World) (g : Nat) (cs : List Value) : Prop := ∀ j v, cs[j]? = some v → w.cell? ⟨g, j, none⟩ = some v
theorem Cells.below {w w' : World} {g : Nat} {cs : List Value} (h : Cells w g cs) (hb : Below w.heap.size w w') : Cells w' g cs := fun j v hj => (hb.cell (p := ⟨g, j, none⟩) (lt_of_cell (h j v hj))).trans (h j v hj)
theorem Row.cells {w : World} {g : Nat} {T : TypeId} {cs : List Value} (h : Row w g T cs) : Cells w g cs := fun j v hj => h.cell hj
set_option maxHeartbeats 1600000 in
theorem spart_list (g b c p c2 : Nat) (N S X : Value) (id : Int) (w : World) (hcs : Cells w g [.int .i64 6, N, S, X, .slice (some ⟨b, 0, none⟩) 1 c, .slice (some ⟨p, 0, none⟩) 1 c2]) (hb : w.cell? ⟨b, 0, none⟩ = some (.int .u64 id)) :
    Calls Tryz.prog 35 #[.pointer (some ⟨g, 0, none⟩), .agg #[.string ByteArray.empty, .int .u64 id]] w fun e w' => e = .returned (.pointer (some ⟨p, 0, none⟩)) ∧ Below w.heap.size w w' := by
  have lb := lt_of_cell hb
  have hbn := below_new w (.cells #[.string ByteArray.empty, .int .u64 id] 67)
  have hst := (Row.new w [.string ByteArray.empty, .int .u64 id] 67).cell (k := 0) rfl
  have hst1 := (Row.new w [.string ByteArray.empty, .int .u64 id] 67).cell (k := 1) rfl
  have hltn : w.heap.size < (w.alloc (.cells #[.string ByteArray.empty, .int .u64 id] 67)).heap.size := by simp
  have hc1 := hcs.below hbn
  have HC := Lib.hid (fun (w' : World) (h : Below (w.alloc (.cells #[.string ByteArray.empty, .int .u64 id] 67)).heap.size (w.alloc (.cells #[.string ByteArray.empty, .int .u64 id] 67)) w') => hc1.below h)
  have HK := Lib.hid (fun (w' : World) (h : Below (w.alloc (.cells #[.string ByteArray.empty, .int .u64 id] 67)).heap.size (w.alloc (.cells #[.string ByteArray.empty, .int .u64 id] 67)) w') => (⟨(h.cell (p := ⟨w.heap.size, 0, none⟩) hltn).trans hst, (h.cell (p := ⟨w.heap.size, 1, none⟩) hltn).trans hst1, (h.cell (Nat.lt_of_lt_of_le lb hbn.size)).trans ((hbn.cell lb).trans hb)⟩ : w'.cell? ⟨w.heap.size, 0, none⟩ = some (.string ByteArray.empty) ∧ w'.cell? ⟨w.heap.size, 1, none⟩ = some (.int .u64 id) ∧ w'.cell? ⟨b, 0, none⟩ = some (.int .u64 id)))
  have g0 := hc1 0 _ rfl
  have g1 := hst
  have HBN := Lib.hid hbn
  clear hcs hb hbn hst hst1 lb hc1
  go_enter Tryz.func35, Tryz.ntmps35
  go_wp2_with fail
  generalize w.alloc (.cells #[.string ByteArray.empty, .int .u64 id] 67) = W1 at *
  refine wp_flat_none (aD := ?aD) (S := fun w' => Below W1.heap.size W1 w') (vs := [(0, .pointer (some ⟨g, 0, none⟩)), (1, .pointer (some ⟨g, 0, none⟩)), (2, .agg #[.int .i64 6, N, S, X, .slice (some ⟨b, 0, none⟩) 1 c, .slice (some ⟨p, 0, none⟩) 1 c2]), (3, .pointer (some ⟨w.heap.size, 1, none⟩)), (4, .int .u64 id), (5, .tuple #[.int .i64 0, .bool true]), (6, .tuple #[.int .i64 0, .bool true]), (7, .int .i64 0), (8, .bool true), (9, .int .i64 0), (10, .bool true)]) (by kernel_rfl) ((Below.refl _ _).drew) (fun _ _ h k => S_trans h k) ?hD ?hk ?h
  case hD =>
    refine .step (some 29) rfl rfl (by kernel_rfl) (Gives.move rfl rfl) ?_
    simp only [Act.put, List.setIfInBounds_toArray, List.set_cons_zero, List.set_cons_succ]
    refine .step (some 30) rfl rfl (by kernel_rfl) (Gives.nil (.tmp 29) rfl _ rfl) ?_
    simp only [Act.put, List.setIfInBounds_toArray, List.set_cons_zero, List.set_cons_succ]
    refine .step (some 31) rfl rfl (by kernel_rfl) (Gives.load 28 (.tmp 30) rfl _ _ rfl (fun w' h => ld_val _ rfl (HC.out w' h))) ?_
    simp only [Act.put, List.setIfInBounds_toArray, List.set_cons_zero, List.set_cons_succ]
    refine .step (some 32) rfl rfl (by kernel_rfl) (Gives.fieldAt 67 (.tmp 3) 1 rfl _ _ rfl (fun w' => fa_st _ 1 w')) ?_
    simp only [Act.put, List.setIfInBounds_toArray, List.set_cons_zero, List.set_cons_succ]
    refine .step (some 33) rfl rfl (by kernel_rfl) (Gives.load 23 (.tmp 32) rfl _ _ rfl (fun w' h => ld_u64 (HK.out w' h).2.1)) ?_
    simp only [Act.put, List.setIfInBounds_toArray, List.set_cons_zero, List.set_cons_succ]
    refine .step (some 34) rfl rfl (by kernel_rfl) (Gives.call (args := [.agg #[.int .i64 6, N, S, X, .slice (some ⟨b, 0, none⟩) 1 c, .slice (some ⟨p, 0, none⟩) 1 c2], .int .u64 id]) rfl Tryz.func75 (by kernel_rfl) (by kernel_rfl) rfl (fun w' h => elem_one b c id N S X _ w' (HK.out w' h).2.2)) ?_
    simp only [Act.put, List.setIfInBounds_toArray, List.set_cons_zero, List.set_cons_succ]
    refine .step (some 28) rfl rfl (by kernel_rfl) (Gives.move rfl rfl) ?_
    simp only [Act.put, List.setIfInBounds_toArray, List.set_cons_zero, List.set_cons_succ]
    refine .step (some 35) rfl rfl (by kernel_rfl) (Gives.extract (.tmp 28) 0 rfl _ _ rfl (fun w' => by kernel_rfl)) ?_
    simp only [Act.put, List.setIfInBounds_toArray, List.set_cons_zero, List.set_cons_succ]
    refine .step (some 36) rfl rfl (by kernel_rfl) (Gives.extract (.tmp 28) 1 rfl _ _ rfl (fun w' => by kernel_rfl)) ?_
    simp only [Act.put, List.setIfInBounds_toArray, List.set_cons_zero, List.set_cons_succ]
    refine .step (some 5) rfl rfl (by kernel_rfl) (Gives.assign (x := .tmp 35) rfl rfl) ?_
    simp only [Act.put, List.setIfInBounds_toArray, List.set_cons_zero, List.set_cons_succ]
    refine .step (some 6) rfl rfl (by kernel_rfl) (Gives.assign (x := .tmp 36) rfl rfl) ?_
    simp only [Act.put, List.setIfInBounds_toArray, List.set_cons_zero, List.set_cons_succ]
    exact .nil
  case hk => kernel_rfl
  case h =>
  intro W2 hb
  have hc2 := HC.out W2 hb
  have q5 := hc2 5 _ rfl
  have q1 := (HK.out W2 hb).1
  have HB := Lib.hid (HBN.out.trans (hb.mono HBN.out.size))
  clear hb hc2
  go_wp2_with fail
  go_ret
  exact ⟨rfl, HB.out⟩
end

section
set_option maxRecDepth 100000
set_option linter.unusedSimpArgs false
set_option linter.unusedVariables false
open Go.RowKit

abbrev leafC (K N S : Value) : List Value := [K, N, S, .slice none 0 0, .slice none 0 0, .slice none 0 0]
theorem parts_any (g : Nat) (v : Value) (w : World) (h : w.cell? ⟨g, 5, none⟩ = some v) :
    Calls Tryz.prog 66 #[.pointer (some ⟨g, 0, none⟩)] w fun e w' => e = .returned v ∧ w' = w := by
  go_enter Tryz.func66, Tryz.ntmps66
  go_wp2_with fail
  go_ret
  exact ⟨rfl, rfl⟩
theorem endsc_any (p : Value) (d : Value) (w : World) :
    Calls Tryz.prog 141 #[p, d] w fun e w' => e = .returned (.tuple #[]) ∧ w' = w := by
  go_enter Tryz.func141, Tryz.ntmps141
  go_wp2_with fail
  go_end0
  exact ⟨rfl, rfl⟩
def lenS (v : Value) : Nat := match v with | .slice _ n _ => n | _ => 0
theorem mb_cells : Tryz.prog.cellsOf 194 = 2 := by kernel_rfl
set_option maxHeartbeats 1600000 in
theorem walke_leaf (g : Nat) (w : World) (h5 : w.cell? ⟨g, 5, none⟩ = some (.slice none 0 0)) :
    Calls Tryz.prog 101 #[.pointer (some ⟨g, 0, none⟩), .func (.func 66) #[] #[], .func (.func 141) #[] #[]] w fun e w' => e = .returned (.bool true) ∧ Below w.heap.size w w' := by
  have hlg := lt_of_cell h5
  have HV := Lib.hid (endsc_any (.pointer (some ⟨g, 0, none⟩)) (.int .i64 1))
  have HRN := Lib.hid (Row.new w [.pointer (some ⟨g, 0, none⟩), .int .i64 0] 194)
  have HB0 := Lib.hid (below_new w (.cells #[.pointer (some ⟨g, 0, none⟩), .int .i64 0] 194))
  have H5 := Lib.hid ((HB0.out.cell (p := ⟨g, 5, none⟩) hlg).trans h5)
  have HP := Lib.hid (parts_any g (.slice none 0 0))
  clear h5
  go_enter Tryz.func101, Tryz.ntmps101
  go_wp2_with fail
  refine (HV.out _).mono ?_
  rintro e W1 ⟨rfl, rfl⟩
  go_wp2_with fail
  go_loopw [7, 8, 9, 10] (fun v _ _ _ wr => ∃ n : Nat, n ≤ 1 ∧ v = .slice (some ⟨W1.heap.size, 0, none⟩) n 1 ∧ wr = W1.alloc (.cells #[.pointer (some ⟨g, 0, none⟩), .int .i64 0] 194)) (fun v _ _ _ _ => lenS v)
  case atStart => exact ⟨1, Nat.le_refl _, rfl, rfl⟩
  case round =>
    obtain ⟨n, hn, rfl, rfl⟩ := hrel
    by_cases h0 : n = 0
    · subst h0
      go_wp2_with fail
      go_ret
      exact ⟨rfl, HB0.out⟩
    · obtain rfl : n = 1 := by omega
      have HPP := Lib.hid (HP.out _ H5.out)
      have c0 := HRN.out.cell (k := 0) rfl
      have c1 := HRN.out.cell (k := 1) rfl
      go_wp2_with fail
      refine HPP.out.mono ?_
      rintro e W2 ⟨rfl, rfl⟩
      go_wp2_with fail
      go_roundw
      case rel => exact ⟨0, by omega, by first | rfl | trivial, by first | rfl | trivial⟩
      case measure => simp [lenS]

theorem below_same {w : World} {g : Nat} {T : TypeId} {l : List Value} (h : Row w g T l) {k : Nat} {v : Value} (hk : l[k]? = some v) : Below w.heap.size w (w.setCell ⟨g, k, none⟩ v) := by
  refine ⟨rfl, rfl, rfl, by simp, fun j hj => ?_⟩
  by_cases hjg : j = g
  · subst hjg
    have h1 := h.set k v
    unfold Row at h1
    rw [h1, show l.set k v = l from List.ext_getElem? fun i => by
      rw [List.getElem?_set]
      split
      · rename_i e; subst e; rw [hk]; split <;> simp_all
      · rfl]
    exact h.symm
  · exact Below.heap_setCell _ _ _ _ hjg
theorem Gives.storeSame {P : Program} {S : World → Prop} {o : Oper} {a : Act} (ty : TypeId) (x y : Operand) (ho : o.op = .store ty x y) (p : Addr) (hx : a.eval x = .pointer (some p)) (v : Value) (hy : a.eval y = v)
    (hi : ∀ w, S w → (Instr.storeAt ty (.pointer (some p)) v).run P w = .ok () (w.setCell p v) ∧ Below w.heap.size w (w.setCell p v)) : Gives P S o undef a := fun w hS K hK => by
  obtain ⟨h1, h2⟩ := hi w hS
  unfold Oper.wp execOp
  simp only [ho, hx, hy, Sem.run_bind, h1, Result.andThen_ok, Sem.run_pure]
  exact hK _ h2
theorem ld_u64s {a : Addr} {v : Value} {w : World} (h : w.cell? a = some v) : (Instr.loadAt 25 (.pointer (some a))).run Tryz.prog w = .ok v w := by go_simp
theorem st_strsP {a : Addr} {v : Value} {w : World} (h : w.cell? a = some v) (hf : w.frozen? a = false) : (Instr.storeAt 24 (.pointer (some a)) (.slice none 0 0)).run Tryz.prog w = .ok () (w.setCell a (.slice none 0 0)) := by go_simp
theorem st_u64s {a : Addr} {v : Value} {w : World} (h : w.cell? a = some v) (hf : w.frozen? a = false) : (Instr.storeAt 25 (.pointer (some a)) (.slice none 0 0)).run Tryz.prog w = .ok () (w.setCell a (.slice none 0 0)) := by go_simp
theorem st_valsP {a : Addr} {v : Value} {w : World} (h : w.cell? a = some v) (hf : w.frozen? a = false) : (Instr.storeAt 26 (.pointer (some a)) (.slice none 0 0)).run Tryz.prog w = .ok () (w.setCell a (.slice none 0 0)) := by go_simp
theorem cl_str (w : World) : Calls Tryz.prog 68 #[.slice none 0 0] w fun e w' => e = .returned (.slice none 0 0) ∧ Below w.heap.size w w' := by
  have qT : ∀ (w : World) (a : Option Addr) (n c n' c' : Nat), (binOp .eql 24 (.slice a n c) (.slice none n' c')).run Tryz.prog w = .ok (.bool a.isNone) w := fun w a n c n' c' => Lib.run_eql_slice_nil w _ _ a n c n' c' Tryz.underlying24
  go_enter Tryz.func68, Tryz.ntmps68
  go_wp2_with fail
  go_ret
  exact ⟨rfl, Below.refl _ _⟩
theorem cl_u64 (w : World) : Calls Tryz.prog 69 #[.slice none 0 0] w fun e w' => e = .returned (.slice none 0 0) ∧ Below w.heap.size w w' := by
  have qT : ∀ (w : World) (a : Option Addr) (n c n' c' : Nat), (binOp .eql 25 (.slice a n c) (.slice none n' c')).run Tryz.prog w = .ok (.bool a.isNone) w := fun w a n c n' c' => Lib.run_eql_slice_nil w _ _ a n c n' c' Tryz.underlying25
  go_enter Tryz.func69, Tryz.ntmps69
  go_wp2_with fail
  go_ret
  exact ⟨rfl, Below.refl _ _⟩
theorem cl_val (w : World) : Calls Tryz.prog 70 #[.slice none 0 0] w fun e w' => e = .returned (.slice none 0 0) ∧ Below w.heap.size w w' := by
  have qT : ∀ (w : World) (a : Option Addr) (n c n' c' : Nat), (binOp .eql 26 (.slice a n c) (.slice none n' c')).run Tryz.prog w = .ok (.bool a.isNone) w := fun w a n c n' c' => Lib.run_eql_slice_nil w _ _ a n c n' c' Tryz.underlying26
  go_enter Tryz.func70, Tryz.ntmps70
  go_wp2_with fail
  go_ret
  exact ⟨rfl, Below.refl _ _⟩
set_option maxHeartbeats 1600000 in
theorem own_leaf (g : Nat) (K N S : Value) (w : World) (h : Row w g 28 (leafC K N S)) :
    Calls Tryz.prog 67 #[.pointer (some ⟨g, 0, none⟩)] w fun e w' => e = .returned (.tuple #[]) ∧ Below w.heap.size w w' := by
  have HR := Lib.hid (fun (w' : World) (hb : Below w.heap.size w w') => h.belowAll hb)
  clear h
  go_enter Tryz.func67, Tryz.ntmps67
  go_wp2_with fail
  refine wp_flat_none (aD := ?aD) (S := fun w' => Below w.heap.size w w') (vs := [(0, .pointer (some ⟨g, 0, none⟩)), (1, .pointer (some ⟨g, 0, none⟩)), (2, .pointer (some ⟨g, 0, none⟩)), (3, .pointer (some ⟨g, 0, none⟩)), (4, .pointer (some ⟨g, 0, none⟩)), (5, .pointer (some ⟨g, 3, none⟩)), (6, .slice none 0 0), (7, .slice none 0 0), (8, .pointer (some ⟨g, 0, none⟩)), (9, .pointer (some ⟨g, 0, none⟩)), (10, .pointer (some ⟨g, 4, none⟩)), (11, .slice none 0 0), (12, .slice none 0 0), (13, .pointer (some ⟨g, 0, none⟩)), (14, .pointer (some ⟨g, 0, none⟩)), (15, .pointer (some ⟨g, 5, none⟩)), (16, .slice none 0 0), (17, .slice none 0 0), (18, .pointer (some ⟨g, 0, none⟩)), (19, .pointer (some ⟨g, 3, none⟩)), (20, undef), (21, .pointer (some ⟨g, 0, none⟩)), (22, .pointer (some ⟨g, 4, none⟩)), (23, undef), (24, .pointer (some ⟨g, 0, none⟩)), (25, .pointer (some ⟨g, 5, none⟩)), (26, undef)]) (by kernel_rfl) ((Below.refl _ _).drew) (fun _ _ h k => S_trans h k) ?hD ?hk ?h
  case hD =>
    refine .step (some 2) rfl rfl (by kernel_rfl) (Gives.move rfl rfl) ?_
    simp only [Act.put, List.setIfInBounds_toArray, List.set_cons_zero, List.set_cons_succ]
    refine .step (some 3) rfl rfl (by kernel_rfl) (Gives.move rfl rfl) ?_
    simp only [Act.put, List.setIfInBounds_toArray, List.set_cons_zero, List.set_cons_succ]
    refine .step (some 4) rfl rfl (by kernel_rfl) (Gives.move rfl rfl) ?_
    simp only [Act.put, List.setIfInBounds_toArray, List.set_cons_zero, List.set_cons_succ]
    refine .step (some 5) rfl rfl (by kernel_rfl) (Gives.move rfl rfl) ?_
    simp only [Act.put, List.setIfInBounds_toArray, List.set_cons_zero, List.set_cons_succ]
    refine .step (some 6) rfl rfl (by kernel_rfl) (Gives.nil (.tmp 5) rfl _ rfl) ?_
    simp only [Act.put, List.setIfInBounds_toArray, List.set_cons_zero, List.set_cons_succ]
    refine .step (some 7) rfl rfl (by kernel_rfl) (Gives.fieldAt 28 (.tmp 6) 3 rfl _ _ rfl (fun w' => fa_v g 3 w')) ?_
    simp only [Act.put, List.setIfInBounds_toArray, List.set_cons_zero, List.set_cons_succ]
    refine .step (some 8) rfl rfl (by kernel_rfl) (Gives.load 24 (.tmp 7) rfl _ _ rfl (fun w' h => ldp_strs ((HR.out w' h).cell (k := 3) rfl))) ?_
    simp only [Act.put, List.setIfInBounds_toArray, List.set_cons_zero, List.set_cons_succ]
    refine .step (some 9) rfl rfl (by kernel_rfl) (Gives.call (args := [.slice none 0 0]) rfl Tryz.func68 (by kernel_rfl) (by kernel_rfl) rfl (fun w' h => cl_str w')) ?_
    simp only [Act.put, List.setIfInBounds_toArray, List.set_cons_zero, List.set_cons_succ]
    refine .step (some 10) rfl rfl (by kernel_rfl) (Gives.move rfl rfl) ?_
    simp only [Act.put, List.setIfInBounds_toArray, List.set_cons_zero, List.set_cons_succ]
    refine .step (some 11) rfl rfl (by kernel_rfl) (Gives.nil (.tmp 10) rfl _ rfl) ?_
    simp only [Act.put, List.setIfInBounds_toArray, List.set_cons_zero, List.set_cons_succ]
    refine .step (some 12) rfl rfl (by kernel_rfl) (Gives.fieldAt 28 (.tmp 11) 4 rfl _ _ rfl (fun w' => fa_v g 4 w')) ?_
    simp only [Act.put, List.setIfInBounds_toArray, List.set_cons_zero, List.set_cons_succ]
    refine .step (some 13) rfl rfl (by kernel_rfl) (Gives.load 25 (.tmp 12) rfl _ _ rfl (fun w' h => ld_u64s ((HR.out w' h).cell (k := 4) rfl))) ?_
    simp only [Act.put, List.setIfInBounds_toArray, List.set_cons_zero, List.set_cons_succ]
    refine .step (some 14) rfl rfl (by kernel_rfl) (Gives.call (args := [.slice none 0 0]) rfl Tryz.func69 (by kernel_rfl) (by kernel_rfl) rfl (fun w' h => cl_u64 w')) ?_
    simp only [Act.put, List.setIfInBounds_toArray, List.set_cons_zero, List.set_cons_succ]
    refine .step (some 15) rfl rfl (by kernel_rfl) (Gives.move rfl rfl) ?_
    simp only [Act.put, List.setIfInBounds_toArray, List.set_cons_zero, List.set_cons_succ]
    refine .step (some 16) rfl rfl (by kernel_rfl) (Gives.nil (.tmp 15) rfl _ rfl) ?_
    simp only [Act.put, List.setIfInBounds_toArray, List.set_cons_zero, List.set_cons_succ]
    refine .step (some 17) rfl rfl (by kernel_rfl) (Gives.fieldAt 28 (.tmp 16) 5 rfl _ _ rfl (fun w' => fa_v g 5 w')) ?_
    simp only [Act.put, List.setIfInBounds_toArray, List.set_cons_zero, List.set_cons_succ]
    refine .step (some 18) rfl rfl (by kernel_rfl) (Gives.load 26 (.tmp 17) rfl _ _ rfl (fun w' h => ldp_vals ((HR.out w' h).cell (k := 5) rfl))) ?_
    simp only [Act.put, List.setIfInBounds_toArray, List.set_cons_zero, List.set_cons_succ]
    refine .step (some 19) rfl rfl (by kernel_rfl) (Gives.call (args := [.slice none 0 0]) rfl Tryz.func70 (by kernel_rfl) (by kernel_rfl) rfl (fun w' h => cl_val w')) ?_
    simp only [Act.put, List.setIfInBounds_toArray, List.set_cons_zero, List.set_cons_succ]
    refine .step (some 20) rfl rfl (by kernel_rfl) (Gives.nil (.tmp 2) rfl _ rfl) ?_
    simp only [Act.put, List.setIfInBounds_toArray, List.set_cons_zero, List.set_cons_succ]
    refine .step (some 21) rfl rfl (by kernel_rfl) (Gives.fieldAt 28 (.tmp 20) 3 rfl _ _ rfl (fun w' => fa_v g 3 w')) ?_
    simp only [Act.put, List.setIfInBounds_toArray, List.set_cons_zero, List.set_cons_succ]
    refine .step (none) rfl rfl (by kernel_rfl) (Gives.storeSame 24 (.tmp 21) (.tmp 9) rfl ⟨g, 3, none⟩ rfl (.slice none 0 0) rfl (fun w' h => ⟨st_strsP ((HR.out w' h).cell (k := 3) rfl) ((HR.out w' h).free 3), below_same (HR.out w' h) (k := 3) rfl⟩)) ?_
    simp only [Act.put, List.setIfInBounds_toArray, List.set_cons_zero, List.set_cons_succ]
    refine .step (some 22) rfl rfl (by kernel_rfl) (Gives.nil (.tmp 3) rfl _ rfl) ?_
    simp only [Act.put, List.setIfInBounds_toArray, List.set_cons_zero, List.set_cons_succ]
    refine .step (some 23) rfl rfl (by kernel_rfl) (Gives.fieldAt 28 (.tmp 22) 4 rfl _ _ rfl (fun w' => fa_v g 4 w')) ?_
    simp only [Act.put, List.setIfInBounds_toArray, List.set_cons_zero, List.set_cons_succ]
    refine .step (none) rfl rfl (by kernel_rfl) (Gives.storeSame 25 (.tmp 23) (.tmp 14) rfl ⟨g, 4, none⟩ rfl (.slice none 0 0) rfl (fun w' h => ⟨st_u64s ((HR.out w' h).cell (k := 4) rfl) ((HR.out w' h).free 4), below_same (HR.out w' h) (k := 4) rfl⟩)) ?_
    simp only [Act.put, List.setIfInBounds_toArray, List.set_cons_zero, List.set_cons_succ]
    refine .step (some 24) rfl rfl (by kernel_rfl) (Gives.nil (.tmp 4) rfl _ rfl) ?_
    simp only [Act.put, List.setIfInBounds_toArray, List.set_cons_zero, List.set_cons_succ]
    refine .step (some 25) rfl rfl (by kernel_rfl) (Gives.fieldAt 28 (.tmp 24) 5 rfl _ _ rfl (fun w' => fa_v g 5 w')) ?_
    simp only [Act.put, List.setIfInBounds_toArray, List.set_cons_zero, List.set_cons_succ]
    refine .step (none) rfl rfl (by kernel_rfl) (Gives.storeSame 26 (.tmp 25) (.tmp 19) rfl ⟨g, 5, none⟩ rfl (.slice none 0 0) rfl (fun w' h => ⟨st_valsP ((HR.out w' h).cell (k := 5) rfl) ((HR.out w' h).free 5), below_same (HR.out w' h) (k := 5) rfl⟩)) ?_
    simp only [Act.put, List.setIfInBounds_toArray, List.set_cons_zero, List.set_cons_succ]
    exact .nil
  case hk => kernel_rfl
  case h =>
  intro W2 hb
  have HB := Lib.hid hb
  clear hb
  go_wp2_with fail
  go_end0
  exact ⟨rfl, HB.out⟩
theorem copyc_leaf (g f d : Nat) (K N S : Value) (w : World) (h : Row w g 28 (leafC K N S)) (hf : w.cell? ⟨f, 0, none⟩ = some (.func (.func 67) #[] #[])) :
    Calls Tryz.prog 102 #[.pointer (some ⟨g, 0, none⟩), .int .i64 d, .pointer (some ⟨f, 0, none⟩)] w fun e w' => e = .returned (.tuple #[]) ∧ Below w.heap.size w w' := by
  have HO := Lib.hid (own_leaf g K N S w h)
  clear h
  go_enter Tryz.func102, Tryz.ntmps102
  go_wp2_with fail
  refine HO.out.mono ?_
  rintro e W1 ⟨rfl, hb⟩
  have HB := Lib.hid hb
  clear hb
  go_wp2_with fail
  go_end0
  exact ⟨rfl, HB.out⟩
end

section
set_option maxRecDepth 100000
set_option linter.unusedSimpArgs false
set_option linter.unusedVariables false
open Go.RowKit

set_option maxHeartbeats 1600000 in
theorem walkc_leaf (g f : Nat) (K N S : Value) (w : World) (h : Row w g 28 (leafC K N S)) (hf : w.cell? ⟨f, 0, none⟩ = some (.func (.func 67) #[] #[])) :
    Calls Tryz.prog 101 #[.pointer (some ⟨g, 0, none⟩), .func (.func 66) #[] #[], .func (.func 102) #[] #[.pointer (some ⟨f, 0, none⟩)]] w fun e w' => e = .returned (.bool true) ∧ Below w.heap.size w w' := by
  have HV := Lib.hid (copyc_leaf g f 1 K N S w h hf)
  have HR := Lib.hid h
  have HP := Lib.hid (parts_any g (.slice none 0 0))
  clear h hf
  go_enter Tryz.func101, Tryz.ntmps101
  go_wp2_with fail
  refine HV.out.mono ?_
  rintro e W1 ⟨rfl, hb⟩
  have hr1 := HR.out.belowAll hb
  have HRN := Lib.hid (Row.new W1 [.pointer (some ⟨g, 0, none⟩), .int .i64 0] 194)
  have HB0 := Lib.hid (hb.trans ((below_new W1 (.cells #[.pointer (some ⟨g, 0, none⟩), .int .i64 0] 194)).mono hb.size))
  have H5 := Lib.hid ((hr1.alloc (.cells #[.pointer (some ⟨g, 0, none⟩), .int .i64 0] 194)).cell (k := 5) rfl)
  clear hb hr1
  go_wp2_with fail
  go_loopw [7, 8, 9, 10] (fun v _ _ _ wr => ∃ n : Nat, n ≤ 1 ∧ v = .slice (some ⟨W1.heap.size, 0, none⟩) n 1 ∧ wr = W1.alloc (.cells #[.pointer (some ⟨g, 0, none⟩), .int .i64 0] 194)) (fun v _ _ _ _ => lenS v)
  case atStart => exact ⟨1, Nat.le_refl _, rfl, rfl⟩
  case round =>
    obtain ⟨n, hn, rfl, rfl⟩ := hrel
    by_cases h0 : n = 0
    · subst h0
      go_wp2_with fail
      go_ret
      exact ⟨rfl, HB0.out⟩
    · obtain rfl : n = 1 := by omega
      have HPP := Lib.hid (HP.out _ H5.out)
      have c0 := HRN.out.cell (k := 0) rfl
      have c1 := HRN.out.cell (k := 1) rfl
      go_wp2_with fail
      refine HPP.out.mono ?_
      rintro e W2 ⟨rfl, rfl⟩
      go_wp2_with fail
      go_roundw
      case rel => exact ⟨0, by omega, by first | rfl | trivial, by first | rfl | trivial⟩
      case measure => simp [lenS]
theorem ends_leaf (K N S : Value) (w : World) :
    Calls Tryz.prog 100 #[.agg #[K, N, S, .slice none 0 0, .slice none 0 0, .slice none 0 0], .func (.func 66) #[] #[]] w fun e w' => e = .returned (.bool true) ∧ Below w.heap.size w w' := by
  have HW := Lib.hid (walke_leaf w.heap.size (w.alloc (.cells #[K, N, S, .slice none 0 0, .slice none 0 0, .slice none 0 0] 28)) ((Row.new w (leafC K N S) 28).cell (k := 5) rfl))
  go_enter Tryz.func100, Tryz.ntmps100
  go_wp2_with fail
  refine HW.out.mono ?_
  rintro e W1 ⟨rfl, hb⟩
  have HB := Lib.hid (below_then hb)
  clear hb
  go_wp2_with fail
  go_ret
  exact ⟨rfl, HB.out⟩
theorem below_then2 {w w' : World} {o p : Obj} (h : Below ((w.alloc o).alloc p).heap.size ((w.alloc o).alloc p) w') : Below w.heap.size w w' := below_then (below_then h)
theorem below_then3 {w w' : World} {o p q : Obj} (h : Below (((w.alloc o).alloc p).alloc q).heap.size (((w.alloc o).alloc p).alloc q) w') : Below w.heap.size w w' := below_then (below_then (below_then h))
theorem leaf_one (k n : Int) (s : ByteArray) : (#[Value.int .i64 k, Value.int .i64 n, Value.string s, .slice none 0 0, .slice none 0 0, .slice none 0 0].all fun x : Value => x.oneCell') = true := by simp [Value.oneCell']
theorem v_info6 (a b c d e f : Value) : (Tryz.prog.info? 28).map (·.size) = some (#[a, b, c, d, e, f] : Array Value).size := v_size
set_option maxHeartbeats 1600000 in
theorem tcopy_leaf (k n : Int) (s : ByteArray) (w : World) :
    Calls Tryz.prog 65 #[.agg #[.int .i64 k, .int .i64 n, .string s, .slice none 0 0, .slice none 0 0, .slice none 0 0], .func (.func 66) #[] #[], .func (.func 67) #[] #[]] w fun e w' => e = .returned (.agg #[.int .i64 k, .int .i64 n, .string s, .slice none 0 0, .slice none 0 0, .slice none 0 0]) ∧ Below w.heap.size w w' := by
  have HE := Lib.hid (ends_leaf (.int .i64 k) (.int .i64 n) (.string s))
  have r3 := ((Row.new w (leafC (.int .i64 k) (.int .i64 n) (.string s)) 28).alloc (.cells #[.func (.func 67) #[] #[]] 77)).alloc (.cells #[.int .i64 0, .int .i64 0, .string { data := #[] }, .slice none 0 0, .slice none 0 0, .slice none 0 0] 28)
  have rf := (Row.new1 w (.cells (leafC (.int .i64 k) (.int .i64 n) (.string s)).toArray 28) [.func (.func 67) #[] #[]] 77).alloc (.cells #[.int .i64 0, .int .i64 0, .string { data := #[] }, .slice none 0 0, .slice none 0 0, .slice none 0 0] 28)
  have r6 := Row.new2 w (.cells (leafC (.int .i64 k) (.int .i64 n) (.string s)).toArray 28) (.cells #[.func (.func 67) #[] #[]] 77) (leafC (.int .i64 0) (.int .i64 0) (.string { data := #[] })) 28
  have HB0 := Lib.hid (Below.alloc3 w (.cells (leafC (.int .i64 k) (.int .i64 n) (.string s)).toArray 28) (.cells #[.func (.func 67) #[] #[]] 77) (.cells (leafC (.int .i64 0) (.int .i64 0) (.string { data := #[] })).toArray 28))
  have R3 := Lib.hid r3
  have RF := Lib.hid rf
  have R6 := Lib.hid r6
  clear r3 rf r6
  go_enter Tryz.func65, Tryz.ntmps65
  go_wp2_with fail
  refine (HE.out _).mono ?_
  rintro e W1 ⟨rfl, hb⟩
  have hb1 := HB0.out.trans (hb.mono HB0.out.size)
  have r3 := R3.out.belowAll hb
  have rf := RF.out.belowAll hb
  have r6 := R6.out.belowAll hb
  have HWK := Lib.hid (walkc_leaf w.heap.size (w.heap.size + 1) _ _ _ W1 r3 (rf.cell (k := 0) rfl))
  have R3' := Lib.hid r3
  have R6' := Lib.hid r6
  have HB1 := Lib.hid hb1
  clear hb hb1 r3 rf r6
  go_wp2_with fail
  refine HWK.out.mono ?_
  rintro e W2 ⟨rfl, hb⟩
  have R3'' := Lib.hid (R3'.out.belowAll hb)
  have R6'' := Lib.hid (R6'.out.belowAll hb)
  have HB2 := Lib.hid (HB1.out.trans (hb.mono HB1.out.size))
  clear hb
  go_wp2_with (first
    | (refine wpList_loadr rfl 28 (.tmp 3) rfl _ _ rfl (ld_val _ rfl R3''.out.cells) ?_)
    | (refine wpList_store_row rfl 28 (.tmp 6) (.tmp 16) rfl (w.heap.size + 1 + 1) #[.int .i64 k, .int .i64 n, .string s, .slice none 0 0, .slice none 0 0, .slice none 0 0] rfl rfl 28 _ R6''.out (v_info6 _ _ _ _ _ _) rfl (leaf_one _ _ _) ?_))
  have hgot : (W2.setRow (w.heap.size + 1 + 1) #[.int .i64 k, .int .i64 n, .string s, .slice none 0 0, .slice none 0 0, .slice none 0 0]).heap[w.heap.size + 1 + 1]? = some (.cells #[.int .i64 k, .int .i64 n, .string s, .slice none 0 0, .slice none 0 0, .slice none 0 0] 28 (0, 0)) := setRow_heap W2 _ _ _ _ _ R6''.out
  (try simp only [Exit.inBlock, Exit.then])
  refine bodyPost_ret (results_cell_row (by rfl) _ _ (w.heap.size + 1 + 1) _ _ _ _ (by rfl) hgot Tryz.underlying28 rfl (v_info6 _ _ _ _ _ _)) rfl ?_
  exact ⟨rfl, below_setRow HB2.out (by omega) _⟩
set_option maxHeartbeats 1600000 in
theorem vcopy_leaf (k n : Int) (s : ByteArray) (w : World) :
    Calls Tryz.prog 31 #[.agg #[.int .i64 k, .int .i64 n, .string s, .slice none 0 0, .slice none 0 0, .slice none 0 0]] w fun e w' => e = .returned (.agg #[.int .i64 k, .int .i64 n, .string s, .slice none 0 0, .slice none 0 0, .slice none 0 0]) ∧ Below w.heap.size w w' := by
  have HC := Lib.hid (tcopy_leaf k n s)
  have R2 := Lib.hid (Row.new1 w (.cells (leafC (.int .i64 k) (.int .i64 n) (.string s)).toArray 28) (leafC (.int .i64 0) (.int .i64 0) (.string { data := #[] })) 28)
  have HB0 := Lib.hid (Below.alloc2 w (.cells (leafC (.int .i64 k) (.int .i64 n) (.string s)).toArray 28) (.cells (leafC (.int .i64 0) (.int .i64 0) (.string { data := #[] })).toArray 28))
  go_enter Tryz.func31, Tryz.ntmps31
  go_wp2_with fail
  refine (HC.out _).mono ?_
  rintro e W1 ⟨rfl, hb⟩
  have R2' := Lib.hid (R2.out.belowAll hb)
  have HB1 := Lib.hid (HB0.out.trans (hb.mono HB0.out.size))
  clear hb
  go_wp2_with (refine wpList_store_row rfl 28 (.tmp 2) (.tmp 4) rfl (w.heap.size + 1) #[.int .i64 k, .int .i64 n, .string s, .slice none 0 0, .slice none 0 0, .slice none 0 0] rfl rfl 28 _ R2'.out (v_info6 _ _ _ _ _ _) rfl (leaf_one _ _ _) ?_)
  have hgot : (W1.setRow (w.heap.size + 1) #[.int .i64 k, .int .i64 n, .string s, .slice none 0 0, .slice none 0 0, .slice none 0 0]).heap[w.heap.size + 1]? = some (.cells #[.int .i64 k, .int .i64 n, .string s, .slice none 0 0, .slice none 0 0, .slice none 0 0] 28 (0, 0)) := setRow_heap W1 _ _ _ _ _ R2'.out
  (try simp only [Exit.inBlock, Exit.then])
  refine bodyPost_ret (results_cell_row (by rfl) _ _ (w.heap.size + 1) _ _ _ _ (by rfl) hgot Tryz.underlying28 rfl (v_info6 _ _ _ _ _ _)) rfl ?_
  exact ⟨rfl, below_setRow HB1.out (by omega) _⟩
end

end Go.Proofs.YtmiadkhfjkaidaaGreatDoor
