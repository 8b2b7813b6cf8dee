/- Where a step leads, at one field and at one element: Find, Part of fields; Elem; place.Part. -/
import Derived.Test.YtpegkalhjnldkaaSr
import Derived.Test.YtpegkalhjnldkaaPw
import Derived.Test.YtpegkalhjnldkaaTk
namespace Go.Proofs.Ytpegkalhjnldkaa
set_option maxRecDepth 100000
set_option linter.unusedSimpArgs false
set_option linter.unusedVariables false
open Go.RowKit

theorem findc_any (s x : ByteArray) (g : Nat) (w : World) (hg : w.cell? ⟨g, 0, none⟩ = some (.string s)) :
    Calls Try.prog 76 #[.string x, .pointer (some ⟨g, 0, none⟩)] w fun e w' => e = .returned (.bool (eqS x s)) ∧ w' = w := by
  go_enter Try.func76, Try.ntmps76
  go_wp2_with fail
  go_ret
  exact ⟨rfl, rfl⟩
theorem eqS_self (s : ByteArray) : eqS s s = true := by unfold eqS; exact beq_self_eq_true _
set_option maxHeartbeats 800000 in
theorem ifind_one (a g c : Nat) (s : ByteArray) (w : World) (ha : w.cell? ⟨a, 0, none⟩ = some (.string s)) (hg : w.cell? ⟨g, 0, none⟩ = some (.string s)) :
    Calls Try.prog 69 #[.slice (some ⟨a, 0, none⟩) 1 c, .func (.func 76) #[] #[.pointer (some ⟨g, 0, none⟩)]] w fun e w' => e = .returned (.int .i64 0) ∧ w' = w := by
  have hc := findc_any s s g w hg
  rw [eqS_self] at hc
  have HC := Lib.hid hc
  clear hc hg
  go_enter Try.func69, Try.ntmps69
  go_wp2_with fail
  go_loopw [8] (fun i wr => i = .int .i64 0 ∧ wr = w) (fun i _ => 0)
  case atStart => exact ⟨rfl, rfl⟩
  case round =>
    obtain ⟨rfl, rfl⟩ := hrel
    go_wp2_with fail
    refine HC.out.mono ?_
    rintro e W1 ⟨rfl, rfl⟩
    go_wp2_with fail
    go_ret
    exact ⟨rfl, rfl⟩
theorem find_one (a c : Nat) (s : ByteArray) (w : World) (ha : w.cell? ⟨a, 0, none⟩ = some (.string s)) :
    Calls Try.prog 70 #[.slice (some ⟨a, 0, none⟩) 1 c, .string s] w fun e w' => e = .returned (.int .i64 0) ∧ Below w.heap.size w w' := by
  have hlt : a < w.heap.size := lt_of_cell ha
  have HC := Lib.hid (ifind_one a w.heap.size c s (w.alloc (.cells #[.string s] 9)) ((Below.cell (below_new w _) hlt).trans ha) ((Row.new w [.string s] 9).cell (k := 0) rfl))
  clear ha
  go_enter Try.func70, Try.ntmps70
  go_wp2_with fail
  refine HC.out.mono ?_
  rintro e W1 ⟨rfl, rfl⟩
  go_wp2_with fail
  go_ret
  exact ⟨rfl, below_new _ _⟩
theorem fpart_one (a c p c2 : Nat) (s : ByteArray) (w : World) (ha : w.cell? ⟨a, 0, none⟩ = some (.string s)) :
    Calls Try.prog 57 #[.slice (some ⟨a, 0, none⟩) 1 c, .slice (some ⟨p, 0, none⟩) 1 c2, .string s] w fun e w' => e = .returned (.pointer (some ⟨p, 0, none⟩)) ∧ Below w.heap.size w w' := by
  have HC := Lib.hid (find_one a c s w ha)
  clear ha
  go_enter Try.func57, Try.ntmps57
  go_wp2_with fail
  refine HC.out.mono ?_
  rintro e W1 ⟨rfl, hb⟩
  have HB := Lib.hid hb
  clear hb
  go_wp2_with fail
  go_ret
  exact ⟨rfl, HB.out⟩
theorem elem_one (b c : Nat) (id : Int) (N : Value) (S : Value) (X P : Value) (w : World) (hb : w.cell? ⟨b, 0, none⟩ = some (.int .u64 id)) :
    Calls Try.prog 58 #[.agg #[.int .i64 6, N, S, X, .slice (some ⟨b, 0, none⟩) 1 c, P], .int .u64 id] w fun e w' => e = .returned (.tuple #[.int .i64 0, .bool true]) ∧ Below w.heap.size w w' := by
  have hlt : b < w.heap.size := lt_of_cell hb
  have hn : Nums (w.alloc (.cells #[.int .i64 6, N, S, X, .slice (some ⟨b, 0, none⟩) 1 c, P] 37)) (some ⟨b, 0, none⟩) 1 [id] := by
    refine ⟨rfl, fun _ => ⟨⟨b, 0, none⟩, rfl, trivial, by simp; omega, fun j u hj => ?_⟩⟩
    match j, hj with
    | 0, hj =>
      simp at hj
      subst hj
      exact (Below.cell (p := (⟨b, 0, none⟩ : Addr).add 0) (below_new w _) hlt).trans hb
  have hi := index_any (some ⟨b, 0, none⟩) 1 c [id] id (by omega) _ hn
  have HI := Lib.hid hi
  clear hb hn hi
  go_enter Try.func58, Try.ntmps58
  go_wp2_with fail
  refine HI.out.mono ?_
  rintro e W1 ⟨⟨r, rfl, hr⟩, rfl⟩
  obtain rfl : r = 0 := by
    rcases hr with ⟨_, h⟩ | ⟨i, hi, rfl, _, _⟩
    · have := h 0 (by omega)
      simp at this
    · omega
  clear hr
  go_wp2_with fail
  go_ret2
  exact ⟨rfl, below_new _ _⟩

theorem Gives.nil {P : Program} {S : World → Prop} {o : Oper} {a : Act} (x : Operand) (ho : o.op = .nilCheck x) (ad : Addr) (hx : a.eval x = .pointer (some ad)) : Gives P S o (.pointer (some ad)) a :=
  Gives.run fun w _ => by
    unfold execOp
    simp only [ho, hx]
    rfl
theorem ldp_strs {a : Addr} {v : Value} {w : World} (h : w.cell? a = some v) : (Instr.loadAt 26 (.pointer (some a))).run Try.prog w = .ok v w := by go_simp
theorem ldp_str {a : Addr} {v : Value} {w : World} (h : w.cell? a = some v) : (Instr.loadAt 9 (.pointer (some a))).run Try.prog w = .ok v w := by go_simp
theorem ldp_vals {a : Addr} {v : Value} {w : World} (h : w.cell? a = some v) : (Instr.loadAt 35 (.pointer (some a))).run Try.prog w = .ok v w := by go_simp
theorem ld_u64 {a : Addr} {v : Value} {w : World} (h : w.cell? a = some v) : (Instr.loadAt 39 (.pointer (some a))).run Try.prog w = .ok v w := by go_simp
theorem fa_v (g k : Nat) (w : World) (hk : k < 6 := by omega) : (Instr.fieldAt 37 (.pointer (some ⟨g, 0, none⟩)) k).run Try.prog w = .ok (.pointer (some ⟨g, k, none⟩)) w := by
  match k, hk with
  | 0, _ => go_simp
  | 1, _ => go_simp
  | 2, _ => go_simp
  | 3, _ => go_simp
  | 4, _ => go_simp
  | 5, _ => go_simp
theorem fa_st (g k : Nat) (w : World) (hk : k < 2 := by omega) : (Instr.fieldAt 69 (.pointer (some ⟨g, 0, none⟩)) k).run Try.prog w = .ok (.pointer (some ⟨g, k, none⟩)) w := by
  match k, hk with
  | 0, _ => go_simp
  | 1, _ => go_simp
set_option maxHeartbeats 1600000 in
theorem spart_rec (g a c p c2 : Nat) (s : ByteArray) (i : Int) (hs : s.size ≠ 0) (w : World) (h0 : w.cell? ⟨g, 0, none⟩ = some (.int .i64 5)) (h3 : w.cell? ⟨g, 3, none⟩ = some (.slice (some ⟨a, 0, none⟩) 1 c))
    (h5 : w.cell? ⟨g, 5, none⟩ = some (.slice (some ⟨p, 0, none⟩) 1 c2)) (ha : w.cell? ⟨a, 0, none⟩ = some (.string s)) :
    Calls Try.prog 39 #[.pointer (some ⟨g, 0, none⟩), .agg #[.string s, .int .u64 i]] w fun e w' => e = .returned (.pointer (some ⟨p, 0, none⟩)) ∧ Below w.heap.size w w' := by
  have hne := toList_ne hs
  have hne2 := isEmpty_ne hs
  have hne3 : (s.toList == []) = false := beq_eq_false_iff_ne.2 hne
  have hne4 : (s.toList != []) = true := bne_iff_ne.2 hne
  have l0 := lt_of_cell h0
  have l3 := lt_of_cell h3
  have l5 := lt_of_cell h5
  have la := lt_of_cell ha
  have hbn := below_new w (.cells #[.string s, .int .u64 i] 69)
  have hst := (Row.new w [.string s, .int .u64 i] 69).cell (k := 0) rfl
  have hltn : w.heap.size < (w.alloc (.cells #[.string s, .int .u64 i] 69)).heap.size := by simp
  have HK := Lib.hid (fun (w' : World) (h : Below (w.alloc (.cells #[.string s, .int .u64 i] 69)).heap.size (w.alloc (.cells #[.string s, .int .u64 i] 69)) w') => (⟨(h.cell (Nat.lt_of_lt_of_le l0 hbn.size)).trans ((hbn.cell l0).trans h0), (h.cell (Nat.lt_of_lt_of_le l3 hbn.size)).trans ((hbn.cell l3).trans h3), (h.cell (Nat.lt_of_lt_of_le l5 hbn.size)).trans ((hbn.cell l5).trans h5), (h.cell (p := ⟨w.heap.size, 0, none⟩) hltn).trans hst, (h.cell (Nat.lt_of_lt_of_le la hbn.size)).trans ((hbn.cell la).trans ha)⟩ : w'.cell? ⟨g, 0, none⟩ = some (.int .i64 5) ∧ w'.cell? ⟨g, 3, none⟩ = some (.slice (some ⟨a, 0, none⟩) 1 c) ∧ w'.cell? ⟨g, 5, none⟩ = some (.slice (some ⟨p, 0, none⟩) 1 c2) ∧ w'.cell? ⟨w.heap.size, 0, none⟩ = some (.string s) ∧ w'.cell? ⟨a, 0, none⟩ = some (.string s)))
  have g0 := (HK.out (w.alloc (.cells #[.string s, .int .u64 i] 69)) (Below.refl _ _)).1
  have g1 := (HK.out (w.alloc (.cells #[.string s, .int .u64 i] 69)) (Below.refl _ _)).2.2.2.1
  have HBN := Lib.hid hbn
  clear h0 h3 h5 ha hbn hst l0 l3 l5 la
  go_enter Try.func39, Try.ntmps39
  go_wp2_with fail
  generalize w.alloc (.cells #[.string s, .int .u64 i] 69) = W1 at *
  refine wp_flat_none (aD := ?aD) (S := fun w' => Below W1.heap.size W1 w') (vs := [(0, .pointer (some ⟨g, 0, none⟩)), (1, .pointer (some ⟨g, 0, none⟩)), (2, .pointer (some ⟨g, 3, none⟩)), (3, .slice (some ⟨a, 0, none⟩) 1 c), (4, .pointer (some ⟨g, 0, none⟩)), (5, .pointer (some ⟨g, 0, none⟩)), (6, .pointer (some ⟨g, 5, none⟩)), (7, .slice (some ⟨p, 0, none⟩) 1 c2), (8, .pointer (some ⟨w.heap.size, 0, none⟩)), (9, .string s), (10, .pointer (some ⟨p, 0, none⟩)), (11, .pointer (some ⟨p, 0, none⟩))]) (by kernel_rfl) ((Below.refl _ _).drew) (fun _ _ h k => S_trans h k) ?hD ?hk ?h
  case hD =>
    refine .step (some 17) rfl rfl (by kernel_rfl) (Gives.move rfl rfl) ?_
    simp only [Act.put, List.setIfInBounds_toArray, List.set_cons_zero, List.set_cons_succ]
    refine .step (some 18) rfl rfl (by kernel_rfl) (Gives.nil (.tmp 17) rfl _ rfl) ?_
    simp only [Act.put, List.setIfInBounds_toArray, List.set_cons_zero, List.set_cons_succ]
    refine .step (some 19) rfl rfl (by kernel_rfl) (Gives.fieldAt 37 (.tmp 18) 3 rfl _ _ rfl (fun w' => fa_v g 3 w')) ?_
    simp only [Act.put, List.setIfInBounds_toArray, List.set_cons_zero, List.set_cons_succ]
    refine .step (some 20) rfl rfl (by kernel_rfl) (Gives.load 26 (.tmp 19) rfl _ _ rfl (fun w' h => ldp_strs (HK.out w' h).2.1)) ?_
    simp only [Act.put, List.setIfInBounds_toArray, List.set_cons_zero, List.set_cons_succ]
    refine .step (some 21) rfl rfl (by kernel_rfl) (Gives.move rfl rfl) ?_
    simp only [Act.put, List.setIfInBounds_toArray, List.set_cons_zero, List.set_cons_succ]
    refine .step (some 22) rfl rfl (by kernel_rfl) (Gives.nil (.tmp 21) rfl _ rfl) ?_
    simp only [Act.put, List.setIfInBounds_toArray, List.set_cons_zero, List.set_cons_succ]
    refine .step (some 23) rfl rfl (by kernel_rfl) (Gives.fieldAt 37 (.tmp 22) 5 rfl _ _ rfl (fun w' => fa_v g 5 w')) ?_
    simp only [Act.put, List.setIfInBounds_toArray, List.set_cons_zero, List.set_cons_succ]
    refine .step (some 24) rfl rfl (by kernel_rfl) (Gives.load 35 (.tmp 23) rfl _ _ rfl (fun w' h => ldp_vals (HK.out w' h).2.2.1)) ?_
    simp only [Act.put, List.setIfInBounds_toArray, List.set_cons_zero, List.set_cons_succ]
    refine .step (some 25) rfl rfl (by kernel_rfl) (Gives.fieldAt 69 (.tmp 3) 0 rfl _ _ rfl (fun w' => fa_st _ 0 w')) ?_
    simp only [Act.put, List.setIfInBounds_toArray, List.set_cons_zero, List.set_cons_succ]
    refine .step (some 26) rfl rfl (by kernel_rfl) (Gives.load 9 (.tmp 25) rfl _ _ rfl (fun w' h => ldp_str (HK.out w' h).2.2.2.1)) ?_
    simp only [Act.put, List.setIfInBounds_toArray, List.set_cons_zero, List.set_cons_succ]
    refine .step (some 27) rfl rfl (by kernel_rfl) (Gives.call (args := [.slice (some ⟨a, 0, none⟩) 1 c, .slice (some ⟨p, 0, none⟩) 1 c2, .string s]) rfl Try.func57 (by kernel_rfl) (by kernel_rfl) rfl (fun w' h => fpart_one a c p c2 s w' (HK.out w' h).2.2.2.2)) ?_
    simp only [Act.put, List.setIfInBounds_toArray, List.set_cons_zero, List.set_cons_succ]
    refine .step (some 4) rfl rfl (by kernel_rfl) (Gives.assign (x := .tmp 27) rfl rfl) ?_
    simp only [Act.put, List.setIfInBounds_toArray, List.set_cons_zero, List.set_cons_succ]
    exact .nil
  case hk => kernel_rfl
  case h =>
  intro W2 hb
  have HB := Lib.hid (HBN.out.trans (hb.mono HBN.out.size))
  clear hb
  go_wp2_with fail
  go_ret
  exact ⟨rfl, HB.out⟩

theorem ld_val {g : Nat} {w : World} (cs : List Value) (hl : cs.length = 6) (h : ∀ j v, cs[j]? = some v → w.cell? ⟨g, j, none⟩ = some v) :
    (Instr.loadAt 37 (.pointer (some ⟨g, 0, none⟩))).run Try.prog w = .ok (.agg cs.toArray) w := by
  have hv := run_loadVar_st (P := Try.prog) w ⟨g, 0, none⟩ 37 cs (fun j v hj => by
    have ea : (⟨g, 0, none⟩ : Addr).add j = ⟨g, j, none⟩ := by unfold Addr.add; split <;> simp_all
    rw [ea]
    exact h j v hj) Try.underlying37 (v_len hl)
  simp only [Instr.loadAt, Instr.sureAddr, Sem.run_bind, Sem.run_pure, Result.andThen_ok, hv]
def Cells (w : World) (g : Nat) (cs : List Value) : Prop := ∀ j v, cs[j]? = some v → w.cell? ⟨g, j, none⟩ = some v
theorem Cells.below {w w' : World} {g : Nat} {cs : List Value} (h : Cells w g cs) (hb : Below w.heap.size w w') : Cells w' g cs := fun j v hj => (hb.cell (p := ⟨g, j, none⟩) (lt_of_cell (h j v hj))).trans (h j v hj)
theorem Row.cells {w : World} {g : Nat} {T : TypeId} {cs : List Value} (h : Row w g T cs) : Cells w g cs := fun j v hj => h.cell hj
set_option maxHeartbeats 1600000 in
theorem spart_list (g b c p c2 : Nat) (N S X : Value) (id : Int) (w : World) (hcs : Cells w g [.int .i64 6, N, S, X, .slice (some ⟨b, 0, none⟩) 1 c, .slice (some ⟨p, 0, none⟩) 1 c2]) (hb : w.cell? ⟨b, 0, none⟩ = some (.int .u64 id)) :
    Calls Try.prog 39 #[.pointer (some ⟨g, 0, none⟩), .agg #[.string ByteArray.empty, .int .u64 id]] w fun e w' => e = .returned (.pointer (some ⟨p, 0, none⟩)) ∧ Below w.heap.size w w' := by
  have lb := lt_of_cell hb
  have hbn := below_new w (.cells #[.string ByteArray.empty, .int .u64 id] 69)
  have hst := (Row.new w [.string ByteArray.empty, .int .u64 id] 69).cell (k := 0) rfl
  have hst1 := (Row.new w [.string ByteArray.empty, .int .u64 id] 69).cell (k := 1) rfl
  have hltn : w.heap.size < (w.alloc (.cells #[.string ByteArray.empty, .int .u64 id] 69)).heap.size := by simp
  have hc1 := hcs.below hbn
  have HC := Lib.hid (fun (w' : World) (h : Below (w.alloc (.cells #[.string ByteArray.empty, .int .u64 id] 69)).heap.size (w.alloc (.cells #[.string ByteArray.empty, .int .u64 id] 69)) w') => hc1.below h)
  have HK := Lib.hid (fun (w' : World) (h : Below (w.alloc (.cells #[.string ByteArray.empty, .int .u64 id] 69)).heap.size (w.alloc (.cells #[.string ByteArray.empty, .int .u64 id] 69)) w') => (⟨(h.cell (p := ⟨w.heap.size, 0, none⟩) hltn).trans hst, (h.cell (p := ⟨w.heap.size, 1, none⟩) hltn).trans hst1, (h.cell (Nat.lt_of_lt_of_le lb hbn.size)).trans ((hbn.cell lb).trans hb)⟩ : w'.cell? ⟨w.heap.size, 0, none⟩ = some (.string ByteArray.empty) ∧ w'.cell? ⟨w.heap.size, 1, none⟩ = some (.int .u64 id) ∧ w'.cell? ⟨b, 0, none⟩ = some (.int .u64 id)))
  have g0 := hc1 0 _ rfl
  have g1 := hst
  have HBN := Lib.hid hbn
  clear hcs hb hbn hst hst1 lb hc1
  go_enter Try.func39, Try.ntmps39
  go_wp2_with fail
  generalize w.alloc (.cells #[.string ByteArray.empty, .int .u64 id] 69) = W1 at *
  refine wp_flat_none (aD := ?aD) (S := fun w' => Below W1.heap.size W1 w') (vs := [(0, .pointer (some ⟨g, 0, none⟩)), (1, .pointer (some ⟨g, 0, none⟩)), (2, .agg #[.int .i64 6, N, S, X, .slice (some ⟨b, 0, none⟩) 1 c, .slice (some ⟨p, 0, none⟩) 1 c2]), (3, .pointer (some ⟨w.heap.size, 1, none⟩)), (4, .int .u64 id), (5, .tuple #[.int .i64 0, .bool true]), (6, .tuple #[.int .i64 0, .bool true]), (7, .int .i64 0), (8, .bool true), (9, .int .i64 0), (10, .bool true)]) (by kernel_rfl) ((Below.refl _ _).drew) (fun _ _ h k => S_trans h k) ?hD ?hk ?h
  case hD =>
    refine .step (some 29) rfl rfl (by kernel_rfl) (Gives.move rfl rfl) ?_
    simp only [Act.put, List.setIfInBounds_toArray, List.set_cons_zero, List.set_cons_succ]
    refine .step (some 30) rfl rfl (by kernel_rfl) (Gives.nil (.tmp 29) rfl _ rfl) ?_
    simp only [Act.put, List.setIfInBounds_toArray, List.set_cons_zero, List.set_cons_succ]
    refine .step (some 31) rfl rfl (by kernel_rfl) (Gives.load 37 (.tmp 30) rfl _ _ rfl (fun w' h => ld_val _ rfl (HC.out w' h))) ?_
    simp only [Act.put, List.setIfInBounds_toArray, List.set_cons_zero, List.set_cons_succ]
    refine .step (some 32) rfl rfl (by kernel_rfl) (Gives.fieldAt 69 (.tmp 3) 1 rfl _ _ rfl (fun w' => fa_st _ 1 w')) ?_
    simp only [Act.put, List.setIfInBounds_toArray, List.set_cons_zero, List.set_cons_succ]
    refine .step (some 33) rfl rfl (by kernel_rfl) (Gives.load 39 (.tmp 32) rfl _ _ rfl (fun w' h => ld_u64 (HK.out w' h).2.1)) ?_
    simp only [Act.put, List.setIfInBounds_toArray, List.set_cons_zero, List.set_cons_succ]
    refine .step (some 34) rfl rfl (by kernel_rfl) (Gives.call (args := [.agg #[.int .i64 6, N, S, X, .slice (some ⟨b, 0, none⟩) 1 c, .slice (some ⟨p, 0, none⟩) 1 c2], .int .u64 id]) rfl Try.func58 (by kernel_rfl) (by kernel_rfl) rfl (fun w' h => elem_one b c id N S X _ w' (HK.out w' h).2.2)) ?_
    simp only [Act.put, List.setIfInBounds_toArray, List.set_cons_zero, List.set_cons_succ]
    refine .step (some 28) rfl rfl (by kernel_rfl) (Gives.move rfl rfl) ?_
    simp only [Act.put, List.setIfInBounds_toArray, List.set_cons_zero, List.set_cons_succ]
    refine .step (some 35) rfl rfl (by kernel_rfl) (Gives.extract (.tmp 28) 0 rfl _ _ rfl (fun w' => by kernel_rfl)) ?_
    simp only [Act.put, List.setIfInBounds_toArray, List.set_cons_zero, List.set_cons_succ]
    refine .step (some 36) rfl rfl (by kernel_rfl) (Gives.extract (.tmp 28) 1 rfl _ _ rfl (fun w' => by kernel_rfl)) ?_
    simp only [Act.put, List.setIfInBounds_toArray, List.set_cons_zero, List.set_cons_succ]
    refine .step (some 5) rfl rfl (by kernel_rfl) (Gives.assign (x := .tmp 35) rfl rfl) ?_
    simp only [Act.put, List.setIfInBounds_toArray, List.set_cons_zero, List.set_cons_succ]
    refine .step (some 6) rfl rfl (by kernel_rfl) (Gives.assign (x := .tmp 36) rfl rfl) ?_
    simp only [Act.put, List.setIfInBounds_toArray, List.set_cons_zero, List.set_cons_succ]
    exact .nil
  case hk => kernel_rfl
  case h =>
  intro W2 hb
  have hc2 := HC.out W2 hb
  have q5 := hc2 5 _ rfl
  have q1 := (HK.out W2 hb).1
  have HB := Lib.hid (HBN.out.trans (hb.mono HBN.out.size))
  clear hb hc2
  go_wp2_with fail
  go_ret
  exact ⟨rfl, HB.out⟩

end Go.Proofs.Ytpegkalhjnldkaa
