/- A value without lists and parts: gone through, copied; for any such value. -/
import Derived.Test.YtpegkalhjnldkaaPk
namespace Go.Proofs.Ytpegkalhjnldkaa
set_option maxRecDepth 100000
set_option linter.unusedSimpArgs false
set_option linter.unusedVariables false
open Go.RowKit

abbrev leafC (K N S : Value) : List Value := [K, N, S, .slice none 0 0, .slice none 0 0, .slice none 0 0]
theorem parts_any (g : Nat) (v : Value) (w : World) (h : w.cell? ⟨g, 5, none⟩ = some v) :
    Calls Try.prog 43 #[.pointer (some ⟨g, 0, none⟩)] w fun e w' => e = .returned v ∧ w' = w := by
  go_enter Try.func43, Try.ntmps43
  go_wp2_with fail
  go_ret
  exact ⟨rfl, rfl⟩
theorem endsc_any (p : Value) (d : Value) (w : World) :
    Calls Try.prog 73 #[p, d] w fun e w' => e = .returned (.tuple #[]) ∧ w' = w := by
  go_enter Try.func73, Try.ntmps73
  go_wp2_with fail
  go_end0
  exact ⟨rfl, rfl⟩
def lenS (v : Value) : Nat := match v with | .slice _ n _ => n | _ => 0
theorem mb_cells : Try.prog.cellsOf 110 = 2 := by kernel_rfl
set_option maxHeartbeats 1600000 in
theorem walke_leaf (g : Nat) (w : World) (h5 : w.cell? ⟨g, 5, none⟩ = some (.slice none 0 0)) :
    Calls Try.prog 71 #[.pointer (some ⟨g, 0, none⟩), .func (.func 43) #[] #[], .func (.func 73) #[] #[]] w fun e w' => e = .returned (.bool true) ∧ Below w.heap.size w w' := by
  have hlg := lt_of_cell h5
  have HV := Lib.hid (endsc_any (.pointer (some ⟨g, 0, none⟩)) (.int .i64 1))
  have HRN := Lib.hid (Row.new w [.pointer (some ⟨g, 0, none⟩), .int .i64 0] 110)
  have HB0 := Lib.hid (below_new w (.cells #[.pointer (some ⟨g, 0, none⟩), .int .i64 0] 110))
  have H5 := Lib.hid ((HB0.out.cell (p := ⟨g, 5, none⟩) hlg).trans h5)
  have HP := Lib.hid (parts_any g (.slice none 0 0))
  clear h5
  go_enter Try.func71, Try.ntmps71
  go_wp2_with fail
  refine (HV.out _).mono ?_
  rintro e W1 ⟨rfl, rfl⟩
  go_wp2_with fail
  go_loopw [7, 8, 9, 10] (fun v _ _ _ wr => ∃ n : Nat, n ≤ 1 ∧ v = .slice (some ⟨W1.heap.size, 0, none⟩) n 1 ∧ wr = W1.alloc (.cells #[.pointer (some ⟨g, 0, none⟩), .int .i64 0] 110)) (fun v _ _ _ _ => lenS v)
  case atStart => exact ⟨1, Nat.le_refl _, rfl, rfl⟩
  case round =>
    obtain ⟨n, hn, rfl, rfl⟩ := hrel
    by_cases h0 : n = 0
    · subst h0
      go_wp2_with fail
      go_ret
      exact ⟨rfl, HB0.out⟩
    · obtain rfl : n = 1 := by omega
      have HPP := Lib.hid (HP.out _ H5.out)
      have c0 := HRN.out.cell (k := 0) rfl
      have c1 := HRN.out.cell (k := 1) rfl
      go_wp2_with fail
      refine HPP.out.mono ?_
      rintro e W2 ⟨rfl, rfl⟩
      go_wp2_with fail
      go_roundw
      case rel => exact ⟨0, by omega, by first | rfl | trivial, by first | rfl | trivial⟩
      case measure => simp [lenS]

theorem below_same {w : World} {g : Nat} {T : TypeId} {l : List Value} (h : Row w g T l) {k : Nat} {v : Value} (hk : l[k]? = some v) : Below w.heap.size w (w.setCell ⟨g, k, none⟩ v) := by
  refine ⟨rfl, rfl, rfl, by simp, fun j hj => ?_⟩
  by_cases hjg : j = g
  · subst hjg
    have h1 := h.set k v
    unfold Row at h1
    rw [h1, show l.set k v = l from List.ext_getElem? fun i => by
      rw [List.getElem?_set]
      split
      · rename_i e; subst e; rw [hk]; split <;> simp_all
      · rfl]
    exact h.symm
  · exact Below.heap_setCell _ _ _ _ hjg
theorem Gives.storeSame {P : Program} {S : World → Prop} {o : Oper} {a : Act} (ty : TypeId) (x y : Operand) (ho : o.op = .store ty x y) (p : Addr) (hx : a.eval x = .pointer (some p)) (v : Value) (hy : a.eval y = v)
    (hi : ∀ w, S w → (Instr.storeAt ty (.pointer (some p)) v).run P w = .ok () (w.setCell p v) ∧ Below w.heap.size w (w.setCell p v)) : Gives P S o undef a := fun w hS K hK => by
  obtain ⟨h1, h2⟩ := hi w hS
  unfold Oper.wp execOp
  simp only [ho, hx, hy, Sem.run_bind, h1, Result.andThen_ok, Sem.run_pure]
  exact hK _ h2
theorem ld_u64s {a : Addr} {v : Value} {w : World} (h : w.cell? a = some v) : (Instr.loadAt 22 (.pointer (some a))).run Try.prog w = .ok v w := by go_simp
theorem st_strsP {a : Addr} {v : Value} {w : World} (h : w.cell? a = some v) (hf : w.frozen? a = false) : (Instr.storeAt 26 (.pointer (some a)) (.slice none 0 0)).run Try.prog w = .ok () (w.setCell a (.slice none 0 0)) := by go_simp
theorem st_u64s {a : Addr} {v : Value} {w : World} (h : w.cell? a = some v) (hf : w.frozen? a = false) : (Instr.storeAt 22 (.pointer (some a)) (.slice none 0 0)).run Try.prog w = .ok () (w.setCell a (.slice none 0 0)) := by go_simp
theorem st_valsP {a : Addr} {v : Value} {w : World} (h : w.cell? a = some v) (hf : w.frozen? a = false) : (Instr.storeAt 35 (.pointer (some a)) (.slice none 0 0)).run Try.prog w = .ok () (w.setCell a (.slice none 0 0)) := by go_simp
theorem cl_str (w : World) : Calls Try.prog 61 #[.slice none 0 0] w fun e w' => e = .returned (.slice none 0 0) ∧ Below w.heap.size w w' := by
  have qT : ∀ (w : World) (a : Option Addr) (n c n' c' : Nat), (binOp .eql 26 (.slice a n c) (.slice none n' c')).run Try.prog w = .ok (.bool a.isNone) w := fun w a n c n' c' => Lib.run_eql_slice_nil w _ _ a n c n' c' Try.underlying26
  go_enter Try.func61, Try.ntmps61
  go_wp2_with fail
  go_ret
  exact ⟨rfl, Below.refl _ _⟩
theorem cl_u64 (w : World) : Calls Try.prog 62 #[.slice none 0 0] w fun e w' => e = .returned (.slice none 0 0) ∧ Below w.heap.size w w' := by
  have qT : ∀ (w : World) (a : Option Addr) (n c n' c' : Nat), (binOp .eql 22 (.slice a n c) (.slice none n' c')).run Try.prog w = .ok (.bool a.isNone) w := fun w a n c n' c' => Lib.run_eql_slice_nil w _ _ a n c n' c' Try.underlying22
  go_enter Try.func62, Try.ntmps62
  go_wp2_with fail
  go_ret
  exact ⟨rfl, Below.refl _ _⟩
theorem cl_val (w : World) : Calls Try.prog 63 #[.slice none 0 0] w fun e w' => e = .returned (.slice none 0 0) ∧ Below w.heap.size w w' := by
  have qT : ∀ (w : World) (a : Option Addr) (n c n' c' : Nat), (binOp .eql 35 (.slice a n c) (.slice none n' c')).run Try.prog w = .ok (.bool a.isNone) w := fun w a n c n' c' => Lib.run_eql_slice_nil w _ _ a n c n' c' Try.underlying35
  go_enter Try.func63, Try.ntmps63
  go_wp2_with fail
  go_ret
  exact ⟨rfl, Below.refl _ _⟩
set_option maxHeartbeats 1600000 in
theorem own_leaf (g : Nat) (K N S : Value) (w : World) (h : Row w g 37 (leafC K N S)) :
    Calls Try.prog 60 #[.pointer (some ⟨g, 0, none⟩)] w fun e w' => e = .returned (.tuple #[]) ∧ Below w.heap.size w w' := by
  have HR := Lib.hid (fun (w' : World) (hb : Below w.heap.size w w') => h.belowAll hb)
  clear h
  go_enter Try.func60, Try.ntmps60
  go_wp2_with fail
  refine wp_flat_none (aD := ?aD) (S := fun w' => Below w.heap.size w w') (vs := [(0, .pointer (some ⟨g, 0, none⟩)), (1, .pointer (some ⟨g, 0, none⟩)), (2, .pointer (some ⟨g, 0, none⟩)), (3, .pointer (some ⟨g, 0, none⟩)), (4, .pointer (some ⟨g, 0, none⟩)), (5, .pointer (some ⟨g, 3, none⟩)), (6, .slice none 0 0), (7, .slice none 0 0), (8, .pointer (some ⟨g, 0, none⟩)), (9, .pointer (some ⟨g, 0, none⟩)), (10, .pointer (some ⟨g, 4, none⟩)), (11, .slice none 0 0), (12, .slice none 0 0), (13, .pointer (some ⟨g, 0, none⟩)), (14, .pointer (some ⟨g, 0, none⟩)), (15, .pointer (some ⟨g, 5, none⟩)), (16, .slice none 0 0), (17, .slice none 0 0), (18, .pointer (some ⟨g, 0, none⟩)), (19, .pointer (some ⟨g, 3, none⟩)), (20, undef), (21, .pointer (some ⟨g, 0, none⟩)), (22, .pointer (some ⟨g, 4, none⟩)), (23, undef), (24, .pointer (some ⟨g, 0, none⟩)), (25, .pointer (some ⟨g, 5, none⟩)), (26, undef)]) (by kernel_rfl) ((Below.refl _ _).drew) (fun _ _ h k => S_trans h k) ?hD ?hk ?h
  case hD =>
    refine .step (some 2) rfl rfl (by kernel_rfl) (Gives.move rfl rfl) ?_
    simp only [Act.put, List.setIfInBounds_toArray, List.set_cons_zero, List.set_cons_succ]
    refine .step (some 3) rfl rfl (by kernel_rfl) (Gives.move rfl rfl) ?_
    simp only [Act.put, List.setIfInBounds_toArray, List.set_cons_zero, List.set_cons_succ]
    refine .step (some 4) rfl rfl (by kernel_rfl) (Gives.move rfl rfl) ?_
    simp only [Act.put, List.setIfInBounds_toArray, List.set_cons_zero, List.set_cons_succ]
    refine .step (some 5) rfl rfl (by kernel_rfl) (Gives.move rfl rfl) ?_
    simp only [Act.put, List.setIfInBounds_toArray, List.set_cons_zero, List.set_cons_succ]
    refine .step (some 6) rfl rfl (by kernel_rfl) (Gives.nil (.tmp 5) rfl _ rfl) ?_
    simp only [Act.put, List.setIfInBounds_toArray, List.set_cons_zero, List.set_cons_succ]
    refine .step (some 7) rfl rfl (by kernel_rfl) (Gives.fieldAt 37 (.tmp 6) 3 rfl _ _ rfl (fun w' => fa_v g 3 w')) ?_
    simp only [Act.put, List.setIfInBounds_toArray, List.set_cons_zero, List.set_cons_succ]
    refine .step (some 8) rfl rfl (by kernel_rfl) (Gives.load 26 (.tmp 7) rfl _ _ rfl (fun w' h => ldp_strs ((HR.out w' h).cell (k := 3) rfl))) ?_
    simp only [Act.put, List.setIfInBounds_toArray, List.set_cons_zero, List.set_cons_succ]
    refine .step (some 9) rfl rfl (by kernel_rfl) (Gives.call (args := [.slice none 0 0]) rfl Try.func61 (by kernel_rfl) (by kernel_rfl) rfl (fun w' h => cl_str w')) ?_
    simp only [Act.put, List.setIfInBounds_toArray, List.set_cons_zero, List.set_cons_succ]
    refine .step (some 10) rfl rfl (by kernel_rfl) (Gives.move rfl rfl) ?_
    simp only [Act.put, List.setIfInBounds_toArray, List.set_cons_zero, List.set_cons_succ]
    refine .step (some 11) rfl rfl (by kernel_rfl) (Gives.nil (.tmp 10) rfl _ rfl) ?_
    simp only [Act.put, List.setIfInBounds_toArray, List.set_cons_zero, List.set_cons_succ]
    refine .step (some 12) rfl rfl (by kernel_rfl) (Gives.fieldAt 37 (.tmp 11) 4 rfl _ _ rfl (fun w' => fa_v g 4 w')) ?_
    simp only [Act.put, List.setIfInBounds_toArray, List.set_cons_zero, List.set_cons_succ]
    refine .step (some 13) rfl rfl (by kernel_rfl) (Gives.load 22 (.tmp 12) rfl _ _ rfl (fun w' h => ld_u64s ((HR.out w' h).cell (k := 4) rfl))) ?_
    simp only [Act.put, List.setIfInBounds_toArray, List.set_cons_zero, List.set_cons_succ]
    refine .step (some 14) rfl rfl (by kernel_rfl) (Gives.call (args := [.slice none 0 0]) rfl Try.func62 (by kernel_rfl) (by kernel_rfl) rfl (fun w' h => cl_u64 w')) ?_
    simp only [Act.put, List.setIfInBounds_toArray, List.set_cons_zero, List.set_cons_succ]
    refine .step (some 15) rfl rfl (by kernel_rfl) (Gives.move rfl rfl) ?_
    simp only [Act.put, List.setIfInBounds_toArray, List.set_cons_zero, List.set_cons_succ]
    refine .step (some 16) rfl rfl (by kernel_rfl) (Gives.nil (.tmp 15) rfl _ rfl) ?_
    simp only [Act.put, List.setIfInBounds_toArray, List.set_cons_zero, List.set_cons_succ]
    refine .step (some 17) rfl rfl (by kernel_rfl) (Gives.fieldAt 37 (.tmp 16) 5 rfl _ _ rfl (fun w' => fa_v g 5 w')) ?_
    simp only [Act.put, List.setIfInBounds_toArray, List.set_cons_zero, List.set_cons_succ]
    refine .step (some 18) rfl rfl (by kernel_rfl) (Gives.load 35 (.tmp 17) rfl _ _ rfl (fun w' h => ldp_vals ((HR.out w' h).cell (k := 5) rfl))) ?_
    simp only [Act.put, List.setIfInBounds_toArray, List.set_cons_zero, List.set_cons_succ]
    refine .step (some 19) rfl rfl (by kernel_rfl) (Gives.call (args := [.slice none 0 0]) rfl Try.func63 (by kernel_rfl) (by kernel_rfl) rfl (fun w' h => cl_val w')) ?_
    simp only [Act.put, List.setIfInBounds_toArray, List.set_cons_zero, List.set_cons_succ]
    refine .step (some 20) rfl rfl (by kernel_rfl) (Gives.nil (.tmp 2) rfl _ rfl) ?_
    simp only [Act.put, List.setIfInBounds_toArray, List.set_cons_zero, List.set_cons_succ]
    refine .step (some 21) rfl rfl (by kernel_rfl) (Gives.fieldAt 37 (.tmp 20) 3 rfl _ _ rfl (fun w' => fa_v g 3 w')) ?_
    simp only [Act.put, List.setIfInBounds_toArray, List.set_cons_zero, List.set_cons_succ]
    refine .step (none) rfl rfl (by kernel_rfl) (Gives.storeSame 26 (.tmp 21) (.tmp 9) rfl ⟨g, 3, none⟩ rfl (.slice none 0 0) rfl (fun w' h => ⟨st_strsP ((HR.out w' h).cell (k := 3) rfl) ((HR.out w' h).free 3), below_same (HR.out w' h) (k := 3) rfl⟩)) ?_
    simp only [Act.put, List.setIfInBounds_toArray, List.set_cons_zero, List.set_cons_succ]
    refine .step (some 22) rfl rfl (by kernel_rfl) (Gives.nil (.tmp 3) rfl _ rfl) ?_
    simp only [Act.put, List.setIfInBounds_toArray, List.set_cons_zero, List.set_cons_succ]
    refine .step (some 23) rfl rfl (by kernel_rfl) (Gives.fieldAt 37 (.tmp 22) 4 rfl _ _ rfl (fun w' => fa_v g 4 w')) ?_
    simp only [Act.put, List.setIfInBounds_toArray, List.set_cons_zero, List.set_cons_succ]
    refine .step (none) rfl rfl (by kernel_rfl) (Gives.storeSame 22 (.tmp 23) (.tmp 14) rfl ⟨g, 4, none⟩ rfl (.slice none 0 0) rfl (fun w' h => ⟨st_u64s ((HR.out w' h).cell (k := 4) rfl) ((HR.out w' h).free 4), below_same (HR.out w' h) (k := 4) rfl⟩)) ?_
    simp only [Act.put, List.setIfInBounds_toArray, List.set_cons_zero, List.set_cons_succ]
    refine .step (some 24) rfl rfl (by kernel_rfl) (Gives.nil (.tmp 4) rfl _ rfl) ?_
    simp only [Act.put, List.setIfInBounds_toArray, List.set_cons_zero, List.set_cons_succ]
    refine .step (some 25) rfl rfl (by kernel_rfl) (Gives.fieldAt 37 (.tmp 24) 5 rfl _ _ rfl (fun w' => fa_v g 5 w')) ?_
    simp only [Act.put, List.setIfInBounds_toArray, List.set_cons_zero, List.set_cons_succ]
    refine .step (none) rfl rfl (by kernel_rfl) (Gives.storeSame 35 (.tmp 25) (.tmp 19) rfl ⟨g, 5, none⟩ rfl (.slice none 0 0) rfl (fun w' h => ⟨st_valsP ((HR.out w' h).cell (k := 5) rfl) ((HR.out w' h).free 5), below_same (HR.out w' h) (k := 5) rfl⟩)) ?_
    simp only [Act.put, List.setIfInBounds_toArray, List.set_cons_zero, List.set_cons_succ]
    exact .nil
  case hk => kernel_rfl
  case h =>
  intro W2 hb
  have HB := Lib.hid hb
  clear hb
  go_wp2_with fail
  go_end0
  exact ⟨rfl, HB.out⟩
theorem copyc_leaf (g f d : Nat) (K N S : Value) (w : World) (h : Row w g 37 (leafC K N S)) (hf : w.cell? ⟨f, 0, none⟩ = some (.func (.func 60) #[] #[])) :
    Calls Try.prog 72 #[.pointer (some ⟨g, 0, none⟩), .int .i64 d, .pointer (some ⟨f, 0, none⟩)] w fun e w' => e = .returned (.tuple #[]) ∧ Below w.heap.size w w' := by
  have HO := Lib.hid (own_leaf g K N S w h)
  clear h
  go_enter Try.func72, Try.ntmps72
  go_wp2_with fail
  refine HO.out.mono ?_
  rintro e W1 ⟨rfl, hb⟩
  have HB := Lib.hid hb
  clear hb
  go_wp2_with fail
  go_end0
  exact ⟨rfl, HB.out⟩

end Go.Proofs.Ytpegkalhjnldkaa
