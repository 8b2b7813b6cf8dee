/- Steps in memory, as plain data: which are great; paths held against each other, by the document and by the program. Which paths are right: the program's, the document's; for any path. A writer of fields in memory, and what writing raw bytes makes of it; for writers whose bytes lie in a row of their own. -/
import Derived.Test.YtmiadkhfjkaidaaGreatDoorNm
import Derived.Test.YtmiadkhfjkaidaaGreatDoorRows
import Derived.Deep.QuietTactic
import Derived.BigQuiet
import Derived.Laws.StructEq
import Derived.Deep.SlicePairs
import Derived.ChangeArms
import Derived.OpenShut
import Derived.SizedLaws
import Derived.Test.YtmiadkhfjkaidaaGreatDoorMg1
namespace Go.Proofs.YtmiadkhfjkaidaaGreatDoor
section
set_option maxRecDepth 100000
set_option linter.unusedSimpArgs false
set_option linter.unusedVariables false
open Go.RowKit Go.ChangeShapes Go.WideShapes

/-- A step, as plain data. -/
structure Stp where
  s : ByteArray
  id : Int
def stp (l : List Stp) (i : Nat) : Stp := l.getD i ⟨ByteArray.empty, 0⟩
structure StOk (x : Stp) : Prop where
  sz : x.s.size ≤ maxLen
  lo : 0 ≤ x.id
  hi : x.id < 18446744073709551616
def Sts (w : World) (a : Option Addr) (n : Nat) (l : List Stp) : Prop :=
  l.length = n ∧ (0 < n → ∃ ad, a = some ad ∧ ad.block < w.heap.size ∧ ∀ i x, l[i]? = some x → w.cell? (ad.add (i * 2)) = some (.string x.s) ∧ w.cell? ((ad.add (i * 2)).add 1) = some (.int .u64 x.id))
theorem Sts.keep {w w' : World} {a : Option Addr} {n : Nat} {l : List Stp} (h : Sts w a n l) (hb : ∀ ad, a = some ad → ad.block < w.heap.size → w'.heap[ad.block]? = w.heap[ad.block]?) (hs : w.heap.size ≤ w'.heap.size) : Sts w' a n l :=
  ⟨h.1, fun hn => by
    obtain ⟨ad, e, hl, hc⟩ := h.2 hn
    have g : ∀ j, w'.cell? (ad.add j) = w.cell? (ad.add j) := fun j => World.cell?_of_block (by rw [add_block]; exact hb ad e hl)
    refine ⟨ad, e, Nat.lt_of_lt_of_le hl hs, fun i x hx => ?_⟩
    obtain ⟨h1, h2⟩ := hc i x hx
    rw [add_add] at h2 ⊢
    exact ⟨(g _).trans h1, (g _).trans h2⟩⟩
theorem Sts.below {w w' : World} {a : Option Addr} {n : Nat} {l : List Stp} (h : Sts w a n l) (hb : Below w.heap.size w w') : Sts w' a n l :=
  h.keep (fun ad _ hl => hb.block _ hl) hb.size
theorem Sts.drewN {w : World} {a : Option Addr} {n : Nat} {l : List Stp} (h : Sts w a n l) (q : Nat) : Sts (w.drewN q) a n l := h.keep (fun _ _ _ => rfl) (Nat.le_refl _)
theorem stp_get {l : List Stp} {i : Nat} (h : i < l.length) : l[i]? = some (stp l i) := by
  unfold stp
  rw [List.getD, List.getElem?_eq_getElem h]
  rfl
theorem Sts.at_ {w : World} {a : Option Addr} {n : Nat} {l : List Stp} (h : Sts w a n l) {i : Nat} (hi : i < n) :
    ∃ ad, a = some ad ∧ w.cell? (ad.add (i * 2)) = some (.string (stp l i).s) ∧ w.cell? ⟨(ad.add (i * 2)).block, (ad.add (i * 2)).off + 1, none⟩ = some (.int .u64 (stp l i).id) := by
  obtain ⟨ad, e, _, hc⟩ := h.2 (by omega)
  obtain ⟨h1, h2⟩ := hc i _ (stp_get (by rw [h.1]; exact hi))
  exact ⟨ad, e, h1, h2⟩
theorem Sts.take {w : World} {a : Option Addr} {n : Nat} {l : List Stp} (h : Sts w a n l) {i : Nat} (hi : i ≤ n) : Sts w a i (l.take i) := by
  have hl := h.1
  refine ⟨by simp; omega, fun hn => ?_⟩
  obtain ⟨ad, e, h1, hc⟩ := h.2 (by omega)
  refine ⟨ad, e, h1, fun j u hu => hc j u ?_⟩
  rw [List.getElem?_take] at hu
  split at hu
  · exact hu
  · cases hu
theorem ok_get {l : List Stp} (h : ∀ x ∈ l, StOk x) {i : Nat} (hi : i < l.length) : StOk (stp l i) := h _ (List.mem_of_getElem? (stp_get hi))

/-- Whether a path is greater than is asked of. -/
def greatP (l : List Stp) : Bool := decide (40 < l.length) || (List.range l.length).any fun i => decide (100 < (stp l i).s.size)
theorem great_yes {l : List Stp} {j : Nat} (hj : j < l.length) (h : 100 < (stp l j).s.size) : greatP l = true := by
  unfold greatP
  rw [Bool.or_eq_true, List.any_eq_true]
  exact .inr ⟨j, List.mem_range.2 hj, decide_eq_true h⟩
theorem great_no {l : List Stp} (h1 : ¬ 40 < l.length) (h : ∀ i, i < l.length → ¬ 100 < (stp l i).s.size) : greatP l = false := by
  unfold greatP
  rw [decide_eq_false h1, Bool.false_or, ← Bool.not_eq_true, List.any_eq_true]
  rintro ⟨i, hi, hd⟩
  exact h i (List.mem_range.1 hi) (of_decide_eq_true hd)
theorem great_of {l : List Stp} (h : greatP l = false) : l.length ≤ 40 ∧ ∀ i, i < l.length → (stp l i).s.size ≤ 100 := by
  unfold greatP at h
  rw [Bool.or_eq_false_iff] at h
  refine ⟨by have := of_decide_eq_false h.1; omega, fun i hi => ?_⟩
  have h2 := h.2
  rw [← Bool.not_eq_true, List.any_eq_true] at h2
  exact Nat.le_of_not_lt fun hc => h2 ⟨i, List.mem_range.2 hi, decide_eq_true hc⟩

set_option maxHeartbeats 800000 in
theorem pgreat_any (a : Option Addr) (n c : Nat) (l : List Stp) (w : World) (h : Sts w a n l) (hok : ∀ x ∈ l, StOk x) (hn : n ≤ 9223372036854775807) :
    Calls Tryz.prog 13 #[.slice a n c] w fun e w' => e = .returned (.bool (greatP l)) ∧ w' = w := by
  have hl := h.1
  by_cases h40 : 40 < n
  · have g40 : (40 : Int) < (n : Int) := by omega
    have HG := Lib.hid (show greatP l = true by unfold greatP; rw [hl, decide_eq_true h40]; rfl)
    clear h hok hl
    go_enter Tryz.func13, Tryz.ntmps13
    go_wp2_with fail
    go_ret
    exact ⟨by rw [HG.out]; rfl, rfl⟩
  · have g40 : ¬ (40 : Int) < (n : Int) := by omega
    have H := Lib.hid h
    have HOK := Lib.hid hok
    have HL := Lib.hid hl
    clear h hok hl
    go_enter Tryz.func13, Tryz.ntmps13
    go_wp2_with fail
    go_loopw [3] (fun i wr => ∃ j : Nat, j ≤ n ∧ i = .int .i64 (j : Int) ∧ (∀ k, k < j → ¬ 100 < (stp l k).s.size) ∧ wr = w) (fun i _ => n - (intOf i).toNat)
    case atStart => exact ⟨0, Nat.zero_le _, rfl, fun _ hk => absurd hk (Nat.not_lt_zero _), rfl⟩
    case round =>
      obtain ⟨j, hjn, rfl, hall, rfl⟩ := hrel
      have bj0 : (0 : Int) ≤ (j : Int) := by omega
      have HA := Lib.hid hall
      clear hall
      by_cases hj : j < n
      · have hji : (j : Int) < (n : Int) := by omega
        obtain ⟨ad, rfl, hc0, hc1⟩ := H.out.at_ hj
        by_cases hg : 100 < (stp l j).s.size
        · have g1 : (100 : Int) < ((stp l j).s.size : Int) := by omega
          have HG := Lib.hid (great_yes (by rw [HL.out]; exact hj) hg)
          go_wp2_with fail
          go_ret
          exact ⟨by rw [HG.out]; rfl, rfl⟩
        · have g1 : ¬ (100 : Int) < ((stp l j).s.size : Int) := by omega
          have HG := Lib.hid hg
          clear hg
          go_wp2_with fail
          go_roundw
          case rel =>
            refine ⟨j + 1, by omega, by go_num, fun k hk => ?_, by first | rfl | trivial⟩
            by_cases hkj : k = j
            · subst hkj; exact HG.out
            · exact HA.out k (by omega)
          case measure => simp [intOf] <;> omega
      · have hji : ¬ (j : Int) < (n : Int) := by omega
        have HG := Lib.hid (great_no (by rw [HL.out]; exact h40) (fun k hk => HA.out k (by have := HL.out; omega)))
        go_wp2_with fail
        go_ret
        exact ⟨by rw [HG.out]; rfl, rfl⟩

/-- Whether two steps are the same, and whether two paths are. -/
def eqSt (x y : Stp) : Bool := eqS x.s y.s && x.id == y.id
def eqP (l m : List Stp) : Bool := decide (l.length = m.length) && (List.range l.length).all fun i => eqSt (stp l i) (stp m i)
theorem eqP_no {l m : List Stp} {j : Nat} (hj : j < l.length) (h : eqSt (stp l j) (stp m j) = false) : eqP l m = false := by
  unfold eqP
  rw [← Bool.not_eq_true, Bool.and_eq_true, List.all_eq_true]
  rintro ⟨_, h2⟩
  rw [h2 j (List.mem_range.2 hj)] at h
  cases h
theorem eqP_yes {l m : List Stp} (hl : l.length = m.length) (h : ∀ j, j < l.length → eqSt (stp l j) (stp m j) = true) : eqP l m = true := by
  unfold eqP
  rw [decide_eq_true hl, Bool.true_and, List.all_eq_true]
  exact fun i hi => h i (List.mem_range.1 hi)
theorem eqP_len {l m : List Stp} (hl : l.length ≠ m.length) : eqP l m = false := by
  unfold eqP
  rw [decide_eq_false hl]
  rfl


/-- A whole step loaded; an element's place; two steps held against each other. -/
theorem run_loadVar_st {P : Program} (w : World) (a : Addr) (ty : TypeId) (cs : List Value) (hc : ∀ j v, cs[j]? = some v → w.cell? (a.add j) = some v) {fs : Array Field}
    (hu : P.underlying ty = some (.struct fs)) (hi : (P.info? ty).map (·.size) = some cs.length) : (loadVar ty a).run P w = .ok (.agg cs.toArray) w := by
  have hl : (loadCells a cs.length).run P w = .ok cs.toArray w := run_loadCells_list (P := P) w a cs hc
  cases hq : P.info? ty with
  | none => simp [hq] at hi
  | some i =>
    have hs : i.size = cs.length := by simpa [hq] using hi
    have hagg : (isAgg ty).run P w = .ok true w := by
      unfold isAgg
      rw [Sem.run_bind, run_underlying hu w]
      simp
    simp [loadVar, Sem.run_bind, hagg, sizeOf, typeInfo, hq, hs, hl]
theorem st_size : (Tryz.prog.info? 67).map (·.size) = some 2 := by kernel_rfl
theorem ld_st {w : World} {A : Addr} {s : ByteArray} {i : Int} (h0 : w.cell? A = some (.string s)) (h1 : w.cell? ⟨A.block, A.off + 1, none⟩ = some (.int .u64 i)) :
    (Instr.loadAt 67 (.pointer (some A))).run Tryz.prog w = .ok (.agg #[.string s, .int .u64 i]) w := by
  have hv := run_loadVar_st (P := Tryz.prog) w A 67 [.string s, .int .u64 i] (fun j v hj => by
    match j, hj with
    | 0, hj => simp at hj; subst hj; exact h0
    | 1, hj => simp at hj; subst hj; exact h1) Tryz.underlying67 st_size
  simp only [Instr.loadAt, Instr.sureAddr, Sem.run_bind, Sem.run_pure, Result.andThen_ok, hv]
theorem ix_st (ad : Addr) (n cap k : Nat) (h : k < n) (w : World) : (Instr.indexAt 22 (.slice (some ad) n cap) (.int .i64 (k : Int))).run Tryz.prog w = .ok (.pointer (some (ad.add (k * 2)))) w := by
  have h1 : (0 : Int) ≤ (k : Int) := by omega
  have h2 : (k : Int) < (n : Int) := by omega
  go_simp
theorem eqg_st (x y : Operand) (s t : ByteArray) (i j : Int) (w : World) : (eqGuard .neq 67 x y (.agg #[.string s, .int .u64 i]) (.agg #[.string t, .int .u64 j])).run Tryz.prog w = .ok () w :=
  run_eqGuard_agg w .neq 67 x y _ _ (by kernel_rfl)
theorem ne_st (s t : ByteArray) (i j : Int) (w : World) : (binOp .neq 67 (.agg #[.string s, .int .u64 i]) (.agg #[.string t, .int .u64 j])).run Tryz.prog w = .ok (.bool (!eqSt ⟨s, i⟩ ⟨t, j⟩)) w := by
  rw [run_neq_struct]
  have h : (Op.equalIn 10000 67 (.agg #[.string s, .int .u64 i]) (.agg #[.string t, .int .u64 j])).run Tryz.prog w = .ok (eqSt ⟨s, i⟩ ⟨t, j⟩) w := by
    unfold eqSt eqS
    rw [run_equalIn_struct w 9999 67 _ _ (by kernel_rfl) (by kernel_rfl)]
    go_simp
    by_cases h1 : s.toList = t.toList
    · by_cases h2 : i = j
      · simp [h1, h2]
      · simp [h1, h2]
    · simp [h1]
  rw [h]
  rfl


/-- A load, by its run. -/
theorem wpList_loadr {P : Program} {ops : Array Oper} {rest : List Oper} {o : Oper} {a : Act} {w : World} {Q : Exit → Act → World → Prop} (hgd : o.guard = none) (ty : TypeId) (x : Operand) (ho : o.op = .load ty x) (u r : Value) (hx : a.eval x = u)
    (hi : (Instr.loadAt ty u).run P w = .ok r w) (h : wpList P ops Q rest (a.put o.dst r) w) : wpList P ops Q (o :: rest) a w := by
  refine wpList_plain hgd fun _ hK => ?_
  unfold Oper.wp execOp
  simp only [ho, Sem.run_bind, Sem.run_pure, Result.andThen_ok, hx, hi]
  exact hK _ _ h
theorem below_new (w : World) (o : Obj) : Below w.heap.size w (w.alloc o) := (Below.refl _ _).alloc (Nat.le_refl _) _
theorem below_then {w w' : World} {o : Obj} (h : Below (w.alloc o).heap.size (w.alloc o) w') : Below w.heap.size w w' := (below_new w o).trans (h.mono (below_new w o).size)

set_option maxHeartbeats 1600000 in
theorem psame_ref (a b : Option Addr) (n m c d : Nat) (l k : List Stp) (w : World) (ha : Sts w a n l) (hb : Sts w b m k) (hn : n ≤ 9223372036854775807) (hm : m ≤ 9223372036854775807) :
    Calls Tryz.prog 29 #[.slice a n c, .slice b m d] w fun e w' => e = .returned (.bool (eqP l k)) ∧ Below w.heap.size w w' := by
  have hl := ha.1
  have hk := hb.1
  by_cases hnm : n = m
  · subst hnm
    have HA := Lib.hid ha
    have HB := Lib.hid hb
    have HL := Lib.hid hl
    have HK := Lib.hid hk
    clear ha hb hl hk
    go_enter Tryz.func29, Tryz.ntmps29
    go_wp2_with fail
    go_loopw [5] (fun i wr => ∃ j : Nat, j ≤ n ∧ i = .int .i64 (j : Int) ∧ (∀ i, i < j → eqSt (stp l i) (stp k i) = true) ∧ Below w.heap.size w wr) (fun i _ => n - (intOf i).toNat)
    case atStart => exact ⟨0, Nat.zero_le _, rfl, fun _ hk => absurd hk (Nat.not_lt_zero _), Below.refl _ _⟩
    case round =>
      obtain ⟨j, hjn, rfl, hall, hbw⟩ := hrel
      have bj0 : (0 : Int) ≤ (j : Int) := by omega
      have HALL := Lib.hid hall
      have HBW := Lib.hid hbw
      clear hall hbw
      by_cases hj : j < n
      · have hji : (j : Int) < (n : Int) := by omega
        obtain ⟨ad, rfl, hc0, hc1⟩ := (HA.out.below HBW.out).at_ hj
        obtain ⟨bd, rfl, hd0, hd1⟩ := (HB.out.below HBW.out).at_ hj
        have hca : (ad.add (j * 2)).block < wr.heap.size := lt_of_cell hc0
        have hcb : (bd.add (j * 2)).block < wr.heap.size := lt_of_cell hd0
        have HNO := Lib.hid (fun h => eqP_no (l := l) (m := k) (j := j) (by rw [HL.out]; exact hj) h)
        have HMO := Lib.hid (fun (h : eqSt (stp l j) (stp k j) = true) i (hi : i < j + 1) => if hij : i = j then hij ▸ h else HALL.out i (by omega))
        generalize stp l j = x at *
        generalize stp k j = y at *
        obtain ⟨xs, xi⟩ := x
        obtain ⟨ys, yi⟩ := y
        obtain ⟨b, hb⟩ : ∃ b, eqSt ⟨xs, xi⟩ ⟨ys, yi⟩ = b := ⟨_, rfl⟩
        have HLA := Lib.hid (fun (w' : World) (h : Below wr.heap.size wr w') => ld_st ((h.cell hca).trans hc0) ((h.cell (p := ⟨(ad.add (j * 2)).block, (ad.add (j * 2)).off + 1, none⟩) hca).trans hc1))
        have HLB := Lib.hid (fun (w' : World) (h : Below wr.heap.size wr w') => ld_st ((h.cell hcb).trans hd0) ((h.cell (p := ⟨(bd.add (j * 2)).block, (bd.add (j * 2)).off + 1, none⟩) hcb).trans hd1))
        have HNE := Lib.hid (fun w' => (ne_st xs ys xi yi w').trans (by rw [hb]))
        rw [hb] at HNO HMO
        have HB2 := Lib.hid hb
        clear hc0 hc1 hd0 hd1 hb
        go_wp2_with fail
        refine wp_flat_none (aD := ?aD) (S := fun w' => Below wr.heap.size wr w') (vs := [(0, .slice (some ad) n c), (1, .int .i64 (j : Int)), (2, .pointer (some (ad.add (j * 2)))), (3, .agg #[.string xs, .int .u64 xi]), (4, .slice (some bd) n d), (5, .int .i64 (j : Int)), (6, .pointer (some (bd.add (j * 2)))), (7, .agg #[.string ys, .int .u64 yi]), (8, .bool (!b))]) (by kernel_rfl) ((Below.refl _ _).drew) (fun _ _ h k => S_trans h k) ?hD ?hk ?h
        case hD =>
          refine .step (some 17) rfl rfl (by kernel_rfl) (Gives.move rfl rfl) ?_
          simp only [Act.put, List.setIfInBounds_toArray, List.set_cons_zero, List.set_cons_succ]
          refine .step (some 18) rfl rfl (by kernel_rfl) (Gives.move rfl rfl) ?_
          simp only [Act.put, List.setIfInBounds_toArray, List.set_cons_zero, List.set_cons_succ]
          refine .step (some 19) rfl rfl (by kernel_rfl) (Gives.indexAt 22 (.tmp 17) (.tmp 18) rfl _ _ _ rfl rfl (fun w' => ix_st ad n c j hj w')) ?_
          simp only [Act.put, List.setIfInBounds_toArray, List.set_cons_zero, List.set_cons_succ]
          refine .step (some 20) rfl rfl (by kernel_rfl) (Gives.load 67 (.tmp 19) rfl _ _ rfl (fun w' h => HLA.out w' h)) ?_
          simp only [Act.put, List.setIfInBounds_toArray, List.set_cons_zero, List.set_cons_succ]
          refine .step (some 21) rfl rfl (by kernel_rfl) (Gives.move rfl rfl) ?_
          simp only [Act.put, List.setIfInBounds_toArray, List.set_cons_zero, List.set_cons_succ]
          refine .step (some 22) rfl rfl (by kernel_rfl) (Gives.move rfl rfl) ?_
          simp only [Act.put, List.setIfInBounds_toArray, List.set_cons_zero, List.set_cons_succ]
          refine .step (some 23) rfl rfl (by kernel_rfl) (Gives.indexAt 22 (.tmp 21) (.tmp 22) rfl _ _ _ rfl rfl (fun w' => ix_st bd n d j hj w')) ?_
          simp only [Act.put, List.setIfInBounds_toArray, List.set_cons_zero, List.set_cons_succ]
          refine .step (some 24) rfl rfl (by kernel_rfl) (Gives.load 67 (.tmp 23) rfl _ _ rfl (fun w' h => HLB.out w' h)) ?_
          simp only [Act.put, List.setIfInBounds_toArray, List.set_cons_zero, List.set_cons_succ]
          refine .step (some 25) rfl rfl (by kernel_rfl) (Gives.binop .neq 67 67 (.tmp 20) (.tmp 24) rfl _ _ _ rfl rfl (fun w' => eqg_st _ _ xs ys xi yi w') (fun w' => HNE.out w')) ?_
          simp only [Act.put, List.setIfInBounds_toArray, List.set_cons_zero, List.set_cons_succ]
          exact .nil
        case hk => kernel_rfl
        case h =>
        intro W1 hbl
        have HBL := Lib.hid (HBW.out.trans (hbl.mono HBW.out.size))
        clear hbl
        cases b
        · go_wp2_with fail
          go_ret
          exact ⟨by rw [HNO.out (by first | rfl | trivial)]; rfl, HBL.out⟩
        · go_wp2_with fail
          go_roundw
          case rel => exact ⟨j + 1, by omega, by go_num, HMO.out (by first | rfl | trivial), HBL.out⟩
          case measure => simp [intOf] <;> omega
      · have hji : ¬ (j : Int) < (n : Int) := by omega
        have HG := Lib.hid (eqP_yes (by rw [HL.out, HK.out]) (fun i hi => HALL.out i (by have := HL.out; omega)))
        go_wp2_with fail
        go_ret
        exact ⟨by rw [HG.out]; rfl, HBW.out⟩
  · have g1 : (((n : Nat) : Int) != (m : Int)) = true := by rw [bne_iff_ne]; omega
    have g2 : (n != m) = true := by rw [bne_iff_ne]; exact hnm
    have HG := Lib.hid (eqP_len (l := l) (m := k) (by omega))
    clear ha hb hl hk hnm
    go_enter Tryz.func29, Tryz.ntmps29
    go_wp2_with fail
    go_ret
    exact ⟨by rw [HG.out]; rfl, Below.refl _ _⟩
end

section
set_option maxRecDepth 100000
set_option linter.unusedSimpArgs false
set_option linter.unusedVariables false
open Go.RowKit

def stB (x : Stp) : Bool := (nameB x.s && x.id == 0) || (decide (x.s.size = 0) && x.id != 0)
def rightP (l : List Stp) : Bool := decide (l.length ≤ 8) && (List.range l.length).all fun i => stB (stp l i)
theorem empty_of {s : ByteArray} (h : s.size = 0) : s = ByteArray.empty := by
  obtain ⟨⟨d⟩⟩ := s
  cases d with
  | nil => rfl
  | cons x d => simp [ByteArray.size] at h
theorem name_size {s : ByteArray} (h : nameB s = true) : s.size ≠ 0 ∧ s.size ≤ 12 := by
  rw [name_lets, Bool.and_eq_true, Bool.and_eq_true] at h
  have h1 := of_decide_eq_true h.1.1
  have h2 := of_decide_eq_true h.1.2
  omega
theorem isEmpty_ne {s : ByteArray} (h : s.size ≠ 0) : s.toList.isEmpty = false := by
  have h2 : s.toList.length = s.size := by rw [ByteArray.toList_eq]; simp
  cases hs : s.toList with
  | nil => rw [hs] at h2; exact absurd h2.symm h
  | cons x l => rfl
theorem toList_ne {s : ByteArray} (h : s.size ≠ 0) : ¬ s.toList = [] := fun e => h (by
  have h2 : s.toList.length = s.size := by rw [ByteArray.toList_eq]; simp
  rw [e] at h2
  simpa using h2.symm)

set_option maxHeartbeats 800000 in
theorem right1_any (s : ByteArray) (i : Int) (hok : StOk ⟨s, i⟩) (w : World) :
    Calls Tryz.prog 80 #[.agg #[.string s, .int .u64 i]] w fun e w' => e = .returned (.bool (stB ⟨s, i⟩)) ∧ Below w.heap.size w w' := by
  have hsz : s.size ≤ maxLen := hok.sz
  by_cases h0 : s.size = 0
  · obtain rfl := empty_of h0
    have HB := Lib.hid (show stB ⟨ByteArray.empty, i⟩ = (i != 0) from by unfold stB; rw [show nameB ByteArray.empty = false from rfl]; rfl)
    clear hok hsz h0
    go_enter Tryz.func80, Tryz.ntmps80
    go_wp2_with fail
    go_ret
    exact ⟨by rw [HB.out]; rfl, (Below.refl _ _).alloc (Nat.le_refl _) _⟩
  · have hne := toList_ne h0
    have hne2 := isEmpty_ne h0
    have hne3 : (s.toList == []) = false := beq_eq_false_iff_ne.2 hne
    have HN := Lib.hid (vname_any s hsz)
    by_cases hi : i = 0
    · subst hi
      have HB := Lib.hid (show stB ⟨s, 0⟩ = nameB s from by unfold stB; simp [h0])
      clear hok hsz
      go_enter Tryz.func80, Tryz.ntmps80
      go_wp2_with fail
      refine (HN.out _).mono ?_
      rintro e W1 ⟨rfl, rfl⟩
      go_wp2_with fail
      go_ret
      exact ⟨by rw [HB.out]; rfl, (Below.refl _ _).alloc (Nat.le_refl _) _⟩
    · have hi2 : (i == 0) = false := beq_eq_false_iff_ne.2 hi
      have HB := Lib.hid (show stB ⟨s, i⟩ = false from by unfold stB; simp [h0, hi])
      clear hok hsz
      go_enter Tryz.func80, Tryz.ntmps80
      go_wp2_with fail
      go_ret
      exact ⟨by rw [HB.out]; first | rfl | (simp [hi2]), (Below.refl _ _).alloc (Nat.le_refl _) _⟩

theorem s_rightc_any (x : Stp) (hok : StOk x) (w : World) :
    Calls Tryz.prog 79 #[.agg #[.string x.s, .int .u64 x.id]] w fun e w' => e = .returned (.bool (!stB x)) ∧ Below w.heap.size w w' := by
  obtain ⟨s, i⟩ := x
  have HR := Lib.hid (right1_any s i hok)
  clear hok
  go_enter Tryz.func79, Tryz.ntmps79
  go_wp2_with fail
  refine (HR.out _).mono ?_
  rintro e W1 ⟨rfl, hb⟩
  have HB := Lib.hid hb
  clear hb
  go_wp2_with fail
  go_ret
  exact ⟨rfl, below_then HB.out⟩

/-- What IndexFunc finds: the first one, or none. -/
def IsFst (p : Nat → Bool) (n : Nat) (r : Int) : Prop := (r = -1 ∧ ∀ i, i < n → p i = false) ∨ ∃ j : Nat, j < n ∧ r = j ∧ p j = true
theorem IsFst.any {p : Nat → Bool} {n : Nat} {r : Int} (h : IsFst p n r) : (decide (0 ≤ r)) = (List.range n).any p := by
  rcases h with ⟨rfl, h⟩ | ⟨j, hj, rfl, hp⟩
  · rw [show decide ((0 : Int) ≤ -1) = false from rfl]
    symm
    rw [← Bool.not_eq_true, List.any_eq_true]
    rintro ⟨i, hi, hp⟩
    rw [h i (List.mem_range.1 hi)] at hp
    cases hp
  · rw [decide_eq_true (by omega)]
    symm
    rw [List.any_eq_true]
    exact ⟨j, List.mem_range.2 hj, hp⟩

set_option maxHeartbeats 800000 in
theorem s_if_right (a : Option Addr) (n c : Nat) (l : List Stp) (hn : n ≤ 9223372036854775807) (w : World) (h : Sts w a n l) (hok : ∀ x ∈ l, StOk x) :
    Calls Tryz.prog 118 #[.slice a n c, .func (.func 79) #[] #[]] w fun e w' => (∃ r, e = .returned (.int .i64 r) ∧ IsFst (fun i => !stB (stp l i)) n r) ∧ Below w.heap.size w w' := by
  have HL := Lib.hid h.1
  have H := Lib.hid h
  have HOK := Lib.hid hok
  clear h hok
  go_enter Tryz.func118, Tryz.ntmps118
  go_wp2_with fail
  go_loopw [8] (fun i wr => ∃ j : Nat, j ≤ n ∧ i = .int .i64 (j : Int) ∧ (∀ i, i < j → (!stB (stp l i)) = false) ∧ Below w.heap.size w wr) (fun i _ => n - (intOf i).toNat)
  case atStart => exact ⟨0, Nat.zero_le _, rfl, fun _ h => absurd h (Nat.not_lt_zero _), Below.refl _ _⟩
  case round =>
    obtain ⟨j, hjn, rfl, hall, hw⟩ := hrel
    have bj0 : (0 : Int) ≤ (j : Int) := by omega
    by_cases hj : j < n
    · have hji : (j : Int) < (n : Int) := by omega
      obtain ⟨ad, rfl, hc0, hc1⟩ := (H.out.below hw).at_ hj
      have HA := Lib.hid hall
      have HW := Lib.hid hw
      have hfj := s_rightc_any (stp l j) (ok_get HOK.out (by rw [HL.out]; exact hj)) wr
      have HLD := Lib.hid (ld_st hc0 hc1)
      obtain ⟨b, hb⟩ : ∃ b, (!stB (stp l j)) = b := ⟨_, rfl⟩
      rw [hb] at hfj
      have HFJ := Lib.hid hfj
      have HB := Lib.hid hb
      clear hall hw hfj hb hc0 hc1
      cases b
      · skip
        go_wp2_with (refine wpList_loadr rfl 67 (.tmp 14) rfl _ _ rfl HLD.out ?_)
        refine HFJ.out.mono ?_
        rintro e W1 ⟨rfl, hbl⟩
        have HBL := Lib.hid hbl
        clear hbl
        go_wp2_with fail
        go_roundw
        case rel =>
          refine ⟨j + 1, by omega, by go_num, fun i hi => ?_, HW.out.trans (HBL.out.mono HW.out.size)⟩
          by_cases hij : i = j
          · subst hij; exact HB.out
          · exact HA.out i (by omega)
        case measure => simp [intOf] <;> omega
      · skip
        go_wp2_with (refine wpList_loadr rfl 67 (.tmp 14) rfl _ _ rfl HLD.out ?_)
        refine HFJ.out.mono ?_
        rintro e W1 ⟨rfl, hbl⟩
        have HBL := Lib.hid hbl
        clear hbl
        go_wp2_with fail
        go_ret
        exact ⟨⟨_, rfl, .inr ⟨j, hj, rfl, HB.out⟩⟩, HW.out.trans (HBL.out.mono HW.out.size)⟩
    · obtain rfl : j = n := by omega
      have HA := Lib.hid hall
      have HW := Lib.hid hw
      clear hall hw
      go_wp2_with fail
      go_ret
      exact ⟨⟨_, rfl, .inl ⟨rfl, HA.out⟩⟩, HW.out⟩

theorem s_cf_right (a : Option Addr) (n c : Nat) (l : List Stp) (hn : n ≤ 9223372036854775807) (w : World) (h : Sts w a n l) (hok : ∀ x ∈ l, StOk x) :
    Calls Tryz.prog 78 #[.slice a n c, .func (.func 79) #[] #[]] w fun e w' => e = .returned (.bool ((List.range n).any fun i => !stB (stp l i))) ∧ Below w.heap.size w w' := by
  have HI := Lib.hid (s_if_right a n c l hn w h hok)
  clear h hok
  go_enter Tryz.func78, Tryz.ntmps78
  go_wp2_with fail
  refine HI.out.mono ?_
  rintro e W1 ⟨⟨r, rfl, hr⟩, hb⟩
  have HR := Lib.hid hr.any
  have HB := Lib.hid hb
  clear hr hb
  go_wp2_with fail
  go_ret
  exact ⟨by rw [← HR.out]; rfl, HB.out⟩
theorem s_not_any (p : Nat → Bool) (n : Nat) : (!(List.range n).any fun i => !p i) = (List.range n).all p := by
  rw [Bool.eq_iff_iff]
  simp
theorem pright_any (a : Option Addr) (n c : Nat) (l : List Stp) (hn : n ≤ 9223372036854775807) (w : World) (h : Sts w a n l) (hok : ∀ x ∈ l, StOk x) :
    Calls Tryz.prog 38 #[.slice a n c] w fun e w' => e = .returned (.bool (rightP l)) ∧ Below w.heap.size w w' := by
  have hl := h.1
  by_cases h8 : n ≤ 8
  · have g8 : (n : Int) ≤ 8 := by omega
    have HC := Lib.hid (s_cf_right a n c l hn w h hok)
    have HR := Lib.hid (show rightP l = !((List.range n).any fun i => !stB (stp l i)) from by unfold rightP; rw [s_not_any, hl, decide_eq_true h8, Bool.true_and])
    clear h hok hl
    go_enter Tryz.func38, Tryz.ntmps38
    go_wp2_with fail
    refine HC.out.mono ?_
    rintro e W1 ⟨rfl, hb⟩
    have HB := Lib.hid hb
    clear hb
    go_wp2_with fail
    go_ret
    exact ⟨by rw [HR.out]; rfl, HB.out⟩
  · have g8 : ¬ (n : Int) ≤ 8 := by omega
    have HR := Lib.hid (show rightP l = false from by unfold rightP; rw [hl, decide_eq_false h8]; rfl)
    clear h hok hl
    go_enter Tryz.func38, Tryz.ntmps38
    go_wp2_with fail
    go_ret
    exact ⟨by rw [HR.out]; rfl, Below.refl _ _⟩


theorem rightP_no {l : List Stp} {j : Nat} (hj : j < l.length) (h : stB (stp l j) = false) : rightP l = false := by
  unfold rightP
  rw [← Bool.not_eq_true, Bool.and_eq_true, List.all_eq_true]
  rintro ⟨_, h2⟩
  rw [h2 j (List.mem_range.2 hj)] at h
  cases h
theorem rightP_yes {l : List Stp} (h : ∀ j, j < l.length → stB (stp l j) = true) : rightP l = decide (l.length ≤ 8) := by
  unfold rightP
  rw [show ((List.range l.length).all fun i => stB (stp l i)) = true from List.all_eq_true.2 fun i hi => h i (List.mem_range.1 hi), Bool.and_true]

set_option maxHeartbeats 1600000 in
theorem pright_ref (a : Option Addr) (n c : Nat) (l : List Stp) (hn : n ≤ 9223372036854775807) (w : World) (h : Sts w a n l) (hok : ∀ x ∈ l, StOk x) :
    Calls Tryz.prog 19 #[.slice a n c] w fun e w' => e = .returned (.bool (rightP l)) ∧ Below w.heap.size w w' := by
  have HL := Lib.hid h.1
  have H := Lib.hid h
  have HOK := Lib.hid hok
  clear h hok
  go_enter Tryz.func19, Tryz.ntmps19
  go_wp2_with fail
  go_loopw [3, 4, 5] (fun i _ _ wr => ∃ j : Nat, j ≤ n ∧ i = .int .i64 (j : Int) ∧ (∀ i, i < j → stB (stp l i) = true) ∧ Below w.heap.size w wr) (fun i _ _ _ => n - (intOf i).toNat)
  case atStart => exact ⟨0, Nat.zero_le _, rfl, fun _ h => absurd h (Nat.not_lt_zero _), Below.refl _ _⟩
  case round =>
    obtain ⟨j, hjn, rfl, hall, hw⟩ := hrel
    have bj0 : (0 : Int) ≤ (j : Int) := by omega
    have HBW := Lib.hid hw
    by_cases hj : j < n
    · have hji : (j : Int) < (n : Int) := by omega
      obtain ⟨ad, rfl, hc0, hc1⟩ := (H.out.below hw).at_ hj
      have hsz : (stp l j).s.size ≤ maxLen := (ok_get HOK.out (by rw [HL.out]; exact hj)).sz
      have HNO := Lib.hid (fun h => rightP_no (l := l) (j := j) (by rw [HL.out]; exact hj) h)
      have HMO := Lib.hid (fun (h : stB (stp l j) = true) i (hi : i < j + 1) => if hij : i = j then hij ▸ h else hall i (by omega))
      clear hall hw
      generalize stp l j = x at *
      obtain ⟨s, i⟩ := x
      have hsz : s.size ≤ maxLen := hsz
      obtain ⟨b, hna⟩ : ∃ b, nameB s = b := ⟨_, rfl⟩
      have hnm := rname_ref s hsz wr
      rw [hna] at hnm
      have HNA := Lib.hid hnm
      have HN1 := Lib.hid hna
      clear hnm
      by_cases h0 : s.size = 0
      · obtain rfl := empty_of h0
        obtain rfl : b = false := by rw [← hna]; rfl
        clear hna
        by_cases hi : i = 0
        · subst hi
          go_wp2_with fail
          refine HNA.out.mono ?_
          rintro e W1 ⟨rfl, rfl⟩
          go_wp2_with fail
          go_ret
          exact ⟨by rw [HNO.out (by unfold stB; simp [HN1.out])]; rfl, HBW.out⟩
        · have hi2 : (i == 0) = false := beq_eq_false_iff_ne.2 hi
          have hi3 : (i != 0) = true := bne_iff_ne.2 hi
          go_wp2_with fail
          refine HNA.out.mono ?_
          rintro e W1 ⟨rfl, rfl⟩
          go_wp2_with fail
          go_roundw
          case rel => exact ⟨j + 1, by omega, by go_num, HMO.out (by unfold stB; simp [HN1.out, hi]), HBW.out⟩
          case measure => simp [intOf] <;> omega
      · have hne := toList_ne h0
        have hne2 := isEmpty_ne h0
        have hne3 : (s.toList == []) = false := beq_eq_false_iff_ne.2 hne
        clear hna
        cases b
        · skip
          go_wp2_with fail
          refine HNA.out.mono ?_
          rintro e W1 ⟨rfl, rfl⟩
          go_wp2_with fail
          go_ret
          exact ⟨by rw [HNO.out (by unfold stB; simp [HN1.out, h0])]; rfl, HBW.out⟩
        · by_cases hi : i = 0
          · subst hi
            go_wp2_with fail
            refine HNA.out.mono ?_
            rintro e W1 ⟨rfl, rfl⟩
            go_wp2_with fail
            go_roundw
            case rel => exact ⟨j + 1, by omega, by go_num, HMO.out (by unfold stB; simp [HN1.out, h0]), HBW.out⟩
            case measure => simp [intOf] <;> omega
          · have hi2 : (i == 0) = false := beq_eq_false_iff_ne.2 hi
            have hi3 : (i != 0) = true := bne_iff_ne.2 hi
            go_wp2_with fail
            refine HNA.out.mono ?_
            rintro e W1 ⟨rfl, rfl⟩
            go_wp2_with fail
            go_ret
            exact ⟨by rw [HNO.out (by unfold stB; simp [HN1.out, h0, hi])]; rfl, HBW.out⟩
    · obtain rfl : j = n := by omega
      have hry := rightP_yes (l := l) (fun i hi => hall i (by have := HL.out; omega))
      clear hall hw
      rw [HL.out] at hry
      by_cases h8 : j ≤ 8
      · have g8 : (j : Int) ≤ 8 := by omega
        rw [decide_eq_true h8] at hry
        have HRY := Lib.hid hry
        clear hry
        go_wp2_with fail
        go_ret
        exact ⟨by rw [HRY.out]; rfl, HBW.out⟩
      · have g8 : ¬ (j : Int) ≤ 8 := by omega
        rw [decide_eq_false h8] at hry
        have HRY := Lib.hid hry
        clear hry
        go_wp2_with fail
        go_ret
        exact ⟨by rw [HRY.out]; rfl, HBW.out⟩
end

section
open Go.RowKit

theorem u8_info : (Tryz.prog.info? 5).map (fun i => (i.zero, i.size, i.bytes)) = some (some (.int .u8 0), 1, 1) := by kernel_rfl

/-- A writer at a: what it holds is the row v, the bytes l. -/
structure Wr (w : World) (a : Addr) (v : Value) (l : List UInt8) : Prop where
  cell : w.cell? a = some v
  free : w.frozen? a = false
  row : w.ownsRow 0 5 1 v l.length (Bs l)
  off : v.ownBlock ≠ some a.block

theorem Wr.only {w w' : World} {S : Nat → Prop} {a : Addr} {v : Value} {l : List UInt8} (h : Wr w a v l) (ho : Only S w w') (h1 : ¬ S a.block) (h2 : ∀ k, v.ownBlock = some k → ¬ S k) : Wr w' a v l :=
  ⟨(ho.cell h1 (lt_of_cell h.cell)).trans h.cell, (ho.frozen h1 (lt_of_cell h.cell)).trans h.free, own_only h.row ho h2, h.off⟩
theorem Wr.below {w w' : World} {a : Addr} {v : Value} {l : List UInt8} (h : Wr w a v l) (ho : Below w.heap.size w w') : Wr w' a v l :=
  h.only (Only.of_below ho (fun _ => False)) (fun h => h) (fun _ _ h => h)
theorem Wr.alloc {w : World} {a : Addr} {v : Value} {l : List UInt8} (h : Wr w a v l) (o : Obj) : Wr (w.alloc o) a v l := h.below ((Below.refl _ _).alloc (Nat.le_refl _) _)
theorem Wr.lt {w : World} {a : Addr} {v : Value} {l : List UInt8} (h : Wr w a v l) : a.block < w.heap.size := lt_of_cell h.cell
theorem Wr.rowlt {w : World} {a : Addr} {v : Value} {l : List UInt8} (h : Wr w a v l) : ∀ k, v.ownBlock = some k → k < w.heap.size := fun k hk => (h.row.lt k hk).2

theorem raw_wr {w w' : World} {a : Addr} {v' u : Value} {l k : List UInt8} {b : Option Nat} (hc : w'.cell? a = some u) (hf : w'.frozen? a = false) (hal : a.block < w.heap.size)
    (hown : w'.ownsRow 0 5 1 v' (l.length + k.length) (Bs l ++ Bs k)) (hat : v'.ownBlock = b ∨ v'.ownBlock = some w.heap.size) (hoff : b ≠ some a.block) :
    Wr (w'.setCell a v') a v' (l ++ k) := by
  have hne : v'.ownBlock ≠ some a.block := by
    rcases hat with h | h
    · rw [h]; exact hoff
    · rw [h]; intro e; injection e with e; omega
  refine ⟨World.cell?_setCell_same _ _ _ hc, by rw [World.frozen?_setCell]; exact hf, ?_, hne⟩
  rw [List.length_append, Bs_append]
  exact hown.kept (row := some a.block) ⟨rfl, rfl, rfl, by simp, fun j _ hj => Below.heap_setCell _ _ _ _ (fun e => hj (by rw [e]))⟩ (.inr hne)

/-- The writer at a held the row v in w; in w' it holds v', with the bytes l. -/
structure Wrote (w w' : World) (a : Addr) (v v' : Value) (l : List UInt8) : Prop where
  wr : Wr w' a v' l
  only : Only (fun j => j = a.block ∨ v.ownBlock = some j) w w'
  near : v'.ownBlock = v.ownBlock ∨ ∃ g, v'.ownBlock = some g ∧ w.heap.size ≤ g

section
variable {w w' w'' : World} {a : Addr} {v v' v'' : Value} {l k : List UInt8}
theorem Wrote.refl (h : Wr w a v l) : Wrote w w a v v l := ⟨h, Only.refl _ _, .inl rfl⟩
theorem Wrote.trans (h : Wrote w w' a v v' l) (h' : Wrote w' w'' a v' v'' k) : Wrote w w'' a v v'' k := by
  refine ⟨h'.wr, h.only.trans h'.only fun j hj hk => ?_, ?_⟩
  · rcases hk with hk | hk
    · exact .inl hk
    · rcases h.near with e | ⟨g, e, hg⟩
      · rw [e] at hk; exact .inr hk
      · rw [e] at hk; injection hk with hk; omega
  · rcases h'.near with e | ⟨g, e, hg⟩
    · rw [e]; exact h.near
    · exact .inr ⟨g, e, Nat.le_trans h.only.size hg⟩
theorem Wrote.after {w0 : World} (h : Wrote w w' a v v' l) (hb : Below w0.heap.size w0 w) : Wrote w0 w' a v v' l :=
  ⟨h.wr, (Only.of_below hb _).trans h.only fun _ _ hk => hk, h.near.imp id fun ⟨g, e, hg⟩ => ⟨g, e, Nat.le_trans hb.size hg⟩⟩
theorem Wrote.then (h : Wrote w w' a v v' l) (hb : Below w'.heap.size w' w'') : Wrote w w'' a v v' l :=
  ⟨h.wr.below hb, h.only.trans (Only.of_below hb (fun _ => False)) fun _ _ hk => hk.elim, h.near⟩
theorem Wrote.rows (h : Wrote w w' a v v' l) : ∀ j, v'.ownBlock = some j → v.ownBlock = some j ∨ w.heap.size ≤ j := fun j hj => by
  rcases h.near with e | ⟨g, e, hg⟩
  · rw [e] at hj; exact .inl hj
  · rw [e] at hj; injection hj with hj; exact .inr (by omega)
end

set_option maxHeartbeats 400000 in
theorem raw_any (a : Addr) (v : Value) (l : List UInt8) (A : Option Addr) (n c : Nat) (k : List UInt8) (F : Nat → Prop) (w : World) (hw : Wr w a v l) (hr : Rd w F A n (Bs k)) (hlen : l.length + n ≤ 140737488355328) :
    Calls Tryz.prog 46 #[.pointer (some a), .slice A n c] w fun e w' => e = .returned (.tuple #[]) ∧ ∃ v', Wrote w w' a v v' (l ++ k) := by
  obtain ⟨i0, hi, hz0, hz1, hz2⟩ := info_parts u8_info
  obtain ⟨hc, hf, ho, hoff⟩ := hw
  obtain rfl : n = k.length := hr.len.symm
  go_enter Tryz.func46, Tryz.ntmps46
  go_wp2_with (at_builtin; refine wpList_append_rd _ rfl (.tmp 10) (.tmp 11) 33 rfl 0 5 i0 (.int .u8 0) 1 Tryz.underlying33 hi hz0 hz1 hz2 rfl v l.length (Bs l) rfl ho F A k.length c (Bs k) rfl hr (Bs_one k) ?c1 ?c2 ?c3 ?_)
  case c1 => unfold maxLen; omega
  case c2 => omega
  case c3 => omega
  intro v' w' hown hg hat
  obtain ⟨A', c', rfl⟩ := own_slice hown
  have hal := lt_of_cell hc
  have hc' := (World.cell?_of_block (hg.block a.block hal (Ne.symm hoff))).trans hc
  have hf' := (World.frozen?_of_block (hg.block a.block hal (Ne.symm hoff))).trans hf
  go_wp2
  go_end0
  refine ⟨rfl, _, ⟨raw_wr hc' hf' hal hown hat hoff, ?_, hat.imp id fun h => ⟨_, h, Nat.le_refl _⟩⟩⟩
  exact ((Only.refl _ _).grown hg (fun j hj => .inl (.inr hj))).setCell (.inl (.inl rfl)) _
end

end Go.Proofs.YtmiadkhfjkaidaaGreatDoor
