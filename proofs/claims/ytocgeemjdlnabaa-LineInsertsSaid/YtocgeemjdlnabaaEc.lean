/- Which of two names is ahead: the document's, and the program's; the number of a name's first bytes. -/
import Derived.Test.YtocgeemjdlnabaaEb
namespace Go.Proofs.Ytocgeemjdlnabaa
set_option maxRecDepth 100000
set_option linter.unusedSimpArgs false
set_option linter.unusedVariables false
open Go.RowKit

theorem Hs.cell {W : World} {g : Nat} {T : TypeId} {a : Hs} (h : Row W g T a.c) {i : Nat} (hi : i < 32) : W.cell? ⟨g, i, none⟩ = some (.int .u8 ((a.1.getD i 0).toNat : Int)) := by
  refine h.cell ?_
  unfold Hs.c
  have hl : i < a.1.length := by rw [a.2]; exact hi
  rw [Bs_get, List.getElem?_eq_getElem hl, List.getD_eq_getElem?_getD, List.getElem?_eq_getElem hl]
  rfl
theorem Hs.less_at {a b : Hs} {i : Nat} (hi : i < 32) (he : a.1.take i = b.1.take i) (hne : a.1.getD i 0 ≠ b.1.getD i 0) : decide (a.n < b.n) = decide ((a.1.getD i 0).toNat < (b.1.getD i 0).toNat) := by
  unfold Hs.n
  rw [num_first (a.2.trans b.2.symm) (by rw [a.2]; exact hi) he hne]
  congr 1
theorem take_next {l m : List UInt8} (hl : l.length = m.length) {i : Nat} (h : l.take i = m.take i) (he : l.getD i 0 = m.getD i 0) : l.take (i + 1) = m.take (i + 1) := by
  rw [List.take_add_one, List.take_add_one, h]
  congr 1
  rw [List.getD_eq_getElem?_getD, List.getD_eq_getElem?_getD] at he
  by_cases hi : i < l.length
  · rw [List.getElem?_eq_getElem hi, List.getElem?_eq_getElem (by omega)] at he ⊢
    simpa using he
  · rw [List.getElem?_eq_none (by omega), List.getElem?_eq_none (by omega)]
theorem Hs.same_all {a b : Hs} (h : a.1.take 32 = b.1.take 32) : a = b := by
  rw [List.take_of_length_le (by rw [a.2]; exact Nat.le_refl _), List.take_of_length_le (by rw [b.2]; exact Nat.le_refl _)] at h
  exact Subtype.ext h
set_option maxHeartbeats 1600000 in
theorem rless_any (a b : Hs) (W : World) :
    Calls Try.prog 26 #[.agg a.c.toArray, .agg b.c.toArray] W fun e w' => e = .returned (.bool (decide (a.n < b.n))) ∧ Below W.heap.size W w' := by
  have R1 := Lib.hid ((Row.new W a.c 24).belowAll (below_newE _ (.cells b.c.toArray 24)))
  have R2 := Lib.hid (row_new1E W (.cells a.c.toArray 24) b.c 24)
  have HB := Lib.hid ((below_newE W (.cells a.c.toArray 24)).alloc (by simp) (.cells b.c.toArray 24))
  generalize hx : a.c.toArray = x at *
  generalize hy : b.c.toArray = y at *
  go_enter Try.func26, Try.ntmps26
  go_wp2_with fail
  generalize ((W.alloc (.cells x 24)).alloc (.cells y 24)) = W0 at *
  go_loopw [5] (fun v wr => ∃ i : Nat, i ≤ 32 ∧ v = .int .i64 (i : Int) ∧ a.1.take i = b.1.take i ∧ Row wr W.heap.size 24 a.c ∧ Row wr (W.heap.size + 1) 24 b.c ∧ Below W.heap.size W wr) (fun v _ => 32 - (intOf v).toNat)
  case atStart => exact ⟨0, by omega, rfl, by simp, R1.out, R2.out, HB.out⟩
  case round =>
    obtain ⟨i, hi, rfl, he, hr1, hr2, hb⟩ := hrel
    by_cases h32 : i < 32
    · have hi1 : (i : Int) < 32 := by omega
      have hi0 : (0 : Int) ≤ (i : Int) := by omega
      have c1 := Hs.cell hr1 h32
      have c2 := Hs.cell hr2 h32
      have hla := Hs.less_at h32 he
      have htn := take_next (a.2.trans b.2.symm) he
      have hxy : ((a.1.getD i 0).toNat : Int) = ((b.1.getD i 0).toNat : Int) ↔ a.1.getD i 0 = b.1.getD i 0 := ⟨fun h => UInt8.toNat_inj.1 (by omega), fun h => by rw [h]⟩
      generalize a.1.getD i 0 = u at *
      generalize b.1.getD i 0 = v at *
      have HR1 := Lib.hid hr1
      have HR2 := Lib.hid hr2
      have HBB := Lib.hid hb
      have HLA := Lib.hid hla
      have HTN := Lib.hid htn
      clear hr1 hr2 hb hla htn hxy he
      by_cases huv : u = v
      · have h1 : ((u.toNat : Int) != (v.toNat : Int)) = false := by rw [huv]; simp
        have h2 : u.toNat = v.toNat := by rw [huv]
        have hw : IntKind.i64.wrap ((i : Int) + 1) = ((i + 1 : Nat) : Int) := by rw [IntKind.wrap_i64]; omega
        go_wp2_with fail
        go_region_held3 (fun w' => w'.cell? ⟨W.heap.size, i, none⟩ = some (.int .u8 (u.toNat : Int)) ∧ w'.cell? ⟨W.heap.size + 1, i, none⟩ = some (.int .u8 (v.toNat : Int))) (go_keep) (first | fail)
        go_wp2_with fail
        go_roundw
        case rel => exact ⟨i + 1, by omega, by go_num, HTN.out huv, HR1.out.drewN 1, HR2.out.drewN 1, HBB.out.drew⟩
        case measure => simp [intOf] <;> omega
      · have h1 : ((u.toNat : Int) != (v.toNat : Int)) = true := by
          rw [bne_iff_ne]
          intro h
          exact huv (UInt8.toNat_inj.1 (by omega))
        have h2 : ¬ u.toNat = v.toNat := fun h => huv (UInt8.toNat_inj.1 h)
        have HL2 := Lib.hid (HLA.out huv)
        have d1 : wr.drew.cell? ⟨W.heap.size, i, none⟩ = some (.int .u8 (u.toNat : Int)) := c1
        have d2 : wr.drew.cell? ⟨W.heap.size + 1, i, none⟩ = some (.int .u8 (v.toNat : Int)) := c2
        go_wp2_with fail
        go_region_held3 (fun w' => w'.cell? ⟨W.heap.size, i, none⟩ = some (.int .u8 (u.toNat : Int)) ∧ w'.cell? ⟨W.heap.size + 1, i, none⟩ = some (.int .u8 (v.toNat : Int))) (go_keep) (first | fail)
        go_wp2_with fail
        go_region_held3 (fun w' => w'.cell? ⟨W.heap.size, i, none⟩ = some (.int .u8 (u.toNat : Int)) ∧ w'.cell? ⟨W.heap.size + 1, i, none⟩ = some (.int .u8 (v.toNat : Int))) (go_keep) (first | fail)
        go_wp2_with fail
        go_ret
        exact ⟨congrArg (fun b => Ending.returned (.bool b)) HL2.out.symm, HBB.out.drew.drew⟩
    · obtain rfl : i = 32 := by omega
      have hab := Hs.same_all he
      have HBB := Lib.hid hb
      have HAB := Lib.hid hab
      clear hr1 hr2 hb he hab
      go_wp2_with fail
      go_ret
      refine ⟨?_, HBB.out⟩
      rw [HAB.out]
      simp

end Go.Proofs.Ytocgeemjdlnabaa
