/- The document's Common, walked. -/
import Derived.Test.YtpegkalhjnldkaaDc
namespace Go.Proofs.Ytpegkalhjnldkaa
set_option maxRecDepth 100000
set_option linter.unusedSimpArgs false
set_option linter.unusedVariables false
open Go.RowKit

set_option maxHeartbeats 3200000 in
theorem common_ref (A B : Option Addr) (n m cA cB : Nat) (a b : List Int) (w : World) (ha : RdU w A n a) (hb : RdU w B m b) (hn : n ≤ 60) (hm : m ≤ 60) :
    Calls Try.prog 6 #[.slice A n cA, .slice B m cB] w fun e w' => e = .returned (.int .i64 (Lcs.lcs a b : Nat)) ∧ Below w.heap.size w w' := by
  have HLA := Lib.hid ha.1
  have HLB := Lib.hid hb.1
  have HA := Lib.hid ha
  have HB := Lib.hid hb
  clear ha hb
  have hk1 : ∀ w : World, (Instr.makeSlice 49 (.int .i64 ((n : Int) + 1)) (.int .i64 ((n : Int) + 1))).run Try.prog w = .ok (.slice (some ⟨w.heap.size, 0, none⟩) (n + 1) (n + 1)) (w.alloc (.cells (Array.replicate (n + 1) (Value.slice none 0 0)) 46)) := fun w => mk_rows n hn w
  have hk2 : ∀ w : World, (Instr.makeSlice 46 (.int .i64 ((m : Int) + 1)) (.int .i64 ((m : Int) + 1))).run Try.prog w = .ok (.slice (some ⟨w.heap.size, 0, none⟩) (m + 1) (m + 1)) (w.alloc (.cells (Array.replicate (m + 1) (Value.int .i64 0)) 3)) := fun w => mk_ints m hm w
  have hz1 : IntKind.i64.wrap ((n : Int) + 1) = (n : Int) + 1 := by rw [IntKind.wrap_i64]; omega
  have hz2 : IntKind.i64.wrap ((m : Int) + 1) = (m : Int) + 1 := by rw [IntKind.wrap_i64]; omega
  go_enter Try.func6, Try.ntmps6
  go_wp2_with fail
  go_loopw [6] (fun v wr => ∃ (k : Nat) (z : Int), k ≤ n + 1 ∧ v = .int .i64 z ∧ z + 1 = (k : Int) ∧ Below w.heap.size w wr ∧ ∃ (G : Nat → Nat) (Tl : List Value), Row wr w.heap.size 46 Tl ∧ Tl.length = n + 1 ∧ ∀ r, k ≤ r → r ≤ n → w.heap.size < G r ∧ Tl[r]? = some (.slice (some ⟨G r, 0, none⟩) (m + 1) (m + 1)) ∧ Row wr (G r) 3 (TR (a.drop r) b m 0)) (fun v _ => (intOf v + 1).toNat)
  case atStart =>
    exact ⟨n + 1, n, by omega, rfl, by omega, below_newD w _, fun _ => 0, _, Row.new w _ _, by simp, fun r h1 h2 => absurd h1 (by omega)⟩
  case round =>
    obtain ⟨k, z, hkn, rfl, hzk, hbw, G, Tl, hrt, hTl, hG⟩ := hrel
    obtain ⟨WR, rfl⟩ : ∃ x, x = wr := ⟨wr, rfl⟩
    have HBW := Lib.hid hbw
    have HRT := Lib.hid hrt
    have HG := Lib.hid hG
    have HTL := Lib.hid hTl
    clear hbw hrt hG hTl
    rcases Nat.eq_zero_or_pos k with hk0 | hk0
    · subst hk0
      obtain rfl : z = -1 := by omega
      have h0 := HG.out 0 (by omega) (by omega)
      have hc0 : WR.cell? ⟨w.heap.size, 0, none⟩ = some (.slice (some ⟨G 0, 0, none⟩) (m + 1) (m + 1)) := HRT.out.cell h0.2.1
      have hc1 : WR.cell? ⟨G 0, 0, none⟩ = some (.int .i64 ((Lcs.lcs a b : Nat) : Int)) := by
        have := h0.2.2.cell (TR_get (a.drop 0) b (m := m) (k := 0) (j := 0) (by omega))
        simpa using this
      clear h0
      have h0n : (0 : Int) < (n : Int) + 1 := by omega
      have h0m : (0 : Int) < (m : Int) + 1 := by omega
      go_wp2_with fail
      go_ret
      exact ⟨rfl, HBW.out⟩
    · obtain ⟨i, rfl⟩ : ∃ i, k = i + 1 := ⟨k - 1, by omega⟩
      obtain rfl : z = (i : Int) := by omega
      have hi0 : (0 : Int) ≤ (i : Int) := by omega
      have hin : (i : Int) < (n : Int) + 1 := by omega
      have hin' : i ≤ n := by omega
      have hTi : ∃ u, Tl[i]? = some u := ⟨_, List.getElem?_eq_getElem (by have := HTL.out; omega)⟩
      obtain ⟨u0, hu0⟩ := hTi
      have HRA := Lib.hid (HRT.out.alloc (.cells (Array.replicate (m + 1) (Value.int .i64 0)) 3))
      have HU := Lib.hid hu0
      have HG0 := Lib.hid (show w.heap.size < WR.heap.size from HRT.out.lt)
      have hz6 : IntKind.i64.wrap ((m : Int) - 1) = (m : Int) - 1 := by rw [IntKind.wrap_i64]; omega
      clear hu0
      have hst1 := HRA.out.cell HU.out
      have hst2 := HRA.out.free i
      go_wp2_with fail
      clear hst1 hst2
      have hrt1 : Row ((WR.alloc (.cells (Array.replicate (m + 1) (Value.int .i64 0)) 3)).setCell ⟨w.heap.size, i, none⟩ (.slice (some ⟨WR.heap.size, 0, none⟩) (m + 1) (m + 1))) w.heap.size 46 (Tl.set i (.slice (some ⟨WR.heap.size, 0, none⟩) (m + 1) (m + 1))) := HRA.out.set i _
      have hrg1 : Row ((WR.alloc (.cells (Array.replicate (m + 1) (Value.int .i64 0)) 3)).setCell ⟨w.heap.size, i, none⟩ (.slice (some ⟨WR.heap.size, 0, none⟩) (m + 1) (m + 1))) WR.heap.size 3 (TR (a.drop i) b m m) := by
        rw [← TR_first _ _ _ HLB.out]
        exact (Row.new WR _ _).setCell (by show WR.heap.size ≠ w.heap.size; have := HG0.out; omega) _
      have hrr1 : ∀ r, i + 1 ≤ r → r ≤ n → Row ((WR.alloc (.cells (Array.replicate (m + 1) (Value.int .i64 0)) 3)).setCell ⟨w.heap.size, i, none⟩ (.slice (some ⟨WR.heap.size, 0, none⟩) (m + 1) (m + 1))) (G r) 3 (TR (a.drop r) b m 0) := fun r h1 h2 => ((HG.out r h1 h2).2.2.alloc _).setCell (by show G r ≠ w.heap.size; have := (HG.out r h1 h2).1; omega) _
      have hbw1 : Below w.heap.size w ((WR.alloc (.cells (Array.replicate (m + 1) (Value.int .i64 0)) 3)).setCell ⟨w.heap.size, i, none⟩ (.slice (some ⟨WR.heap.size, 0, none⟩) (m + 1) (m + 1))) := (HBW.out.alloc HBW.out.size _).setCell (by show w.heap.size ≤ w.heap.size; omega) _
      have hpure : ∀ r, i + 1 ≤ r → r ≤ n → w.heap.size < G r ∧ G r ≠ WR.heap.size ∧ (Tl.set i (.slice (some ⟨WR.heap.size, 0, none⟩) (m + 1) (m + 1)))[r]? = some (.slice (some ⟨G r, 0, none⟩) (m + 1) (m + 1)) := fun r h1 h2 => by
        refine ⟨(HG.out r h1 h2).1, fun e => ?_, ?_⟩
        · have := (HG.out r h1 h2).2.2.lt; omega
        · rw [List.getElem?_set, if_neg (by omega)]; exact (HG.out r h1 h2).2.1
      have hti : (Tl.set i (.slice (some ⟨WR.heap.size, 0, none⟩) (m + 1) (m + 1)))[i]? = some (.slice (some ⟨WR.heap.size, 0, none⟩) (m + 1) (m + 1)) := by
        rw [List.getElem?_set, if_pos rfl, if_pos (by have := HTL.out; omega)]
      have hg0 : w.heap.size < WR.heap.size := HG0.out
      have htl : (Tl.set i (.slice (some ⟨WR.heap.size, 0, none⟩) (m + 1) (m + 1))).length = n + 1 := by rw [List.length_set]; exact HTL.out
      clear HRA HRT HBW HU HG HTL HG0
      generalize (WR.alloc (.cells (Array.replicate (m + 1) (Value.int .i64 0)) 3)).setCell ⟨w.heap.size, i, none⟩ (.slice (some ⟨WR.heap.size, 0, none⟩) (m + 1) (m + 1)) = W1 at *
      generalize Tl.set i (.slice (some ⟨WR.heap.size, 0, none⟩) (m + 1) (m + 1)) = TL at *
      generalize WR.heap.size = g at *
      have HTI := Lib.hid hti
      have HPURE := Lib.hid hpure
      have HG0 := Lib.hid hg0
      have HTL := Lib.hid htl
      have HS := Lib.hid (And.intro hrt1 (And.intro hrg1 (And.intro hrr1 hbw1)))
      clear hti hpure hg0 htl hrt1 hrg1 hrr1 hbw1
      go_loopw [7] (fun v wr => ∃ (kk : Nat) (y : Int), kk ≤ m ∧ v = .int .i64 y ∧ y + 1 = (kk : Int) ∧ Below w.heap.size w wr ∧ Row wr w.heap.size 46 TL ∧ Row wr g 3 (TR (a.drop i) b m kk) ∧ ∀ r, i + 1 ≤ r → r ≤ n → Row wr (G r) 3 (TR (a.drop r) b m 0)) (fun v _ => (intOf v + 1).toNat)
      case atStart => exact ⟨m, (m : Int) - 1, by omega, by go_num, by omega, HS.out.2.2.2, HS.out.1, HS.out.2.1, HS.out.2.2.1⟩
      case round =>
        obtain ⟨kk, y, hkm, rfl, hyk, hbw, hrt, hrg, hrr⟩ := hrel
        have HBW := Lib.hid hbw
        have HRT := Lib.hid hrt
        have HRG := Lib.hid hrg
        have HRR := Lib.hid hrr
        clear hbw hrt hrg hrr HS
        by_cases hlast : kk = 0 ∨ i = n
        · have hend : TR (a.drop i) b m kk = TR (a.drop i) b m 0 := by
            rcases hlast with rfl | e
            · rfl
            · rw [List.drop_eq_nil_of_le (by have := HLA.out; omega), TR_none]
          have hrg2 := HRG.out
          rw [hend] at hrg2
          have HRG2 := Lib.hid hrg2
          clear hend hrg2
          have hz7 : IntKind.i64.wrap ((i : Int) - 1) = (i : Int) - 1 := by rw [IntKind.wrap_i64]; omega
          have hfin : ∀ r, i ≤ r → r ≤ n → w.heap.size < (fun r => if r = i then g else G r) r ∧ TL[r]? = some (.slice (some ⟨(fun r => if r = i then g else G r) r, 0, none⟩) (m + 1) (m + 1)) ∧ Row wr ((fun r => if r = i then g else G r) r) 3 (TR (a.drop r) b m 0) := fun r h1 h2 => by
            by_cases e : r = i
            · subst e
              simp only [if_true]
              exact ⟨HG0.out, HTI.out, HRG2.out⟩
            · simp only [if_neg e]
              have hp := HPURE.out r (by omega) h2
              exact ⟨hp.1, hp.2.2, HRR.out r (by omega) h2⟩
          have HFIN := Lib.hid hfin
          clear hfin
          rcases Nat.eq_zero_or_pos kk with h0 | h0
          · obtain rfl : y = -1 := by omega
            go_wp2_with fail
            go_roundw
            case rel => exact ⟨i, (i : Int) - 1, by omega, by go_num, by omega, HBW.out, _, TL, HRT.out, HTL.out, HFIN.out⟩
            case measure => simp [intOf] <;> omega
          · have hin2 : ¬ (i : Int) < (n : Int) := by omega
            have hy0 : (0 : Int) ≤ y := by omega
            go_wp2_with fail
            go_roundw
            case rel => exact ⟨i, (i : Int) - 1, by omega, by go_num, by omega, HBW.out, _, TL, HRT.out, HTL.out, HFIN.out⟩
            case measure => simp [intOf] <;> omega
        · obtain ⟨j, rfl⟩ : ∃ j, kk = j + 1 := ⟨kk - 1, by omega⟩
          obtain rfl : y = (j : Int) := by omega
          have hj0 : (0 : Int) ≤ (j : Int) := by omega
          have hilt : (i : Int) < (n : Int) := by omega
          have hilt' : i < n := by omega
          obtain ⟨bA, oA, rfl, hlA, hcA⟩ := HA.out.2 (by omega)
          obtain ⟨bB, oB, rfl, hlB, hcB⟩ := HB.out.2 (by omega)
          have hxa : a[i]? = some (a[i]'(by have := HLA.out; omega)) := List.getElem?_eq_getElem _
          have hxb : b[j]? = some (b[j]'(by have := HLB.out; omega)) := List.getElem?_eq_getElem _
          generalize (a[i]'(by have := HLA.out; omega)) = xa at hxa
          generalize (b[j]'(by have := HLB.out; omega)) = xb at hxb
          have HLC := Lib.hid (lcs_at hxa hxb)
          have HCA := Lib.hid (fun (w' : World) (h : Below w.heap.size w w') => (h.cell (p := ⟨bA, oA + i, none⟩) hlA).trans (hcA i xa hxa))
          have HCB := Lib.hid (fun (w' : World) (h : Below w.heap.size w w') => (h.cell (p := ⟨bB, oB + j, none⟩) hlB).trans (hcB j xb hxb))
          have hx1 := (HRR.out (i + 1) (by omega) (by omega)).cell (TR_get (a.drop (i + 1)) b (m := m) (k := 0) (j := j) (by omega))
          have hx3 := (HRR.out (i + 1) (by omega) (by omega)).cell (TR_get (a.drop (i + 1)) b (m := m) (k := 0) (j := j + 1) (by omega))
          have hx2 := HRG.out.cell (TR_get (a.drop i) b (m := m) (k := j + 1) (j := j + 1) (by omega))
          rw [if_pos (Nat.zero_le _)] at hx1 hx3
          rw [if_pos (Nat.le_refl _)] at hx2
          have hle3 : Lcs.lcs (a.drop (i + 1)) (b.drop (j + 1)) ≤ 60 := by
            have h1 := lcs_le (a.drop (i + 1)) (b.drop (j + 1))
            have h2 := HLA.out
            rw [List.length_drop] at h1
            omega
          have HX1 := Lib.hid hx1
          have HX2 := Lib.hid hx2
          have HX3 := Lib.hid hx3
          have HP1 := Lib.hid (HPURE.out (i + 1) (by omega) (by omega))
          clear hxa hxb hcA hcB hx1 hx2 hx3
          generalize Lcs.lcs (a.drop (i + 1)) (b.drop j) = x1 at *
          generalize Lcs.lcs (a.drop i) (b.drop (j + 1)) = x2 at *
          generalize Lcs.lcs (a.drop (i + 1)) (b.drop (j + 1)) = x3 at *
          go_wp2_with fail
          refine startT (fun w' : World => w'.cell? ⟨w.heap.size, i, none⟩ = some (.slice (some ⟨g, 0, none⟩) (m + 1) (m + 1)) ∧ w'.cell? ⟨w.heap.size, i + 1, none⟩ = some (.slice (some ⟨G (i + 1), 0, none⟩) (m + 1) (m + 1)) ∧ w'.cell? ⟨G (i + 1), j, none⟩ = some (.int .i64 ((x1 : Nat) : Int)) ∧ w'.cell? ⟨g, j + 1, none⟩ = some (.int .i64 ((x2 : Nat) : Int))) [23] (by kernel_rfl) ?_
          have hS0 : (fun w' : World => w'.cell? ⟨w.heap.size, i, none⟩ = some (.slice (some ⟨g, 0, none⟩) (m + 1) (m + 1)) ∧ w'.cell? ⟨w.heap.size, i + 1, none⟩ = some (.slice (some ⟨G (i + 1), 0, none⟩) (m + 1) (m + 1)) ∧ w'.cell? ⟨G (i + 1), j, none⟩ = some (.int .i64 ((x1 : Nat) : Int)) ∧ w'.cell? ⟨g, j + 1, none⟩ = some (.int .i64 ((x2 : Nat) : Int))) (World.drew wr) := ⟨HRT.out.cell HTI.out, HRT.out.cell HP1.out.2.2, HX1.out, HX2.out⟩
          refine takeT (v := .slice (some ⟨w.heap.size, 0, none⟩) (n + 1) (n + 1)) 0 (some 38) rfl rfl (by kernel_rfl) (by kernel_rfl) (fun _ _ _ h => h) (Reads.move (x := (.tmp 5)) rfl rfl) hS0 ?_
          simp only [Act.put, List.setIfInBounds_toArray, List.set_cons_zero, List.set_cons_succ]
          refine takeT (v := .int .i64 ((i : Nat) : Int)) 1 (some 39) rfl rfl (by kernel_rfl) (by kernel_rfl) (fun _ _ _ h => h) (Reads.move (x := (.tmp 6)) rfl rfl) hS0 ?_
          simp only [Act.put, List.setIfInBounds_toArray, List.set_cons_zero, List.set_cons_succ]
          refine takeT (v := .pointer (some ⟨w.heap.size, i, none⟩)) 2 (some 40) rfl rfl (by kernel_rfl) (by kernel_rfl) (fun _ _ _ h => h) (Reads.indexAt 49 (.tmp 38) (.tmp 39) rfl _ _ (.pointer (some ⟨w.heap.size, i, none⟩)) rfl rfl (fun w' => ix_t0 _ (n + 1) (n + 1) (i) (by omega) w')) hS0 ?_
          simp only [Act.put, List.setIfInBounds_toArray, List.set_cons_zero, List.set_cons_succ]
          refine takeT (v := .slice (some ⟨g, 0, none⟩) (m + 1) (m + 1)) 3 (some 41) rfl rfl (by kernel_rfl) (by kernel_rfl) (fun _ _ _ h => h) (Reads.load 46 (.tmp 40) rfl _ (.slice (some ⟨g, 0, none⟩) (m + 1) (m + 1)) rfl (fun w' h => ld_t _ _ _ _ _ w' (h.1))) hS0 ?_
          simp only [Act.put, List.setIfInBounds_toArray, List.set_cons_zero, List.set_cons_succ]
          refine takeT (v := .int .i64 ((j : Nat) : Int)) 4 (some 42) rfl rfl (by kernel_rfl) (by kernel_rfl) (fun _ _ _ h => h) (Reads.move (x := (.tmp 7)) rfl rfl) hS0 ?_
          simp only [Act.put, List.setIfInBounds_toArray, List.set_cons_zero, List.set_cons_succ]
          refine takeT (v := .slice (some ⟨w.heap.size, 0, none⟩) (n + 1) (n + 1)) 5 (some 43) rfl rfl (by kernel_rfl) (by kernel_rfl) (fun _ _ _ h => h) (Reads.move (x := (.tmp 5)) rfl rfl) hS0 ?_
          simp only [Act.put, List.setIfInBounds_toArray, List.set_cons_zero, List.set_cons_succ]
          refine takeT (v := .int .i64 ((i : Nat) : Int)) 6 (some 44) rfl rfl (by kernel_rfl) (by kernel_rfl) (fun _ _ _ h => h) (Reads.move (x := (.tmp 6)) rfl rfl) hS0 ?_
          simp only [Act.put, List.setIfInBounds_toArray, List.set_cons_zero, List.set_cons_succ]
          refine takeT (v := .int .i64 ((i + 1 : Nat) : Int)) 7 (some 45) rfl rfl (by kernel_rfl) (by kernel_rfl) (fun _ _ _ h => h) (Reads.binop .add 3 3 (.tmp 44) (.const (.int .i64 1)) rfl _ _ (.int .i64 ((i + 1 : Nat) : Int)) rfl rfl (fun w' => rfl) (fun w' => add1 (i) (by omega) w')) hS0 ?_
          simp only [Act.put, List.setIfInBounds_toArray, List.set_cons_zero, List.set_cons_succ]
          refine takeT (v := .pointer (some ⟨w.heap.size, i + 1, none⟩)) 8 (some 46) rfl rfl (by kernel_rfl) (by kernel_rfl) (fun _ _ _ h => h) (Reads.indexAt 49 (.tmp 43) (.tmp 45) rfl _ _ (.pointer (some ⟨w.heap.size, i + 1, none⟩)) rfl rfl (fun w' => ix_t0 _ (n + 1) (n + 1) (i + 1) (by omega) w')) hS0 ?_
          simp only [Act.put, List.setIfInBounds_toArray, List.set_cons_zero, List.set_cons_succ]
          refine takeT (v := .slice (some ⟨G (i + 1), 0, none⟩) (m + 1) (m + 1)) 9 (some 47) rfl rfl (by kernel_rfl) (by kernel_rfl) (fun _ _ _ h => h) (Reads.load 46 (.tmp 46) rfl _ (.slice (some ⟨G (i + 1), 0, none⟩) (m + 1) (m + 1)) rfl (fun w' h => ld_t _ _ _ _ _ w' (h.2.1))) hS0 ?_
          simp only [Act.put, List.setIfInBounds_toArray, List.set_cons_zero, List.set_cons_succ]
          refine takeT (v := .int .i64 ((j : Nat) : Int)) 10 (some 48) rfl rfl (by kernel_rfl) (by kernel_rfl) (fun _ _ _ h => h) (Reads.move (x := (.tmp 7)) rfl rfl) hS0 ?_
          simp only [Act.put, List.setIfInBounds_toArray, List.set_cons_zero, List.set_cons_succ]
          refine takeT (v := .pointer (some ⟨G (i + 1), j, none⟩)) 11 (some 49) rfl rfl (by kernel_rfl) (by kernel_rfl) (fun _ _ _ h => h) (Reads.indexAt 46 (.tmp 47) (.tmp 48) rfl _ _ (.pointer (some ⟨G (i + 1), j, none⟩)) rfl rfl (fun w' => ix_i0 _ (m + 1) (m + 1) (j) (by omega) w')) hS0 ?_
          simp only [Act.put, List.setIfInBounds_toArray, List.set_cons_zero, List.set_cons_succ]
          refine takeT (v := .int .i64 ((x1 : Nat) : Int)) 12 (some 50) rfl rfl (by kernel_rfl) (by kernel_rfl) (fun _ _ _ h => h) (Reads.load 3 (.tmp 49) rfl _ (.int .i64 ((x1 : Nat) : Int)) rfl (fun w' h => ld_i _ _ _ w' (h.2.2.1))) hS0 ?_
          simp only [Act.put, List.setIfInBounds_toArray, List.set_cons_zero, List.set_cons_succ]
          refine takeT (v := .slice (some ⟨w.heap.size, 0, none⟩) (n + 1) (n + 1)) 13 (some 51) rfl rfl (by kernel_rfl) (by kernel_rfl) (fun _ _ _ h => h) (Reads.move (x := (.tmp 5)) rfl rfl) hS0 ?_
          simp only [Act.put, List.setIfInBounds_toArray, List.set_cons_zero, List.set_cons_succ]
          refine takeT (v := .int .i64 ((i : Nat) : Int)) 14 (some 52) rfl rfl (by kernel_rfl) (by kernel_rfl) (fun _ _ _ h => h) (Reads.move (x := (.tmp 6)) rfl rfl) hS0 ?_
          simp only [Act.put, List.setIfInBounds_toArray, List.set_cons_zero, List.set_cons_succ]
          refine takeT (v := .pointer (some ⟨w.heap.size, i, none⟩)) 15 (some 53) rfl rfl (by kernel_rfl) (by kernel_rfl) (fun _ _ _ h => h) (Reads.indexAt 49 (.tmp 51) (.tmp 52) rfl _ _ (.pointer (some ⟨w.heap.size, i, none⟩)) rfl rfl (fun w' => ix_t0 _ (n + 1) (n + 1) (i) (by omega) w')) hS0 ?_
          simp only [Act.put, List.setIfInBounds_toArray, List.set_cons_zero, List.set_cons_succ]
          refine takeT (v := .slice (some ⟨g, 0, none⟩) (m + 1) (m + 1)) 16 (some 54) rfl rfl (by kernel_rfl) (by kernel_rfl) (fun _ _ _ h => h) (Reads.load 46 (.tmp 53) rfl _ (.slice (some ⟨g, 0, none⟩) (m + 1) (m + 1)) rfl (fun w' h => ld_t _ _ _ _ _ w' (h.1))) hS0 ?_
          simp only [Act.put, List.setIfInBounds_toArray, List.set_cons_zero, List.set_cons_succ]
          refine takeT (v := .int .i64 ((j : Nat) : Int)) 17 (some 55) rfl rfl (by kernel_rfl) (by kernel_rfl) (fun _ _ _ h => h) (Reads.move (x := (.tmp 7)) rfl rfl) hS0 ?_
          simp only [Act.put, List.setIfInBounds_toArray, List.set_cons_zero, List.set_cons_succ]
          refine takeT (v := .int .i64 ((j + 1 : Nat) : Int)) 18 (some 56) rfl rfl (by kernel_rfl) (by kernel_rfl) (fun _ _ _ h => h) (Reads.binop .add 3 3 (.tmp 55) (.const (.int .i64 1)) rfl _ _ (.int .i64 ((j + 1 : Nat) : Int)) rfl rfl (fun w' => rfl) (fun w' => add1 (j) (by omega) w')) hS0 ?_
          simp only [Act.put, List.setIfInBounds_toArray, List.set_cons_zero, List.set_cons_succ]
          refine takeT (v := .pointer (some ⟨g, j + 1, none⟩)) 19 (some 57) rfl rfl (by kernel_rfl) (by kernel_rfl) (fun _ _ _ h => h) (Reads.indexAt 46 (.tmp 54) (.tmp 56) rfl _ _ (.pointer (some ⟨g, j + 1, none⟩)) rfl rfl (fun w' => ix_i0 _ (m + 1) (m + 1) (j + 1) (by omega) w')) hS0 ?_
          simp only [Act.put, List.setIfInBounds_toArray, List.set_cons_zero, List.set_cons_succ]
          refine takeT (v := .int .i64 ((x2 : Nat) : Int)) 20 (some 58) rfl rfl (by kernel_rfl) (by kernel_rfl) (fun _ _ _ h => h) (Reads.load 3 (.tmp 57) rfl _ (.int .i64 ((x2 : Nat) : Int)) rfl (fun w' h => ld_i _ _ _ w' (h.2.2.2))) hS0 ?_
          simp only [Act.put, List.setIfInBounds_toArray, List.set_cons_zero, List.set_cons_succ]
          refine takeT (v := .int .i64 ((max (x1) (x2) : Nat) : Int)) 21 (some 59) rfl rfl (by kernel_rfl) (by kernel_rfl) (fun _ _ _ h => h) (reads_max (.tmp 50) (.tmp 58) rfl (x1) (x2) rfl rfl) hS0 ?_
          simp only [Act.put, List.setIfInBounds_toArray, List.set_cons_zero, List.set_cons_succ]
          refine takeT (v := .pointer (some ⟨g, j, none⟩)) 22 (some 60) rfl rfl (by kernel_rfl) (by kernel_rfl) (fun _ _ _ h => h) (Reads.indexAt 46 (.tmp 41) (.tmp 42) rfl _ _ (.pointer (some ⟨g, j, none⟩)) rfl rfl (fun w' => ix_i0 _ (m + 1) (m + 1) (j) (by omega) w')) hS0 ?_
          simp only [Act.put, List.setIfInBounds_toArray, List.set_cons_zero, List.set_cons_succ]
          refine oneT 23 (by kernel_rfl) rfl (by kernel_rfl) (fun K2 hK => ?_)
          refine wp_store_cell 3 (.tmp 60) (.tmp 59) rfl ⟨g, j, none⟩ rfl (.int .i64 ((max (x1) (x2) : Nat) : Int)) rfl (st_int (HRG.out.cell (TR_get (a.drop i) b (m := m) (k := j + 1) (j := j) (by omega))) (HRG.out.free j)) ?_
          refine hK.out _ _ (late_okD (by kernel_rfl)) ?_
          clear hK K2
          change wpAnyT _ _ _ _ _ _ _ _ (Act.put _ none _) _
          simp only [Act.put]
          refine doneT (by kernel_rfl) ?_ _
          have hrt9 : Row (wr.drew.setCell ⟨g, j, none⟩ (.int .i64 ((max x1 x2 : Nat) : Int))) w.heap.size 46 TL := (HRT.out.drewN 1).setCell (by show w.heap.size ≠ g; have := HG0.out; omega) _
          have hrg9 : Row (wr.drew.setCell ⟨g, j, none⟩ (.int .i64 ((max x1 x2 : Nat) : Int))) g 3 ((TR (a.drop i) b m (j + 1)).set j (.int .i64 ((max x1 x2 : Nat) : Int))) := (HRG.out.drewN 1).set j _
          have hrr9 : ∀ r, i + 1 ≤ r → r ≤ n → Row (wr.drew.setCell ⟨g, j, none⟩ (.int .i64 ((max x1 x2 : Nat) : Int))) (G r) 3 (TR (a.drop r) b m 0) := fun r h1 h2 => ((HRR.out r h1 h2).drewN 1).setCell (by show G r ≠ g; exact (HPURE.out r h1 h2).2.1) _
          have hb9 : Below w.heap.size w (wr.drew.setCell ⟨g, j, none⟩ (.int .i64 ((max x1 x2 : Nat) : Int))) := HBW.out.drew.setCell (by show w.heap.size ≤ g; have := HG0.out; omega) _
          have hx39 : (wr.drew.setCell ⟨g, j, none⟩ (.int .i64 ((max x1 x2 : Nat) : Int))).cell? ⟨G (i + 1), j + 1, none⟩ = some (.int .i64 ((x3 : Nat) : Int)) := by
            rw [cell_of_row _ _ _ _ _ _ (hrr9 (i + 1) (by omega) (by omega))]
            have h1 := HX3.out
            rw [cell_of_row _ _ _ _ _ _ (HRR.out (i + 1) (by omega) (by omega))] at h1
            exact h1
          have hy1 := hrg9.cell (k := j) (v := .int .i64 ((max x1 x2 : Nat) : Int)) (by rw [List.getElem?_set, if_pos rfl, if_pos (by rw [TR_length]; omega)])
          have H9 := Lib.hid (And.intro hrt9 (And.intro hrg9 (And.intro hrr9 (And.intro hb9 (And.intro hx39 hy1)))))
          clear hrt9 hrg9 hrr9 hb9 hx39 hy1 hS0 HX1 HX2 HX3
          generalize wr.drew.setCell ⟨g, j, none⟩ (.int .i64 ((max x1 x2 : Nat) : Int)) = W9 at *
          have hz8 : IntKind.i64.wrap ((j : Int) - 1) = (j : Int) - 1 := by rw [IntKind.wrap_i64]; omega
          go_wp2_with fail
          by_cases hxy : xa = xb
          · have HXY := Lib.hid hxy
            have hlc := HLC.out
            rw [if_pos hxy] at hlc
            have HLD := Lib.hid hlc
            clear hxy hlc HLC
            refine startT (fun w' : World => w'.cell? ⟨bA, oA + i, none⟩ = some (.int .u64 xa) ∧ w'.cell? ⟨bB, oB + j, none⟩ = some (.int .u64 xb)) [] (by kernel_rfl) ?_
            have hS0 : (fun w' : World => w'.cell? ⟨bA, oA + i, none⟩ = some (.int .u64 xa) ∧ w'.cell? ⟨bB, oB + j, none⟩ = some (.int .u64 xb)) (World.drew W9) := ⟨HCA.out _ H9.out.2.2.2.1.drew, HCB.out _ H9.out.2.2.2.1.drew⟩
            refine takeT (v := .slice (some ⟨bA, oA, none⟩) n cA) 0 (some 61) rfl rfl (by kernel_rfl) (by kernel_rfl) (fun _ _ _ h => h) (Reads.move (x := (.tmp 0)) rfl rfl) hS0 ?_
            simp only [Act.put, List.setIfInBounds_toArray, List.set_cons_zero, List.set_cons_succ]
            refine takeT (v := .int .i64 ((i : Nat) : Int)) 1 (some 62) rfl rfl (by kernel_rfl) (by kernel_rfl) (fun _ _ _ h => h) (Reads.move (x := (.tmp 6)) rfl rfl) hS0 ?_
            simp only [Act.put, List.setIfInBounds_toArray, List.set_cons_zero, List.set_cons_succ]
            refine takeT (v := .pointer (some ⟨bA, oA + i, none⟩)) 2 (some 63) rfl rfl (by kernel_rfl) (by kernel_rfl) (fun _ _ _ h => h) (Reads.indexAt 22 (.tmp 61) (.tmp 62) rfl _ _ (.pointer (some ⟨bA, oA + i, none⟩)) rfl rfl (fun w' => ix_u _ _ n cA (i) (by omega) w')) hS0 ?_
            simp only [Act.put, List.setIfInBounds_toArray, List.set_cons_zero, List.set_cons_succ]
            refine takeT (v := .int .u64 xa) 3 (some 64) rfl rfl (by kernel_rfl) (by kernel_rfl) (fun _ _ _ h => h) (Reads.load 39 (.tmp 63) rfl _ (.int .u64 xa) rfl (fun w' h => ld_u _ _ _ w' (h.1))) hS0 ?_
            simp only [Act.put, List.setIfInBounds_toArray, List.set_cons_zero, List.set_cons_succ]
            refine takeT (v := .slice (some ⟨bB, oB, none⟩) m cB) 4 (some 65) rfl rfl (by kernel_rfl) (by kernel_rfl) (fun _ _ _ h => h) (Reads.move (x := (.tmp 1)) rfl rfl) hS0 ?_
            simp only [Act.put, List.setIfInBounds_toArray, List.set_cons_zero, List.set_cons_succ]
            refine takeT (v := .int .i64 ((j : Nat) : Int)) 5 (some 66) rfl rfl (by kernel_rfl) (by kernel_rfl) (fun _ _ _ h => h) (Reads.move (x := (.tmp 7)) rfl rfl) hS0 ?_
            simp only [Act.put, List.setIfInBounds_toArray, List.set_cons_zero, List.set_cons_succ]
            refine takeT (v := .pointer (some ⟨bB, oB + j, none⟩)) 6 (some 67) rfl rfl (by kernel_rfl) (by kernel_rfl) (fun _ _ _ h => h) (Reads.indexAt 22 (.tmp 65) (.tmp 66) rfl _ _ (.pointer (some ⟨bB, oB + j, none⟩)) rfl rfl (fun w' => ix_u _ _ m cB (j) (by omega) w')) hS0 ?_
            simp only [Act.put, List.setIfInBounds_toArray, List.set_cons_zero, List.set_cons_succ]
            refine takeT (v := .int .u64 xb) 7 (some 68) rfl rfl (by kernel_rfl) (by kernel_rfl) (fun _ _ _ h => h) (Reads.load 39 (.tmp 67) rfl _ (.int .u64 xb) rfl (fun w' h => ld_u _ _ _ w' (h.2))) hS0 ?_
            simp only [Act.put, List.setIfInBounds_toArray, List.set_cons_zero, List.set_cons_succ]
            refine takeT (v := .bool true) 8 (some 69) rfl rfl (by kernel_rfl) (by kernel_rfl) (fun _ _ _ h => h) (Reads.binop .eql 39 39 (.tmp 64) (.tmp 68) rfl _ _ (.bool true) rfl rfl (fun w' => rfl) (fun w' => eql_ut HXY.out w')) hS0 ?_
            simp only [Act.put, List.setIfInBounds_toArray, List.set_cons_zero, List.set_cons_succ]
            refine doneT (by kernel_rfl) ?_ _
            clear hS0
            go_wp2_with fail
            generalize hy1 : max x1 x2 = y1 at *
            have HY1 := Lib.hid hy1
            clear hy1
            refine startT (fun w' : World => w'.cell? ⟨w.heap.size, i, none⟩ = some (.slice (some ⟨g, 0, none⟩) (m + 1) (m + 1)) ∧ w'.cell? ⟨w.heap.size, i + 1, none⟩ = some (.slice (some ⟨G (i + 1), 0, none⟩) (m + 1) (m + 1)) ∧ w'.cell? ⟨g, j, none⟩ = some (.int .i64 ((y1 : Nat) : Int)) ∧ w'.cell? ⟨G (i + 1), j + 1, none⟩ = some (.int .i64 ((x3 : Nat) : Int))) [24] (by kernel_rfl) ?_
            have hS0 : (fun w' : World => w'.cell? ⟨w.heap.size, i, none⟩ = some (.slice (some ⟨g, 0, none⟩) (m + 1) (m + 1)) ∧ w'.cell? ⟨w.heap.size, i + 1, none⟩ = some (.slice (some ⟨G (i + 1), 0, none⟩) (m + 1) (m + 1)) ∧ w'.cell? ⟨g, j, none⟩ = some (.int .i64 ((y1 : Nat) : Int)) ∧ w'.cell? ⟨G (i + 1), j + 1, none⟩ = some (.int .i64 ((x3 : Nat) : Int))) (World.drew W9.drew) := ⟨H9.out.1.cell HTI.out, H9.out.1.cell HP1.out.2.2, H9.out.2.2.2.2.2, H9.out.2.2.2.2.1⟩
            refine takeT (v := .slice (some ⟨w.heap.size, 0, none⟩) (n + 1) (n + 1)) 0 (some 70) rfl rfl (by kernel_rfl) (by kernel_rfl) (fun _ _ _ h => h) (Reads.move (x := (.tmp 5)) rfl rfl) hS0 ?_
            simp only [Act.put, List.setIfInBounds_toArray, List.set_cons_zero, List.set_cons_succ]
            refine takeT (v := .int .i64 ((i : Nat) : Int)) 1 (some 71) rfl rfl (by kernel_rfl) (by kernel_rfl) (fun _ _ _ h => h) (Reads.move (x := (.tmp 6)) rfl rfl) hS0 ?_
            simp only [Act.put, List.setIfInBounds_toArray, List.set_cons_zero, List.set_cons_succ]
            refine takeT (v := .pointer (some ⟨w.heap.size, i, none⟩)) 2 (some 72) rfl rfl (by kernel_rfl) (by kernel_rfl) (fun _ _ _ h => h) (Reads.indexAt 49 (.tmp 70) (.tmp 71) rfl _ _ (.pointer (some ⟨w.heap.size, i, none⟩)) rfl rfl (fun w' => ix_t0 _ (n + 1) (n + 1) (i) (by omega) w')) hS0 ?_
            simp only [Act.put, List.setIfInBounds_toArray, List.set_cons_zero, List.set_cons_succ]
            refine takeT (v := .slice (some ⟨g, 0, none⟩) (m + 1) (m + 1)) 3 (some 73) rfl rfl (by kernel_rfl) (by kernel_rfl) (fun _ _ _ h => h) (Reads.load 46 (.tmp 72) rfl _ (.slice (some ⟨g, 0, none⟩) (m + 1) (m + 1)) rfl (fun w' h => ld_t _ _ _ _ _ w' (h.1))) hS0 ?_
            simp only [Act.put, List.setIfInBounds_toArray, List.set_cons_zero, List.set_cons_succ]
            refine takeT (v := .int .i64 ((j : Nat) : Int)) 4 (some 74) rfl rfl (by kernel_rfl) (by kernel_rfl) (fun _ _ _ h => h) (Reads.move (x := (.tmp 7)) rfl rfl) hS0 ?_
            simp only [Act.put, List.setIfInBounds_toArray, List.set_cons_zero, List.set_cons_succ]
            refine takeT (v := .slice (some ⟨w.heap.size, 0, none⟩) (n + 1) (n + 1)) 5 (some 75) rfl rfl (by kernel_rfl) (by kernel_rfl) (fun _ _ _ h => h) (Reads.move (x := (.tmp 5)) rfl rfl) hS0 ?_
            simp only [Act.put, List.setIfInBounds_toArray, List.set_cons_zero, List.set_cons_succ]
            refine takeT (v := .int .i64 ((i : Nat) : Int)) 6 (some 76) rfl rfl (by kernel_rfl) (by kernel_rfl) (fun _ _ _ h => h) (Reads.move (x := (.tmp 6)) rfl rfl) hS0 ?_
            simp only [Act.put, List.setIfInBounds_toArray, List.set_cons_zero, List.set_cons_succ]
            refine takeT (v := .pointer (some ⟨w.heap.size, i, none⟩)) 7 (some 77) rfl rfl (by kernel_rfl) (by kernel_rfl) (fun _ _ _ h => h) (Reads.indexAt 49 (.tmp 75) (.tmp 76) rfl _ _ (.pointer (some ⟨w.heap.size, i, none⟩)) rfl rfl (fun w' => ix_t0 _ (n + 1) (n + 1) (i) (by omega) w')) hS0 ?_
            simp only [Act.put, List.setIfInBounds_toArray, List.set_cons_zero, List.set_cons_succ]
            refine takeT (v := .slice (some ⟨g, 0, none⟩) (m + 1) (m + 1)) 8 (some 78) rfl rfl (by kernel_rfl) (by kernel_rfl) (fun _ _ _ h => h) (Reads.load 46 (.tmp 77) rfl _ (.slice (some ⟨g, 0, none⟩) (m + 1) (m + 1)) rfl (fun w' h => ld_t _ _ _ _ _ w' (h.1))) hS0 ?_
            simp only [Act.put, List.setIfInBounds_toArray, List.set_cons_zero, List.set_cons_succ]
            refine takeT (v := .int .i64 ((j : Nat) : Int)) 9 (some 79) rfl rfl (by kernel_rfl) (by kernel_rfl) (fun _ _ _ h => h) (Reads.move (x := (.tmp 7)) rfl rfl) hS0 ?_
            simp only [Act.put, List.setIfInBounds_toArray, List.set_cons_zero, List.set_cons_succ]
            refine takeT (v := .pointer (some ⟨g, j, none⟩)) 10 (some 80) rfl rfl (by kernel_rfl) (by kernel_rfl) (fun _ _ _ h => h) (Reads.indexAt 46 (.tmp 78) (.tmp 79) rfl _ _ (.pointer (some ⟨g, j, none⟩)) rfl rfl (fun w' => ix_i0 _ (m + 1) (m + 1) (j) (by omega) w')) hS0 ?_
            simp only [Act.put, List.setIfInBounds_toArray, List.set_cons_zero, List.set_cons_succ]
            refine takeT (v := .int .i64 ((y1 : Nat) : Int)) 11 (some 81) rfl rfl (by kernel_rfl) (by kernel_rfl) (fun _ _ _ h => h) (Reads.load 3 (.tmp 80) rfl _ (.int .i64 ((y1 : Nat) : Int)) rfl (fun w' h => ld_i _ _ _ w' (h.2.2.1))) hS0 ?_
            simp only [Act.put, List.setIfInBounds_toArray, List.set_cons_zero, List.set_cons_succ]
            refine takeT (v := .slice (some ⟨w.heap.size, 0, none⟩) (n + 1) (n + 1)) 12 (some 82) rfl rfl (by kernel_rfl) (by kernel_rfl) (fun _ _ _ h => h) (Reads.move (x := (.tmp 5)) rfl rfl) hS0 ?_
            simp only [Act.put, List.setIfInBounds_toArray, List.set_cons_zero, List.set_cons_succ]
            refine takeT (v := .int .i64 ((i : Nat) : Int)) 13 (some 83) rfl rfl (by kernel_rfl) (by kernel_rfl) (fun _ _ _ h => h) (Reads.move (x := (.tmp 6)) rfl rfl) hS0 ?_
            simp only [Act.put, List.setIfInBounds_toArray, List.set_cons_zero, List.set_cons_succ]
            refine takeT (v := .int .i64 ((i + 1 : Nat) : Int)) 14 (some 84) rfl rfl (by kernel_rfl) (by kernel_rfl) (fun _ _ _ h => h) (Reads.binop .add 3 3 (.tmp 83) (.const (.int .i64 1)) rfl _ _ (.int .i64 ((i + 1 : Nat) : Int)) rfl rfl (fun w' => rfl) (fun w' => add1 (i) (by omega) w')) hS0 ?_
            simp only [Act.put, List.setIfInBounds_toArray, List.set_cons_zero, List.set_cons_succ]
            refine takeT (v := .pointer (some ⟨w.heap.size, i + 1, none⟩)) 15 (some 85) rfl rfl (by kernel_rfl) (by kernel_rfl) (fun _ _ _ h => h) (Reads.indexAt 49 (.tmp 82) (.tmp 84) rfl _ _ (.pointer (some ⟨w.heap.size, i + 1, none⟩)) rfl rfl (fun w' => ix_t0 _ (n + 1) (n + 1) (i + 1) (by omega) w')) hS0 ?_
            simp only [Act.put, List.setIfInBounds_toArray, List.set_cons_zero, List.set_cons_succ]
            refine takeT (v := .slice (some ⟨G (i + 1), 0, none⟩) (m + 1) (m + 1)) 16 (some 86) rfl rfl (by kernel_rfl) (by kernel_rfl) (fun _ _ _ h => h) (Reads.load 46 (.tmp 85) rfl _ (.slice (some ⟨G (i + 1), 0, none⟩) (m + 1) (m + 1)) rfl (fun w' h => ld_t _ _ _ _ _ w' (h.2.1))) hS0 ?_
            simp only [Act.put, List.setIfInBounds_toArray, List.set_cons_zero, List.set_cons_succ]
            refine takeT (v := .int .i64 ((j : Nat) : Int)) 17 (some 87) rfl rfl (by kernel_rfl) (by kernel_rfl) (fun _ _ _ h => h) (Reads.move (x := (.tmp 7)) rfl rfl) hS0 ?_
            simp only [Act.put, List.setIfInBounds_toArray, List.set_cons_zero, List.set_cons_succ]
            refine takeT (v := .int .i64 ((j + 1 : Nat) : Int)) 18 (some 88) rfl rfl (by kernel_rfl) (by kernel_rfl) (fun _ _ _ h => h) (Reads.binop .add 3 3 (.tmp 87) (.const (.int .i64 1)) rfl _ _ (.int .i64 ((j + 1 : Nat) : Int)) rfl rfl (fun w' => rfl) (fun w' => add1 (j) (by omega) w')) hS0 ?_
            simp only [Act.put, List.setIfInBounds_toArray, List.set_cons_zero, List.set_cons_succ]
            refine takeT (v := .pointer (some ⟨G (i + 1), j + 1, none⟩)) 19 (some 89) rfl rfl (by kernel_rfl) (by kernel_rfl) (fun _ _ _ h => h) (Reads.indexAt 46 (.tmp 86) (.tmp 88) rfl _ _ (.pointer (some ⟨G (i + 1), j + 1, none⟩)) rfl rfl (fun w' => ix_i0 _ (m + 1) (m + 1) (j + 1) (by omega) w')) hS0 ?_
            simp only [Act.put, List.setIfInBounds_toArray, List.set_cons_zero, List.set_cons_succ]
            refine takeT (v := .int .i64 ((x3 : Nat) : Int)) 20 (some 90) rfl rfl (by kernel_rfl) (by kernel_rfl) (fun _ _ _ h => h) (Reads.load 3 (.tmp 89) rfl _ (.int .i64 ((x3 : Nat) : Int)) rfl (fun w' h => ld_i _ _ _ w' (h.2.2.2))) hS0 ?_
            simp only [Act.put, List.setIfInBounds_toArray, List.set_cons_zero, List.set_cons_succ]
            refine takeT (v := .int .i64 ((1 + x3 : Nat) : Int)) 21 (some 91) rfl rfl (by kernel_rfl) (by kernel_rfl) (fun _ _ _ h => h) (Reads.binop .add 3 3 (.const (.int .i64 1)) (.tmp 90) rfl _ _ (.int .i64 ((1 + x3 : Nat) : Int)) rfl rfl (fun w' => rfl) (fun w' => one_add (x3) (by omega) w')) hS0 ?_
            simp only [Act.put, List.setIfInBounds_toArray, List.set_cons_zero, List.set_cons_succ]
            refine takeT (v := .int .i64 ((max (y1) (1 + x3) : Nat) : Int)) 22 (some 92) rfl rfl (by kernel_rfl) (by kernel_rfl) (fun _ _ _ h => h) (reads_max (.tmp 81) (.tmp 91) rfl (y1) (1 + x3) rfl rfl) hS0 ?_
            simp only [Act.put, List.setIfInBounds_toArray, List.set_cons_zero, List.set_cons_succ]
            refine takeT (v := .pointer (some ⟨g, j, none⟩)) 23 (some 93) rfl rfl (by kernel_rfl) (by kernel_rfl) (fun _ _ _ h => h) (Reads.indexAt 46 (.tmp 73) (.tmp 74) rfl _ _ (.pointer (some ⟨g, j, none⟩)) rfl rfl (fun w' => ix_i0 _ (m + 1) (m + 1) (j) (by omega) w')) hS0 ?_
            simp only [Act.put, List.setIfInBounds_toArray, List.set_cons_zero, List.set_cons_succ]
            refine oneT 24 (by kernel_rfl) rfl (by kernel_rfl) (fun K2 hK => ?_)
            refine wp_store_cell 3 (.tmp 93) (.tmp 92) rfl ⟨g, j, none⟩ rfl (.int .i64 ((max (y1) (1 + x3) : Nat) : Int)) rfl (st_int H9.out.2.2.2.2.2 (H9.out.2.1.free j)) ?_
            refine hK.out _ _ (late_okD (by kernel_rfl)) ?_
            clear hK K2
            change wpAnyT _ _ _ _ _ _ _ _ (Act.put _ none _) _
            simp only [Act.put]
            refine doneT (by kernel_rfl) ?_ _
            have HF := Lib.hid (show Row (W9.drew.drew.setCell ⟨g, j, none⟩ (.int .i64 ((max y1 (1 + x3) : Nat) : Int))) g 3 (TR (a.drop i) b m j) by
              rw [← TR_set _ _ (show j ≤ m by omega), HLD.out, ← List.set_set (a := .int .i64 ((y1 : Nat) : Int))]
              exact ((H9.out.2.1.drewN 1).drewN 1).set j _)
            clear hS0
            go_wp2_with fail
            go_roundw
            case rel => exact ⟨j, (j : Int) - 1, by omega, by go_num, by omega, H9.out.2.2.2.1.drew.drew.setCell (by show w.heap.size ≤ g; have := HG0.out; omega) _, ((H9.out.1.drewN 1).drewN 1).setCell (by show w.heap.size ≠ g; have := HG0.out; omega) _, HF.out, fun r h1 h2 => (((H9.out.2.2.1 r h1 h2).drewN 1).drewN 1).setCell (by show G r ≠ g; exact (HPURE.out r h1 h2).2.1) _⟩
            case measure => simp [intOf] <;> omega
          · have HXY := Lib.hid hxy
            have hlc := HLC.out
            rw [if_neg hxy, Nat.max_zero] at hlc
            have HLD := Lib.hid hlc
            clear hxy hlc HLC
            refine startT (fun w' : World => w'.cell? ⟨bA, oA + i, none⟩ = some (.int .u64 xa) ∧ w'.cell? ⟨bB, oB + j, none⟩ = some (.int .u64 xb)) [] (by kernel_rfl) ?_
            have hS0 : (fun w' : World => w'.cell? ⟨bA, oA + i, none⟩ = some (.int .u64 xa) ∧ w'.cell? ⟨bB, oB + j, none⟩ = some (.int .u64 xb)) (World.drew W9) := ⟨HCA.out _ H9.out.2.2.2.1.drew, HCB.out _ H9.out.2.2.2.1.drew⟩
            refine takeT (v := .slice (some ⟨bA, oA, none⟩) n cA) 0 (some 61) rfl rfl (by kernel_rfl) (by kernel_rfl) (fun _ _ _ h => h) (Reads.move (x := (.tmp 0)) rfl rfl) hS0 ?_
            simp only [Act.put, List.setIfInBounds_toArray, List.set_cons_zero, List.set_cons_succ]
            refine takeT (v := .int .i64 ((i : Nat) : Int)) 1 (some 62) rfl rfl (by kernel_rfl) (by kernel_rfl) (fun _ _ _ h => h) (Reads.move (x := (.tmp 6)) rfl rfl) hS0 ?_
            simp only [Act.put, List.setIfInBounds_toArray, List.set_cons_zero, List.set_cons_succ]
            refine takeT (v := .pointer (some ⟨bA, oA + i, none⟩)) 2 (some 63) rfl rfl (by kernel_rfl) (by kernel_rfl) (fun _ _ _ h => h) (Reads.indexAt 22 (.tmp 61) (.tmp 62) rfl _ _ (.pointer (some ⟨bA, oA + i, none⟩)) rfl rfl (fun w' => ix_u _ _ n cA (i) (by omega) w')) hS0 ?_
            simp only [Act.put, List.setIfInBounds_toArray, List.set_cons_zero, List.set_cons_succ]
            refine takeT (v := .int .u64 xa) 3 (some 64) rfl rfl (by kernel_rfl) (by kernel_rfl) (fun _ _ _ h => h) (Reads.load 39 (.tmp 63) rfl _ (.int .u64 xa) rfl (fun w' h => ld_u _ _ _ w' (h.1))) hS0 ?_
            simp only [Act.put, List.setIfInBounds_toArray, List.set_cons_zero, List.set_cons_succ]
            refine takeT (v := .slice (some ⟨bB, oB, none⟩) m cB) 4 (some 65) rfl rfl (by kernel_rfl) (by kernel_rfl) (fun _ _ _ h => h) (Reads.move (x := (.tmp 1)) rfl rfl) hS0 ?_
            simp only [Act.put, List.setIfInBounds_toArray, List.set_cons_zero, List.set_cons_succ]
            refine takeT (v := .int .i64 ((j : Nat) : Int)) 5 (some 66) rfl rfl (by kernel_rfl) (by kernel_rfl) (fun _ _ _ h => h) (Reads.move (x := (.tmp 7)) rfl rfl) hS0 ?_
            simp only [Act.put, List.setIfInBounds_toArray, List.set_cons_zero, List.set_cons_succ]
            refine takeT (v := .pointer (some ⟨bB, oB + j, none⟩)) 6 (some 67) rfl rfl (by kernel_rfl) (by kernel_rfl) (fun _ _ _ h => h) (Reads.indexAt 22 (.tmp 65) (.tmp 66) rfl _ _ (.pointer (some ⟨bB, oB + j, none⟩)) rfl rfl (fun w' => ix_u _ _ m cB (j) (by omega) w')) hS0 ?_
            simp only [Act.put, List.setIfInBounds_toArray, List.set_cons_zero, List.set_cons_succ]
            refine takeT (v := .int .u64 xb) 7 (some 68) rfl rfl (by kernel_rfl) (by kernel_rfl) (fun _ _ _ h => h) (Reads.load 39 (.tmp 67) rfl _ (.int .u64 xb) rfl (fun w' h => ld_u _ _ _ w' (h.2))) hS0 ?_
            simp only [Act.put, List.setIfInBounds_toArray, List.set_cons_zero, List.set_cons_succ]
            refine takeT (v := .bool false) 8 (some 69) rfl rfl (by kernel_rfl) (by kernel_rfl) (fun _ _ _ h => h) (Reads.binop .eql 39 39 (.tmp 64) (.tmp 68) rfl _ _ (.bool false) rfl rfl (fun w' => rfl) (fun w' => eql_uf HXY.out w')) hS0 ?_
            simp only [Act.put, List.setIfInBounds_toArray, List.set_cons_zero, List.set_cons_succ]
            refine doneT (by kernel_rfl) ?_ _
            have HF := Lib.hid (show Row W9.drew g 3 (TR (a.drop i) b m j) by
              rw [← TR_set _ _ (show j ≤ m by omega), HLD.out]
              exact H9.out.2.1.drewN 1)
            clear hS0
            go_wp2_with fail
            go_roundw
            case rel => exact ⟨j, (j : Int) - 1, by omega, by go_num, by omega, H9.out.2.2.2.1.drew, H9.out.1.drewN 1, HF.out, fun r h1 h2 => (H9.out.2.2.1 r h1 h2).drewN 1⟩
            case measure => simp [intOf] <;> omega

end Go.Proofs.Ytpegkalhjnldkaa
