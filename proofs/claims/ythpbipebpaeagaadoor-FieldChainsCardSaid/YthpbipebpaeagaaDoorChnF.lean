/- The statement FieldChains: the walk. -/
import Derived.Test.YthpbipebpaeagaaDoorNu
import Derived.Test.YthpbipebpaeagaaDoorSeq
import Derived.Test.YthpbipebpaeagaaDoorSlF
namespace Go.Proofs.YthpbipebpaeagaaDoor
set_option maxRecDepth 100000
set_option linter.unusedSimpArgs false
open Go.RowKit

theorem by_len (N : Nat) : (Tryd.prog.info? 22).map (·.size) = some (By N 32).length := by rw [By_length]; kernel_rfl
theorem ix_at (ad : Addr) (n cap k : Nat) (h : k < n) (w : World) : (Instr.indexAt 44 (.slice (some ad) n cap) (.int .i64 (k : Int))).run Tryd.prog w = .ok (.pointer (some (ad.add (k * 32)))) w := by
  have h1 : (0 : Int) ≤ (k : Int) := by omega
  have h2 : (k : Int) < (n : Int) := by omega
  go_simp

set_option maxHeartbeats 12800000 in
theorem chains_law (a : Nat) (l : List Nat) (A : Option Addr) (n capn : Nat) (hs : List UInt8) (B : Option Addr) (m capm : Nat) (w : World) (hl : RdA w A n l) (hh : Rd w (fun j => j < w.heap.size) B m (Bs hs)) (hq0 : Gl w) :
    Calls Tryd.prog 5 #[.agg (By a 32).toArray, .slice A n capn, .slice B m capm] w fun e w' => e = .returned (.bool true) ∧ Below w.heap.size w w' := by
  have hr1 := Row.new w (By a 32) 22
  have hb0 := (Below.refl w.heap.size w).alloc (Nat.le_refl _) (.cells (By a 32).toArray 22)
  have hg0 := hq0.belowAll hb0
  have HG0 := Lib.hid hq0
  have HL := Lib.hid hl
  have HH := Lib.hid hh
  clear hq0 hl hh
  go_enter Tryd.func5, Tryd.ntmps5
  go_wp2_with fail
  generalize w.alloc (.cells (By a 32).toArray 22) = W0 at *
  refine wp_vars_two (aD := ?aD1) (B := W0.heap.size) (S := fun w' => Below W0.heap.size W0 w') (k1 := 4) (s1 := 6) (T1 := 26) (L1 := 26) (z1 := EL zeL) (c1 := EL (ofB a)) (x1 := .tmp 7) (y1 := .tmp 13) (k2 := 5) (s2 := 7) (T2 := 30) (L2 := 30) (z2 := Nw 0) (c2 := Nw (nu (ofB a))) (x2 := .tmp 8) (y2 := .tmp 15)
    (vs := [(0, .agg (By a 32).toArray), (1, .agg (EL (ofB a)).toArray), (2, .agg (By a 32).toArray), (3, .agg (Nw (nu (ofB a))).toArray)]) (by kernel_rfl) ((Below.refl _ _).drew) (fun _ _ h k => S_trans h k) (fun _ _ cs h hg => S_row h hg cs) (fun _ h => h.size) ?hD1 (.of rfl rfl rfl (fun w' => el_alloc w')) (.of rfl rfl rfl (fun w' => nw_alloc w')) ?hk1 (by decide) rfl rfl rfl rfl (some 7) (some 8) rfl rfl rfl rfl rfl rfl ?e1 ?f1 ?e2 ?f2 (el_info _) (EL_sz _ _) (EL_one _) (nw_info _) (Nw_sz _ _) (Nw_one _) ?h1
  case hD1 =>
    refine .step (some 12) rfl rfl (by kernel_rfl) (Gives.load_row 22 (.tmp 3) rfl (w.heap.size) rfl 22 _ (fun w' h => hr1.belowAll h) Tryd.underlying22 rfl (by_info _)) ?_
    simp only [Act.put, List.setIfInBounds_toArray, List.set_cons_zero, List.set_cons_succ]
    refine .step (some 13) rfl rfl (by kernel_rfl) (Gives.call (args := [.agg (By a 32).toArray]) rfl Tryd.func14 (by kernel_rfl) (by kernel_rfl) rfl (fun w' h => of_any a w')) ?_
    simp only [Act.put, List.setIfInBounds_toArray, List.set_cons_zero, List.set_cons_succ]
    refine .step (some 14) rfl rfl (by kernel_rfl) (Gives.load_row 22 (.tmp 3) rfl (w.heap.size) rfl 22 _ (fun w' h => hr1.belowAll h) Tryd.underlying22 rfl (by_info _)) ?_
    simp only [Act.put, List.setIfInBounds_toArray, List.set_cons_zero, List.set_cons_succ]
    refine .step (some 15) rfl rfl (by kernel_rfl) (Gives.call (args := [.agg (By a 32).toArray]) rfl Tryd.func15 (by kernel_rfl) (by kernel_rfl) rfl (fun w' h => ofr_nu a w')) ?_
    simp only [Act.put, List.setIfInBounds_toArray, List.set_cons_zero, List.set_cons_succ]
    exact .nil
  case hk1 => kernel_rfl
  case e1 => intro p q; rfl
  case f1 => intro p q; rfl
  case e2 => intro p q; rfl
  case f2 => intro p q; rfl
  case h1 =>
  intro p q W1 hb hgp hgq hpq hp0 hq0
  simp only [Act.put, List.setIfInBounds_toArray, List.set_cons_zero, List.set_cons_succ]
  have hw1 := hb0.trans (hb.mono hb0.size)
  have HPQ := Lib.hid (Ne.symm hpq)
  have HPG := Lib.hid (Nat.le_trans hb0.size hgp)
  have HQG := Lib.hid (Nat.le_trans hb0.size hgq)
  clear hr1 hb0 hg0 hb hgp hgq hpq
  have he0 := ofB_ok a
  generalize ofB a = e0 at *
  have HE0 := Lib.hid he0
  have HP0 := Lib.hid hp0
  have HQ0 := Lib.hid hq0
  have HW1 := Lib.hid hw1
  clear he0 hp0 hq0 hw1
  go_wp2_with fail
  go_loopw [9] (fun i wr => ∃ (k : Nat) (e : Lm), k ≤ 40 ∧ i = .int .i64 (k : Int) ∧ e.ok ∧ Row wr p 26 (EL e) ∧ Row wr q 30 (Nw (nu e)) ∧ Below w.heap.size w wr) (fun i _ => 40 - (intOf i).toNat)
  case atStart => exact ⟨0, e0, by omega, rfl, HE0.out, HP0.out, HQ0.out, HW1.out⟩
  case round =>
    obtain ⟨k, e, hk40, rfl, he, hp, hq, hbe⟩ := hrel
    have bk0 : (0 : Int) ≤ (k : Int) := by omega
    by_cases h1 : k < n
    · have h1i : (k : Int) < (n : Int) := by omega
      by_cases h2 : k < m
      · have h2i : (k : Int) < (m : Int) := by omega
        by_cases h3 : k < 40
        · have h3i : (k : Int) < 40 := by omega
          have hkl : k < l.length := by rw [HL.out.1]; exact h1
          have hel : l[k]? = some (l.getD k 0) := by rw [List.getD, List.getElem?_eq_getElem hkl]; rfl
          obtain ⟨ad, rfl, hadl, hac⟩ := HL.out.2.2 (by omega)
          have hcell : ∀ w', Below wr.heap.size wr w' → ∀ j v, (By (l.getD k 0) 32)[j]? = some v → w'.cell? ((ad.add (k * 32)).add j) = some v := fun w' hb j v hv =>
            ((hbe.trans (hb.mono hbe.size)).cell (p := (ad.add (k * 32)).add j) (by rw [add_block, add_block]; exact hadl)).trans (hac k _ hel j v hv)
          generalize l.getD k 0 = N at *
          have hix := fun wx => ix_at ad n capn k h1 wx
          obtain ⟨bd, c, rfl, hbl, _, hbc⟩ := HH.out.byte h2
          have hbcell := fun w' (hb : Below w.heap.size w w') => (hb.cell (p := bd.add k) (by rw [add_block]; exact hbl)).trans hbc
          have hc5 : c.toNat < 256 := by have := c.toNat_lt; simpa using this
          generalize c.toNat = cn at *
          have HCELL := Lib.hid hcell
          have HIX := Lib.hid hix
          have HBC := Lib.hid hbcell
          have HPH := Lib.hid hp
          have HQH := Lib.hid hq
          have HBE := Lib.hid hbe
          clear hkl hel hadl hac hcell hix hbl hbc hbcell hp hq hbe HL HH
          go_wp2_with fail
          refine wp_vars_two (aD := ?aD5) (B := wr.heap.size) (S := fun w' => Below wr.heap.size wr w') (k1 := 10) (s1 := 12) (T1 := 26) (L1 := 26) (z1 := EL zeL) (c1 := EL (ofB N)) (x1 := .tmp 10) (y1 := .tmp 36) (k2 := 11) (s2 := 13) (T2 := 30) (L2 := 30) (z2 := Nw 0) (c2 := Nw (nu (ofB N))) (x2 := .tmp 11) (y2 := .tmp 41)
            (vs := [(0, .slice (some ad) n capn), (1, .int .i64 (k : Int)), (2, .pointer (some (ad.add (k * 32)))), (3, .agg (By N 32).toArray), (4, .agg (EL (ofB N)).toArray), (5, .slice (some ad) n capn), (6, .int .i64 (k : Int)), (7, .pointer (some (ad.add (k * 32)))), (8, .agg (By N 32).toArray), (9, .agg (Nw (nu (ofB N))).toArray)]) (by kernel_rfl) ((Below.refl _ _).drew) (fun _ _ h k => S_trans h k) (fun _ _ cs h hg => S_row h hg cs) (fun _ h => h.size) ?hD5 (.of rfl rfl rfl (fun w' => el_alloc w')) (.of rfl rfl rfl (fun w' => nw_alloc w')) ?hk5 (by decide) rfl rfl rfl rfl (some 10) (some 11) rfl rfl rfl rfl rfl rfl ?e1 ?f1 ?e2 ?f2 (el_info _) (EL_sz _ _) (EL_one _) (nw_info _) (Nw_sz _ _) (Nw_one _) ?h5
          case hD5 =>
            refine .step (some 32) rfl rfl (by kernel_rfl) (Gives.move (x := (.tmp 1)) rfl rfl) ?_
            simp only [Act.put, List.setIfInBounds_toArray, List.set_cons_zero, List.set_cons_succ]
            refine .step (some 33) rfl rfl (by kernel_rfl) (Gives.move (x := (.tmp 9)) rfl rfl) ?_
            simp only [Act.put, List.setIfInBounds_toArray, List.set_cons_zero, List.set_cons_succ]
            refine .step (some 34) rfl rfl (by kernel_rfl) (Gives.indexAt 44 (.tmp 32) (.tmp 33) rfl (.slice (some ad) n capn) (.int .i64 (k : Int)) _ rfl rfl (fun w' => HIX.out w')) ?_
            simp only [Act.put, List.setIfInBounds_toArray, List.set_cons_zero, List.set_cons_succ]
            refine .step (some 35) rfl rfl (by kernel_rfl) (Gives.load_at 22 (.tmp 34) rfl (ad.add (k * 32)) rfl (By N 32) _ (fun w' h => HCELL.out w' h) Tryd.underlying22 rfl (by_len _)) ?_
            simp only [Act.put, List.setIfInBounds_toArray, List.set_cons_zero, List.set_cons_succ]
            refine .step (some 36) rfl rfl (by kernel_rfl) (Gives.call (args := [.agg (By N 32).toArray]) rfl Tryd.func14 (by kernel_rfl) (by kernel_rfl) rfl (fun w' h => of_any N w')) ?_
            simp only [Act.put, List.setIfInBounds_toArray, List.set_cons_zero, List.set_cons_succ]
            refine .step (some 37) rfl rfl (by kernel_rfl) (Gives.move (x := (.tmp 1)) rfl rfl) ?_
            simp only [Act.put, List.setIfInBounds_toArray, List.set_cons_zero, List.set_cons_succ]
            refine .step (some 38) rfl rfl (by kernel_rfl) (Gives.move (x := (.tmp 9)) rfl rfl) ?_
            simp only [Act.put, List.setIfInBounds_toArray, List.set_cons_zero, List.set_cons_succ]
            refine .step (some 39) rfl rfl (by kernel_rfl) (Gives.indexAt 44 (.tmp 37) (.tmp 38) rfl (.slice (some ad) n capn) (.int .i64 (k : Int)) _ rfl rfl (fun w' => HIX.out w')) ?_
            simp only [Act.put, List.setIfInBounds_toArray, List.set_cons_zero, List.set_cons_succ]
            refine .step (some 40) rfl rfl (by kernel_rfl) (Gives.load_at 22 (.tmp 39) rfl (ad.add (k * 32)) rfl (By N 32) _ (fun w' h => HCELL.out w' h) Tryd.underlying22 rfl (by_len _)) ?_
            simp only [Act.put, List.setIfInBounds_toArray, List.set_cons_zero, List.set_cons_succ]
            refine .step (some 41) rfl rfl (by kernel_rfl) (Gives.call (args := [.agg (By N 32).toArray]) rfl Tryd.func15 (by kernel_rfl) (by kernel_rfl) rfl (fun w' h => ofr_nu N w')) ?_
            simp only [Act.put, List.setIfInBounds_toArray, List.set_cons_zero, List.set_cons_succ]
            exact .nil
          case hk5 => kernel_rfl
          case e1 => intro p q; rfl
          case f1 => intro p q; rfl
          case e2 => intro p q; rfl
          case f2 => intro p q; rfl
          case h5 =>
          intro g1 g2 W2 hb2 hgg1 hgg2 hg12 h10 h20
          simp only [Act.put, List.setIfInBounds_toArray, List.set_cons_zero, List.set_cons_succ]

          have hp2 := HPH.out.belowAll hb2
          have hq2 := HQH.out.belowAll hb2
          have hw2 := HBE.out.trans (hb2.mono HBE.out.size)
          have hgl2 := HG0.out.belowAll hw2
          have hbk := HBC.out W2 hw2
          have hx := ofB_ok N
          generalize ofB N = x at *
          clear hb2 hgg1 hgg2 hg12 HPH HQH HBE HBC HCELL HIX
          have hd : ∃ d : Nat, (cn : Int) % 5 = (d : Int) ∧ d < 5 := ⟨cn % 5, by omega, by omega⟩
          obtain ⟨d, hd5, hdl⟩ := hd
          have hcs : d = 0 ∨ d = 1 ∨ d = 2 ∨ d = 3 ∨ d = 4 := by omega
          clear hdl
          rcases hcs with rfl | rfl | rfl | rfl | rfl
          · have hd6 : (cn : Int) % 5 = 0 := hd5
            clear hd5
            go_wp2_with fail
            refine wp_flat_seq (aD := ?aDr9) (S := fun w' => Below W2.heap.size W2 w') (s1 := 6) (s2 := 7) (L1 := 26) (L2 := 30) (T1 := 26) (T2 := 30) (g1 := p) (g2 := q) (z1 := EL e) (z2 := Nw (nu e)) (c1 := EL (addL e x)) (c2 := Nw (nu (addL e x))) (x1 := .tmp 7) (y1 := .tmp 57) (x2 := .tmp 8) (y2 := .tmp 60)
              (vs := [(0, .agg (EL e).toArray), (1, .agg (EL x).toArray), (2, .agg (EL (addL e x)).toArray), (3, .agg (Nw (nu e)).toArray), (4, .agg (Nw (nu x)).toArray), (5, .agg (Nw (nu (addL e x))).toArray)]) (by kernel_rfl) ((Below.refl _ _).drew) (fun _ _ h k => S_trans h k) ?hDr9 ?hkr9 rfl rfl rfl rfl rfl rfl rfl rfl ?ear9 ?ebr9 ?ecr9 ?edr9 HPQ.out (fun w' h => hp2.belowAll h) (fun w' h => hq2.belowAll h) (el_info _) (EL_sz _ _) (EL_one _) (nw_info _) (Nw_sz _ _) (Nw_one _) ?hr9
            case hDr9 =>
              refine .step (some 55) rfl rfl (by kernel_rfl) (Gives.load_row 26 (.tmp 7) rfl (p) rfl 26 _ (fun w' h => hp2.belowAll h) Tryd.underlying26 rfl (el_info _)) ?_
              simp only [Act.put, List.setIfInBounds_toArray, List.set_cons_zero, List.set_cons_succ]
              refine .step (some 56) rfl rfl (by kernel_rfl) (Gives.load_row 26 (.tmp 10) rfl (g1) rfl 26 _ (fun w' h => h10.belowAll h) Tryd.underlying26 rfl (el_info _)) ?_
              simp only [Act.put, List.setIfInBounds_toArray, List.set_cons_zero, List.set_cons_succ]
              refine .step (some 57) rfl rfl (by kernel_rfl) (Gives.call (args := [.agg (EL e).toArray, .agg (EL x).toArray]) rfl Tryd.func27 (by kernel_rfl) (by kernel_rfl) rfl (fun w' h => add_any he hx w')) ?_
              simp only [Act.put, List.setIfInBounds_toArray, List.set_cons_zero, List.set_cons_succ]
              refine .step (some 58) rfl rfl (by kernel_rfl) (Gives.load_row 30 (.tmp 8) rfl (q) rfl 30 _ (fun w' h => hq2.belowAll h) Tryd.underlying30 rfl (nw_info _)) ?_
              simp only [Act.put, List.setIfInBounds_toArray, List.set_cons_zero, List.set_cons_succ]
              refine .step (some 59) rfl rfl (by kernel_rfl) (Gives.load_row 30 (.tmp 11) rfl (g2) rfl 30 _ (fun w' h => h20.belowAll h) Tryd.underlying30 rfl (nw_info _)) ?_
              simp only [Act.put, List.setIfInBounds_toArray, List.set_cons_zero, List.set_cons_succ]
              refine .step (some 60) rfl rfl (by kernel_rfl) (Gives.call (args := [.agg (Nw (nu e)).toArray, .agg (Nw (nu x)).toArray]) rfl Tryd.func28 (by kernel_rfl) (by kernel_rfl) rfl (fun w' h => addr_nu e x w')) ?_
              simp only [Act.put, List.setIfInBounds_toArray, List.set_cons_zero, List.set_cons_succ]
              exact .nil
            case hkr9 => kernel_rfl
            case ear9 => rfl
            case ebr9 => rfl
            case ecr9 => rfl
            case edr9 => rfl
            case hr9 =>
            intro W3 hb3
            have hp3 := (hp2.belowAll hb3).setRow (EL (addL e x))
            have hp4 := hp3.setRowOther (k := q) HPQ.out.symm (Nw (nu (addL e x))).toArray
            have hq3 := (hq2.belowAll hb3).setRowOther (k := p) HPQ.out (EL (addL e x)).toArray
            have hq4 := hq3.setRow (Nw (nu (addL e x)))
            have hok : Lm.ok (addL e x) := (addL_ok he hx)
            have hb4 := below_setRow (g := q) (below_setRow (g := p) (hw2.trans (hb3.mono hw2.size)) HPG.out (EL (addL e x)).toArray) HQG.out (Nw (nu (addL e x))).toArray
            have HP4 := Lib.hid hp4
            have HQ4 := Lib.hid hq4
            have HOK := Lib.hid hok
            have HB4 := Lib.hid hb4
            clear hp2 hq2 h10 h20 hgl2 hw2 hb3 hp3 hp4 hq3 hq4 hok hb4 he hx
            go_wp2_with fail
            go_roundw
            case rel => exact ⟨k + 1, _, by omega, by go_num, HOK.out, HP4.out, HQ4.out, HB4.out⟩
            case measure => simp [intOf] <;> omega

          · have hd6 : (cn : Int) % 5 = 1 := hd5
            clear hd5
            go_wp2_with fail
            refine wp_flat_seq (aD := ?aDr11) (S := fun w' => Below W2.heap.size W2 w') (s1 := 6) (s2 := 7) (L1 := 26) (L2 := 30) (T1 := 26) (T2 := 30) (g1 := p) (g2 := q) (z1 := EL e) (z2 := Nw (nu e)) (c1 := EL (subL e x)) (c2 := Nw (nu (subL e x))) (x1 := .tmp 7) (y1 := .tmp 65) (x2 := .tmp 8) (y2 := .tmp 68)
              (vs := [(0, .agg (EL e).toArray), (1, .agg (EL x).toArray), (2, .agg (EL (subL e x)).toArray), (3, .agg (Nw (nu e)).toArray), (4, .agg (Nw (nu x)).toArray), (5, .agg (Nw (nu (subL e x))).toArray)]) (by kernel_rfl) ((Below.refl _ _).drew) (fun _ _ h k => S_trans h k) ?hDr11 ?hkr11 rfl rfl rfl rfl rfl rfl rfl rfl ?ear11 ?ebr11 ?ecr11 ?edr11 HPQ.out (fun w' h => hp2.belowAll h) (fun w' h => hq2.belowAll h) (el_info _) (EL_sz _ _) (EL_one _) (nw_info _) (Nw_sz _ _) (Nw_one _) ?hr11
            case hDr11 =>
              refine .step (some 63) rfl rfl (by kernel_rfl) (Gives.load_row 26 (.tmp 7) rfl (p) rfl 26 _ (fun w' h => hp2.belowAll h) Tryd.underlying26 rfl (el_info _)) ?_
              simp only [Act.put, List.setIfInBounds_toArray, List.set_cons_zero, List.set_cons_succ]
              refine .step (some 64) rfl rfl (by kernel_rfl) (Gives.load_row 26 (.tmp 10) rfl (g1) rfl 26 _ (fun w' h => h10.belowAll h) Tryd.underlying26 rfl (el_info _)) ?_
              simp only [Act.put, List.setIfInBounds_toArray, List.set_cons_zero, List.set_cons_succ]
              refine .step (some 65) rfl rfl (by kernel_rfl) (Gives.call (args := [.agg (EL e).toArray, .agg (EL x).toArray]) rfl Tryd.func29 (by kernel_rfl) (by kernel_rfl) rfl (fun w' h => sub_any he hx w' (hgl2.belowAll h).en)) ?_
              simp only [Act.put, List.setIfInBounds_toArray, List.set_cons_zero, List.set_cons_succ]
              refine .step (some 66) rfl rfl (by kernel_rfl) (Gives.load_row 30 (.tmp 8) rfl (q) rfl 30 _ (fun w' h => hq2.belowAll h) Tryd.underlying30 rfl (nw_info _)) ?_
              simp only [Act.put, List.setIfInBounds_toArray, List.set_cons_zero, List.set_cons_succ]
              refine .step (some 67) rfl rfl (by kernel_rfl) (Gives.load_row 30 (.tmp 11) rfl (g2) rfl 30 _ (fun w' h => h20.belowAll h) Tryd.underlying30 rfl (nw_info _)) ?_
              simp only [Act.put, List.setIfInBounds_toArray, List.set_cons_zero, List.set_cons_succ]
              refine .step (some 68) rfl rfl (by kernel_rfl) (Gives.call (args := [.agg (Nw (nu e)).toArray, .agg (Nw (nu x)).toArray]) rfl Tryd.func30 (by kernel_rfl) (by kernel_rfl) rfl (fun w' h => subr_nu e hx w')) ?_
              simp only [Act.put, List.setIfInBounds_toArray, List.set_cons_zero, List.set_cons_succ]
              exact .nil
            case hkr11 => kernel_rfl
            case ear11 => rfl
            case ebr11 => rfl
            case ecr11 => rfl
            case edr11 => rfl
            case hr11 =>
            intro W3 hb3
            have hp3 := (hp2.belowAll hb3).setRow (EL (subL e x))
            have hp4 := hp3.setRowOther (k := q) HPQ.out.symm (Nw (nu (subL e x))).toArray
            have hq3 := (hq2.belowAll hb3).setRowOther (k := p) HPQ.out (EL (subL e x)).toArray
            have hq4 := hq3.setRow (Nw (nu (subL e x)))
            have hok : Lm.ok (subL e x) := (subL_ok he)
            have hb4 := below_setRow (g := q) (below_setRow (g := p) (hw2.trans (hb3.mono hw2.size)) HPG.out (EL (subL e x)).toArray) HQG.out (Nw (nu (subL e x))).toArray
            have HP4 := Lib.hid hp4
            have HQ4 := Lib.hid hq4
            have HOK := Lib.hid hok
            have HB4 := Lib.hid hb4
            clear hp2 hq2 h10 h20 hgl2 hw2 hb3 hp3 hp4 hq3 hq4 hok hb4 he hx
            go_wp2_with fail
            go_roundw
            case rel => exact ⟨k + 1, _, by omega, by go_num, HOK.out, HP4.out, HQ4.out, HB4.out⟩
            case measure => simp [intOf] <;> omega

          · have hd6 : (cn : Int) % 5 = 2 := hd5
            clear hd5
            go_wp2_with fail
            refine wp_flat_seq (aD := ?aDr13) (S := fun w' => Below W2.heap.size W2 w') (s1 := 6) (s2 := 7) (L1 := 26) (L2 := 30) (T1 := 26) (T2 := 30) (g1 := p) (g2 := q) (z1 := EL e) (z2 := Nw (nu e)) (c1 := EL (mulL e x)) (c2 := Nw (nu (mulL e x))) (x1 := .tmp 7) (y1 := .tmp 73) (x2 := .tmp 8) (y2 := .tmp 76)
              (vs := [(0, .agg (EL e).toArray), (1, .agg (EL x).toArray), (2, .agg (EL (mulL e x)).toArray), (3, .agg (Nw (nu e)).toArray), (4, .agg (Nw (nu x)).toArray), (5, .agg (Nw (nu (mulL e x))).toArray)]) (by kernel_rfl) ((Below.refl _ _).drew) (fun _ _ h k => S_trans h k) ?hDr13 ?hkr13 rfl rfl rfl rfl rfl rfl rfl rfl ?ear13 ?ebr13 ?ecr13 ?edr13 HPQ.out (fun w' h => hp2.belowAll h) (fun w' h => hq2.belowAll h) (el_info _) (EL_sz _ _) (EL_one _) (nw_info _) (Nw_sz _ _) (Nw_one _) ?hr13
            case hDr13 =>
              refine .step (some 71) rfl rfl (by kernel_rfl) (Gives.load_row 26 (.tmp 7) rfl (p) rfl 26 _ (fun w' h => hp2.belowAll h) Tryd.underlying26 rfl (el_info _)) ?_
              simp only [Act.put, List.setIfInBounds_toArray, List.set_cons_zero, List.set_cons_succ]
              refine .step (some 72) rfl rfl (by kernel_rfl) (Gives.load_row 26 (.tmp 10) rfl (g1) rfl 26 _ (fun w' h => h10.belowAll h) Tryd.underlying26 rfl (el_info _)) ?_
              simp only [Act.put, List.setIfInBounds_toArray, List.set_cons_zero, List.set_cons_succ]
              refine .step (some 73) rfl rfl (by kernel_rfl) (Gives.call (args := [.agg (EL e).toArray, .agg (EL x).toArray]) rfl Tryd.func31 (by kernel_rfl) (by kernel_rfl) rfl (fun w' h => mul_any he hx w')) ?_
              simp only [Act.put, List.setIfInBounds_toArray, List.set_cons_zero, List.set_cons_succ]
              refine .step (some 74) rfl rfl (by kernel_rfl) (Gives.load_row 30 (.tmp 8) rfl (q) rfl 30 _ (fun w' h => hq2.belowAll h) Tryd.underlying30 rfl (nw_info _)) ?_
              simp only [Act.put, List.setIfInBounds_toArray, List.set_cons_zero, List.set_cons_succ]
              refine .step (some 75) rfl rfl (by kernel_rfl) (Gives.load_row 30 (.tmp 11) rfl (g2) rfl 30 _ (fun w' h => h20.belowAll h) Tryd.underlying30 rfl (nw_info _)) ?_
              simp only [Act.put, List.setIfInBounds_toArray, List.set_cons_zero, List.set_cons_succ]
              refine .step (some 76) rfl rfl (by kernel_rfl) (Gives.call (args := [.agg (Nw (nu e)).toArray, .agg (Nw (nu x)).toArray]) rfl Tryd.func32 (by kernel_rfl) (by kernel_rfl) rfl (fun w' h => mulr_nu e x w')) ?_
              simp only [Act.put, List.setIfInBounds_toArray, List.set_cons_zero, List.set_cons_succ]
              exact .nil
            case hkr13 => kernel_rfl
            case ear13 => rfl
            case ebr13 => rfl
            case ecr13 => rfl
            case edr13 => rfl
            case hr13 =>
            intro W3 hb3
            have hp3 := (hp2.belowAll hb3).setRow (EL (mulL e x))
            have hp4 := hp3.setRowOther (k := q) HPQ.out.symm (Nw (nu (mulL e x))).toArray
            have hq3 := (hq2.belowAll hb3).setRowOther (k := p) HPQ.out (EL (mulL e x)).toArray
            have hq4 := hq3.setRow (Nw (nu (mulL e x)))
            have hok : Lm.ok (mulL e x) := (mulL_ok he hx)
            have hb4 := below_setRow (g := q) (below_setRow (g := p) (hw2.trans (hb3.mono hw2.size)) HPG.out (EL (mulL e x)).toArray) HQG.out (Nw (nu (mulL e x))).toArray
            have HP4 := Lib.hid hp4
            have HQ4 := Lib.hid hq4
            have HOK := Lib.hid hok
            have HB4 := Lib.hid hb4
            clear hp2 hq2 h10 h20 hgl2 hw2 hb3 hp3 hp4 hq3 hq4 hok hb4 he hx
            go_wp2_with fail
            go_roundw
            case rel => exact ⟨k + 1, _, by omega, by go_num, HOK.out, HP4.out, HQ4.out, HB4.out⟩
            case measure => simp [intOf] <;> omega

          · have hd6 : (cn : Int) % 5 = 3 := hd5
            clear hd5
            go_wp2_with fail
            refine wp_flat_seq (aD := ?aDr15) (S := fun w' => Below W2.heap.size W2 w') (s1 := 5) (s2 := 6) (L1 := 26) (L2 := 30) (T1 := 26) (T2 := 30) (g1 := p) (g2 := q) (z1 := EL e) (z2 := Nw (nu e)) (c1 := EL (negL e)) (c2 := Nw (nu (negL e))) (x1 := .tmp 7) (y1 := .tmp 80) (x2 := .tmp 8) (y2 := .tmp 83)
              (vs := [(0, .agg (EL e).toArray), (1, .agg (EL (negL e)).toArray), (2, .agg (Nw 0).toArray), (3, .agg (Nw (nu e)).toArray), (4, .agg (Nw (nu (negL e))).toArray)]) (by kernel_rfl) ((Below.refl _ _).drew) (fun _ _ h k => S_trans h k) ?hDr15 ?hkr15 rfl rfl rfl rfl rfl rfl rfl rfl ?ear15 ?ebr15 ?ecr15 ?edr15 HPQ.out (fun w' h => hp2.belowAll h) (fun w' h => hq2.belowAll h) (el_info _) (EL_sz _ _) (EL_one _) (nw_info _) (Nw_sz _ _) (Nw_one _) ?hr15
            case hDr15 =>
              refine .step (some 79) rfl rfl (by kernel_rfl) (Gives.load_row 26 (.tmp 7) rfl (p) rfl 26 _ (fun w' h => hp2.belowAll h) Tryd.underlying26 rfl (el_info _)) ?_
              simp only [Act.put, List.setIfInBounds_toArray, List.set_cons_zero, List.set_cons_succ]
              refine .step (some 80) rfl rfl (by kernel_rfl) (Gives.call (args := [.agg (EL e).toArray]) rfl Tryd.func33 (by kernel_rfl) (by kernel_rfl) rfl (fun w' h => neg_any he w' (hgl2.belowAll h).en)) ?_
              simp only [Act.put, List.setIfInBounds_toArray, List.set_cons_zero, List.set_cons_succ]
              refine .step (some 81) rfl rfl (by kernel_rfl) (Gives.build0 30 rfl _ (fun w' => nw_build w')) ?_
              simp only [Act.put, List.setIfInBounds_toArray, List.set_cons_zero, List.set_cons_succ]
              refine .step (some 82) rfl rfl (by kernel_rfl) (Gives.load_row 30 (.tmp 8) rfl (q) rfl 30 _ (fun w' h => hq2.belowAll h) Tryd.underlying30 rfl (nw_info _)) ?_
              simp only [Act.put, List.setIfInBounds_toArray, List.set_cons_zero, List.set_cons_succ]
              refine .step (some 83) rfl rfl (by kernel_rfl) (Gives.call (args := [.agg (Nw 0).toArray, .agg (Nw (nu e)).toArray]) rfl Tryd.func30 (by kernel_rfl) (by kernel_rfl) rfl (fun w' h => negr_nu he w')) ?_
              simp only [Act.put, List.setIfInBounds_toArray, List.set_cons_zero, List.set_cons_succ]
              exact .nil
            case hkr15 => kernel_rfl
            case ear15 => rfl
            case ebr15 => rfl
            case ecr15 => rfl
            case edr15 => rfl
            case hr15 =>
            intro W3 hb3
            have hp3 := (hp2.belowAll hb3).setRow (EL (negL e))
            have hp4 := hp3.setRowOther (k := q) HPQ.out.symm (Nw (nu (negL e))).toArray
            have hq3 := (hq2.belowAll hb3).setRowOther (k := p) HPQ.out (EL (negL e)).toArray
            have hq4 := hq3.setRow (Nw (nu (negL e)))
            have hok : Lm.ok (negL e) := (negL_ok _)
            have hb4 := below_setRow (g := q) (below_setRow (g := p) (hw2.trans (hb3.mono hw2.size)) HPG.out (EL (negL e)).toArray) HQG.out (Nw (nu (negL e))).toArray
            have HP4 := Lib.hid hp4
            have HQ4 := Lib.hid hq4
            have HOK := Lib.hid hok
            have HB4 := Lib.hid hb4
            clear hp2 hq2 h10 h20 hgl2 hw2 hb3 hp3 hp4 hq3 hq4 hok hb4 he hx
            go_wp2_with fail
            go_roundw
            case rel => exact ⟨k + 1, _, by omega, by go_num, HOK.out, HP4.out, HQ4.out, HB4.out⟩
            case measure => simp [intOf] <;> omega

          · have hd6 : (cn : Int) % 5 = 4 := hd5
            clear hd5
            go_wp2_with fail
            refine wp_flat_seq (aD := ?aDr7) (S := fun w' => Below W2.heap.size W2 w') (s1 := 6) (s2 := 7) (L1 := 26) (L2 := 30) (T1 := 26) (T2 := 30) (g1 := p) (g2 := q) (z1 := EL e) (z2 := Nw (nu e)) (c1 := EL (subL x e)) (c2 := Nw (nu (subL x e))) (x1 := .tmp 7) (y1 := .tmp 49) (x2 := .tmp 8) (y2 := .tmp 52)
              (vs := [(0, .agg (EL x).toArray), (1, .agg (EL e).toArray), (2, .agg (EL (subL x e)).toArray), (3, .agg (Nw (nu x)).toArray), (4, .agg (Nw (nu e)).toArray), (5, .agg (Nw (nu (subL x e))).toArray)]) (by kernel_rfl) ((Below.refl _ _).drew) (fun _ _ h k => S_trans h k) ?hDr7 ?hkr7 rfl rfl rfl rfl rfl rfl rfl rfl ?ear7 ?ebr7 ?ecr7 ?edr7 HPQ.out (fun w' h => hp2.belowAll h) (fun w' h => hq2.belowAll h) (el_info _) (EL_sz _ _) (EL_one _) (nw_info _) (Nw_sz _ _) (Nw_one _) ?hr7
            case hDr7 =>
              refine .step (some 47) rfl rfl (by kernel_rfl) (Gives.load_row 26 (.tmp 10) rfl (g1) rfl 26 _ (fun w' h => h10.belowAll h) Tryd.underlying26 rfl (el_info _)) ?_
              simp only [Act.put, List.setIfInBounds_toArray, List.set_cons_zero, List.set_cons_succ]
              refine .step (some 48) rfl rfl (by kernel_rfl) (Gives.load_row 26 (.tmp 7) rfl (p) rfl 26 _ (fun w' h => hp2.belowAll h) Tryd.underlying26 rfl (el_info _)) ?_
              simp only [Act.put, List.setIfInBounds_toArray, List.set_cons_zero, List.set_cons_succ]
              refine .step (some 49) rfl rfl (by kernel_rfl) (Gives.call (args := [.agg (EL x).toArray, .agg (EL e).toArray]) rfl Tryd.func29 (by kernel_rfl) (by kernel_rfl) rfl (fun w' h => sub_any hx he w' (hgl2.belowAll h).en)) ?_
              simp only [Act.put, List.setIfInBounds_toArray, List.set_cons_zero, List.set_cons_succ]
              refine .step (some 50) rfl rfl (by kernel_rfl) (Gives.load_row 30 (.tmp 11) rfl (g2) rfl 30 _ (fun w' h => h20.belowAll h) Tryd.underlying30 rfl (nw_info _)) ?_
              simp only [Act.put, List.setIfInBounds_toArray, List.set_cons_zero, List.set_cons_succ]
              refine .step (some 51) rfl rfl (by kernel_rfl) (Gives.load_row 30 (.tmp 8) rfl (q) rfl 30 _ (fun w' h => hq2.belowAll h) Tryd.underlying30 rfl (nw_info _)) ?_
              simp only [Act.put, List.setIfInBounds_toArray, List.set_cons_zero, List.set_cons_succ]
              refine .step (some 52) rfl rfl (by kernel_rfl) (Gives.call (args := [.agg (Nw (nu x)).toArray, .agg (Nw (nu e)).toArray]) rfl Tryd.func30 (by kernel_rfl) (by kernel_rfl) rfl (fun w' h => subr_nu x he w')) ?_
              simp only [Act.put, List.setIfInBounds_toArray, List.set_cons_zero, List.set_cons_succ]
              exact .nil
            case hkr7 => kernel_rfl
            case ear7 => rfl
            case ebr7 => rfl
            case ecr7 => rfl
            case edr7 => rfl
            case hr7 =>
            intro W3 hb3
            have hp3 := (hp2.belowAll hb3).setRow (EL (subL x e))
            have hp4 := hp3.setRowOther (k := q) HPQ.out.symm (Nw (nu (subL x e))).toArray
            have hq3 := (hq2.belowAll hb3).setRowOther (k := p) HPQ.out (EL (subL x e)).toArray
            have hq4 := hq3.setRow (Nw (nu (subL x e)))
            have hok : Lm.ok (subL x e) := (subL_ok hx)
            have hb4 := below_setRow (g := q) (below_setRow (g := p) (hw2.trans (hb3.mono hw2.size)) HPG.out (EL (subL x e)).toArray) HQG.out (Nw (nu (subL x e))).toArray
            have HP4 := Lib.hid hp4
            have HQ4 := Lib.hid hq4
            have HOK := Lib.hid hok
            have HB4 := Lib.hid hb4
            clear hp2 hq2 h10 h20 hgl2 hw2 hb3 hp3 hp4 hq3 hq4 hok hb4 he hx
            go_wp2_with fail
            go_roundw
            case rel => exact ⟨k + 1, _, by omega, by go_num, HOK.out, HP4.out, HQ4.out, HB4.out⟩
            case measure => simp [intOf] <;> omega

        · have h3i : (40 : Int) ≤ (k : Int) := by omega
          have hglr := HG0.out.belowAll hbe
          go_wp2_with fail
          refine wp_flat_none (aD := ?aDF3) (S := fun w' => Below wr.heap.size wr w') (vs := [(0, .agg (EL e).toArray), (1, .agg (By (nu e) 32).toArray), (2, .agg (Nw (nu e)).toArray), (3, .agg (By (nu e) 32).toArray), (4, .bool true), (5, .bool true), (6, .bool true), (7, .bool true), (8, .bool true)]) (by kernel_rfl) ((Below.refl _ _).drew) (fun _ _ h k => S_trans h k) ?hDF3 ?hkF3 ?hF3
          case hDF3 =>
            refine .step (some 84) rfl rfl (by kernel_rfl) (Gives.load_row 26 (.tmp 7) rfl (p) rfl 26 _ (fun w' h => hp.belowAll h) Tryd.underlying26 rfl (el_info _)) ?_
            simp only [Act.put, List.setIfInBounds_toArray, List.set_cons_zero, List.set_cons_succ]
            refine .step (some 85) rfl rfl (by kernel_rfl) (Gives.call (args := [.agg (EL e).toArray]) rfl Tryd.func16 (by kernel_rfl) (by kernel_rfl) rfl (fun w' h => bytes_any he w')) ?_
            simp only [Act.put, List.setIfInBounds_toArray, List.set_cons_zero, List.set_cons_succ]
            refine .step (some 86) rfl rfl (by kernel_rfl) (Gives.load_row 30 (.tmp 8) rfl (q) rfl 30 _ (fun w' h => hq.belowAll h) Tryd.underlying30 rfl (nw_info _)) ?_
            simp only [Act.put, List.setIfInBounds_toArray, List.set_cons_zero, List.set_cons_succ]
            refine .step (some 87) rfl rfl (by kernel_rfl) (Gives.call (args := [.agg (Nw (nu e)).toArray]) rfl Tryd.func17 (by kernel_rfl) (by kernel_rfl) rfl (fun w' h => rbytes_ref (nu e) w')) ?_
            simp only [Act.put, List.setIfInBounds_toArray, List.set_cons_zero, List.set_cons_succ]
            refine .step (some 88) rfl rfl (by kernel_rfl) (Gives.binop .eql 22 22 (.tmp 85) (.tmp 87) rfl (.agg (By (nu e) 32).toArray) (.agg (By (nu e) 32).toArray) _ rfl rfl (fun w' => bgrd _ _ _ _ _ w') (fun w' => beq_same rfl w')) ?_
            simp only [Act.put, List.setIfInBounds_toArray, List.set_cons_zero, List.set_cons_succ]
            refine .step (some 89) rfl rfl (by kernel_rfl) (Gives.move (x := (.tmp 88)) rfl rfl) ?_
            simp only [Act.put, List.setIfInBounds_toArray, List.set_cons_zero, List.set_cons_succ]
            refine .step (some 90) rfl rfl (by kernel_rfl) (Gives.call (args := []) rfl Tryd.func26 (by kernel_rfl) (by kernel_rfl) rfl (fun w' h => awake_any w' (hglr.belowAll h))) ?_
            simp only [Act.put, List.setIfInBounds_toArray, List.set_cons_zero, List.set_cons_succ]
            refine .step (some 91) rfl rfl (by kernel_rfl) (Gives.pick (.tmp 89) (.tmp 90) (.const (.bool false)) rfl true (.bool true) rfl rfl) ?_
            simp only [Act.put, List.setIfInBounds_toArray, List.set_cons_zero, List.set_cons_succ]
            refine .step (some 6) rfl rfl (by kernel_rfl) (Gives.assign (x := (.tmp 91)) rfl rfl) ?_
            simp only [Act.put, List.setIfInBounds_toArray, List.set_cons_zero, List.set_cons_succ]
            exact .nil
          case hkF3 => kernel_rfl
          case hF3 =>
          intro W9 hb9
          go_wp2_with fail
          go_ret
          exact ⟨rfl, hbe.trans (hb9.mono hbe.size)⟩

      · have h2i : (m : Int) ≤ (k : Int) := by omega
        have hglr := HG0.out.belowAll hbe
        go_wp2_with fail
        refine wp_flat_none (aD := ?aDF2) (S := fun w' => Below wr.heap.size wr w') (vs := [(0, .agg (EL e).toArray), (1, .agg (By (nu e) 32).toArray), (2, .agg (Nw (nu e)).toArray), (3, .agg (By (nu e) 32).toArray), (4, .bool true), (5, .bool true), (6, .bool true), (7, .bool true), (8, .bool true)]) (by kernel_rfl) ((Below.refl _ _).drew) (fun _ _ h k => S_trans h k) ?hDF2 ?hkF2 ?hF2
        case hDF2 =>
          refine .step (some 84) rfl rfl (by kernel_rfl) (Gives.load_row 26 (.tmp 7) rfl (p) rfl 26 _ (fun w' h => hp.belowAll h) Tryd.underlying26 rfl (el_info _)) ?_
          simp only [Act.put, List.setIfInBounds_toArray, List.set_cons_zero, List.set_cons_succ]
          refine .step (some 85) rfl rfl (by kernel_rfl) (Gives.call (args := [.agg (EL e).toArray]) rfl Tryd.func16 (by kernel_rfl) (by kernel_rfl) rfl (fun w' h => bytes_any he w')) ?_
          simp only [Act.put, List.setIfInBounds_toArray, List.set_cons_zero, List.set_cons_succ]
          refine .step (some 86) rfl rfl (by kernel_rfl) (Gives.load_row 30 (.tmp 8) rfl (q) rfl 30 _ (fun w' h => hq.belowAll h) Tryd.underlying30 rfl (nw_info _)) ?_
          simp only [Act.put, List.setIfInBounds_toArray, List.set_cons_zero, List.set_cons_succ]
          refine .step (some 87) rfl rfl (by kernel_rfl) (Gives.call (args := [.agg (Nw (nu e)).toArray]) rfl Tryd.func17 (by kernel_rfl) (by kernel_rfl) rfl (fun w' h => rbytes_ref (nu e) w')) ?_
          simp only [Act.put, List.setIfInBounds_toArray, List.set_cons_zero, List.set_cons_succ]
          refine .step (some 88) rfl rfl (by kernel_rfl) (Gives.binop .eql 22 22 (.tmp 85) (.tmp 87) rfl (.agg (By (nu e) 32).toArray) (.agg (By (nu e) 32).toArray) _ rfl rfl (fun w' => bgrd _ _ _ _ _ w') (fun w' => beq_same rfl w')) ?_
          simp only [Act.put, List.setIfInBounds_toArray, List.set_cons_zero, List.set_cons_succ]
          refine .step (some 89) rfl rfl (by kernel_rfl) (Gives.move (x := (.tmp 88)) rfl rfl) ?_
          simp only [Act.put, List.setIfInBounds_toArray, List.set_cons_zero, List.set_cons_succ]
          refine .step (some 90) rfl rfl (by kernel_rfl) (Gives.call (args := []) rfl Tryd.func26 (by kernel_rfl) (by kernel_rfl) rfl (fun w' h => awake_any w' (hglr.belowAll h))) ?_
          simp only [Act.put, List.setIfInBounds_toArray, List.set_cons_zero, List.set_cons_succ]
          refine .step (some 91) rfl rfl (by kernel_rfl) (Gives.pick (.tmp 89) (.tmp 90) (.const (.bool false)) rfl true (.bool true) rfl rfl) ?_
          simp only [Act.put, List.setIfInBounds_toArray, List.set_cons_zero, List.set_cons_succ]
          refine .step (some 6) rfl rfl (by kernel_rfl) (Gives.assign (x := (.tmp 91)) rfl rfl) ?_
          simp only [Act.put, List.setIfInBounds_toArray, List.set_cons_zero, List.set_cons_succ]
          exact .nil
        case hkF2 => kernel_rfl
        case hF2 =>
        intro W9 hb9
        go_wp2_with fail
        go_ret
        exact ⟨rfl, hbe.trans (hb9.mono hbe.size)⟩

    · have h1i : (n : Int) ≤ (k : Int) := by omega
      have hglr := HG0.out.belowAll hbe
      go_wp2_with fail
      refine wp_flat_none (aD := ?aDF1) (S := fun w' => Below wr.heap.size wr w') (vs := [(0, .agg (EL e).toArray), (1, .agg (By (nu e) 32).toArray), (2, .agg (Nw (nu e)).toArray), (3, .agg (By (nu e) 32).toArray), (4, .bool true), (5, .bool true), (6, .bool true), (7, .bool true), (8, .bool true)]) (by kernel_rfl) ((Below.refl _ _).drew) (fun _ _ h k => S_trans h k) ?hDF1 ?hkF1 ?hF1
      case hDF1 =>
        refine .step (some 84) rfl rfl (by kernel_rfl) (Gives.load_row 26 (.tmp 7) rfl (p) rfl 26 _ (fun w' h => hp.belowAll h) Tryd.underlying26 rfl (el_info _)) ?_
        simp only [Act.put, List.setIfInBounds_toArray, List.set_cons_zero, List.set_cons_succ]
        refine .step (some 85) rfl rfl (by kernel_rfl) (Gives.call (args := [.agg (EL e).toArray]) rfl Tryd.func16 (by kernel_rfl) (by kernel_rfl) rfl (fun w' h => bytes_any he w')) ?_
        simp only [Act.put, List.setIfInBounds_toArray, List.set_cons_zero, List.set_cons_succ]
        refine .step (some 86) rfl rfl (by kernel_rfl) (Gives.load_row 30 (.tmp 8) rfl (q) rfl 30 _ (fun w' h => hq.belowAll h) Tryd.underlying30 rfl (nw_info _)) ?_
        simp only [Act.put, List.setIfInBounds_toArray, List.set_cons_zero, List.set_cons_succ]
        refine .step (some 87) rfl rfl (by kernel_rfl) (Gives.call (args := [.agg (Nw (nu e)).toArray]) rfl Tryd.func17 (by kernel_rfl) (by kernel_rfl) rfl (fun w' h => rbytes_ref (nu e) w')) ?_
        simp only [Act.put, List.setIfInBounds_toArray, List.set_cons_zero, List.set_cons_succ]
        refine .step (some 88) rfl rfl (by kernel_rfl) (Gives.binop .eql 22 22 (.tmp 85) (.tmp 87) rfl (.agg (By (nu e) 32).toArray) (.agg (By (nu e) 32).toArray) _ rfl rfl (fun w' => bgrd _ _ _ _ _ w') (fun w' => beq_same rfl w')) ?_
        simp only [Act.put, List.setIfInBounds_toArray, List.set_cons_zero, List.set_cons_succ]
        refine .step (some 89) rfl rfl (by kernel_rfl) (Gives.move (x := (.tmp 88)) rfl rfl) ?_
        simp only [Act.put, List.setIfInBounds_toArray, List.set_cons_zero, List.set_cons_succ]
        refine .step (some 90) rfl rfl (by kernel_rfl) (Gives.call (args := []) rfl Tryd.func26 (by kernel_rfl) (by kernel_rfl) rfl (fun w' h => awake_any w' (hglr.belowAll h))) ?_
        simp only [Act.put, List.setIfInBounds_toArray, List.set_cons_zero, List.set_cons_succ]
        refine .step (some 91) rfl rfl (by kernel_rfl) (Gives.pick (.tmp 89) (.tmp 90) (.const (.bool false)) rfl true (.bool true) rfl rfl) ?_
        simp only [Act.put, List.setIfInBounds_toArray, List.set_cons_zero, List.set_cons_succ]
        refine .step (some 6) rfl rfl (by kernel_rfl) (Gives.assign (x := (.tmp 91)) rfl rfl) ?_
        simp only [Act.put, List.setIfInBounds_toArray, List.set_cons_zero, List.set_cons_succ]
        exact .nil
      case hkF1 => kernel_rfl
      case hF1 =>
      intro W9 hb9
      go_wp2_with fail
      go_ret
      exact ⟨rfl, hbe.trans (hb9.mono hbe.size)⟩


end Go.Proofs.YthpbipebpaeagaaDoor
