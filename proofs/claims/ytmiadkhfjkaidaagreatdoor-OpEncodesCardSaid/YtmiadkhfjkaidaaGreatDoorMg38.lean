/- Small lists copied. -/
import Derived.Test.YtmiadkhfjkaidaaGreatDoorMg37
import Derived.Laws.ResultCell
namespace Go.Proofs.YtmiadkhfjkaidaaGreatDoor
section
set_option maxRecDepth 100000
set_option linter.unusedSimpArgs false
set_option linter.unusedVariables false
open Go.RowKit

abbrev pP : List Value := [.int .i64 2, .int .i64 5, .string ⟨#[]⟩, .slice none 0 0, .slice none 0 0, .slice none 0 0, .int .i64 2, .int .i64 6, .string ⟨#[]⟩, .slice none 0 0, .slice none 0 0, .slice none 0 0]
abbrev pI : List Value := [.int .u64 1, .int .u64 2]
abbrev pS : List Value := [.int .i64 2, .slice none 0 0, .slice none 0 0]
/-- What the call's own row says: the block. -/
theorem own_rowJ {w : World} {B g cap n sz : Nat} {e : TypeId} {xs : List Value} (h : w.ownsRow B e sz (.slice (some ⟨g, 0, none⟩) n cap) n xs) : ∃ l, Row w g e l ∧ ∀ j, j < n * sz → l[j]? = xs[j]? := by
  rcases h.2 with ⟨h0, _⟩ | ⟨g', cap', cur, h0, hb, hg, h1, h2, h3, h4⟩
  · cases h0
  · cases h0
    refine ⟨cur.toList, hg, fun j hj => ?_⟩
    rw [← h4, List.getElem?_take, if_pos hj]
theorem sch_info : (Tryz.prog.info? 48).map (·.size) = some 3 := by kernel_rfl
theorem endsc_sch (p : Value) (d : Value) (w : World) :
    Calls Tryz.prog 192 #[p, d] w fun e w' => e = .returned (.tuple #[]) ∧ w' = w := by
  go_enter Tryz.func192, Tryz.ntmps192
  go_wp2_with fail
  go_end0
  exact ⟨rfl, rfl⟩

set_option maxHeartbeats 1600000 in
theorem ends_V2 (ib icap pb pcap : Nat) (w : World) (hI : Cells w ib pI) (hP : Cells w pb pP) (hpl : Plain w pb) :
    Calls Tryz.prog 100 #[.agg #[.int .i64 6, .int .i64 0, .string ⟨#[]⟩, .slice none 0 0, .slice (some ⟨ib, 0, none⟩) 2 icap, .slice (some ⟨pb, 0, none⟩) 2 pcap], .func (.func 66) #[] #[]] w fun e w' => e = .returned (.bool true) ∧ Below w.heap.size w w' := by
  have hb := below_new w (.cells #[.int .i64 6, .int .i64 0, .string ⟨#[]⟩, .slice none 0 0, .slice (some ⟨ib, 0, none⟩) 2 icap, .slice (some ⟨pb, 0, none⟩) 2 pcap] 28)
  have hr := Row.new w [.int .i64 6, .int .i64 0, .string ⟨#[]⟩, .slice none 0 0, .slice (some ⟨ib, 0, none⟩) 2 icap, .slice (some ⟨pb, 0, none⟩) 2 pcap] 28
  have hF : FamV2 (w.alloc (.cells #[.int .i64 6, .int .i64 0, .string ⟨#[]⟩, .slice none 0 0, .slice (some ⟨ib, 0, none⟩) 2 icap, .slice (some ⟨pb, 0, none⟩) 2 pcap] 28)) w.heap.size pb pcap := ⟨hr.cell (k := 5) rfl, (hP.below hb) 5 _ rfl, (hP.below hb) 11 _ rfl, hr.plain, hpl.below hb hpl.lt, by have := hpl.lt; omega⟩
  have HW := Lib.hid (walkeV2 w.heap.size (fun _ _ w1 => w1 = (w.alloc (.cells #[.int .i64 6, .int .i64 0, .string ⟨#[]⟩, .slice none 0 0, .slice (some ⟨ib, 0, none⟩) 2 icap, .slice (some ⟨pb, 0, none⟩) 2 pcap] 28))) (w.alloc (.cells #[.int .i64 6, .int .i64 0, .string ⟨#[]⟩, .slice none 0 0, .slice (some ⟨ib, 0, none⟩) 2 icap, .slice (some ⟨pb, 0, none⟩) 2 pcap] 28)) ((endsc_any _ _ _).mono fun e w1 ⟨he, hw⟩ => by subst hw; exact ⟨he, pb, pcap, rfl, hF, fun o _ _ wx _ => (endsc_any _ _ _).mono fun e w2 ⟨he, hw⟩ => by subst hw; exact ⟨he, Below.refl _ _⟩⟩))
  have HB := Lib.hid hb
  clear hb hr hF hP hpl hI
  go_enter Tryz.func100, Tryz.ntmps100
  go_wp2_with fail
  refine HW.out.mono ?_
  rintro e W1 ⟨rfl, w1, c, cc, rfl, hb⟩
  have HB1 := Lib.hid (below_more HB.out hb)
  clear hb
  go_wp2_with fail
  go_ret
  exact ⟨rfl, HB1.out⟩

theorem copyc_V2 (g f d : Nat) (ib icap pb pcap : Nat) (w : World) (hI : Cells w ib pI) (hP : Cells w pb pP) (hpl : Plain w pb) (h : Row w g 28 [.int .i64 6, .int .i64 0, .string ⟨#[]⟩, .slice none 0 0, .slice (some ⟨ib, 0, none⟩) 2 icap, .slice (some ⟨pb, 0, none⟩) 2 pcap]) (hf : w.cell? ⟨f, 0, none⟩ = some (.func (.func 67) #[] #[])) :
    Calls Tryz.prog 102 #[.pointer (some ⟨g, 0, none⟩), .int .i64 d, .pointer (some ⟨f, 0, none⟩)] w fun e w' => e = .returned (.tuple #[]) ∧ ∃ v4 v5, Row w' g 28 [.int .i64 6, .int .i64 0, .string ⟨#[]⟩, .slice none 0 0, v4, v5] ∧ w'.ownsRow w.heap.size 23 1 v4 2 pI ∧ w'.ownsRow w.heap.size 28 6 v5 2 pP ∧ Only (fun j => j = g) w w' := by
  have HO := Lib.hid (own_V2 g w pI pP rfl rfl (.int .i64 0) (.string ⟨#[]⟩) ib icap pb pcap hI hP (by simp [Value.oneCell']) (by simp [Value.oneCell']) h)
  clear h hP hpl hI
  go_enter Tryz.func102, Tryz.ntmps102
  go_wp2_with fail
  refine HO.out.mono ?_
  rintro e W1 ⟨rfl, hq⟩
  have HQ := Lib.hid hq
  clear hq
  go_wp2_with fail
  go_end0
  exact ⟨rfl, HQ.out⟩
theorem copycl_V2 (g o f d : Nat) (w : World) (l : List Value) (T : TypeId) (h : Row w g T l) (h3 : l[o + 3]? = some (.slice none 0 0)) (h4 : l[o + 4]? = some (.slice none 0 0)) (h5 : l[o + 5]? = some (.slice none 0 0)) (hf : w.cell? ⟨f, 0, none⟩ = some (.func (.func 67) #[] #[])) :
    Calls Tryz.prog 102 #[.pointer (some ⟨g, o, none⟩), .int .i64 d, .pointer (some ⟨f, 0, none⟩)] w fun e w' => e = .returned (.tuple #[]) ∧ Below w.heap.size w w' := by
  have HO := Lib.hid (own_leafV2 g o w l T h h3 h4 h5)
  clear h
  go_enter Tryz.func102, Tryz.ntmps102
  go_wp2_with fail
  refine HO.out.mono ?_
  rintro e W1 ⟨rfl, hq⟩
  have HQ := Lib.hid hq
  clear hq
  go_wp2_with fail
  go_end0
  exact ⟨rfl, HQ.out⟩

set_option maxHeartbeats 3200000 in
theorem tcopy_V2 (ib icap pb pcap : Nat) (w : World) (hI : Cells w ib pI) (hP : Cells w pb pP) (hpl : Plain w pb) :
    Calls Tryz.prog 65 #[.agg #[.int .i64 6, .int .i64 0, .string ⟨#[]⟩, .slice none 0 0, .slice (some ⟨ib, 0, none⟩) 2 icap, .slice (some ⟨pb, 0, none⟩) 2 pcap], .func (.func 66) #[] #[], .func (.func 67) #[] #[]] w fun e w' => ∃ q4 k4 q5 k5, e = .returned (.agg #[.int .i64 6, .int .i64 0, .string ⟨#[]⟩, .slice none 0 0, .slice (some ⟨q4, 0, none⟩) 2 k4, .slice (some ⟨q5, 0, none⟩) 2 k5]) ∧ w'.ownsRow w.heap.size 23 1 (.slice (some ⟨q4, 0, none⟩) 2 k4) 2 pI ∧ w'.ownsRow w.heap.size 28 6 (.slice (some ⟨q5, 0, none⟩) 2 k5) 2 pP ∧ Below w.heap.size w w' := by
  have HB0 := Lib.hid (Below.alloc3 w (.cells #[.int .i64 6, .int .i64 0, .string ⟨#[]⟩, .slice none 0 0, .slice (some ⟨ib, 0, none⟩) 2 icap, .slice (some ⟨pb, 0, none⟩) 2 pcap] 28) (.cells #[.func (.func 67) #[] #[]] 77) (.cells #[.int .i64 0, .int .i64 0, .string ⟨#[]⟩, .slice none 0 0, .slice none 0 0, .slice none 0 0] 28))
  have HP := Lib.hid (fun (w' : World) (hb : Below w.heap.size w w') => hP.below hb)
  have HPL := Lib.hid (fun (w' : World) (hb : Below w.heap.size w w') => hpl.below hb hpl.lt)
  have hpb := hpl.lt
  have HI := Lib.hid (fun (w' : World) (hb : Below w.heap.size w w') => hI.below hb)
  have R3 := Lib.hid (((Row.new w [.int .i64 6, .int .i64 0, .string ⟨#[]⟩, .slice none 0 0, .slice (some ⟨ib, 0, none⟩) 2 icap, .slice (some ⟨pb, 0, none⟩) 2 pcap] 28).alloc (.cells #[.func (.func 67) #[] #[]] 77)).alloc (.cells #[.int .i64 0, .int .i64 0, .string ⟨#[]⟩, .slice none 0 0, .slice none 0 0, .slice none 0 0] 28))
  have RF := Lib.hid ((Row.new1 w (.cells #[.int .i64 6, .int .i64 0, .string ⟨#[]⟩, .slice none 0 0, .slice (some ⟨ib, 0, none⟩) 2 icap, .slice (some ⟨pb, 0, none⟩) 2 pcap] 28) [.func (.func 67) #[] #[]] 77).alloc (.cells #[.int .i64 0, .int .i64 0, .string ⟨#[]⟩, .slice none 0 0, .slice none 0 0, .slice none 0 0] 28))
  have R6 := Lib.hid (Row.new2 w (.cells #[.int .i64 6, .int .i64 0, .string ⟨#[]⟩, .slice none 0 0, .slice (some ⟨ib, 0, none⟩) 2 icap, .slice (some ⟨pb, 0, none⟩) 2 pcap] 28) (.cells #[.func (.func 67) #[] #[]] 77) [.int .i64 0, .int .i64 0, .string ⟨#[]⟩, .slice none 0 0, .slice none 0 0, .slice none 0 0] 28)
  have HE := Lib.hid (ends_V2 ib icap pb pcap (((w.alloc (.cells #[.int .i64 6, .int .i64 0, .string ⟨#[]⟩, .slice none 0 0, .slice (some ⟨ib, 0, none⟩) 2 icap, .slice (some ⟨pb, 0, none⟩) 2 pcap] 28)).alloc (.cells #[.func (.func 67) #[] #[]] 77)).alloc (.cells #[.int .i64 0, .int .i64 0, .string ⟨#[]⟩, .slice none 0 0, .slice none 0 0, .slice none 0 0] 28)) (HI.out _ HB0.out) (HP.out _ HB0.out) (HPL.out _ HB0.out))
  clear hP hpl hI
  go_enter Tryz.func65, Tryz.ntmps65
  go_wp2_with fail
  refine HE.out.mono ?_
  rintro e W1 ⟨rfl, hb⟩
  have hb1 := below_more HB0.out hb
  have r3 := R3.out.belowAll hb
  have rf := RF.out.belowAll hb
  have r6 := R6.out.belowAll hb
  have hs1 : w.heap.size + 3 ≤ W1.heap.size := by have := hb.size; simpa using this
  have HWK := Lib.hid (walkcV2 w.heap.size (w.heap.size + 1) (fun c cc w1 => ∃ q4 k4, Row w1 w.heap.size 28 [.int .i64 6, .int .i64 0, .string ⟨#[]⟩, .slice none 0 0, .slice (some ⟨q4, 0, none⟩) 2 k4, .slice (some ⟨c, 0, none⟩) 2 cc] ∧ w1.ownsRow W1.heap.size 23 1 (.slice (some ⟨q4, 0, none⟩) 2 k4) 2 pI ∧ w1.ownsRow W1.heap.size 28 6 (.slice (some ⟨c, 0, none⟩) 2 cc) 2 pP ∧ Only (fun j => j = w.heap.size) W1 w1) W1 ((copyc_V2 w.heap.size (w.heap.size + 1) 1 ib icap pb pcap W1 (HI.out _ hb1) (HP.out _ hb1) (HPL.out _ hb1) r3 (rf.cell (k := 0) rfl)).mono fun e w1 ⟨he, v4, v5, hr, ho4, ho5, hO⟩ => by
    obtain ⟨q4, k4, rfl, _, _, _, _⟩ := own_formJ (by omega) ho4
    obtain ⟨c, cc, rfl, hq1, hq2, hq3, hq4⟩ := own_formJ (by omega) ho5
    obtain ⟨lc, hlc, hlx⟩ := own_rowJ ho5
    have hfx := hO.cell (a := ⟨w.heap.size + 1, 0, none⟩) (show ¬ (w.heap.size + 1 = w.heap.size) by omega) (show w.heap.size + 1 < W1.heap.size by omega)
    refine ⟨he, c, cc, ⟨q4, k4, hr, ho4, ho5, hO⟩, ⟨hr.cell (k := 5) rfl, own_cellJ ho5 (k := 5) rfl, own_cellJ ho5 (k := 11) rfl, hr.plain, hlc.plain, by omega⟩, fun o ho ho6 wx hbx => ?_⟩
    have hcx := hlc.belowAll hbx
    have hf2 := (hbx.cell (p := ⟨w.heap.size + 1, 0, none⟩) (show w.heap.size + 1 < w1.heap.size by have := hO.size; omega)).trans (hfx.trans (rf.cell (k := 0) rfl))
    have hov : o = 0 ∨ o = 6 := by omega
    rcases hov with rfl | rfl
    all_goals exact copycl_V2 c _ (w.heap.size + 1) 2 wx lc _ hcx (by rw [hlx _ (by decide)]; rfl) (by rw [hlx _ (by decide)]; rfl) (by rw [hlx _ (by decide)]; rfl) hf2))
  have R6' := Lib.hid r6
  have HB1 := Lib.hid hb1
  clear hb hb1 r3 rf r6
  go_wp2_with fail
  refine HWK.out.mono ?_
  rintro e W2 ⟨rfl, w1, c, cc, ⟨q4, k4, hr, ho4, ho5, hO⟩, hb⟩
  have R3'' := Lib.hid (hr.belowAll hb)
  have R6'' := Lib.hid ((R6'.out.only hO (by omega)).belowAll hb)
  have HB2 := Lib.hid (below_more (HB1.out.trans (hO.below (B := w.heap.size) HB1.out.size (fun j hj => by have h2 : j = w.heap.size := hj; omega))) hb)
  have HO4 := Lib.hid (own_below ho4 hb)
  have HO5 := Lib.hid (own_below ho5 hb)
  clear hb hr ho5 hO ho4
  go_wp2_with (first
    | (refine wpList_load_row rfl 28 (.tmp 3) rfl w.heap.size rfl 28 _ (0, 0) _ R3''.out Tryz.underlying28 rfl (v_info6 _ _ _ _ _ _) ?_)
    | (refine wpList_store_row rfl 28 (.tmp 6) (.tmp 16) rfl (w.heap.size + 1 + 1) #[.int .i64 6, .int .i64 0, .string ⟨#[]⟩, .slice none 0 0, .slice (some ⟨q4, 0, none⟩) 2 k4, .slice (some ⟨c, 0, none⟩) 2 cc] rfl rfl 28 _ R6''.out (v_info6 _ _ _ _ _ _) rfl (by simp [Value.oneCell']) ?_))
  have hgot := setRow_heap W2 (w.heap.size + 1 + 1) _ #[.int .i64 6, .int .i64 0, .string ⟨#[]⟩, .slice none 0 0, .slice (some ⟨q4, 0, none⟩) 2 k4, .slice (some ⟨c, 0, none⟩) 2 cc] _ _ R6''.out
  (try simp only [Exit.inBlock, Exit.then])
  refine bodyPost_ret (results_cell_row (by rfl) _ _ (w.heap.size + 1 + 1) _ _ _ _ (by rfl) hgot Tryz.underlying28 rfl (v_info6 _ _ _ _ _ _)) rfl ?_
  have hO2 := only_setRow W2 (w.heap.size + 1 + 1) #[.int .i64 6, .int .i64 0, .string ⟨#[]⟩, .slice none 0 0, .slice (some ⟨q4, 0, none⟩) 2 k4, .slice (some ⟨c, 0, none⟩) 2 cc]
  exact ⟨q4, k4, c, cc, rfl, own_base (own_only HO4.out hO2 fun j hj e => by have := (HO4.out.lt j hj).1; have e2 : j = w.heap.size + 1 + 1 := e; omega) (by omega), own_base (own_only HO5.out hO2 fun j hj e => by have := (HO5.out.lt j hj).1; have e2 : j = w.heap.size + 1 + 1 := e; omega) (by omega), below_setRow HB2.out (by omega) _⟩
set_option maxHeartbeats 1600000 in
theorem vcopy_V2 (ib icap pb pcap : Nat) (w : World) (hI : Cells w ib pI) (hP : Cells w pb pP) (hpl : Plain w pb) :
    Calls Tryz.prog 31 #[.agg #[.int .i64 6, .int .i64 0, .string ⟨#[]⟩, .slice none 0 0, .slice (some ⟨ib, 0, none⟩) 2 icap, .slice (some ⟨pb, 0, none⟩) 2 pcap]] w fun e w' => ∃ q4 k4 q5 k5, e = .returned (.agg #[.int .i64 6, .int .i64 0, .string ⟨#[]⟩, .slice none 0 0, .slice (some ⟨q4, 0, none⟩) 2 k4, .slice (some ⟨q5, 0, none⟩) 2 k5]) ∧ w'.ownsRow w.heap.size 23 1 (.slice (some ⟨q4, 0, none⟩) 2 k4) 2 pI ∧ w'.ownsRow w.heap.size 28 6 (.slice (some ⟨q5, 0, none⟩) 2 k5) 2 pP ∧ Below w.heap.size w w' := by
  have hb0 := Below.alloc2 w (.cells #[.int .i64 6, .int .i64 0, .string ⟨#[]⟩, .slice none 0 0, .slice (some ⟨ib, 0, none⟩) 2 icap, .slice (some ⟨pb, 0, none⟩) 2 pcap] 28) (.cells #[.int .i64 0, .int .i64 0, .string ⟨#[]⟩, .slice none 0 0, .slice none 0 0, .slice none 0 0] 28)
  have HC := Lib.hid (tcopy_V2 ib icap pb pcap _ (hI.below hb0) (hP.below hb0) (hpl.below hb0 hpl.lt))
  have R2 := Lib.hid (Row.new1 w (.cells #[.int .i64 6, .int .i64 0, .string ⟨#[]⟩, .slice none 0 0, .slice (some ⟨ib, 0, none⟩) 2 icap, .slice (some ⟨pb, 0, none⟩) 2 pcap] 28) [.int .i64 0, .int .i64 0, .string ⟨#[]⟩, .slice none 0 0, .slice none 0 0, .slice none 0 0] 28)
  have HB0 := Lib.hid hb0
  clear hb0 hP hpl hI
  go_enter Tryz.func31, Tryz.ntmps31
  go_wp2_with fail
  refine HC.out.mono ?_
  rintro e W1 ⟨q4, k4, q5, k5, rfl, ho4, ho5, hb⟩
  have hs1 : w.heap.size + 2 ≤ W1.heap.size := by have := hb.size; simpa using this
  have R2' := Lib.hid (R2.out.belowAll hb)
  have HB1 := Lib.hid (below_more HB0.out hb)
  have HO4 := Lib.hid ho4
  have HO5 := Lib.hid ho5
  clear hb ho5 ho4
  go_wp2_with (refine wpList_store_row rfl 28 (.tmp 2) (.tmp 4) rfl (w.heap.size + 1) #[.int .i64 6, .int .i64 0, .string ⟨#[]⟩, .slice none 0 0, .slice (some ⟨q4, 0, none⟩) 2 k4, .slice (some ⟨q5, 0, none⟩) 2 k5] rfl rfl 28 _ R2'.out (v_info6 _ _ _ _ _ _) rfl (by simp [Value.oneCell']) ?_)
  have hgot := setRow_heap W1 (w.heap.size + 1) _ #[.int .i64 6, .int .i64 0, .string ⟨#[]⟩, .slice none 0 0, .slice (some ⟨q4, 0, none⟩) 2 k4, .slice (some ⟨q5, 0, none⟩) 2 k5] _ _ R2'.out
  (try simp only [Exit.inBlock, Exit.then])
  refine bodyPost_ret (results_cell_row (by rfl) _ _ (w.heap.size + 1) _ _ _ _ (by rfl) hgot Tryz.underlying28 rfl (v_info6 _ _ _ _ _ _)) rfl ?_
  have hO2 := only_setRow W1 (w.heap.size + 1) #[.int .i64 6, .int .i64 0, .string ⟨#[]⟩, .slice none 0 0, .slice (some ⟨q4, 0, none⟩) 2 k4, .slice (some ⟨q5, 0, none⟩) 2 k5]
  exact ⟨q4, k4, q5, k5, rfl, own_base (own_only HO4.out hO2 fun j hj e => by have := (HO4.out.lt j hj).1; have e2 : j = w.heap.size + 1 := e; simp at this; omega) (by simp; omega), own_base (own_only HO5.out hO2 fun j hj e => by have := (HO5.out.lt j hj).1; have e2 : j = w.heap.size + 1 := e; simp at this; omega) (by simp; omega), below_setRow HB1.out (by omega) _⟩

set_option maxHeartbeats 1600000 in
theorem ends_S1 (pb pcap : Nat) (w : World) (hP : Cells w pb pS) (hpl : Plain w pb) :
    Calls Tryz.prog 180 #[.agg #[.int .i64 6, .slice none 0 0, .slice (some ⟨pb, 0, none⟩) 1 pcap], .func (.func 151) #[] #[]] w fun e w' => e = .returned (.bool true) ∧ Below w.heap.size w w' := by
  have hb := below_new w (.cells #[.int .i64 6, .slice none 0 0, .slice (some ⟨pb, 0, none⟩) 1 pcap] 48)
  have hr := Row.new w [.int .i64 6, .slice none 0 0, .slice (some ⟨pb, 0, none⟩) 1 pcap] 48
  have hF : FamS1 (w.alloc (.cells #[.int .i64 6, .slice none 0 0, .slice (some ⟨pb, 0, none⟩) 1 pcap] 48)) w.heap.size pb pcap := ⟨hr.cell (k := 2) rfl, (hP.below hb) 2 _ rfl, hr.plain, hpl.below hb hpl.lt, by have := hpl.lt; omega⟩
  have HW := Lib.hid (walkeS1 w.heap.size (fun _ _ w1 => w1 = (w.alloc (.cells #[.int .i64 6, .slice none 0 0, .slice (some ⟨pb, 0, none⟩) 1 pcap] 48))) (w.alloc (.cells #[.int .i64 6, .slice none 0 0, .slice (some ⟨pb, 0, none⟩) 1 pcap] 48)) ((endsc_sch _ _ _).mono fun e w1 ⟨he, hw⟩ => by subst hw; exact ⟨he, pb, pcap, rfl, hF, fun o _ _ wx _ => (endsc_sch _ _ _).mono fun e w2 ⟨he, hw⟩ => by subst hw; exact ⟨he, Below.refl _ _⟩⟩))
  have HB := Lib.hid hb
  clear hb hr hF hP hpl
  go_enter Tryz.func180, Tryz.ntmps180
  go_wp2_with fail
  refine HW.out.mono ?_
  rintro e W1 ⟨rfl, w1, c, cc, rfl, hb⟩
  have HB1 := Lib.hid (below_more HB.out hb)
  clear hb
  go_wp2_with fail
  go_ret
  exact ⟨rfl, HB1.out⟩

theorem copyc_S1 (g f d : Nat) (pb pcap : Nat) (w : World) (hP : Cells w pb pS) (hpl : Plain w pb) (h : Row w g 48 [.int .i64 6, .slice none 0 0, .slice (some ⟨pb, 0, none⟩) 1 pcap]) (hf : w.cell? ⟨f, 0, none⟩ = some (.func (.func 152) #[] #[])) :
    Calls Tryz.prog 182 #[.pointer (some ⟨g, 0, none⟩), .int .i64 d, .pointer (some ⟨f, 0, none⟩)] w fun e w' => e = .returned (.tuple #[]) ∧ ∃ v5, Row w' g 48 [.int .i64 6, .slice none 0 0, v5] ∧ w'.ownsRow w.heap.size 48 3 v5 1 pS ∧ Only (fun j => j = g) w w' := by
  have HO := Lib.hid (own_S1 g w pS rfl pb pcap hP (by simp [Value.oneCell']) h)
  clear h hP hpl
  go_enter Tryz.func182, Tryz.ntmps182
  go_wp2_with fail
  refine HO.out.mono ?_
  rintro e W1 ⟨rfl, hq⟩
  have HQ := Lib.hid hq
  clear hq
  go_wp2_with fail
  go_end0
  exact ⟨rfl, HQ.out⟩
theorem copycl_S1 (g o f d : Nat) (w : World) (l : List Value) (T : TypeId) (h : Row w g T l) (h1 : l[o + 1]? = some (.slice none 0 0)) (h2 : l[o + 2]? = some (.slice none 0 0)) (hf : w.cell? ⟨f, 0, none⟩ = some (.func (.func 152) #[] #[])) :
    Calls Tryz.prog 182 #[.pointer (some ⟨g, o, none⟩), .int .i64 d, .pointer (some ⟨f, 0, none⟩)] w fun e w' => e = .returned (.tuple #[]) ∧ Below w.heap.size w w' := by
  have HO := Lib.hid (own_leafS1 g o w l T h h1 h2)
  clear h
  go_enter Tryz.func182, Tryz.ntmps182
  go_wp2_with fail
  refine HO.out.mono ?_
  rintro e W1 ⟨rfl, hq⟩
  have HQ := Lib.hid hq
  clear hq
  go_wp2_with fail
  go_end0
  exact ⟨rfl, HQ.out⟩

set_option maxHeartbeats 3200000 in
theorem tcopy_S1 (pb pcap : Nat) (w : World) (hP : Cells w pb pS) (hpl : Plain w pb) :
    Calls Tryz.prog 150 #[.agg #[.int .i64 6, .slice none 0 0, .slice (some ⟨pb, 0, none⟩) 1 pcap], .func (.func 151) #[] #[], .func (.func 152) #[] #[]] w fun e w' => ∃ q5 k5, e = .returned (.agg #[.int .i64 6, .slice none 0 0, .slice (some ⟨q5, 0, none⟩) 1 k5]) ∧ w'.ownsRow w.heap.size 48 3 (.slice (some ⟨q5, 0, none⟩) 1 k5) 1 pS ∧ Below w.heap.size w w' := by
  have HB0 := Lib.hid (Below.alloc3 w (.cells #[.int .i64 6, .slice none 0 0, .slice (some ⟨pb, 0, none⟩) 1 pcap] 48) (.cells #[.func (.func 152) #[] #[]] 163) (.cells #[.int .i64 0, .slice none 0 0, .slice none 0 0] 48))
  have HP := Lib.hid (fun (w' : World) (hb : Below w.heap.size w w') => hP.below hb)
  have HPL := Lib.hid (fun (w' : World) (hb : Below w.heap.size w w') => hpl.below hb hpl.lt)
  have hpb := hpl.lt
  have R3 := Lib.hid (((Row.new w [.int .i64 6, .slice none 0 0, .slice (some ⟨pb, 0, none⟩) 1 pcap] 48).alloc (.cells #[.func (.func 152) #[] #[]] 163)).alloc (.cells #[.int .i64 0, .slice none 0 0, .slice none 0 0] 48))
  have RF := Lib.hid ((Row.new1 w (.cells #[.int .i64 6, .slice none 0 0, .slice (some ⟨pb, 0, none⟩) 1 pcap] 48) [.func (.func 152) #[] #[]] 163).alloc (.cells #[.int .i64 0, .slice none 0 0, .slice none 0 0] 48))
  have R6 := Lib.hid (Row.new2 w (.cells #[.int .i64 6, .slice none 0 0, .slice (some ⟨pb, 0, none⟩) 1 pcap] 48) (.cells #[.func (.func 152) #[] #[]] 163) [.int .i64 0, .slice none 0 0, .slice none 0 0] 48)
  have HE := Lib.hid (ends_S1 pb pcap (((w.alloc (.cells #[.int .i64 6, .slice none 0 0, .slice (some ⟨pb, 0, none⟩) 1 pcap] 48)).alloc (.cells #[.func (.func 152) #[] #[]] 163)).alloc (.cells #[.int .i64 0, .slice none 0 0, .slice none 0 0] 48)) (HP.out _ HB0.out) (HPL.out _ HB0.out))
  clear hP hpl
  go_enter Tryz.func150, Tryz.ntmps150
  go_wp2_with fail
  refine HE.out.mono ?_
  rintro e W1 ⟨rfl, hb⟩
  have hb1 := below_more HB0.out hb
  have r3 := R3.out.belowAll hb
  have rf := RF.out.belowAll hb
  have r6 := R6.out.belowAll hb
  have hs1 : w.heap.size + 3 ≤ W1.heap.size := by have := hb.size; simpa using this
  have HWK := Lib.hid (walkcS1 w.heap.size (w.heap.size + 1) (fun c cc w1 => Row w1 w.heap.size 48 [.int .i64 6, .slice none 0 0, .slice (some ⟨c, 0, none⟩) 1 cc] ∧ w1.ownsRow W1.heap.size 48 3 (.slice (some ⟨c, 0, none⟩) 1 cc) 1 pS ∧ Only (fun j => j = w.heap.size) W1 w1) W1 ((copyc_S1 w.heap.size (w.heap.size + 1) 1 pb pcap W1 (HP.out _ hb1) (HPL.out _ hb1) r3 (rf.cell (k := 0) rfl)).mono fun e w1 ⟨he, v5, hr, ho5, hO⟩ => by
    obtain ⟨c, cc, rfl, hq1, hq2, hq3, hq4⟩ := own_formJ (by omega) ho5
    obtain ⟨lc, hlc, hlx⟩ := own_rowJ ho5
    have hfx := hO.cell (a := ⟨w.heap.size + 1, 0, none⟩) (show ¬ (w.heap.size + 1 = w.heap.size) by omega) (show w.heap.size + 1 < W1.heap.size by omega)
    refine ⟨he, c, cc, ⟨hr, ho5, hO⟩, ⟨hr.cell (k := 2) rfl, own_cellJ ho5 (k := 2) rfl, hr.plain, hlc.plain, by omega⟩, fun o ho ho6 wx hbx => ?_⟩
    have hcx := hlc.belowAll hbx
    have hf2 := (hbx.cell (p := ⟨w.heap.size + 1, 0, none⟩) (show w.heap.size + 1 < w1.heap.size by have := hO.size; omega)).trans (hfx.trans (rf.cell (k := 0) rfl))
    have hov : o = 0 ∨ o = 0 := by omega
    rcases hov with rfl | rfl
    all_goals exact copycl_S1 c _ (w.heap.size + 1) 2 wx lc _ hcx (by rw [hlx _ (by decide)]; rfl) (by rw [hlx _ (by decide)]; rfl) hf2))
  have R6' := Lib.hid r6
  have HB1 := Lib.hid hb1
  clear hb hb1 r3 rf r6
  go_wp2_with fail
  refine HWK.out.mono ?_
  rintro e W2 ⟨rfl, w1, c, cc, ⟨hr, ho5, hO⟩, hb⟩
  have R3'' := Lib.hid (hr.belowAll hb)
  have R6'' := Lib.hid ((R6'.out.only hO (by omega)).belowAll hb)
  have HB2 := Lib.hid (below_more (HB1.out.trans (hO.below (B := w.heap.size) HB1.out.size (fun j hj => by have h2 : j = w.heap.size := hj; omega))) hb)
  have HO5 := Lib.hid (own_below ho5 hb)
  clear hb hr ho5 hO
  go_wp2_with (first
    | (refine wpList_load_row rfl 48 (.tmp 3) rfl w.heap.size rfl 48 _ (0, 0) _ R3''.out Tryz.underlying48 rfl sch_info ?_)
    | (refine wpList_store_row rfl 48 (.tmp 6) (.tmp 16) rfl (w.heap.size + 1 + 1) #[.int .i64 6, .slice none 0 0, .slice (some ⟨c, 0, none⟩) 1 cc] rfl rfl 48 _ R6''.out sch_info rfl (by simp [Value.oneCell']) ?_))
  have hgot := setRow_heap W2 (w.heap.size + 1 + 1) _ #[.int .i64 6, .slice none 0 0, .slice (some ⟨c, 0, none⟩) 1 cc] _ _ R6''.out
  (try simp only [Exit.inBlock, Exit.then])
  refine bodyPost_ret (results_cell_row (by rfl) _ _ (w.heap.size + 1 + 1) _ _ _ _ (by rfl) hgot Tryz.underlying48 rfl sch_info) rfl ?_
  have hO2 := only_setRow W2 (w.heap.size + 1 + 1) #[.int .i64 6, .slice none 0 0, .slice (some ⟨c, 0, none⟩) 1 cc]
  exact ⟨c, cc, rfl, own_base (own_only HO5.out hO2 fun j hj e => by have := (HO5.out.lt j hj).1; have e2 : j = w.heap.size + 1 + 1 := e; omega) (by omega), below_setRow HB2.out (by omega) _⟩
set_option maxHeartbeats 1600000 in
theorem vcopy_S1 (pb pcap : Nat) (w : World) (hP : Cells w pb pS) (hpl : Plain w pb) :
    Calls Tryz.prog 110 #[.agg #[.int .i64 6, .slice none 0 0, .slice (some ⟨pb, 0, none⟩) 1 pcap]] w fun e w' => ∃ q5 k5, e = .returned (.agg #[.int .i64 6, .slice none 0 0, .slice (some ⟨q5, 0, none⟩) 1 k5]) ∧ w'.ownsRow w.heap.size 48 3 (.slice (some ⟨q5, 0, none⟩) 1 k5) 1 pS ∧ Below w.heap.size w w' := by
  have hb0 := Below.alloc2 w (.cells #[.int .i64 6, .slice none 0 0, .slice (some ⟨pb, 0, none⟩) 1 pcap] 48) (.cells #[.int .i64 0, .slice none 0 0, .slice none 0 0] 48)
  have HC := Lib.hid (tcopy_S1 pb pcap _ (hP.below hb0) (hpl.below hb0 hpl.lt))
  have R2 := Lib.hid (Row.new1 w (.cells #[.int .i64 6, .slice none 0 0, .slice (some ⟨pb, 0, none⟩) 1 pcap] 48) [.int .i64 0, .slice none 0 0, .slice none 0 0] 48)
  have HB0 := Lib.hid hb0
  clear hb0 hP hpl
  go_enter Tryz.func110, Tryz.ntmps110
  go_wp2_with fail
  refine HC.out.mono ?_
  rintro e W1 ⟨q5, k5, rfl, ho5, hb⟩
  have hs1 : w.heap.size + 2 ≤ W1.heap.size := by have := hb.size; simpa using this
  have R2' := Lib.hid (R2.out.belowAll hb)
  have HB1 := Lib.hid (below_more HB0.out hb)
  have HO5 := Lib.hid ho5
  clear hb ho5
  go_wp2_with (refine wpList_store_row rfl 48 (.tmp 2) (.tmp 4) rfl (w.heap.size + 1) #[.int .i64 6, .slice none 0 0, .slice (some ⟨q5, 0, none⟩) 1 k5] rfl rfl 48 _ R2'.out sch_info rfl (by simp [Value.oneCell']) ?_)
  have hgot := setRow_heap W1 (w.heap.size + 1) _ #[.int .i64 6, .slice none 0 0, .slice (some ⟨q5, 0, none⟩) 1 k5] _ _ R2'.out
  (try simp only [Exit.inBlock, Exit.then])
  refine bodyPost_ret (results_cell_row (by rfl) _ _ (w.heap.size + 1) _ _ _ _ (by rfl) hgot Tryz.underlying48 rfl sch_info) rfl ?_
  have hO2 := only_setRow W1 (w.heap.size + 1) #[.int .i64 6, .slice none 0 0, .slice (some ⟨q5, 0, none⟩) 1 k5]
  exact ⟨q5, k5, rfl, own_base (own_only HO5.out hO2 fun j hj e => by have := (HO5.out.lt j hj).1; have e2 : j = w.heap.size + 1 := e; simp at this; omega) (by simp; omega), below_setRow HB1.out (by omega) _⟩
end

end Go.Proofs.YtmiadkhfjkaidaaGreatDoor
