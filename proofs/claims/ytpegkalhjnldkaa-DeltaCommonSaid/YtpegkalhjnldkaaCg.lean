/- The chapter's example: what stands in a record's list. -/
import Derived.Test.YtpegkalhjnldkaaCq
import Derived.Laws.ResultCell
namespace Go.Proofs.Ytpegkalhjnldkaa
set_option maxRecDepth 100000
set_option linter.unusedSimpArgs false
set_option linter.unusedVariables false
open Go.RowKit

def aB : ByteArray := { data := #[97] }
abbrev lfA (k n : Int) (s : ByteArray) : Array Value := #[.int .i64 k, .int .i64 n, .string s, .slice none 0 0, .slice none 0 0, .slice none 0 0]
/-- A record whose field a is a list of one number, and a part without parts. -/
structure ExV (w : World) (g n0 p1 i0 p0 : Nat) : Prop where
  top : Cells w g [.int .i64 5, .int .i64 0, .string ByteArray.empty, .slice (some ⟨n0, 0, none⟩) 1 1, .slice none 0 0, .slice (some ⟨p1, 0, none⟩) 1 1]
  nm : w.cell? ⟨n0, 0, none⟩ = some (.string aB)
  lst : Cells w p1 [.int .i64 6, .int .i64 0, .string ByteArray.empty, .slice none 0 0, .slice (some ⟨i0, 0, none⟩) 1 1, .slice (some ⟨p0, 0, none⟩) 1 1]
  idc : w.cell? ⟨i0, 0, none⟩ = some (.int .u64 3)
  leaf : Cells w p0 [.int .i64 1, .int .i64 1, .string ByteArray.empty, .slice none 0 0, .slice none 0 0, .slice none 0 0]
theorem ExV.below {w w' : World} {g n0 p1 i0 p0 : Nat} (h : ExV w g n0 p1 i0 p0) (hb : Below w.heap.size w w') : ExV w' g n0 p1 i0 p0 :=
  ⟨h.top.below hb, (hb.cell (lt_of_cell h.nm)).trans h.nm, h.lst.below hb, (hb.cell (lt_of_cell h.idc)).trans h.idc, h.leaf.below hb⟩

set_option maxHeartbeats 1600000 in
theorem getc_leaf (p x : Nat) (k n : Int) (s : ByteArray) (w : World) (h : Cells w p [.int .i64 k, .int .i64 n, .string s, .slice none 0 0, .slice none 0 0, .slice none 0 0]) (hx : Row w x 37 (leafC (.int .i64 0) (.int .i64 0) (.string ByteArray.empty))) :
    Calls Try.prog 40 #[.pointer (some ⟨p, 0, none⟩), .pointer (some ⟨x, 0, none⟩)] w fun e w' => e = .returned (.tuple #[]) ∧ Row w' x 37 (leafC (.int .i64 k) (.int .i64 n) (.string s)) ∧ Only (fun j => j = x) w w' := by
  have HC := Lib.hid (vcopy_leaf k n s w)
  have HLD := Lib.hid (ld_val _ rfl h)
  have HX := Lib.hid hx
  clear h hx
  go_enter Try.func40, Try.ntmps40
  go_wp2_with (refine wpList_loadr rfl 37 (.tmp 4) rfl _ _ rfl HLD.out ?_)
  refine HC.out.mono ?_
  rintro e W1 ⟨rfl, hb⟩
  have HX1 := Lib.hid (HX.out.belowAll hb)
  have HB := Lib.hid hb
  clear hb
  go_wp2_with (refine wpList_store_row rfl 37 (.tmp 1) (.tmp 6) rfl x (lfA k n s) rfl rfl 37 _ HX1.out (v_info6 _ _ _ _ _ _) rfl (leaf_one _ _ _) ?_)
  go_end0
  refine ⟨rfl, ?_, (Only.of_below HB.out _).trans (only_setRow W1 x _) fun _ _ h => h⟩
  exact setRow_heap W1 x _ _ _ _ HX1.out
set_option maxHeartbeats 1600000 in
theorem at_ex (g n0 p1 i0 p0 x : Nat) (q : Addr) (cq : Nat) (w : World) (h : ExV w g n0 p1 i0 p0) (hq : Sts w (some q) 2 [⟨aB, 0⟩, ⟨ByteArray.empty, 3⟩]) (hx : Row w x 37 (leafC (.int .i64 0) (.int .i64 0) (.string ByteArray.empty))) :
    Calls Try.prog 38 #[.pointer (some ⟨g, 0, none⟩), .slice (some q) 2 cq, .func (.func 39) #[] #[], .func (.func 40) #[] #[.pointer (some ⟨x, 0, none⟩)]] w fun e w' => e = .returned (.bool true) ∧ Row w' x 37 (leafC (.int .i64 1) (.int .i64 1) (.string ByteArray.empty)) ∧ Only (fun j => j = x) w w' := by
  have H := Lib.hid h
  have HQ := Lib.hid hq
  have HX := Lib.hid hx
  clear h hq hx
  go_enter Try.func38, Try.ntmps38
  go_wp2_with fail
  go_loopw [0, 10, 13] (fun v _ i wr => ∃ j : Nat, j ≤ 2 ∧ i = .int .i64 (j : Int) ∧ v = .pointer (some ⟨if j = 0 then g else if j = 1 then p1 else p0, 0, none⟩) ∧ Below w.heap.size w wr) (fun _ _ i _ => 2 - (intOf i).toNat)
  case atStart => exact ⟨0, by omega, rfl, rfl, Below.refl _ _⟩
  case round =>
    obtain ⟨j, hj, rfl, rfl, hbw⟩ := hrel
    have HE := Lib.hid (H.out.below hbw)
    have HB := Lib.hid hbw
    by_cases j0 : j = 0
    · subst j0
      obtain ⟨ad, e, hc0, hc1⟩ := (HQ.out.below hbw).at_ (i := 0) (by omega)
      obtain rfl : q = ad := Option.some.inj e
      have HLD := Lib.hid (ld_st (s := aB) (i := 0) hc0 hc1)
      have hbn := hbw.trans ((below_new wr (.cells #[.string aB, .int .u64 0] 69)).mono hbw.size)
      have HY := H.out.below hbn
      have HP := Lib.hid (spart_rec g n0 1 p1 1 aB 0 (by decide) _ (HY.top 0 _ rfl) (HY.top 3 _ rfl) (HY.top 5 _ rfl) HY.nm)
      have HBN := Lib.hid hbn
      clear hbw hbn hc0 hc1 e HY
      go_wp2_with (refine wpList_loadr rfl 69 (.tmp 15) rfl _ _ rfl HLD.out ?_)
      refine HP.out.mono ?_
      rintro e W1 ⟨rfl, hb1⟩
      have HB1 := Lib.hid (HBN.out.trans (hb1.mono HBN.out.size))
      clear hb1
      go_wp2_with fail
      go_roundw
      case rel => exact ⟨1, by omega, rfl, rfl, HB1.out⟩
      case measure => simp [intOf]
    · by_cases j1 : j = 1
      · subst j1
        obtain ⟨ad, e, hc0, hc1⟩ := (HQ.out.below hbw).at_ (i := 1) (by omega)
        obtain rfl : q = ad := Option.some.inj e
        have HLD := Lib.hid (ld_st (s := ByteArray.empty) (i := 3) hc0 hc1)
        have hbn := hbw.trans ((below_new wr (.cells #[.string ByteArray.empty, .int .u64 3] 69)).mono hbw.size)
        have HY := H.out.below hbn
        have HP := Lib.hid (spart_list p1 i0 1 p0 1 _ _ _ 3 _ HY.lst HY.idc)
        have HBN := Lib.hid hbn
        clear hbw hbn hc0 hc1 e HY
        go_wp2_with (refine wpList_loadr rfl 69 (.tmp 15) rfl _ _ rfl HLD.out ?_)
        refine HP.out.mono ?_
        rintro e W1 ⟨rfl, hb1⟩
        have HB1 := Lib.hid (HBN.out.trans (hb1.mono HBN.out.size))
        clear hb1
        go_wp2_with fail
        go_roundw
        case rel => exact ⟨2, by omega, rfl, rfl, HB1.out⟩
        case measure => simp [intOf]
      · obtain rfl : j = 2 := by omega
        have hgl := getc_leaf p0 x 1 1 ByteArray.empty wr (H.out.below hbw).leaf (HX.out.belowAll hbw)
        have HG := Lib.hid hgl
        clear hbw hgl
        go_wp2_with fail
        refine HG.out.mono ?_
        rintro e W1 ⟨rfl, hr, ho⟩
        have HR1 := Lib.hid hr
        have HO1 := Lib.hid ((Only.of_below HB.out _).trans ho fun _ _ h => h)
        clear hr ho
        go_wp2_with fail
        go_ret
        exact ⟨rfl, HR1.out, HO1.out⟩


theorem results_row_tmp {P : Program} {fn : Func} {p u : Tmp} {ty : TypeId} (h : fn.results = #[.cell p ty, .tmp u]) (tmps : Array Value) (w : World) (g : Nat) (t : TypeId) (cs : Array Value) (fr : Nat × Nat) (d : TypeDesc)
    (hp : tmps.getD p undef = .pointer (some ⟨g, 0, none⟩)) (hg : w.heap[g]? = some (.cells cs t fr))
    (hu : P.underlying ty = some d) (hd : (match d with | .struct _ | .array _ _ => true | _ => false) = true) (hi : (P.info? ty).map (·.size) = some cs.size) :
    (results fn tmps).run P w = .ok (.tuple #[.agg cs, tmps.getD u undef]) w := by
  rw [results_cell_tmp h, hp]
  simp [asAddr, run_loadVar_row w g t ty cs fr d hg hu hd hi, Result.andThen]
abbrev recA (n0 p1 : Nat) : Array Value := #[.int .i64 5, .int .i64 0, .string ByteArray.empty, .slice (some ⟨n0, 0, none⟩) 1 1, .slice none 0 0, .slice (some ⟨p1, 0, none⟩) 1 1]
set_option maxHeartbeats 1600000 in
theorem get_ex (g n0 p1 i0 p0 : Nat) (q : Addr) (cq : Nat) (w : World) (h : ExV w g n0 p1 i0 p0) (hq : Sts w (some q) 2 [⟨aB, 0⟩, ⟨ByteArray.empty, 3⟩]) :
    Calls Try.prog 22 #[.agg (recA n0 p1), .slice (some q) 2 cq] w fun e w' => e = .returned (.tuple #[.agg (lfA 1 1 ByteArray.empty), .bool true]) ∧ Below w.heap.size w w' := by
  have hb0 := Below.alloc3 w (.cells (recA n0 p1) 37) (.cells #[.int .i64 0, .int .i64 0, .string { data := #[] }, .slice none 0 0, .slice none 0 0, .slice none 0 0] 37) (.cells #[.int .i64 0, .int .i64 0, .string { data := #[] }, .slice none 0 0, .slice none 0 0, .slice none 0 0] 37)
  have h1 := h.below hb0
  have rg := ((Row.new w (recA n0 p1).toList 37).alloc (.cells #[.int .i64 0, .int .i64 0, .string { data := #[] }, .slice none 0 0, .slice none 0 0, .slice none 0 0] 37)).alloc (.cells #[.int .i64 0, .int .i64 0, .string { data := #[] }, .slice none 0 0, .slice none 0 0, .slice none 0 0] 37)
  have r4 := (Row.new1 w (.cells (recA n0 p1) 37) (leafC (.int .i64 0) (.int .i64 0) (.string { data := #[] })) 37).alloc (.cells #[.int .i64 0, .int .i64 0, .string { data := #[] }, .slice none 0 0, .slice none 0 0, .slice none 0 0] 37)
  have r6 := Row.new2 w (.cells (recA n0 p1) 37) (.cells #[.int .i64 0, .int .i64 0, .string { data := #[] }, .slice none 0 0, .slice none 0 0, .slice none 0 0] 37) (leafC (.int .i64 0) (.int .i64 0) (.string { data := #[] })) 37
  have HE : ExV _ w.heap.size n0 p1 i0 p0 := ⟨rg.cells, h1.nm, h1.lst, h1.idc, h1.leaf⟩
  have HAT := Lib.hid (at_ex w.heap.size n0 p1 i0 p0 (w.heap.size + 1 + 1) q cq _ HE (hq.below hb0) r6)
  have R4 := Lib.hid r4
  have HB0 := Lib.hid hb0
  clear h hq hb0 h1 rg r4 r6 HE
  go_enter Try.func22, Try.ntmps22
  go_wp2_with fail
  refine HAT.out.mono ?_
  rintro e W1 ⟨rfl, hr, ho⟩
  have R4' := Lib.hid (R4.out.only ho (by omega))
  have HLD := Lib.hid (ld_val _ rfl hr.cells)
  have HB1 := Lib.hid (HB0.out.trans (ho.below HB0.out.size (fun k hk => by have h2 : k = w.heap.size + 1 + 1 := hk; omega)))
  clear hr ho
  go_wp2_with (first
    | (refine wpList_loadr rfl 37 (.tmp 6) rfl _ _ rfl HLD.out ?_)
    | (refine wpList_store_row rfl 37 (.tmp 4) (.tmp 11) rfl (w.heap.size + 1) (lfA 1 1 ByteArray.empty) rfl rfl 37 _ R4'.out (v_info6 _ _ _ _ _ _) rfl (leaf_one _ _ _) ?_))
  have hgot : (W1.setRow (w.heap.size + 1) (lfA 1 1 ByteArray.empty)).heap[w.heap.size + 1]? = some (.cells (lfA 1 1 ByteArray.empty) 37 (0, 0)) := setRow_heap W1 _ _ _ _ _ R4'.out
  (try simp only [Exit.inBlock, Exit.then])
  refine bodyPost_ret (results_row_tmp (by rfl) _ _ (w.heap.size + 1) _ _ _ _ (by rfl) hgot Try.underlying37 rfl (v_info6 _ _ _ _ _ _)) rfl ?_
  exact ⟨rfl, below_setRow HB1.out (by omega) _⟩

end Go.Proofs.Ytpegkalhjnldkaa
