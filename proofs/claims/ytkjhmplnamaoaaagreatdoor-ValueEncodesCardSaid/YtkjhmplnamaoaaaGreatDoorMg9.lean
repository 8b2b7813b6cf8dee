/- slices.Insert of one element at 0, into none or one; copies of rows of any width. fields.With at the example: into no fields, and ahead of one. fields.With into no fields. fields.With ahead of one field. Where a step leads, at one field and at one element: Find, Part of fields; Elem; place.Part. A value without lists and parts: gone through, copied; for any such value. -/
import Derived.Test.YtkjhmplnamaoaaaGreatDoorMg6
import Derived.Laws.CopyOwn
import Derived.Laws.CopyRow
import Derived.Lib.AppendZerosOnto
import Derived.Lib.Overlaps
import Derived.Deep.RegionLaw
import Derived.Deep.RegionWith
import Derived.Test.YtkjhmplnamaoaaaGreatDoorMg5
import Derived.Test.YtkjhmplnamaoaaaGreatDoorMg4
namespace Go.Proofs.YtkjhmplnamaoaaaGreatDoor
section
set_option maxRecDepth 100000
set_option linter.unusedSimpArgs false
set_option linter.unusedVariables false
open Go.RowKit

theorem run_copyz {P : Program} (w : World) (dT sT ty elem : TypeId) (g o dLen dCap : Nat) (a : Addr) (sLen sCap : Nat) (cur : Array Value) (t : TypeId) (cs : List Value) (sz n : Nat)
    (hu : P.underlying dT = some (.slice elem)) (hs : (P.info? elem).map (·.size) = some sz)
    (hg : w.heap[g]? = some (.cells cur t (0, 0))) (hn0 : n = Nat.min sLen dLen) (hn : cs.length = n * sz)
    (hsrc : ∀ j v, cs[j]? = some v → w.cell? (a.add j) = some v) (hfit : o + cs.length ≤ cur.size) (h1 : ∀ v ∈ cs, v.oneCell' = true) :
    (Builtin.copy_ #[dT, sT] ty #[.slice (some ⟨g, o, none⟩) dLen dCap, .slice (some a) sLen sCap]).run P w =
      .ok (goInt n) (w.setRow g (cur.toList.take o ++ cs ++ cur.toList.drop (o + cs.length)).toArray) := by
  have hl := run_loadCells_list (P := P) w a cs hsrc
  have hst := run_storeCells_at P g o t cs 0 cur w hg (by simpa using hfit) h1
  rw [hn] at hl
  cases hq : P.info? elem with
  | none => simp [hq] at hs
  | some i =>
    have hi : i.size = sz := by simpa [hq] using hs
    simp [Builtin.copy_, run_underlying hu, Builtin.lenOf, Builtin.firstCells, sizeOf, typeInfo, hq, hi, ← hn0, hl, hst]

theorem step_copyz {P : Program} {ops : Array Oper} {o : Oper} {a : Act} {w : World} {K : Act → World → Prop} {Q : Exit → Act → World → Prop} {E : Prop} (hgd : o.guard = none) (d s : Operand) (dT sT : TypeId)
    (ho : o.op = .call { callee := .builtin .copy, args := #[d, s], argTypes := #[dT, sT] }) (elem : TypeId) (hu : P.underlying dT = some (.slice elem)) (sz n : Nat) (hsz : (P.info? elem).map (·.size) = some sz)
    (ad : Addr) (dLen dCap sLen sCap : Nat) (g off : Nat) (hd : a.eval d = .slice (some ⟨g, off, none⟩) dLen dCap) (hs : a.eval s = .slice (some ad) sLen sCap)
    (cur : List Value) (t : TypeId) (hg : w.heap[g]? = some (.cells cur.toArray t (0, 0))) (cs : List Value) (hn0 : n = Nat.min sLen dLen) (hn : cs.length = n * sz)
    (hsrc : ∀ j v, cs[j]? = some v → w.cell? (ad.add j) = some v)
    (hfit : off + cs.length ≤ cur.length) (h1 : ∀ v ∈ cs, v.oneCell' = true) (B : Nat) (w0 : World) (hb : Below B w0 w) (hBg : B ≤ g)
    (h : ∀ w', Hid (w'.heap[g]? = some (.cells (splice cur off cs).toArray t (0, 0))) → Hid (Below B w0 w') → Hid (∀ k, k ≠ g → w'.heap[k]? = w.heap[k]?) → K (a.put o.dst (goInt n)) w') :
    if Region.wanted o (yielded ops a.tmps) = true then Oper.wp P o a w K Q else E := by
  have hw : Region.wanted o (yielded ops a.tmps) = true := by simp [Region.wanted, hgd]
  rw [if_pos hw]
  have hrun := run_copyz (P := P) w dT sT o.type elem g off dLen dCap ad sLen sCap cur.toArray t cs sz n hu hsz hg hn0 hn hsrc (by simpa using hfit) h1
  unfold Oper.wp
  simp [execOp, ho, resolve, invoke, builtin, hd, hs, hrun, Result.andThen]
  exact h _ (show _ = _ by simpa [splice] using setRow_heap w g _ _ t _ hg) (show Below _ _ _ from hb.trans ⟨rfl, rfl, rfl, by simp [World.setRow], fun k hk => setRow_other w g k _ (by omega)⟩) (fun k hk => setRow_other w g k _ hk)

theorem wpList_copyz {P : Program} {w : World} {ops : Array Oper} {rest : List Oper} {o : Oper} {a : Act} {Q : Exit → Act → World → Prop} (hgd : o.guard = none) (d s : Operand) (dT sT : TypeId)
    (ho : o.op = .call { callee := .builtin .copy, args := #[d, s], argTypes := #[dT, sT] }) (elem : TypeId) (hu : P.underlying dT = some (.slice elem)) (sz n : Nat) (hsz : (P.info? elem).map (·.size) = some sz)
    (ad : Addr) (dLen dCap sLen sCap : Nat) (g off : Nat) (hd : a.eval d = .slice (some ⟨g, off, none⟩) dLen dCap) (hs : a.eval s = .slice (some ad) sLen sCap)
    (cur : List Value) (t : TypeId) (hg : w.heap[g]? = some (.cells cur.toArray t (0, 0))) (cs : List Value) (hn0 : n = Nat.min sLen dLen) (hn : cs.length = n * sz)
    (hsrc : ∀ j v, cs[j]? = some v → w.cell? (ad.add j) = some v)
    (hfit : off + cs.length ≤ cur.length) (h1 : ∀ v ∈ cs, v.oneCell' = true) (B : Nat) (w0 : World) (hb : Below B w0 w) (hBg : B ≤ g)
    (h : ∀ w', Hid (w'.heap[g]? = some (.cells (splice cur off cs).toArray t (0, 0))) → Hid (Below B w0 w') → Hid (∀ k, k ≠ g → w'.heap[k]? = w.heap[k]?) → wpList P ops Q rest (a.put o.dst (goInt n)) w') :
    wpList P ops Q (o :: rest) a w := by
  refine wpList_plain hgd fun K hK => ?_
  have hrun := run_copyz (P := P) w dT sT o.type elem g off dLen dCap ad sLen sCap cur.toArray t cs sz n hu hsz hg hn0 hn hsrc (by simpa using hfit) h1
  unfold Oper.wp
  simp [execOp, ho, resolve, invoke, builtin, hd, hs, hrun, Result.andThen]
  exact hK _ _ (h _ (show _ = _ by simpa [splice] using setRow_heap w g _ _ t _ hg) (show Below _ _ _ from hb.trans ⟨rfl, rfl, rfl, by simp [World.setRow], fun k hk => setRow_other w g k _ (by omega)⟩) (fun k hk => setRow_other w g k _ hk))

theorem add_plain (g j k : Nat) : (⟨g, j, none⟩ : Addr).add k = ⟨g, j + k, none⟩ := by unfold Addr.add; split <;> simp_all
theorem cells_at {w : World} {g : Nat} {t : TypeId} {A B C : List Value} (h : w.heap[g]? = some (.cells (A ++ (B ++ C)).toArray t (0, 0))) (j : Nat) (v : Value) (hj : B[j]? = some v) : w.cell? ((⟨g, A.length, none⟩ : Addr).add j) = some v := by
  rw [add_plain, cell_of_row w g _ _ _ _ h, List.getElem?_toArray, List.getElem?_append_right (by omega), show A.length + j - A.length = j by omega]
  rw [List.getElem?_append_left (List.getElem?_eq_some_iff.1 hj).1]
  exact hj
theorem splice_one (X D1 D2 : List Value) (n : Nat) (h : X.length = n) (h1 : D1.length = n) : splice (X ++ (D1 ++ D2)) n X = X ++ (X ++ D2) := by
  subst h
  unfold splice
  rw [List.take_left, ← List.append_assoc X D1 D2, show X.length + X.length = (X ++ D1).length by rw [List.length_append, h1], List.drop_left]
theorem splice_mid (Y X D1 D2 : List Value) (n : Nat) (hy : Y.length = n) (h : X.length = n) (h1 : D1.length = n) : splice (Y ++ (D1 ++ D2)) n X = Y ++ (X ++ D2) := by
  subst hy
  unfold splice
  rw [List.take_left, ← List.append_assoc Y D1 D2, show Y.length + X.length = (Y ++ D1).length by rw [List.length_append, h1, h], List.drop_left]
theorem splice_zero (X Y R : List Value) (h : Y.length = X.length) : splice (X ++ R) 0 Y = Y ++ R := by
  unfold splice
  rw [List.take_zero, List.nil_append, Nat.zero_add, h, List.drop_left]
theorem wpList_appendI {P : Program} (w : World) {ops : Array Oper} {rest : List Oper} {o : Oper} {a : Act} {Q : Exit → Act → World → Prop} (hgd : o.guard = none) (d s : Operand) (t t' : TypeId)
    (ho : o.op = .call { callee := .builtin .append, args := #[d, s], argTypes := #[t, t'] }) (v u : Value) (hd : a.eval d = v) (hs : a.eval s = u) {v' : Value} {w' : World}
    (hr : (Builtin.append_ #[t, t'] o.type #[v, u]).run P w = .ok v' w') (h : wpList P ops Q rest (a.put o.dst v') w') : wpList P ops Q (o :: rest) a w := by
  refine wpList_plain hgd fun K hK => ?_
  unfold Oper.wp
  simp [execOp, ho, resolve, invoke, builtin, hd, hs, hr, Result.andThen]
  exact hK _ _ h

set_option maxHeartbeats 1600000 in
theorem insA_str (w : World) (q : Nat) (X : List Value) (hl : X.length = 1) (hx : ∀ j u, X[j]? = some u → w.cell? ((⟨q, 0, none⟩ : Addr).add j) = some u) (h1 : ∀ u ∈ X, u.oneCell' = true) :
    Calls Tryz.prog 48 #[.slice none 0 0, .int .i64 0, .slice (some ⟨q, 0, none⟩) 1 1] w fun e w' => ∃ v, e = .returned v ∧ w'.ownsRow w.heap.size 9 1 v 1 X ∧ Below w.heap.size w w' := by
  obtain ⟨i0, hi, hz0, hz1, hz2⟩ := info_parts str_info_
  have HX := Lib.hid hx
  have HO := Lib.hid h1
  clear hx h1
  go_enter Tryz.func48, Tryz.ntmps48
  go_wp2_with (at_builtin; refine wpList_append_own_at _ rfl (.tmp 23) (.tmp 24) 22 rfl w.heap.size 9 i0 (.string ByteArray.empty) 1 16 Tryz.underlying22 hi hz0 hz1 hz2 rfl (by omega) (.slice none 0 0) 0 [] rfl (World.ownsRow_nil _ _ _ _) ⟨q, 0, none⟩ 1 1 X rfl (by rw [hl]) HX.out HO.out ?c1 ?c2 ?c3 ?_)
  case c1 => unfold maxLen; omega
  case c2 => omega
  case c3 => exact Nat.le_refl _
  intro v1 W1 ho1 hg1 _ _
  have hb1 := (Below.refl w.heap.size w).grown hg1 (Nat.le_refl _) (fun q hq => by cases hq)
  have HO1 := Lib.hid ho1
  have HB1 := Lib.hid hb1
  clear ho1 hg1 hb1
  go_wp2_with fail
  go_ret
  exact ⟨v1, rfl, by simpa using HO1.out, HB1.out⟩

set_option maxHeartbeats 3200000 in
theorem insC_str (w : World) (b g q cap : Nat) (X Y D : List Value) (hX : X.length = 1) (hY : Y.length = 1) (hD : D.length = (cap - 1) * 1) (hbg : b ≤ g) (hg : w.heap[g]? = some (.cells (X ++ D).toArray 9 (0, 0))) (hq : w.heap[q]? = some (.cells Y.toArray 9 (0, 0))) (hne : q ≠ g) (hcm : cap ≤ maxLen) (h1X : ∀ u ∈ X, u.oneCell' = true) (h1Y : ∀ u ∈ Y, u.oneCell' = true) (hc : 2 ≤ cap) :
    Calls Tryz.prog 48 #[.slice (some ⟨g, 0, none⟩) 1 cap, .int .i64 0, .slice (some ⟨q, 0, none⟩) 1 1] w fun e w' => ∃ v, e = .returned v ∧ w'.ownsRow b 9 1 v 2 (Y ++ X) ∧ Below b w w' ∧ Only (fun k => k = g) w w' ∧ ∀ k, v.ownBlock = some k → k = g ∨ w.heap.size ≤ k := by
  obtain ⟨i0, hi, hz0, hz1, hz2⟩ := info_parts str_info_
  have hsz : (Tryz.prog.info? 9).map (·.size) = some 1 := by rw [hi]; simp [hz1]
  have hszr : ∀ w, (Go.sizeOf 9).run Tryz.prog w = .ok 1 w := fun w => by simp [sizeOf, typeInfo, hi, hz1]
  obtain ⟨D1, D2, rfl, hD1⟩ : ∃ D1 D2, D = D1 ++ D2 ∧ D1.length = 1 := ⟨D.take 1, D.drop 1, (List.take_append_drop _ _).symm, by rw [List.length_take, hD]; exact Nat.min_eq_left (by omega)⟩
  have hsa : w.shape? q = some (9, 1) := by simp [World.shape?, hq, hY]
  have hsb : w.shape? g = some (9, (X ++ (D1 ++ D2)).length) := by simp [World.shape?, hg]
  have hov : ∀ lb cb, (callFunc 78 #[.slice (some ⟨q, 0, none⟩) 1 1, .slice (some ⟨g, 1, none⟩) lb cb]).run Tryz.prog w = .ok (.value (.bool false)) w := fun lb cb => by
    rw [run_callFunc_extern Tryz.func78 (by kernel_rfl) (by kernel_rfl) (by kernel_rfl) (e := Extern.SlicesOverlaps.overlaps #[22, 22] #[4]) (by kernel_rfl),
      Lib.run_overlaps_apart w 22 4 9 Tryz.underlying22 1 hszr ⟨q, 0, none⟩ ⟨g, 1, none⟩ 1 1 lb cb hne 9 9 1 _ hsa hsb (by rw [List.length_append, hX]; omega) (frozen_of_row w q 0 _ _ hq) (frozen_of_row w q 1 _ _ hq)]
    rfl
  have hcb : (cap : Int) ≤ 9223372036854775807 := by unfold maxLen at hcm; omega
  have hc1 : ¬ ((cap : Int) < 2) := by omega
  have hc2 : ¬ (cap = 1) := by omega
  have hc3 : ¬ (cap = 0) := by omega
  have hwr1 : IntKind.i64.wrap (1 : Int) = 1 := by decide
  have HG := Lib.hid hg
  have HQ := Lib.hid hq
  have H1X := Lib.hid h1X
  have H1Y := Lib.hid h1Y
  have HSRC1 := Lib.hid (show ∀ j v, X[j]? = some v → w.drew.cell? ((⟨g, 0, none⟩ : Addr).add j) = some v from fun j v hj => cells_at (w := w.drew) (A := []) (B := X) (C := D1 ++ D2) hg j v hj)
  have HFIT := Lib.hid (show 1 + X.length ≤ (X ++ (D1 ++ D2)).length from by rw [List.length_append, List.length_append, hX, hD1]; omega)
  have HBD := Lib.hid (show Below b w w.drew from ⟨rfl, rfl, rfl, Nat.le_refl _, fun _ _ => rfl⟩)
  clear hg hq h1X h1Y hsa hsb
  go_enter Tryz.func48, Tryz.ntmps48
  go_wp2_with (simp only [hov])
  go_region_law (refine step_copyz rfl (.tmp 73) (.tmp 76) 22 22 rfl 9 Tryz.underlying22 1 1 hsz ⟨g, 0, none⟩ 1 (cap - 1) 2 cap g 1 (by simp [Act.eval, Act.put]) (by simp [Act.eval, Act.put]) (X ++ (D1 ++ D2)) 9 HG.out X rfl (by rw [hX]) HSRC1.out HFIT.out H1X.out b w HBD.out hbg ?_; intro w4 hg4 hb4 ho4)
  have h4 := hg4.out
  rw [splice_one X D1 D2 1 hX hD1] at h4
  have HG4 := Lib.hid h4
  have HSRC2 := Lib.hid (show ∀ j v, Y[j]? = some v → w4.cell? ((⟨q, 0, none⟩ : Addr).add j) = some v from fun j v hj => cells_at (w := w4) (A := []) (B := Y) (C := []) (t := 9) (by have h := ho4.out q hne; rw [h]; show w.heap[q]? = _; simpa using HQ.out) j v hj)
  have HFIT2 := Lib.hid (show 0 + Y.length ≤ (X ++ (X ++ D2)).length from by rw [List.length_append, hX, hY]; omega)
  clear h4
  go_wp2_with ((with_reducible show wpList _ _ _ _ _ _); (refine wpList_copyz rfl (.tmp 80) (.tmp 81) 22 22 rfl 9 Tryz.underlying22 1 1 hsz ⟨q, 0, none⟩ 2 cap 1 1 g 0 rfl rfl (X ++ (X ++ D2)) 9 HG4.out Y rfl (by rw [hY]) HSRC2.out HFIT2.out H1Y.out b w hb4.out ?c1 ?_))
  case c1 => exact hbg
  intro w5 hg5 hb5 ho5
  go_wp2_with fail
  go_ret
  refine ⟨_, rfl, ⟨by rw [List.length_append, hX, hY], .inr ⟨g, cap, _, rfl, hbg, hg5.out, hc, hcm, ?_, ?_⟩⟩, hb5.out, ⟨hb5.out.os, hb5.out.tape, hb5.out.output, hb5.out.size, fun k hk hn => by rw [ho5.out k hn, ho4.out k hn]; rfl⟩, fun k hk => .inl (by cases hk; rfl)⟩
  · rw [splice_zero X Y _ (by rw [hX, hY])]
    have h := hD
    rw [List.length_append, hD1] at h
    simp only [List.size_toArray, List.length_append, hX, hY]
    omega
  · rw [splice_zero X Y _ (by rw [hX, hY])]
    show (Y ++ (X ++ D2)).take (2 * 1) = Y ++ X
    rw [← List.append_assoc, show 2 * 1 = (Y ++ X).length by rw [List.length_append, hX, hY], List.take_left]


set_option maxHeartbeats 3200000 in
theorem insB_str (w : World) (b g q cap : Nat) (X Y D : List Value) (hX : X.length = 1) (hY : Y.length = 1) (hD : D.length = (cap - 1) * 1) (hbg : b ≤ g) (hg : w.heap[g]? = some (.cells (X ++ D).toArray 9 (0, 0))) (hq : w.heap[q]? = some (.cells Y.toArray 9 (0, 0))) (hne : q ≠ g) (hcm : cap ≤ maxLen) (h1X : ∀ u ∈ X, u.oneCell' = true) (h1Y : ∀ u ∈ Y, u.oneCell' = true) (hc : cap = 1) :
    Calls Tryz.prog 48 #[.slice (some ⟨g, 0, none⟩) 1 cap, .int .i64 0, .slice (some ⟨q, 0, none⟩) 1 1] w fun e w' => ∃ v, e = .returned v ∧ w'.ownsRow b 9 1 v 2 (Y ++ X) ∧ Below b w w' ∧ Only (fun k => k = g) w w' ∧ ∀ k, v.ownBlock = some k → k = g ∨ w.heap.size ≤ k := by
  subst hc
  obtain ⟨i0, hi, hz0, hz1, hz2⟩ := info_parts str_info_
  have hsz : (Tryz.prog.info? 9).map (·.size) = some 1 := by rw [hi]; simp [hz1]
  have hgw : g < w.heap.size := (Array.getElem?_eq_some_iff.1 hg).1
  have hqw : q < w.heap.size := (Array.getElem?_eq_some_iff.1 hq).1
  obtain ⟨G, hG⟩ : ∃ G, grownCap w 2 1 9 = G := ⟨_, rfl⟩
  have hG2 : 2 ≤ G := by rw [← hG]; exact grownCap_ge w 2 1 9
  have hGm : G ≤ maxLen := by rw [← hG]; exact grownCap_le_maxLen w 2 1 9 (by unfold maxLen; omega)
  obtain ⟨L, hL⟩ : ∃ L : Array Value, (([] : List Value).toArray ++ Builtin.zeroCells ((.string ByteArray.empty) : Value).cells 2 ++ Builtin.zeroCells ((.string ByteArray.empty) : Value).cells (G - 2)) = L := ⟨_, rfl⟩
  have hLs : L.size = G * 1 := by
    rw [← hL, Array.size_append, Array.size_append, size_zeroCells, size_zeroCells]
    simp [Value.cells]
    omega
  obtain ⟨Z1, Z2, Z3, hZ, hZ1, hZ2⟩ : ∃ Z1 Z2 Z3, L.toList = Z1 ++ (Z2 ++ Z3) ∧ Z1.length = 1 ∧ Z2.length = 1 :=
    ⟨L.toList.take 1, (L.toList.drop 1).take 1, (L.toList.drop 1).drop 1, by rw [List.take_append_drop, List.take_append_drop],
      by rw [List.length_take, Array.length_toList, hLs]; exact Nat.min_eq_left (by omega), by rw [List.length_take, List.length_drop, Array.length_toList, hLs]; exact Nat.min_eq_left (by omega)⟩
  have hLe : L = (Z1 ++ (Z2 ++ Z3)).toArray := by rw [← hZ]
  have hZ3 : 2 * 1 + Z3.length = G * 1 := by
    have h := congrArg List.length hZ
    rw [Array.length_toList, hLs, List.length_append, List.length_append, hZ1, hZ2] at h
    omega
  have hrz : ∀ ty, (Builtin.append_ #[22, 3] ty #[.slice (some ⟨g, 0, none⟩) 0 1, .int .i64 2]).run Tryz.prog w = .ok (.slice (some ⟨w.heap.size, 0, none⟩) 2 G) (w.drew.alloc (.cells (Z1 ++ (Z2 ++ Z3)).toArray 9)) := fun ty => by
    have h := Lib.run_append_grow_zeros w 22 3 ty 9 i0 _ .i64 .i64 Tryz.underlying22 Tryz.underlying3 hi hz0 (some ⟨g, 0, none⟩) 0 1 [] (by rw [hz1]; simp [Builtin.firstCells, loadCells, loadCellsFrom]) 2 (by omega) (by omega) (by omega) (by omega) (by rw [hz2]; omega) (by rw [hz2]; exact growslice_fits (by omega) (by omega))
    rw [show 0 + 2 = 2 from rfl, hG, hL, hLe] at h
    exact h
  have HNW := Lib.hid (show (w.drew.alloc (.cells (Z1 ++ (Z2 ++ Z3)).toArray 9)).heap[w.heap.size]? = some (.cells (Z1 ++ (Z2 ++ Z3)).toArray 9 (0, 0)) from heap_alloc_new w.drew _)
  have HOW := Lib.hid (show ∀ k, k < w.heap.size → (w.drew.alloc (.cells (Z1 ++ (Z2 ++ Z3)).toArray 9)).heap[k]? = w.heap[k]? from fun k hk => heap_alloc_old w.drew _ hk)
  have HBW := Lib.hid (show Below b w (w.drew.alloc (.cells (Z1 ++ (Z2 ++ Z3)).toArray 9)) from (show Below b w w.drew from ⟨rfl, rfl, rfl, Nat.le_refl _, fun _ _ => rfl⟩).alloc (by show b ≤ w.heap.size; omega) _)
  obtain ⟨wn, hwn⟩ : ∃ wn, w.drew.alloc (.cells (Z1 ++ (Z2 ++ Z3)).toArray 9) = wn := ⟨_, rfl⟩
  rw [hwn] at HNW HOW HBW hrz
  have HSRC1 := Lib.hid (show ∀ j v, Y[j]? = some v → wn.cell? ((⟨q, 0, none⟩ : Addr).add j) = some v from fun j v hj => cells_at (w := wn) (A := []) (B := Y) (C := []) (t := 9) (by have h := HOW.out q hqw; rw [h]; simpa using hq) j v hj)
  have HFIT := Lib.hid (show 0 + Y.length ≤ (Z1 ++ (Z2 ++ Z3)).length from by rw [List.length_append, hZ1, hY]; omega)
  have HFIT2 := Lib.hid (show 1 + X.length ≤ (Y ++ (Z2 ++ Z3)).length from by rw [List.length_append, List.length_append, hX, hY, hZ2]; omega)
  have HG := Lib.hid hg
  have H1X := Lib.hid h1X
  have H1Y := Lib.hid h1Y
  have HZ3 := Lib.hid hZ3
  have HBG := Lib.hid (show b ≤ w.heap.size by omega)
  have HNE := Lib.hid (show g ≠ w.heap.size by omega)
  have hGn : ¬ (G = 1) := by omega
  have hGb : (G : Int) ≤ 9223372036854775807 := by unfold maxLen at hGm; omega
  have hwr1 : IntKind.i64.wrap (1 : Int) = 1 := by decide
  clear hg hq h1X h1Y hL hLs hZ hLe hZ3 hwn hgw hqw hD hbg hcm
  go_enter Tryz.func48, Tryz.ntmps48
  go_wp2_with (first | (at_builtin; refine wpList_appendI _ rfl (.tmp 34) (.tmp 39) 22 3 rfl _ _ rfl rfl (hrz _) ?_) | ((with_reducible show wpList _ _ _ _ _ _); refine wpList_copyz rfl (.tmp 43) (.tmp 44) 22 22 rfl 9 Tryz.underlying22 1 1 hsz ⟨q, 0, none⟩ 2 G 1 1 w.heap.size 0 rfl rfl (Z1 ++ (Z2 ++ Z3)) 9 HNW.out Y rfl (by rw [hY]) HSRC1.out HFIT.out H1Y.out b w HBW.out ?c1 ?_))
  case c1 => exact HBG.out
  intro w3 hg3 hb3 ho3
  have h3 := hg3.out
  rw [splice_zero Z1 Y _ (by rw [hZ1, hY])] at h3
  have HG3 := Lib.hid h3
  have HSRC2 := Lib.hid (show ∀ j v, X[j]? = some v → w3.drew.cell? ((⟨g, 0, none⟩ : Addr).add j) = some v from fun j v hj => cells_at (w := w3.drew) (A := []) (B := X) (C := D) (t := 9) (by show w3.heap[g]? = _; rw [ho3.out g HNE.out, HOW.out g (Array.getElem?_eq_some_iff.1 HG.out).1]; exact HG.out) j v hj)
  have HBD := Lib.hid (show Below b w w3.drew from hb3.out.trans ⟨rfl, rfl, rfl, Nat.le_refl _, fun _ _ => rfl⟩)
  clear h3
  go_wp2_with fail
  go_region_law (refine step_copyz rfl (.tmp 50) (.tmp 53) 22 22 rfl 9 Tryz.underlying22 1 1 hsz ⟨g, 0, none⟩ 1 (G - 1) 1 1 w.heap.size 1 (by simp [Act.eval, Act.put]) (by simp [Act.eval, Act.put]) (Y ++ (Z2 ++ Z3)) 9 HG3.out X rfl (by rw [hX]) HSRC2.out HFIT2.out H1X.out b w HBD.out HBG.out ?_; intro w4 hg4 hb4 ho4)
  go_wp2_with fail
  go_ret
  refine ⟨_, rfl, ⟨by rw [List.length_append, hX, hY], .inr ⟨w.heap.size, G, _, rfl, HBG.out, hg4.out, hG2, hGm, ?_, ?_⟩⟩, hb4.out, ⟨hb4.out.os, hb4.out.tape, hb4.out.output, hb4.out.size, fun k hk hn => by rw [ho4.out k (by omega)]; show w3.heap[k]? = _; rw [ho3.out k (by omega), HOW.out k hk]⟩, fun k hk => .inr (by cases hk; exact Nat.le_refl _)⟩
  · rw [splice_mid Y X Z2 Z3 1 hY hX hZ2]
    have h := HZ3.out
    simp only [List.size_toArray, List.length_append, hX, hY]
    omega
  · rw [splice_mid Y X Z2 Z3 1 hY hX hZ2]
    show (Y ++ (X ++ Z3)).take (2 * 1) = Y ++ X
    rw [← List.append_assoc, show 2 * 1 = (Y ++ X).length by rw [List.length_append, hX, hY], List.take_left]

/-- One element ahead of the one that an own row holds. -/
theorem ins2_str (w : World) (b q : Nat) (v : Value) (X Y : List Value) (hX : X.length = 1) (hY : Y.length = 1) (hown : w.ownsRow b 9 1 v 1 X) (hq : w.heap[q]? = some (.cells Y.toArray 9 (0, 0))) (hne : v.ownBlock ≠ some q) (h1X : ∀ u ∈ X, u.oneCell' = true) (h1Y : ∀ u ∈ Y, u.oneCell' = true) :
    Calls Tryz.prog 48 #[v, .int .i64 0, .slice (some ⟨q, 0, none⟩) 1 1] w fun e w' => ∃ v', e = .returned v' ∧ w'.ownsRow b 9 1 v' 2 (Y ++ X) ∧ Below b w w' ∧ Only (fun k => v.ownBlock = some k) w w' ∧ ∀ k, v'.ownBlock = some k → v.ownBlock = some k ∨ w.heap.size ≤ k := by
  obtain ⟨_, h | ⟨g, cap, cur, rfl, hbg, hg, hc, hcm, hs, ht⟩⟩ := hown
  · exact absurd h.2 (by omega)
  have hcur : cur = (X ++ cur.toList.drop 1).toArray := by
    rw [← ht, show 1 * 1 = 1 from rfl, List.take_append_drop]
  have hD : (cur.toList.drop 1).length = (cap - 1) * 1 := by rw [List.length_drop, Array.length_toList, hs]; omega
  have hne2 : q ≠ g := fun e => hne (by rw [e]; rfl)
  rw [hcur] at hg
  by_cases h2 : 2 ≤ cap
  · refine (insC_str w b g q cap X Y _ hX hY hD hbg hg hq hne2 hcm h1X h1Y h2).mono ?_
    rintro e w' ⟨v', rfl, ho, hb, hon, hbl⟩
    exact ⟨v', rfl, ho, hb, hon.mono (fun k _ h => by rw [h]; rfl), fun k hk => (hbl k hk).imp (fun h => by rw [h]; rfl) id⟩
  · refine (insB_str w b g q cap X Y _ hX hY hD hbg hg hq hne2 hcm h1X h1Y (by omega)).mono ?_
    rintro e w' ⟨v', rfl, ho, hb, hon, hbl⟩
    exact ⟨v', rfl, ho, hb, hon.mono (fun k _ h => by rw [h]; rfl), fun k hk => (hbl k hk).imp (fun h => by rw [h]; rfl) id⟩

set_option maxHeartbeats 1600000 in
theorem insA_val (w : World) (q : Nat) (X : List Value) (hl : X.length = 6) (hx : ∀ j u, X[j]? = some u → w.cell? ((⟨q, 0, none⟩ : Addr).add j) = some u) (h1 : ∀ u ∈ X, u.oneCell' = true) :
    Calls Tryz.prog 49 #[.slice none 0 0, .int .i64 0, .slice (some ⟨q, 0, none⟩) 1 1] w fun e w' => ∃ v, e = .returned v ∧ w'.ownsRow w.heap.size 26 6 v 1 X ∧ Below w.heap.size w w' := by
  obtain ⟨i0, hi, hz0, hz1, hz2⟩ := info_parts sch_info_
  have HX := Lib.hid hx
  have HO := Lib.hid h1
  clear hx h1
  go_enter Tryz.func49, Tryz.ntmps49
  go_wp2_with (at_builtin; refine wpList_append_own_at _ rfl (.tmp 23) (.tmp 24) 24 rfl w.heap.size 26 i0 (.agg #[.int .i64 0, .int .i64 0, .string ByteArray.empty, .slice none 0 0, .slice none 0 0, .slice none 0 0]) 6 104 Tryz.underlying24 hi hz0 hz1 hz2 rfl (by omega) (.slice none 0 0) 0 [] rfl (World.ownsRow_nil _ _ _ _) ⟨q, 0, none⟩ 1 1 X rfl (by rw [hl]) HX.out HO.out ?c1 ?c2 ?c3 ?_)
  case c1 => unfold maxLen; omega
  case c2 => omega
  case c3 => exact Nat.le_refl _
  intro v1 W1 ho1 hg1 _ _
  have hb1 := (Below.refl w.heap.size w).grown hg1 (Nat.le_refl _) (fun q hq => by cases hq)
  have HO1 := Lib.hid ho1
  have HB1 := Lib.hid hb1
  clear ho1 hg1 hb1
  go_wp2_with fail
  go_ret
  exact ⟨v1, rfl, by simpa using HO1.out, HB1.out⟩

set_option maxHeartbeats 3200000 in
theorem insC_val (w : World) (b g q cap : Nat) (X Y D : List Value) (hX : X.length = 6) (hY : Y.length = 6) (hD : D.length = (cap - 1) * 6) (hbg : b ≤ g) (hg : w.heap[g]? = some (.cells (X ++ D).toArray 26 (0, 0))) (hq : w.heap[q]? = some (.cells Y.toArray 26 (0, 0))) (hne : q ≠ g) (hcm : cap ≤ maxLen) (h1X : ∀ u ∈ X, u.oneCell' = true) (h1Y : ∀ u ∈ Y, u.oneCell' = true) (hc : 2 ≤ cap) :
    Calls Tryz.prog 49 #[.slice (some ⟨g, 0, none⟩) 1 cap, .int .i64 0, .slice (some ⟨q, 0, none⟩) 1 1] w fun e w' => ∃ v, e = .returned v ∧ w'.ownsRow b 26 6 v 2 (Y ++ X) ∧ Below b w w' ∧ Only (fun k => k = g) w w' ∧ ∀ k, v.ownBlock = some k → k = g ∨ w.heap.size ≤ k := by
  obtain ⟨i0, hi, hz0, hz1, hz2⟩ := info_parts sch_info_
  have hsz : (Tryz.prog.info? 26).map (·.size) = some 6 := by rw [hi]; simp [hz1]
  have hszr : ∀ w, (Go.sizeOf 26).run Tryz.prog w = .ok 6 w := fun w => by simp [sizeOf, typeInfo, hi, hz1]
  obtain ⟨D1, D2, rfl, hD1⟩ : ∃ D1 D2, D = D1 ++ D2 ∧ D1.length = 6 := ⟨D.take 6, D.drop 6, (List.take_append_drop _ _).symm, by rw [List.length_take, hD]; exact Nat.min_eq_left (by omega)⟩
  have hsa : w.shape? q = some (26, 6) := by simp [World.shape?, hq, hY]
  have hsb : w.shape? g = some (26, (X ++ (D1 ++ D2)).length) := by simp [World.shape?, hg]
  have hov : ∀ lb cb, (callFunc 80 #[.slice (some ⟨q, 0, none⟩) 1 1, .slice (some ⟨g, 6, none⟩) lb cb]).run Tryz.prog w = .ok (.value (.bool false)) w := fun lb cb => by
    rw [run_callFunc_extern Tryz.func80 (by kernel_rfl) (by kernel_rfl) (by kernel_rfl) (e := Extern.SlicesOverlaps.overlaps #[24, 24] #[4]) (by kernel_rfl),
      Lib.run_overlaps_apart w 24 4 26 Tryz.underlying24 6 hszr ⟨q, 0, none⟩ ⟨g, 6, none⟩ 1 1 lb cb hne 26 26 6 _ hsa hsb (by rw [List.length_append, hX]; omega) (frozen_of_row w q 0 _ _ hq) (frozen_of_row w q 6 _ _ hq)]
    rfl
  have hcb : (cap : Int) ≤ 9223372036854775807 := by unfold maxLen at hcm; omega
  have hc1 : ¬ ((cap : Int) < 2) := by omega
  have hc2 : ¬ (cap = 1) := by omega
  have hc3 : ¬ (cap = 0) := by omega
  have hwr1 : IntKind.i64.wrap (1 : Int) = 1 := by decide
  have HG := Lib.hid hg
  have HQ := Lib.hid hq
  have H1X := Lib.hid h1X
  have H1Y := Lib.hid h1Y
  have HSRC1 := Lib.hid (show ∀ j v, X[j]? = some v → w.drew.cell? ((⟨g, 0, none⟩ : Addr).add j) = some v from fun j v hj => cells_at (w := w.drew) (A := []) (B := X) (C := D1 ++ D2) hg j v hj)
  have HFIT := Lib.hid (show 6 + X.length ≤ (X ++ (D1 ++ D2)).length from by rw [List.length_append, List.length_append, hX, hD1]; omega)
  have HBD := Lib.hid (show Below b w w.drew from ⟨rfl, rfl, rfl, Nat.le_refl _, fun _ _ => rfl⟩)
  clear hg hq h1X h1Y hsa hsb
  go_enter Tryz.func49, Tryz.ntmps49
  go_wp2_with (simp only [hov])
  go_region_law (refine step_copyz rfl (.tmp 73) (.tmp 76) 24 24 rfl 26 Tryz.underlying24 6 1 hsz ⟨g, 0, none⟩ 1 (cap - 1) 2 cap g 6 (by simp [Act.eval, Act.put]) (by simp [Act.eval, Act.put]) (X ++ (D1 ++ D2)) 26 HG.out X rfl (by rw [hX]) HSRC1.out HFIT.out H1X.out b w HBD.out hbg ?_; intro w4 hg4 hb4 ho4)
  have h4 := hg4.out
  rw [splice_one X D1 D2 6 hX hD1] at h4
  have HG4 := Lib.hid h4
  have HSRC2 := Lib.hid (show ∀ j v, Y[j]? = some v → w4.cell? ((⟨q, 0, none⟩ : Addr).add j) = some v from fun j v hj => cells_at (w := w4) (A := []) (B := Y) (C := []) (t := 26) (by have h := ho4.out q hne; rw [h]; show w.heap[q]? = _; simpa using HQ.out) j v hj)
  have HFIT2 := Lib.hid (show 0 + Y.length ≤ (X ++ (X ++ D2)).length from by rw [List.length_append, hX, hY]; omega)
  clear h4
  go_wp2_with ((with_reducible show wpList _ _ _ _ _ _); (refine wpList_copyz rfl (.tmp 80) (.tmp 81) 24 24 rfl 26 Tryz.underlying24 6 1 hsz ⟨q, 0, none⟩ 2 cap 1 1 g 0 rfl rfl (X ++ (X ++ D2)) 26 HG4.out Y rfl (by rw [hY]) HSRC2.out HFIT2.out H1Y.out b w hb4.out ?c1 ?_))
  case c1 => exact hbg
  intro w5 hg5 hb5 ho5
  go_wp2_with fail
  go_ret
  refine ⟨_, rfl, ⟨by rw [List.length_append, hX, hY], .inr ⟨g, cap, _, rfl, hbg, hg5.out, hc, hcm, ?_, ?_⟩⟩, hb5.out, ⟨hb5.out.os, hb5.out.tape, hb5.out.output, hb5.out.size, fun k hk hn => by rw [ho5.out k hn, ho4.out k hn]; rfl⟩, fun k hk => .inl (by cases hk; rfl)⟩
  · rw [splice_zero X Y _ (by rw [hX, hY])]
    have h := hD
    rw [List.length_append, hD1] at h
    simp only [List.size_toArray, List.length_append, hX, hY]
    omega
  · rw [splice_zero X Y _ (by rw [hX, hY])]
    show (Y ++ (X ++ D2)).take (2 * 6) = Y ++ X
    rw [← List.append_assoc, show 2 * 6 = (Y ++ X).length by rw [List.length_append, hX, hY], List.take_left]


set_option maxHeartbeats 3200000 in
theorem insB_val (w : World) (b g q cap : Nat) (X Y D : List Value) (hX : X.length = 6) (hY : Y.length = 6) (hD : D.length = (cap - 1) * 6) (hbg : b ≤ g) (hg : w.heap[g]? = some (.cells (X ++ D).toArray 26 (0, 0))) (hq : w.heap[q]? = some (.cells Y.toArray 26 (0, 0))) (hne : q ≠ g) (hcm : cap ≤ maxLen) (h1X : ∀ u ∈ X, u.oneCell' = true) (h1Y : ∀ u ∈ Y, u.oneCell' = true) (hc : cap = 1) :
    Calls Tryz.prog 49 #[.slice (some ⟨g, 0, none⟩) 1 cap, .int .i64 0, .slice (some ⟨q, 0, none⟩) 1 1] w fun e w' => ∃ v, e = .returned v ∧ w'.ownsRow b 26 6 v 2 (Y ++ X) ∧ Below b w w' ∧ Only (fun k => k = g) w w' ∧ ∀ k, v.ownBlock = some k → k = g ∨ w.heap.size ≤ k := by
  subst hc
  obtain ⟨i0, hi, hz0, hz1, hz2⟩ := info_parts sch_info_
  have hsz : (Tryz.prog.info? 26).map (·.size) = some 6 := by rw [hi]; simp [hz1]
  have hgw : g < w.heap.size := (Array.getElem?_eq_some_iff.1 hg).1
  have hqw : q < w.heap.size := (Array.getElem?_eq_some_iff.1 hq).1
  obtain ⟨G, hG⟩ : ∃ G, grownCap w 2 1 26 = G := ⟨_, rfl⟩
  have hG2 : 2 ≤ G := by rw [← hG]; exact grownCap_ge w 2 1 26
  have hGm : G ≤ maxLen := by rw [← hG]; exact grownCap_le_maxLen w 2 1 26 (by unfold maxLen; omega)
  obtain ⟨L, hL⟩ : ∃ L : Array Value, (([] : List Value).toArray ++ Builtin.zeroCells ((.agg #[.int .i64 0, .int .i64 0, .string ByteArray.empty, .slice none 0 0, .slice none 0 0, .slice none 0 0]) : Value).cells 2 ++ Builtin.zeroCells ((.agg #[.int .i64 0, .int .i64 0, .string ByteArray.empty, .slice none 0 0, .slice none 0 0, .slice none 0 0]) : Value).cells (G - 2)) = L := ⟨_, rfl⟩
  have hLs : L.size = G * 6 := by
    rw [← hL, Array.size_append, Array.size_append, size_zeroCells, size_zeroCells]
    simp [Value.cells]
    omega
  obtain ⟨Z1, Z2, Z3, hZ, hZ1, hZ2⟩ : ∃ Z1 Z2 Z3, L.toList = Z1 ++ (Z2 ++ Z3) ∧ Z1.length = 6 ∧ Z2.length = 6 :=
    ⟨L.toList.take 6, (L.toList.drop 6).take 6, (L.toList.drop 6).drop 6, by rw [List.take_append_drop, List.take_append_drop],
      by rw [List.length_take, Array.length_toList, hLs]; exact Nat.min_eq_left (by omega), by rw [List.length_take, List.length_drop, Array.length_toList, hLs]; exact Nat.min_eq_left (by omega)⟩
  have hLe : L = (Z1 ++ (Z2 ++ Z3)).toArray := by rw [← hZ]
  have hZ3 : 2 * 6 + Z3.length = G * 6 := by
    have h := congrArg List.length hZ
    rw [Array.length_toList, hLs, List.length_append, List.length_append, hZ1, hZ2] at h
    omega
  have hrz : ∀ ty, (Builtin.append_ #[24, 3] ty #[.slice (some ⟨g, 0, none⟩) 0 1, .int .i64 2]).run Tryz.prog w = .ok (.slice (some ⟨w.heap.size, 0, none⟩) 2 G) (w.drew.alloc (.cells (Z1 ++ (Z2 ++ Z3)).toArray 26)) := fun ty => by
    have h := Lib.run_append_grow_zeros w 24 3 ty 26 i0 _ .i64 .i64 Tryz.underlying24 Tryz.underlying3 hi hz0 (some ⟨g, 0, none⟩) 0 1 [] (by rw [hz1]; simp [Builtin.firstCells, loadCells, loadCellsFrom]) 2 (by omega) (by omega) (by omega) (by omega) (by rw [hz2]; omega) (by rw [hz2]; exact growslice_fits (by omega) (by omega))
    rw [show 0 + 2 = 2 from rfl, hG, hL, hLe] at h
    exact h
  have HNW := Lib.hid (show (w.drew.alloc (.cells (Z1 ++ (Z2 ++ Z3)).toArray 26)).heap[w.heap.size]? = some (.cells (Z1 ++ (Z2 ++ Z3)).toArray 26 (0, 0)) from heap_alloc_new w.drew _)
  have HOW := Lib.hid (show ∀ k, k < w.heap.size → (w.drew.alloc (.cells (Z1 ++ (Z2 ++ Z3)).toArray 26)).heap[k]? = w.heap[k]? from fun k hk => heap_alloc_old w.drew _ hk)
  have HBW := Lib.hid (show Below b w (w.drew.alloc (.cells (Z1 ++ (Z2 ++ Z3)).toArray 26)) from (show Below b w w.drew from ⟨rfl, rfl, rfl, Nat.le_refl _, fun _ _ => rfl⟩).alloc (by show b ≤ w.heap.size; omega) _)
  obtain ⟨wn, hwn⟩ : ∃ wn, w.drew.alloc (.cells (Z1 ++ (Z2 ++ Z3)).toArray 26) = wn := ⟨_, rfl⟩
  rw [hwn] at HNW HOW HBW hrz
  have HSRC1 := Lib.hid (show ∀ j v, Y[j]? = some v → wn.cell? ((⟨q, 0, none⟩ : Addr).add j) = some v from fun j v hj => cells_at (w := wn) (A := []) (B := Y) (C := []) (t := 26) (by have h := HOW.out q hqw; rw [h]; simpa using hq) j v hj)
  have HFIT := Lib.hid (show 0 + Y.length ≤ (Z1 ++ (Z2 ++ Z3)).length from by rw [List.length_append, hZ1, hY]; omega)
  have HFIT2 := Lib.hid (show 6 + X.length ≤ (Y ++ (Z2 ++ Z3)).length from by rw [List.length_append, List.length_append, hX, hY, hZ2]; omega)
  have HG := Lib.hid hg
  have H1X := Lib.hid h1X
  have H1Y := Lib.hid h1Y
  have HZ3 := Lib.hid hZ3
  have HBG := Lib.hid (show b ≤ w.heap.size by omega)
  have HNE := Lib.hid (show g ≠ w.heap.size by omega)
  have hGn : ¬ (G = 1) := by omega
  have hGb : (G : Int) ≤ 9223372036854775807 := by unfold maxLen at hGm; omega
  have hwr1 : IntKind.i64.wrap (1 : Int) = 1 := by decide
  clear hg hq h1X h1Y hL hLs hZ hLe hZ3 hwn hgw hqw hD hbg hcm
  go_enter Tryz.func49, Tryz.ntmps49
  go_wp2_with (first | (at_builtin; refine wpList_appendI _ rfl (.tmp 34) (.tmp 39) 24 3 rfl _ _ rfl rfl (hrz _) ?_) | ((with_reducible show wpList _ _ _ _ _ _); refine wpList_copyz rfl (.tmp 43) (.tmp 44) 24 24 rfl 26 Tryz.underlying24 6 1 hsz ⟨q, 0, none⟩ 2 G 1 1 w.heap.size 0 rfl rfl (Z1 ++ (Z2 ++ Z3)) 26 HNW.out Y rfl (by rw [hY]) HSRC1.out HFIT.out H1Y.out b w HBW.out ?c1 ?_))
  case c1 => exact HBG.out
  intro w3 hg3 hb3 ho3
  have h3 := hg3.out
  rw [splice_zero Z1 Y _ (by rw [hZ1, hY])] at h3
  have HG3 := Lib.hid h3
  have HSRC2 := Lib.hid (show ∀ j v, X[j]? = some v → w3.drew.cell? ((⟨g, 0, none⟩ : Addr).add j) = some v from fun j v hj => cells_at (w := w3.drew) (A := []) (B := X) (C := D) (t := 26) (by show w3.heap[g]? = _; rw [ho3.out g HNE.out, HOW.out g (Array.getElem?_eq_some_iff.1 HG.out).1]; exact HG.out) j v hj)
  have HBD := Lib.hid (show Below b w w3.drew from hb3.out.trans ⟨rfl, rfl, rfl, Nat.le_refl _, fun _ _ => rfl⟩)
  clear h3
  go_wp2_with fail
  go_region_law (refine step_copyz rfl (.tmp 50) (.tmp 53) 24 24 rfl 26 Tryz.underlying24 6 1 hsz ⟨g, 0, none⟩ 1 (G - 1) 1 1 w.heap.size 6 (by simp [Act.eval, Act.put]) (by simp [Act.eval, Act.put]) (Y ++ (Z2 ++ Z3)) 26 HG3.out X rfl (by rw [hX]) HSRC2.out HFIT2.out H1X.out b w HBD.out HBG.out ?_; intro w4 hg4 hb4 ho4)
  go_wp2_with fail
  go_ret
  refine ⟨_, rfl, ⟨by rw [List.length_append, hX, hY], .inr ⟨w.heap.size, G, _, rfl, HBG.out, hg4.out, hG2, hGm, ?_, ?_⟩⟩, hb4.out, ⟨hb4.out.os, hb4.out.tape, hb4.out.output, hb4.out.size, fun k hk hn => by rw [ho4.out k (by omega)]; show w3.heap[k]? = _; rw [ho3.out k (by omega), HOW.out k hk]⟩, fun k hk => .inr (by cases hk; exact Nat.le_refl _)⟩
  · rw [splice_mid Y X Z2 Z3 6 hY hX hZ2]
    have h := HZ3.out
    simp only [List.size_toArray, List.length_append, hX, hY]
    omega
  · rw [splice_mid Y X Z2 Z3 6 hY hX hZ2]
    show (Y ++ (X ++ Z3)).take (2 * 6) = Y ++ X
    rw [← List.append_assoc, show 2 * 6 = (Y ++ X).length by rw [List.length_append, hX, hY], List.take_left]

/-- One element ahead of the one that an own row holds. -/
theorem ins2_val (w : World) (b q : Nat) (v : Value) (X Y : List Value) (hX : X.length = 6) (hY : Y.length = 6) (hown : w.ownsRow b 26 6 v 1 X) (hq : w.heap[q]? = some (.cells Y.toArray 26 (0, 0))) (hne : v.ownBlock ≠ some q) (h1X : ∀ u ∈ X, u.oneCell' = true) (h1Y : ∀ u ∈ Y, u.oneCell' = true) :
    Calls Tryz.prog 49 #[v, .int .i64 0, .slice (some ⟨q, 0, none⟩) 1 1] w fun e w' => ∃ v', e = .returned v' ∧ w'.ownsRow b 26 6 v' 2 (Y ++ X) ∧ Below b w w' ∧ Only (fun k => v.ownBlock = some k) w w' ∧ ∀ k, v'.ownBlock = some k → v.ownBlock = some k ∨ w.heap.size ≤ k := by
  obtain ⟨_, h | ⟨g, cap, cur, rfl, hbg, hg, hc, hcm, hs, ht⟩⟩ := hown
  · exact absurd h.2 (by omega)
  have hcur : cur = (X ++ cur.toList.drop 6).toArray := by
    rw [← ht, show 1 * 6 = 6 from rfl, List.take_append_drop]
  have hD : (cur.toList.drop 6).length = (cap - 1) * 6 := by rw [List.length_drop, Array.length_toList, hs]; omega
  have hne2 : q ≠ g := fun e => hne (by rw [e]; rfl)
  rw [hcur] at hg
  by_cases h2 : 2 ≤ cap
  · refine (insC_val w b g q cap X Y _ hX hY hD hbg hg hq hne2 hcm h1X h1Y h2).mono ?_
    rintro e w' ⟨v', rfl, ho, hb, hon, hbl⟩
    exact ⟨v', rfl, ho, hb, hon.mono (fun k _ h => by rw [h]; rfl), fun k hk => (hbl k hk).imp (fun h => by rw [h]; rfl) id⟩
  · refine (insB_val w b g q cap X Y _ hX hY hD hbg hg hq hne2 hcm h1X h1Y (by omega)).mono ?_
    rintro e w' ⟨v', rfl, ho, hb, hon, hbl⟩
    exact ⟨v', rfl, ho, hb, hon.mono (fun k _ h => by rw [h]; rfl), fun k hk => (hbl k hk).imp (fun h => by rw [h]; rfl) id⟩
end

section
set_option maxRecDepth 100000
set_option linter.unusedSimpArgs false
set_option linter.unusedVariables false
open Go.RowKit

theorem idx_nil (F : Value) (w : World) : Calls Tryz.prog 46 #[.slice none 0 0, F] w fun e w' => e = .returned (.int .i64 (-1)) ∧ w' = w := by
  go_enter Tryz.func46, Tryz.ntmps46
  go_wp2_with fail
  go_loopw [5, 8] (fun _ i wr => i = .int .i64 0 ∧ wr = w) (fun _ _ _ => 0)
  case atStart => exact ⟨rfl, rfl⟩
  case round =>
    obtain ⟨rfl, rfl⟩ := hrel
    go_wp2_with fail
    go_ret
    exact ⟨rfl, rfl⟩
theorem find_nil (x : ByteArray) (w : World) : Calls Tryz.prog 45 #[.slice none 0 0, .string x] w fun e w' => e = .returned (.int .i64 (-1)) ∧ Below w.heap.size w w' := by
  go_enter Tryz.func45, Tryz.ntmps45
  go_wp2_with fail
  refine (idx_nil _ _).mono ?_
  rintro e W1 ⟨rfl, rfl⟩
  go_wp2_with fail
  go_ret
  exact ⟨rfl, below_new w _⟩
theorem fcl_ba (f : Nat) (w : World) (hf : w.cell? ⟨f, 0, none⟩ = some (.string ⟨#[97]⟩)) : Calls Tryz.prog 77 #[.string ⟨#[98]⟩, .pointer (some ⟨f, 0, none⟩)] w fun e w' => e = .returned (.bool false) ∧ w' = w := by
  go_enter Tryz.func77, Tryz.ntmps77
  go_wp2_with fail
  go_ret
  exact ⟨rfl, rfl⟩
theorem wcl_ba (f : Nat) (w : World) (hf : w.cell? ⟨f, 0, none⟩ = some (.string ⟨#[97]⟩)) : Calls Tryz.prog 47 #[.string ⟨#[98]⟩, .pointer (some ⟨f, 0, none⟩)] w fun e w' => e = .returned (.bool true) ∧ w' = w := by
  go_enter Tryz.func47, Tryz.ntmps47
  go_wp2_with fail
  go_ret
  exact ⟨rfl, rfl⟩
theorem idx_f (g cap f : Nat) (w : World) (hg : w.cell? ⟨g, 0, none⟩ = some (.string ⟨#[98]⟩)) (hf : w.cell? ⟨f, 0, none⟩ = some (.string ⟨#[97]⟩)) :
    Calls Tryz.prog 46 #[.slice (some ⟨g, 0, none⟩) 1 cap, .func (.func 77) #[] #[.pointer (some ⟨f, 0, none⟩)]] w fun e w' => e = .returned (.int .i64 (-1)) ∧ w' = w := by
  have HC := Lib.hid (fcl_ba f w hf)
  go_enter Tryz.func46, Tryz.ntmps46
  go_wp2_with fail
  go_loopw [5, 8] (fun _ i wr => ∃ j : Nat, j ≤ 1 ∧ i = .int .i64 (j : Int) ∧ wr = w) (fun _ i _ => 1 - (intOf i).toNat)
  case atStart => exact ⟨0, Nat.zero_le _, rfl, (by first | rfl | trivial)⟩
  case round =>
    obtain ⟨j, hj, rfl, rfl⟩ := hrel
    rcases (show j = 0 ∨ j = 1 by omega) with rfl | rfl
    · go_wp2_with fail
      refine HC.out.mono ?_
      rintro e W1 ⟨rfl, rfl⟩
      go_wp2_with fail
      go_roundw
      case rel => exact ⟨1, Nat.le_refl _, by go_num, (by first | rfl | trivial)⟩
      case measure => simp [intOf] <;> omega
    · go_wp2_with fail
      go_ret
      exact ⟨rfl, rfl⟩
theorem idx_w (g cap f : Nat) (w : World) (hg : w.cell? ⟨g, 0, none⟩ = some (.string ⟨#[98]⟩)) (hf : w.cell? ⟨f, 0, none⟩ = some (.string ⟨#[97]⟩)) :
    Calls Tryz.prog 46 #[.slice (some ⟨g, 0, none⟩) 1 cap, .func (.func 47) #[] #[.pointer (some ⟨f, 0, none⟩)]] w fun e w' => e = .returned (.int .i64 0) ∧ w' = w := by
  have HC := Lib.hid (wcl_ba f w hf)
  go_enter Tryz.func46, Tryz.ntmps46
  go_wp2_with fail
  go_loopw [5, 8] (fun _ i wr => i = .int .i64 0 ∧ wr = w) (fun _ _ _ => 0)
  case atStart => exact ⟨rfl, rfl⟩
  case round =>
    obtain ⟨rfl, rfl⟩ := hrel
    go_wp2_with fail
    refine HC.out.mono ?_
    rintro e W1 ⟨rfl, rfl⟩
    go_wp2_with fail
    go_ret
    exact ⟨rfl, rfl⟩
theorem find_ba (g cap : Nat) (w : World) (hg : w.cell? ⟨g, 0, none⟩ = some (.string ⟨#[98]⟩)) : Calls Tryz.prog 45 #[.slice (some ⟨g, 0, none⟩) 1 cap, .string ⟨#[97]⟩] w fun e w' => e = .returned (.int .i64 (-1)) ∧ Below w.heap.size w w' := by
  have hl : g < w.heap.size := lt_of_cell hg
  have HC := Lib.hid (idx_f g cap w.heap.size (w.alloc (.cells #[.string ⟨#[97]⟩] 9)) (by have h := (below_new w (.cells #[.string ⟨#[97]⟩] 9)).block g hl; rw [World.cell?_of_block h]; exact hg) ((Row.new w [.string ⟨#[97]⟩] 9).cell (k := 0) rfl))
  go_enter Tryz.func45, Tryz.ntmps45
  go_wp2_with fail
  refine HC.out.mono ?_
  rintro e W1 ⟨rfl, rfl⟩
  go_wp2_with fail
  go_ret
  exact ⟨rfl, below_new w _⟩
end

section
set_option maxRecDepth 100000
set_option linter.unusedSimpArgs false
set_option linter.unusedVariables false
open Go.RowKit

theorem row_cells {w : World} {q : Nat} {t : TypeId} {X : List Value} (h : w.heap[q]? = some (.cells X.toArray t (0, 0))) (j : Nat) (u : Value) (hj : X[j]? = some u) : w.cell? ((⟨q, 0, none⟩ : Addr).add j) = some u :=
  cells_at (A := []) (B := X) (C := []) (by simpa using h) j u hj

theorem ldv {w : World} {g : Nat} {k n : Int} {s : ByteArray} (h : Row w g 26 [.int .i64 k, .int .i64 n, .string s, .slice none 0 0, .slice none 0 0, .slice none 0 0]) : (Instr.loadAt 26 (.pointer (some ⟨g, 0, none⟩))).run Tryz.prog w = .ok (.agg #[.int .i64 k, .int .i64 n, .string s, .slice none 0 0, .slice none 0 0, .slice none 0 0]) w := by
  have y0 := h.cell (k := 0) rfl
  have y1 := h.cell (k := 1) rfl
  have y2 := h.cell (k := 2) rfl
  have y3 := h.cell (k := 3) rfl
  have y4 := h.cell (k := 4) rfl
  have y5 := h.cell (k := 5) rfl
  go_simp
theorem below_drew1 (w : World) : Below w.heap.size w w.drew := ⟨rfl, rfl, rfl, Nat.le_refl _, fun _ _ => rfl⟩
set_option maxHeartbeats 3200000 in
theorem with_nil (x : ByteArray) (k n : Int) (s : ByteArray) (w : World) :
    Calls Tryz.prog 26 #[.slice none 0 0, .slice none 0 0, .string x, .agg #[.int .i64 k, .int .i64 n, .string s, .slice none 0 0, .slice none 0 0, .slice none 0 0]] w fun e w' => ∃ v u, e = .returned (.tuple #[v, u]) ∧ w'.ownsRow w.heap.size 9 1 v 1 [.string x] ∧ w'.ownsRow w.heap.size 26 6 u 1 [.int .i64 k, .int .i64 n, .string s, .slice none 0 0, .slice none 0 0, .slice none 0 0] ∧ Below w.heap.size w w' := by
  have HF := Lib.hid (find_nil x)
  have HB0 := Lib.hid (Below.alloc2 w (.cells #[.string x] 9) (.cells #[.int .i64 k, .int .i64 n, .string s, .slice none 0 0, .slice none 0 0, .slice none 0 0] 26))
  have R6 := Lib.hid (Row.new1 w (.cells #[.string x] 9) [.int .i64 k, .int .i64 n, .string s, .slice none 0 0, .slice none 0 0, .slice none 0 0] 26)
  have R5 := Lib.hid ((Row.new w [.string x] 9).belowAll (below_new _ (.cells #[.int .i64 k, .int .i64 n, .string s, .slice none 0 0, .slice none 0 0, .slice none 0 0] 26)))
  go_enter Tryz.func26, Tryz.ntmps26
  go_wp2_with fail
  refine (HF.out _).mono ?_
  rintro e W1 ⟨rfl, hb⟩
  have r5 := R5.out.belowAll hb
  have r6 := R6.out.belowAll hb
  have HB1 := Lib.hid (HB0.out.trans (hb.mono HB0.out.size))
  have HL := Lib.hid r6.lt
  have x0 := r5.cell (k := 0) rfl
  have y0 := r6.cell (k := 0) rfl
  have y1 := r6.cell (k := 1) rfl
  have y2 := r6.cell (k := 2) rfl
  have y3 := r6.cell (k := 3) rfl
  have y4 := r6.cell (k := 4) rfl
  have y5 := r6.cell (k := 5) rfl
  have R6W := Lib.hid r6
  clear hb r5 r6
  go_wp2_with fail
  refine (idx_nil _ _).mono ?_
  rintro e W2 ⟨rfl, rfl⟩
  have HN1 : ¬ (w.heap.size = W2.heap.size) := by have := HL.out; omega
  have HN2 : ¬ (w.heap.size + 1 = W2.heap.size) := by have := HL.out; omega
  have HN3 : ¬ (w.heap.size = W2.heap.size + 1) := by have := HL.out; omega
  have HN4 : ¬ (w.heap.size + 1 = W2.heap.size + 1) := by have := HL.out; omega
  go_wp2_with fail
  have HBQ := Lib.hid HB1.out
  have hres : Tryz.f26.results = #[.tmp 8, .tmp 9] := by kernel_rfl
  have L0 := ldv R6W.out
  have L1 := ldv (w := W2.drew) R6W.out
  have HS2 := Lib.hid (show ((W2.alloc (.cells #[.string x] 9)).alloc (.cells #[.int .i64 k, .int .i64 n, .string s, .slice none 0 0, .slice none 0 0, .slice none 0 0] 26)).heap[W2.heap.size]? = some (.cells #[.string x] 9 (0, 0)) from (heap_alloc_old (W2.alloc (.cells #[.string x] 9)) (.cells #[.int .i64 k, .int .i64 n, .string s, .slice none 0 0, .slice none 0 0, .slice none 0 0] 26) (by simp)).trans (heap_alloc_new W2 _))
  have HV2 := Lib.hid (show ((W2.alloc (.cells #[.int .i64 k, .int .i64 n, .string s, .slice none 0 0, .slice none 0 0, .slice none 0 0] 26)).alloc (.cells #[.string x] 9)).heap[W2.heap.size]? = some (.cells #[.int .i64 k, .int .i64 n, .string s, .slice none 0 0, .slice none 0 0, .slice none 0 0] 26 (0, 0)) from (heap_alloc_old (W2.alloc (.cells #[.int .i64 k, .int .i64 n, .string s, .slice none 0 0, .slice none 0 0, .slice none 0 0] 26)) (.cells #[.string x] 9) (by simp)).trans (heap_alloc_new W2 _))
  have HS3 := Lib.hid (show ((W2.alloc (.cells #[.int .i64 k, .int .i64 n, .string s, .slice none 0 0, .slice none 0 0, .slice none 0 0] 26)).alloc (.cells #[.string x] 9)).heap[W2.heap.size + 1]? = some (.cells #[.string x] 9 (0, 0)) from by
    have h := heap_alloc_new (W2.alloc (.cells #[.int .i64 k, .int .i64 n, .string s, .slice none 0 0, .slice none 0 0, .slice none 0 0] 26)) (.cells #[.string x] 9)
    rw [show (W2.alloc (.cells #[.int .i64 k, .int .i64 n, .string s, .slice none 0 0, .slice none 0 0, .slice none 0 0] 26)).heap.size = W2.heap.size + 1 by simp] at h
    exact h)
  have HV3 := Lib.hid (show ((W2.alloc (.cells #[.string x] 9)).alloc (.cells #[.int .i64 k, .int .i64 n, .string s, .slice none 0 0, .slice none 0 0, .slice none 0 0] 26)).heap[W2.heap.size + 1]? = some (.cells #[.int .i64 k, .int .i64 n, .string s, .slice none 0 0, .slice none 0 0, .slice none 0 0] 26 (0, 0)) from by
    have h := heap_alloc_new (W2.alloc (.cells #[.string x] 9)) (.cells #[.int .i64 k, .int .i64 n, .string s, .slice none 0 0, .slice none 0 0, .slice none 0 0] 26)
    rw [show (W2.alloc (.cells #[.string x] 9)).heap.size = W2.heap.size + 1 by simp] at h
    exact h)
  have HX0 := Lib.hid (show Below W2.heap.size W2 W2 from Below.refl _ _)
  go_region_held3 (fun w' => w'.cell? ⟨w.heap.size, 0, none⟩ = some (.string x) ∧ w'.cell? ⟨w.heap.size + 1, 0, none⟩ = some (.int .i64 k) ∧ w'.cell? ⟨w.heap.size + 1, 1, none⟩ = some (.int .i64 n) ∧ w'.cell? ⟨w.heap.size + 1, 2, none⟩ = some (.string s) ∧ w'.cell? ⟨w.heap.size + 1, 3, none⟩ = some (.slice none 0 0) ∧ w'.cell? ⟨w.heap.size + 1, 4, none⟩ = some (.slice none 0 0) ∧ w'.cell? ⟨w.heap.size + 1, 5, none⟩ = some (.slice none 0 0))
    (first | go_keep | (go_split_ands; exact ⟨(hb3.cell (p := ⟨w.heap.size, 0, none⟩) (lt_of_cell (by assumption))).trans (by assumption), (hb3.cell (p := ⟨w.heap.size + 1, 0, none⟩) (lt_of_cell (by assumption))).trans (by assumption), (hb3.cell (p := ⟨w.heap.size + 1, 1, none⟩) (lt_of_cell (by assumption))).trans (by assumption), (hb3.cell (p := ⟨w.heap.size + 1, 2, none⟩) (lt_of_cell (by assumption))).trans (by assumption), (hb3.cell (p := ⟨w.heap.size + 1, 3, none⟩) (lt_of_cell (by assumption))).trans (by assumption), (hb3.cell (p := ⟨w.heap.size + 1, 4, none⟩) (lt_of_cell (by assumption))).trans (by assumption), (hb3.cell (p := ⟨w.heap.size + 1, 5, none⟩) (lt_of_cell (by assumption))).trans (by assumption)⟩) | (go_split_ands; exact ⟨(hb4.cell (p := ⟨w.heap.size, 0, none⟩) (lt_of_cell (by assumption))).trans (by assumption), (hb4.cell (p := ⟨w.heap.size + 1, 0, none⟩) (lt_of_cell (by assumption))).trans (by assumption), (hb4.cell (p := ⟨w.heap.size + 1, 1, none⟩) (lt_of_cell (by assumption))).trans (by assumption), (hb4.cell (p := ⟨w.heap.size + 1, 2, none⟩) (lt_of_cell (by assumption))).trans (by assumption), (hb4.cell (p := ⟨w.heap.size + 1, 3, none⟩) (lt_of_cell (by assumption))).trans (by assumption), (hb4.cell (p := ⟨w.heap.size + 1, 4, none⟩) (lt_of_cell (by assumption))).trans (by assumption), (hb4.cell (p := ⟨w.heap.size + 1, 5, none⟩) (lt_of_cell (by assumption))).trans (by assumption)⟩))
    (first
      | (go_at_call 48; go_loud (refine (insA_str _ _ [.string x] rfl (row_cells (by first | exact heap_alloc_new W2 _ | exact HS2.out | exact HS3.out)) (by intro u hu; simp at hu; subst hu; rfl)).mono ?_; rintro e w3 ⟨v3, rfl, ho3, hb3⟩; have HX3 := Lib.hid ((show Below W2.heap.size W2 _ from by (first | exact (Below.refl _ _) | exact (below_new W2 _).drew | exact ((below_new W2 _).alloc (by simp) _).drew | exact ⟨rfl, rfl, rfl, Nat.le_refl _, fun _ _ => rfl⟩ | exact (below_drew1 _).alloc (by simp) _ | exact ((below_drew1 _).alloc (by simp) _).alloc (by simp) _ | exact (below_drewN (Below.refl _ _)).alloc (by simp) _ | exact ((below_drewN (Below.refl _ _)).alloc (by simp) _).alloc (by simp) _)).trans (hb3.mono (by (first | exact Nat.le_refl _ | (simp; done) | (simp <;> omega))))); have ZR := R6W.out.belowAll HX3.out; have z0 := ZR.cell (k := 0) rfl; have z1 := ZR.cell (k := 1) rfl; have z2 := ZR.cell (k := 2) rfl; have z3 := ZR.cell (k := 3) rfl; have z4 := ZR.cell (k := 4) rfl; have z5 := ZR.cell (k := 5) rfl; have L3 := ldv ZR; have HN5 : ¬ (w.heap.size + 1 = w3.heap.size) := (by have := ZR.lt; omega); have HO3 := Lib.hid (own_base ho3 (show W2.heap.size ≤ _ from by (first | exact Nat.le_refl _ | (simp; done) | (simp <;> omega)))); have HB3 := Lib.hid hb3; clear ho3 ZR z0 z1 z2 z3 z4 z5 L3 HN5))
      | (go_at_call 49; go_loud (refine (insA_val _ _ [.int .i64 k, .int .i64 n, .string s, .slice none 0 0, .slice none 0 0, .slice none 0 0] rfl (row_cells (by first | exact heap_alloc_new w3 _ | exact (HB3.out.block _ (by simp; done)).trans HV3.out | exact (HB3.out.block _ (by simp <;> omega)).trans HV2.out)) (by intro u hu; simp at hu; rcases hu with rfl | rfl | rfl | rfl | rfl | rfl <;> rfl)).mono ?_; rintro e w4 ⟨v4, rfl, ho4, hb4⟩; have HX4 := Lib.hid ((show Below W2.heap.size W2 _ from by first | exact HX3.out | exact (HX3.out.alloc HX3.out.size _).drew | exact HX3.out.alloc (by (first | exact HX3.out.size | (simp; exact HX3.out.size) | (have h := HX3.out.size; simp; omega))) _).trans (hb4.mono (by (first | exact HX3.out.size | (simp; exact HX3.out.size) | (have h := HX3.out.size; simp; omega))))); have HO4 := Lib.hid (own_base ho4 (show W2.heap.size ≤ _ from by (first | exact HX3.out.size | (simp; exact HX3.out.size) | (have h := HX3.out.size; simp; omega)))); have HO5 := Lib.hid (own_below (by first | exact HO3.out | exact HO3.out.alloc _ | exact (show World.ownsRow (World.drew _) _ _ _ _ _ _ from HO3.out.alloc _)) hb4); clear ho4)))
  all_goals
    go_wp2_with fail
    (try simp only [Exit.inBlock, Exit.then])
    refine bodyPost_ret (v := .tuple #[v3, v4]) ?_ rfl ⟨_, _, rfl, own_base HO5.out HBQ.out.size, own_base HO4.out HBQ.out.size, HBQ.out.trans (HX4.out.mono HBQ.out.size)⟩
    simp only [results, hres]
    go_simp
end

section
set_option maxRecDepth 100000
set_option linter.unusedSimpArgs false
set_option linter.unusedVariables false
open Go.RowKit

set_option maxHeartbeats 3200000 in
theorem with_one (b : Nat) (v0 u0 : Value) (k n : Int) (s : ByteArray) (cb : List Value) (hcb : cb.length = 6) (h1b : ∀ u ∈ cb, u.oneCell' = true) (w : World) (hv : w.ownsRow b 9 1 v0 1 [.string ⟨#[98]⟩]) (hu : w.ownsRow b 26 6 u0 1 cb) (hne : ∀ q, v0.ownBlock = some q → u0.ownBlock ≠ some q) (hbw : b ≤ w.heap.size) :
    Calls Tryz.prog 26 #[v0, u0, .string ⟨#[97]⟩, .agg #[.int .i64 k, .int .i64 n, .string s, .slice none 0 0, .slice none 0 0, .slice none 0 0]] w fun e w' => ∃ v u, e = .returned (.tuple #[v, u]) ∧ w'.ownsRow b 9 1 v 2 [.string ⟨#[97]⟩, .string ⟨#[98]⟩] ∧ w'.ownsRow b 26 6 u 2 ([.int .i64 k, .int .i64 n, .string s, .slice none 0 0, .slice none 0 0, .slice none 0 0] ++ cb) ∧ Below b w w' := by
  have hv' := hv
  obtain ⟨_, h | ⟨g, cap, cur, rfl, hbg, hg, hc, hcm, hs, ht⟩⟩ := hv'
  · exact absurd h.2 (by omega)
  have hgw : g < w.heap.size := (Array.getElem?_eq_some_iff.1 hg).1
  have hcell : w.cell? ⟨g, 0, none⟩ = some (.string ⟨#[98]⟩) := by
    rw [cell_of_row w g 0 _ _ _ hg, ← Array.getElem?_toList]
    have h := congrArg (fun l : List Value => l[0]?) ht
    simpa [List.getElem?_take] using h
  have huw : ∀ q, u0.ownBlock = some q → q < w.heap.size := fun q hq => (hu.lt q hq).2
  have hug : u0.ownBlock ≠ some g := hne g rfl
  have HV := Lib.hid hv
  have HU := Lib.hid hu
  have HUW := Lib.hid huw
  have HUG := Lib.hid hug
  have H1B := Lib.hid h1b
  have HBG := Lib.hid hgw
  have HBB := Lib.hid hbw
  have HCE := Lib.hid hcell
  clear hv hu hne hg hc hcm hs ht huw h1b hcell hug
  have HF := Lib.hid (fun w => find_ba g cap w)
  have HB0 := Lib.hid (Below.alloc2 w (.cells #[.string ⟨#[97]⟩] 9) (.cells #[.int .i64 k, .int .i64 n, .string s, .slice none 0 0, .slice none 0 0, .slice none 0 0] 26))
  have R6 := Lib.hid (Row.new1 w (.cells #[.string ⟨#[97]⟩] 9) [.int .i64 k, .int .i64 n, .string s, .slice none 0 0, .slice none 0 0, .slice none 0 0] 26)
  have R5 := Lib.hid ((Row.new w [.string ⟨#[97]⟩] 9).belowAll (below_new _ (.cells #[.int .i64 k, .int .i64 n, .string s, .slice none 0 0, .slice none 0 0, .slice none 0 0] 26)))
  go_enter Tryz.func26, Tryz.ntmps26
  go_wp2_with fail
  refine (HF.out _ (by have h := HB0.out.block g HBG.out; rw [World.cell?_of_block h]; exact HCE.out)).mono ?_
  rintro e W1 ⟨rfl, hb⟩
  have HCW := Lib.hid (show W1.cell? ⟨g, 0, none⟩ = some (.string ⟨#[98]⟩) from by
    have h := (HB0.out.trans (hb.mono HB0.out.size)).block g HBG.out
    rw [World.cell?_of_block h]; exact HCE.out)
  have r5 := R5.out.belowAll hb
  have r6 := R6.out.belowAll hb
  have HB1 := Lib.hid (HB0.out.trans (hb.mono HB0.out.size))
  have HL := Lib.hid r6.lt
  have x0 := r5.cell (k := 0) rfl
  have y0 := r6.cell (k := 0) rfl
  have y1 := r6.cell (k := 1) rfl
  have y2 := r6.cell (k := 2) rfl
  have y3 := r6.cell (k := 3) rfl
  have y4 := r6.cell (k := 4) rfl
  have y5 := r6.cell (k := 5) rfl
  have R6W := Lib.hid r6
  clear hb r5 r6
  go_wp2_with fail
  refine (idx_w g cap w.heap.size _ HCW.out x0).mono ?_
  rintro e W2 ⟨rfl, rfl⟩
  have HN1 : ¬ (w.heap.size = W2.heap.size) := by have := HL.out; omega
  have HN2 : ¬ (w.heap.size + 1 = W2.heap.size) := by have := HL.out; omega
  have HN3 : ¬ (w.heap.size = W2.heap.size + 1) := by have := HL.out; omega
  have HN4 : ¬ (w.heap.size + 1 = W2.heap.size + 1) := by have := HL.out; omega
  go_wp2_with fail
  have HBQ := Lib.hid HB1.out
  have HVW := Lib.hid (own_below HV.out HB1.out)
  have HUW2 := Lib.hid (own_below HU.out HB1.out)
  have HBW2 := Lib.hid (show b ≤ W2.heap.size by have := HBB.out; have := HL.out; omega)
  have hgn0 : ¬ (g = w.heap.size) := by have := HBG.out; omega
  have hgn1 : ¬ (g = w.heap.size + 1) := by have := HBG.out; omega
  have hgn2 : ¬ (g = W2.heap.size) := by have := HL.out; have := HBG.out; omega
  have hgn3 : ¬ (g = W2.heap.size + 1) := by have := HL.out; have := HBG.out; omega
  have hres : Tryz.f26.results = #[.tmp 8, .tmp 9] := by kernel_rfl
  have L0 := ldv R6W.out
  have L1 := ldv (w := W2.drew) R6W.out
  have HS2 := Lib.hid (show ((W2.alloc (.cells #[.string ⟨#[97]⟩] 9)).alloc (.cells #[.int .i64 k, .int .i64 n, .string s, .slice none 0 0, .slice none 0 0, .slice none 0 0] 26)).heap[W2.heap.size]? = some (.cells #[.string ⟨#[97]⟩] 9 (0, 0)) from (heap_alloc_old (W2.alloc (.cells #[.string ⟨#[97]⟩] 9)) (.cells #[.int .i64 k, .int .i64 n, .string s, .slice none 0 0, .slice none 0 0, .slice none 0 0] 26) (by simp)).trans (heap_alloc_new W2 _))
  have HV2 := Lib.hid (show ((W2.alloc (.cells #[.int .i64 k, .int .i64 n, .string s, .slice none 0 0, .slice none 0 0, .slice none 0 0] 26)).alloc (.cells #[.string ⟨#[97]⟩] 9)).heap[W2.heap.size]? = some (.cells #[.int .i64 k, .int .i64 n, .string s, .slice none 0 0, .slice none 0 0, .slice none 0 0] 26 (0, 0)) from (heap_alloc_old (W2.alloc (.cells #[.int .i64 k, .int .i64 n, .string s, .slice none 0 0, .slice none 0 0, .slice none 0 0] 26)) (.cells #[.string ⟨#[97]⟩] 9) (by simp)).trans (heap_alloc_new W2 _))
  have HS3 := Lib.hid (show ((W2.alloc (.cells #[.int .i64 k, .int .i64 n, .string s, .slice none 0 0, .slice none 0 0, .slice none 0 0] 26)).alloc (.cells #[.string ⟨#[97]⟩] 9)).heap[W2.heap.size + 1]? = some (.cells #[.string ⟨#[97]⟩] 9 (0, 0)) from by
    have h := heap_alloc_new (W2.alloc (.cells #[.int .i64 k, .int .i64 n, .string s, .slice none 0 0, .slice none 0 0, .slice none 0 0] 26)) (.cells #[.string ⟨#[97]⟩] 9)
    rw [show (W2.alloc (.cells #[.int .i64 k, .int .i64 n, .string s, .slice none 0 0, .slice none 0 0, .slice none 0 0] 26)).heap.size = W2.heap.size + 1 by simp] at h
    exact h)
  have HV3 := Lib.hid (show ((W2.alloc (.cells #[.string ⟨#[97]⟩] 9)).alloc (.cells #[.int .i64 k, .int .i64 n, .string s, .slice none 0 0, .slice none 0 0, .slice none 0 0] 26)).heap[W2.heap.size + 1]? = some (.cells #[.int .i64 k, .int .i64 n, .string s, .slice none 0 0, .slice none 0 0, .slice none 0 0] 26 (0, 0)) from by
    have h := heap_alloc_new (W2.alloc (.cells #[.string ⟨#[97]⟩] 9)) (.cells #[.int .i64 k, .int .i64 n, .string s, .slice none 0 0, .slice none 0 0, .slice none 0 0] 26)
    rw [show (W2.alloc (.cells #[.string ⟨#[97]⟩] 9)).heap.size = W2.heap.size + 1 by simp] at h
    exact h)
  have HX0 := Lib.hid (show Below W2.heap.size W2 W2 from Below.refl _ _)
  go_region_held3 (fun w' => w'.cell? ⟨w.heap.size, 0, none⟩ = some (.string ⟨#[97]⟩) ∧ w'.cell? ⟨w.heap.size + 1, 0, none⟩ = some (.int .i64 k) ∧ w'.cell? ⟨w.heap.size + 1, 1, none⟩ = some (.int .i64 n) ∧ w'.cell? ⟨w.heap.size + 1, 2, none⟩ = some (.string s) ∧ w'.cell? ⟨w.heap.size + 1, 3, none⟩ = some (.slice none 0 0) ∧ w'.cell? ⟨w.heap.size + 1, 4, none⟩ = some (.slice none 0 0) ∧ w'.cell? ⟨w.heap.size + 1, 5, none⟩ = some (.slice none 0 0))
    (first | go_keep | (go_split_ands; exact ⟨(hon3'.cell (a := ⟨w.heap.size, 0, none⟩) (by first | exact fun h => hgn0 (Eq.symm h) | exact fun h => hgn1 (Eq.symm h)) (lt_of_cell (by assumption))).trans (by assumption), (hon3'.cell (a := ⟨w.heap.size + 1, 0, none⟩) (by first | exact fun h => hgn0 (Eq.symm h) | exact fun h => hgn1 (Eq.symm h)) (lt_of_cell (by assumption))).trans (by assumption), (hon3'.cell (a := ⟨w.heap.size + 1, 1, none⟩) (by first | exact fun h => hgn0 (Eq.symm h) | exact fun h => hgn1 (Eq.symm h)) (lt_of_cell (by assumption))).trans (by assumption), (hon3'.cell (a := ⟨w.heap.size + 1, 2, none⟩) (by first | exact fun h => hgn0 (Eq.symm h) | exact fun h => hgn1 (Eq.symm h)) (lt_of_cell (by assumption))).trans (by assumption), (hon3'.cell (a := ⟨w.heap.size + 1, 3, none⟩) (by first | exact fun h => hgn0 (Eq.symm h) | exact fun h => hgn1 (Eq.symm h)) (lt_of_cell (by assumption))).trans (by assumption), (hon3'.cell (a := ⟨w.heap.size + 1, 4, none⟩) (by first | exact fun h => hgn0 (Eq.symm h) | exact fun h => hgn1 (Eq.symm h)) (lt_of_cell (by assumption))).trans (by assumption), (hon3'.cell (a := ⟨w.heap.size + 1, 5, none⟩) (by first | exact fun h => hgn0 (Eq.symm h) | exact fun h => hgn1 (Eq.symm h)) (lt_of_cell (by assumption))).trans (by assumption)⟩) | (go_split_ands; exact ⟨(hon4.cell (a := ⟨w.heap.size, 0, none⟩) (fun h => absurd (HUW.out _ h) (by simp)) (lt_of_cell (by assumption))).trans (by assumption), (hon4.cell (a := ⟨w.heap.size + 1, 0, none⟩) (fun h => absurd (HUW.out _ h) (by simp)) (lt_of_cell (by assumption))).trans (by assumption), (hon4.cell (a := ⟨w.heap.size + 1, 1, none⟩) (fun h => absurd (HUW.out _ h) (by simp)) (lt_of_cell (by assumption))).trans (by assumption), (hon4.cell (a := ⟨w.heap.size + 1, 2, none⟩) (fun h => absurd (HUW.out _ h) (by simp)) (lt_of_cell (by assumption))).trans (by assumption), (hon4.cell (a := ⟨w.heap.size + 1, 3, none⟩) (fun h => absurd (HUW.out _ h) (by simp)) (lt_of_cell (by assumption))).trans (by assumption), (hon4.cell (a := ⟨w.heap.size + 1, 4, none⟩) (fun h => absurd (HUW.out _ h) (by simp)) (lt_of_cell (by assumption))).trans (by assumption), (hon4.cell (a := ⟨w.heap.size + 1, 5, none⟩) (fun h => absurd (HUW.out _ h) (by simp)) (lt_of_cell (by assumption))).trans (by assumption)⟩))
    (first
      | (go_at_call 48; go_loud (refine (ins2_str _ b _ (.slice (some ⟨g, 0, none⟩) 1 cap) [.string ⟨#[98]⟩] [.string ⟨#[97]⟩] rfl rfl (own_below HVW.out (by (first | exact (Below.refl _ _) | exact (below_new W2 _).drew | exact ((below_new W2 _).alloc (by simp) _).drew | exact ⟨rfl, rfl, rfl, Nat.le_refl _, fun _ _ => rfl⟩ | exact (below_drew1 _).alloc (by simp) _ | exact ((below_drew1 _).alloc (by simp) _).alloc (by simp) _ | exact (below_drewN (Below.refl _ _)).alloc (by simp) _ | exact ((below_drewN (Below.refl _ _)).alloc (by simp) _).alloc (by simp) _))) (by first | exact heap_alloc_new W2 _ | exact HS2.out | exact HS3.out) (by intro h; simp only [Value.ownBlock, Option.some.injEq] at h; omega) (by intro u hu; simp at hu; subst hu; rfl) (by intro u hu; simp at hu; subst hu; rfl)).mono ?_; rintro e w3 ⟨v3, rfl, ho3, hb3, hon3, hbl3⟩; have HBB3 := Lib.hid (((show Below W2.heap.size W2 _ from by (first | exact (Below.refl _ _) | exact (below_new W2 _).drew | exact ((below_new W2 _).alloc (by simp) _).drew | exact ⟨rfl, rfl, rfl, Nat.le_refl _, fun _ _ => rfl⟩ | exact (below_drew1 _).alloc (by simp) _ | exact ((below_drew1 _).alloc (by simp) _).alloc (by simp) _ | exact (below_drewN (Below.refl _ _)).alloc (by simp) _ | exact ((below_drewN (Below.refl _ _)).alloc (by simp) _).alloc (by simp) _)).mono HBW2.out).trans hb3); have HBL3 := Lib.hid (fun q hq => (hbl3 q hq).imp id (Nat.le_trans (show Below W2.heap.size W2 _ from by (first | exact (Below.refl _ _) | exact (below_new W2 _).drew | exact ((below_new W2 _).alloc (by simp) _).drew | exact ⟨rfl, rfl, rfl, Nat.le_refl _, fun _ _ => rfl⟩ | exact (below_drew1 _).alloc (by simp) _ | exact ((below_drew1 _).alloc (by simp) _).alloc (by simp) _ | exact (below_drewN (Below.refl _ _)).alloc (by simp) _ | exact ((below_drewN (Below.refl _ _)).alloc (by simp) _).alloc (by simp) _)).size)); have hon3' := hon3.mono (T := fun k => k = g) (fun k _ h => by simp only [Value.ownBlock, Option.some.injEq] at h; exact h.symm); have HN3 := Lib.hid hon3'; have HX3 := Lib.hid ((show Only (fun k => k = g) W2 _ from Only.of_below (by (first | exact (Below.refl _ _) | exact (below_new W2 _).drew | exact ((below_new W2 _).alloc (by simp) _).drew | exact ⟨rfl, rfl, rfl, Nat.le_refl _, fun _ _ => rfl⟩ | exact (below_drew1 _).alloc (by simp) _ | exact ((below_drew1 _).alloc (by simp) _).alloc (by simp) _ | exact (below_drewN (Below.refl _ _)).alloc (by simp) _ | exact ((below_drewN (Below.refl _ _)).alloc (by simp) _).alloc (by simp) _)) _).trans hon3' (fun _ _ h => h)); have HO3 := Lib.hid ho3; have HB3 := Lib.hid hb3; have HSZ3 := Lib.hid HX3.out.size; clear ho3 hon3))
      | (go_at_call 49; go_loud (refine (ins2_val _ b _ u0 cb [.int .i64 k, .int .i64 n, .string s, .slice none 0 0, .slice none 0 0, .slice none 0 0] hcb rfl (by first | exact own_only HUW2.out HX3.out (fun q hq e => HUG.out (by rw [hq, e])) | exact (own_only HUW2.out HX3.out (fun q hq e => HUG.out (by rw [hq, e]))).alloc _) (by first | exact heap_alloc_new w3 _ | exact (HN3.out.block _ (by simp; done) (by omega)).trans HV3.out | exact (HN3.out.block _ (by simp <;> omega) (by omega)).trans HV2.out) (by intro h; have h1 := HUW.out _ h; have h2 := HL.out; have h3 := HSZ3.out; omega) H1B.out (by intro u hu; simp at hu; rcases hu with rfl | rfl | rfl | rfl | rfl | rfl <;> rfl)).mono ?_; rintro e w4 ⟨v4, rfl, ho4, hb4, hon4, _⟩; have HO4 := Lib.hid ho4; have HBB4 := Lib.hid (show Below b W2 w4 from by first | exact HBB3.out.trans hb4 | exact (HBB3.out.alloc (Nat.le_trans HBW2.out HSZ3.out) _).trans hb4 | exact ((HBB3.out.alloc (Nat.le_trans HBW2.out HSZ3.out) _).drew).trans hb4); have HO5 := Lib.hid (own_only (w' := w4) (by first | exact HO3.out | exact HO3.out.alloc _ | exact (show World.ownsRow (World.drew _) _ _ _ _ _ _ from HO3.out.alloc _)) hon4 (fun q hq e => by rcases HBL3.out q hq with h | h; exact HUG.out (e.trans (Eq.symm h)); (have h1 := HUW.out _ e; have h2 := HL.out; omega))); clear ho4)))
  all_goals
    go_wp2_with fail
    (try simp only [Exit.inBlock, Exit.then])
    refine bodyPost_ret (v := .tuple #[v3, v4]) ?_ rfl ⟨_, _, rfl, HO5.out, HO4.out, (HBQ.out.mono HBB.out).trans HBB4.out⟩
    simp only [results, hres]
    go_simp
end

section
set_option maxRecDepth 100000
set_option linter.unusedSimpArgs false
set_option linter.unusedVariables false
open Go.RowKit

theorem findc_any (s x : ByteArray) (g : Nat) (w : World) (hg : w.cell? ⟨g, 0, none⟩ = some (.string s)) :
    Calls Tryz.prog 77 #[.string x, .pointer (some ⟨g, 0, none⟩)] w fun e w' => e = .returned (.bool (eqS x s)) ∧ w' = w := by
  go_enter Tryz.func77, Tryz.ntmps77
  go_wp2_with fail
  go_ret
  exact ⟨rfl, rfl⟩
theorem eqS_self (s : ByteArray) : eqS s s = true := by unfold eqS; exact beq_self_eq_true _
set_option maxHeartbeats 800000 in
theorem ifind_one (a g c : Nat) (s : ByteArray) (w : World) (ha : w.cell? ⟨a, 0, none⟩ = some (.string s)) (hg : w.cell? ⟨g, 0, none⟩ = some (.string s)) :
    Calls Tryz.prog 46 #[.slice (some ⟨a, 0, none⟩) 1 c, .func (.func 77) #[] #[.pointer (some ⟨g, 0, none⟩)]] w fun e w' => e = .returned (.int .i64 0) ∧ w' = w := by
  have hc := findc_any s s g w hg
  rw [eqS_self] at hc
  have HC := Lib.hid hc
  clear hc hg
  go_enter Tryz.func46, Tryz.ntmps46
  go_wp2_with fail
  go_loopw [8] (fun i wr => i = .int .i64 0 ∧ wr = w) (fun i _ => 0)
  case atStart => exact ⟨rfl, rfl⟩
  case round =>
    obtain ⟨rfl, rfl⟩ := hrel
    go_wp2_with fail
    refine HC.out.mono ?_
    rintro e W1 ⟨rfl, rfl⟩
    go_wp2_with fail
    go_ret
    exact ⟨rfl, rfl⟩
theorem find_one (a c : Nat) (s : ByteArray) (w : World) (ha : w.cell? ⟨a, 0, none⟩ = some (.string s)) :
    Calls Tryz.prog 45 #[.slice (some ⟨a, 0, none⟩) 1 c, .string s] w fun e w' => e = .returned (.int .i64 0) ∧ Below w.heap.size w w' := by
  have hlt : a < w.heap.size := lt_of_cell ha
  have HC := Lib.hid (ifind_one a w.heap.size c s (w.alloc (.cells #[.string s] 9)) ((Below.cell (below_new w _) hlt).trans ha) ((Row.new w [.string s] 9).cell (k := 0) rfl))
  clear ha
  go_enter Tryz.func45, Tryz.ntmps45
  go_wp2_with fail
  refine HC.out.mono ?_
  rintro e W1 ⟨rfl, rfl⟩
  go_wp2_with fail
  go_ret
  exact ⟨rfl, below_new _ _⟩
theorem Gives.nil {P : Program} {S : World → Prop} {o : Oper} {a : Act} (x : Operand) (ho : o.op = .nilCheck x) (ad : Addr) (hx : a.eval x = .pointer (some ad)) : Gives P S o (.pointer (some ad)) a :=
  Gives.run fun w _ => by
    unfold execOp
    simp only [ho, hx]
    rfl
theorem ldp_strs {a : Addr} {v : Value} {w : World} (h : w.cell? a = some v) : (Instr.loadAt 22 (.pointer (some a))).run Tryz.prog w = .ok v w := by go_simp
theorem ldp_str {a : Addr} {v : Value} {w : World} (h : w.cell? a = some v) : (Instr.loadAt 9 (.pointer (some a))).run Tryz.prog w = .ok v w := by go_simp
theorem ldp_vals {a : Addr} {v : Value} {w : World} (h : w.cell? a = some v) : (Instr.loadAt 24 (.pointer (some a))).run Tryz.prog w = .ok v w := by go_simp
theorem ld_u64 {a : Addr} {v : Value} {w : World} (h : w.cell? a = some v) : (Instr.loadAt 54 (.pointer (some a))).run Tryz.prog w = .ok v w := by go_simp
theorem fa_v (g k : Nat) (w : World) (hk : k < 6 := by omega) : (Instr.fieldAt 26 (.pointer (some ⟨g, 0, none⟩)) k).run Tryz.prog w = .ok (.pointer (some ⟨g, k, none⟩)) w := by
  match k, hk with
  | 0, _ => go_simp
  | 1, _ => go_simp
  | 2, _ => go_simp
  | 3, _ => go_simp
  | 4, _ => go_simp
  | 5, _ => go_simp
theorem ld_val {g : Nat} {w : World} (cs : List Value) (hl : cs.length = 6) (h : ∀ j v, cs[j]? = some v → w.cell? ⟨g, j, none⟩ = some v) :
    (Instr.loadAt 26 (.pointer (some ⟨g, 0, none⟩))).run Tryz.prog w = .ok (.agg cs.toArray) w := by
  have hv := run_loadVar_st (P := Tryz.prog) w ⟨g, 0, none⟩ 26 cs (fun j v hj => by
    have ea : (⟨g, 0, none⟩ : Addr).add j = ⟨g, j, none⟩ := by unfold Addr.add; split <;> simp_all
    rw [ea]
    exact h j v hj) Tryz.underlying26 (v_len hl)
  simp only [Instr.loadAt, Instr.sureAddr, Sem.run_bind, Sem.run_pure, Result.andThen_ok, hv]
def Cells (w : World) (g : Nat) (cs : List Value) : Prop := ∀ j v, cs[j]? = some v → w.cell? ⟨g, j, none⟩ = some v
theorem Cells.below {w w' : World} {g : Nat} {cs : List Value} (h : Cells w g cs) (hb : Below w.heap.size w w') : Cells w' g cs := fun j v hj => (hb.cell (p := ⟨g, j, none⟩) (lt_of_cell (h j v hj))).trans (h j v hj)
theorem Row.cells {w : World} {g : Nat} {T : TypeId} {cs : List Value} (h : Row w g T cs) : Cells w g cs := fun j v hj => h.cell hj
end

section
set_option maxRecDepth 100000
set_option linter.unusedSimpArgs false
set_option linter.unusedVariables false
open Go.RowKit

abbrev leafC (K N S : Value) : List Value := [K, N, S, .slice none 0 0, .slice none 0 0, .slice none 0 0]
theorem parts_any (g : Nat) (v : Value) (w : World) (h : w.cell? ⟨g, 5, none⟩ = some v) :
    Calls Tryz.prog 51 #[.pointer (some ⟨g, 0, none⟩)] w fun e w' => e = .returned v ∧ w' = w := by
  go_enter Tryz.func51, Tryz.ntmps51
  go_wp2_with fail
  go_ret
  exact ⟨rfl, rfl⟩
theorem endsc_any (p : Value) (d : Value) (w : World) :
    Calls Tryz.prog 106 #[p, d] w fun e w' => e = .returned (.tuple #[]) ∧ w' = w := by
  go_enter Tryz.func106, Tryz.ntmps106
  go_wp2_with fail
  go_end0
  exact ⟨rfl, rfl⟩
def lenS (v : Value) : Nat := match v with | .slice _ n _ => n | _ => 0
theorem mb_cells : Tryz.prog.cellsOf 152 = 2 := by kernel_rfl
set_option maxHeartbeats 1600000 in
theorem walke_leaf (g : Nat) (w : World) (h5 : w.cell? ⟨g, 5, none⟩ = some (.slice none 0 0)) :
    Calls Tryz.prog 83 #[.pointer (some ⟨g, 0, none⟩), .func (.func 51) #[] #[], .func (.func 106) #[] #[]] w fun e w' => e = .returned (.bool true) ∧ Below w.heap.size w w' := by
  have hlg := lt_of_cell h5
  have HV := Lib.hid (endsc_any (.pointer (some ⟨g, 0, none⟩)) (.int .i64 1))
  have HRN := Lib.hid (Row.new w [.pointer (some ⟨g, 0, none⟩), .int .i64 0] 152)
  have HB0 := Lib.hid (below_new w (.cells #[.pointer (some ⟨g, 0, none⟩), .int .i64 0] 152))
  have H5 := Lib.hid ((HB0.out.cell (p := ⟨g, 5, none⟩) hlg).trans h5)
  have HP := Lib.hid (parts_any g (.slice none 0 0))
  clear h5
  go_enter Tryz.func83, Tryz.ntmps83
  go_wp2_with fail
  refine (HV.out _).mono ?_
  rintro e W1 ⟨rfl, rfl⟩
  go_wp2_with fail
  go_loopw [7, 8, 9, 10] (fun v _ _ _ wr => ∃ n : Nat, n ≤ 1 ∧ v = .slice (some ⟨W1.heap.size, 0, none⟩) n 1 ∧ wr = W1.alloc (.cells #[.pointer (some ⟨g, 0, none⟩), .int .i64 0] 152)) (fun v _ _ _ _ => lenS v)
  case atStart => exact ⟨1, Nat.le_refl _, rfl, rfl⟩
  case round =>
    obtain ⟨n, hn, rfl, rfl⟩ := hrel
    by_cases h0 : n = 0
    · subst h0
      go_wp2_with fail
      go_ret
      exact ⟨rfl, HB0.out⟩
    · obtain rfl : n = 1 := by omega
      have HPP := Lib.hid (HP.out _ H5.out)
      have c0 := HRN.out.cell (k := 0) rfl
      have c1 := HRN.out.cell (k := 1) rfl
      go_wp2_with fail
      refine HPP.out.mono ?_
      rintro e W2 ⟨rfl, rfl⟩
      go_wp2_with fail
      go_roundw
      case rel => exact ⟨0, by omega, by first | rfl | trivial, by first | rfl | trivial⟩
      case measure => simp [lenS]

theorem below_same {w : World} {g : Nat} {T : TypeId} {l : List Value} (h : Row w g T l) {k : Nat} {v : Value} (hk : l[k]? = some v) : Below w.heap.size w (w.setCell ⟨g, k, none⟩ v) := by
  refine ⟨rfl, rfl, rfl, by simp, fun j hj => ?_⟩
  by_cases hjg : j = g
  · subst hjg
    have h1 := h.set k v
    unfold Row at h1
    rw [h1, show l.set k v = l from List.ext_getElem? fun i => by
      rw [List.getElem?_set]
      split
      · rename_i e; subst e; rw [hk]; split <;> simp_all
      · rfl]
    exact h.symm
  · exact Below.heap_setCell _ _ _ _ hjg
theorem Gives.storeSame {P : Program} {S : World → Prop} {o : Oper} {a : Act} (ty : TypeId) (x y : Operand) (ho : o.op = .store ty x y) (p : Addr) (hx : a.eval x = .pointer (some p)) (v : Value) (hy : a.eval y = v)
    (hi : ∀ w, S w → (Instr.storeAt ty (.pointer (some p)) v).run P w = .ok () (w.setCell p v) ∧ Below w.heap.size w (w.setCell p v)) : Gives P S o undef a := fun w hS K hK => by
  obtain ⟨h1, h2⟩ := hi w hS
  unfold Oper.wp execOp
  simp only [ho, hx, hy, Sem.run_bind, h1, Result.andThen_ok, Sem.run_pure]
  exact hK _ h2
theorem ld_u64s {a : Addr} {v : Value} {w : World} (h : w.cell? a = some v) : (Instr.loadAt 23 (.pointer (some a))).run Tryz.prog w = .ok v w := by go_simp
theorem st_strsP {a : Addr} {v : Value} {w : World} (h : w.cell? a = some v) (hf : w.frozen? a = false) : (Instr.storeAt 22 (.pointer (some a)) (.slice none 0 0)).run Tryz.prog w = .ok () (w.setCell a (.slice none 0 0)) := by go_simp
theorem st_u64s {a : Addr} {v : Value} {w : World} (h : w.cell? a = some v) (hf : w.frozen? a = false) : (Instr.storeAt 23 (.pointer (some a)) (.slice none 0 0)).run Tryz.prog w = .ok () (w.setCell a (.slice none 0 0)) := by go_simp
theorem st_valsP {a : Addr} {v : Value} {w : World} (h : w.cell? a = some v) (hf : w.frozen? a = false) : (Instr.storeAt 24 (.pointer (some a)) (.slice none 0 0)).run Tryz.prog w = .ok () (w.setCell a (.slice none 0 0)) := by go_simp
theorem cl_str (w : World) : Calls Tryz.prog 53 #[.slice none 0 0] w fun e w' => e = .returned (.slice none 0 0) ∧ Below w.heap.size w w' := by
  have qT : ∀ (w : World) (a : Option Addr) (n c n' c' : Nat), (binOp .eql 22 (.slice a n c) (.slice none n' c')).run Tryz.prog w = .ok (.bool a.isNone) w := fun w a n c n' c' => Lib.run_eql_slice_nil w _ _ a n c n' c' Tryz.underlying22
  go_enter Tryz.func53, Tryz.ntmps53
  go_wp2_with fail
  go_ret
  exact ⟨rfl, Below.refl _ _⟩
theorem cl_u64 (w : World) : Calls Tryz.prog 54 #[.slice none 0 0] w fun e w' => e = .returned (.slice none 0 0) ∧ Below w.heap.size w w' := by
  have qT : ∀ (w : World) (a : Option Addr) (n c n' c' : Nat), (binOp .eql 23 (.slice a n c) (.slice none n' c')).run Tryz.prog w = .ok (.bool a.isNone) w := fun w a n c n' c' => Lib.run_eql_slice_nil w _ _ a n c n' c' Tryz.underlying23
  go_enter Tryz.func54, Tryz.ntmps54
  go_wp2_with fail
  go_ret
  exact ⟨rfl, Below.refl _ _⟩
theorem cl_val (w : World) : Calls Tryz.prog 55 #[.slice none 0 0] w fun e w' => e = .returned (.slice none 0 0) ∧ Below w.heap.size w w' := by
  have qT : ∀ (w : World) (a : Option Addr) (n c n' c' : Nat), (binOp .eql 24 (.slice a n c) (.slice none n' c')).run Tryz.prog w = .ok (.bool a.isNone) w := fun w a n c n' c' => Lib.run_eql_slice_nil w _ _ a n c n' c' Tryz.underlying24
  go_enter Tryz.func55, Tryz.ntmps55
  go_wp2_with fail
  go_ret
  exact ⟨rfl, Below.refl _ _⟩
set_option maxHeartbeats 1600000 in
theorem own_leaf (g : Nat) (K N S : Value) (w : World) (h : Row w g 26 (leafC K N S)) :
    Calls Tryz.prog 52 #[.pointer (some ⟨g, 0, none⟩)] w fun e w' => e = .returned (.tuple #[]) ∧ Below w.heap.size w w' := by
  have HR := Lib.hid (fun (w' : World) (hb : Below w.heap.size w w') => h.belowAll hb)
  clear h
  go_enter Tryz.func52, Tryz.ntmps52
  go_wp2_with fail
  refine wp_flat_none (aD := ?aD) (S := fun w' => Below w.heap.size w w') (vs := [(0, .pointer (some ⟨g, 0, none⟩)), (1, .pointer (some ⟨g, 0, none⟩)), (2, .pointer (some ⟨g, 0, none⟩)), (3, .pointer (some ⟨g, 0, none⟩)), (4, .pointer (some ⟨g, 0, none⟩)), (5, .pointer (some ⟨g, 3, none⟩)), (6, .slice none 0 0), (7, .slice none 0 0), (8, .pointer (some ⟨g, 0, none⟩)), (9, .pointer (some ⟨g, 0, none⟩)), (10, .pointer (some ⟨g, 4, none⟩)), (11, .slice none 0 0), (12, .slice none 0 0), (13, .pointer (some ⟨g, 0, none⟩)), (14, .pointer (some ⟨g, 0, none⟩)), (15, .pointer (some ⟨g, 5, none⟩)), (16, .slice none 0 0), (17, .slice none 0 0), (18, .pointer (some ⟨g, 0, none⟩)), (19, .pointer (some ⟨g, 3, none⟩)), (20, undef), (21, .pointer (some ⟨g, 0, none⟩)), (22, .pointer (some ⟨g, 4, none⟩)), (23, undef), (24, .pointer (some ⟨g, 0, none⟩)), (25, .pointer (some ⟨g, 5, none⟩)), (26, undef)]) (by kernel_rfl) ((Below.refl _ _).drew) (fun _ _ h k => S_trans h k) ?hD ?hk ?h
  case hD =>
    refine .step (some 2) rfl rfl (by kernel_rfl) (Gives.move rfl rfl) ?_
    simp only [Act.put, List.setIfInBounds_toArray, List.set_cons_zero, List.set_cons_succ]
    refine .step (some 3) rfl rfl (by kernel_rfl) (Gives.move rfl rfl) ?_
    simp only [Act.put, List.setIfInBounds_toArray, List.set_cons_zero, List.set_cons_succ]
    refine .step (some 4) rfl rfl (by kernel_rfl) (Gives.move rfl rfl) ?_
    simp only [Act.put, List.setIfInBounds_toArray, List.set_cons_zero, List.set_cons_succ]
    refine .step (some 5) rfl rfl (by kernel_rfl) (Gives.move rfl rfl) ?_
    simp only [Act.put, List.setIfInBounds_toArray, List.set_cons_zero, List.set_cons_succ]
    refine .step (some 6) rfl rfl (by kernel_rfl) (Gives.nil (.tmp 5) rfl _ rfl) ?_
    simp only [Act.put, List.setIfInBounds_toArray, List.set_cons_zero, List.set_cons_succ]
    refine .step (some 7) rfl rfl (by kernel_rfl) (Gives.fieldAt 26 (.tmp 6) 3 rfl _ _ rfl (fun w' => fa_v g 3 w')) ?_
    simp only [Act.put, List.setIfInBounds_toArray, List.set_cons_zero, List.set_cons_succ]
    refine .step (some 8) rfl rfl (by kernel_rfl) (Gives.load 22 (.tmp 7) rfl _ _ rfl (fun w' h => ldp_strs ((HR.out w' h).cell (k := 3) rfl))) ?_
    simp only [Act.put, List.setIfInBounds_toArray, List.set_cons_zero, List.set_cons_succ]
    refine .step (some 9) rfl rfl (by kernel_rfl) (Gives.call (args := [.slice none 0 0]) rfl Tryz.func53 (by kernel_rfl) (by kernel_rfl) rfl (fun w' h => cl_str w')) ?_
    simp only [Act.put, List.setIfInBounds_toArray, List.set_cons_zero, List.set_cons_succ]
    refine .step (some 10) rfl rfl (by kernel_rfl) (Gives.move rfl rfl) ?_
    simp only [Act.put, List.setIfInBounds_toArray, List.set_cons_zero, List.set_cons_succ]
    refine .step (some 11) rfl rfl (by kernel_rfl) (Gives.nil (.tmp 10) rfl _ rfl) ?_
    simp only [Act.put, List.setIfInBounds_toArray, List.set_cons_zero, List.set_cons_succ]
    refine .step (some 12) rfl rfl (by kernel_rfl) (Gives.fieldAt 26 (.tmp 11) 4 rfl _ _ rfl (fun w' => fa_v g 4 w')) ?_
    simp only [Act.put, List.setIfInBounds_toArray, List.set_cons_zero, List.set_cons_succ]
    refine .step (some 13) rfl rfl (by kernel_rfl) (Gives.load 23 (.tmp 12) rfl _ _ rfl (fun w' h => ld_u64s ((HR.out w' h).cell (k := 4) rfl))) ?_
    simp only [Act.put, List.setIfInBounds_toArray, List.set_cons_zero, List.set_cons_succ]
    refine .step (some 14) rfl rfl (by kernel_rfl) (Gives.call (args := [.slice none 0 0]) rfl Tryz.func54 (by kernel_rfl) (by kernel_rfl) rfl (fun w' h => cl_u64 w')) ?_
    simp only [Act.put, List.setIfInBounds_toArray, List.set_cons_zero, List.set_cons_succ]
    refine .step (some 15) rfl rfl (by kernel_rfl) (Gives.move rfl rfl) ?_
    simp only [Act.put, List.setIfInBounds_toArray, List.set_cons_zero, List.set_cons_succ]
    refine .step (some 16) rfl rfl (by kernel_rfl) (Gives.nil (.tmp 15) rfl _ rfl) ?_
    simp only [Act.put, List.setIfInBounds_toArray, List.set_cons_zero, List.set_cons_succ]
    refine .step (some 17) rfl rfl (by kernel_rfl) (Gives.fieldAt 26 (.tmp 16) 5 rfl _ _ rfl (fun w' => fa_v g 5 w')) ?_
    simp only [Act.put, List.setIfInBounds_toArray, List.set_cons_zero, List.set_cons_succ]
    refine .step (some 18) rfl rfl (by kernel_rfl) (Gives.load 24 (.tmp 17) rfl _ _ rfl (fun w' h => ldp_vals ((HR.out w' h).cell (k := 5) rfl))) ?_
    simp only [Act.put, List.setIfInBounds_toArray, List.set_cons_zero, List.set_cons_succ]
    refine .step (some 19) rfl rfl (by kernel_rfl) (Gives.call (args := [.slice none 0 0]) rfl Tryz.func55 (by kernel_rfl) (by kernel_rfl) rfl (fun w' h => cl_val w')) ?_
    simp only [Act.put, List.setIfInBounds_toArray, List.set_cons_zero, List.set_cons_succ]
    refine .step (some 20) rfl rfl (by kernel_rfl) (Gives.nil (.tmp 2) rfl _ rfl) ?_
    simp only [Act.put, List.setIfInBounds_toArray, List.set_cons_zero, List.set_cons_succ]
    refine .step (some 21) rfl rfl (by kernel_rfl) (Gives.fieldAt 26 (.tmp 20) 3 rfl _ _ rfl (fun w' => fa_v g 3 w')) ?_
    simp only [Act.put, List.setIfInBounds_toArray, List.set_cons_zero, List.set_cons_succ]
    refine .step (none) rfl rfl (by kernel_rfl) (Gives.storeSame 22 (.tmp 21) (.tmp 9) rfl ⟨g, 3, none⟩ rfl (.slice none 0 0) rfl (fun w' h => ⟨st_strsP ((HR.out w' h).cell (k := 3) rfl) ((HR.out w' h).free 3), below_same (HR.out w' h) (k := 3) rfl⟩)) ?_
    simp only [Act.put, List.setIfInBounds_toArray, List.set_cons_zero, List.set_cons_succ]
    refine .step (some 22) rfl rfl (by kernel_rfl) (Gives.nil (.tmp 3) rfl _ rfl) ?_
    simp only [Act.put, List.setIfInBounds_toArray, List.set_cons_zero, List.set_cons_succ]
    refine .step (some 23) rfl rfl (by kernel_rfl) (Gives.fieldAt 26 (.tmp 22) 4 rfl _ _ rfl (fun w' => fa_v g 4 w')) ?_
    simp only [Act.put, List.setIfInBounds_toArray, List.set_cons_zero, List.set_cons_succ]
    refine .step (none) rfl rfl (by kernel_rfl) (Gives.storeSame 23 (.tmp 23) (.tmp 14) rfl ⟨g, 4, none⟩ rfl (.slice none 0 0) rfl (fun w' h => ⟨st_u64s ((HR.out w' h).cell (k := 4) rfl) ((HR.out w' h).free 4), below_same (HR.out w' h) (k := 4) rfl⟩)) ?_
    simp only [Act.put, List.setIfInBounds_toArray, List.set_cons_zero, List.set_cons_succ]
    refine .step (some 24) rfl rfl (by kernel_rfl) (Gives.nil (.tmp 4) rfl _ rfl) ?_
    simp only [Act.put, List.setIfInBounds_toArray, List.set_cons_zero, List.set_cons_succ]
    refine .step (some 25) rfl rfl (by kernel_rfl) (Gives.fieldAt 26 (.tmp 24) 5 rfl _ _ rfl (fun w' => fa_v g 5 w')) ?_
    simp only [Act.put, List.setIfInBounds_toArray, List.set_cons_zero, List.set_cons_succ]
    refine .step (none) rfl rfl (by kernel_rfl) (Gives.storeSame 24 (.tmp 25) (.tmp 19) rfl ⟨g, 5, none⟩ rfl (.slice none 0 0) rfl (fun w' h => ⟨st_valsP ((HR.out w' h).cell (k := 5) rfl) ((HR.out w' h).free 5), below_same (HR.out w' h) (k := 5) rfl⟩)) ?_
    simp only [Act.put, List.setIfInBounds_toArray, List.set_cons_zero, List.set_cons_succ]
    exact .nil
  case hk => kernel_rfl
  case h =>
  intro W2 hb
  have HB := Lib.hid hb
  clear hb
  go_wp2_with fail
  go_end0
  exact ⟨rfl, HB.out⟩
theorem copyc_leaf (g f d : Nat) (K N S : Value) (w : World) (h : Row w g 26 (leafC K N S)) (hf : w.cell? ⟨f, 0, none⟩ = some (.func (.func 52) #[] #[])) :
    Calls Tryz.prog 84 #[.pointer (some ⟨g, 0, none⟩), .int .i64 d, .pointer (some ⟨f, 0, none⟩)] w fun e w' => e = .returned (.tuple #[]) ∧ Below w.heap.size w w' := by
  have HO := Lib.hid (own_leaf g K N S w h)
  clear h
  go_enter Tryz.func84, Tryz.ntmps84
  go_wp2_with fail
  refine HO.out.mono ?_
  rintro e W1 ⟨rfl, hb⟩
  have HB := Lib.hid hb
  clear hb
  go_wp2_with fail
  go_end0
  exact ⟨rfl, HB.out⟩
end

end Go.Proofs.YtkjhmplnamaoaaaGreatDoor
