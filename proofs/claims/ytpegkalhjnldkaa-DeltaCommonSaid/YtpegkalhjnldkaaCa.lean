/- The paths of all parts, where each has at most one: how many there are. -/
import Derived.Test.YtpegkalhjnldkaaCg
namespace Go.Proofs.Ytpegkalhjnldkaa
set_option maxRecDepth 100000
set_option linter.unusedSimpArgs false
set_option linter.unusedVariables false
open Go.RowKit

theorem cells_own {w : World} {b : Nat} {e : TypeId} {s : Nat} {g n c : Nat} {xs : List Value} (h : w.ownsRow b e s (.slice (some ⟨g, 0, none⟩) n c) n xs) : ∀ j u, xs[j]? = some u → w.cell? ((⟨g, 0, none⟩ : Addr).add j) = some u := h.cells (g := g) rfl
set_option maxHeartbeats 800000 in
theorem clone_st (b : Nat) (v : Value) (m : Nat) (xs : List Value) (w : World) (h : w.ownsRow b 69 2 v m xs) (h1 : ∀ u ∈ xs, u.oneCell' = true) (hm : m ≤ 1000) :
    Calls Try.prog 25 #[v] w fun e w' => ∃ v', e = .returned v' ∧ w'.ownsRow w.heap.size 69 2 v' m xs ∧ Below w.heap.size w w' := by
  obtain ⟨i0, hi, hz0, hz1, hz2⟩ := info_parts st_info3
  have qT : ∀ (w : World) (a : Option Addr) (n c n' c' : Nat), (binOp .eql 38 (.slice a n c) (.slice none n' c')).run Try.prog w = .ok (.bool a.isNone) w := fun w a n c n' c' => Lib.run_eql_slice_nil w _ _ a n c n' c' Try.underlying38
  have hlen := h.1
  rcases h.2 with ⟨rfl, rfl⟩ | ⟨g, cap, cur, rfl, _⟩
  · obtain rfl : xs = [] := List.eq_nil_of_length_eq_zero (by omega)
    clear h hlen
    go_enter Try.func25, Try.ntmps25
    go_wp2_with fail
    go_ret
    exact ⟨_, rfl, World.ownsRow_nil _ _ _ _, Below.refl _ _⟩
  · have HCE := Lib.hid (cells_own h)
    have HLT := Lib.hid (fun j u (hj : xs[j]? = some u) => lt_of_cell (cells_own h j u hj))
    have H1 := Lib.hid h1
    have HLN := Lib.hid hlen
    clear h hlen h1
    go_enter Try.func25, Try.ntmps25
    go_wp2_with (at_builtin; refine wpList_append_own_at _ rfl (.tmp 5) (.tmp 6) 38 rfl w.heap.size 69 i0 (.agg #[.string ByteArray.empty, .int .u64 0]) 2 24 Try.underlying38 hi hz0 hz1 hz2 rfl (by omega) (.slice (some ⟨w.heap.size, 0, none⟩) 0 0) 0 [] rfl (World.ownsRow_made w #[] 0 (Nat.le_refl _) (by unfold maxLen; omega) rfl) ⟨g, 0, none⟩ m cap xs rfl HLN.out ?cn H1.out ?c1 ?c2 ?c3 ?_)
    case cn => exact fun j u hj => ((below_new w _).cell (HLT.out j u hj)).trans (HCE.out j u hj)
    case c1 => unfold maxLen; omega
    case c2 => omega
    case c3 => simp
    intro v' w' hown hg _ hat
    have HB := Lib.hid ((below_new w (.cells #[] 69)).grown hg (by simp) (fun j hj => by simp [Value.ownBlock] at hj; omega))
    have HO := Lib.hid hown
    clear hown hg hat
    go_wp2_with fail
    go_ret
    refine ⟨v', rfl, ?_, HB.out⟩
    have := HO.out
    simpa using this

theorem sl_info3 : (Try.prog.info? 38).map (fun i => (i.zero, i.size, i.bytes)) = some (some (.slice none 0 0), 1, 24) := by kernel_rfl
/-- A list of paths, told by how many there are. -/
def Pths (w0 w : World) (v : Value) (n : Nat) : Prop := ∃ ys : List Value, w.ownsRow w0.heap.size 38 1 v n ys ∧ (∀ u ∈ ys, u.oneCell' = true) ∧ Below w0.heap.size w0 w
theorem own_one (w : World) (o : Value) (ho : o.oneCell' = true) : (w.alloc (.cells #[o] 38)).ownsRow w.heap.size 38 1 (.slice (some ⟨w.heap.size, 0, none⟩) 1 1) 1 [o] :=
  ⟨rfl, .inr ⟨w.heap.size, 1, #[o], rfl, Nat.le_refl _, heap_alloc_new w _, Nat.le_refl _, by unfold maxLen; omega, rfl, rfl⟩⟩
theorem own_one_cell {w : World} {b : Nat} {e : TypeId} {s : Nat} {v : Value} {n : Nat} {xs : List Value} (h : w.ownsRow b e s v n xs) : v.oneCell' = true := by
  rcases h.2 with ⟨rfl, _⟩ | ⟨g, cap, cur, rfl, _⟩ <;> rfl
theorem own_sl {w : World} {b : Nat} {e : TypeId} {s : Nat} {v : Value} {n : Nat} {xs : List Value} (h : w.ownsRow b e s v n xs) : ∃ A c, v = .slice A n c := by
  rcases h.2 with ⟨rfl, rfl⟩ | ⟨g, cap, cur, rfl, _⟩
  · exact ⟨_, _, rfl⟩
  · exact ⟨_, _, rfl⟩
set_option maxHeartbeats 800000 in
theorem all_leaf (k n : Int) (s : ByteArray) (A : Option Addr) (m c : Nat) (w : World) :
    Calls Try.prog 37 #[.agg (lfA k n s), .slice A m c] w fun e w' => ∃ v, e = .returned v ∧ Pths w w' v 1 := by
  have HB := Lib.hid (Below.alloc2 w (.cells (lfA k n s) 37) (.cells #[.slice A m c] 38))
  have HO := Lib.hid (own_base (own_one (w.alloc (.cells (lfA k n s) 37)) (.slice A m c) rfl) (below_new w _).size)
  go_enter Try.func37, Try.ntmps37
  go_wp2_with fail
  go_loopw [5, 6, 7, 13] (fun v _ _ i wr => i = .int .i64 0 ∧ v = .slice (some ⟨w.heap.size + 1, 0, none⟩) 1 1 ∧ wr = (w.alloc (.cells (lfA k n s) 37)).alloc (.cells #[.slice A m c] 38)) (fun _ _ _ _ _ => 0)
  case atStart => exact ⟨rfl, rfl, rfl⟩
  case round =>
    obtain ⟨rfl, rfl, rfl⟩ := hrel
    go_wp2_with fail
    go_ret
    refine ⟨_, rfl, [.slice A m c], ?_, by simp [Value.oneCell'], HB.out⟩
    have := HO.out
    simpa using this

theorem mk_st (s : ByteArray) (i : Int) (w : World) : (Instr.buildSlice 38 1 #[(0, .agg #[.string s, .int .u64 i])]).run Try.prog w = .ok (.slice (some ⟨w.heap.size, 0, none⟩) 1 1) (w.alloc (.cells #[.string s, .int .u64 i] 69)) := by
  go_simp
theorem late_ok {b : Bool} {p : Prop} (h : (b == false) = true) : b = true → p := fun e => by rw [e] at h; cases h
theorem own_some {w : World} {b : Nat} {e : TypeId} {s : Nat} {v : Value} {n : Nat} {xs : List Value} (h : w.ownsRow b e s v n xs) (hn : 0 < n) : ∃ g c, v = .slice (some ⟨g, 0, none⟩) n c := by
  rcases h.2 with ⟨_, h0⟩ | ⟨g, cap, cur, rfl, _⟩
  · omega
  · exact ⟨_, _, rfl⟩
abbrev lstA (i0 p0 : Nat) : Array Value := #[.int .i64 6, .int .i64 0, .string ByteArray.empty, .slice none 0 0, .slice (some ⟨i0, 0, none⟩) 1 1, .slice (some ⟨p0, 0, none⟩) 1 1]

set_option maxHeartbeats 800000 in
theorem step_rec (n0 p1 : Nat) (w : World) (h : w.cell? ⟨n0, 0, none⟩ = some (.string aB)) :
    Calls Try.prog 56 #[.agg (recA n0 p1), .int .i64 0] w fun e w' => e = .returned (.agg #[.string aB, .int .u64 0]) ∧ Below w.heap.size w w' := by
  have hl := lt_of_cell h
  have hb0 := Below.alloc2 w (.cells (recA n0 p1) 37) (.cells #[.string { data := #[] }, .int .u64 0] 69)
  have h1 := (hb0.cell hl).trans h
  have R4 := Lib.hid (Row.new1 w (.cells (recA n0 p1) 37) [.string { data := #[] }, .int .u64 0] 69)
  have HB0 := Lib.hid hb0
  clear h hb0 hl
  go_enter Try.func56, Try.ntmps56
  go_wp2_with (refine wpList_store_row rfl 69 (.tmp 4) (.tmp 13) rfl (w.heap.size + 1) #[.string aB, .int .u64 0] rfl rfl 69 _ R4.out stp_info rfl (st_one _ _) ?_)
  have hgot : (((w.alloc (.cells (recA n0 p1) 37)).alloc (.cells #[.string { data := #[] }, .int .u64 0] 69)).setRow (w.heap.size + 1) #[.string aB, .int .u64 0]).heap[w.heap.size + 1]? = some (.cells #[.string aB, .int .u64 0] 69 (0, 0)) := setRow_heap _ _ _ _ _ _ R4.out
  (try simp only [Exit.inBlock, Exit.then])
  refine bodyPost_ret (results_cell_row (by rfl) _ _ (w.heap.size + 1) _ _ _ _ (by rfl) hgot Try.underlying69 rfl stp_info) rfl ?_
  exact ⟨rfl, below_setRow HB0.out (by omega) _⟩

set_option maxHeartbeats 800000 in
theorem step_list (i0 p0 : Nat) (w : World) (h : w.cell? ⟨i0, 0, none⟩ = some (.int .u64 3)) :
    Calls Try.prog 56 #[.agg (lstA i0 p0), .int .i64 0] w fun e w' => e = .returned (.agg #[.string ByteArray.empty, .int .u64 3]) ∧ Below w.heap.size w w' := by
  have hl := lt_of_cell h
  have hb0 := Below.alloc2 w (.cells (lstA i0 p0) 37) (.cells #[.string { data := #[] }, .int .u64 0] 69)
  have h1 := (hb0.cell hl).trans h
  have R4 := Lib.hid (Row.new1 w (.cells (lstA i0 p0) 37) [.string { data := #[] }, .int .u64 0] 69)
  have HB0 := Lib.hid hb0
  clear h hb0 hl
  go_enter Try.func56, Try.ntmps56
  go_wp2_with (refine wpList_store_row rfl 69 (.tmp 4) (.tmp 19) rfl (w.heap.size + 1) #[.string ByteArray.empty, .int .u64 3] rfl rfl 69 _ R4.out stp_info rfl (st_one _ _) ?_)
  have hgot : (((w.alloc (.cells (lstA i0 p0) 37)).alloc (.cells #[.string { data := #[] }, .int .u64 0] 69)).setRow (w.heap.size + 1) #[.string ByteArray.empty, .int .u64 3]).heap[w.heap.size + 1]? = some (.cells #[.string ByteArray.empty, .int .u64 3] 69 (0, 0)) := setRow_heap _ _ _ _ _ _ R4.out
  (try simp only [Exit.inBlock, Exit.then])
  refine bodyPost_ret (results_cell_row (by rfl) _ _ (w.heap.size + 1) _ _ _ _ (by rfl) hgot Try.underlying69 rfl stp_info) rfl ?_
  exact ⟨rfl, below_setRow HB0.out (by omega) _⟩


set_option maxHeartbeats 3200000 in
theorem all_list (g n0 p1 i0 p0 : Nat) (m : Nat) (xs : List Value) (o : Value) (w : World) (he : ExV w g n0 p1 i0 p0) (ho : w.ownsRow 0 69 2 o m xs) (h1 : ∀ u ∈ xs, u.oneCell' = true) (hm : m ≤ 8) :
    Calls Try.prog 37 #[.agg (lstA i0 p0), o] w fun e w' => ∃ v, e = .returned v ∧ Pths w w' v 2 := by
  obtain ⟨ti0, hi, hz0, hz1, hz2⟩ := info_parts st_info3
  obtain ⟨tj0, hj, hy0, hy1, hy2⟩ := info_parts sl_info3
  have HST := Lib.hid (show ∀ w' : World, Below w.heap.size w w' → Calls Try.prog 56 #[.agg (lstA i0 p0), .int .i64 0] w' fun e w'' => e = .returned (.agg #[.string ByteArray.empty, .int .u64 3]) ∧ Below w'.heap.size w' w'' from fun w' hb => step_list i0 p0 w' (he.below hb).idc)
  have HALL := Lib.hid (show ∀ (w' : World) (o' : Value), Below w.heap.size w w' → w'.ownsRow 0 69 2 o' (m + 1) (xs ++ [.string ByteArray.empty, .int .u64 3]) → Calls Try.prog 37 #[.agg #[.int .i64 1, .int .i64 1, .string ByteArray.empty, .slice none 0 0, .slice none 0 0, .slice none 0 0], o'] w' fun e w'' => ∃ v, e = .returned v ∧ Pths w' w'' v 1 from fun w' o' hb ho' => by obtain ⟨A, c, rfl⟩ := own_sl ho'; exact all_leaf 1 1 ByteArray.empty A _ c w')
  have hp := he.leaf
  obtain ⟨oA, oc, rfl⟩ := own_sl ho
  have hb0 := Below.alloc2 w (.cells (lstA i0 p0) 37) (.cells #[.slice oA m oc] 38)
  have HP := Lib.hid (ld_val _ rfl (hp.below hb0))
  have R2 := Lib.hid ((Row.new w (lstA i0 p0).toList 37).alloc (.cells #[.slice oA m oc] 38))
  have HL := Lib.hid (own_base (own_one (w.alloc (.cells (lstA i0 p0) 37)) (.slice oA m oc) rfl) (below_new w _).size)
  have HO := Lib.hid ho
  have H1 := Lib.hid h1
  have HB0 := Lib.hid hb0
  clear ho h1 hp hb0 he
  go_enter Try.func37, Try.ntmps37
  go_wp2_with fail
  go_loopw [5, 6, 7, 13] (fun v _ _ i wr => (i = .int .i64 0 ∧ v = .slice (some ⟨w.heap.size + 1, 0, none⟩) 1 1 ∧ wr = (w.alloc (.cells (lstA i0 p0) 37)).alloc (.cells #[.slice oA m oc] 38)) ∨ (i = .int .i64 1 ∧ (∃ A c, v = .slice A 2 c) ∧ Pths w wr v 2)) (fun _ _ _ i _ => 1 - (intOf i).toNat)
  case atStart => exact .inl ⟨rfl, rfl, rfl⟩
  case round =>
    rcases hrel with ⟨rfl, rfl, rfl⟩ | ⟨rfl, ⟨vA, vc, rfl⟩, hpt⟩
    · have R7 := Lib.hid (Row.new2 w (.cells (lstA i0 p0) 37) (.cells #[.slice oA m oc] 38) [.int .i64 1, .int .i64 1, .string ByteArray.empty, .slice none 0 0, .slice none 0 0, .slice none 0 0] 37)
      have R2' := Lib.hid (R2.out.alloc (.cells #[.int .i64 1, .int .i64 1, .string ByteArray.empty, .slice none 0 0, .slice none 0 0, .slice none 0 0] 37))
      have HL' := Lib.hid (HL.out.alloc (.cells #[.int .i64 1, .int .i64 1, .string ByteArray.empty, .slice none 0 0, .slice none 0 0, .slice none 0 0] 37))
      have HB1 := Lib.hid (HB0.out.trans ((below_new _ (.cells #[.int .i64 1, .int .i64 1, .string ByteArray.empty, .slice none 0 0, .slice none 0 0, .slice none 0 0] 37)).mono HB0.out.size))
      go_wp2_with (refine wpList_loadr rfl 37 (.tmp 16) rfl _ _ rfl HP.out ?_)
      generalize hWR : ((w.alloc (.cells (lstA i0 p0) 37)).alloc (.cells #[.slice oA m oc] 38)).alloc (.cells #[.int .i64 1, .int .i64 1, .string ByteArray.empty, .slice none 0 0, .slice none 0 0, .slice none 0 0] 37) = WR at *
      have hszr : w.heap.size + 3 = WR.heap.size := by rw [← hWR]; simp
      clear hWR
      refine startT (fun w' => Below WR.heap.size WR w') [10] (by kernel_rfl) ?_
      have hS0 : Below WR.heap.size WR WR.drew := (Below.refl _ _).drew
      refine takeT 0 (some 18) rfl rfl (by kernel_rfl) (by kernel_rfl) (fun _ _ _ h => h) (Reads.move (x := .tmp 5) rfl rfl) hS0 ?_
      simp only [Act.put, List.setIfInBounds_toArray, List.set_cons_zero, List.set_cons_succ]
      refine takeT 1 (some 19) rfl rfl (by kernel_rfl) (by kernel_rfl) (fun _ _ _ h => h) (Reads.load 37 (.tmp 7) rfl _ _ rfl (fun w' h => ld_val _ rfl (R7.out.belowAll h).cells)) hS0 ?_
      simp only [Act.put, List.setIfInBounds_toArray, List.set_cons_zero, List.set_cons_succ]
      refine takeT 2 (some 20) rfl rfl (by kernel_rfl) (by kernel_rfl) (fun _ _ _ h => h) (Reads.move (x := .tmp 1) rfl rfl) hS0 ?_
      simp only [Act.put, List.setIfInBounds_toArray, List.set_cons_zero, List.set_cons_succ]
      refine takeT 4 (some 22) rfl rfl (by kernel_rfl) (by kernel_rfl) (fun _ _ _ h => h) (Reads.load 37 (.tmp 2) rfl _ _ rfl (fun w' h => ld_val _ rfl (R2'.out.belowAll h).cells)) hS0 ?_
      simp only [Act.put, List.setIfInBounds_toArray, List.set_cons_zero, List.set_cons_succ]
      refine takeT 5 (some 23) rfl rfl (by kernel_rfl) (by kernel_rfl) (fun _ _ _ h => h) (Reads.move (x := .tmp 6) rfl rfl) hS0 ?_
      simp only [Act.put, List.setIfInBounds_toArray, List.set_cons_zero, List.set_cons_succ]
      have hbr : Below w.heap.size w WR.drew := HB1.out.trans (hS0.mono HB1.out.size)
      have hCL := clone_st 0 (.slice oA m oc) m xs WR.drew (own_below HO.out hbr) H1.out (by omega)
      refine oneT 3 (by kernel_rfl) rfl (by kernel_rfl) (fun K2 hK => ?_)
      refine wp_call_any (args := [.slice oA m oc]) rfl Try.func25 (by kernel_rfl) (by kernel_rfl) rfl hCL ?_
      rintro e W3 ⟨v3, rfl, ho3, hb3⟩
      refine ⟨_, rfl, ?_⟩
      have hS3 : Below WR.heap.size WR W3 := hS0.trans (hb3.mono hS0.size)
      refine hK.out _ _ (fun _ => hS3) ?_
      clear hK K2
      change wpAnyT _ _ _ _ _ _ _ _ (Act.put _ (some 21) _) _
      simp only [Act.put, List.setIfInBounds_toArray, List.set_cons_zero, List.set_cons_succ]
      have hw3 : Below w.heap.size w W3 := HB1.out.trans (hS3.mono HB1.out.size)
      refine oneT 6 (by kernel_rfl) rfl (by kernel_rfl) (fun K2 hK => ?_)
      refine wp_call_any (args := [.agg (lstA i0 p0), .int .i64 0]) rfl Try.func56 (by kernel_rfl) (by kernel_rfl) rfl (HST.out W3 hw3) ?_
      rintro e W4 ⟨rfl, hb4⟩
      refine ⟨_, rfl, ?_⟩
      have hS4 : Below WR.heap.size WR W4 := hS3.trans (hb4.mono hS3.size)
      refine hK.out _ _ (fun _ => hS4) ?_
      clear hK K2
      change wpAnyT _ _ _ _ _ _ _ _ (Act.put _ (some 24) _) _
      simp only [Act.put, List.setIfInBounds_toArray, List.set_cons_zero, List.set_cons_succ]
      have ho4 := (own_below ho3 hb4).alloc (.cells #[.string ByteArray.empty, .int .u64 3] 69)
      have hS5 := hS4.alloc hS4.size (.cells #[.string ByteArray.empty, .int .u64 3] 69)
      have hrn := Row.new W4 [.string ByteArray.empty, .int .u64 3] 69
      refine oneT 7 (by kernel_rfl) rfl (by kernel_rfl) (fun K2 hK => ?_)
      refine wp_slice1 38 69 (.tmp 24) rfl (.agg #[.string ByteArray.empty, .int .u64 3]) rfl #[.string ByteArray.empty, .int .u64 3] (fun w' => mk_st _ _ w') ?_
      refine hK.out _ _ (fun _ => hS5) ?_
      clear hK K2
      change wpAnyT _ _ _ _ _ _ _ _ (Act.put _ (some 25) _) _
      simp only [Act.put, List.setIfInBounds_toArray, List.set_cons_zero, List.set_cons_succ]
      refine oneT 8 (by kernel_rfl) rfl (by kernel_rfl) (fun K2 hK => ?_)
      refine wp_append_at (.tmp 21) (.tmp 25) 38 rfl WR.drew.heap.size 69 ti0 (.agg #[.string ByteArray.empty, .int .u64 0]) 2 24 Try.underlying38 hi hz0 hz1 hz2 rfl (by decide) v3 m xs rfl ho4 ⟨W4.heap.size, 0, none⟩ 1 1 [.string ByteArray.empty, .int .u64 3] rfl rfl
        (fun q u hu => by rw [show (⟨W4.heap.size, 0, none⟩ : Addr).add q = ⟨W4.heap.size, q, none⟩ by unfold Addr.add; split <;> simp_all]; exact hrn.cell hu) (by intro u hu; simp at hu; rcases hu with rfl | rfl <;> rfl) (by unfold maxLen; omega) (by omega) (by have := hS4.size; simp; exact Nat.le_succ_of_le this) (fun v8 W8 ho8 hg8 hat8 => ?_)
      have hS8 : Below WR.heap.size WR W8 := hS5.grown hg8 hS5.size (fun k hk => (ho4.lt k hk).1)
      refine hK.out _ _ (fun _ => hS8) ?_
      clear hK K2
      change wpAnyT _ _ _ _ _ _ _ _ (Act.put _ (some 26) _) _
      simp only [Act.put, List.setIfInBounds_toArray, List.set_cons_zero, List.set_cons_succ]
      have hw8 : Below w.heap.size w W8 := HB1.out.trans (hS8.mono HB1.out.size)
      refine oneT 9 (by kernel_rfl) rfl (by kernel_rfl) (fun K2 hK => ?_)
      refine wp_call_any (args := [.agg #[.int .i64 1, .int .i64 1, .string ByteArray.empty, .slice none 0 0, .slice none 0 0, .slice none 0 0], v8]) rfl Try.func37 (by kernel_rfl) (by kernel_rfl) rfl (HALL.out W8 v8 hw8 (own_base ho8 (Nat.zero_le _))) ?_
      rintro e W9 ⟨v9, rfl, ys, ho9, hy9, hb9⟩
      refine ⟨_, rfl, ?_⟩
      have hS9 : Below WR.heap.size WR W9 := hS8.trans (hb9.mono hS8.size)
      refine hK.out _ _ (fun _ => hS9) ?_
      clear hK K2
      change wpAnyT _ _ _ _ _ _ _ _ (Act.put _ (some 27) _) _
      simp only [Act.put, List.setIfInBounds_toArray, List.set_cons_zero, List.set_cons_succ]
      have hl9 := own_below HL'.out hS9
      obtain ⟨g9, c9, rfl⟩ := own_some ho9 (by omega)
      refine oneT 10 (by kernel_rfl) rfl (by kernel_rfl) (fun K2 hK => ?_)
      refine wp_append_at (.tmp 18) (.tmp 27) 62 rfl w.heap.size 38 tj0 (.slice none 0 0) 1 24 Try.underlying62 hj hy0 hy1 hy2 rfl (by decide) (.slice (some ⟨w.heap.size + 1, 0, none⟩) 1 1) 1 [.slice oA m oc] rfl (by simpa using hl9) ⟨g9, 0, none⟩ 1 c9 ys rfl ho9.1 (cells_own ho9) hy9 (by unfold maxLen; omega) (by omega) (by have := hS9.size; omega) (fun v10 W10 ho10 hg10 hat10 => ?_)
      refine hK.out _ _ (late_ok (by kernel_rfl)) ?_
      clear hK K2
      change wpAnyT _ _ _ _ _ _ _ _ (Act.put _ (some 28) _) _
      simp only [Act.put, List.setIfInBounds_toArray, List.set_cons_zero, List.set_cons_succ]
      refine oneT 11 (by kernel_rfl) rfl (by kernel_rfl) (fun K2 hK => ?_)
      refine wp_run (v := v10) (w' := W10) (by unfold execOp; rfl) ?_
      refine hK.out _ _ (late_ok (by kernel_rfl)) ?_
      clear hK K2
      change wpAnyT _ _ _ _ _ _ _ _ (Act.put _ (some 5) _) _
      simp only [Act.put, List.setIfInBounds_toArray, List.set_cons_zero, List.set_cons_succ]
      refine doneT (by kernel_rfl) ?_ _
      obtain ⟨A10, c10, rfl⟩ := own_sl ho10
      have HN := Lib.hid (show Pths w W10 (.slice A10 2 c10) 2 from ⟨[.slice oA m oc] ++ ys, ho10, (fun u hu => by rcases List.mem_append.1 hu with h | h; (simp at h; subst h; rfl); exact hy9 u h), (HB1.out.trans (hS9.mono HB1.out.size)).grown hg10 (by have := hS9.size; omega) (fun k hk => by simp [Value.ownBlock] at hk; omega)⟩)
      go_wp2_with fail
      go_roundw
      case rel => exact .inr ⟨rfl, ⟨_, _, rfl⟩, HN.out⟩
      case measure => simp [intOf]
    · have HPT := Lib.hid hpt
      clear hpt
      go_wp2_with fail
      go_ret
      exact ⟨_, rfl, HPT.out⟩

set_option maxHeartbeats 3200000 in
theorem all_rec (g n0 p1 i0 p0 : Nat) (m : Nat) (xs : List Value) (o : Value) (w : World) (he : ExV w g n0 p1 i0 p0) (ho : w.ownsRow 0 69 2 o m xs) (h1 : ∀ u ∈ xs, u.oneCell' = true) (hm : m ≤ 7) :
    Calls Try.prog 37 #[.agg (recA n0 p1), o] w fun e w' => ∃ v, e = .returned v ∧ Pths w w' v 3 := by
  obtain ⟨ti0, hi, hz0, hz1, hz2⟩ := info_parts st_info3
  obtain ⟨tj0, hj, hy0, hy1, hy2⟩ := info_parts sl_info3
  have HST := Lib.hid (show ∀ w' : World, Below w.heap.size w w' → Calls Try.prog 56 #[.agg (recA n0 p1), .int .i64 0] w' fun e w'' => e = .returned (.agg #[.string aB, .int .u64 0]) ∧ Below w'.heap.size w' w'' from fun w' hb => step_rec n0 p1 w' (he.below hb).nm)
  have HALL := Lib.hid (show ∀ (w' : World) (o' : Value), Below w.heap.size w w' → w'.ownsRow 0 69 2 o' (m + 1) (xs ++ [.string aB, .int .u64 0]) → Calls Try.prog 37 #[.agg #[.int .i64 6, .int .i64 0, .string ByteArray.empty, .slice none 0 0, .slice (some ⟨i0, 0, none⟩) 1 1, .slice (some ⟨p0, 0, none⟩) 1 1], o'] w' fun e w'' => ∃ v, e = .returned v ∧ Pths w' w'' v 2 from fun w' o' hb ho' => all_list g n0 p1 i0 p0 (m + 1) _ o' w' (he.below hb) ho' (fun u hu => by rcases List.mem_append.1 hu with h | h; exact h1 u h; (simp at h; rcases h with rfl | rfl <;> rfl)) (by omega))
  have hp := he.lst
  obtain ⟨oA, oc, rfl⟩ := own_sl ho
  have hb0 := Below.alloc2 w (.cells (recA n0 p1) 37) (.cells #[.slice oA m oc] 38)
  have HP := Lib.hid (ld_val _ rfl (hp.below hb0))
  have R2 := Lib.hid ((Row.new w (recA n0 p1).toList 37).alloc (.cells #[.slice oA m oc] 38))
  have HL := Lib.hid (own_base (own_one (w.alloc (.cells (recA n0 p1) 37)) (.slice oA m oc) rfl) (below_new w _).size)
  have HO := Lib.hid ho
  have H1 := Lib.hid h1
  have HB0 := Lib.hid hb0
  clear ho h1 hp hb0 he
  go_enter Try.func37, Try.ntmps37
  go_wp2_with fail
  go_loopw [5, 6, 7, 13] (fun v _ _ i wr => (i = .int .i64 0 ∧ v = .slice (some ⟨w.heap.size + 1, 0, none⟩) 1 1 ∧ wr = (w.alloc (.cells (recA n0 p1) 37)).alloc (.cells #[.slice oA m oc] 38)) ∨ (i = .int .i64 1 ∧ (∃ A c, v = .slice A 3 c) ∧ Pths w wr v 3)) (fun _ _ _ i _ => 1 - (intOf i).toNat)
  case atStart => exact .inl ⟨rfl, rfl, rfl⟩
  case round =>
    rcases hrel with ⟨rfl, rfl, rfl⟩ | ⟨rfl, ⟨vA, vc, rfl⟩, hpt⟩
    · have R7 := Lib.hid (Row.new2 w (.cells (recA n0 p1) 37) (.cells #[.slice oA m oc] 38) [.int .i64 6, .int .i64 0, .string ByteArray.empty, .slice none 0 0, .slice (some ⟨i0, 0, none⟩) 1 1, .slice (some ⟨p0, 0, none⟩) 1 1] 37)
      have R2' := Lib.hid (R2.out.alloc (.cells #[.int .i64 6, .int .i64 0, .string ByteArray.empty, .slice none 0 0, .slice (some ⟨i0, 0, none⟩) 1 1, .slice (some ⟨p0, 0, none⟩) 1 1] 37))
      have HL' := Lib.hid (HL.out.alloc (.cells #[.int .i64 6, .int .i64 0, .string ByteArray.empty, .slice none 0 0, .slice (some ⟨i0, 0, none⟩) 1 1, .slice (some ⟨p0, 0, none⟩) 1 1] 37))
      have HB1 := Lib.hid (HB0.out.trans ((below_new _ (.cells #[.int .i64 6, .int .i64 0, .string ByteArray.empty, .slice none 0 0, .slice (some ⟨i0, 0, none⟩) 1 1, .slice (some ⟨p0, 0, none⟩) 1 1] 37)).mono HB0.out.size))
      go_wp2_with (refine wpList_loadr rfl 37 (.tmp 16) rfl _ _ rfl HP.out ?_)
      generalize hWR : ((w.alloc (.cells (recA n0 p1) 37)).alloc (.cells #[.slice oA m oc] 38)).alloc (.cells #[.int .i64 6, .int .i64 0, .string ByteArray.empty, .slice none 0 0, .slice (some ⟨i0, 0, none⟩) 1 1, .slice (some ⟨p0, 0, none⟩) 1 1] 37) = WR at *
      have hszr : w.heap.size + 3 = WR.heap.size := by rw [← hWR]; simp
      clear hWR
      refine startT (fun w' => Below WR.heap.size WR w') [10] (by kernel_rfl) ?_
      have hS0 : Below WR.heap.size WR WR.drew := (Below.refl _ _).drew
      refine takeT 0 (some 18) rfl rfl (by kernel_rfl) (by kernel_rfl) (fun _ _ _ h => h) (Reads.move (x := .tmp 5) rfl rfl) hS0 ?_
      simp only [Act.put, List.setIfInBounds_toArray, List.set_cons_zero, List.set_cons_succ]
      refine takeT 1 (some 19) rfl rfl (by kernel_rfl) (by kernel_rfl) (fun _ _ _ h => h) (Reads.load 37 (.tmp 7) rfl _ _ rfl (fun w' h => ld_val _ rfl (R7.out.belowAll h).cells)) hS0 ?_
      simp only [Act.put, List.setIfInBounds_toArray, List.set_cons_zero, List.set_cons_succ]
      refine takeT 2 (some 20) rfl rfl (by kernel_rfl) (by kernel_rfl) (fun _ _ _ h => h) (Reads.move (x := .tmp 1) rfl rfl) hS0 ?_
      simp only [Act.put, List.setIfInBounds_toArray, List.set_cons_zero, List.set_cons_succ]
      refine takeT 4 (some 22) rfl rfl (by kernel_rfl) (by kernel_rfl) (fun _ _ _ h => h) (Reads.load 37 (.tmp 2) rfl _ _ rfl (fun w' h => ld_val _ rfl (R2'.out.belowAll h).cells)) hS0 ?_
      simp only [Act.put, List.setIfInBounds_toArray, List.set_cons_zero, List.set_cons_succ]
      refine takeT 5 (some 23) rfl rfl (by kernel_rfl) (by kernel_rfl) (fun _ _ _ h => h) (Reads.move (x := .tmp 6) rfl rfl) hS0 ?_
      simp only [Act.put, List.setIfInBounds_toArray, List.set_cons_zero, List.set_cons_succ]
      have hbr : Below w.heap.size w WR.drew := HB1.out.trans (hS0.mono HB1.out.size)
      have hCL := clone_st 0 (.slice oA m oc) m xs WR.drew (own_below HO.out hbr) H1.out (by omega)
      refine oneT 3 (by kernel_rfl) rfl (by kernel_rfl) (fun K2 hK => ?_)
      refine wp_call_any (args := [.slice oA m oc]) rfl Try.func25 (by kernel_rfl) (by kernel_rfl) rfl hCL ?_
      rintro e W3 ⟨v3, rfl, ho3, hb3⟩
      refine ⟨_, rfl, ?_⟩
      have hS3 : Below WR.heap.size WR W3 := hS0.trans (hb3.mono hS0.size)
      refine hK.out _ _ (fun _ => hS3) ?_
      clear hK K2
      change wpAnyT _ _ _ _ _ _ _ _ (Act.put _ (some 21) _) _
      simp only [Act.put, List.setIfInBounds_toArray, List.set_cons_zero, List.set_cons_succ]
      have hw3 : Below w.heap.size w W3 := HB1.out.trans (hS3.mono HB1.out.size)
      refine oneT 6 (by kernel_rfl) rfl (by kernel_rfl) (fun K2 hK => ?_)
      refine wp_call_any (args := [.agg (recA n0 p1), .int .i64 0]) rfl Try.func56 (by kernel_rfl) (by kernel_rfl) rfl (HST.out W3 hw3) ?_
      rintro e W4 ⟨rfl, hb4⟩
      refine ⟨_, rfl, ?_⟩
      have hS4 : Below WR.heap.size WR W4 := hS3.trans (hb4.mono hS3.size)
      refine hK.out _ _ (fun _ => hS4) ?_
      clear hK K2
      change wpAnyT _ _ _ _ _ _ _ _ (Act.put _ (some 24) _) _
      simp only [Act.put, List.setIfInBounds_toArray, List.set_cons_zero, List.set_cons_succ]
      have ho4 := (own_below ho3 hb4).alloc (.cells #[.string aB, .int .u64 0] 69)
      have hS5 := hS4.alloc hS4.size (.cells #[.string aB, .int .u64 0] 69)
      have hrn := Row.new W4 [.string aB, .int .u64 0] 69
      refine oneT 7 (by kernel_rfl) rfl (by kernel_rfl) (fun K2 hK => ?_)
      refine wp_slice1 38 69 (.tmp 24) rfl (.agg #[.string aB, .int .u64 0]) rfl #[.string aB, .int .u64 0] (fun w' => mk_st _ _ w') ?_
      refine hK.out _ _ (fun _ => hS5) ?_
      clear hK K2
      change wpAnyT _ _ _ _ _ _ _ _ (Act.put _ (some 25) _) _
      simp only [Act.put, List.setIfInBounds_toArray, List.set_cons_zero, List.set_cons_succ]
      refine oneT 8 (by kernel_rfl) rfl (by kernel_rfl) (fun K2 hK => ?_)
      refine wp_append_at (.tmp 21) (.tmp 25) 38 rfl WR.drew.heap.size 69 ti0 (.agg #[.string ByteArray.empty, .int .u64 0]) 2 24 Try.underlying38 hi hz0 hz1 hz2 rfl (by decide) v3 m xs rfl ho4 ⟨W4.heap.size, 0, none⟩ 1 1 [.string aB, .int .u64 0] rfl rfl
        (fun q u hu => by rw [show (⟨W4.heap.size, 0, none⟩ : Addr).add q = ⟨W4.heap.size, q, none⟩ by unfold Addr.add; split <;> simp_all]; exact hrn.cell hu) (by intro u hu; simp at hu; rcases hu with rfl | rfl <;> rfl) (by unfold maxLen; omega) (by omega) (by have := hS4.size; simp; exact Nat.le_succ_of_le this) (fun v8 W8 ho8 hg8 hat8 => ?_)
      have hS8 : Below WR.heap.size WR W8 := hS5.grown hg8 hS5.size (fun k hk => (ho4.lt k hk).1)
      refine hK.out _ _ (fun _ => hS8) ?_
      clear hK K2
      change wpAnyT _ _ _ _ _ _ _ _ (Act.put _ (some 26) _) _
      simp only [Act.put, List.setIfInBounds_toArray, List.set_cons_zero, List.set_cons_succ]
      have hw8 : Below w.heap.size w W8 := HB1.out.trans (hS8.mono HB1.out.size)
      refine oneT 9 (by kernel_rfl) rfl (by kernel_rfl) (fun K2 hK => ?_)
      refine wp_call_any (args := [.agg #[.int .i64 6, .int .i64 0, .string ByteArray.empty, .slice none 0 0, .slice (some ⟨i0, 0, none⟩) 1 1, .slice (some ⟨p0, 0, none⟩) 1 1], v8]) rfl Try.func37 (by kernel_rfl) (by kernel_rfl) rfl (HALL.out W8 v8 hw8 (own_base ho8 (Nat.zero_le _))) ?_
      rintro e W9 ⟨v9, rfl, ys, ho9, hy9, hb9⟩
      refine ⟨_, rfl, ?_⟩
      have hS9 : Below WR.heap.size WR W9 := hS8.trans (hb9.mono hS8.size)
      refine hK.out _ _ (fun _ => hS9) ?_
      clear hK K2
      change wpAnyT _ _ _ _ _ _ _ _ (Act.put _ (some 27) _) _
      simp only [Act.put, List.setIfInBounds_toArray, List.set_cons_zero, List.set_cons_succ]
      have hl9 := own_below HL'.out hS9
      obtain ⟨g9, c9, rfl⟩ := own_some ho9 (by omega)
      refine oneT 10 (by kernel_rfl) rfl (by kernel_rfl) (fun K2 hK => ?_)
      refine wp_append_at (.tmp 18) (.tmp 27) 62 rfl w.heap.size 38 tj0 (.slice none 0 0) 1 24 Try.underlying62 hj hy0 hy1 hy2 rfl (by decide) (.slice (some ⟨w.heap.size + 1, 0, none⟩) 1 1) 1 [.slice oA m oc] rfl (by simpa using hl9) ⟨g9, 0, none⟩ 2 c9 ys rfl ho9.1 (cells_own ho9) hy9 (by unfold maxLen; omega) (by omega) (by have := hS9.size; omega) (fun v10 W10 ho10 hg10 hat10 => ?_)
      refine hK.out _ _ (late_ok (by kernel_rfl)) ?_
      clear hK K2
      change wpAnyT _ _ _ _ _ _ _ _ (Act.put _ (some 28) _) _
      simp only [Act.put, List.setIfInBounds_toArray, List.set_cons_zero, List.set_cons_succ]
      refine oneT 11 (by kernel_rfl) rfl (by kernel_rfl) (fun K2 hK => ?_)
      refine wp_run (v := v10) (w' := W10) (by unfold execOp; rfl) ?_
      refine hK.out _ _ (late_ok (by kernel_rfl)) ?_
      clear hK K2
      change wpAnyT _ _ _ _ _ _ _ _ (Act.put _ (some 5) _) _
      simp only [Act.put, List.setIfInBounds_toArray, List.set_cons_zero, List.set_cons_succ]
      refine doneT (by kernel_rfl) ?_ _
      obtain ⟨A10, c10, rfl⟩ := own_sl ho10
      have HN := Lib.hid (show Pths w W10 (.slice A10 3 c10) 3 from ⟨[.slice oA m oc] ++ ys, ho10, (fun u hu => by rcases List.mem_append.1 hu with h | h; (simp at h; subst h; rfl); exact hy9 u h), (HB1.out.trans (hS9.mono HB1.out.size)).grown hg10 (by have := hS9.size; omega) (fun k hk => by simp [Value.ownBlock] at hk; omega)⟩)
      go_wp2_with fail
      go_roundw
      case rel => exact .inr ⟨rfl, ⟨_, _, rfl⟩, HN.out⟩
      case measure => simp [intOf]
    · have HPT := Lib.hid hpt
      clear hpt
      go_wp2_with fail
      go_ret
      exact ⟨_, rfl, HPT.out⟩

end Go.Proofs.Ytpegkalhjnldkaa
