/- line.compare, line.Less. -/
import Derived.Test.YtocgeemjdlnabaaLa
import Derived.Test.YtocgeemjdlnabaaEb
import Derived.Deep.MidRow
namespace Go.Proofs.Ytocgeemjdlnabaa
set_option maxRecDepth 100000
set_option linter.unusedSimpArgs false
set_option linter.unusedVariables false
open Go.RowKit

theorem load_at {P : Program} {W : World} {g o : Nat} (a : Hs) (h : W.rangeAt g o a.c) : (Extern.Bytes.loadBytes ⟨g, o, none⟩ 32 .empty).run P W = .ok ⟨a.1.toArray⟩ W := by
  have h1 := Lib.run_loadBytesX (P := P) W (ints a.1) ⟨g, o, none⟩ .empty (fun j x hj => by
    have e : (⟨g, o, none⟩ : Addr).add j = ⟨g, o + j, none⟩ := by unfold Addr.add; split <;> simp_all
    rw [e]
    refine h j _ ?_
    unfold Hs.c
    rw [Bs_get]
    unfold ints at hj
    rw [List.getElem?_map] at hj
    cases hc : a.1[j]? with
    | none => rw [hc] at hj; cases hj
    | some c => rw [hc] at hj; cases hj; rfl)
  have hl : (ints a.1).length = 32 := by unfold ints; rw [List.length_map, a.2]
  rw [hl, bytes_ints] at h1
  rw [h1]
  congr 1
  apply ByteArray.ext
  show (#[] : Array UInt8) ++ a.1.toArray = a.1.toArray
  simp
theorem run_cmpat {P : Program} {W : World} {g h o p : Nat} (a b : Hs) (ha : W.rangeAt g o a.c) (hb : W.rangeAt h p b.c) : (Extern.BytealgCompare.compare #[.slice (some ⟨g, o, none⟩) 32 32, .slice (some ⟨h, p, none⟩) 32 32]).run P W = .ok (.int .i64 (Hs.cf a b)) W := by
  change Sem.run P (do pure (goInt (Extern.BytealgCompare.cmp (← Extern.Bytes.loadBytes ⟨g, o, none⟩ 32 .empty) (← Extern.Bytes.loadBytes ⟨h, p, none⟩ 32 .empty)))) W = _
  simp only [Sem.run_bind, Sem.run_pure, load_at a ha, load_at b hb, Result.andThen]
  rw [Lib.cmp_eq]
  show Result.ok (Value.int .i64 (Lib.compareBytes a.1.toArray.toList b.1.toArray.toList)) W = _
  rw [List.toList_toArray, List.toList_toArray, cmp_num (a.2.trans b.2.symm)]
  rfl
theorem bcmp_at (a b : Hs) (g h o p : Nat) (W : World) (ha : W.rangeAt g o a.c) (hb : W.rangeAt h p b.c) :
    Calls Try.prog 34 #[.slice (some ⟨g, o, none⟩) 32 32, .slice (some ⟨h, p, none⟩) 32 32] W fun e w' => e = .returned (.int .i64 (Hs.cf a b)) ∧ w' = W := by
  have hr := run_cmpat (P := Try.prog) a b ha hb
  generalize Hs.cf a b = r at *
  have HR := Lib.hid hr
  clear hr ha hb
  go_enter Try.func34, Try.ntmps34
  go_wp2
  rw [run_callFunc_extern Try.func47 (by kernel_rfl) (by kernel_rfl) (by kernel_rfl) (e := Extern.BytealgCompare.compare) (by kernel_rfl), HR.out]
  simp only [Result.andThen]
  rw [Oper.upon_value]
  go_wp2
  go_ret
  exact ⟨rfl, rfl⟩
theorem isnan_any (x : Int) (W : World) : Calls Try.prog 46 #[.int .i64 x] W fun e w' => e = .returned (.bool false) ∧ w' = W := by
  go_enter Try.func46, Try.ntmps46
  go_wp2_with fail
  go_ret
  exact ⟨by simp, rfl⟩
theorem ccmp_any (x y : Int) (W : World) : Calls Try.prog 33 #[.int .i64 x, .int .i64 y] W fun e w' => e = .returned (.int .i64 (Lib.compareInt x y)) ∧ w' = W := by
  have HN := Lib.hid isnan_any
  go_enter Try.func33, Try.ntmps33
  go_wp2_with fail
  refine (HN.out _ _).mono ?_
  rintro e w1 ⟨rfl, rfl⟩
  go_wp2_with fail
  refine (HN.out _ _).mono ?_
  rintro e w1 ⟨rfl, rfl⟩
  by_cases h1 : x < y
  · have hc : Lib.compareInt x y = -1 := by unfold Lib.compareInt; rw [if_pos h1]
    have HC := Lib.hid hc
    clear hc
    go_wp2_with fail
    go_ret
    exact ⟨by rw [HC.out]; rfl, rfl⟩
  · by_cases h2 : y < x
    · have hc : Lib.compareInt x y = 1 := by unfold Lib.compareInt; rw [if_neg h1, if_pos h2]
      have HC := Lib.hid hc
      clear hc
      go_wp2_with fail
      go_ret
      exact ⟨by rw [HC.out]; rfl, rfl⟩
    · have hc : Lib.compareInt x y = 0 := by unfold Lib.compareInt; rw [if_neg h1, if_neg h2]
      have HC := Lib.hid hc
      clear hc
      go_wp2_with fail
      go_ret
      exact ⟨by rw [HC.out]; rfl, rfl⟩
def orI (x y : Int) : Int := if x = 0 then y else x
theorem or_any (x y : Int) (g : Nat) (W : World) (h0 : W.cell? ⟨g, 0, none⟩ = some (.int .i64 x)) (h1 : W.cell? ⟨g, 1, none⟩ = some (.int .i64 y)) :
    Calls Try.prog 32 #[.slice (some ⟨g, 0, none⟩) 2 2] W fun e w' => e = .returned (.int .i64 (orI x y)) ∧ w' = W := by
  by_cases hx : x = 0
  · have HX := Lib.hid (show orI x y = y by unfold orI; rw [if_pos hx])
    rw [HX.out]
    subst hx
    clear HX
    by_cases hy : y = 0
    · subst hy
      skip
      go_enter Try.func32, Try.ntmps32
      go_wp2_with fail
      refine wp_loop_rounds 3 ?_
      rw [rounds_succ]
      go_wp2_with fail
      rw [rounds_succ]
      go_wp2_with fail
      rw [rounds_succ]
      go_wp2_with fail
      go_ret
      exact ⟨rfl, rfl⟩
    · skip
      go_enter Try.func32, Try.ntmps32
      go_wp2_with fail
      refine wp_loop_rounds 3 ?_
      rw [rounds_succ]
      go_wp2_with fail
      rw [rounds_succ]
      go_wp2_with fail
      go_ret
      exact ⟨rfl, rfl⟩
  · have HX := Lib.hid (show orI x y = x by unfold orI; rw [if_neg hx])
    rw [HX.out]
    clear HX
    go_enter Try.func32, Try.ntmps32
    go_wp2_with fail
    refine wp_loop_rounds 3 ?_
    rw [rounds_succ]
    go_wp2_with fail
    go_ret
    exact ⟨rfl, rfl⟩
theorem mk_one (m : Mk) (h : Nat) (T : TypeId) (W : World) (R : Row W h T (Mk.c m)) : W.cell? ⟨h, 0, none⟩ = some (.int .i64 m.1) ∧ W.rangeAt h 1 m.2.c :=
  ⟨R.cell rfl, fun j v hv => R.cell (by unfold Mk.c; rw [Nat.add_comm, List.getElem?_cons_succ]; exact hv)⟩
theorem grow3 (W : World) (o o' o'' : Obj) : ((W.alloc o).alloc o').drew.alloc o'' = Sort.grow (W.drewN 1) #[o, o', o''] := by
  rw [grow2, Sort.alloc_eq_grow, Sort.grow_grow]
  rfl
theorem compare_anyM (a b : Mk) (W : World) :
    Calls Try.prog 24 #[.agg (Mk.c a).toArray, .agg (Mk.c b).toArray] W fun e w' => e = .returned (.int .i64 (Mk.cf a b)) ∧ ∃ q os', w' = Sort.grow (W.drewN q) os' := by
  have R1 : Row ((W.alloc (.cells (Mk.c a).toArray 26)).alloc (.cells (Mk.c b).toArray 26)).drew W.heap.size 26 (Mk.c a) := ((Row.new W (Mk.c a) 26).belowAll (below_newE _ (.cells (Mk.c b).toArray 26))).drewN 1
  have R2 : Row ((W.alloc (.cells (Mk.c a).toArray 26)).alloc (.cells (Mk.c b).toArray 26)).drew (W.heap.size + 1) 26 (Mk.c b) := (row_new1E W (.cells (Mk.c a).toArray 26) (Mk.c b) 26).drewN 1
  obtain ⟨c1, r1⟩ := mk_one a _ _ _ R1
  obtain ⟨c2, r2⟩ := mk_one b _ _ _ R2
  have HC := Lib.hid (bcmp_at a.2 b.2 _ _ 1 1 _ r1 r2)
  have HD := Lib.hid (ccmp_any a.1 b.1)
  have HO := Lib.hid or_any
  have HG := Lib.hid (grow3 W (.cells (Mk.c a).toArray 26) (.cells (Mk.c b).toArray 26))
  have HE := Lib.hid (show Mk.cf a b = orI (Lib.compareInt a.1 b.1) (Hs.cf a.2 b.2) from Mk.cf_eq a b)
  clear R1 R2 r1 r2
  generalize hd : a.1 = da at *
  generalize he : b.1 = db at *
  generalize hr : Hs.cf a.2 b.2 = r at *
  generalize hr2 : Mk.cf a b = r2 at *
  generalize hr3 : Lib.compareInt da db = r3 at *
  generalize hx : (Mk.c a).toArray = x at *
  generalize hy : (Mk.c b).toArray = y at *
  have d1 : ((W.alloc (.cells x 26)).alloc (.cells y 26)).drew.cell? ⟨W.heap.size, 0, none⟩ = some (.int .i64 da) := c1
  have d2 : ((W.alloc (.cells x 26)).alloc (.cells y 26)).drew.cell? ⟨W.heap.size + 1, 0, none⟩ = some (.int .i64 db) := c2
  have e1 : ∀ o, (((W.alloc (.cells x 26)).alloc (.cells y 26)).alloc o).drew.cell? ⟨W.heap.size, 0, none⟩ = some (.int .i64 da) := fun o => Lib.cell?_alloc_some (W := ((W.alloc (.cells x 26)).alloc (.cells y 26)).drew) o d1
  have e2 : ∀ o, (((W.alloc (.cells x 26)).alloc (.cells y 26)).alloc o).drew.cell? ⟨W.heap.size + 1, 0, none⟩ = some (.int .i64 db) := fun o => Lib.cell?_alloc_some (W := ((W.alloc (.cells x 26)).alloc (.cells y 26)).drew) o d2
  clear c1 c2
  go_enter Try.func24, Try.ntmps24
  go_wp2_with fail
  go_region_held3 (fun w' => w'.cell? ⟨W.heap.size, 0, none⟩ = some (.int .i64 da) ∧ w'.cell? ⟨W.heap.size + 1, 0, none⟩ = some (.int .i64 db)) (go_keep) (first | (go_at_call 34; go_loud (refine HC.out.mono ?_; rintro e w' ⟨rfl, rfl⟩)) | (go_at_call 33; go_loud (refine (HD.out _).mono ?_; rintro e w' ⟨rfl, rfl⟩)) | (go_at_call 32; go_loud (refine (HO.out r3 r _ _ (by simp [World.cell?_alloc_at]) (by simp [World.cell?_alloc_at])).mono ?_; rintro e w' ⟨rfl, rfl⟩)))
  go_wp2_with fail
  go_ret
  refine ⟨by rw [HE.out]; rfl, 1, _, HG.out _⟩

end Go.Proofs.Ytocgeemjdlnabaa
