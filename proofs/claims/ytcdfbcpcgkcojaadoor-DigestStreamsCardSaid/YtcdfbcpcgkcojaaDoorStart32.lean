/- The state ahead of the first byte. -/
import Derived.Test.YtcdfbcpcgkcojaaDoorTake32
namespace Go.Proofs.YtcdfbcpcgkcojaaDoor
set_option maxRecDepth 100000
open Go.RowKit

/-- The first words, as they stand in the program. -/
def s32 : List Nat := [7640891576956012808, 13503953896175478587, 4354685564936845355, 11912009170470909681, 5840696475078001361, 11170449401992604703, 2270897969802886507, 6620516959819538809]
/-- The first words lie in their variable. -/
def Ss32 (w : World) : Prop := ∃ c t, w.heap[0]? = some (.cells c t (0, 0)) ∧ ∀ k, k < 8 → c[k]? = some (Value.int .u64 ((s32.getD k 0 : Nat) : Int))
theorem Ss32.cell {w : World} (h : Ss32 w) {k : Nat} (hk : k < 8) : w.cell? ⟨0, k, none⟩ = some (.int .u64 ((s32.getD k 0 : Nat) : Int)) := by
  obtain ⟨c, t, h1, h2⟩ := h
  rw [cell_of_row w 0 k _ _ _ h1]
  exact h2 k hk
theorem Ss32.lt {w : World} (h : Ss32 w) : 0 < w.heap.size := by
  obtain ⟨c, t, h1, _⟩ := h
  exact (Array.getElem?_eq_some_iff.1 h1).1
theorem Ss32.keep {w w' : World} (h : Ss32 w) (e : w'.heap[0]? = w.heap[0]?) : Ss32 w' := by
  obtain ⟨c, t, h1, h2⟩ := h
  exact ⟨c, t, e.trans h1, h2⟩
theorem Ss32.below {w w' : World} {B : Nat} (h : Ss32 w) (hb : Below B w w') (hg : 0 < B) : Ss32 w' := h.keep (hb.block 0 hg)
theorem s32_lt : ∀ x ∈ s32, x < 18446744073709551616 := by decide +kernel
theorem s32_get (k : Nat) : s32.getD k 0 < 18446744073709551616 := by
  rw [List.getD]
  cases h : s32[k]? with
  | none => decide
  | some v => exact s32_lt v (List.mem_of_getElem? h)
/-- The first words of a sum. -/
def ini32 : S8x32 :=
  let f := fun k => s32.getD k 0 / 2 ^ (64 - 32)
  ⟨f 0, f 1, f 2, f 3, f 4, f 5, f 6, f 7⟩
theorem ini32_ok : ini32.ok := by unfold S8x32.ok; decide +kernel
/-- The state ahead of the first byte. -/
def beg32 : S8x32 × List Nat × Nat := (ini32, List.replicate 16 0, 0)
theorem beg32_good : Gd32 beg32 := ⟨ini32_ok, by rfl, by intro x hx; rw [List.eq_of_mem_replicate hx]; decide⟩

/-- The words, as far as they are laid. -/
def lay32 (k : Nat) : List Nat := ini32.list.take k ++ List.replicate (8 - k) 0
theorem lay32_len {k : Nat} (h : k ≤ 8) : (lay32 k).length = 8 := by
  have : ini32.list.length = 8 := rfl
  simp [lay32, this]
  omega
theorem lay32_set {k : Nat} (h : k < 8) : (lay32 k).set k (s32.getD k 0 / 2 ^ (64 - 32)) = lay32 (k + 1) :=
  match k, h with
  | 0, _ => by decide +kernel
  | 1, _ => by decide +kernel
  | 2, _ => by decide +kernel
  | 3, _ => by decide +kernel
  | 4, _ => by decide +kernel
  | 5, _ => by decide +kernel
  | 6, _ => by decide +kernel
  | 7, _ => by decide +kernel
  | _ + 8, h => by omega
/-- The cells of a state of nothing. -/
theorem zeroSt32 : (Us32 (lay32 0 ++ List.replicate 16 0) ++ [Value.int .i64 0]).toArray = #[Value.int .u32 0, Value.int .u32 0, Value.int .u32 0, Value.int .u32 0, Value.int .u32 0, Value.int .u32 0, Value.int .u32 0, Value.int .u32 0, Value.int .u32 0, Value.int .u32 0, Value.int .u32 0, Value.int .u32 0, Value.int .u32 0, Value.int .u32 0, Value.int .u32 0, Value.int .u32 0, Value.int .u32 0, Value.int .u32 0, Value.int .u32 0, Value.int .u32 0, Value.int .u32 0, Value.int .u32 0, Value.int .u32 0, Value.int .u32 0, Value.int .i64 0] := by rfl
theorem begRow32 (w : World) (o : Obj) : Tb32 ((w.alloc o).alloc (.cells #[Value.int .u32 0, Value.int .u32 0, Value.int .u32 0, Value.int .u32 0, Value.int .u32 0, Value.int .u32 0, Value.int .u32 0, Value.int .u32 0, Value.int .u32 0, Value.int .u32 0, Value.int .u32 0, Value.int .u32 0, Value.int .u32 0, Value.int .u32 0, Value.int .u32 0, Value.int .u32 0, Value.int .u32 0, Value.int .u32 0, Value.int .u32 0, Value.int .u32 0, Value.int .u32 0, Value.int .u32 0, Value.int .u32 0, Value.int .u32 0, Value.int .i64 0] 66)) (w.heap.size + 1) 66 (lay32 0) (List.replicate 16 0) 0 := by
  unfold Tb32
  rw [zeroSt32]
  exact heap_alloc2_new _ _ _
theorem topS32 (k : Nat) (w : World) : Calls Tryd.prog 42 #[.int .u64 ((s32.getD k 0 : Nat) : Int)] w fun e w' => e = .returned (.int .u32 ((s32.getD k 0 / 2 ^ (64 - 32) : Nat) : Int)) ∧ w' = w := top32 _ w (s32_get k)

set_option maxHeartbeats 800000 in
theorem start32 (w : World) (hs : Ss32 w) :
    Calls Tryd.prog 29 #[] w fun e w' => e = .returned (.agg (Us32 (beg32.1.list ++ List.replicate 16 0) ++ [Value.int .i64 0]).toArray) ∧ Below w.heap.size w w' := by
  have HS := Lib.hid hs
  have h0 : 0 < w.heap.size := hs.lt
  have H0 := Lib.hid h0
  clear hs h0
  go_enter Tryd.func29, Tryd.ntmps29
  go_wp2_with fail
  go_loopw [3] (fun i wr => ∃ k : Nat, k ≤ 8 ∧ i = .int .i64 k ∧ Tb32 wr (w.heap.size + 1) 66 (lay32 k) (List.replicate 16 0) 0 ∧ Below w.heap.size w wr ∧ wr.heap[w.heap.size]? = some (.cells #[Value.int .u32 0, Value.int .u32 0, Value.int .u32 0, Value.int .u32 0, Value.int .u32 0, Value.int .u32 0, Value.int .u32 0, Value.int .u32 0, Value.int .u32 0, Value.int .u32 0, Value.int .u32 0, Value.int .u32 0, Value.int .u32 0, Value.int .u32 0, Value.int .u32 0, Value.int .u32 0, Value.int .u32 0, Value.int .u32 0, Value.int .u32 0, Value.int .u32 0, Value.int .u32 0, Value.int .u32 0, Value.int .u32 0, Value.int .u32 0, Value.int .i64 0] 66 (0, 0))) (fun i _ => 8 - (intOf i).toNat)
  case atStart => exact ⟨0, by decide, rfl, begRow32 _ _, ((Below.refl _ _).alloc (Nat.le_refl _) _).alloc (by simp) _, (Below.heap_alloc _ _ _ (by simp)).trans (heap_alloc_new _ _)⟩
  case round =>
    obtain ⟨k, hk, rfl, hat, hbe, hres⟩ := hrel
    by_cases hlt : k < 8
    · have hsw := HS.out.cell hlt
      have hsr := (hbe.cell (p := ⟨0, k, none⟩) H0.out).trans hsw
      have k1 := hat.cell (k := k) (by rw [lay32_len hk]; exact hlt)
      have kf := hat.free k
      have st := hat.set (k := k) (by rw [lay32_len hk]; exact hlt) (s32.getD k 0 / 2 ^ (64 - 32))
      rw [lay32_set hlt] at st
      have htop : ∀ w', Calls Tryd.prog 42 #[.int .u64 ((s32.getD k 0 : Nat) : Int)] w' fun e w'' => e = .returned (.int .u32 ((s32.getD k 0 / 2 ^ (64 - 32) : Nat) : Int)) ∧ w'' = w' := topS32 k
      generalize s32.getD k 0 / 2 ^ (64 - 32) = z at *
      generalize s32.getD k 0 = y at *
      generalize (lay32 k).getD k 0 = v at *
      have HST := Lib.hid st
      have HBE := Lib.hid hbe
      have HRES := Lib.hid hres
      have HTOP := Lib.hid htop
      have bi : (k : Int) < 8 := by omega
      have b0 : (0 : Int) ≤ (k : Int) := by omega
      clear st hbe hres htop hat hsw
      go_wp2_with fail
      refine (HTOP.out _).mono ?_
      rintro e w3 ⟨rfl, rfl⟩
      go_wp2_with fail
      go_roundw
      case rel =>
        refine ⟨k + 1, by omega, by go_num, HST.out, HBE.out.setCell (by simp) _, ?_⟩
        rw [Below.heap_setCell _ _ _ _ (by simp)]
        exact HRES.out
      case measure => simp [intOf]; omega
    · have hie : k = 8 := by omega
      subst hie
      have hcell := hat
      unfold Tb32 at hcell
      have hw : lay32 8 = beg32.1.list := by decide +kernel
      rw [hw] at hcell
      have HCELL := Lib.hid hcell
      have HBE := Lib.hid hbe
      have HRES := Lib.hid hres
      have hsz : (Tryd.prog.info? 66).map (·.size) = some (Us32 (beg32.1.list ++ List.replicate 16 0) ++ [Value.int .i64 0]).toArray.size := by kernel_rfl
      have hold : (#[Value.int .u32 0, Value.int .u32 0, Value.int .u32 0, Value.int .u32 0, Value.int .u32 0, Value.int .u32 0, Value.int .u32 0, Value.int .u32 0, Value.int .u32 0, Value.int .u32 0, Value.int .u32 0, Value.int .u32 0, Value.int .u32 0, Value.int .u32 0, Value.int .u32 0, Value.int .u32 0, Value.int .u32 0, Value.int .u32 0, Value.int .u32 0, Value.int .u32 0, Value.int .u32 0, Value.int .u32 0, Value.int .u32 0, Value.int .u32 0, Value.int .i64 0] : Array Value).size = (Us32 (beg32.1.list ++ List.replicate 16 0) ++ [Value.int .i64 0]).toArray.size := by kernel_rfl
      have hone : (Us32 (beg32.1.list ++ List.replicate 16 0) ++ [Value.int .i64 0]).toArray.all (·.oneCell') = true := by kernel_rfl
      have HSZ := Lib.hid hsz
      have HOLD := Lib.hid hold
      have HONE := Lib.hid hone
      clear hcell hat hbe hres hsz hold hone hw
      go_wp2_with (first
        | (refine wpList_load_row rfl 66 (.tmp 1) rfl (w.heap.size + 1) rfl 66 _ (0, 0) _ HCELL.out (by rfl) rfl HSZ.out ?_)
        | (refine wpList_store_row rfl 66 (.tmp 0) (.tmp 14) rfl w.heap.size _ rfl rfl 66 _ HRES.out HSZ.out HOLD.out HONE.out ?_))
      have hgot := setRow_heap wr w.heap.size _ (Us32 (beg32.1.list ++ List.replicate 16 0) ++ [Value.int .i64 0]).toArray _ _ HRES.out
      refine bodyPost_ret (results_cell_row (by rfl) _ _ w.heap.size _ _ _ _ (by rfl) hgot (by rfl) rfl HSZ.out) rfl ?_
      exact ⟨rfl, below_setRow HBE.out (Nat.le_refl _) _⟩

end Go.Proofs.YtcdfbcpcgkcojaaDoor
