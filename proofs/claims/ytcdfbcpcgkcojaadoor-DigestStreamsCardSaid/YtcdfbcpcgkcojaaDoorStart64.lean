/- The state ahead of the first byte. -/
import Derived.Test.YtcdfbcpcgkcojaaDoorTake64
namespace Go.Proofs.YtcdfbcpcgkcojaaDoor
set_option maxRecDepth 100000
open Go.RowKit

/-- The first words, as they stand in the program. -/
def s64 : List Nat := [7640891576956012808, 13503953896175478587, 4354685564936845355, 11912009170470909681, 5840696475078001361, 11170449401992604703, 2270897969802886507, 6620516959819538809]
/-- The first words lie in their variable. -/
def Ss64 (w : World) : Prop := ∃ c t, w.heap[0]? = some (.cells c t (0, 0)) ∧ ∀ k, k < 8 → c[k]? = some (Value.int .u64 ((s64.getD k 0 : Nat) : Int))
theorem Ss64.cell {w : World} (h : Ss64 w) {k : Nat} (hk : k < 8) : w.cell? ⟨0, k, none⟩ = some (.int .u64 ((s64.getD k 0 : Nat) : Int)) := by
  obtain ⟨c, t, h1, h2⟩ := h
  rw [cell_of_row w 0 k _ _ _ h1]
  exact h2 k hk
theorem Ss64.lt {w : World} (h : Ss64 w) : 0 < w.heap.size := by
  obtain ⟨c, t, h1, _⟩ := h
  exact (Array.getElem?_eq_some_iff.1 h1).1
theorem Ss64.keep {w w' : World} (h : Ss64 w) (e : w'.heap[0]? = w.heap[0]?) : Ss64 w' := by
  obtain ⟨c, t, h1, h2⟩ := h
  exact ⟨c, t, e.trans h1, h2⟩
theorem Ss64.below {w w' : World} {B : Nat} (h : Ss64 w) (hb : Below B w w') (hg : 0 < B) : Ss64 w' := h.keep (hb.block 0 hg)
theorem s64_lt : ∀ x ∈ s64, x < 18446744073709551616 := by decide +kernel
theorem s64_get (k : Nat) : s64.getD k 0 < 18446744073709551616 := by
  rw [List.getD]
  cases h : s64[k]? with
  | none => decide
  | some v => exact s64_lt v (List.mem_of_getElem? h)
/-- The first words of a sum. -/
def ini64 : S8x64 :=
  let f := fun k => s64.getD k 0 / 2 ^ (64 - 64)
  ⟨f 0, f 1, f 2, f 3, f 4, f 5, f 6, f 7⟩
theorem ini64_ok : ini64.ok := by unfold S8x64.ok; decide +kernel
/-- The state ahead of the first byte. -/
def beg64 : S8x64 × List Nat × Nat := (ini64, List.replicate 16 0, 0)
theorem beg64_good : Gd64 beg64 := ⟨ini64_ok, by rfl, by intro x hx; rw [List.eq_of_mem_replicate hx]; decide⟩

/-- The words, as far as they are laid. -/
def lay64 (k : Nat) : List Nat := ini64.list.take k ++ List.replicate (8 - k) 0
theorem lay64_len {k : Nat} (h : k ≤ 8) : (lay64 k).length = 8 := by
  have : ini64.list.length = 8 := rfl
  simp [lay64, this]
  omega
theorem lay64_set {k : Nat} (h : k < 8) : (lay64 k).set k (s64.getD k 0 / 2 ^ (64 - 64)) = lay64 (k + 1) :=
  match k, h with
  | 0, _ => by decide +kernel
  | 1, _ => by decide +kernel
  | 2, _ => by decide +kernel
  | 3, _ => by decide +kernel
  | 4, _ => by decide +kernel
  | 5, _ => by decide +kernel
  | 6, _ => by decide +kernel
  | 7, _ => by decide +kernel
  | _ + 8, h => by omega
/-- The cells of a state of nothing. -/
theorem zeroSt64 : (Us64 (lay64 0 ++ List.replicate 16 0) ++ [Value.int .i64 0]).toArray = #[Value.int .u64 0, Value.int .u64 0, Value.int .u64 0, Value.int .u64 0, Value.int .u64 0, Value.int .u64 0, Value.int .u64 0, Value.int .u64 0, Value.int .u64 0, Value.int .u64 0, Value.int .u64 0, Value.int .u64 0, Value.int .u64 0, Value.int .u64 0, Value.int .u64 0, Value.int .u64 0, Value.int .u64 0, Value.int .u64 0, Value.int .u64 0, Value.int .u64 0, Value.int .u64 0, Value.int .u64 0, Value.int .u64 0, Value.int .u64 0, Value.int .i64 0] := by rfl
theorem begRow64 (w : World) (o : Obj) : Tb64 ((w.alloc o).alloc (.cells #[Value.int .u64 0, Value.int .u64 0, Value.int .u64 0, Value.int .u64 0, Value.int .u64 0, Value.int .u64 0, Value.int .u64 0, Value.int .u64 0, Value.int .u64 0, Value.int .u64 0, Value.int .u64 0, Value.int .u64 0, Value.int .u64 0, Value.int .u64 0, Value.int .u64 0, Value.int .u64 0, Value.int .u64 0, Value.int .u64 0, Value.int .u64 0, Value.int .u64 0, Value.int .u64 0, Value.int .u64 0, Value.int .u64 0, Value.int .u64 0, Value.int .i64 0] 58)) (w.heap.size + 1) 58 (lay64 0) (List.replicate 16 0) 0 := by
  unfold Tb64
  rw [zeroSt64]
  exact heap_alloc2_new _ _ _
theorem topS64 (k : Nat) (w : World) : Calls Tryd.prog 36 #[.int .u64 ((s64.getD k 0 : Nat) : Int)] w fun e w' => e = .returned (.int .u64 ((s64.getD k 0 / 2 ^ (64 - 64) : Nat) : Int)) ∧ w' = w := top64 _ w (s64_get k)

set_option maxHeartbeats 800000 in
theorem start64 (w : World) (hs : Ss64 w) :
    Calls Tryd.prog 24 #[] w fun e w' => e = .returned (.agg (Us64 (beg64.1.list ++ List.replicate 16 0) ++ [Value.int .i64 0]).toArray) ∧ Below w.heap.size w w' := by
  have HS := Lib.hid hs
  have h0 : 0 < w.heap.size := hs.lt
  have H0 := Lib.hid h0
  clear hs h0
  go_enter Tryd.func24, Tryd.ntmps24
  go_wp2_with fail
  go_loopw [3] (fun i wr => ∃ k : Nat, k ≤ 8 ∧ i = .int .i64 k ∧ Tb64 wr (w.heap.size + 1) 58 (lay64 k) (List.replicate 16 0) 0 ∧ Below w.heap.size w wr ∧ wr.heap[w.heap.size]? = some (.cells #[Value.int .u64 0, Value.int .u64 0, Value.int .u64 0, Value.int .u64 0, Value.int .u64 0, Value.int .u64 0, Value.int .u64 0, Value.int .u64 0, Value.int .u64 0, Value.int .u64 0, Value.int .u64 0, Value.int .u64 0, Value.int .u64 0, Value.int .u64 0, Value.int .u64 0, Value.int .u64 0, Value.int .u64 0, Value.int .u64 0, Value.int .u64 0, Value.int .u64 0, Value.int .u64 0, Value.int .u64 0, Value.int .u64 0, Value.int .u64 0, Value.int .i64 0] 58 (0, 0))) (fun i _ => 8 - (intOf i).toNat)
  case atStart => exact ⟨0, by decide, rfl, begRow64 _ _, ((Below.refl _ _).alloc (Nat.le_refl _) _).alloc (by simp) _, (Below.heap_alloc _ _ _ (by simp)).trans (heap_alloc_new _ _)⟩
  case round =>
    obtain ⟨k, hk, rfl, hat, hbe, hres⟩ := hrel
    by_cases hlt : k < 8
    · have hsw := HS.out.cell hlt
      have hsr := (hbe.cell (p := ⟨0, k, none⟩) H0.out).trans hsw
      have k1 := hat.cell (k := k) (by rw [lay64_len hk]; exact hlt)
      have kf := hat.free k
      have st := hat.set (k := k) (by rw [lay64_len hk]; exact hlt) (s64.getD k 0 / 2 ^ (64 - 64))
      rw [lay64_set hlt] at st
      have htop : ∀ w', Calls Tryd.prog 36 #[.int .u64 ((s64.getD k 0 : Nat) : Int)] w' fun e w'' => e = .returned (.int .u64 ((s64.getD k 0 / 2 ^ (64 - 64) : Nat) : Int)) ∧ w'' = w' := topS64 k
      generalize s64.getD k 0 / 2 ^ (64 - 64) = z at *
      generalize s64.getD k 0 = y at *
      generalize (lay64 k).getD k 0 = v at *
      have HST := Lib.hid st
      have HBE := Lib.hid hbe
      have HRES := Lib.hid hres
      have HTOP := Lib.hid htop
      have bi : (k : Int) < 8 := by omega
      have b0 : (0 : Int) ≤ (k : Int) := by omega
      clear st hbe hres htop hat hsw
      go_wp2_with fail
      refine (HTOP.out _).mono ?_
      rintro e w3 ⟨rfl, rfl⟩
      go_wp2_with fail
      go_roundw
      case rel =>
        refine ⟨k + 1, by omega, by go_num, HST.out, HBE.out.setCell (by simp) _, ?_⟩
        rw [Below.heap_setCell _ _ _ _ (by simp)]
        exact HRES.out
      case measure => simp [intOf]; omega
    · have hie : k = 8 := by omega
      subst hie
      have hcell := hat
      unfold Tb64 at hcell
      have hw : lay64 8 = beg64.1.list := by decide +kernel
      rw [hw] at hcell
      have HCELL := Lib.hid hcell
      have HBE := Lib.hid hbe
      have HRES := Lib.hid hres
      have hsz : (Tryd.prog.info? 58).map (·.size) = some (Us64 (beg64.1.list ++ List.replicate 16 0) ++ [Value.int .i64 0]).toArray.size := by kernel_rfl
      have hold : (#[Value.int .u64 0, Value.int .u64 0, Value.int .u64 0, Value.int .u64 0, Value.int .u64 0, Value.int .u64 0, Value.int .u64 0, Value.int .u64 0, Value.int .u64 0, Value.int .u64 0, Value.int .u64 0, Value.int .u64 0, Value.int .u64 0, Value.int .u64 0, Value.int .u64 0, Value.int .u64 0, Value.int .u64 0, Value.int .u64 0, Value.int .u64 0, Value.int .u64 0, Value.int .u64 0, Value.int .u64 0, Value.int .u64 0, Value.int .u64 0, Value.int .i64 0] : Array Value).size = (Us64 (beg64.1.list ++ List.replicate 16 0) ++ [Value.int .i64 0]).toArray.size := by kernel_rfl
      have hone : (Us64 (beg64.1.list ++ List.replicate 16 0) ++ [Value.int .i64 0]).toArray.all (·.oneCell') = true := by kernel_rfl
      have HSZ := Lib.hid hsz
      have HOLD := Lib.hid hold
      have HONE := Lib.hid hone
      clear hcell hat hbe hres hsz hold hone hw
      go_wp2_with (first
        | (refine wpList_load_row rfl 58 (.tmp 1) rfl (w.heap.size + 1) rfl 58 _ (0, 0) _ HCELL.out (by rfl) rfl HSZ.out ?_)
        | (refine wpList_store_row rfl 58 (.tmp 0) (.tmp 14) rfl w.heap.size _ rfl rfl 58 _ HRES.out HSZ.out HOLD.out HONE.out ?_))
      have hgot := setRow_heap wr w.heap.size _ (Us64 (beg64.1.list ++ List.replicate 16 0) ++ [Value.int .i64 0]).toArray _ _ HRES.out
      refine bodyPost_ret (results_cell_row (by rfl) _ _ w.heap.size _ _ _ _ (by rfl) hgot (by rfl) rfl HSZ.out) rfl ?_
      exact ⟨rfl, below_setRow HBE.out (Nat.le_refl _) _⟩

end Go.Proofs.YtcdfbcpcgkcojaaDoor
