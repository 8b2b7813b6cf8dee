import Derived.Deep.LoopGhost
import Derived.Test.YtnpjecdodhkplaaGreatDoorSD
import Derived.Test.YtnpjecdodhkplaaGreatDoorSF
namespace Go.Proofs.YtnpjecdodhkplaaGreatDoor
set_option maxRecDepth 100000
open Go.RowKit
open List renaming setIfInBounds_toArray → yA, set_cons_zero → yB, set_cons_succ → yC
open Lib renaming hid → yH
def s64 : List Nat := [7640891576956012808, 13503953896175478587, 4354685564936845355, 11912009170470909681, 5840696475078001361, 11170449401992604703, 2270897969802886507, 6620516959819538809]
def Ss64 (w : World) : Prop := ∃ c t, w.heap[4]? = some (.cells c t (0, 0)) ∧ ∀ k, k < 8 → c[k]? = some (Value.int .u64 ((s64.getD k 0 : Nat) : Int))
theorem Ss64.cell {w : World} (h : Ss64 w) {k : Nat} (hk : k < 8) : w.cell? ⟨4, k, none⟩ = some (.int .u64 ((s64.getD k 0 : Nat) : Int)) := by
 obtain ⟨c, t, h1, h2⟩ := h
 rw [cell_of_row w 4 k _ _ _ h1]
 exact h2 k hk
theorem Ss64.lt {w : World} (h : Ss64 w) : 4 < w.heap.size := by
 obtain ⟨c, t, h1, _⟩ := h
 exact (Array.getElem?_eq_some_iff.1 h1).1
theorem Ss64.keep {w w' : World} (h : Ss64 w) (e : w'.heap[4]? = w.heap[4]?) : Ss64 w' := by
 obtain ⟨c, t, h1, h2⟩ := h
 exact ⟨c, t, e.trans h1, h2⟩
theorem Ss64.below {w w' : World} {B : Nat} (h : Ss64 w) (hb : Below B w w') (hg : 4 < B) : Ss64 w' := h.keep (hb.block 4 hg)
theorem s64_lt : ∀ x ∈ s64, x < 18446744073709551616 := by decide +kernel
theorem s64_get (k : Nat) : s64.getD k 0 < 18446744073709551616 := by
 rw [List.getD]
 cases h : s64[k]? with
 | none => decide
 | some v => exact s64_lt v (List.mem_of_getElem? h)
def ini64 : S8x64 :=
 let f := fun k => s64.getD k 0 / 2 ^ (64 - 64)
 ⟨f 0, f 1, f 2, f 3, f 4, f 5, f 6, f 7⟩
theorem ini64_ok : ini64.ok := by unfold S8x64.ok; decide +kernel
def beg64 : S8x64 × List Nat × Nat := (ini64, List.replicate 16 0, 0)
theorem beg64_good : Gd64 beg64 := ⟨ini64_ok, by rfl, by intro x hx; rw [List.eq_of_mem_replicate hx]; decide⟩
def lay64 (k : Nat) : List Nat := ini64.list.take k ++ List.replicate (8 - k) 0
theorem lay64_len {k : Nat} (h : k ≤ 8) : (lay64 k).length = 8 := by
 have : ini64.list.length = 8 := rfl
 simp [lay64, this]
 omega
theorem lay64_set {k : Nat} (h : k < 8) : (lay64 k).set k (s64.getD k 0 / 2 ^ (64 - 64)) = lay64 (k + 1) :=
 match k, h with
 | 0, _ => by decide +kernel
 | 1, _ => by decide +kernel
 | 2, _ => by decide +kernel
 | 3, _ => by decide +kernel
 | 4, _ => by decide +kernel
 | 5, _ => by decide +kernel
 | 6, _ => by decide +kernel
 | 7, _ => by decide +kernel
 | _ + 8, h => by omega
theorem zeroSt64 : (Us64 (lay64 0 ++ List.replicate 16 0) ++ [Value.int .i64 0]).toArray = #[Value.int .u64 0, Value.int .u64 0, Value.int .u64 0, Value.int .u64 0, Value.int .u64 0, Value.int .u64 0, Value.int .u64 0, Value.int .u64 0, Value.int .u64 0, Value.int .u64 0, Value.int .u64 0, Value.int .u64 0, Value.int .u64 0, Value.int .u64 0, Value.int .u64 0, Value.int .u64 0, Value.int .u64 0, Value.int .u64 0, Value.int .u64 0, Value.int .u64 0, Value.int .u64 0, Value.int .u64 0, Value.int .u64 0, Value.int .u64 0, Value.int .i64 0] := by rfl
theorem begRow64 (w : World) (o : Obj) : Tb64 ((w.alloc o).alloc (.cells #[Value.int .u64 0, Value.int .u64 0, Value.int .u64 0, Value.int .u64 0, Value.int .u64 0, Value.int .u64 0, Value.int .u64 0, Value.int .u64 0, Value.int .u64 0, Value.int .u64 0, Value.int .u64 0, Value.int .u64 0, Value.int .u64 0, Value.int .u64 0, Value.int .u64 0, Value.int .u64 0, Value.int .u64 0, Value.int .u64 0, Value.int .u64 0, Value.int .u64 0, Value.int .u64 0, Value.int .u64 0, Value.int .u64 0, Value.int .u64 0, Value.int .i64 0] 121)) (w.heap.size + 1) 121 (lay64 0) (List.replicate 16 0) 0 := by
 unfold Tb64
 rw [zeroSt64]
 exact heap_alloc2_new _ _ _
theorem topS64 (k : Nat) (w : World) : Calls Tryz.prog 114 #[.int .u64 ((s64.getD k 0 : Nat) : Int)] w fun e w' => e = .returned (.int .u64 ((s64.getD k 0 / 2 ^ (64 - 64) : Nat) : Int)) ∧ w' = w := top64 _ w (s64_get k)
set_option maxHeartbeats 800000 in
theorem start64 (w : World) (hs : Ss64 w) :
  Calls Tryz.prog 85 #[] w fun e w' => e = .returned (.agg (Us64 (beg64.1.list ++ List.replicate 16 0) ++ [Value.int .i64 0]).toArray) ∧ Below w.heap.size w w' := by
 have HS := yH hs
 have h0 : 4 < w.heap.size := hs.lt
 have H0 := yH h0
 clear hs h0
 go_enter Tryz.func85, Tryz.ntmps85
 go_wp2_with fail
 go_loopw [3] (fun i wr => ∃ k : Nat, k ≤ 8 ∧ i = .int .i64 k ∧ Tb64 wr (w.heap.size + 1) 121 (lay64 k) (List.replicate 16 0) 0 ∧ Below w.heap.size w wr ∧ wr.heap[w.heap.size]? = some (.cells #[Value.int .u64 0, Value.int .u64 0, Value.int .u64 0, Value.int .u64 0, Value.int .u64 0, Value.int .u64 0, Value.int .u64 0, Value.int .u64 0, Value.int .u64 0, Value.int .u64 0, Value.int .u64 0, Value.int .u64 0, Value.int .u64 0, Value.int .u64 0, Value.int .u64 0, Value.int .u64 0, Value.int .u64 0, Value.int .u64 0, Value.int .u64 0, Value.int .u64 0, Value.int .u64 0, Value.int .u64 0, Value.int .u64 0, Value.int .u64 0, Value.int .i64 0] 121 (0, 0))) (fun i _ => 8 - (intOf i).toNat)
 case atStart => exact ⟨0, by decide, rfl, begRow64 _ _, ((Below.refl _ _).alloc (Nat.le_refl _) _).alloc (by simp) _, (Below.heap_alloc _ _ _ (by simp)).trans (heap_alloc_new _ _)⟩
 case round =>
  obtain ⟨k, hk, rfl, hat, hbe, hres⟩ := hrel
  by_cases hlt : k < 8
  ·have hsw := HS.out.cell hlt
   have hsr := (hbe.cell (p := ⟨4, k, none⟩) H0.out).trans hsw
   have k1 := hat.cell (k := k) (by rw [lay64_len hk]; exact hlt)
   have kf := hat.free k
   have st := hat.set (k := k) (by rw [lay64_len hk]; exact hlt) (s64.getD k 0 / 2 ^ (64 - 64))
   rw [lay64_set hlt] at st
   have htop : ∀ w', Calls Tryz.prog 114 #[.int .u64 ((s64.getD k 0 : Nat) : Int)] w' fun e w'' => e = .returned (.int .u64 ((s64.getD k 0 / 2 ^ (64 - 64) : Nat) : Int)) ∧ w'' = w' := topS64 k
   generalize s64.getD k 0 / 2 ^ (64 - 64) = z at *
   generalize s64.getD k 0 = y at *
   generalize (lay64 k).getD k 0 = v at *
   have HST := yH st
   have HBE := yH hbe
   have HRES := yH hres
   have HTOP := yH htop
   have bi : (k : Int) < 8 := by omega
   have b0 : (0 : Int) ≤ (k : Int) := by omega
   clear st hbe hres htop hat hsw
   go_wp2_with fail
   refine (HTOP.out _).mono ?_
   rintro e w3 ⟨rfl, rfl⟩
   go_wp2_with fail
   go_roundw
   case rel =>
    refine ⟨k + 1, by omega, by go_num, HST.out, HBE.out.setCell (by simp) _, ?_⟩
    rw [Below.heap_setCell _ _ _ _ (by simp)]
    exact HRES.out
   case measure => simp [intOf]; omega
  ·have hie : k = 8 := by omega
   subst hie
   have hcell := hat
   unfold Tb64 at hcell
   have hw : lay64 8 = beg64.1.list := by decide +kernel
   rw [hw] at hcell
   have HCELL := yH hcell
   have HBE := yH hbe
   have HRES := yH hres
   have hsz : (Tryz.prog.info? 121).map (·.size) = some (Us64 (beg64.1.list ++ List.replicate 16 0) ++ [Value.int .i64 0]).toArray.size := by kernel_rfl
   have hold : (#[Value.int .u64 0, Value.int .u64 0, Value.int .u64 0, Value.int .u64 0, Value.int .u64 0, Value.int .u64 0, Value.int .u64 0, Value.int .u64 0, Value.int .u64 0, Value.int .u64 0, Value.int .u64 0, Value.int .u64 0, Value.int .u64 0, Value.int .u64 0, Value.int .u64 0, Value.int .u64 0, Value.int .u64 0, Value.int .u64 0, Value.int .u64 0, Value.int .u64 0, Value.int .u64 0, Value.int .u64 0, Value.int .u64 0, Value.int .u64 0, Value.int .i64 0] : Array Value).size = (Us64 (beg64.1.list ++ List.replicate 16 0) ++ [Value.int .i64 0]).toArray.size := by kernel_rfl
   have hone : (Us64 (beg64.1.list ++ List.replicate 16 0) ++ [Value.int .i64 0]).toArray.all (·.oneCell') = true := by kernel_rfl
   have HSZ := yH hsz
   have HOLD := yH hold
   have HONE := yH hone
   clear hcell hat hbe hres hsz hold hone hw
   go_wp2_with (first
    | (refine wpList_load_row rfl 121 (.tmp 1) rfl (w.heap.size + 1) rfl 121 _ (0, 0) _ HCELL.out (by rfl) rfl HSZ.out ?_)
    | (refine wpList_store_row rfl 121 (.tmp 0) (.tmp 14) rfl w.heap.size _ rfl rfl 121 _ HRES.out HSZ.out HOLD.out HONE.out ?_))
   have hgot := setRow_heap wr w.heap.size _ (Us64 (beg64.1.list ++ List.replicate 16 0) ++ [Value.int .i64 0]).toArray _ _ HRES.out
   refine bodyPost_ret (results_cell_row (by rfl) _ _ w.heap.size _ _ _ _ (by rfl) hgot (by rfl) rfl HSZ.out) rfl ?_
   exact ⟨rfl, below_setRow HBE.out (Nat.le_refl _) _⟩
def pad64 (n : Nat) : Nat := (112 + 128 - (n + 1) % 128) % 128
theorem pad64_hit (n : Nat) : (n + 1 + pad64 n) % 128 = 112 := by unfold pad64; omega
theorem pad64_not (n k : Nat) (h : k < pad64 n) : (n + 1 + k) % 128 ≠ 112 := by unfold pad64 at h; omega
theorem pad64_lt (n : Nat) : pad64 n < 128 := by unfold pad64; omega
def lst64 (t : S8x64 × List Nat × Nat) (k : Nat) : S8x64 × List Nat × Nat := fed64 t (128 :: List.replicate k 0)
theorem lst64_succ (t : S8x64 × List Nat × Nat) (k : Nat) : lst64 t (k + 1) = (now64 (lst64 t k).1 (lst64 t k).2.1 (lst64 t k).2.2 0, blk64 (lst64 t k).2.1 (lst64 t k).2.2 0, (lst64 t k).2.2 + 1) := by
 unfold lst64
 rw [← fed64_snoc, List.replicate_succ', List.cons_append]
theorem lst64_size (t : S8x64 × List Nat × Nat) (k : Nat) : (lst64 t k).2.2 = t.2.2 + 1 + k := by
 unfold lst64
 rw [fed64_size]
 simp
 omega
theorem lst64_good {t : S8x64 × List Nat × Nat} (h : Gd64 t) (k : Nat) : Gd64 (lst64 t k) := by
 refine h.fed ?_
 intro x hx
 rcases List.mem_cons.1 hx with rfl | hx
 ·decide
 ·rw [List.eq_of_mem_replicate hx]; decide
def hi64 (n : Nat) : Nat := n / 2 ^ (64 - 3) % 18446744073709551616
def lo64 (n : Nat) : Nat := n * 8 % 18446744073709551616
def fbl64 (t : S8x64 × List Nat × Nat) : List Nat := ((lst64 t (pad64 t.2.2)).2.1.set 14 (hi64 t.2.2)).set 15 (lo64 t.2.2)
def fnl64 (t : S8x64 × List Nat × Nat) : S8x64 := mxs64 (lst64 t (pad64 t.2.2)).1 (fbl64 t)
theorem fbl64_len {t : S8x64 × List Nat × Nat} (h : Gd64 t) : (fbl64 t).length = 16 := by unfold fbl64; rw [List.length_set, List.length_set]; exact (lst64_good h _).len
theorem fbl64_lt {t : S8x64 × List Nat × Nat} (h : Gd64 t) : ∀ x ∈ fbl64 t, x < 18446744073709551616 := by
 intro x hx
 unfold fbl64 at hx
 rcases List.mem_or_eq_of_mem_set hx with h' | h'
 ·rcases List.mem_or_eq_of_mem_set h' with h' | h'
  ·exact (lst64_good h _).lt x h'
  ·rw [h']; exact Nat.mod_lt _ (by decide)
 ·rw [h']; exact Nat.mod_lt _ (by decide)
theorem fnl64_ok (t : S8x64 × List Nat × Nat) : (fnl64 t).ok := mxs64_ok _ _
theorem Tb64.front {w : World} {g : Nat} {T : TypeId} {l b : List Nat} {n : Int} (h : Tb64 w g T l b n) : w.rangeAt g 0 (Us64 l) := by
 intro j v hv
 have hj : j < (Us64 l).length := (List.getElem?_eq_some_iff.1 hv).1
 rw [Nat.zero_add, cell_of_row w g _ _ _ _ h, List.getElem?_toArray, Us64_append, List.append_assoc, List.getElem?_append_left hj]
 exact hv
theorem list64_len (s : S8x64) : s.list.length = 8 := rfl
def St64 (t : S8x64 × List Nat × Nat) : Array Value := (Us64 (t.1.list ++ t.2.1) ++ [Value.int .i64 (t.2.2 : Int)]).toArray
theorem endRow64 (t : S8x64 × List Nat × Nat) (w : World) (o : Obj) : Tb64 ((w.alloc (.cells (St64 t) 121)).alloc o) w.heap.size 121 t.1.list t.2.1 (t.2.2 : Int) := by
 unfold Tb64
 exact (Below.heap_alloc _ _ _ (by simp)).trans (heap_alloc_new _ _)
theorem endSize64 {t : S8x64 × List Nat × Nat} (h : Gd64 t) (w : World) (o : Obj) : ((w.alloc (.cells (St64 t) 121)).alloc o).cell? ⟨w.heap.size, 24, none⟩ = some (.int .i64 (t.2.2 : Int)) :=
 (endRow64 t w o).size rfl h.len
theorem endRes64 (t : S8x64 × List Nat × Nat) (w : World) : ((w.alloc (.cells (St64 t) 121)).alloc (.cells #[Value.int .u64 0, Value.int .u64 0, Value.int .u64 0, Value.int .u64 0, Value.int .u64 0, Value.int .u64 0, Value.int .u64 0, Value.int .u64 0] 102)).heap[w.heap.size + 1]? = some (.cells #[Value.int .u64 0, Value.int .u64 0, Value.int .u64 0, Value.int .u64 0, Value.int .u64 0, Value.int .u64 0, Value.int .u64 0, Value.int .u64 0] 102 (0, 0)) := heap_alloc2_new _ _ _
set_option maxHeartbeats 1600000 in
theorem end64 (t : S8x64 × List Nat × Nat) (w : World) (ht : Gd64 t) (hk : Ks64 w) (hn : t.2.2 < 1152921504606846976) :
  Calls Tryz.prog 88 #[.agg (St64 t)] w fun e w' => e = .returned (.agg (Us64 (fnl64 t).list).toArray) ∧ Below w.heap.size w w' := by
 have hg2 : w.heap.size ≠ 7 := fun e => by have := hk.lt; omega
 have hat := endRow64 t w (.cells #[Value.int .u64 0, Value.int .u64 0, Value.int .u64 0, Value.int .u64 0, Value.int .u64 0, Value.int .u64 0, Value.int .u64 0, Value.int .u64 0] 102)
 have hsz := endSize64 ht w (.cells #[Value.int .u64 0, Value.int .u64 0, Value.int .u64 0, Value.int .u64 0, Value.int .u64 0, Value.int .u64 0, Value.int .u64 0, Value.int .u64 0] 102)
 have hks : Ks64 ((w.alloc (.cells (St64 t) 121)).alloc (.cells #[Value.int .u64 0, Value.int .u64 0, Value.int .u64 0, Value.int .u64 0, Value.int .u64 0, Value.int .u64 0, Value.int .u64 0, Value.int .u64 0] 102)) := hk.below (((Below.refl _ _).alloc (Nat.le_refl _) _).alloc (by simp) _) hk.lt
 have HT := yH ht
 have HK := yH hk
 have HN := yH hn
 have HG := yH hg2
 have HAT := yH hat
 have HKS := yH hks
 have n0 : (0 : Int) ≤ (t.2.2 : Int) := by omega
 have n1 : (t.2.2 : Int) < 1152921504606846976 := by omega
 clear ht hk hn hg2 hat hks
 go_enter Tryz.func88, Tryz.ntmps88
 go_wp2_with fail
 have hput := put64 t.1 t.2.1 t.2.2 128 121 w.heap.size _ HT.out.ok HT.out.len HT.out.lt HKS.out HAT.out (by omega) (by decide) HG.out
 refine hput.mono ?_
 rintro e w1 ⟨rfl, h1, o1⟩
 clear hput
 have hl0 : Tb64 w1 w.heap.size 121 (lst64 t 0).1.list (lst64 t 0).2.1 ((lst64 t 0).2.2 : Int) := h1
 have HL0 := yH hl0
 have HO1 := yH o1
 clear h1 o1 hl0 hsz
 go_wp2_with fail
 go_loopg [] (pad64 t.2.2) (fun k wr => ∃ j : Nat, j + k = pad64 t.2.2 ∧ Tb64 wr w.heap.size 121 (lst64 t j).1.list (lst64 t j).2.1 ((lst64 t j).2.2 : Int) ∧ Only (· = w.heap.size) ((w.alloc (.cells (St64 t) 121)).alloc (.cells #[Value.int .u64 0, Value.int .u64 0, Value.int .u64 0, Value.int .u64 0, Value.int .u64 0, Value.int .u64 0, Value.int .u64 0, Value.int .u64 0] 102)) wr)
 case atStart => exact ⟨0, by omega, HL0.out, HO1.out⟩
 case round =>
  obtain ⟨j, hj, hat, hon⟩ := hrel
  have hgd := lst64_good HT.out j
  have hsz := lst64_size t j
  have hpl := pad64_lt t.2.2
  have hks : Ks64 wr := by
   have := HKS.out
   unfold Ks64 at this ⊢
   rw [hon.block 7 HKS.out.lt (fun e => HG.out e.symm)]
   exact this
  have hfl := filled64 (lst64 t j).1.list (lst64 t j).2.1 (lst64 t j).2.2 121 w.heap.size wr hat rfl hgd.len
  have HFL := yH hfl
  have HGD := yH hgd
  have HSZ := yH hsz
  have HKW := yH hks
  have HAT2 := yH hat
  have HON := yH hon
  clear hfl hgd hsz hks hat hon
  by_cases hlt : j < pad64 t.2.2
  ·have hne := pad64_not t.2.2 j hlt
   have hb : ((((lst64 t j).2.2 : Nat) : Int) % 128 != 112) = true := by rw [bne_iff_ne, HSZ.out]; omega
   clear hne
   go_wp2_with fail
   refine HFL.out.mono ?_
   rintro e w2 ⟨rfl, q2, rfl⟩
   go_wp2_with fail
   refine (bytes64 _).mono ?_
   rintro e w3 ⟨rfl, rfl⟩
   go_wp2_with fail
   have hks4 : Ks64 (wr.drewN q2) := HKW.out
   have hp := put64 (lst64 t j).1 (lst64 t j).2.1 (lst64 t j).2.2 0 121 w.heap.size (wr.drewN q2) HGD.out.ok HGD.out.len HGD.out.lt hks4 HAT2.out (by rw [HSZ.out]; omega) (by decide) HG.out
   refine hp.mono ?_
   rintro e w4 ⟨rfl, h4, o4⟩
   have h5 : Tb64 w4 w.heap.size 121 (lst64 t (j + 1)).1.list (lst64 t (j + 1)).2.1 ((lst64 t (j + 1)).2.2 : Int) := by rw [lst64_succ]; exact h4
   have H5 := yH h5
   have O4 := yH o4
   clear h4 o4 h5 hp hks4 hb
   go_wp2_with fail
   go_roundg (pad64 t.2.2 - (j + 1))
   case measure => omega
   case rel => exact ⟨j + 1, by omega, H5.out, (HON.out.drewN q2).trans O4.out (fun _ _ h => h)⟩
  ·obtain rfl : j = pad64 t.2.2 := by omega
   have hhit := pad64_hit t.2.2
   have hb : ((((lst64 t (pad64 t.2.2)).2.2 : Nat) : Int) % 128 != 112) = false := by rw [bne_eq_false_iff_eq, HSZ.out]; omega
   clear hhit
   go_wp2_with fail
   refine HFL.out.mono ?_
   rintro e w2 ⟨rfl, q2, rfl⟩
   go_wp2_with fail
   refine (bytes64 _).mono ?_
   rintro e w3 ⟨rfl, rfl⟩
   go_wp2_with fail
   clear hb
   refine (width64 _).mono ?_
   rintro e w3 ⟨rfl, rfl⟩
   have k14 := Tb64.word (w := wr) HAT2.out rfl (k := 14) (by rw [HGD.out.len]; decide)
   have k15 := Tb64.word (w := wr) HAT2.out rfl (k := 15) (by rw [HGD.out.len]; decide)
   have f14 := Tb64.free (w := wr) HAT2.out 22
   have f15 := Tb64.free (w := wr) HAT2.out 23
   go_wp2_with fail
   have e1 : (t.2.2 : Int) / 2305843009213693952 = ((hi64 t.2.2 : Nat) : Int) := by unfold hi64; omega
   have e2 : (t.2.2 : Int) * 8 = ((lo64 t.2.2 : Nat) : Int) := by unfold lo64; omega
   rw [e1, e2]
   have t14 := Tb64.setWord (w := wr.drewN q2) HAT2.out rfl (k := 14) (by rw [HGD.out.len]; decide) (hi64 t.2.2)
   have t15 := t14.setWord rfl (k := 15) (by rw [List.length_set, HGD.out.len]; decide) (lo64 t.2.2)
   have hks5 : Ks64 (((wr.drewN q2).setCell ⟨w.heap.size, 8 + 14, none⟩ (.int .u64 ((hi64 t.2.2 : Nat) : Int))).setCell ⟨w.heap.size, 8 + 15, none⟩ (.int .u64 ((lo64 t.2.2 : Nat) : Int))) := by
    have := HKW.out
    unfold Ks64 at this ⊢
    rw [Below.heap_setCell _ _ _ _ (fun e => HG.out e.symm), Below.heap_setCell _ _ _ _ (fun e => HG.out e.symm)]
    exact this
   have hmx := mix64 (lst64 t (pad64 t.2.2)).1 (fbl64 t) ((lst64 t (pad64 t.2.2)).2.2 : Int) 121 w.heap.size _ HGD.out.ok (fbl64_len HT.out) (fbl64_lt HT.out) hks5 t15
   have ho5 : Only (· = w.heap.size) ((w.alloc (.cells (St64 t) 121)).alloc (.cells #[Value.int .u64 0, Value.int .u64 0, Value.int .u64 0, Value.int .u64 0, Value.int .u64 0, Value.int .u64 0, Value.int .u64 0, Value.int .u64 0] 102)) (((wr.drewN q2).setCell ⟨w.heap.size, 8 + 14, none⟩ (.int .u64 ((hi64 t.2.2 : Nat) : Int))).setCell ⟨w.heap.size, 8 + 15, none⟩ (.int .u64 ((lo64 t.2.2 : Nat) : Int))) :=
    ((HON.out.drewN q2).setCell (.inl rfl) _).setCell (.inl rfl) _
   have HO5 := yH ho5
   clear t14 t15 hks5 ho5 k14 k15 f14 f15 e1 e2
   refine hmx.mono ?_
   rintro e w6 ⟨rfl, h6, o6⟩
   clear hmx
   have hfr := h6.front
   have hm6 : mxd64 (lst64 t (pad64 t.2.2)).1 (fbl64 t) = (fnl64 t).list := (mxs64_list _ _).symm
   rw [hm6] at hfr
   have hon6 := HO5.out.trans o6 (fun _ _ h => h)
   have hres : w6.heap[w.heap.size + 1]? = some (.cells #[Value.int .u64 0, Value.int .u64 0, Value.int .u64 0, Value.int .u64 0, Value.int .u64 0, Value.int .u64 0, Value.int .u64 0, Value.int .u64 0] 102 (0, 0)) := (hon6.block _ (by simp) (fun e => by have e' : w.heap.size + 1 = w.heap.size := e; omega)).trans (endRes64 t w)
   have hI : (Tryz.prog.info? 102).map (·.size) = some (Us64 (fnl64 t).list).length := by rw [Us64_length, list64_len]; kernel_rfl
   have hS : (Tryz.prog.info? 102).map (·.size) = some (Us64 (fnl64 t).list).toArray.size := by rw [List.size_toArray, Us64_length, list64_len]; kernel_rfl
   have hold : (#[Value.int .u64 0, Value.int .u64 0, Value.int .u64 0, Value.int .u64 0, Value.int .u64 0, Value.int .u64 0, Value.int .u64 0, Value.int .u64 0] : Array Value).size = (Us64 (fnl64 t).list).toArray.size := by show 8 = (Us64 (fnl64 t).list).toArray.size; rw [List.size_toArray, Us64_length, list64_len]
   have hone := all_oneCell_toArray (Us64_one (fnl64 t).list)
   have HFR := yH hfr
   have HRES := yH hres
   have HON6 := yH hon6
   have HI := yH hI
   have HS := yH hS
   have HOLD := yH hold
   have HONE := yH hone
   clear hfr hres hon6 hI hS hold hone h6 o6 hm6
   go_wp2_with (first
    | (refine wpList_load_mid rfl 102 (.tmp 24) rfl w.heap.size 0 rfl (Us64 (fnl64 t).list) _ HFR.out rfl rfl HI.out ?_)
    | (refine wpList_store_row rfl 102 (.tmp 2) (.tmp 25) rfl (w.heap.size + 1) _ rfl rfl 102 _ HRES.out HS.out HOLD.out HONE.out ?_))
   have hgot := setRow_heap w6 (w.heap.size + 1) _ (Us64 (fnl64 t).list).toArray _ _ HRES.out
   generalize fnl64 t = fin at *
   refine bodyPost_ret (results_cell_row (by rfl) _ _ (w.heap.size + 1) _ _ _ _ (by rfl) hgot (by rfl) rfl HS.out) rfl ?_
   have hb0 : Below w.heap.size w ((w.alloc (.cells (St64 t) 121)).alloc (.cells #[Value.int .u64 0, Value.int .u64 0, Value.int .u64 0, Value.int .u64 0, Value.int .u64 0, Value.int .u64 0, Value.int .u64 0, Value.int .u64 0] 102)) := ((Below.refl _ _).alloc (Nat.le_refl _) _).alloc (by simp) _
   have hb6 : Below w.heap.size ((w.alloc (.cells (St64 t) 121)).alloc (.cells #[Value.int .u64 0, Value.int .u64 0, Value.int .u64 0, Value.int .u64 0, Value.int .u64 0, Value.int .u64 0, Value.int .u64 0, Value.int .u64 0] 102)) w6 := HON6.out.below (by simp; omega) (fun k e => by have e' : k = w.heap.size := e; omega)
   exact ⟨rfl, below_setRow (hb0.trans hb6) (by omega) _⟩
def sby64 (l : List Nat) (i : Nat) : Nat := l.getD (i / 8) 0 / 2 ^ (8 * (8 - 1 - i % 8)) % 256
theorem sby64_eq (l : List Nat) (i : Nat) : ((l.getD (i / 8) 0 : Nat) : Int) / 2 ^ (8 * (7 - i % 8)) % 256 = ((sby64 l i : Nat) : Int) := by
 unfold sby64
 generalize l.getD (i / 8) 0 = x
 rw [show 8 - 1 - i % 8 = 7 - i % 8 from rfl]
 have e : (x : Int) / 2 ^ (8 * (7 - i % 8)) = ((x / 2 ^ (8 * (7 - i % 8)) : Nat) : Int) := by push_cast; rfl
 rw [e]
 generalize x / 2 ^ (8 * (7 - i % 8)) = y
 omega
set_option maxHeartbeats 800000 in
theorem spread64 (l : List Nat) (hl : l.length = 8) (hm : ∀ x ∈ l, x < 18446744073709551616) (g : Nat) (T : TypeId) (cap : Nat) (w : World) (hr : Row w g T (List.replicate 64 (.int .u8 0))) :
  Calls Tryz.prog 87 #[.agg (Us64 l).toArray, .slice (some ⟨g, 0, none⟩) 64 cap] w fun e w' => e = .returned (.tuple #[]) ∧ Row w' g T (Tabs .u8 (sby64 l) 64) ∧ Only (· = g) w w' := by
 have hgl := hr.lt
 have hbx : Row (w.alloc (.cells (Us64 l).toArray 102)) w.heap.size 102 (Us64 l) := Row.new _ _ _
 have hr0 : Row (w.alloc (.cells (Us64 l).toArray 102)) g T (Tab .u8 (sby64 l) 64 0) := by rw [Tab_zero]; exact hr.alloc _
 have HL := yH hl
 have HM := yH hm
 have HG := yH hgl
 have HBX := yH hbx
 have HR := yH hr0
 clear hl hm hr hgl hbx hr0
 go_enter Tryz.func87, Tryz.ntmps87
 go_wp2_with fail
 refine (bytes64 _).mono ?_
 rintro e w1 ⟨rfl, rfl⟩
 go_wp2_with fail
 go_loopw [9] (fun i wr => ∃ k : Nat, k ≤ 64 ∧ i = .int .i64 k ∧ Row wr g T (Tab .u8 (sby64 l) 64 k) ∧ Row wr w.heap.size 102 (Us64 l) ∧ Only (· = g) w wr) (fun i _ => 64 - (intOf i).toNat)
 case atStart => exact ⟨0, by decide, rfl, HR.out, HBX.out, (Only.refl _ _).alloc _⟩
 case round =>
  obtain ⟨k, hk, rfl, hrow, hbx, hon⟩ := hrel
  by_cases hlt : k < 64
  ·have hd : k / 8 < 8 := by omega
   have c1 : wr.cell? ⟨w.heap.size, k / 8, none⟩ = some (.int .u64 ((l.getD (k / 8) 0 : Nat) : Int)) := hbx.cell (by rw [Us64_get, List.getD, List.getElem?_eq_getElem (by rw [HL.out]; exact hd)]; rfl)
   have c2 := hrow.cell (k := k) (Tab_get _ _ _ _ hlt)
   have f2 := hrow.free k
   have st := fun v => hrow.set k v
   have hset := Tab_set .u8 (sby64 l) 64 hlt
   have b1 : (0 : Int) ≤ (k : Int) / 8 := by omega
   have b2 : (k : Int) / 8 < 8 := by omega
   have b3 : (0 : Int) ≤ (k : Int) % 8 := by omega
   have b4 : (k : Int) % 8 < 8 := by omega
   have b5 : (k : Int) < 64 := by omega
   have b6 : (0 : Int) ≤ (k : Int) := by omega
   have d1 : ((k : Int) / 8).toNat = k / 8 := by omega
   have d2 : (8 * ((8 : Int) - 1 - (k : Int) % 8)).toNat = 8 * (8 - 1 - k % 8) := by omega
   have d3 : IntKind.i64.wrap (8 * ((8 : Int) - 1 - (k : Int) % 8)) = 8 * ((8 : Int) - 1 - (k : Int) % 8) := IntWalk.i64_in _ (by omega)
   have hv := sby64_eq l k
   generalize l.getD (k / 8) 0 = x at *
   have HV := yH hv
   clear hv
   have ST := yH st
   have HSET := yH hset
   have HON := yH hon
   have HBX2 := yH hbx
   clear st hset hon hbx hrow
   go_upto_region 5 with fail
   go_region
   go_wp2_with fail
   go_roundw
   case rel =>
    rw [HV.out]
    refine ⟨k + 1, by omega, by go_num, ?_, ?_, (HON.out.setCell (.inl rfl) _).drew⟩
    ·have := ST.out (.int .u8 ((sby64 l k : Nat) : Int))
     rw [HSET.out] at this
     exact this
    ·exact HBX2.out.setCell (fun e => by have := HG.out; have e' : w.heap.size = g := e; omega) _
   case measure => simp [intOf]; omega
  ·obtain rfl : k = 64 := by omega
   have HROW := yH hrow
   have HON := yH hon
   clear hrow hon hbx
   go_wp2_with fail
   go_end0
   exact ⟨rfl, by rw [← Tab_done]; exact HROW.out, HON.out⟩
def Us32 (l : List Nat) : List Value := l.map fun x => .int .u32 ((x : Nat) : Int)
theorem Us32_length (l : List Nat) : (Us32 l).length = l.length := by simp [Us32]
theorem Us32_append (l m : List Nat) : Us32 (l ++ m) = Us32 l ++ Us32 m := by simp [Us32]
theorem Us32_get (l : List Nat) (k : Nat) : (Us32 l)[k]? = l[k]?.map fun x => .int .u32 ((x : Nat) : Int) := by simp [Us32]
def nxt32 (l : List Nat) : Nat := (sml3 32 (l.getD (l.length - 2) 0) 17 19 10 + l.getD (l.length - 7) 0 + sml3 32 (l.getD (l.length - 15) 0) 7 18 3 + l.getD (l.length - 16) 0) % 4294967296
def exp32 : Nat → List Nat → List Nat
 | 0, l => l
 | n + 1, l => exp32 n l ++ [nxt32 (exp32 n l)]
structure S8x32 where
 a : Nat
 b : Nat
 c : Nat
 d : Nat
 e : Nat
 f : Nat
 g : Nat
 h : Nat
def S8x32.ok (s : S8x32) : Prop := s.a < 4294967296 ∧ s.b < 4294967296 ∧ s.c < 4294967296 ∧ s.d < 4294967296 ∧ s.e < 4294967296 ∧ s.f < 4294967296 ∧ s.g < 4294967296 ∧ s.h < 4294967296
def S8x32.list (s : S8x32) : List Nat := [s.a, s.b, s.c, s.d, s.e, s.f, s.g, s.h]
def ch32 (e f g : Nat) : Nat := (e &&& f) ^^^ ((4294967296 - (e + 1)) &&& g)
def maj32 (a b c : Nat) : Nat := (a &&& b) ^^^ (a &&& c) ^^^ (b &&& c)
def t32 (e f g h k x : Nat) : Nat := (h + big3 32 e 6 11 25 + ch32 e f g + k + x) % 4294967296
def ma32 (a b c : Nat) : Nat := (big3 32 a 2 13 22 + maj32 a b c) % 4294967296
def rnd32 (s : S8x32) (k x : Nat) : S8x32 :=
 ⟨(t32 s.e s.f s.g s.h k x + ma32 s.a s.b s.c) % 4294967296, s.a, s.b, s.c, (s.d + t32 s.e s.f s.g s.h k x) % 4294967296, s.e, s.f, s.g⟩
def rns32 (K W : Nat → Nat) : Nat → S8x32 → S8x32
 | 0, s => s
 | n + 1, s => rnd32 (rns32 K W n s) (K n) (W n)
def k32 : List Nat := [4794697086780616226, 8158064640168781261, 13096744586834688815, 16840607885511220156, 4131703408338449720, 6480981068601479193, 10538285296894168987, 12329834152419229976, 15566598209576043074, 1334009975649890238, 2608012711638119052, 6128411473006802146, 8268148722764581231, 9286055187155687089, 11230858885718282805, 13951009754708518548, 16472876342353939154, 17275323862435702243, 1135362057144423861, 2597628984639134821, 3308224258029322869, 5365058923640841347, 6679025012923562964, 8573033837759648693, 10970295158949994411, 12119686244451234320, 12683024718118986047, 13788192230050041572, 14330467153632333762, 15395433587784984357, 489312712824947311, 1452737877330783856, 2861767655752347644, 3322285676063803686, 5560940570517711597, 5996557281743188959, 7280758554555802590, 8532644243296465576, 9350256976987008742, 10552545826968843579, 11727347734174303076, 12113106623233404929, 14000437183269869457, 14369950271660146224, 15101387698204529176, 15463397548674623760, 17586052441742319658, 1182934255886127544, 1847814050463011016, 2177327727835720531, 2830643537854262169, 3796741975233480872, 4115178125766777443, 5681478168544905931, 6601373596472566643, 7507060721942968483, 8399075790359081724, 8693463985226723168, 9568029438360202098, 10144078919501101548, 10430055236837252648, 11840083180663258601, 13761210420658862357, 14299343276471374635, 14566680578165727644, 15097957966210449927, 16922976911328602910, 17689382322260857208, 500013540394364858, 748580250866718886, 1242879168328830382, 1977374033974150939, 2944078676154940804, 3659926193048069267, 4368137639120453308, 4836135668995329356, 5532061633213252278, 6448918945643986474, 6902733635092675308, 7801388544844847127]
def Ks32 (w : World) : Prop := ∃ c t, w.heap[2]? = some (.cells c t (0, 0)) ∧ ∀ k, k < 80 → c[k]? = some (Value.int .u64 ((k32.getD k 0 : Nat) : Int))
theorem Ks32.cell {w : World} (h : Ks32 w) {k : Nat} (hk : k < 80) : w.cell? ⟨2, k, none⟩ = some (.int .u64 ((k32.getD k 0 : Nat) : Int)) := by
 obtain ⟨c, t, h1, h2⟩ := h
 rw [cell_of_row w 2 k _ _ _ h1]
 exact h2 k hk
def Tb32 (w : World) (g : Nat) (T : TypeId) (l b : List Nat) (n : Int) : Prop := w.heap[g]? = some (.cells (Us32 (l ++ b) ++ [Value.int .i64 n]).toArray T (0, 0))
theorem Tb32.cell {w : World} {g : Nat} {T : TypeId} {l b : List Nat} {n : Int} (h : Tb32 w g T l b n) {k : Nat} (hk : k < l.length) : w.cell? ⟨g, k, none⟩ = some (.int .u32 ((l.getD k 0 : Nat) : Int)) := by
 have h1 : k < (Us32 (l ++ b)).length := by rw [Us32_length]; simp; omega
 rw [cell_of_row w g k _ _ _ h, List.getElem?_toArray, List.getElem?_append_left h1, Us32_get, List.getElem?_append_left hk, List.getD, List.getElem?_eq_getElem hk]
 rfl
theorem Tb32.block {w : World} {g : Nat} {T : TypeId} {l b : List Nat} {n : Int} (h : Tb32 w g T l b n) : w.rangeAt g l.length (Us32 b) := by
 intro j v hv
 have hj : j < (Us32 b).length := (List.getElem?_eq_some_iff.1 hv).1
 rw [cell_of_row w g _ _ _ _ h, List.getElem?_toArray, Us32_append, List.append_assoc, List.getElem?_append_right (by rw [Us32_length]; omega), Us32_length, Nat.add_sub_cancel_left, List.getElem?_append_left hj]
 exact hv
theorem Tb32.below {w w' : World} {g B : Nat} {T : TypeId} {l b : List Nat} {n : Int} (h : Tb32 w g T l b n) (hb : Below B w w') (hg : g < B) : Tb32 w' g T l b n := (hb.block g hg).trans h
theorem Ks32.below {w w' : World} {B : Nat} (h : Ks32 w) (hb : Below B w w') (hg : 2 < B) : Ks32 w' := by
 obtain ⟨c, t, h1, h2⟩ := h
 exact ⟨c, t, (hb.block 2 hg).trans h1, h2⟩
theorem Ks32.lt {w : World} (h : Ks32 w) : 2 < w.heap.size := by
 obtain ⟨c, t, h1, _⟩ := h
 exact (Array.getElem?_eq_some_iff.1 h1).1
theorem Ks32.keep {w w' : World} (h : Ks32 w) (e : w'.heap[2]? = w.heap[2]?) : Ks32 w' := by
 obtain ⟨c, t, h1, h2⟩ := h
 exact ⟨c, t, e.trans h1, h2⟩
theorem Tb32.lt {w : World} {g : Nat} {T : TypeId} {l b : List Nat} {n : Int} (h : Tb32 w g T l b n) : g < w.heap.size := (Array.getElem?_eq_some_iff.1 h).1
def ws32 (b : List Nat) : List Nat := exp32 48 b ++ List.replicate 16 0
def gone32 (s : S8x32) (b : List Nat) (k : Nat) : S8x32 := rns32 (fun i => k32.getD i 0 / 2 ^ (64 - 32)) (fun i => (ws32 b).getD i 0) k s
theorem Tb32.free {w : World} {g : Nat} {T : TypeId} {l b : List Nat} {n : Int} (h : Tb32 w g T l b n) (k : Nat) : w.frozen? ⟨g, k, none⟩ = false := frozen_of_row w g k _ _ h
theorem Tb32.set {w : World} {g : Nat} {T : TypeId} {l b : List Nat} {n : Int} (h : Tb32 w g T l b n) {k : Nat} (hk : k < l.length) (x : Nat) : Tb32 (w.setCell ⟨g, k, none⟩ (.int .u32 ((x : Nat) : Int))) g T (l.set k x) b n := by
 unfold Tb32 at h ⊢
 rw [heap_setCell_same w g _ _ _ _ h]
 congr 2
 have h1 : k < (Us32 l).length := by rw [Us32_length]; exact hk
 rw [List.setIfInBounds_toArray, Us32_append, Us32_append, List.append_assoc, List.set_append_left _ _ h1, List.append_assoc]
 simp [Us32, List.map_set]
theorem Tb32.size {w : World} {g : Nat} {T : TypeId} {l b : List Nat} {n : Int} (h : Tb32 w g T l b n) (hl : l.length = 8) (hb : b.length = 16) : w.cell? ⟨g, 24, none⟩ = some (.int .i64 n) := by
 have e : (Us32 (l ++ b)).length = 24 := by rw [Us32_length, List.length_append, hl, hb]
 rw [cell_of_row w g 24 _ _ _ h, List.getElem?_toArray, List.getElem?_append_right (by omega), e]
 rfl
def mxs32 (s : S8x32) (b : List Nat) : S8x32 :=
 let t := gone32 s b 64
 ⟨(s.a + t.a) % 4294967296, (s.b + t.b) % 4294967296, (s.c + t.c) % 4294967296, (s.d + t.d) % 4294967296, (s.e + t.e) % 4294967296, (s.f + t.f) % 4294967296, (s.g + t.g) % 4294967296, (s.h + t.h) % 4294967296⟩
theorem mxs32_ok (s : S8x32) (b : List Nat) : (mxs32 s b).ok := ⟨Nat.mod_lt _ (by decide), Nat.mod_lt _ (by decide), Nat.mod_lt _ (by decide), Nat.mod_lt _ (by decide), Nat.mod_lt _ (by decide), Nat.mod_lt _ (by decide), Nat.mod_lt _ (by decide), Nat.mod_lt _ (by decide)⟩
def blk32 (b : List Nat) (n c : Nat) : List Nat := b.set (n / 4 % 16) (b.getD (n / 4 % 16) 0 * 256 % 4294967296 ||| c)
def now32 (s : S8x32) (b : List Nat) (n c : Nat) : S8x32 := if (n + 1) % 64 = 0 then mxs32 s (blk32 b n c) else s
theorem blk32_len (b : List Nat) (n c : Nat) : (blk32 b n c).length = b.length := List.length_set
theorem blk32_lt {b : List Nat} (h : ∀ x ∈ b, x < 4294967296) (n : Nat) {c : Nat} (hc : c < 256) : ∀ x ∈ blk32 b n c, x < 4294967296 := by
 intro x hx
 rcases List.mem_or_eq_of_mem_set hx with h' | h'
 ·exact h x h'
 ·rw [h']
  exact Nat.or_lt_two_pow (n := 32) (Nat.mod_lt _ (by decide)) (by omega)
theorem Tb32.word {w : World} {g : Nat} {T : TypeId} {l b : List Nat} {n : Int} (h : Tb32 w g T l b n) (hl : l.length = 8) {k : Nat} (hk : k < b.length) : w.cell? ⟨g, 8 + k, none⟩ = some (.int .u32 ((b.getD k 0 : Nat) : Int)) := by
 have := h.block k (.int .u32 ((b.getD k 0 : Nat) : Int)) (by rw [Us32_get, List.getD, List.getElem?_eq_getElem hk]; rfl)
 rw [hl] at this
 exact this
theorem Tb32.setWord {w : World} {g : Nat} {T : TypeId} {l b : List Nat} {n : Int} (h : Tb32 w g T l b n) (hl : l.length = 8) {k : Nat} (hk : k < b.length) (x : Nat) : Tb32 (w.setCell ⟨g, 8 + k, none⟩ (.int .u32 ((x : Nat) : Int))) g T l (b.set k x) n := by
 unfold Tb32 at h ⊢
 rw [heap_setCell_same w g _ _ _ _ h]
 congr 2
 have h1 : 8 + k < (Us32 (l ++ b)).length := by rw [Us32_length, List.length_append, hl]; omega
 have h2 : (Us32 l).length ≤ 8 + k := by rw [Us32_length, hl]; omega
 rw [List.setIfInBounds_toArray, List.set_append_left _ _ h1, Us32_append, Us32_append, List.set_append_right _ _ h2, Us32_length, hl, Nat.add_sub_cancel_left]
 simp [Us32, List.map_set]
theorem Tb32.setSize {w : World} {g : Nat} {T : TypeId} {l b : List Nat} {n : Int} (h : Tb32 w g T l b n) (hl : l.length = 8) (hb : b.length = 16) (m : Int) : Tb32 (w.setCell ⟨g, 24, none⟩ (.int .i64 m)) g T l b m := by
 unfold Tb32 at h ⊢
 rw [heap_setCell_same w g _ _ _ _ h]
 congr 2
 have h2 : (Us32 (l ++ b)).length = 24 := by rw [Us32_length, List.length_append, hl, hb]
 rw [List.setIfInBounds_toArray, List.set_append_right _ _ (by omega), h2]
 rfl
def fed32 (t : S8x32 × List Nat × Nat) (xs : List Nat) : S8x32 × List Nat × Nat :=
 xs.foldl (fun t c => (now32 t.1 t.2.1 t.2.2 c, blk32 t.2.1 t.2.2 c, t.2.2 + 1)) t
theorem now32_ok {s : S8x32} (h : s.ok) (b : List Nat) (n c : Nat) : (now32 s b n c).ok := by
 unfold now32
 split
 ·exact mxs32_ok _ _
 ·exact h
structure Gd32 (t : S8x32 × List Nat × Nat) : Prop where
 ok : t.1.ok
 len : t.2.1.length = 16
 lt : ∀ x ∈ t.2.1, x < 4294967296
theorem Gd32.next {t : S8x32 × List Nat × Nat} (h : Gd32 t) {c : Nat} (hc : c < 256) : Gd32 (now32 t.1 t.2.1 t.2.2 c, blk32 t.2.1 t.2.2 c, t.2.2 + 1) :=
 ⟨now32_ok h.ok _ _ _, (blk32_len _ _ _).trans h.len, blk32_lt h.lt _ hc⟩
theorem Gd32.fed : ∀ {xs : List Nat} {t : S8x32 × List Nat × Nat}, Gd32 t → (∀ x ∈ xs, x < 256) → Gd32 (fed32 t xs)
 | [], _, h, _ => h
 | c :: xs, _, h, hx => Gd32.fed (xs := xs) (h.next (hx c (List.mem_cons_self ..))) (fun x hm => hx x (List.mem_cons_of_mem _ hm))
def s32 : List Nat := [7640891576956012808, 13503953896175478587, 4354685564936845355, 11912009170470909681, 5840696475078001361, 11170449401992604703, 2270897969802886507, 6620516959819538809]
def Ss32 (w : World) : Prop := ∃ c t, w.heap[0]? = some (.cells c t (0, 0)) ∧ ∀ k, k < 8 → c[k]? = some (Value.int .u64 ((s32.getD k 0 : Nat) : Int))
theorem Ss32.cell {w : World} (h : Ss32 w) {k : Nat} (hk : k < 8) : w.cell? ⟨0, k, none⟩ = some (.int .u64 ((s32.getD k 0 : Nat) : Int)) := by
 obtain ⟨c, t, h1, h2⟩ := h
 rw [cell_of_row w 0 k _ _ _ h1]
 exact h2 k hk
theorem Ss32.lt {w : World} (h : Ss32 w) : 0 < w.heap.size := by
 obtain ⟨c, t, h1, _⟩ := h
 exact (Array.getElem?_eq_some_iff.1 h1).1
theorem Ss32.keep {w w' : World} (h : Ss32 w) (e : w'.heap[0]? = w.heap[0]?) : Ss32 w' := by
 obtain ⟨c, t, h1, h2⟩ := h
 exact ⟨c, t, e.trans h1, h2⟩
theorem Ss32.below {w w' : World} {B : Nat} (h : Ss32 w) (hb : Below B w w') (hg : 0 < B) : Ss32 w' := h.keep (hb.block 0 hg)
theorem Tb32.front {w : World} {g : Nat} {T : TypeId} {l b : List Nat} {n : Int} (h : Tb32 w g T l b n) : w.rangeAt g 0 (Us32 l) := by
 intro j v hv
 have hj : j < (Us32 l).length := (List.getElem?_eq_some_iff.1 hv).1
 rw [Nat.zero_add, cell_of_row w g _ _ _ _ h, List.getElem?_toArray, Us32_append, List.append_assoc, List.getElem?_append_left hj]
 exact hv
def Parts (w : World) (F : Nat → Prop) (vs : List Value) (ps : List (List Nat)) : Prop :=
 vs.length = ps.length ∧ ∀ (j : Nat) (p : List Nat), ps[j]? = some p → (∀ x ∈ p, x < 256) ∧ ∃ a n c, vs[j]? = some (.slice a n c) ∧ Rd w F a n (p.map fun x => .int .u8 ((x : Nat) : Int))
theorem Parts.keep {w w' : World} {F : Nat → Prop} {vs : List Value} {ps : List (List Nat)} (h : Parts w F vs ps) (hs : w.heap.size ≤ w'.heap.size) (hk : ∀ k, F k → k < w.heap.size → w'.heap[k]? = w.heap[k]?) : Parts w' F vs ps :=
 ⟨h.1, fun j p hj => by
  obtain ⟨hx, a, n, c, hv, hr⟩ := h.2 j p hj
  exact ⟨hx, a, n, c, hv, hr.keep hs hk⟩⟩
theorem Parts.nil (w : World) (F : Nat → Prop) : Parts w F [] [] := ⟨rfl, fun j p h => by simp at h⟩
def upto (ps : List (List Nat)) (k : Nat) : List Nat := (ps.take k).flatten
theorem upto_succ (ps : List (List Nat)) {k : Nat} {p : List Nat} (h : ps[k]? = some p) : upto ps (k + 1) = upto ps k ++ p := by
 unfold upto
 rw [List.take_add_one, h, Option.toList_some, List.flatten_append]
 simp
theorem upto_all (ps : List (List Nat)) : upto ps ps.length = ps.flatten := by unfold upto; rw [List.take_length]
theorem upto_le (ps : List (List Nat)) (k : Nat) : (upto ps k).length ≤ ps.flatten.length := by
 unfold upto
 have h : ps.flatten.length = (ps.take k).flatten.length + (ps.drop k).flatten.length := by
  rw [← List.length_append, ← List.flatten_append, List.take_append_drop]
 omega
theorem upto_lt {ps : List (List Nat)} (h : ∀ p ∈ ps, ∀ x ∈ p, x < 256) (k : Nat) : ∀ x ∈ upto ps k, x < 256 := by
 intro x hx
 obtain ⟨p, hp, hx⟩ := List.mem_flatten.1 hx
 exact h p (List.mem_of_mem_take hp) x hx
theorem Parts.all {w : World} {F : Nat → Prop} {vs : List Value} {ps : List (List Nat)} (h : Parts w F vs ps) : ∀ p ∈ ps, ∀ x ∈ p, x < 256 := by
 intro p hp
 obtain ⟨j, hj⟩ := List.getElem?_of_mem hp
 exact (h.2 j p hj).1
theorem Only.ks {S : Nat → Prop} {w w' : World} (h : Only S w w') (hs : ¬ S 2) (hk : Ks32 w) : Ks32 w' := hk.keep (h.block 2 hk.lt hs)
def dig64 (t : S8x64 × List Nat × Nat) : List Value := Tabs .u8 (sby64 (fnl64 t).list) 64
theorem dig64_one (t : S8x64 × List Nat × Nat) : (dig64 t).toArray.all (·.oneCell') = true := Tabs_one ..
theorem dig64_len (t : S8x64 × List Nat × Nat) : (dig64 t).length = 64 := Tabs_length ..
theorem list64_lt {s : S8x64} (h : s.ok) : ∀ x ∈ s.list, x < 18446744073709551616 := by
 obtain ⟨h1, h2, h3, h4, h5, h6, h7, h8⟩ := h
 intro x hx
 simp only [S8x64.list, List.mem_cons, List.not_mem_nil, or_false] at hx
 rcases hx with rfl | rfl | rfl | rfl | rfl | rfl | rfl | rfl <;> assumption
theorem Only.ks64 {S : Nat → Prop} {w w' : World} (h : Only S w w') (hs : ¬ S 7) (hk : Ks64 w) : Ks64 w' := hk.keep (h.block 7 hk.lt hs)
theorem st64_size {t : S8x64 × List Nat × Nat} (h : Gd64 t) : (St64 t).size = 25 := by unfold St64; rw [List.size_toArray, List.length_append, Us64_length, List.length_append, list64_len, h.len]; rfl
theorem st64_one (t : S8x64 × List Nat × Nat) : (St64 t).all (·.oneCell') = true := by
 unfold St64
 rw [List.all_toArray, List.all_eq_true]
 intro v hv
 rcases List.mem_append.1 hv with hv | hv
 ·exact Us64_one _ v hv
 ·rw [List.mem_singleton.1 hv]; rfl
set_option maxHeartbeats 1600000 in
theorem sum512 (ps : List (List Nat)) (vs : List Value) (A : Option Addr) (m cap : Nat) (w : World) (hk : Ks64 w) (hs : Ss64 w) (hr : Rd w (fun _ => True) A m vs) (hp : Parts w (· < w.heap.size) vs ps) (hm : m < 4611686018427387904) (hn : ps.flatten.length < 1152921504606846976) :
  Calls Tryz.prog 49 #[.slice A m cap] w fun e w' => e = .returned (.agg (dig64 (fed64 beg64 ps.flatten)).toArray) ∧ Below w.heap.size w w' := by
 have hl : ps.length = m := by rw [← hp.1]; exact hr.1
 have HK := yH hk
 have HR := yH hr
 have HP := yH hp
 have HN := yH hn
 have HL := yH hl
 have hb0 : Below w.heap.size w (w.alloc (.cells #[Value.int .u8 0, Value.int .u8 0, Value.int .u8 0, Value.int .u8 0, Value.int .u8 0, Value.int .u8 0, Value.int .u8 0, Value.int .u8 0, Value.int .u8 0, Value.int .u8 0, Value.int .u8 0, Value.int .u8 0, Value.int .u8 0, Value.int .u8 0, Value.int .u8 0, Value.int .u8 0, Value.int .u8 0, Value.int .u8 0, Value.int .u8 0, Value.int .u8 0, Value.int .u8 0, Value.int .u8 0, Value.int .u8 0, Value.int .u8 0, Value.int .u8 0, Value.int .u8 0, Value.int .u8 0, Value.int .u8 0, Value.int .u8 0, Value.int .u8 0, Value.int .u8 0, Value.int .u8 0, Value.int .u8 0, Value.int .u8 0, Value.int .u8 0, Value.int .u8 0, Value.int .u8 0, Value.int .u8 0, Value.int .u8 0, Value.int .u8 0, Value.int .u8 0, Value.int .u8 0, Value.int .u8 0, Value.int .u8 0, Value.int .u8 0, Value.int .u8 0, Value.int .u8 0, Value.int .u8 0, Value.int .u8 0, Value.int .u8 0, Value.int .u8 0, Value.int .u8 0, Value.int .u8 0, Value.int .u8 0, Value.int .u8 0, Value.int .u8 0, Value.int .u8 0, Value.int .u8 0, Value.int .u8 0, Value.int .u8 0, Value.int .u8 0, Value.int .u8 0, Value.int .u8 0, Value.int .u8 0] 30)) := (Below.refl _ _).alloc (Nat.le_refl _) _
 have hres : Row (w.alloc (.cells #[Value.int .u8 0, Value.int .u8 0, Value.int .u8 0, Value.int .u8 0, Value.int .u8 0, Value.int .u8 0, Value.int .u8 0, Value.int .u8 0, Value.int .u8 0, Value.int .u8 0, Value.int .u8 0, Value.int .u8 0, Value.int .u8 0, Value.int .u8 0, Value.int .u8 0, Value.int .u8 0, Value.int .u8 0, Value.int .u8 0, Value.int .u8 0, Value.int .u8 0, Value.int .u8 0, Value.int .u8 0, Value.int .u8 0, Value.int .u8 0, Value.int .u8 0, Value.int .u8 0, Value.int .u8 0, Value.int .u8 0, Value.int .u8 0, Value.int .u8 0, Value.int .u8 0, Value.int .u8 0, Value.int .u8 0, Value.int .u8 0, Value.int .u8 0, Value.int .u8 0, Value.int .u8 0, Value.int .u8 0, Value.int .u8 0, Value.int .u8 0, Value.int .u8 0, Value.int .u8 0, Value.int .u8 0, Value.int .u8 0, Value.int .u8 0, Value.int .u8 0, Value.int .u8 0, Value.int .u8 0, Value.int .u8 0, Value.int .u8 0, Value.int .u8 0, Value.int .u8 0, Value.int .u8 0, Value.int .u8 0, Value.int .u8 0, Value.int .u8 0, Value.int .u8 0, Value.int .u8 0, Value.int .u8 0, Value.int .u8 0, Value.int .u8 0, Value.int .u8 0, Value.int .u8 0, Value.int .u8 0] 30)) w.heap.size 30 (List.replicate 64 (.int .u8 0)) := heap_alloc_new _ _
 have hs1 : Ss64 (w.alloc (.cells #[Value.int .u8 0, Value.int .u8 0, Value.int .u8 0, Value.int .u8 0, Value.int .u8 0, Value.int .u8 0, Value.int .u8 0, Value.int .u8 0, Value.int .u8 0, Value.int .u8 0, Value.int .u8 0, Value.int .u8 0, Value.int .u8 0, Value.int .u8 0, Value.int .u8 0, Value.int .u8 0, Value.int .u8 0, Value.int .u8 0, Value.int .u8 0, Value.int .u8 0, Value.int .u8 0, Value.int .u8 0, Value.int .u8 0, Value.int .u8 0, Value.int .u8 0, Value.int .u8 0, Value.int .u8 0, Value.int .u8 0, Value.int .u8 0, Value.int .u8 0, Value.int .u8 0, Value.int .u8 0, Value.int .u8 0, Value.int .u8 0, Value.int .u8 0, Value.int .u8 0, Value.int .u8 0, Value.int .u8 0, Value.int .u8 0, Value.int .u8 0, Value.int .u8 0, Value.int .u8 0, Value.int .u8 0, Value.int .u8 0, Value.int .u8 0, Value.int .u8 0, Value.int .u8 0, Value.int .u8 0, Value.int .u8 0, Value.int .u8 0, Value.int .u8 0, Value.int .u8 0, Value.int .u8 0, Value.int .u8 0, Value.int .u8 0, Value.int .u8 0, Value.int .u8 0, Value.int .u8 0, Value.int .u8 0, Value.int .u8 0, Value.int .u8 0, Value.int .u8 0, Value.int .u8 0, Value.int .u8 0] 30)) := hs.keep (Below.heap_alloc _ _ _ hs.lt)
 have hz1 : (w.alloc (.cells #[Value.int .u8 0, Value.int .u8 0, Value.int .u8 0, Value.int .u8 0, Value.int .u8 0, Value.int .u8 0, Value.int .u8 0, Value.int .u8 0, Value.int .u8 0, Value.int .u8 0, Value.int .u8 0, Value.int .u8 0, Value.int .u8 0, Value.int .u8 0, Value.int .u8 0, Value.int .u8 0, Value.int .u8 0, Value.int .u8 0, Value.int .u8 0, Value.int .u8 0, Value.int .u8 0, Value.int .u8 0, Value.int .u8 0, Value.int .u8 0, Value.int .u8 0, Value.int .u8 0, Value.int .u8 0, Value.int .u8 0, Value.int .u8 0, Value.int .u8 0, Value.int .u8 0, Value.int .u8 0, Value.int .u8 0, Value.int .u8 0, Value.int .u8 0, Value.int .u8 0, Value.int .u8 0, Value.int .u8 0, Value.int .u8 0, Value.int .u8 0, Value.int .u8 0, Value.int .u8 0, Value.int .u8 0, Value.int .u8 0, Value.int .u8 0, Value.int .u8 0, Value.int .u8 0, Value.int .u8 0, Value.int .u8 0, Value.int .u8 0, Value.int .u8 0, Value.int .u8 0, Value.int .u8 0, Value.int .u8 0, Value.int .u8 0, Value.int .u8 0, Value.int .u8 0, Value.int .u8 0, Value.int .u8 0, Value.int .u8 0, Value.int .u8 0, Value.int .u8 0, Value.int .u8 0, Value.int .u8 0] 30)).heap.size = w.heap.size + 1 := by simp
 have HB0 := yH hb0
 have HRES := yH hres
 have HS1 := yH hs1
 have HZ1 := yH hz1
 clear hk hs hr hp hn hl hb0 hres hs1 hz1
 go_enter Tryz.func49, Tryz.ntmps49
 go_wp2_with fail
 generalize hW : w.alloc (.cells #[Value.int .u8 0, Value.int .u8 0, Value.int .u8 0, Value.int .u8 0, Value.int .u8 0, Value.int .u8 0, Value.int .u8 0, Value.int .u8 0, Value.int .u8 0, Value.int .u8 0, Value.int .u8 0, Value.int .u8 0, Value.int .u8 0, Value.int .u8 0, Value.int .u8 0, Value.int .u8 0, Value.int .u8 0, Value.int .u8 0, Value.int .u8 0, Value.int .u8 0, Value.int .u8 0, Value.int .u8 0, Value.int .u8 0, Value.int .u8 0, Value.int .u8 0, Value.int .u8 0, Value.int .u8 0, Value.int .u8 0, Value.int .u8 0, Value.int .u8 0, Value.int .u8 0, Value.int .u8 0, Value.int .u8 0, Value.int .u8 0, Value.int .u8 0, Value.int .u8 0, Value.int .u8 0, Value.int .u8 0, Value.int .u8 0, Value.int .u8 0, Value.int .u8 0, Value.int .u8 0, Value.int .u8 0, Value.int .u8 0, Value.int .u8 0, Value.int .u8 0, Value.int .u8 0, Value.int .u8 0, Value.int .u8 0, Value.int .u8 0, Value.int .u8 0, Value.int .u8 0, Value.int .u8 0, Value.int .u8 0, Value.int .u8 0, Value.int .u8 0, Value.int .u8 0, Value.int .u8 0, Value.int .u8 0, Value.int .u8 0, Value.int .u8 0, Value.int .u8 0, Value.int .u8 0, Value.int .u8 0] 30) = W at *
 clear hW
 refine (start64 W HS1.out).mono ?_
 rintro e w0 ⟨rfl, hb1⟩
 have hst : (Us64 (beg64.1.list ++ List.replicate 16 0) ++ [Value.int .i64 0]).toArray = St64 beg64 := rfl
 rw [hst]
 clear hst
 have hb00 : Below w.heap.size w w0 := HB0.out.trans (hb1.mono (by rw [HZ1.out]; omega))
 have hres0 : Row w0 w.heap.size 30 (List.replicate 64 (.int .u8 0)) := (hb1.block _ (by rw [HZ1.out]; omega)).trans HRES.out
 have hgw : w.heap.size + 1 ≤ w0.heap.size := by rw [← HZ1.out]; exact hb1.size
 have hnew : (w0.alloc (.cells #[Value.int .u64 0, Value.int .u64 0, Value.int .u64 0, Value.int .u64 0, Value.int .u64 0, Value.int .u64 0, Value.int .u64 0, Value.int .u64 0, Value.int .u64 0, Value.int .u64 0, Value.int .u64 0, Value.int .u64 0, Value.int .u64 0, Value.int .u64 0, Value.int .u64 0, Value.int .u64 0, Value.int .u64 0, Value.int .u64 0, Value.int .u64 0, Value.int .u64 0, Value.int .u64 0, Value.int .u64 0, Value.int .u64 0, Value.int .u64 0, Value.int .i64 0] 121)).heap[w0.heap.size]? = some (.cells #[Value.int .u64 0, Value.int .u64 0, Value.int .u64 0, Value.int .u64 0, Value.int .u64 0, Value.int .u64 0, Value.int .u64 0, Value.int .u64 0, Value.int .u64 0, Value.int .u64 0, Value.int .u64 0, Value.int .u64 0, Value.int .u64 0, Value.int .u64 0, Value.int .u64 0, Value.int .u64 0, Value.int .u64 0, Value.int .u64 0, Value.int .u64 0, Value.int .u64 0, Value.int .u64 0, Value.int .u64 0, Value.int .u64 0, Value.int .u64 0, Value.int .i64 0] 121 (0, 0)) := heap_alloc_new _ _
 have hSz : (Tryz.prog.info? 121).map (·.size) = some (St64 beg64).size := by rw [st64_size beg64_good]; kernel_rfl
 have hOld : (#[Value.int .u64 0, Value.int .u64 0, Value.int .u64 0, Value.int .u64 0, Value.int .u64 0, Value.int .u64 0, Value.int .u64 0, Value.int .u64 0, Value.int .u64 0, Value.int .u64 0, Value.int .u64 0, Value.int .u64 0, Value.int .u64 0, Value.int .u64 0, Value.int .u64 0, Value.int .u64 0, Value.int .u64 0, Value.int .u64 0, Value.int .u64 0, Value.int .u64 0, Value.int .u64 0, Value.int .u64 0, Value.int .u64 0, Value.int .u64 0, Value.int .i64 0] : Array Value).size = (St64 beg64).size := by rw [st64_size beg64_good]; rfl
 have hb01 : Below w.heap.size w ((w0.alloc (.cells #[Value.int .u64 0, Value.int .u64 0, Value.int .u64 0, Value.int .u64 0, Value.int .u64 0, Value.int .u64 0, Value.int .u64 0, Value.int .u64 0, Value.int .u64 0, Value.int .u64 0, Value.int .u64 0, Value.int .u64 0, Value.int .u64 0, Value.int .u64 0, Value.int .u64 0, Value.int .u64 0, Value.int .u64 0, Value.int .u64 0, Value.int .u64 0, Value.int .u64 0, Value.int .u64 0, Value.int .u64 0, Value.int .u64 0, Value.int .u64 0, Value.int .i64 0] 121)).setRow w0.heap.size (St64 beg64)) := below_setRow (hb00.alloc hb00.size _) hb00.size _
 have ht1 : Tb64 ((w0.alloc (.cells #[Value.int .u64 0, Value.int .u64 0, Value.int .u64 0, Value.int .u64 0, Value.int .u64 0, Value.int .u64 0, Value.int .u64 0, Value.int .u64 0, Value.int .u64 0, Value.int .u64 0, Value.int .u64 0, Value.int .u64 0, Value.int .u64 0, Value.int .u64 0, Value.int .u64 0, Value.int .u64 0, Value.int .u64 0, Value.int .u64 0, Value.int .u64 0, Value.int .u64 0, Value.int .u64 0, Value.int .u64 0, Value.int .u64 0, Value.int .u64 0, Value.int .i64 0] 121)).setRow w0.heap.size (St64 beg64)) w0.heap.size 121 beg64.1.list beg64.2.1 (beg64.2.2 : Int) := setRow_heap _ _ _ _ _ _ hnew
 have hres1 : Row ((w0.alloc (.cells #[Value.int .u64 0, Value.int .u64 0, Value.int .u64 0, Value.int .u64 0, Value.int .u64 0, Value.int .u64 0, Value.int .u64 0, Value.int .u64 0, Value.int .u64 0, Value.int .u64 0, Value.int .u64 0, Value.int .u64 0, Value.int .u64 0, Value.int .u64 0, Value.int .u64 0, Value.int .u64 0, Value.int .u64 0, Value.int .u64 0, Value.int .u64 0, Value.int .u64 0, Value.int .u64 0, Value.int .u64 0, Value.int .u64 0, Value.int .u64 0, Value.int .i64 0] 121)).setRow w0.heap.size (St64 beg64)) w.heap.size 30 (List.replicate 64 (.int .u8 0)) :=
  ((below_setRow ((Below.refl w0.heap.size w0).alloc (Nat.le_refl _) _) (Nat.le_refl _) _).block _ (by omega)).trans hres0
 have hk2 : Ks64 ((w0.alloc (.cells #[Value.int .u64 0, Value.int .u64 0, Value.int .u64 0, Value.int .u64 0, Value.int .u64 0, Value.int .u64 0, Value.int .u64 0, Value.int .u64 0, Value.int .u64 0, Value.int .u64 0, Value.int .u64 0, Value.int .u64 0, Value.int .u64 0, Value.int .u64 0, Value.int .u64 0, Value.int .u64 0, Value.int .u64 0, Value.int .u64 0, Value.int .u64 0, Value.int .u64 0, Value.int .u64 0, Value.int .u64 0, Value.int .u64 0, Value.int .u64 0, Value.int .i64 0] 121)).setRow w0.heap.size (St64 beg64)) := HK.out.below hb01 HK.out.lt
 have hp1 : Parts ((w0.alloc (.cells #[Value.int .u64 0, Value.int .u64 0, Value.int .u64 0, Value.int .u64 0, Value.int .u64 0, Value.int .u64 0, Value.int .u64 0, Value.int .u64 0, Value.int .u64 0, Value.int .u64 0, Value.int .u64 0, Value.int .u64 0, Value.int .u64 0, Value.int .u64 0, Value.int .u64 0, Value.int .u64 0, Value.int .u64 0, Value.int .u64 0, Value.int .u64 0, Value.int .u64 0, Value.int .u64 0, Value.int .u64 0, Value.int .u64 0, Value.int .u64 0, Value.int .i64 0] 121)).setRow w0.heap.size (St64 beg64)) (· < w.heap.size) vs ps := HP.out.keep hb01.size (fun k _ hl => hb01.block k hl)
 have HT1 := yH ht1
 have HGW := yH hgw
 have HB01 := yH hb01
 have HRES1 := yH hres1
 have HK2 := yH hk2
 have HP1 := yH hp1
 have HNEW := yH hnew
 have HSZ := yH hSz
 have HOLD := yH hOld
 have hgl := ht1.lt
 have HGL := yH hgl
 clear ht1 hgw hb01 hres1 hk2 hp1 hb1 hgl hb00 hres0 hnew hSz hOld
 have hbg : beg64.2.2 = 0 := rfl
 have hgd := beg64_good
 have HBG := yH hbg
 have HGD := yH hgd
 clear hbg hgd
 generalize hbgg : beg64 = bg at *
 have HBGG := yH hbgg
 clear hbgg
 go_wp2_with (refine wpList_store_row rfl 121 (.tmp 3) (.tmp 7) rfl w0.heap.size _ rfl rfl 121 _ HNEW.out HSZ.out HOLD.out (st64_one _) ?_)
 clear HNEW HSZ HOLD
 generalize (w0.alloc (.cells #[Value.int .u64 0, Value.int .u64 0, Value.int .u64 0, Value.int .u64 0, Value.int .u64 0, Value.int .u64 0, Value.int .u64 0, Value.int .u64 0, Value.int .u64 0, Value.int .u64 0, Value.int .u64 0, Value.int .u64 0, Value.int .u64 0, Value.int .u64 0, Value.int .u64 0, Value.int .u64 0, Value.int .u64 0, Value.int .u64 0, Value.int .u64 0, Value.int .u64 0, Value.int .u64 0, Value.int .u64 0, Value.int .u64 0, Value.int .u64 0, Value.int .i64 0] 121)).setRow w0.heap.size (St64 bg) = w1 at *
 generalize w0.heap.size = g at *
 go_loopw [10] (fun i wr => ∃ k : Nat, k ≤ m ∧ i = .int .i64 k ∧ Tb64 wr g 121 (fed64 bg (upto ps k)).1.list (fed64 bg (upto ps k)).2.1 ((fed64 bg (upto ps k)).2.2 : Int) ∧ Only (· = g) w1 wr) (fun i _ => m - (intOf i).toNat)
 case atStart => exact ⟨0, Nat.zero_le _, rfl, HT1.out, Only.refl _ _⟩
 case round =>
  obtain ⟨k, hkm, rfl, hat, hon⟩ := hrel
  by_cases hlt : k < m
  ·have hkp : k < ps.length := by rw [HL.out]; exact hlt
   obtain ⟨hx, a, n, c, hv, hrd⟩ := HP1.out.2 k ps[k] (List.getElem?_eq_getElem hkp)
   have hup := upto_succ ps (List.getElem?_eq_getElem hkp)
   have hle := upto_le ps (k + 1)
   obtain ⟨ad, e, _, hB, hC⟩ := HR.out.2 (by omega)
   have hc := hC k _ hv
   have hsz : (fed64 bg (upto ps k)).2.2 = (upto ps k).length := by rw [fed64_size, HBG.out]; omega
   have hgd : Gd64 (fed64 bg (upto ps k)) := HGD.out.fed (upto_lt HP1.out.all k)
   have hlen : (upto ps (k + 1)).length = (upto ps k).length + ps[k].length := by rw [hup, List.length_append]
   have hfe : fed64 bg (upto ps (k + 1)) = fed64 (fed64 bg (upto ps k)) ps[k] := by rw [hup, fed64_append]
   have hbound : (fed64 bg (upto ps k)).2.2 + ps[k].length < 4611686018427387904 := by have := HN.out; omega
   have hg2 : g ≠ 7 := fun e2 => by have := HGW.out; have := HK.out.lt; omega
   have hks : Ks64 wr := hon.ks64 (fun e2 => hg2 e2.symm) HK2.out
   generalize fed64 bg (upto ps k) = u at *
   generalize ps[k] = p at *
   have hrd2 : Rd wr (fun k => k ≠ g) a n (p.map fun x => .int .u8 ((x : Nat) : Int)) :=
    (hrd.keep hon.size (fun k hF hl => hon.block k hl (fun e2 => by have := HGW.out; have e3 : k = g := e2; omega))).mono (fun k _ hF => by have := HGW.out; omega)
   have hwr := take64 u p a n c 121 g wr hx hgd hks hat hbound hg2 hrd2
   have HWR := yH hwr
   have HFE := yH hfe
   have HON := yH hon
   subst e
   have hbg : ad.block ≠ g := by have := HGW.out; omega
   have hc2 := (hon.cell (a := ad.add k) (by rw [add_block]; exact hbg) (by rw [add_block]; have := HB01.out.size; omega)).trans ((HB01.out.cell (p := ad.add k) (by rw [add_block]; exact hB)).trans hc)
   clear hbg hx hv hrd hup hle hC hc hsz hgd hlen hfe hbound hks hrd2 hwr hon hat hB hg2
   go_wp2_with fail
   refine HWR.out.mono ?_
   rintro e w4 ⟨rfl, h4, o4⟩
   have H4 := yH h4
   have O4 := yH o4
   clear h4 o4 hc2
   go_wp2_with fail
   go_roundw
   case rel =>
    refine ⟨k + 1, by omega, by go_num, ?_, HON.out.trans O4.out (fun _ _ h => h)⟩
    rw [HFE.out]
    exact H4.out
   case measure => simp [intOf]; omega
  ·obtain rfl : k = m := by omega
   have hal : upto ps k = ps.flatten := by rw [← HL.out]; exact upto_all ps
   rw [hal] at hat
   have hsz : (fed64 bg ps.flatten).2.2 = ps.flatten.length := by rw [fed64_size, HBG.out]; omega
   have hgd : Gd64 (fed64 bg ps.flatten) := by rw [← upto_all]; exact HGD.out.fed (upto_lt HP1.out.all _)
   have hg2 : g ≠ 7 := fun e2 => by have := HGW.out; have := HK.out.lt; omega
   have hks : Ks64 wr := hon.ks64 (fun e2 => hg2 e2.symm) HK2.out
   have hn2 : (fed64 bg ps.flatten).2.2 < 1152921504606846976 := by rw [hsz]; exact HN.out
   have hresr : Row wr w.heap.size 30 (List.replicate 64 (.int .u8 0)) := HRES1.out.only hon (fun e2 => by have := HGW.out; have e3 : w.heap.size = g := e2; omega)
   have hbr : Below w.heap.size w wr := HB01.out.trans (hon.below HB01.out.size (fun k e2 => by have := HGW.out; have e3 : k = g := e2; omega))
   generalize hfin : fed64 bg ps.flatten = fin at *
   have HFIN := yH hfin
   clear hfin
   have hsw : (wr.alloc (.cells #[Value.int .u8 0, Value.int .u8 0, Value.int .u8 0, Value.int .u8 0, Value.int .u8 0, Value.int .u8 0, Value.int .u8 0, Value.int .u8 0, Value.int .u8 0, Value.int .u8 0, Value.int .u8 0, Value.int .u8 0, Value.int .u8 0, Value.int .u8 0, Value.int .u8 0, Value.int .u8 0, Value.int .u8 0, Value.int .u8 0, Value.int .u8 0, Value.int .u8 0, Value.int .u8 0, Value.int .u8 0, Value.int .u8 0, Value.int .u8 0, Value.int .u8 0, Value.int .u8 0, Value.int .u8 0, Value.int .u8 0, Value.int .u8 0, Value.int .u8 0, Value.int .u8 0, Value.int .u8 0, Value.int .u8 0, Value.int .u8 0, Value.int .u8 0, Value.int .u8 0, Value.int .u8 0, Value.int .u8 0, Value.int .u8 0, Value.int .u8 0, Value.int .u8 0, Value.int .u8 0, Value.int .u8 0, Value.int .u8 0, Value.int .u8 0, Value.int .u8 0, Value.int .u8 0, Value.int .u8 0, Value.int .u8 0, Value.int .u8 0, Value.int .u8 0, Value.int .u8 0, Value.int .u8 0, Value.int .u8 0, Value.int .u8 0, Value.int .u8 0, Value.int .u8 0, Value.int .u8 0, Value.int .u8 0, Value.int .u8 0, Value.int .u8 0, Value.int .u8 0, Value.int .u8 0, Value.int .u8 0] 30)).drew.heap[g]? = some (.cells (St64 fin) 121 (0, 0)) := (Below.heap_alloc _ _ _ hat.lt).trans hat
   have hss : (St64 fin).size = 25 := st64_size hgd
   have hkw : Ks64 (wr.alloc (.cells #[Value.int .u8 0, Value.int .u8 0, Value.int .u8 0, Value.int .u8 0, Value.int .u8 0, Value.int .u8 0, Value.int .u8 0, Value.int .u8 0, Value.int .u8 0, Value.int .u8 0, Value.int .u8 0, Value.int .u8 0, Value.int .u8 0, Value.int .u8 0, Value.int .u8 0, Value.int .u8 0, Value.int .u8 0, Value.int .u8 0, Value.int .u8 0, Value.int .u8 0, Value.int .u8 0, Value.int .u8 0, Value.int .u8 0, Value.int .u8 0, Value.int .u8 0, Value.int .u8 0, Value.int .u8 0, Value.int .u8 0, Value.int .u8 0, Value.int .u8 0, Value.int .u8 0, Value.int .u8 0, Value.int .u8 0, Value.int .u8 0, Value.int .u8 0, Value.int .u8 0, Value.int .u8 0, Value.int .u8 0, Value.int .u8 0, Value.int .u8 0, Value.int .u8 0, Value.int .u8 0, Value.int .u8 0, Value.int .u8 0, Value.int .u8 0, Value.int .u8 0, Value.int .u8 0, Value.int .u8 0, Value.int .u8 0, Value.int .u8 0, Value.int .u8 0, Value.int .u8 0, Value.int .u8 0, Value.int .u8 0, Value.int .u8 0, Value.int .u8 0, Value.int .u8 0, Value.int .u8 0, Value.int .u8 0, Value.int .u8 0, Value.int .u8 0, Value.int .u8 0, Value.int .u8 0, Value.int .u8 0] 30)).drew := hks.below (((Below.refl _ _).alloc (Nat.le_refl _) _).drew) hks.lt
   have hbw : Below w.heap.size w (wr.alloc (.cells #[Value.int .u8 0, Value.int .u8 0, Value.int .u8 0, Value.int .u8 0, Value.int .u8 0, Value.int .u8 0, Value.int .u8 0, Value.int .u8 0, Value.int .u8 0, Value.int .u8 0, Value.int .u8 0, Value.int .u8 0, Value.int .u8 0, Value.int .u8 0, Value.int .u8 0, Value.int .u8 0, Value.int .u8 0, Value.int .u8 0, Value.int .u8 0, Value.int .u8 0, Value.int .u8 0, Value.int .u8 0, Value.int .u8 0, Value.int .u8 0, Value.int .u8 0, Value.int .u8 0, Value.int .u8 0, Value.int .u8 0, Value.int .u8 0, Value.int .u8 0, Value.int .u8 0, Value.int .u8 0, Value.int .u8 0, Value.int .u8 0, Value.int .u8 0, Value.int .u8 0, Value.int .u8 0, Value.int .u8 0, Value.int .u8 0, Value.int .u8 0, Value.int .u8 0, Value.int .u8 0, Value.int .u8 0, Value.int .u8 0, Value.int .u8 0, Value.int .u8 0, Value.int .u8 0, Value.int .u8 0, Value.int .u8 0, Value.int .u8 0, Value.int .u8 0, Value.int .u8 0, Value.int .u8 0, Value.int .u8 0, Value.int .u8 0, Value.int .u8 0, Value.int .u8 0, Value.int .u8 0, Value.int .u8 0, Value.int .u8 0, Value.int .u8 0, Value.int .u8 0, Value.int .u8 0, Value.int .u8 0] 30)).drew := ((hbr.alloc hbr.size _).drew)
   have hws : (wr.alloc (.cells #[Value.int .u8 0, Value.int .u8 0, Value.int .u8 0, Value.int .u8 0, Value.int .u8 0, Value.int .u8 0, Value.int .u8 0, Value.int .u8 0, Value.int .u8 0, Value.int .u8 0, Value.int .u8 0, Value.int .u8 0, Value.int .u8 0, Value.int .u8 0, Value.int .u8 0, Value.int .u8 0, Value.int .u8 0, Value.int .u8 0, Value.int .u8 0, Value.int .u8 0, Value.int .u8 0, Value.int .u8 0, Value.int .u8 0, Value.int .u8 0, Value.int .u8 0, Value.int .u8 0, Value.int .u8 0, Value.int .u8 0, Value.int .u8 0, Value.int .u8 0, Value.int .u8 0, Value.int .u8 0, Value.int .u8 0, Value.int .u8 0, Value.int .u8 0, Value.int .u8 0, Value.int .u8 0, Value.int .u8 0, Value.int .u8 0, Value.int .u8 0, Value.int .u8 0, Value.int .u8 0, Value.int .u8 0, Value.int .u8 0, Value.int .u8 0, Value.int .u8 0, Value.int .u8 0, Value.int .u8 0, Value.int .u8 0, Value.int .u8 0, Value.int .u8 0, Value.int .u8 0, Value.int .u8 0, Value.int .u8 0, Value.int .u8 0, Value.int .u8 0, Value.int .u8 0, Value.int .u8 0, Value.int .u8 0, Value.int .u8 0, Value.int .u8 0, Value.int .u8 0, Value.int .u8 0, Value.int .u8 0] 30)).drew.heap.size = wr.heap.size + 1 := by simp
   have hr0 : (wr.alloc (.cells #[Value.int .u8 0, Value.int .u8 0, Value.int .u8 0, Value.int .u8 0, Value.int .u8 0, Value.int .u8 0, Value.int .u8 0, Value.int .u8 0, Value.int .u8 0, Value.int .u8 0, Value.int .u8 0, Value.int .u8 0, Value.int .u8 0, Value.int .u8 0, Value.int .u8 0, Value.int .u8 0, Value.int .u8 0, Value.int .u8 0, Value.int .u8 0, Value.int .u8 0, Value.int .u8 0, Value.int .u8 0, Value.int .u8 0, Value.int .u8 0, Value.int .u8 0, Value.int .u8 0, Value.int .u8 0, Value.int .u8 0, Value.int .u8 0, Value.int .u8 0, Value.int .u8 0, Value.int .u8 0, Value.int .u8 0, Value.int .u8 0, Value.int .u8 0, Value.int .u8 0, Value.int .u8 0, Value.int .u8 0, Value.int .u8 0, Value.int .u8 0, Value.int .u8 0, Value.int .u8 0, Value.int .u8 0, Value.int .u8 0, Value.int .u8 0, Value.int .u8 0, Value.int .u8 0, Value.int .u8 0, Value.int .u8 0, Value.int .u8 0, Value.int .u8 0, Value.int .u8 0, Value.int .u8 0, Value.int .u8 0, Value.int .u8 0, Value.int .u8 0, Value.int .u8 0, Value.int .u8 0, Value.int .u8 0, Value.int .u8 0, Value.int .u8 0, Value.int .u8 0, Value.int .u8 0, Value.int .u8 0] 30)).drew.heap[w.heap.size]? = some (.cells (List.replicate 64 (Value.int .u8 0)).toArray 30 (0, 0)) := (Below.heap_alloc _ _ _ hresr.lt).trans hresr
   have hr1 : (wr.alloc (.cells #[Value.int .u8 0, Value.int .u8 0, Value.int .u8 0, Value.int .u8 0, Value.int .u8 0, Value.int .u8 0, Value.int .u8 0, Value.int .u8 0, Value.int .u8 0, Value.int .u8 0, Value.int .u8 0, Value.int .u8 0, Value.int .u8 0, Value.int .u8 0, Value.int .u8 0, Value.int .u8 0, Value.int .u8 0, Value.int .u8 0, Value.int .u8 0, Value.int .u8 0, Value.int .u8 0, Value.int .u8 0, Value.int .u8 0, Value.int .u8 0, Value.int .u8 0, Value.int .u8 0, Value.int .u8 0, Value.int .u8 0, Value.int .u8 0, Value.int .u8 0, Value.int .u8 0, Value.int .u8 0, Value.int .u8 0, Value.int .u8 0, Value.int .u8 0, Value.int .u8 0, Value.int .u8 0, Value.int .u8 0, Value.int .u8 0, Value.int .u8 0, Value.int .u8 0, Value.int .u8 0, Value.int .u8 0, Value.int .u8 0, Value.int .u8 0, Value.int .u8 0, Value.int .u8 0, Value.int .u8 0, Value.int .u8 0, Value.int .u8 0, Value.int .u8 0, Value.int .u8 0, Value.int .u8 0, Value.int .u8 0, Value.int .u8 0, Value.int .u8 0, Value.int .u8 0, Value.int .u8 0, Value.int .u8 0, Value.int .u8 0, Value.int .u8 0, Value.int .u8 0, Value.int .u8 0, Value.int .u8 0] 30)).drew.heap[wr.heap.size]? = some (.cells (List.replicate 64 (Value.int .u8 0)).toArray 30 (0, 0)) := heap_alloc_new _ _
   have hwl : w.heap.size < wr.heap.size := hresr.lt
   have HSW := yH hsw
   have HSS := yH hss
   have HKW := yH hkw
   have HBW := yH hbw
   have HWS := yH hws
   have HR0 := yH hr0
   have HR1 := yH hr1
   have HGD2 := yH hgd
   have HN2 := yH hn2
   have HWL := yH hwl
   clear hal hat hon hsz hgd hg2 hks hn2 hresr hbr hsw hss hkw hbw hws hr0 hr1 hwl
   go_wp2_with fail
   generalize hW : wr.alloc (.cells #[Value.int .u8 0, Value.int .u8 0, Value.int .u8 0, Value.int .u8 0, Value.int .u8 0, Value.int .u8 0, Value.int .u8 0, Value.int .u8 0, Value.int .u8 0, Value.int .u8 0, Value.int .u8 0, Value.int .u8 0, Value.int .u8 0, Value.int .u8 0, Value.int .u8 0, Value.int .u8 0, Value.int .u8 0, Value.int .u8 0, Value.int .u8 0, Value.int .u8 0, Value.int .u8 0, Value.int .u8 0, Value.int .u8 0, Value.int .u8 0, Value.int .u8 0, Value.int .u8 0, Value.int .u8 0, Value.int .u8 0, Value.int .u8 0, Value.int .u8 0, Value.int .u8 0, Value.int .u8 0, Value.int .u8 0, Value.int .u8 0, Value.int .u8 0, Value.int .u8 0, Value.int .u8 0, Value.int .u8 0, Value.int .u8 0, Value.int .u8 0, Value.int .u8 0, Value.int .u8 0, Value.int .u8 0, Value.int .u8 0, Value.int .u8 0, Value.int .u8 0, Value.int .u8 0, Value.int .u8 0, Value.int .u8 0, Value.int .u8 0, Value.int .u8 0, Value.int .u8 0, Value.int .u8 0, Value.int .u8 0, Value.int .u8 0, Value.int .u8 0, Value.int .u8 0, Value.int .u8 0, Value.int .u8 0, Value.int .u8 0, Value.int .u8 0, Value.int .u8 0, Value.int .u8 0, Value.int .u8 0] 30) = W at *
   refine wp_region_any (by kernel_rfl) ?_
   change wpAny _ _ _ _ _ _ _ (World.drew _)
   refine wpAny_take (i := 2) (v := ?_) rfl (by kernel_rfl) (by kernel_rfl) (by kernel_rfl) (fun _ _ _ h => h) (Or.inl ⟨by rfl, ?_⟩) ?_
   rotate_left
   ·(intro w'; go_simp; try (with_reducible rfl))
   change wpAny _ _ _ _ _ _ (Act.put _ (some 19) _) _
   simp only [Act.put, yA, yB, yC]
   refine wpAny_ready (rs := [0]) (by kernel_rfl) (by simp) ?_
   refine AllReady.cons rfl (fun K hK => ?_) AllReady.nil
   rw [if_pos (by kernel_rfl)]
   refine wp_load_row 121 (.tmp 3) rfl g rfl 121 _ (0, 0) _ (HSW.out) (by rfl) rfl (by rw [HSS.out]; kernel_rfl) ?_
   refine hK _ _ ?_
   clear hK K
   simp only [Act.put, List.setIfInBounds_toArray]
   refine wpAny_ready (rs := [1]) (by kernel_rfl) (by simp) ?_
   refine AllReady.cons rfl (fun K hK => ?_) AllReady.nil
   rw [if_pos (by kernel_rfl)]
   go_simp
   refine (end64 fin W.drew HGD2.out HKW.out HN2.out).mono ?_
   rintro e w3 ⟨rfl, hb3⟩
   refine hK _ _ ?_
   clear hK K
   have hrow3 : Row w3 wr.heap.size 30 (List.replicate 64 (.int .u8 0)) := (hb3.block _ (by rw [HWS.out]; omega)).trans HR1.out
   have hres3 : Row w3 w.heap.size 30 (List.replicate 64 (.int .u8 0)) := (hb3.block _ (by rw [HWS.out]; have := HWL.out; omega)).trans HR0.out
   have hbw3 : Below w.heap.size w w3 := HBW.out.trans (hb3.mono (by rw [HWS.out]; have := HWL.out; omega))
   have HROW3 := yH hrow3
   have HRES3 := yH hres3
   have HBW3 := yH hbw3
   clear hb3 hrow3 hres3 hbw3
   refine wpAny_ready (rs := [3]) (by kernel_rfl) (by simp) ?_
   refine AllReady.cons rfl (fun K hK => ?_) AllReady.nil
   rw [if_pos (by kernel_rfl)]
   go_simp
   refine (spread64 (fnl64 fin).list (list64_len _) (list64_lt (fnl64_ok fin)) wr.heap.size 30 64 w3 HROW3.out).mono ?_
   rintro e w4 ⟨rfl, h4, o4⟩
   refine hK _ _ ?_
   clear hK K
   refine wpAny_done (by kernel_rfl) ?_ _
   have hres4 : w4.heap[w.heap.size]? = some (.cells (List.replicate 64 (Value.int .u8 0)).toArray 30 (0, 0)) := (o4.block _ HRES3.out.lt (fun e => by have := HWL.out; have e' : w.heap.size = wr.heap.size := e; omega)).trans HRES3.out
   have hbw4 : Below w.heap.size w w4 := HBW3.out.trans (o4.below HBW3.out.size (fun k e => by have := HWL.out; have e' : k = wr.heap.size := e; omega))
   have hg4 : w4.heap[wr.heap.size]? = some (.cells (dig64 fin).toArray 30 (0, 0)) := h4
   have hS4 : (Tryz.prog.info? 30).map (·.size) = some (dig64 fin).toArray.size := by rw [List.size_toArray, dig64_len]; kernel_rfl
   have hO4 : (List.replicate 64 (Value.int .u8 0)).toArray.size = (dig64 fin).toArray.size := by rw [List.size_toArray, List.size_toArray, dig64_len, List.length_replicate]
   have HRES4 := yH hres4
   have HBW4 := yH hbw4
   have HG4 := yH hg4
   have HS4 := yH hS4
   have HO4 := yH hO4
   clear hres4 hbw4 hg4 hS4 hO4 h4 o4
   go_wp2_with (first
    | (refine wpList_load_row rfl 30 (.tmp 6) rfl wr.heap.size rfl 30 _ (0, 0) _ HG4.out (by rfl) rfl HS4.out ?_)
    | (refine wpList_store_row rfl 30 (.tmp 2) (.tmp 21) rfl w.heap.size _ rfl rfl 30 _ HRES4.out HS4.out HO4.out (dig64_one fin) ?_))
   have hgot := setRow_heap w4 w.heap.size _ (dig64 fin).toArray _ _ HRES4.out
   refine bodyPost_ret (results_cell_row (by rfl) _ _ w.heap.size _ _ _ _ (by rfl) hgot (by rfl) rfl HS4.out) rfl ?_
   exact ⟨by rw [HBGG.out, HFIN.out], below_setRow HBW4.out (Nat.le_refl _) _⟩
end Go.Proofs.YtnpjecdodhkplaaGreatDoor
