/- The end of a sum: it is filled up, its length laid behind, and its words told. -/
import Derived.Test.YtcdfbcpcgkcojaaDoorStart32
import Derived.Deep.LoopGhost
namespace Go.Proofs.YtcdfbcpcgkcojaaDoor
set_option maxRecDepth 100000
open Go.RowKit

/-- So many zeros fill the block up to its last two words. -/
def pad32 (n : Nat) : Nat := (56 + 64 - (n + 1) % 64) % 64
theorem pad32_hit (n : Nat) : (n + 1 + pad32 n) % 64 = 56 := by unfold pad32; omega
theorem pad32_not (n k : Nat) (h : k < pad32 n) : (n + 1 + k) % 64 ≠ 56 := by unfold pad32 at h; omega
theorem pad32_lt (n : Nat) : pad32 n < 64 := by unfold pad32; omega
/-- The state behind the filling; the last words of its block; the sum. -/
def lst32 (t : S8x32 × List Nat × Nat) (k : Nat) : S8x32 × List Nat × Nat := fed32 t (128 :: List.replicate k 0)
theorem lst32_succ (t : S8x32 × List Nat × Nat) (k : Nat) : lst32 t (k + 1) = (now32 (lst32 t k).1 (lst32 t k).2.1 (lst32 t k).2.2 0, blk32 (lst32 t k).2.1 (lst32 t k).2.2 0, (lst32 t k).2.2 + 1) := by
  unfold lst32
  rw [← fed32_snoc, List.replicate_succ', List.cons_append]
theorem lst32_zero (t : S8x32 × List Nat × Nat) : lst32 t 0 = (now32 t.1 t.2.1 t.2.2 128, blk32 t.2.1 t.2.2 128, t.2.2 + 1) := rfl
theorem lst32_size (t : S8x32 × List Nat × Nat) (k : Nat) : (lst32 t k).2.2 = t.2.2 + 1 + k := by
  unfold lst32
  rw [fed32_size]
  simp
  omega
theorem lst32_good {t : S8x32 × List Nat × Nat} (h : Gd32 t) (k : Nat) : Gd32 (lst32 t k) := by
  refine h.fed ?_
  intro x hx
  rcases List.mem_cons.1 hx with rfl | hx
  · decide
  · rw [List.eq_of_mem_replicate hx]; decide
def hi32 (n : Nat) : Nat := n / 2 ^ (32 - 3) % 4294967296
def lo32 (n : Nat) : Nat := n * 8 % 4294967296
def fbl32 (t : S8x32 × List Nat × Nat) : List Nat := ((lst32 t (pad32 t.2.2)).2.1.set 14 (hi32 t.2.2)).set 15 (lo32 t.2.2)
def fnl32 (t : S8x32 × List Nat × Nat) : S8x32 := mxs32 (lst32 t (pad32 t.2.2)).1 (fbl32 t)
theorem fbl32_len {t : S8x32 × List Nat × Nat} (h : Gd32 t) : (fbl32 t).length = 16 := by unfold fbl32; rw [List.length_set, List.length_set]; exact (lst32_good h _).len
theorem fbl32_lt {t : S8x32 × List Nat × Nat} (h : Gd32 t) : ∀ x ∈ fbl32 t, x < 4294967296 := by
  intro x hx
  unfold fbl32 at hx
  rcases List.mem_or_eq_of_mem_set hx with h' | h'
  · rcases List.mem_or_eq_of_mem_set h' with h' | h'
    · exact (lst32_good h _).lt x h'
    · rw [h']; exact Nat.mod_lt _ (by decide)
  · rw [h']; exact Nat.mod_lt _ (by decide)
theorem fnl32_ok (t : S8x32 × List Nat × Nat) : (fnl32 t).ok := mxs32_ok _ _

theorem Tb32.front {w : World} {g : Nat} {T : TypeId} {l b : List Nat} {n : Int} (h : Tb32 w g T l b n) : w.rangeAt g 0 (Us32 l) := by
  intro j v hv
  have hj : j < (Us32 l).length := (List.getElem?_eq_some_iff.1 hv).1
  rw [Nat.zero_add, cell_of_row w g _ _ _ _ h, List.getElem?_toArray, Us32_append, List.append_assoc, List.getElem?_append_left hj]
  exact hv
theorem list32_len (s : S8x32) : s.list.length = 8 := rfl
/-- The cells of a state, as an array. -/
def St32 (t : S8x32 × List Nat × Nat) : Array Value := (Us32 (t.1.list ++ t.2.1) ++ [Value.int .i64 (t.2.2 : Int)]).toArray
theorem endRow32 (t : S8x32 × List Nat × Nat) (w : World) (o : Obj) : Tb32 ((w.alloc (.cells (St32 t) 66)).alloc o) w.heap.size 66 t.1.list t.2.1 (t.2.2 : Int) := by
  unfold Tb32
  exact (Below.heap_alloc _ _ _ (by simp)).trans (heap_alloc_new _ _)
theorem endSize32 {t : S8x32 × List Nat × Nat} (h : Gd32 t) (w : World) (o : Obj) : ((w.alloc (.cells (St32 t) 66)).alloc o).cell? ⟨w.heap.size, 24, none⟩ = some (.int .i64 (t.2.2 : Int)) :=
  (endRow32 t w o).size rfl h.len
theorem endRes32 (t : S8x32 × List Nat × Nat) (w : World) : ((w.alloc (.cells (St32 t) 66)).alloc (.cells #[Value.int .u32 0, Value.int .u32 0, Value.int .u32 0, Value.int .u32 0, Value.int .u32 0, Value.int .u32 0, Value.int .u32 0, Value.int .u32 0] 63)).heap[w.heap.size + 1]? = some (.cells #[Value.int .u32 0, Value.int .u32 0, Value.int .u32 0, Value.int .u32 0, Value.int .u32 0, Value.int .u32 0, Value.int .u32 0, Value.int .u32 0] 63 (0, 0)) := heap_alloc2_new _ _ _

set_option maxHeartbeats 1600000 in
theorem end32 (t : S8x32 × List Nat × Nat) (w : World) (ht : Gd32 t) (hk : Ks32 w) (hn : t.2.2 < 1152921504606846976) :
    Calls Tryd.prog 32 #[.agg (St32 t)] w fun e w' => e = .returned (.agg (Us32 (fnl32 t).list).toArray) ∧ Below w.heap.size w w' := by
  have hg2 : w.heap.size ≠ 2 := fun e => by have := hk.lt; omega
  have hat := endRow32 t w (.cells #[Value.int .u32 0, Value.int .u32 0, Value.int .u32 0, Value.int .u32 0, Value.int .u32 0, Value.int .u32 0, Value.int .u32 0, Value.int .u32 0] 63)
  have hsz := endSize32 ht w (.cells #[Value.int .u32 0, Value.int .u32 0, Value.int .u32 0, Value.int .u32 0, Value.int .u32 0, Value.int .u32 0, Value.int .u32 0, Value.int .u32 0] 63)
  have hks : Ks32 ((w.alloc (.cells (St32 t) 66)).alloc (.cells #[Value.int .u32 0, Value.int .u32 0, Value.int .u32 0, Value.int .u32 0, Value.int .u32 0, Value.int .u32 0, Value.int .u32 0, Value.int .u32 0] 63)) := hk.below (((Below.refl _ _).alloc (Nat.le_refl _) _).alloc (by simp) _) hk.lt
  have HT := Lib.hid ht
  have HK := Lib.hid hk
  have HN := Lib.hid hn
  have HG := Lib.hid hg2
  have HAT := Lib.hid hat
  have HKS := Lib.hid hks
  have n0 : (0 : Int) ≤ (t.2.2 : Int) := by omega
  have n1 : (t.2.2 : Int) < 1152921504606846976 := by omega
  clear ht hk hn hg2 hat hks
  go_enter Tryd.func32, Tryd.ntmps32
  go_wp2_with fail
  have hput := put32 t.1 t.2.1 t.2.2 128 66 w.heap.size _ HT.out.ok HT.out.len HT.out.lt HKS.out HAT.out (by omega) (by decide) HG.out
  refine hput.mono ?_
  rintro e w1 ⟨rfl, h1, o1⟩
  clear hput
  have hl0 : Tb32 w1 w.heap.size 66 (lst32 t 0).1.list (lst32 t 0).2.1 ((lst32 t 0).2.2 : Int) := h1
  have HL0 := Lib.hid hl0
  have HO1 := Lib.hid o1
  clear h1 o1 hl0 hsz
  go_wp2_with fail
  go_loopg [] (pad32 t.2.2) (fun k wr => ∃ j : Nat, j + k = pad32 t.2.2 ∧ Tb32 wr w.heap.size 66 (lst32 t j).1.list (lst32 t j).2.1 ((lst32 t j).2.2 : Int) ∧ Only (· = w.heap.size) ((w.alloc (.cells (St32 t) 66)).alloc (.cells #[Value.int .u32 0, Value.int .u32 0, Value.int .u32 0, Value.int .u32 0, Value.int .u32 0, Value.int .u32 0, Value.int .u32 0, Value.int .u32 0] 63)) wr)
  case atStart => exact ⟨0, by omega, HL0.out, HO1.out⟩
  case round =>
    obtain ⟨j, hj, hat, hon⟩ := hrel
    have hgd := lst32_good HT.out j
    have hsz := lst32_size t j
    have hpl := pad32_lt t.2.2
    have hks : Ks32 wr := by
      have := HKS.out
      unfold Ks32 at this ⊢
      rw [hon.block 2 HKS.out.lt (fun e => HG.out e.symm)]
      exact this
    have hfl := filled32 (lst32 t j).1.list (lst32 t j).2.1 (lst32 t j).2.2 66 w.heap.size wr hat rfl hgd.len
    have HFL := Lib.hid hfl
    have HGD := Lib.hid hgd
    have HSZ := Lib.hid hsz
    have HKW := Lib.hid hks
    have HAT2 := Lib.hid hat
    have HON := Lib.hid hon
    clear hfl hgd hsz hks hat hon
    by_cases hlt : j < pad32 t.2.2
    · have hne := pad32_not t.2.2 j hlt
      have hb : ((((lst32 t j).2.2 : Nat) : Int) % 64 != 56) = true := by rw [bne_iff_ne, HSZ.out]; omega
      clear hne
      go_wp2_with fail
      refine HFL.out.mono ?_
      rintro e w2 ⟨rfl, q2, rfl⟩
      go_wp2_with fail
      refine (bytes32 _).mono ?_
      rintro e w3 ⟨rfl, rfl⟩
      go_wp2_with fail
      have hks4 : Ks32 (wr.drewN q2) := HKW.out
      have hp := put32 (lst32 t j).1 (lst32 t j).2.1 (lst32 t j).2.2 0 66 w.heap.size (wr.drewN q2) HGD.out.ok HGD.out.len HGD.out.lt hks4 HAT2.out (by rw [HSZ.out]; omega) (by decide) HG.out
      refine hp.mono ?_
      rintro e w4 ⟨rfl, h4, o4⟩
      have h5 : Tb32 w4 w.heap.size 66 (lst32 t (j + 1)).1.list (lst32 t (j + 1)).2.1 ((lst32 t (j + 1)).2.2 : Int) := by rw [lst32_succ]; exact h4
      have H5 := Lib.hid h5
      have O4 := Lib.hid o4
      clear h4 o4 h5 hp hks4 hb
      go_wp2_with fail
      go_roundg (pad32 t.2.2 - (j + 1))
      case measure => omega
      case rel => exact ⟨j + 1, by omega, H5.out, (HON.out.drewN q2).trans O4.out (fun _ _ h => h)⟩
    · obtain rfl : j = pad32 t.2.2 := by omega
      have hhit := pad32_hit t.2.2
      have hb : ((((lst32 t (pad32 t.2.2)).2.2 : Nat) : Int) % 64 != 56) = false := by rw [bne_eq_false_iff_eq, HSZ.out]; omega
      clear hhit
      go_wp2_with fail
      refine HFL.out.mono ?_
      rintro e w2 ⟨rfl, q2, rfl⟩
      go_wp2_with fail
      refine (bytes32 _).mono ?_
      rintro e w3 ⟨rfl, rfl⟩
      go_wp2_with fail
      clear hb
      refine (width32 _).mono ?_
      rintro e w3 ⟨rfl, rfl⟩
      have k14 := Tb32.word (w := wr) HAT2.out rfl (k := 14) (by rw [HGD.out.len]; decide)
      have k15 := Tb32.word (w := wr) HAT2.out rfl (k := 15) (by rw [HGD.out.len]; decide)
      have f14 := Tb32.free (w := wr) HAT2.out 22
      have f15 := Tb32.free (w := wr) HAT2.out 23
      go_wp2_with fail
      have e1 : (t.2.2 : Int) / 536870912 = ((hi32 t.2.2 : Nat) : Int) := by unfold hi32; omega
      have e2 : (t.2.2 : Int) * 8 % 4294967296 = ((lo32 t.2.2 : Nat) : Int) := by unfold lo32; omega
      rw [e1, e2]
      have t14 := Tb32.setWord (w := wr.drewN q2) HAT2.out rfl (k := 14) (by rw [HGD.out.len]; decide) (hi32 t.2.2)
      have t15 := t14.setWord rfl (k := 15) (by rw [List.length_set, HGD.out.len]; decide) (lo32 t.2.2)
      have hks5 : Ks32 (((wr.drewN q2).setCell ⟨w.heap.size, 8 + 14, none⟩ (.int .u32 ((hi32 t.2.2 : Nat) : Int))).setCell ⟨w.heap.size, 8 + 15, none⟩ (.int .u32 ((lo32 t.2.2 : Nat) : Int))) := by
        have := HKW.out
        unfold Ks32 at this ⊢
        rw [Below.heap_setCell _ _ _ _ (fun e => HG.out e.symm), Below.heap_setCell _ _ _ _ (fun e => HG.out e.symm)]
        exact this
      have hmx := mix32 (lst32 t (pad32 t.2.2)).1 (fbl32 t) ((lst32 t (pad32 t.2.2)).2.2 : Int) 66 w.heap.size _ HGD.out.ok (fbl32_len HT.out) (fbl32_lt HT.out) hks5 t15
      have ho5 : Only (· = w.heap.size) ((w.alloc (.cells (St32 t) 66)).alloc (.cells #[Value.int .u32 0, Value.int .u32 0, Value.int .u32 0, Value.int .u32 0, Value.int .u32 0, Value.int .u32 0, Value.int .u32 0, Value.int .u32 0] 63)) (((wr.drewN q2).setCell ⟨w.heap.size, 8 + 14, none⟩ (.int .u32 ((hi32 t.2.2 : Nat) : Int))).setCell ⟨w.heap.size, 8 + 15, none⟩ (.int .u32 ((lo32 t.2.2 : Nat) : Int))) :=
        ((HON.out.drewN q2).setCell (.inl rfl) _).setCell (.inl rfl) _
      have HO5 := Lib.hid ho5
      clear t14 t15 hks5 ho5 k14 k15 f14 f15 e1 e2
      refine hmx.mono ?_
      rintro e w6 ⟨rfl, h6, o6⟩
      clear hmx
      have hfr := h6.front
      have hm6 : mxd32 (lst32 t (pad32 t.2.2)).1 (fbl32 t) = (fnl32 t).list := (mxs32_list _ _).symm
      rw [hm6] at hfr
      have hon6 := HO5.out.trans o6 (fun _ _ h => h)
      have hres : w6.heap[w.heap.size + 1]? = some (.cells #[Value.int .u32 0, Value.int .u32 0, Value.int .u32 0, Value.int .u32 0, Value.int .u32 0, Value.int .u32 0, Value.int .u32 0, Value.int .u32 0] 63 (0, 0)) := (hon6.block _ (by simp) (fun e => by have e' : w.heap.size + 1 = w.heap.size := e; omega)).trans (endRes32 t w)
      have hI : (Tryd.prog.info? 63).map (·.size) = some (Us32 (fnl32 t).list).length := by rw [Us32_length, list32_len]; kernel_rfl
      have hS : (Tryd.prog.info? 63).map (·.size) = some (Us32 (fnl32 t).list).toArray.size := by rw [List.size_toArray, Us32_length, list32_len]; kernel_rfl
      have hold : (#[Value.int .u32 0, Value.int .u32 0, Value.int .u32 0, Value.int .u32 0, Value.int .u32 0, Value.int .u32 0, Value.int .u32 0, Value.int .u32 0] : Array Value).size = (Us32 (fnl32 t).list).toArray.size := by show 8 = (Us32 (fnl32 t).list).toArray.size; rw [List.size_toArray, Us32_length, list32_len]
      have hone := all_oneCell_toArray (Us32_one (fnl32 t).list)
      have HFR := Lib.hid hfr
      have HRES := Lib.hid hres
      have HON6 := Lib.hid hon6
      have HI := Lib.hid hI
      have HS := Lib.hid hS
      have HOLD := Lib.hid hold
      have HONE := Lib.hid hone
      clear hfr hres hon6 hI hS hold hone h6 o6 hm6
      go_wp2_with (first
        | (refine wpList_load_mid rfl 63 (.tmp 26) rfl w.heap.size 0 rfl (Us32 (fnl32 t).list) _ HFR.out rfl rfl HI.out ?_)
        | (refine wpList_store_row rfl 63 (.tmp 2) (.tmp 27) rfl (w.heap.size + 1) _ rfl rfl 63 _ HRES.out HS.out HOLD.out HONE.out ?_))
      have hgot := setRow_heap w6 (w.heap.size + 1) _ (Us32 (fnl32 t).list).toArray _ _ HRES.out
      generalize fnl32 t = fin at *
      refine bodyPost_ret (results_cell_row (by rfl) _ _ (w.heap.size + 1) _ _ _ _ (by rfl) hgot (by rfl) rfl HS.out) rfl ?_
      have hb0 : Below w.heap.size w ((w.alloc (.cells (St32 t) 66)).alloc (.cells #[Value.int .u32 0, Value.int .u32 0, Value.int .u32 0, Value.int .u32 0, Value.int .u32 0, Value.int .u32 0, Value.int .u32 0, Value.int .u32 0] 63)) := ((Below.refl _ _).alloc (Nat.le_refl _) _).alloc (by simp) _
      have hb6 : Below w.heap.size ((w.alloc (.cells (St32 t) 66)).alloc (.cells #[Value.int .u32 0, Value.int .u32 0, Value.int .u32 0, Value.int .u32 0, Value.int .u32 0, Value.int .u32 0, Value.int .u32 0, Value.int .u32 0] 63)) w6 := HON6.out.below (by simp; omega) (fun k e => by have e' : k = w.heap.size := e; omega)
      exact ⟨rfl, below_setRow (hb0.trans hb6) (by omega) _⟩

end Go.Proofs.YtcdfbcpcgkcojaaDoor
