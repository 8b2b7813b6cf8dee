/- SHA-512 of bytes in parts; the sum of a stream that isn't there. -/
import Derived.Test.YtcdfbcpcgkcojaaDoorS256
import Derived.Test.YtcdfbcpcgkcojaaDoorSpr64
namespace Go.Proofs.YtcdfbcpcgkcojaaDoor
set_option maxRecDepth 100000
open Go.RowKit

theorem sum256Nil (w : World) (hk : Ks32 w) (hs : Ss32 w) : Calls Tryd.prog 9 #[.slice none 0 0] w fun e w' => e = .returned (.agg (dig32 beg32).toArray) ∧ Below w.heap.size w w' :=
  sum256 [] [] none 0 0 w hk hs (Rd.nil _ _ _) (Parts.nil _ _) (by decide) (by decide)
set_option maxHeartbeats 800000 in
theorem sumNilOf (fin : S8x32 × List Nat × Nat) (w : World) (h : Calls Tryd.prog 9 #[.slice none 0 0] (w.alloc (.cells #[Value.int .u8 0, Value.int .u8 0, Value.int .u8 0, Value.int .u8 0, Value.int .u8 0, Value.int .u8 0, Value.int .u8 0, Value.int .u8 0, Value.int .u8 0, Value.int .u8 0, Value.int .u8 0, Value.int .u8 0, Value.int .u8 0, Value.int .u8 0, Value.int .u8 0, Value.int .u8 0, Value.int .u8 0, Value.int .u8 0, Value.int .u8 0, Value.int .u8 0, Value.int .u8 0, Value.int .u8 0, Value.int .u8 0, Value.int .u8 0, Value.int .u8 0, Value.int .u8 0, Value.int .u8 0, Value.int .u8 0, Value.int .u8 0, Value.int .u8 0, Value.int .u8 0, Value.int .u8 0] 24)) fun e w' => e = .returned (.agg (dig32 fin).toArray) ∧ Below (w.alloc (.cells #[Value.int .u8 0, Value.int .u8 0, Value.int .u8 0, Value.int .u8 0, Value.int .u8 0, Value.int .u8 0, Value.int .u8 0, Value.int .u8 0, Value.int .u8 0, Value.int .u8 0, Value.int .u8 0, Value.int .u8 0, Value.int .u8 0, Value.int .u8 0, Value.int .u8 0, Value.int .u8 0, Value.int .u8 0, Value.int .u8 0, Value.int .u8 0, Value.int .u8 0, Value.int .u8 0, Value.int .u8 0, Value.int .u8 0, Value.int .u8 0, Value.int .u8 0, Value.int .u8 0, Value.int .u8 0, Value.int .u8 0, Value.int .u8 0, Value.int .u8 0, Value.int .u8 0, Value.int .u8 0] 24)).heap.size (w.alloc (.cells #[Value.int .u8 0, Value.int .u8 0, Value.int .u8 0, Value.int .u8 0, Value.int .u8 0, Value.int .u8 0, Value.int .u8 0, Value.int .u8 0, Value.int .u8 0, Value.int .u8 0, Value.int .u8 0, Value.int .u8 0, Value.int .u8 0, Value.int .u8 0, Value.int .u8 0, Value.int .u8 0, Value.int .u8 0, Value.int .u8 0, Value.int .u8 0, Value.int .u8 0, Value.int .u8 0, Value.int .u8 0, Value.int .u8 0, Value.int .u8 0, Value.int .u8 0, Value.int .u8 0, Value.int .u8 0, Value.int .u8 0, Value.int .u8 0, Value.int .u8 0, Value.int .u8 0, Value.int .u8 0] 24)) w') :
    Calls Tryd.prog 15 #[.pointer none] w fun e w' => e = .returned (.agg (dig32 fin).toArray) ∧ Below w.heap.size w w' := by
  have HSM := Lib.hid h
  have hb0 : Below w.heap.size w (w.alloc (.cells #[Value.int .u8 0, Value.int .u8 0, Value.int .u8 0, Value.int .u8 0, Value.int .u8 0, Value.int .u8 0, Value.int .u8 0, Value.int .u8 0, Value.int .u8 0, Value.int .u8 0, Value.int .u8 0, Value.int .u8 0, Value.int .u8 0, Value.int .u8 0, Value.int .u8 0, Value.int .u8 0, Value.int .u8 0, Value.int .u8 0, Value.int .u8 0, Value.int .u8 0, Value.int .u8 0, Value.int .u8 0, Value.int .u8 0, Value.int .u8 0, Value.int .u8 0, Value.int .u8 0, Value.int .u8 0, Value.int .u8 0, Value.int .u8 0, Value.int .u8 0, Value.int .u8 0, Value.int .u8 0] 24)) := (Below.refl _ _).alloc (Nat.le_refl _) _
  have hres : Row (w.alloc (.cells #[Value.int .u8 0, Value.int .u8 0, Value.int .u8 0, Value.int .u8 0, Value.int .u8 0, Value.int .u8 0, Value.int .u8 0, Value.int .u8 0, Value.int .u8 0, Value.int .u8 0, Value.int .u8 0, Value.int .u8 0, Value.int .u8 0, Value.int .u8 0, Value.int .u8 0, Value.int .u8 0, Value.int .u8 0, Value.int .u8 0, Value.int .u8 0, Value.int .u8 0, Value.int .u8 0, Value.int .u8 0, Value.int .u8 0, Value.int .u8 0, Value.int .u8 0, Value.int .u8 0, Value.int .u8 0, Value.int .u8 0, Value.int .u8 0, Value.int .u8 0, Value.int .u8 0, Value.int .u8 0] 24)) w.heap.size 24 (List.replicate 32 (.int .u8 0)) := heap_alloc_new _ _
  have HB0 := Lib.hid hb0
  have HRES := Lib.hid hres
  clear h hb0 hres
  go_enter Tryd.func15, Tryd.ntmps15
  go_wp2_with fail
  refine HSM.out.mono ?_
  rintro e w5 ⟨rfl, hb5⟩
  have hres5 : w5.heap[w.heap.size]? = some (.cells (List.replicate 32 (Value.int .u8 0)).toArray 24 (0, 0)) := (hb5.block _ (HRES.out.lt)).trans HRES.out
  have hbw5 : Below w.heap.size w w5 := HB0.out.trans (hb5.mono HB0.out.size)
  have hS4 : (Tryd.prog.info? 24).map (·.size) = some (dig32 fin).toArray.size := by rw [List.size_toArray, dig32_len]; kernel_rfl
  have hO4 : (List.replicate 32 (Value.int .u8 0)).toArray.size = (dig32 fin).toArray.size := by rw [List.size_toArray, List.size_toArray, dig32_len, List.length_replicate]
  have HRES5 := Lib.hid hres5
  have HBW5 := Lib.hid hbw5
  have HS4 := Lib.hid hS4
  have HO4 := Lib.hid hO4
  clear hres5 hbw5 hS4 hO4 hb5
  go_wp2_with (refine wpList_store_row rfl 24 (.tmp 2) (.tmp 6) rfl w.heap.size _ rfl rfl 24 _ HRES5.out HS4.out HO4.out (dig32_one fin) ?_)
  have hgot := setRow_heap w5 w.heap.size _ (dig32 fin).toArray _ _ HRES5.out
  refine bodyPost_ret (results_cell_row (by rfl) _ _ w.heap.size _ _ _ _ (by rfl) hgot (by rfl) rfl HS4.out) rfl ?_
  exact ⟨rfl, below_setRow HBW5.out (Nat.le_refl _) _⟩
theorem sumNil (w : World) (hk : Ks32 w) (hs : Ss32 w) :
    Calls Tryd.prog 15 #[.pointer none] w fun e w' => e = .returned (.agg (dig32 beg32).toArray) ∧ Below w.heap.size w w' :=
  sumNilOf beg32 w (sum256Nil _ (hk.below ((Below.refl _ _).alloc (Nat.le_refl _) _) hk.lt) (hs.keep (Below.heap_alloc _ _ _ hs.lt)))

/-- The bytes of the greater sum: behind some bytes. -/
def dig64 (t : S8x64 × List Nat × Nat) : List Value := Tabs .u8 (sby64 (fnl64 t).list) 64
theorem dig64_one (t : S8x64 × List Nat × Nat) : (dig64 t).toArray.all (·.oneCell') = true := Tabs_one ..
theorem dig64_len (t : S8x64 × List Nat × Nat) : (dig64 t).length = 64 := Tabs_length ..
theorem list64_lt {s : S8x64} (h : s.ok) : ∀ x ∈ s.list, x < 18446744073709551616 := by
  obtain ⟨h1, h2, h3, h4, h5, h6, h7, h8⟩ := h
  intro x hx
  simp only [S8x64.list, List.mem_cons, List.not_mem_nil, or_false] at hx
  rcases hx with rfl | rfl | rfl | rfl | rfl | rfl | rfl | rfl <;> assumption
theorem Only.ks64 {S : Nat → Prop} {w w' : World} (h : Only S w w') (hs : ¬ S 2) (hk : Ks64 w) : Ks64 w' := hk.keep (h.block 2 hk.lt hs)
theorem st64_size {t : S8x64 × List Nat × Nat} (h : Gd64 t) : (St64 t).size = 25 := by unfold St64; rw [List.size_toArray, List.length_append, Us64_length, List.length_append, list64_len, h.len]; rfl
theorem st64_one (t : S8x64 × List Nat × Nat) : (St64 t).all (·.oneCell') = true := by
  unfold St64
  rw [List.all_toArray, List.all_eq_true]
  intro v hv
  rcases List.mem_append.1 hv with hv | hv
  · exact Us64_one _ v hv
  · rw [List.mem_singleton.1 hv]; rfl

set_option maxHeartbeats 1600000 in
theorem sum512 (ps : List (List Nat)) (vs : List Value) (A : Option Addr) (m cap : Nat) (w : World) (hk : Ks64 w) (hs : Ss64 w) (hr : Rd w (fun _ => True) A m vs) (hp : Parts w (· < w.heap.size) vs ps) (hm : m < 4611686018427387904) (hn : ps.flatten.length < 1152921504606846976) :
    Calls Tryd.prog 11 #[.slice A m cap] w fun e w' => e = .returned (.agg (dig64 (fed64 beg64 ps.flatten)).toArray) ∧ Below w.heap.size w w' := by
  have hl : ps.length = m := by rw [← hp.1]; exact hr.1
  have HK := Lib.hid hk
  have HR := Lib.hid hr
  have HP := Lib.hid hp
  have HN := Lib.hid hn
  have HL := Lib.hid hl
  have hb0 : Below w.heap.size w (w.alloc (.cells #[Value.int .u8 0, Value.int .u8 0, Value.int .u8 0, Value.int .u8 0, Value.int .u8 0, Value.int .u8 0, Value.int .u8 0, Value.int .u8 0, Value.int .u8 0, Value.int .u8 0, Value.int .u8 0, Value.int .u8 0, Value.int .u8 0, Value.int .u8 0, Value.int .u8 0, Value.int .u8 0, Value.int .u8 0, Value.int .u8 0, Value.int .u8 0, Value.int .u8 0, Value.int .u8 0, Value.int .u8 0, Value.int .u8 0, Value.int .u8 0, Value.int .u8 0, Value.int .u8 0, Value.int .u8 0, Value.int .u8 0, Value.int .u8 0, Value.int .u8 0, Value.int .u8 0, Value.int .u8 0, Value.int .u8 0, Value.int .u8 0, Value.int .u8 0, Value.int .u8 0, Value.int .u8 0, Value.int .u8 0, Value.int .u8 0, Value.int .u8 0, Value.int .u8 0, Value.int .u8 0, Value.int .u8 0, Value.int .u8 0, Value.int .u8 0, Value.int .u8 0, Value.int .u8 0, Value.int .u8 0, Value.int .u8 0, Value.int .u8 0, Value.int .u8 0, Value.int .u8 0, Value.int .u8 0, Value.int .u8 0, Value.int .u8 0, Value.int .u8 0, Value.int .u8 0, Value.int .u8 0, Value.int .u8 0, Value.int .u8 0, Value.int .u8 0, Value.int .u8 0, Value.int .u8 0, Value.int .u8 0] 27)) := (Below.refl _ _).alloc (Nat.le_refl _) _
  have hres : Row (w.alloc (.cells #[Value.int .u8 0, Value.int .u8 0, Value.int .u8 0, Value.int .u8 0, Value.int .u8 0, Value.int .u8 0, Value.int .u8 0, Value.int .u8 0, Value.int .u8 0, Value.int .u8 0, Value.int .u8 0, Value.int .u8 0, Value.int .u8 0, Value.int .u8 0, Value.int .u8 0, Value.int .u8 0, Value.int .u8 0, Value.int .u8 0, Value.int .u8 0, Value.int .u8 0, Value.int .u8 0, Value.int .u8 0, Value.int .u8 0, Value.int .u8 0, Value.int .u8 0, Value.int .u8 0, Value.int .u8 0, Value.int .u8 0, Value.int .u8 0, Value.int .u8 0, Value.int .u8 0, Value.int .u8 0, Value.int .u8 0, Value.int .u8 0, Value.int .u8 0, Value.int .u8 0, Value.int .u8 0, Value.int .u8 0, Value.int .u8 0, Value.int .u8 0, Value.int .u8 0, Value.int .u8 0, Value.int .u8 0, Value.int .u8 0, Value.int .u8 0, Value.int .u8 0, Value.int .u8 0, Value.int .u8 0, Value.int .u8 0, Value.int .u8 0, Value.int .u8 0, Value.int .u8 0, Value.int .u8 0, Value.int .u8 0, Value.int .u8 0, Value.int .u8 0, Value.int .u8 0, Value.int .u8 0, Value.int .u8 0, Value.int .u8 0, Value.int .u8 0, Value.int .u8 0, Value.int .u8 0, Value.int .u8 0] 27)) w.heap.size 27 (List.replicate 64 (.int .u8 0)) := heap_alloc_new _ _
  have hs1 : Ss64 (w.alloc (.cells #[Value.int .u8 0, Value.int .u8 0, Value.int .u8 0, Value.int .u8 0, Value.int .u8 0, Value.int .u8 0, Value.int .u8 0, Value.int .u8 0, Value.int .u8 0, Value.int .u8 0, Value.int .u8 0, Value.int .u8 0, Value.int .u8 0, Value.int .u8 0, Value.int .u8 0, Value.int .u8 0, Value.int .u8 0, Value.int .u8 0, Value.int .u8 0, Value.int .u8 0, Value.int .u8 0, Value.int .u8 0, Value.int .u8 0, Value.int .u8 0, Value.int .u8 0, Value.int .u8 0, Value.int .u8 0, Value.int .u8 0, Value.int .u8 0, Value.int .u8 0, Value.int .u8 0, Value.int .u8 0, Value.int .u8 0, Value.int .u8 0, Value.int .u8 0, Value.int .u8 0, Value.int .u8 0, Value.int .u8 0, Value.int .u8 0, Value.int .u8 0, Value.int .u8 0, Value.int .u8 0, Value.int .u8 0, Value.int .u8 0, Value.int .u8 0, Value.int .u8 0, Value.int .u8 0, Value.int .u8 0, Value.int .u8 0, Value.int .u8 0, Value.int .u8 0, Value.int .u8 0, Value.int .u8 0, Value.int .u8 0, Value.int .u8 0, Value.int .u8 0, Value.int .u8 0, Value.int .u8 0, Value.int .u8 0, Value.int .u8 0, Value.int .u8 0, Value.int .u8 0, Value.int .u8 0, Value.int .u8 0] 27)) := hs.keep (Below.heap_alloc _ _ _ hs.lt)
  have hz1 : (w.alloc (.cells #[Value.int .u8 0, Value.int .u8 0, Value.int .u8 0, Value.int .u8 0, Value.int .u8 0, Value.int .u8 0, Value.int .u8 0, Value.int .u8 0, Value.int .u8 0, Value.int .u8 0, Value.int .u8 0, Value.int .u8 0, Value.int .u8 0, Value.int .u8 0, Value.int .u8 0, Value.int .u8 0, Value.int .u8 0, Value.int .u8 0, Value.int .u8 0, Value.int .u8 0, Value.int .u8 0, Value.int .u8 0, Value.int .u8 0, Value.int .u8 0, Value.int .u8 0, Value.int .u8 0, Value.int .u8 0, Value.int .u8 0, Value.int .u8 0, Value.int .u8 0, Value.int .u8 0, Value.int .u8 0, Value.int .u8 0, Value.int .u8 0, Value.int .u8 0, Value.int .u8 0, Value.int .u8 0, Value.int .u8 0, Value.int .u8 0, Value.int .u8 0, Value.int .u8 0, Value.int .u8 0, Value.int .u8 0, Value.int .u8 0, Value.int .u8 0, Value.int .u8 0, Value.int .u8 0, Value.int .u8 0, Value.int .u8 0, Value.int .u8 0, Value.int .u8 0, Value.int .u8 0, Value.int .u8 0, Value.int .u8 0, Value.int .u8 0, Value.int .u8 0, Value.int .u8 0, Value.int .u8 0, Value.int .u8 0, Value.int .u8 0, Value.int .u8 0, Value.int .u8 0, Value.int .u8 0, Value.int .u8 0] 27)).heap.size = w.heap.size + 1 := by simp
  have HB0 := Lib.hid hb0
  have HRES := Lib.hid hres
  have HS1 := Lib.hid hs1
  have HZ1 := Lib.hid hz1
  clear hk hs hr hp hn hl hb0 hres hs1 hz1
  go_enter Tryd.func11, Tryd.ntmps11
  go_wp2_with fail
  generalize hW : w.alloc (.cells #[Value.int .u8 0, Value.int .u8 0, Value.int .u8 0, Value.int .u8 0, Value.int .u8 0, Value.int .u8 0, Value.int .u8 0, Value.int .u8 0, Value.int .u8 0, Value.int .u8 0, Value.int .u8 0, Value.int .u8 0, Value.int .u8 0, Value.int .u8 0, Value.int .u8 0, Value.int .u8 0, Value.int .u8 0, Value.int .u8 0, Value.int .u8 0, Value.int .u8 0, Value.int .u8 0, Value.int .u8 0, Value.int .u8 0, Value.int .u8 0, Value.int .u8 0, Value.int .u8 0, Value.int .u8 0, Value.int .u8 0, Value.int .u8 0, Value.int .u8 0, Value.int .u8 0, Value.int .u8 0, Value.int .u8 0, Value.int .u8 0, Value.int .u8 0, Value.int .u8 0, Value.int .u8 0, Value.int .u8 0, Value.int .u8 0, Value.int .u8 0, Value.int .u8 0, Value.int .u8 0, Value.int .u8 0, Value.int .u8 0, Value.int .u8 0, Value.int .u8 0, Value.int .u8 0, Value.int .u8 0, Value.int .u8 0, Value.int .u8 0, Value.int .u8 0, Value.int .u8 0, Value.int .u8 0, Value.int .u8 0, Value.int .u8 0, Value.int .u8 0, Value.int .u8 0, Value.int .u8 0, Value.int .u8 0, Value.int .u8 0, Value.int .u8 0, Value.int .u8 0, Value.int .u8 0, Value.int .u8 0] 27) = W at *
  clear hW
  refine (start64 W HS1.out).mono ?_
  rintro e w0 ⟨rfl, hb1⟩
  have hst : (Us64 (beg64.1.list ++ List.replicate 16 0) ++ [Value.int .i64 0]).toArray = St64 beg64 := rfl
  rw [hst]
  clear hst
  have hb00 : Below w.heap.size w w0 := HB0.out.trans (hb1.mono (by rw [HZ1.out]; omega))
  have hres0 : Row w0 w.heap.size 27 (List.replicate 64 (.int .u8 0)) := (hb1.block _ (by rw [HZ1.out]; omega)).trans HRES.out
  have hgw : w.heap.size + 1 ≤ w0.heap.size := by rw [← HZ1.out]; exact hb1.size
  have hnew : (w0.alloc (.cells #[Value.int .u64 0, Value.int .u64 0, Value.int .u64 0, Value.int .u64 0, Value.int .u64 0, Value.int .u64 0, Value.int .u64 0, Value.int .u64 0, Value.int .u64 0, Value.int .u64 0, Value.int .u64 0, Value.int .u64 0, Value.int .u64 0, Value.int .u64 0, Value.int .u64 0, Value.int .u64 0, Value.int .u64 0, Value.int .u64 0, Value.int .u64 0, Value.int .u64 0, Value.int .u64 0, Value.int .u64 0, Value.int .u64 0, Value.int .u64 0, Value.int .i64 0] 58)).heap[w0.heap.size]? = some (.cells #[Value.int .u64 0, Value.int .u64 0, Value.int .u64 0, Value.int .u64 0, Value.int .u64 0, Value.int .u64 0, Value.int .u64 0, Value.int .u64 0, Value.int .u64 0, Value.int .u64 0, Value.int .u64 0, Value.int .u64 0, Value.int .u64 0, Value.int .u64 0, Value.int .u64 0, Value.int .u64 0, Value.int .u64 0, Value.int .u64 0, Value.int .u64 0, Value.int .u64 0, Value.int .u64 0, Value.int .u64 0, Value.int .u64 0, Value.int .u64 0, Value.int .i64 0] 58 (0, 0)) := heap_alloc_new _ _
  have hSz : (Tryd.prog.info? 58).map (·.size) = some (St64 beg64).size := by rw [st64_size beg64_good]; kernel_rfl
  have hOld : (#[Value.int .u64 0, Value.int .u64 0, Value.int .u64 0, Value.int .u64 0, Value.int .u64 0, Value.int .u64 0, Value.int .u64 0, Value.int .u64 0, Value.int .u64 0, Value.int .u64 0, Value.int .u64 0, Value.int .u64 0, Value.int .u64 0, Value.int .u64 0, Value.int .u64 0, Value.int .u64 0, Value.int .u64 0, Value.int .u64 0, Value.int .u64 0, Value.int .u64 0, Value.int .u64 0, Value.int .u64 0, Value.int .u64 0, Value.int .u64 0, Value.int .i64 0] : Array Value).size = (St64 beg64).size := by rw [st64_size beg64_good]; rfl
  have hb01 : Below w.heap.size w ((w0.alloc (.cells #[Value.int .u64 0, Value.int .u64 0, Value.int .u64 0, Value.int .u64 0, Value.int .u64 0, Value.int .u64 0, Value.int .u64 0, Value.int .u64 0, Value.int .u64 0, Value.int .u64 0, Value.int .u64 0, Value.int .u64 0, Value.int .u64 0, Value.int .u64 0, Value.int .u64 0, Value.int .u64 0, Value.int .u64 0, Value.int .u64 0, Value.int .u64 0, Value.int .u64 0, Value.int .u64 0, Value.int .u64 0, Value.int .u64 0, Value.int .u64 0, Value.int .i64 0] 58)).setRow w0.heap.size (St64 beg64)) := below_setRow (hb00.alloc hb00.size _) hb00.size _
  have ht1 : Tb64 ((w0.alloc (.cells #[Value.int .u64 0, Value.int .u64 0, Value.int .u64 0, Value.int .u64 0, Value.int .u64 0, Value.int .u64 0, Value.int .u64 0, Value.int .u64 0, Value.int .u64 0, Value.int .u64 0, Value.int .u64 0, Value.int .u64 0, Value.int .u64 0, Value.int .u64 0, Value.int .u64 0, Value.int .u64 0, Value.int .u64 0, Value.int .u64 0, Value.int .u64 0, Value.int .u64 0, Value.int .u64 0, Value.int .u64 0, Value.int .u64 0, Value.int .u64 0, Value.int .i64 0] 58)).setRow w0.heap.size (St64 beg64)) w0.heap.size 58 beg64.1.list beg64.2.1 (beg64.2.2 : Int) := setRow_heap _ _ _ _ _ _ hnew
  have hres1 : Row ((w0.alloc (.cells #[Value.int .u64 0, Value.int .u64 0, Value.int .u64 0, Value.int .u64 0, Value.int .u64 0, Value.int .u64 0, Value.int .u64 0, Value.int .u64 0, Value.int .u64 0, Value.int .u64 0, Value.int .u64 0, Value.int .u64 0, Value.int .u64 0, Value.int .u64 0, Value.int .u64 0, Value.int .u64 0, Value.int .u64 0, Value.int .u64 0, Value.int .u64 0, Value.int .u64 0, Value.int .u64 0, Value.int .u64 0, Value.int .u64 0, Value.int .u64 0, Value.int .i64 0] 58)).setRow w0.heap.size (St64 beg64)) w.heap.size 27 (List.replicate 64 (.int .u8 0)) :=
    ((below_setRow ((Below.refl w0.heap.size w0).alloc (Nat.le_refl _) _) (Nat.le_refl _) _).block _ (by omega)).trans hres0
  have hk2 : Ks64 ((w0.alloc (.cells #[Value.int .u64 0, Value.int .u64 0, Value.int .u64 0, Value.int .u64 0, Value.int .u64 0, Value.int .u64 0, Value.int .u64 0, Value.int .u64 0, Value.int .u64 0, Value.int .u64 0, Value.int .u64 0, Value.int .u64 0, Value.int .u64 0, Value.int .u64 0, Value.int .u64 0, Value.int .u64 0, Value.int .u64 0, Value.int .u64 0, Value.int .u64 0, Value.int .u64 0, Value.int .u64 0, Value.int .u64 0, Value.int .u64 0, Value.int .u64 0, Value.int .i64 0] 58)).setRow w0.heap.size (St64 beg64)) := HK.out.below hb01 HK.out.lt
  have hp1 : Parts ((w0.alloc (.cells #[Value.int .u64 0, Value.int .u64 0, Value.int .u64 0, Value.int .u64 0, Value.int .u64 0, Value.int .u64 0, Value.int .u64 0, Value.int .u64 0, Value.int .u64 0, Value.int .u64 0, Value.int .u64 0, Value.int .u64 0, Value.int .u64 0, Value.int .u64 0, Value.int .u64 0, Value.int .u64 0, Value.int .u64 0, Value.int .u64 0, Value.int .u64 0, Value.int .u64 0, Value.int .u64 0, Value.int .u64 0, Value.int .u64 0, Value.int .u64 0, Value.int .i64 0] 58)).setRow w0.heap.size (St64 beg64)) (· < w.heap.size) vs ps := HP.out.keep hb01.size (fun k _ hl => hb01.block k hl)
  have HT1 := Lib.hid ht1
  have HGW := Lib.hid hgw
  have HB01 := Lib.hid hb01
  have HRES1 := Lib.hid hres1
  have HK2 := Lib.hid hk2
  have HP1 := Lib.hid hp1
  have HNEW := Lib.hid hnew
  have HSZ := Lib.hid hSz
  have HOLD := Lib.hid hOld
  have hgl := ht1.lt
  have HGL := Lib.hid hgl
  clear ht1 hgw hb01 hres1 hk2 hp1 hb1 hgl hb00 hres0 hnew hSz hOld
  have hbg : beg64.2.2 = 0 := rfl
  have hgd := beg64_good
  have HBG := Lib.hid hbg
  have HGD := Lib.hid hgd
  clear hbg hgd
  generalize hbgg : beg64 = bg at *
  have HBGG := Lib.hid hbgg
  clear hbgg
  go_wp2_with (refine wpList_store_row rfl 58 (.tmp 3) (.tmp 7) rfl w0.heap.size _ rfl rfl 58 _ HNEW.out HSZ.out HOLD.out (st64_one _) ?_)
  clear HNEW HSZ HOLD
  generalize (w0.alloc (.cells #[Value.int .u64 0, Value.int .u64 0, Value.int .u64 0, Value.int .u64 0, Value.int .u64 0, Value.int .u64 0, Value.int .u64 0, Value.int .u64 0, Value.int .u64 0, Value.int .u64 0, Value.int .u64 0, Value.int .u64 0, Value.int .u64 0, Value.int .u64 0, Value.int .u64 0, Value.int .u64 0, Value.int .u64 0, Value.int .u64 0, Value.int .u64 0, Value.int .u64 0, Value.int .u64 0, Value.int .u64 0, Value.int .u64 0, Value.int .u64 0, Value.int .i64 0] 58)).setRow w0.heap.size (St64 bg) = w1 at *
  generalize w0.heap.size = g at *
  go_loopw [10] (fun i wr => ∃ k : Nat, k ≤ m ∧ i = .int .i64 k ∧ Tb64 wr g 58 (fed64 bg (upto ps k)).1.list (fed64 bg (upto ps k)).2.1 ((fed64 bg (upto ps k)).2.2 : Int) ∧ Only (· = g) w1 wr) (fun i _ => m - (intOf i).toNat)
  case atStart => exact ⟨0, Nat.zero_le _, rfl, HT1.out, Only.refl _ _⟩
  case round =>
    obtain ⟨k, hkm, rfl, hat, hon⟩ := hrel
    by_cases hlt : k < m
    · have hkp : k < ps.length := by rw [HL.out]; exact hlt
      obtain ⟨hx, a, n, c, hv, hrd⟩ := HP1.out.2 k ps[k] (List.getElem?_eq_getElem hkp)
      have hup := upto_succ ps (List.getElem?_eq_getElem hkp)
      have hle := upto_le ps (k + 1)
      obtain ⟨ad, e, _, hB, hC⟩ := HR.out.2 (by omega)
      have hc := hC k _ hv
      have hsz : (fed64 bg (upto ps k)).2.2 = (upto ps k).length := by rw [fed64_size, HBG.out]; omega
      have hgd : Gd64 (fed64 bg (upto ps k)) := HGD.out.fed (upto_lt HP1.out.all k)
      have hlen : (upto ps (k + 1)).length = (upto ps k).length + ps[k].length := by rw [hup, List.length_append]
      have hfe : fed64 bg (upto ps (k + 1)) = fed64 (fed64 bg (upto ps k)) ps[k] := by rw [hup, fed64_append]
      have hbound : (fed64 bg (upto ps k)).2.2 + ps[k].length < 4611686018427387904 := by have := HN.out; omega
      have hg2 : g ≠ 2 := fun e2 => by have := HGW.out; have := HK.out.lt; omega
      have hks : Ks64 wr := hon.ks64 (fun e2 => hg2 e2.symm) HK2.out
      generalize fed64 bg (upto ps k) = u at *
      generalize ps[k] = p at *
      have hrd2 : Rd wr (fun k => k ≠ g) a n (p.map fun x => .int .u8 ((x : Nat) : Int)) :=
        (hrd.keep hon.size (fun k hF hl => hon.block k hl (fun e2 => by have := HGW.out; have e3 : k = g := e2; omega))).mono (fun k _ hF => by have := HGW.out; omega)
      have hwr := take64 u p a n c 58 g wr hx hgd hks hat hbound hg2 hrd2
      have HWR := Lib.hid hwr
      have HFE := Lib.hid hfe
      have HON := Lib.hid hon
      subst e
      have hbg : ad.block ≠ g := by have := HGW.out; omega
      have hc2 := (hon.cell (a := ad.add k) (by rw [add_block]; exact hbg) (by rw [add_block]; have := HB01.out.size; omega)).trans ((HB01.out.cell (p := ad.add k) (by rw [add_block]; exact hB)).trans hc)
      clear hbg hx hv hrd hup hle hC hc hsz hgd hlen hfe hbound hks hrd2 hwr hon hat hB hg2
      go_wp2_with fail
      refine HWR.out.mono ?_
      rintro e w4 ⟨rfl, h4, o4⟩
      have H4 := Lib.hid h4
      have O4 := Lib.hid o4
      clear h4 o4 hc2
      go_wp2_with fail
      go_roundw
      case rel =>
        refine ⟨k + 1, by omega, by go_num, ?_, HON.out.trans O4.out (fun _ _ h => h)⟩
        rw [HFE.out]
        exact H4.out
      case measure => simp [intOf]; omega
    · obtain rfl : k = m := by omega
      have hal : upto ps k = ps.flatten := by rw [← HL.out]; exact upto_all ps
      rw [hal] at hat
      have hsz : (fed64 bg ps.flatten).2.2 = ps.flatten.length := by rw [fed64_size, HBG.out]; omega
      have hgd : Gd64 (fed64 bg ps.flatten) := by rw [← upto_all]; exact HGD.out.fed (upto_lt HP1.out.all _)
      have hg2 : g ≠ 2 := fun e2 => by have := HGW.out; have := HK.out.lt; omega
      have hks : Ks64 wr := hon.ks64 (fun e2 => hg2 e2.symm) HK2.out
      have hn2 : (fed64 bg ps.flatten).2.2 < 1152921504606846976 := by rw [hsz]; exact HN.out
      have hresr : Row wr w.heap.size 27 (List.replicate 64 (.int .u8 0)) := HRES1.out.only hon (fun e2 => by have := HGW.out; have e3 : w.heap.size = g := e2; omega)
      have hbr : Below w.heap.size w wr := HB01.out.trans (hon.below HB01.out.size (fun k e2 => by have := HGW.out; have e3 : k = g := e2; omega))
      generalize hfin : fed64 bg ps.flatten = fin at *
      have HFIN := Lib.hid hfin
      clear hfin
      have hsw : (wr.alloc (.cells #[Value.int .u8 0, Value.int .u8 0, Value.int .u8 0, Value.int .u8 0, Value.int .u8 0, Value.int .u8 0, Value.int .u8 0, Value.int .u8 0, Value.int .u8 0, Value.int .u8 0, Value.int .u8 0, Value.int .u8 0, Value.int .u8 0, Value.int .u8 0, Value.int .u8 0, Value.int .u8 0, Value.int .u8 0, Value.int .u8 0, Value.int .u8 0, Value.int .u8 0, Value.int .u8 0, Value.int .u8 0, Value.int .u8 0, Value.int .u8 0, Value.int .u8 0, Value.int .u8 0, Value.int .u8 0, Value.int .u8 0, Value.int .u8 0, Value.int .u8 0, Value.int .u8 0, Value.int .u8 0, Value.int .u8 0, Value.int .u8 0, Value.int .u8 0, Value.int .u8 0, Value.int .u8 0, Value.int .u8 0, Value.int .u8 0, Value.int .u8 0, Value.int .u8 0, Value.int .u8 0, Value.int .u8 0, Value.int .u8 0, Value.int .u8 0, Value.int .u8 0, Value.int .u8 0, Value.int .u8 0, Value.int .u8 0, Value.int .u8 0, Value.int .u8 0, Value.int .u8 0, Value.int .u8 0, Value.int .u8 0, Value.int .u8 0, Value.int .u8 0, Value.int .u8 0, Value.int .u8 0, Value.int .u8 0, Value.int .u8 0, Value.int .u8 0, Value.int .u8 0, Value.int .u8 0, Value.int .u8 0] 27)).drew.heap[g]? = some (.cells (St64 fin) 58 (0, 0)) := (Below.heap_alloc _ _ _ hat.lt).trans hat
      have hss : (St64 fin).size = 25 := st64_size hgd
      have hkw : Ks64 (wr.alloc (.cells #[Value.int .u8 0, Value.int .u8 0, Value.int .u8 0, Value.int .u8 0, Value.int .u8 0, Value.int .u8 0, Value.int .u8 0, Value.int .u8 0, Value.int .u8 0, Value.int .u8 0, Value.int .u8 0, Value.int .u8 0, Value.int .u8 0, Value.int .u8 0, Value.int .u8 0, Value.int .u8 0, Value.int .u8 0, Value.int .u8 0, Value.int .u8 0, Value.int .u8 0, Value.int .u8 0, Value.int .u8 0, Value.int .u8 0, Value.int .u8 0, Value.int .u8 0, Value.int .u8 0, Value.int .u8 0, Value.int .u8 0, Value.int .u8 0, Value.int .u8 0, Value.int .u8 0, Value.int .u8 0, Value.int .u8 0, Value.int .u8 0, Value.int .u8 0, Value.int .u8 0, Value.int .u8 0, Value.int .u8 0, Value.int .u8 0, Value.int .u8 0, Value.int .u8 0, Value.int .u8 0, Value.int .u8 0, Value.int .u8 0, Value.int .u8 0, Value.int .u8 0, Value.int .u8 0, Value.int .u8 0, Value.int .u8 0, Value.int .u8 0, Value.int .u8 0, Value.int .u8 0, Value.int .u8 0, Value.int .u8 0, Value.int .u8 0, Value.int .u8 0, Value.int .u8 0, Value.int .u8 0, Value.int .u8 0, Value.int .u8 0, Value.int .u8 0, Value.int .u8 0, Value.int .u8 0, Value.int .u8 0] 27)).drew := hks.below (((Below.refl _ _).alloc (Nat.le_refl _) _).drew) hks.lt
      have hbw : Below w.heap.size w (wr.alloc (.cells #[Value.int .u8 0, Value.int .u8 0, Value.int .u8 0, Value.int .u8 0, Value.int .u8 0, Value.int .u8 0, Value.int .u8 0, Value.int .u8 0, Value.int .u8 0, Value.int .u8 0, Value.int .u8 0, Value.int .u8 0, Value.int .u8 0, Value.int .u8 0, Value.int .u8 0, Value.int .u8 0, Value.int .u8 0, Value.int .u8 0, Value.int .u8 0, Value.int .u8 0, Value.int .u8 0, Value.int .u8 0, Value.int .u8 0, Value.int .u8 0, Value.int .u8 0, Value.int .u8 0, Value.int .u8 0, Value.int .u8 0, Value.int .u8 0, Value.int .u8 0, Value.int .u8 0, Value.int .u8 0, Value.int .u8 0, Value.int .u8 0, Value.int .u8 0, Value.int .u8 0, Value.int .u8 0, Value.int .u8 0, Value.int .u8 0, Value.int .u8 0, Value.int .u8 0, Value.int .u8 0, Value.int .u8 0, Value.int .u8 0, Value.int .u8 0, Value.int .u8 0, Value.int .u8 0, Value.int .u8 0, Value.int .u8 0, Value.int .u8 0, Value.int .u8 0, Value.int .u8 0, Value.int .u8 0, Value.int .u8 0, Value.int .u8 0, Value.int .u8 0, Value.int .u8 0, Value.int .u8 0, Value.int .u8 0, Value.int .u8 0, Value.int .u8 0, Value.int .u8 0, Value.int .u8 0, Value.int .u8 0] 27)).drew := ((hbr.alloc hbr.size _).drew)
      have hws : (wr.alloc (.cells #[Value.int .u8 0, Value.int .u8 0, Value.int .u8 0, Value.int .u8 0, Value.int .u8 0, Value.int .u8 0, Value.int .u8 0, Value.int .u8 0, Value.int .u8 0, Value.int .u8 0, Value.int .u8 0, Value.int .u8 0, Value.int .u8 0, Value.int .u8 0, Value.int .u8 0, Value.int .u8 0, Value.int .u8 0, Value.int .u8 0, Value.int .u8 0, Value.int .u8 0, Value.int .u8 0, Value.int .u8 0, Value.int .u8 0, Value.int .u8 0, Value.int .u8 0, Value.int .u8 0, Value.int .u8 0, Value.int .u8 0, Value.int .u8 0, Value.int .u8 0, Value.int .u8 0, Value.int .u8 0, Value.int .u8 0, Value.int .u8 0, Value.int .u8 0, Value.int .u8 0, Value.int .u8 0, Value.int .u8 0, Value.int .u8 0, Value.int .u8 0, Value.int .u8 0, Value.int .u8 0, Value.int .u8 0, Value.int .u8 0, Value.int .u8 0, Value.int .u8 0, Value.int .u8 0, Value.int .u8 0, Value.int .u8 0, Value.int .u8 0, Value.int .u8 0, Value.int .u8 0, Value.int .u8 0, Value.int .u8 0, Value.int .u8 0, Value.int .u8 0, Value.int .u8 0, Value.int .u8 0, Value.int .u8 0, Value.int .u8 0, Value.int .u8 0, Value.int .u8 0, Value.int .u8 0, Value.int .u8 0] 27)).drew.heap.size = wr.heap.size + 1 := by simp
      have hr0 : (wr.alloc (.cells #[Value.int .u8 0, Value.int .u8 0, Value.int .u8 0, Value.int .u8 0, Value.int .u8 0, Value.int .u8 0, Value.int .u8 0, Value.int .u8 0, Value.int .u8 0, Value.int .u8 0, Value.int .u8 0, Value.int .u8 0, Value.int .u8 0, Value.int .u8 0, Value.int .u8 0, Value.int .u8 0, Value.int .u8 0, Value.int .u8 0, Value.int .u8 0, Value.int .u8 0, Value.int .u8 0, Value.int .u8 0, Value.int .u8 0, Value.int .u8 0, Value.int .u8 0, Value.int .u8 0, Value.int .u8 0, Value.int .u8 0, Value.int .u8 0, Value.int .u8 0, Value.int .u8 0, Value.int .u8 0, Value.int .u8 0, Value.int .u8 0, Value.int .u8 0, Value.int .u8 0, Value.int .u8 0, Value.int .u8 0, Value.int .u8 0, Value.int .u8 0, Value.int .u8 0, Value.int .u8 0, Value.int .u8 0, Value.int .u8 0, Value.int .u8 0, Value.int .u8 0, Value.int .u8 0, Value.int .u8 0, Value.int .u8 0, Value.int .u8 0, Value.int .u8 0, Value.int .u8 0, Value.int .u8 0, Value.int .u8 0, Value.int .u8 0, Value.int .u8 0, Value.int .u8 0, Value.int .u8 0, Value.int .u8 0, Value.int .u8 0, Value.int .u8 0, Value.int .u8 0, Value.int .u8 0, Value.int .u8 0] 27)).drew.heap[w.heap.size]? = some (.cells (List.replicate 64 (Value.int .u8 0)).toArray 27 (0, 0)) := (Below.heap_alloc _ _ _ hresr.lt).trans hresr
      have hr1 : (wr.alloc (.cells #[Value.int .u8 0, Value.int .u8 0, Value.int .u8 0, Value.int .u8 0, Value.int .u8 0, Value.int .u8 0, Value.int .u8 0, Value.int .u8 0, Value.int .u8 0, Value.int .u8 0, Value.int .u8 0, Value.int .u8 0, Value.int .u8 0, Value.int .u8 0, Value.int .u8 0, Value.int .u8 0, Value.int .u8 0, Value.int .u8 0, Value.int .u8 0, Value.int .u8 0, Value.int .u8 0, Value.int .u8 0, Value.int .u8 0, Value.int .u8 0, Value.int .u8 0, Value.int .u8 0, Value.int .u8 0, Value.int .u8 0, Value.int .u8 0, Value.int .u8 0, Value.int .u8 0, Value.int .u8 0, Value.int .u8 0, Value.int .u8 0, Value.int .u8 0, Value.int .u8 0, Value.int .u8 0, Value.int .u8 0, Value.int .u8 0, Value.int .u8 0, Value.int .u8 0, Value.int .u8 0, Value.int .u8 0, Value.int .u8 0, Value.int .u8 0, Value.int .u8 0, Value.int .u8 0, Value.int .u8 0, Value.int .u8 0, Value.int .u8 0, Value.int .u8 0, Value.int .u8 0, Value.int .u8 0, Value.int .u8 0, Value.int .u8 0, Value.int .u8 0, Value.int .u8 0, Value.int .u8 0, Value.int .u8 0, Value.int .u8 0, Value.int .u8 0, Value.int .u8 0, Value.int .u8 0, Value.int .u8 0] 27)).drew.heap[wr.heap.size]? = some (.cells (List.replicate 64 (Value.int .u8 0)).toArray 27 (0, 0)) := heap_alloc_new _ _
      have hwl : w.heap.size < wr.heap.size := hresr.lt
      have HSW := Lib.hid hsw
      have HSS := Lib.hid hss
      have HKW := Lib.hid hkw
      have HBW := Lib.hid hbw
      have HWS := Lib.hid hws
      have HR0 := Lib.hid hr0
      have HR1 := Lib.hid hr1
      have HGD2 := Lib.hid hgd
      have HN2 := Lib.hid hn2
      have HWL := Lib.hid hwl
      clear hal hat hon hsz hgd hg2 hks hn2 hresr hbr hsw hss hkw hbw hws hr0 hr1 hwl
      go_wp2_with fail
      generalize hW : wr.alloc (.cells #[Value.int .u8 0, Value.int .u8 0, Value.int .u8 0, Value.int .u8 0, Value.int .u8 0, Value.int .u8 0, Value.int .u8 0, Value.int .u8 0, Value.int .u8 0, Value.int .u8 0, Value.int .u8 0, Value.int .u8 0, Value.int .u8 0, Value.int .u8 0, Value.int .u8 0, Value.int .u8 0, Value.int .u8 0, Value.int .u8 0, Value.int .u8 0, Value.int .u8 0, Value.int .u8 0, Value.int .u8 0, Value.int .u8 0, Value.int .u8 0, Value.int .u8 0, Value.int .u8 0, Value.int .u8 0, Value.int .u8 0, Value.int .u8 0, Value.int .u8 0, Value.int .u8 0, Value.int .u8 0, Value.int .u8 0, Value.int .u8 0, Value.int .u8 0, Value.int .u8 0, Value.int .u8 0, Value.int .u8 0, Value.int .u8 0, Value.int .u8 0, Value.int .u8 0, Value.int .u8 0, Value.int .u8 0, Value.int .u8 0, Value.int .u8 0, Value.int .u8 0, Value.int .u8 0, Value.int .u8 0, Value.int .u8 0, Value.int .u8 0, Value.int .u8 0, Value.int .u8 0, Value.int .u8 0, Value.int .u8 0, Value.int .u8 0, Value.int .u8 0, Value.int .u8 0, Value.int .u8 0, Value.int .u8 0, Value.int .u8 0, Value.int .u8 0, Value.int .u8 0, Value.int .u8 0, Value.int .u8 0] 27) = W at *
      refine wp_region_any (by kernel_rfl) ?_
      change wpAny _ _ _ _ _ _ _ (World.drew _)
      refine wpAny_take (i := 2) (v := ?_) rfl (by kernel_rfl) (by kernel_rfl) (by kernel_rfl) (fun _ _ _ h => h) (Or.inl ⟨by rfl, ?_⟩) ?_
      rotate_left
      · (intro w'; go_simp; try (with_reducible rfl))
      change wpAny _ _ _ _ _ _ (Act.put _ (some 19) _) _
      simp only [Act.put, List.setIfInBounds_toArray, List.set_cons_zero, List.set_cons_succ]
      refine wpAny_ready (rs := [0]) (by kernel_rfl) (by simp) ?_
      refine AllReady.cons rfl (fun K hK => ?_) AllReady.nil
      rw [if_pos (by kernel_rfl)]
      refine wp_load_row 58 (.tmp 3) rfl g rfl 58 _ (0, 0) _ (HSW.out) (by rfl) rfl (by rw [HSS.out]; kernel_rfl) ?_
      refine hK _ _ ?_
      clear hK K
      simp only [Act.put, List.setIfInBounds_toArray]
      refine wpAny_ready (rs := [1]) (by kernel_rfl) (by simp) ?_
      refine AllReady.cons rfl (fun K hK => ?_) AllReady.nil
      rw [if_pos (by kernel_rfl)]
      go_simp
      refine (end64 fin W.drew HGD2.out HKW.out HN2.out).mono ?_
      rintro e w3 ⟨rfl, hb3⟩
      refine hK _ _ ?_
      clear hK K
      have hrow3 : Row w3 wr.heap.size 27 (List.replicate 64 (.int .u8 0)) := (hb3.block _ (by rw [HWS.out]; omega)).trans HR1.out
      have hres3 : Row w3 w.heap.size 27 (List.replicate 64 (.int .u8 0)) := (hb3.block _ (by rw [HWS.out]; have := HWL.out; omega)).trans HR0.out
      have hbw3 : Below w.heap.size w w3 := HBW.out.trans (hb3.mono (by rw [HWS.out]; have := HWL.out; omega))
      have HROW3 := Lib.hid hrow3
      have HRES3 := Lib.hid hres3
      have HBW3 := Lib.hid hbw3
      clear hb3 hrow3 hres3 hbw3
      refine wpAny_ready (rs := [3]) (by kernel_rfl) (by simp) ?_
      refine AllReady.cons rfl (fun K hK => ?_) AllReady.nil
      rw [if_pos (by kernel_rfl)]
      go_simp
      refine (spread64 (fnl64 fin).list (list64_len _) (list64_lt (fnl64_ok fin)) wr.heap.size 27 64 w3 HROW3.out).mono ?_
      rintro e w4 ⟨rfl, h4, o4⟩
      refine hK _ _ ?_
      clear hK K
      refine wpAny_done (by kernel_rfl) ?_ _
      have hres4 : w4.heap[w.heap.size]? = some (.cells (List.replicate 64 (Value.int .u8 0)).toArray 27 (0, 0)) := (o4.block _ HRES3.out.lt (fun e => by have := HWL.out; have e' : w.heap.size = wr.heap.size := e; omega)).trans HRES3.out
      have hbw4 : Below w.heap.size w w4 := HBW3.out.trans (o4.below HBW3.out.size (fun k e => by have := HWL.out; have e' : k = wr.heap.size := e; omega))
      have hg4 : w4.heap[wr.heap.size]? = some (.cells (dig64 fin).toArray 27 (0, 0)) := h4
      have hS4 : (Tryd.prog.info? 27).map (·.size) = some (dig64 fin).toArray.size := by rw [List.size_toArray, dig64_len]; kernel_rfl
      have hO4 : (List.replicate 64 (Value.int .u8 0)).toArray.size = (dig64 fin).toArray.size := by rw [List.size_toArray, List.size_toArray, dig64_len, List.length_replicate]
      have HRES4 := Lib.hid hres4
      have HBW4 := Lib.hid hbw4
      have HG4 := Lib.hid hg4
      have HS4 := Lib.hid hS4
      have HO4 := Lib.hid hO4
      clear hres4 hbw4 hg4 hS4 hO4 h4 o4
      go_wp2_with (first
        | (refine wpList_load_row rfl 27 (.tmp 6) rfl wr.heap.size rfl 27 _ (0, 0) _ HG4.out (by rfl) rfl HS4.out ?_)
        | (refine wpList_store_row rfl 27 (.tmp 2) (.tmp 21) rfl w.heap.size _ rfl rfl 27 _ HRES4.out HS4.out HO4.out (dig64_one fin) ?_))
      have hgot := setRow_heap w4 w.heap.size _ (dig64 fin).toArray _ _ HRES4.out
      refine bodyPost_ret (results_cell_row (by rfl) _ _ w.heap.size _ _ _ _ (by rfl) hgot (by rfl) rfl HS4.out) rfl ?_
      exact ⟨by rw [HBGG.out, HFIN.out], below_setRow HBW4.out (Nat.le_refl _) _⟩

end Go.Proofs.YtcdfbcpcgkcojaaDoor
