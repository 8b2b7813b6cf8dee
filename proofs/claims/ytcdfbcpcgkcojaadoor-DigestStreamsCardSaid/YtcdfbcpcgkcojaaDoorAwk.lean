/- The document's example: the sum of three bytes, as digits. -/
import Derived.Test.YtcdfbcpcgkcojaaDoorS256
import Derived.Test.YtcdfbcpcgkcojaaDoorHex
import Derived.Lib.SlBytesConst
namespace Go.Proofs.YtcdfbcpcgkcojaaDoor
set_option maxRecDepth 100000
open Go.RowKit

theorem Rd.litm (w : World) (xs : List Value) (cs : Array Value) (t : TypeId) (fr : Nat × Nat) (h : cs.toList = xs) (n : Nat) (hn : xs.length = n) : Rd (w.alloc (.cells cs t fr)) (fun k => k = w.heap.size) (some ⟨w.heap.size, 0, none⟩) n xs := by
  refine ⟨hn, fun _ => ⟨_, rfl, rfl, by simp, fun j u hu => ?_⟩⟩
  have e : (⟨w.heap.size, 0, none⟩ : Addr).add j = ⟨w.heap.size, j, none⟩ := by unfold Addr.add; split <;> simp_all
  rw [e, World.cell?_alloc_mark, ← hu, ← h]
  simp
theorem abc_sum : (fnl32 (fed32 beg32 [97, 98, 99])).list = [3128432319, 2399260650, 1094795486, 1571693091, 2953011619, 2518121116, 3021012833, 4060091821] := by decide +kernel
theorem abc_hex : hexs ((List.range 32).map (sby32 [3128432319, 2399260650, 1094795486, 1571693091, 2953011619, 2518121116, 3021012833, 4060091821])) = [98, 97, 55, 56, 49, 54, 98, 102, 56, 102, 48, 49, 99, 102, 101, 97, 52, 49, 52, 49, 52, 48, 100, 101, 53, 100, 97, 101, 50, 50, 50, 51, 98, 48, 48, 51, 54, 49, 97, 51, 57, 54, 49, 55, 55, 97, 57, 99, 98, 52, 49, 48, 102, 102, 54, 49, 102, 50, 48, 48, 49, 53, 97, 100] := by decide +kernel
theorem abc_dig : dig32 (fed32 beg32 [[97, 98, 99]].flatten) = Tabs .u8 (sby32 [3128432319, 2399260650, 1094795486, 1571693091, 2953011619, 2518121116, 3021012833, 4060091821]) 32 := by
  show Tabs .u8 (sby32 (fnl32 (fed32 beg32 [97, 98, 99])).list) 32 = _
  rw [abc_sum]

set_option maxHeartbeats 800000 in
theorem awake_any (w : World) (hk : Ks32 w) (hs : Ss32 w) :
    Calls Tryd.prog 8 #[] w fun e w' => e = .returned (.bool true) ∧ Below w.heap.size w w' := by
  have HK := Lib.hid hk
  have HS := Lib.hid hs
  clear hk hs
  have hcv := Lib.run_convert_bytes_const (P := Tryd.prog) w 22 5 #[Value.int .u8 97, Value.int .u8 98, Value.int .u8 99] 3 3 Tryd.underlying22 Tryd.underlying5
  go_enter Tryd.func8, Tryd.ntmps8
  go_wp2_with fail
  clear hcv
  have hb2 : Below w.heap.size w ((w.alloc (.cells #[Value.int .u8 97, Value.int .u8 98, Value.int .u8 99] 5 (3, 4))).alloc (.cells #[.slice (some ⟨w.heap.size, 0, none⟩) 3 3] 22)) := ((Below.refl _ _).alloc (Nat.le_refl _) _).alloc (by simp) _
  have hk2 : Ks32 ((w.alloc (.cells #[Value.int .u8 97, Value.int .u8 98, Value.int .u8 99] 5 (3, 4))).alloc (.cells #[.slice (some ⟨w.heap.size, 0, none⟩) 3 3] 22)) := HK.out.below hb2 HK.out.lt
  have hs2 : Ss32 ((w.alloc (.cells #[Value.int .u8 97, Value.int .u8 98, Value.int .u8 99] 5 (3, 4))).alloc (.cells #[.slice (some ⟨w.heap.size, 0, none⟩) 3 3] 22)) := HS.out.below hb2 HS.out.lt
  have hr2 : Rd ((w.alloc (.cells #[Value.int .u8 97, Value.int .u8 98, Value.int .u8 99] 5 (3, 4))).alloc (.cells #[.slice (some ⟨w.heap.size, 0, none⟩) 3 3] 22)) (fun _ => True) (some ⟨w.heap.size + 1, 0, none⟩) 1 [.slice (some ⟨w.heap.size, 0, none⟩) 3 3] := by
    have h := Rd.lit (w.alloc (.cells #[Value.int .u8 97, Value.int .u8 98, Value.int .u8 99] 5 (3, 4))) [.slice (some ⟨w.heap.size, 0, none⟩) 3 3] #[.slice (some ⟨w.heap.size, 0, none⟩) 3 3] 22 rfl 1 rfl
    rw [show (w.alloc (.cells #[Value.int .u8 97, Value.int .u8 98, Value.int .u8 99] 5 (3, 4))).heap.size = w.heap.size + 1 by simp] at h
    exact h.mono (fun _ _ _ => trivial)
  have hp2 : Parts ((w.alloc (.cells #[Value.int .u8 97, Value.int .u8 98, Value.int .u8 99] 5 (3, 4))).alloc (.cells #[.slice (some ⟨w.heap.size, 0, none⟩) 3 3] 22)) (· < ((w.alloc (.cells #[Value.int .u8 97, Value.int .u8 98, Value.int .u8 99] 5 (3, 4))).alloc (.cells #[.slice (some ⟨w.heap.size, 0, none⟩) 3 3] 22)).heap.size) [.slice (some ⟨w.heap.size, 0, none⟩) 3 3] [[97, 98, 99]] := by
    refine ⟨rfl, fun j p hj => ?_⟩
    have hj0 : j = 0 := by
      have := (List.getElem?_eq_some_iff.1 hj).1
      simpa using this
    subst hj0
    obtain rfl : [97, 98, 99] = p := by simpa using hj
    refine ⟨by decide, some ⟨w.heap.size, 0, none⟩, 3, 3, rfl, ?_⟩
    have h := Rd.litm w [Value.int .u8 97, Value.int .u8 98, Value.int .u8 99] #[Value.int .u8 97, Value.int .u8 98, Value.int .u8 99] 5 (3, 4) rfl 3 rfl
    exact (h.keep (by simp) (fun k _ hl => Below.heap_alloc _ _ _ hl)).mono (fun k hl hk => hl)
  have hz2 : ((w.alloc (.cells #[Value.int .u8 97, Value.int .u8 98, Value.int .u8 99] 5 (3, 4))).alloc (.cells #[.slice (some ⟨w.heap.size, 0, none⟩) 3 3] 22)).heap.size = w.heap.size + 2 := by simp
  have hsum := sum256 [[97, 98, 99]] [.slice (some ⟨w.heap.size, 0, none⟩) 3 3] (some ⟨w.heap.size + 1, 0, none⟩) 1 1 _ hk2 hs2 hr2 hp2 (by decide) (by decide)
  rw [abc_dig] at hsum
  refine hsum.mono ?_
  rintro e w3 ⟨rfl, hb3⟩
  have hb03 : Below w.heap.size w w3 := hb2.trans (hb3.mono (by rw [hz2]; omega))
  have HB03 := Lib.hid hb03
  clear hsum hb2 hk2 hs2 hr2 hp2 hz2 hb3 hb03
  have hlen : (Tabs .u8 (sby32 [3128432319, 2399260650, 1094795486, 1571693091, 2953011619, 2518121116, 3021012833, 4060091821]) 32).length = 32 := Tabs_length ..
  have hone := Tabs_one .u8 (sby32 [3128432319, 2399260650, 1094795486, 1571693091, 2953011619, 2518121116, 3021012833, 4060091821]) 32
  have htab : Tabs .u8 (sby32 [3128432319, 2399260650, 1094795486, 1571693091, 2953011619, 2518121116, 3021012833, 4060091821]) 32 = ((List.range 32).map (sby32 [3128432319, 2399260650, 1094795486, 1571693091, 2953011619, 2518121116, 3021012833, 4060091821])).map fun x => Value.int .u8 ((x : Nat) : Int) := by simp [Tabs]
  have hlt : ∀ x ∈ (List.range 32).map (sby32 [3128432319, 2399260650, 1094795486, 1571693091, 2953011619, 2518121116, 3021012833, 4060091821]), x < 256 := by decide +kernel
  have hhex := abc_hex
  generalize Tabs .u8 (sby32 [3128432319, 2399260650, 1094795486, 1571693091, 2953011619, 2518121116, 3021012833, 4060091821]) 32 = tb at *
  generalize (List.range 32).map (sby32 [3128432319, 2399260650, 1094795486, 1571693091, 2953011619, 2518121116, 3021012833, 4060091821]) = xs at *
  have hS4 : (Tryd.prog.info? 24).map (·.size) = some tb.toArray.size := by rw [List.size_toArray, hlen]; kernel_rfl
  have hO4 : (#[Value.int .u8 0, Value.int .u8 0, Value.int .u8 0, Value.int .u8 0, Value.int .u8 0, Value.int .u8 0, Value.int .u8 0, Value.int .u8 0, Value.int .u8 0, Value.int .u8 0, Value.int .u8 0, Value.int .u8 0, Value.int .u8 0, Value.int .u8 0, Value.int .u8 0, Value.int .u8 0, Value.int .u8 0, Value.int .u8 0, Value.int .u8 0, Value.int .u8 0, Value.int .u8 0, Value.int .u8 0, Value.int .u8 0, Value.int .u8 0, Value.int .u8 0, Value.int .u8 0, Value.int .u8 0, Value.int .u8 0, Value.int .u8 0, Value.int .u8 0, Value.int .u8 0, Value.int .u8 0] : Array Value).size = tb.toArray.size := by show 32 = tb.toArray.size; rw [List.size_toArray, hlen]
  have hnew : (w3.alloc (.cells #[Value.int .u8 0, Value.int .u8 0, Value.int .u8 0, Value.int .u8 0, Value.int .u8 0, Value.int .u8 0, Value.int .u8 0, Value.int .u8 0, Value.int .u8 0, Value.int .u8 0, Value.int .u8 0, Value.int .u8 0, Value.int .u8 0, Value.int .u8 0, Value.int .u8 0, Value.int .u8 0, Value.int .u8 0, Value.int .u8 0, Value.int .u8 0, Value.int .u8 0, Value.int .u8 0, Value.int .u8 0, Value.int .u8 0, Value.int .u8 0, Value.int .u8 0, Value.int .u8 0, Value.int .u8 0, Value.int .u8 0, Value.int .u8 0, Value.int .u8 0, Value.int .u8 0, Value.int .u8 0] 24)).heap[w3.heap.size]? = some (.cells #[Value.int .u8 0, Value.int .u8 0, Value.int .u8 0, Value.int .u8 0, Value.int .u8 0, Value.int .u8 0, Value.int .u8 0, Value.int .u8 0, Value.int .u8 0, Value.int .u8 0, Value.int .u8 0, Value.int .u8 0, Value.int .u8 0, Value.int .u8 0, Value.int .u8 0, Value.int .u8 0, Value.int .u8 0, Value.int .u8 0, Value.int .u8 0, Value.int .u8 0, Value.int .u8 0, Value.int .u8 0, Value.int .u8 0, Value.int .u8 0, Value.int .u8 0, Value.int .u8 0, Value.int .u8 0, Value.int .u8 0, Value.int .u8 0, Value.int .u8 0, Value.int .u8 0, Value.int .u8 0] 24 (0, 0)) := heap_alloc_new _ _
  have hrow : Row ((w3.alloc (.cells #[Value.int .u8 0, Value.int .u8 0, Value.int .u8 0, Value.int .u8 0, Value.int .u8 0, Value.int .u8 0, Value.int .u8 0, Value.int .u8 0, Value.int .u8 0, Value.int .u8 0, Value.int .u8 0, Value.int .u8 0, Value.int .u8 0, Value.int .u8 0, Value.int .u8 0, Value.int .u8 0, Value.int .u8 0, Value.int .u8 0, Value.int .u8 0, Value.int .u8 0, Value.int .u8 0, Value.int .u8 0, Value.int .u8 0, Value.int .u8 0, Value.int .u8 0, Value.int .u8 0, Value.int .u8 0, Value.int .u8 0, Value.int .u8 0, Value.int .u8 0, Value.int .u8 0, Value.int .u8 0] 24)).setRow w3.heap.size tb.toArray) w3.heap.size 24 tb := setRow_heap _ _ _ _ _ _ hnew
  have hb4 : Below w.heap.size w ((w3.alloc (.cells #[Value.int .u8 0, Value.int .u8 0, Value.int .u8 0, Value.int .u8 0, Value.int .u8 0, Value.int .u8 0, Value.int .u8 0, Value.int .u8 0, Value.int .u8 0, Value.int .u8 0, Value.int .u8 0, Value.int .u8 0, Value.int .u8 0, Value.int .u8 0, Value.int .u8 0, Value.int .u8 0, Value.int .u8 0, Value.int .u8 0, Value.int .u8 0, Value.int .u8 0, Value.int .u8 0, Value.int .u8 0, Value.int .u8 0, Value.int .u8 0, Value.int .u8 0, Value.int .u8 0, Value.int .u8 0, Value.int .u8 0, Value.int .u8 0, Value.int .u8 0, Value.int .u8 0, Value.int .u8 0] 24)).setRow w3.heap.size tb.toArray) := below_setRow (HB03.out.alloc HB03.out.size _) HB03.out.size _
  have hrd := hrow.rd hlen
  rw [htab] at hrd
  have hx := hex_any xs (some ⟨w3.heap.size, 0, none⟩) 32 32 _ _ hlt (by decide) hrd
  rw [hhex] at hx
  rw [← htab] at hx
  have HS4 := Lib.hid hS4
  have HO4 := Lib.hid hO4
  have HNEW := Lib.hid hnew
  have HONE := Lib.hid hone
  have HX := Lib.hid hx
  have HB4 := Lib.hid hb4
  clear hlen hone htab hlt hhex hS4 hO4 hnew hrow hb4 hrd hx
  go_wp2_with (refine wpList_store_row rfl 24 (.tmp 1) (.tmp 5) rfl w3.heap.size _ rfl rfl 24 _ HNEW.out HS4.out HO4.out HONE.out ?_)
  refine HX.out.mono ?_
  rintro e w5 ⟨rfl, hb5⟩
  have hb6 : Below w.heap.size w w5 := HB4.out.trans (hb5.mono HB4.out.size)
  have HB6 := Lib.hid hb6
  clear hb5 hb6
  go_wp2_with fail
  go_ret
  exact ⟨rfl, HB6.out⟩

end Go.Proofs.YtcdfbcpcgkcojaaDoor
