/- The document's sums, as arrays. -/
import Derived.Test.YtcdfbcpcgkcojaaDoorKind32
import Derived.Test.YtcdfbcpcgkcojaaDoorRSum32
import Derived.Laws.CopyOwn
namespace Go.Proofs.YtcdfbcpcgkcojaaDoor
set_option maxRecDepth 100000
open Go.RowKit

theorem spl32 {L : List Value} (h : L.length = 32) : splice (List.replicate 32 (.int .u8 0)) 0 L = L := by
  unfold splice
  rw [Nat.zero_add, h]
  simp
set_option maxHeartbeats 2000000 in
theorem docsum32 (xs : List Nat) (a : Option Addr) (n cap : Nat) (F : Nat → Prop) (w : World) (hx : ∀ x ∈ xs, x < 256) (hr : Rd w F a n (Ny xs)) (hn : n < 1099511627776) :
    Calls Tryd.prog 10 #[.slice a n cap] w fun e w' => e = .returned (.agg (Tabs .u8 (sby32 (hf32 ((msg32 xs).length / 64) ini32 (msg32 xs)).list) 32).toArray) ∧ Below w.heap.size w w' := by
  have HX := Lib.hid hx
  have HR := Lib.hid hr
  clear hx hr
  go_enter Tryd.func10, Tryd.ntmps10
  go_upto_region 2 with fail
  have hb0 : Below w.heap.size w ((w.alloc (.cells ((List.replicate 32 (.int .u8 0)) : List Value).toArray 24)).alloc (.cells ((List.replicate 32 (.int .u8 0)) : List Value).toArray 24)).drew := (((Below.refl _ _).alloc (Nat.le_refl _) _).alloc (by simp) _).drew
  have hh : Row ((w.alloc (.cells ((List.replicate 32 (.int .u8 0)) : List Value).toArray 24)).alloc (.cells ((List.replicate 32 (.int .u8 0)) : List Value).toArray 24)).drew (w.heap.size + 1) 24 (List.replicate 32 (.int .u8 0)) ∧ Row ((w.alloc (.cells ((List.replicate 32 (.int .u8 0)) : List Value).toArray 24)).alloc (.cells ((List.replicate 32 (.int .u8 0)) : List Value).toArray 24)).drew w.heap.size 24 (List.replicate 32 (.int .u8 0)) := ⟨heap_alloc2_new _ _ _, (Row.new w (List.replicate 32 (.int .u8 0)) 24).alloc _⟩
  have HB0 := Lib.hid hb0
  have HH := Lib.hid hh
  clear hb0 hh
  refine wp_region_any (by kernel_rfl) ?_
  change wpAny _ _ _ _ _ _ _ (World.drew _)
  refine wpAny_of_held (S := (fun w' : World => Row w' w.heap.size 24 (List.replicate 32 (.int .u8 0)))) _ _ _ _ ?_
  have hHeld := HH.out.2
  refine wpAnyH_take (i := 0) (v := ?_) rfl (by kernel_rfl) (by kernel_rfl) (by kernel_rfl) (fun _ _ _ h => h) (Or.inl ⟨by rfl, ?_⟩) hHeld ?_
  rotate_left
  · (intro w' hSw; go_simp; try (with_reducible rfl))
  change wpAnyH _ _ _ _ _ _ _ (Act.put _ (some 4) _) _
  simp only [Act.put, List.setIfInBounds_toArray, List.set_cons_zero, List.set_cons_succ]
  refine wpAnyH_take (i := 2) (v := ?_) rfl (by kernel_rfl) (by kernel_rfl) (by kernel_rfl) (fun _ _ _ h => h) (Or.inl ⟨by rfl, ?_⟩) hHeld ?_
  rotate_left
  · (intro w' hSw; go_simp; try (with_reducible rfl))
  change wpAnyH _ _ _ _ _ _ _ (Act.put _ (some 6) _) _
  simp only [Act.put, List.setIfInBounds_toArray, List.set_cons_zero, List.set_cons_succ]
  refine wpAnyH_ready (rs := [1]) (by kernel_rfl) (by simp) ?_
  refine AllReadyH.cons rfl (fun K hK => ?_) AllReadyH.nil
  rw [if_pos (by kernel_rfl)]
  go_simp
  refine (kind32 _).mono ?_
  rintro e w3 ⟨KA, KB, rfl, hfc3, hrc3, hb3, hA3, hB3⟩
  refine hK.out _ _ (hHeld.belowAll hb3) (fun hHeld => ?_)
  clear hK K
  have hr3 := HR.out.belowAll (HB0.out.trans (hb3.mono HB0.out.size))
  have HR3 := Lib.hid hr3
  have HB3 := Lib.hid hb3
  have HFC := Lib.hid hfc3
  have HRC := Lib.hid hrc3
  clear hr3 hb3 hfc3 hrc3 hA3 hB3
  refine wpAnyH_ready (rs := [3]) (by kernel_rfl) (by simp) ?_
  refine AllReadyH.cons rfl (fun K hK => ?_) AllReadyH.nil
  rw [if_pos (by kernel_rfl)]
  go_simp
  refine (rsum32 KA KB xs a n cap F _ HFC.out HRC.out HX.out HR3.out hn).mono ?_
  rintro e w4 ⟨v4, rfl, hown4, hb4⟩
  refine hK.out _ _ (hHeld.belowAll hb4) (fun hHeld => ?_)
  clear hK K
  have HB4 := Lib.hid hb4
  obtain ⟨p4, c4, rfl, hp4b, hp4l⟩ := hown4.form (by decide)
  have hcs4 := hown4.cells (g := p4) rfl
  have HCS := Lib.hid hcs4
  clear hb4 hown4 hp4b hp4l hcs4
  have hrow4 := (HH.out.1.belowAll HB3.out).belowAll HB4.out
  have hbel4 := HB0.out.trans ((HB3.out.mono HB0.out.size).trans (HB4.out.mono (Nat.le_trans HB0.out.size HB3.out.size)))
  have hL1 : ∀ v ∈ Tabs .u8 (sby32 (hf32 ((msg32 xs).length / 64) ini32 (msg32 xs)).list) 32, v.oneCell' = true := by
    intro v hv
    simp only [Tabs, List.mem_map] at hv
    obtain ⟨i, _, rfl⟩ := hv
    rfl
  have hLn : (Tabs .u8 (sby32 (hf32 ((msg32 xs).length / 64) ini32 (msg32 xs)).list) 32).length = 32 := Tabs_length _ _ _
  generalize hL : Tabs .u8 (sby32 (hf32 ((msg32 xs).length / 64) ini32 (msg32 xs)).list) 32 = L at *
  have HLL := Lib.hid hL
  clear hL
  have HROW4 := Lib.hid hrow4
  have HBEL4 := Lib.hid hbel4
  have HL1 := Lib.hid hL1
  have HLN := Lib.hid hLn
  clear hrow4 hbel4 hL1 hLn
  refine wpAnyH_ready (rs := [4]) (by kernel_rfl) (by simp) ?_
  refine AllReadyH.cons rfl (fun K hK => ?_) AllReadyH.nil
  refine step_copy_splice (by rfl) (.tmp 4) (.tmp 7) 22 22 (by rfl) 5 Tryd.underlying22 (by kernel_rfl) (some ⟨w.heap.size + 1, 0, none⟩) (some ⟨p4, 0, none⟩) 32 32 32 c4 (by rfl) (by rfl) (w.heap.size + 1) 0 (List.replicate 32 (.int .u8 0)) 24 HROW4.out L (by rw [HLN.out]; rfl) (fun _ => ⟨rfl, _, rfl, HCS.out⟩) (by rw [HLN.out]; decide) HL1.out (w.heap.size + 1) w4 (Below.refl _ _) (Nat.le_refl _) ?_
  intro w5 hc5 hb5
  refine hK.out _ _ (hHeld.below hb5 (by omega)) (fun hHeld => ?_)
  clear hK K
  have HB5 := Lib.hid hb5
  clear hb5
  refine wpAnyH_done (by kernel_rfl) ?_ _
  have hcell := hc5.out
  rw [spl32 HLN.out] at hcell
  have hls : L.toArray.size = 32 := by simpa using HLN.out
  have hsz : (Tryd.prog.info? 24).map (·.size) = some L.toArray.size := by rw [hls]; kernel_rfl
  have hold : ((List.replicate 32 (.int .u8 0)) : List Value).toArray.size = L.toArray.size := by rw [hls]; rfl
  have hone := all_oneCell_toArray HL1.out
  have HCELL := Lib.hid hcell
  have HSZ := Lib.hid hsz
  have HRES := Lib.hid hHeld
  have HOLD := Lib.hid hold
  have HONE := Lib.hid hone
  clear hcell hls hsz hold hone hc5
  go_wp2_with (first
    | (refine wpList_load_row rfl 24 (.tmp 3) rfl (w.heap.size + 1) rfl 24 _ (0, 0) _ HCELL.out Tryd.underlying24 rfl HSZ.out ?_)
    | (refine wpList_store_row rfl 24 (.tmp 2) (.tmp 9) rfl w.heap.size _ rfl rfl 24 _ HRES.out HSZ.out HOLD.out HONE.out ?_))
  have hgot := setRow_heap w5 w.heap.size _ L.toArray _ _ HRES.out
  refine bodyPost_ret (results_cell_row (by rfl) _ _ w.heap.size _ _ _ _ (by rfl) hgot Tryd.underlying24 rfl HSZ.out) rfl ?_
  rw [HLL.out]
  exact ⟨rfl, below_setRow (HBEL4.out.trans (HB5.out.mono (Nat.le_succ _))) (Nat.le_refl _) _⟩

end Go.Proofs.YtcdfbcpcgkcojaaDoor
