/- Bytes in any parts have the sums of all of them: the law's own walk. -/
import Derived.Test.YtcdfbcpcgkcojaaDoorBoth
import Derived.Test.YtcdfbcpcgkcojaaDoorLaid
namespace Go.Proofs.YtcdfbcpcgkcojaaDoor
set_option maxRecDepth 100000
open Go.RowKit

theorem u8_infp : ((Tryd.prog.info? 5).map fun i => (i.zero, i.size, i.bytes)) = some (some (.int .u8 0), 1, 1) := by kernel_rfl

theorem Parts.wide {w : World} {N M : Nat} {vs : List Value} {ps : List (List Nat)} (h : Parts w (· < N) vs ps) (hN : N ≤ M) : Parts w (· < M) vs ps :=
  ⟨h.1, fun j p hj => by
    obtain ⟨hx, a, n, c, hv, hr⟩ := h.2 j p hj
    exact ⟨hx, a, n, c, hv, hr.mono (fun q _ hq => Nat.lt_of_lt_of_le hq hN)⟩⟩

set_option maxHeartbeats 3200000 in
theorem parts_law (ps : List (List Nat)) (vs : List Value) (A : Option Addr) (m cap : Nat) (w : World) (hk : Ks32 w) (hs : Ss32 w) (hr : Rd w (fun _ => True) A m vs) (hp : Parts w (· < w.heap.size) vs ps) :
    Calls Tryd.prog 4 #[.slice A m cap] w fun e w' => e = .returned (.bool true) ∧ Below w.heap.size w w' := by
  have hl : ps.length = m := by rw [← hp.1]; exact hr.1
  obtain ⟨i0, hi, hz0, hz1, hz2⟩ := info_parts u8_infp
  have he32 := eql32 (fed32 beg32 ps.flatten)
  have he64 := eql64 (fed64 beg64 ps.flatten)
  have HE32 := Lib.hid he32
  have HE64 := Lib.hid he64
  have HK := Lib.hid hk
  have HS := Lib.hid hs
  have HRV := Lib.hid hr
  have HP := Lib.hid hp
  have HL := Lib.hid hl
  have HI := Lib.hid hi
  have HZ0 := Lib.hid hz0
  have HZ1 := Lib.hid hz1
  have HZ2 := Lib.hid hz2
  clear hk hs hr hp hl hi hz0 hz1 hz2 he32 he64
  go_enter Tryd.func4, Tryd.ntmps4
  go_wp2_with fail
  go_loopw [3, 4] (fun v i wr => ∃ k : Nat, k ≤ m ∧ i = .int .i64 k ∧ k ≤ 31 ∧ (upto ps k).length ≤ 900 ∧ wr.ownsRow w.heap.size 5 1 v (upto ps k).length (Ny (upto ps k)) ∧ Below w.heap.size w wr) (fun _ i _ => m - (intOf i).toNat)
  case atStart => exact ⟨0, Nat.zero_le _, rfl, by omega, by show 0 ≤ 900; omega, World.ownsRow_nil _ _ _ _, Below.refl _ _⟩
  case round =>
    obtain ⟨k, hkm, rfl, hk31, h900, hown, hbe⟩ := hrel
    obtain ⟨A1, c1, rfl⟩ := own_slice hown
    by_cases hlt : k < m
    · have hkp : k < ps.length := by rw [HL.out]; exact hlt
      obtain ⟨hx, a, n, c, hv, hrd⟩ := HP.out.2 k ps[k] (List.getElem?_eq_getElem hkp)
      have hup := upto_succ ps (List.getElem?_eq_getElem hkp)
      obtain ⟨ad, e, _, hB, hC⟩ := HRV.out.2 (by omega)
      have hc := hC k _ hv
      have hnl : ps[k].length = n := by have := hrd.1; simpa using this
      have hc2 := (hbe.cell (p := ad.add k) (by rw [add_block]; exact hB)).trans hc
      have hlen : (upto ps (k + 1)).length = (upto ps k).length + n := by rw [hup, List.length_append, hnl]
      have hrd2 : Rd wr (· < w.heap.size) a n (Ny ps[k]) := (hrd.keep hbe.size (fun q _ hq => hbe.block q (by assumption)))
      have hny : Ny (upto ps (k + 1)) = Ny (upto ps k) ++ Ny ps[k] := by rw [hup, Ny_append]
      generalize ps[k] = p at *
      have HOWN := Lib.hid hown
      have HBE := Lib.hid hbe
      have HLEN := Lib.hid hlen
      have HRD2 := Lib.hid hrd2
      have HNY := Lib.hid hny
      subst e
      clear hown hbe hlen hrd2 hny hx hv hrd hup hB hC hc hnl
      by_cases h1 : 300 < n
      · have b1 : (300 : Int) < (n : Int) := by omega
        go_wp2_with fail
        refine (awake_any wr (HK.out.below HBE.out HK.out.lt) (HS.out.below HBE.out HS.out.lt)).mono ?_
        rintro e wz ⟨rfl, hbz⟩
        have hb0z := HBE.out.trans (hbz.mono HBE.out.size)
        have HBZ := Lib.hid hb0z
        clear hbz hb0z
        go_wp2_with fail
        go_ret
        exact ⟨rfl, HBZ.out⟩
      · have b1 : (n : Int) ≤ 300 := by omega
        by_cases h2 : 600 < (upto ps k).length
        · have b2 : (600 : Int) < ((upto ps k).length : Int) := by omega
          go_wp2_with fail
          refine (awake_any wr (HK.out.below HBE.out HK.out.lt) (HS.out.below HBE.out HS.out.lt)).mono ?_
          rintro e wz ⟨rfl, hbz⟩
          have hb0z := HBE.out.trans (hbz.mono HBE.out.size)
          have HBZ := Lib.hid hb0z
          clear hbz hb0z
          go_wp2_with fail
          go_ret
          exact ⟨rfl, HBZ.out⟩
        · have b2 : ((upto ps k).length : Int) ≤ 600 := by omega
          by_cases h3 : 30 < k
          · have b3 : (30 : Int) < (k : Int) := by omega
            go_wp2_with fail
            refine (awake_any wr (HK.out.below HBE.out HK.out.lt) (HS.out.below HBE.out HS.out.lt)).mono ?_
            rintro e wz ⟨rfl, hbz⟩
            have hb0z := HBE.out.trans (hbz.mono HBE.out.size)
            have HBZ := Lib.hid hb0z
            clear hbz hb0z
            go_wp2_with fail
            go_ret
            exact ⟨rfl, HBZ.out⟩
          · have b3 : (k : Int) ≤ 30 := by omega
            have q1 : (upto ps k).length + n ≤ maxLen := by unfold maxLen; omega
            have q2 : ((upto ps k).length + n) * 1 ≤ 140737488355328 := by omega
            have HQ1 := Lib.hid q1
            have HQ2 := Lib.hid q2
            clear q1 q2
            go_wp2_with (at_builtin; refine wpList_append_rd _ rfl (.tmp 27) (.tmp 31) 22 rfl w.heap.size 5 i0 (.int .u8 0) 1 Tryd.underlying22 HI.out HZ0.out HZ1.out HZ2.out rfl (.slice A1 (upto ps k).length c1) (upto ps k).length (Ny (upto ps k)) rfl HOWN.out (· < w.heap.size) a n c (Ny p) rfl HRD2.out (Ny_one _) HQ1.out HQ2.out HBE.out.size ?_; intro v2 w2 hown2 hgrow hat; have HO2 := Lib.hid hown2; have hb2 := HBE.out.grown hgrow HBE.out.size (fun q hq => (HOWN.out.lt q hq).1); have HB2 := Lib.hid hb2; clear hown2 hgrow hat hb2)
            go_roundw
            case rel => exact ⟨k + 1, by omega, by go_num, by omega, by rw [HLEN.out]; omega, by rw [HLEN.out, HNY.out]; exact HO2.out, HB2.out⟩
            case measure => simp [intOf]; omega
    · obtain rfl : k = m := by omega
      have hal : upto ps k = ps.flatten := by rw [← HL.out]; exact upto_all ps
      have hx : ∀ x ∈ ps.flatten, x < 256 := by rw [← upto_all]; exact upto_lt HP.out.all _
      rw [hal] at hown h900
      rw [hal]
      generalize hnn : ps.flatten.length = nn at *
      have HNN := Lib.hid hnn
      clear hnn
      have hrd := Rd.of_own hown
      have HBE := Lib.hid hbe
      have HR := Lib.hid hrd
      have HX := Lib.hid hx
      clear hown hbe hrd hal hx
      go_wp2_with fail
      refine (sum256 ps vs A k cap wr (HK.out.below HBE.out HK.out.lt) (HS.out.below HBE.out HS.out.lt) (HRV.out.belowAll HBE.out) ((HP.out.keep HBE.out.size (fun q _ hq => HBE.out.block q hq)).wide HBE.out.size) (by omega) (by rw [HNN.out]; omega)).mono ?_
      rintro e wa ⟨rfl, hba⟩
      have hr1 := HR.out.belowAll hba
      have HR1 := Lib.hid hr1
      have hb0a := HBE.out.trans (hba.mono HBE.out.size)
      have HBA := Lib.hid hb0a
      clear hba hr1 hb0a
      go_wp2_with fail
      refine (doc32 ps.flatten A1 nn c1 _ wa HX.out HR1.out (by omega)).mono ?_
      rintro e wb ⟨rfl, hbb⟩
      have hb0b := HBA.out.trans (hbb.mono HBA.out.size)
      have HBB := Lib.hid hb0b
      have hr2 := HR1.out.belowAll hbb
      have HR2 := Lib.hid hr2
      clear hbb hb0b hr2
      generalize dig32 (fed32 beg32 ps.flatten) = D at *
      go_wp2_with (refine wpList_binop _ .eql 24 24 (.tmp 34) (.tmp 36) rfl (by rfl) (.agg D.toArray) (.agg D.toArray) (.bool true) rfl rfl (grd32 _ _ _ _ _ _) (HE32.out _) ?_)
      refine (sum512 ps vs A k cap wb (HK.out.great.below HBB.out HK.out.lt) (HS.out.great.below HBB.out HS.out.lt) (HRV.out.belowAll HBB.out) ((HP.out.keep HBB.out.size (fun q _ hq => HBB.out.block q hq)).wide HBB.out.size) (by omega) (by rw [HNN.out]; omega)).mono ?_
      rintro e wc ⟨rfl, hbc⟩
      have hb0c := HBB.out.trans (hbc.mono HBB.out.size)
      have HBC := Lib.hid hb0c
      have hr3 := HR2.out.belowAll hbc
      have HR3 := Lib.hid hr3
      clear hbc hb0c hr3
      go_wp2_with fail
      refine (doc64 ps.flatten A1 nn c1 _ wc HX.out HR3.out (by omega)).mono ?_
      rintro e wd ⟨rfl, hbd⟩
      have hb0d := HBC.out.trans (hbd.mono HBC.out.size)
      have HBD := Lib.hid hb0d
      clear hbd hb0d
      generalize dig64 (fed64 beg64 ps.flatten) = E at *
      go_wp2_with (refine wpList_binop _ .eql 27 27 (.tmp 40) (.tmp 42) rfl (by rfl) (.agg E.toArray) (.agg E.toArray) (.bool true) rfl rfl (grd64 _ _ _ _ _ _) (HE64.out _) ?_)
      refine (awake_any wd (HK.out.below HBD.out HK.out.lt) (HS.out.below HBD.out HS.out.lt)).mono ?_
      rintro e we ⟨rfl, hbe⟩
      have hb0e := HBD.out.trans (hbe.mono HBD.out.size)
      have HBE5 := Lib.hid hb0e
      clear hbe hb0e
      go_wp2_with fail
      go_ret
      exact ⟨rfl, HBE5.out⟩
end Go.Proofs.YtcdfbcpcgkcojaaDoor
