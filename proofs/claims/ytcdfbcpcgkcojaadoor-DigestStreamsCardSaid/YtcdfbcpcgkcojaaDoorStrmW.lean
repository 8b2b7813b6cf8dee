/- Whatever comes, the sum of all that came: the law's own walk. -/
import Derived.Test.YtcdfbcpcgkcojaaDoorBoth
import Derived.Test.YtcdfbcpcgkcojaaDoorStream
import Derived.Test.YtcdfbcpcgkcojaaDoorLaid
namespace Go.Proofs.YtcdfbcpcgkcojaaDoor
set_option maxRecDepth 100000
open Go.RowKit

theorem u8_infs : ((Tryd.prog.info? 5).map fun i => (i.zero, i.size, i.bytes)) = some (some (.int .u8 0), 1, 1) := by kernel_rfl

set_option maxHeartbeats 6400000 in
theorem streams_law (ps : List (List Nat)) (vs : List Value) (A : Option Addr) (m cap : Nat) (w : World) (hk : Ks32 w) (hs : Ss32 w) (hr : Rd w (fun _ => True) A m vs) (hp : Parts w (· < w.heap.size) vs ps) :
    Calls Tryd.prog 5 #[.slice A m cap] w fun e w' => e = .returned (.bool true) ∧ Below w.heap.size w w' := by
  have hl : ps.length = m := by rw [← hp.1]; exact hr.1
  obtain ⟨i0, hi, hz0, hz1, hz2⟩ := info_parts u8_infs
  have he0 := eql32 beg32
  have HE0 := Lib.hid he0
  have HK := Lib.hid hk
  have HS := Lib.hid hs
  have HRV := Lib.hid hr
  have HP := Lib.hid hp
  have HL := Lib.hid hl
  have HI := Lib.hid hi
  have HZ0 := Lib.hid hz0
  have HZ1 := Lib.hid hz1
  have HZ2 := Lib.hid hz2
  clear hk hs hr hp hl hi hz0 hz1 hz2 he0
  go_enter Tryd.func5, Tryd.ntmps5
  go_wp2_with fail
  refine (new_any w HS.out).mono ?_
  rintro e w1 ⟨g, rfl, ht1, hg1, hb1⟩
  have hgl := ht1.lt
  have HT1 := Lib.hid ht1
  have HG1 := Lib.hid hg1
  have HB1 := Lib.hid hb1
  have HGL := Lib.hid hgl
  have hg2 : g ≠ 2 := fun e2 => by have := HK.out.lt; omega
  have HG2 := Lib.hid hg2
  clear ht1 hg1 hb1 hgl hg2
  go_wp2_with fail
  go_loopw [4, 5] (fun v i wr => ∃ k : Nat, k ≤ m ∧ i = .int .i64 k ∧ k ≤ 20 ∧ (upto ps k).length ≤ 300 * k ∧ wr.ownsRow w1.heap.size 5 1 v (upto ps k).length (Ny (upto ps k)) ∧ Tb32 wr g 69 (fed32 beg32 (upto ps k)).1.list (fed32 beg32 (upto ps k)).2.1 ((fed32 beg32 (upto ps k)).2.2 : Int) ∧ Below w.heap.size w wr ∧ w1.heap.size ≤ wr.heap.size) (fun _ i _ => m - (intOf i).toNat)
  case atStart => exact ⟨0, Nat.zero_le _, rfl, by omega, by show 0 ≤ 300 * 0; omega, World.ownsRow_nil _ _ _ _, HT1.out, HB1.out, Nat.le_refl _⟩
  case round =>
    obtain ⟨k, hkm, rfl, hk20, h300, hown, hat, hbe, hws⟩ := hrel
    obtain ⟨A1, c1, rfl⟩ := own_slice hown
    by_cases hlt : k < m
    · by_cases hl20 : k < 20
      · have b20 : (k : Int) < 20 := by omega
        have hkp : k < ps.length := by rw [HL.out]; exact hlt
        obtain ⟨hx, a, n, c, hv, hrd⟩ := HP.out.2 k ps[k] (List.getElem?_eq_getElem hkp)
        have hup := upto_succ ps (List.getElem?_eq_getElem hkp)
        obtain ⟨ad, e, _, hB, hC⟩ := HRV.out.2 (by omega)
        have hc := hC k _ hv
        have hnl : ps[k].length = n := by have := hrd.1; simpa using this
        have hc2 := (hbe.cell (p := ad.add k) (by rw [add_block]; exact hB)).trans hc
        have hlen : (upto ps (k + 1)).length = (upto ps k).length + n := by rw [hup, List.length_append, hnl]
        have hny : Ny (upto ps (k + 1)) = Ny (upto ps k) ++ Ny ps[k] := by rw [hup, Ny_append]
        have hfe : fed32 beg32 (upto ps (k + 1)) = fed32 (fed32 beg32 (upto ps k)) ps[k] := by rw [hup, fed32_append]
        have hsz0 : (fed32 beg32 (upto ps k)).2.2 = (upto ps k).length := by rw [fed32_size]; show 0 + _ = _; omega
        have hsz : (fed32 beg32 (upto ps (k + 1))).2.2 = (upto ps (k + 1)).length := by rw [fed32_size]; show 0 + _ = _; omega
        have hgd0 : Gd32 (fed32 beg32 (upto ps k)) := beg32_good.fed (upto_lt HP.out.all k)
        have hgd : Gd32 (fed32 beg32 (upto ps (k + 1))) := beg32_good.fed (upto_lt HP.out.all (k + 1))
        have hxx := upto_lt HP.out.all (k + 1)
        have hrd1 : Rd wr (fun q => q ≠ g) a n (ps[k].map fun x => .int .u8 ((x : Nat) : Int)) :=
          (hrd.keep hbe.size (fun q _ hq => hbe.block q (by assumption))).mono (fun q _ hF => by have := HG1.out; have e3 : q < w.heap.size := hF; omega)
        have hrd0 : Rd wr (· < w.heap.size) a n (Ny ps[k]) := (hrd.keep hbe.size (fun q _ hq => hbe.block q (by assumption)))
        generalize ps[k] = p at *
        have HOWN := Lib.hid hown
        have HBE := Lib.hid hbe
        have HLEN := Lib.hid hlen
        have HNY := Lib.hid hny
        have HFE := Lib.hid hfe
        have HSZ := Lib.hid hsz
        have HGD := Lib.hid hgd
        have HX := Lib.hid hxx
        have HRD0 := Lib.hid hrd0
        have HAT := Lib.hid hat
        have HC2 := Lib.hid hc2
        have HADB := Lib.hid hB
        subst e
        by_cases h1 : 300 < n
        · have b1 : (300 : Int) < (n : Int) := by omega
          clear hown hbe hlen hny hfe hsz hsz0 hgd hgd0 hxx hrd0 hrd1 hat hx hv hrd hup hB hC hc hnl
          go_wp2_with fail
          refine (awake_any wr (HK.out.below HBE.out HK.out.lt) (HS.out.below HBE.out HS.out.lt)).mono ?_
          rintro e wz ⟨rfl, hbz⟩
          have hb0z := HBE.out.trans (hbz.mono HBE.out.size)
          have HBZ := Lib.hid hb0z
          clear hbz hb0z
          go_wp2_with fail
          go_ret
          exact ⟨rfl, HBZ.out⟩
        · have b1 : (n : Int) ≤ 300 := by omega
          have hwr := write32 (fed32 beg32 (upto ps k)) p a n c 69 g wr hx hgd0 (HK.out.below hbe HK.out.lt) hat (by rw [hsz0, hnl]; omega) HG2.out hrd1
          rw [← hfe] at hwr
          have HWR := Lib.hid hwr
          have q1 : (upto ps k).length + n ≤ maxLen := by unfold maxLen; omega
          have q2 : ((upto ps k).length + n) * 1 ≤ 140737488355328 := by omega
          have q3 : (upto ps (k + 1)).length ≤ 300 * (k + 1) := by rw [hlen]; omega
          have HQ1 := Lib.hid q1
          have HQ2 := Lib.hid q2
          clear q1 q2 hown hbe hlen hny hfe hsz hsz0 hgd hgd0 hxx hrd0 hrd1 hat hx hv hrd hup hB hC hc hnl hwr
          go_wp2_with fail
          refine HWR.out.mono ?_
          rintro e w3 ⟨rfl, h3, o3⟩
          have hb3 : Below w.heap.size w w3 := HBE.out.trans (o3.below HBE.out.size (fun q e2 => by have := HG1.out; have e3 : q = g := e2; omega))
          have hown3 := own_only HOWN.out o3 (fun q hq e2 => by have := (HOWN.out.lt q hq).1; have := HGL.out; have e3 : q = g := e2; omega)
          have hrd3 : Rd w3 (· < w.heap.size) a n (Ny p) := HRD0.out.only o3 (fun q hq e2 => by have := HG1.out; have e3 : q = g := e2; have e4 : q < w.heap.size := hq; omega)
          have hc3 := (o3.cell (a := ad.add k) (fun e2 => by have := HG1.out; have := HADB.out; rw [add_block] at e2; have e3 : ad.block = g := e2; omega) (by rw [add_block]; have := HBE.out.size; have := HADB.out; omega)).trans HC2.out
          have hws3 : w1.heap.size ≤ w3.heap.size := Nat.le_trans hws o3.size
          have H3 := Lib.hid h3
          have HB3 := Lib.hid hb3
          have HOWN3 := Lib.hid hown3
          have HRD3 := Lib.hid hrd3
          have HC3 := Lib.hid hc3
          clear h3 o3 hb3 hown3 hrd3 hc2
          go_wp2_with (at_builtin; refine wpList_append_rd _ rfl (.tmp 33) (.tmp 37) 22 rfl w1.heap.size 5 i0 (.int .u8 0) 1 Tryd.underlying22 HI.out HZ0.out HZ1.out HZ2.out rfl (.slice A1 (upto ps k).length c1) (upto ps k).length (Ny (upto ps k)) rfl HOWN3.out (· < w.heap.size) a n c (Ny p) rfl HRD3.out (Ny_one _) HQ1.out HQ2.out hws3 ?_; intro v2 w4 hown4 hgrow hat4; rw [← HLEN.out, ← HNY.out] at hown4; obtain ⟨A2, c2, rfl⟩ := own_slice hown4; have HO4 := Lib.hid hown4; have HGR := Lib.hid hgrow; clear hown4 hgrow hat4 hc3)
          have hb4 : Below w.heap.size w w4 := HB3.out.grown HGR.out HB3.out.size (fun q hq => by have := (HOWN3.out.lt q hq).1; have := HB1.out.size; omega)
          have ht4 : Tb32 w4 g 69 (fed32 beg32 (upto ps (k + 1))).1.list (fed32 beg32 (upto ps (k + 1))).2.1 ((fed32 beg32 (upto ps (k + 1))).2.2 : Int) := (HGR.out.block g H3.out.lt (fun e2 => by have := (HOWN3.out.lt g e2.symm).1; have := HGL.out; omega)).trans H3.out
          have hws4 : w1.heap.size ≤ w4.heap.size := Nat.le_trans hws3 HGR.out.size
          have hr4 := Rd.of_own HO4.out
          have HB4 := Lib.hid hb4
          have HT4 := Lib.hid ht4
          have HR4 := Lib.hid hr4
          have HWS4 := Lib.hid hws4
          have HC4 := Lib.hid (Below.refl w4.heap.size w4)
          clear hb4 ht4 hr4 hws4 hws3 hws
          generalize hnn : (upto ps (k + 1)).length = nn at *
          have HNN := Lib.hid hnn
          clear hnn
          go_wp2_with fail
          refine (sumSome (fed32 beg32 (upto ps (k + 1))) 69 g w4 HGD.out (HK.out.below HB4.out HK.out.lt) HT4.out (by rw [HSZ.out]; omega)).mono ?_
          rintro e w5 ⟨rfl, hbv⟩
          have hb0v := HB4.out.trans (hbv.mono HB4.out.size)
          have htv := HT4.out.below hbv HT4.out.lt
          have hrv := HR4.out.belowAll hbv
          have hcv := HC4.out.trans (hbv.mono HC4.out.size)
          have HC5 := Lib.hid hcv
          have HB5 := Lib.hid hb0v
          have TB5 := Lib.hid htv
          have HR5 := Lib.hid hrv
          clear hbv hb0v htv hrv hcv
          go_wp2_with fail
          refine (doc32 (upto ps (k + 1)) A2 nn c2 _ w5 HX.out HR5.out (by omega)).mono ?_
          rintro e w5b ⟨rfl, hbv⟩
          have hb0v := HB5.out.trans (hbv.mono HB5.out.size)
          have htv := TB5.out.below hbv TB5.out.lt
          have hrv := HR5.out.belowAll hbv
          have hcv := HC5.out.trans (hbv.mono HC5.out.size)
          have HC5b := Lib.hid hcv
          have HB5b := Lib.hid hb0v
          have TB5b := Lib.hid htv
          have HR5b := Lib.hid hrv
          clear hbv hb0v htv hrv hcv
          go_wp2_with (refine wpList_binop _ .neq 24 24 (.tmp 40) (.tmp 42) rfl (by rfl) (.agg (dig32 (fed32 beg32 (upto ps (k + 1)))).toArray) (.agg (dig32 (fed32 beg32 (upto ps (k + 1)))).toArray) (.bool false) rfl rfl (grd32 _ _ _ _ _ _) (neq32 _ _) ?_)
          refine (sumSome (fed32 beg32 (upto ps (k + 1))) 69 g w5b HGD.out (HK.out.below HB5b.out HK.out.lt) TB5b.out (by rw [HSZ.out]; omega)).mono ?_
          rintro e w6 ⟨rfl, hbv⟩
          have hb0v := HB5b.out.trans (hbv.mono HB5b.out.size)
          have htv := TB5b.out.below hbv TB5b.out.lt
          have hrv := HR5b.out.belowAll hbv
          have hcv := HC5b.out.trans (hbv.mono HC5b.out.size)
          have HC6 := Lib.hid hcv
          have HB6 := Lib.hid hb0v
          have TB6 := Lib.hid htv
          have HR6 := Lib.hid hrv
          clear hbv hb0v htv hrv hcv
          go_wp2_with fail
          refine (doc32 (upto ps (k + 1)) A2 nn c2 _ w6 HX.out HR6.out (by omega)).mono ?_
          rintro e w6b ⟨rfl, hbv⟩
          have hb0v := HB6.out.trans (hbv.mono HB6.out.size)
          have htv := TB6.out.below hbv TB6.out.lt
          have hrv := HR6.out.belowAll hbv
          have hcv := HC6.out.trans (hbv.mono HC6.out.size)
          have HC6b := Lib.hid hcv
          have HB6b := Lib.hid hb0v
          have TB6b := Lib.hid htv
          have HR6b := Lib.hid hrv
          clear hbv hb0v htv hrv hcv
          go_wp2_with (refine wpList_binop _ .neq 24 24 (.tmp 46) (.tmp 48) rfl (by rfl) (.agg (dig32 (fed32 beg32 (upto ps (k + 1)))).toArray) (.agg (dig32 (fed32 beg32 (upto ps (k + 1)))).toArray) (.bool false) rfl rfl (grd32 _ _ _ _ _ _) (neq32 _ _) ?_)
          have htb7 := TB6b.out
          rw [HSZ.out] at htb7
          have HTB7 := Lib.hid htb7
          clear htb7
          refine (size32 _ _ (nn : Int) 69 g w6b (list32_len _) HGD.out.len HTB7.out).mono ?_
          rintro e w7 ⟨rfl, rfl⟩
          go_wp2_with fail
          go_roundw
          case rel => exact ⟨k + 1, by omega, by go_num, by omega, by rw [HNN.out]; exact q3, by rw [HNN.out]; exact own_below HO4.out HC6b.out, TB6b.out, HB6b.out, Nat.le_trans HWS4.out HC6b.out.size⟩
          case measure => simp [intOf]; omega
      · have b20 : ¬ (k : Int) < 20 := by omega
        have HBE := Lib.hid hbe
        clear hown hat hbe
        have hcv := Lib.run_convert_bytes_const (P := Tryd.prog) wr 22 5 #[Value.int .u8 97] 1 1 Tryd.underlying22 Tryd.underlying5
        go_wp2_with fail
        clear hcv
        have hb2 : Below w.heap.size w (wr.alloc (.cells #[Value.int .u8 97] 5 (1, 2))) := HBE.out.alloc HBE.out.size _
        have HB2 := Lib.hid hb2
        clear hb2
        generalize (wr.alloc (.cells #[Value.int .u8 97] 5 (1, 2))) = w2 at *
        refine (writeNil _ 1 1 w2).mono ?_
        rintro e w3 ⟨rfl, rfl⟩
        go_wp2_with fail
        refine (sumNil w3 (HK.out.below HB2.out HK.out.lt) (HS.out.below HB2.out HS.out.lt)).mono ?_
        rintro e w4 ⟨rfl, hb4⟩
        have hb04 := HB2.out.trans (hb4.mono HB2.out.size)
        have HB4 := Lib.hid hb04
        clear hb4 hb04
        go_wp2_with fail
        refine (doc32 [] none 0 0 (fun _ => True) w4 (fun x h => by cases h) (Rd.nil _ _ _) (by decide)).mono ?_
        rintro e w5 ⟨rfl, hb5⟩
        have hb05 := HB4.out.trans (hb5.mono HB4.out.size)
        have HB5 := Lib.hid hb05
        clear hb5 hb05
        rw [show fed32 beg32 [] = beg32 from rfl]
        generalize dig32 beg32 = D at *
        go_wp2_with (refine wpList_binop _ .eql 24 24 (.tmp 63) (.tmp 64) rfl (by rfl) (.agg D.toArray) (.agg D.toArray) (.bool true) rfl rfl (grd32 _ _ _ _ _ _) (HE0.out _) ?_)
        refine (sizeNil w5).mono ?_
        rintro e w6 ⟨rfl, rfl⟩
        go_wp2_with fail
        refine (awake_any w6 (HK.out.below HB5.out HK.out.lt) (HS.out.below HB5.out HS.out.lt)).mono ?_
        rintro e wz ⟨rfl, hbz⟩
        have hb0z := HB5.out.trans (hbz.mono HB5.out.size)
        have HBZ := Lib.hid hb0z
        clear hbz hb0z
        go_wp2_with fail
        go_ret
        exact ⟨rfl, HBZ.out⟩
    · have HBE := Lib.hid hbe
      have b0 : ¬ (k : Int) < (m : Int) := by omega
      clear hown hat hbe
      have hcv := Lib.run_convert_bytes_const (P := Tryd.prog) wr 22 5 #[Value.int .u8 97] 1 1 Tryd.underlying22 Tryd.underlying5
      go_wp2_with fail
      clear hcv
      have hb2 : Below w.heap.size w (wr.alloc (.cells #[Value.int .u8 97] 5 (1, 2))) := HBE.out.alloc HBE.out.size _
      have HB2 := Lib.hid hb2
      clear hb2
      generalize (wr.alloc (.cells #[Value.int .u8 97] 5 (1, 2))) = w2 at *
      refine (writeNil _ 1 1 w2).mono ?_
      rintro e w3 ⟨rfl, rfl⟩
      go_wp2_with fail
      refine (sumNil w3 (HK.out.below HB2.out HK.out.lt) (HS.out.below HB2.out HS.out.lt)).mono ?_
      rintro e w4 ⟨rfl, hb4⟩
      have hb04 := HB2.out.trans (hb4.mono HB2.out.size)
      have HB4 := Lib.hid hb04
      clear hb4 hb04
      go_wp2_with fail
      refine (doc32 [] none 0 0 (fun _ => True) w4 (fun x h => by cases h) (Rd.nil _ _ _) (by decide)).mono ?_
      rintro e w5 ⟨rfl, hb5⟩
      have hb05 := HB4.out.trans (hb5.mono HB4.out.size)
      have HB5 := Lib.hid hb05
      clear hb5 hb05
      rw [show fed32 beg32 [] = beg32 from rfl]
      generalize dig32 beg32 = D at *
      go_wp2_with (refine wpList_binop _ .eql 24 24 (.tmp 63) (.tmp 64) rfl (by rfl) (.agg D.toArray) (.agg D.toArray) (.bool true) rfl rfl (grd32 _ _ _ _ _ _) (HE0.out _) ?_)
      refine (sizeNil w5).mono ?_
      rintro e w6 ⟨rfl, rfl⟩
      go_wp2_with fail
      refine (awake_any w6 (HK.out.below HB5.out HK.out.lt) (HS.out.below HB5.out HS.out.lt)).mono ?_
      rintro e wz ⟨rfl, hbz⟩
      have hb0z := HB5.out.trans (hbz.mono HB5.out.size)
      have HBZ := Lib.hid hb0z
      clear hbz hb0z
      go_wp2_with fail
      go_ret
      exact ⟨rfl, HBZ.out⟩
end Go.Proofs.YtcdfbcpcgkcojaaDoor
