/- FaultFirst: the walk. -/
import Derived.Test.YtaekepejeokciaaDoorFirstA
import Derived.Test.YtaekepejeokciaaDoorWrapB
namespace Go.Proofs.YtaekepejeokciaaDoor
set_option maxRecDepth 100000
open Go.RowKit

/-- Is it asked for? -/
def askB (want : Int) (l : List Int) : Bool := want != 0 && hasI l want
theorem askB_snoc {l : List Int} {k : Nat} {x want : Int} (h : l[k]? = some x) : askB want (l.take (k + 1)) = (askB want (l.take k) || (want != 0 && x == want)) := by
  unfold askB
  rw [hasI_snoc h, Bool.and_or_distrib_left]
  congr 2
  rw [Bool.eq_iff_iff]; simp only [beq_iff_eq]; exact eq_comm

/-- What stands at the head of the first loop. -/
structure FInv (w wr : World) (cs : List UInt8) (k : Nat) (v : Value) (xs : List Value) : Prop where
  row : wr.ownsRow w.heap.size 24 1 v k xs
  ers : Ers wr (cs.take k) xs
  below : Below w.heap.size w wr

set_option maxHeartbeats 8000000 in
theorem first_small (a b : Option Addr) (n m c d : Nat) (cs : List UInt8) (l : List Int) (F G : Nat → Prop) (w : World) (hn : n ≤ 40) (hm : m ≤ 40) (hr : Rd w F a n (Bs cs)) (hl : Rd w G b m (Is l)) (hg : ErrTy w) :
    Calls Tryd.prog 5 #[.slice a n c, .slice b m d] w fun e w' => e = .returned (.bool true) ∧ Below w.heap.size w w' := by
  obtain ⟨i0, hi, hz0, hz1, hz2⟩ := info_parts err_info
  obtain ⟨j0, hj, hy0, hy1, hy2⟩ := info_parts errno_info
  have HR := Lib.hid hr
  have HL := Lib.hid hl
  have HG := Lib.hid hg
  have HCL := Lib.hid hr.len
  have HLL := Lib.hid hl.leni
  clear hr hl hg
  go_enter Tryd.func5, Tryd.ntmps5
  go_wp2_with fail
  go_loopw [5, 6, 7] (fun v t i wr => ∃ (k : Nat) (xs : List Value), k ≤ n ∧ i = .int .i64 k ∧ t = .int .i64 (wantOf (cs.take k)) ∧ FInv w wr cs k v xs) (fun _ _ i _ => n - (intOf i).toNat)
  case atStart => exact ⟨0, [], Nat.zero_le _, rfl, rfl, World.ownsRow_nil _ _ _ _, ⟨rfl, fun j x c h => by cases h⟩, Below.refl _ _⟩
  case round =>
    obtain ⟨k, xs, hk, rfl, rfl, hinv⟩ := hrel
    have HI := Lib.hid hinv
    obtain ⟨A1, c1, rfl⟩ := own_slice hinv.row
    clear hinv
    by_cases hlt : k < n
    · obtain ⟨a0, x, rfl, hab, hx, hca⟩ := (HR.out.belowAll HI.out.below).byte hlt
      have HX := Lib.hid hx
      have hxl : x.toNat < 256 := x.toNat_lt
      clear hx
      go_wp2_with fail
      refine (made_er x.toNat (cd x) _ 1 1 [(k : Int)] _ _ hxl (by unfold cd; omega) (Rd.lit _ _ _ _ rfl 1 rfl) (by omega)).mono ?_
      rintro e w1 ⟨y, A2, m2, c2, rfl, her, hrd2, hb1⟩
      have hp40 := madeP_length (cd x) [(k : Int)]
      generalize madeP (cd x) [(k : Int)] = ps at *
      have hba : Below wr.heap.size wr (wr.alloc (.cells #[.int .i64 (k : Int)] 3)) := (Below.refl _ _).alloc (Nat.le_refl _) _
      have hb01 : Below wr.heap.size wr w1 := hba.trans (hb1.mono hba.size)
      have hfb := fb_new w1 (cd x) (.slice A2 m2 c2)
      have c0 := hfb.c0
      have hb2 : Below w1.heap.size w1 (w1.alloc (.cells #[.int .i64 (cd x), .slice A2 m2 c2] 26)) := (Below.refl _ _).alloc (Nat.le_refl _) _
      have hb3 : Below (w1.heap.size + 1) (w1.alloc (.cells #[.int .i64 (cd x), .slice A2 m2 c2] 26)) ((w1.alloc (.cells #[.int .i64 (cd x), .slice A2 m2 c2] 26)).alloc (.cells #[y] 24)) := (Below.refl _ _).alloc (by simp) _
      have hbx : Below wr.heap.size wr ((w1.alloc (.cells #[.int .i64 (cd x), .slice A2 m2 c2] 26)).alloc (.cells #[y] 24)) := hb01.trans ((hb2.trans (hb3.mono (by omega))).mono hb01.size)
      have hy : y.oneCell' = true := by
        rcases her.form with rfl | ⟨T, z, rfl⟩ <;> rfl
      have HY := Lib.hid hy
      have HE1 := Lib.hid (her.below (hb2.trans (hb3.mono (by omega))))
      have HER := Lib.hid (HI.out.ers.below hbx)
      have HROW := Lib.hid (own_below HI.out.row hbx)
      have HBX := Lib.hid hbx
      have HB01 := Lib.hid hb01
      have HWB := Lib.hid (HI.out.below.trans (hbx.mono HI.out.below.size))
      have c03 := (hb3.cell (p := ⟨w1.heap.size, 0, none⟩) (by simp)).trans c0
      have C03 := Lib.hid c03
      have hne : some w1.heap.size ≠ (Value.slice A1 k c1).ownBlock := fun e => by have := (HI.out.row.lt _ e.symm).2; have := HB01.out.size; omega
      have HNE := Lib.hid hne
      clear hne
      have HYF := Lib.hid her.form
      have hrdy := Rd.lit (w1.alloc (.cells #[.int .i64 (cd x), .slice A2 m2 c2] 26)) [y] #[y] 24 rfl 1 rfl
      rw [World.size_alloc] at hrdy
      have HRDY := Lib.hid hrdy
      have hone : ∀ u ∈ [y], u.oneCell' = true := by intro u hu; rw [List.mem_singleton.1 hu]; exact hy
      have HONE := Lib.hid hone
      have q1 : k + 1 ≤ maxLen := by unfold maxLen; omega
      have q2 : (k + 1) * 16 ≤ 140737488355328 := by omega
      have q3 := HWB.out.size
      have HQ1 := Lib.hid q1
      have HQ2 := Lib.hid q2
      have HQ3 := Lib.hid q3
      clear q1 q2 q3 hone hrdy
      clear hfb c0 hb2 hb3 hbx hb01 hba hb1 her hrd2 hy c03
      have HW0 := Lib.hid (wantOf_snoc HX.out)
      generalize wantOf (cs.take k) = want at *
      have hq : want = 0 ∨ (want == 0) = false := by
        by_cases h : want = 0
        · exact .inl h
        · exact .inr (beq_eq_false_iff_ne.2 h)
      rcases HYF.out with rfl | ⟨T, z, rfl⟩
      all_goals
        rcases hq with rfl | hq
        all_goals
          go_wp2_with (at_builtin; refine wpList_append_rd _ rfl (.tmp 39) (.tmp 41) 48 rfl w.heap.size 24 i0 .nilIface 16 Tryd.underlying48 hi hz0 hz1 hz2 rfl (.slice A1 k c1) k xs rfl HROW.out _ (some ⟨w1.heap.size + 1, 0, none⟩) 1 1 [_] rfl HRDY.out HONE.out HQ1.out HQ2.out HQ3.out ?_; intro v2 w2 hown2 hgrow hat; have c04 := (hgrow.cell (a := ⟨w1.heap.size, 0, none⟩) C03.out HNE.out))
          have HE2 := Lib.hid (HE1.out.grown HROW.out (by decide) hgrow)
          have HER2 := Lib.hid (HER.out.grown HROW.out (by decide) hgrow)
          have HO2 := Lib.hid hown2
          have HB4 := Lib.hid (HWB.out.grown hgrow (by exact HWB.out.size) (fun j hj => (HI.out.row.lt _ hj).1))
          clear hown2 hgrow hat
          go_wp2_with fail
          go_roundw
          case rel => exact ⟨k + 1, _, by omega, by go_num, by rw [HW0.out]; first | rw [if_neg (beq_eq_false_iff_ne.1 hq)] | simp, HO2.out, HER2.out.snoc HX.out HE2.out hp40, HB4.out⟩
          case measure => simp [intOf]; omega
    · have he : ¬ (k : Int) < n := by omega
      have hkn : k = n := by omega
      subst hkn
      have hw : cs.take k = cs := List.take_of_length_le (by rw [HCL.out]; exact Nat.le_refl _)
      have hers := HI.out.ers
      rw [hw] at hers
      rw [hw]
      have HE := Lib.hid hers
      clear hw hers
      generalize hwant : wantOf cs = want at *
      have HWA := Lib.hid hwant
      clear hwant
      obtain ⟨wo, rfl⟩ : ∃ wo : World, wo = wr := ⟨_, rfl⟩
      go_wp2_with fail
      go_loopw [10, 11, 12] (fun v t i wr => ∃ q : Nat, q ≤ m ∧ i = .int .i64 q ∧ t = .bool (askB want (l.take q)) ∧ wr.ownsRow wo.heap.size 29 1 v q (Is (l.take q)) ∧ Below wo.heap.size wo wr) (fun _ _ i _ => m - (intOf i).toNat)
      case atStart => exact ⟨0, Nat.zero_le _, rfl, by simp [askB, hasI], World.ownsRow_nil _ _ _ _, Below.refl _ _⟩
      case round =>
        obtain ⟨q, hq, rfl, rfl, hrow, hbel⟩ := hrel
        obtain ⟨A3, c3, rfl⟩ := own_slice hrow
        have HROW := Lib.hid hrow
        have HB := Lib.hid hbel
        clear hrow hbel
        by_cases hqm : q < m
        · obtain ⟨b0, x, rfl, hbb, hx, hcb⟩ := ((HL.out.belowAll HI.out.below).belowAll HB.out).num hqm
          have HX := Lib.hid hx
          have HAS := Lib.hid (askB_snoc (want := want) hx)
          have HTK : Hid (Is (l.take (q + 1)) = Is (l.take q) ++ [.int .i64 x]) := Lib.hid (by rw [List.take_add_one, hx, Is_append]; rfl)
          clear hx
          have hba : Below wr.heap.size wr (wr.alloc (.cells #[.int .i64 x] 29)) := (Below.refl _ _).alloc (Nat.le_refl _) _
          have HR2 := Lib.hid (own_below HROW.out hba)
          have hone : ∀ u ∈ [Value.int .i64 x], u.oneCell' = true := by intro u hu; rw [List.mem_singleton.1 hu]; rfl
          have HONE := Lib.hid hone
          have HRD := Lib.hid (Rd.lit wr [.int .i64 x] #[.int .i64 x] 29 rfl 1 rfl)
          have q1 : q + 1 ≤ maxLen := by unfold maxLen; omega
          have q2 : (q + 1) * 8 ≤ 140737488355328 := by omega
          have q3 : wo.heap.size ≤ (wr.alloc (.cells #[.int .i64 x] 29)).heap.size := Nat.le_trans HB.out.size hba.size
          have HQ1 := Lib.hid q1
          have HQ2 := Lib.hid q2
          have HQ3 := Lib.hid q3
          have hcb2 := (hba.cell (p := b0.add q) (by rw [add_block]; exact hbb)).trans hcb
          have hbw : b0.block < wo.heap.size := by
            obtain ⟨a9, _, e9, hb9, _⟩ := (HL.out.belowAll HI.out.below).num hqm
            injection e9 with e9
            subst e9
            exact hb9
          have hne : some (b0.add q).block ≠ (Value.slice A3 q c3).ownBlock := fun e => by
            have h := (HROW.out.lt _ e.symm).1
            rw [add_block] at h
            omega
          have HNE := Lib.hid hne
          have HCB := Lib.hid hcb2
          have HBA := Lib.hid (HB.out.trans (hba.mono HB.out.size))
          clear q1 q2 q3 hone hne hcb2 hba
          cases hA : askB want (l.take q) with
          | true =>
            have HA := Lib.hid hA
            clear hA
            go_wp2_with (at_builtin; refine wpList_append_rd _ rfl (.tmp 53) (.tmp 58) 49 rfl wo.heap.size 29 j0 (.int .i64 0) 8 Tryd.underlying49 hj hy0 hy1 hy2 rfl (.slice A3 q c3) q (Is (l.take q)) rfl HR2.out _ (some ⟨wr.heap.size, 0, none⟩) 1 1 [.int .i64 x] rfl HRD.out HONE.out HQ1.out HQ2.out HQ3.out ?_; intro v2 w2 hown2 hgrow hat; have c04 := (hgrow.cell (a := b0.add q) HCB.out HNE.out))
            have HO2 := Lib.hid hown2
            have HB4 := Lib.hid (HBA.out.grown hgrow (by exact HBA.out.size) (fun j hj => (HROW.out.lt _ hj).1))
            clear hown2 hgrow hat
            go_wp2_with fail
            go_roundw
            case rel => exact ⟨q + 1, by omega, by go_num, by rw [HAS.out, HA.out]; rfl, by rw [HTK.out]; exact HO2.out, HB4.out⟩
            case measure => simp [intOf]; omega
          | false =>
            have HA := Lib.hid hA
            clear hA
            by_cases h0 : want = 0
            · subst h0
              go_wp2_with (at_builtin; refine wpList_append_rd _ rfl (.tmp 53) (.tmp 58) 49 rfl wo.heap.size 29 j0 (.int .i64 0) 8 Tryd.underlying49 hj hy0 hy1 hy2 rfl (.slice A3 q c3) q (Is (l.take q)) rfl HR2.out _ (some ⟨wr.heap.size, 0, none⟩) 1 1 [.int .i64 x] rfl HRD.out HONE.out HQ1.out HQ2.out HQ3.out ?_; intro v2 w2 hown2 hgrow hat; have c04 := (hgrow.cell (a := b0.add q) HCB.out HNE.out))
              have HO2 := Lib.hid hown2
              have HB4 := Lib.hid (HBA.out.grown hgrow (by exact HBA.out.size) (fun j hj => (HROW.out.lt _ hj).1))
              clear hown2 hgrow hat
              go_wp2_with fail
              go_roundw
              case rel => exact ⟨q + 1, by omega, by go_num, by rw [HAS.out, HA.out]; rfl, by rw [HTK.out]; exact HO2.out, HB4.out⟩
              case measure => simp [intOf]; omega
            · have h1 : (want != 0) = true := by rw [bne_iff_ne]; exact h0
              have H1 := Lib.hid h1
              clear h0
              go_wp2_with (at_builtin; refine wpList_append_rd _ rfl (.tmp 53) (.tmp 58) 49 rfl wo.heap.size 29 j0 (.int .i64 0) 8 Tryd.underlying49 hj hy0 hy1 hy2 rfl (.slice A3 q c3) q (Is (l.take q)) rfl HR2.out _ (some ⟨wr.heap.size, 0, none⟩) 1 1 [.int .i64 x] rfl HRD.out HONE.out HQ1.out HQ2.out HQ3.out ?_; intro v2 w2 hown2 hgrow hat; have c04 := (hgrow.cell (a := b0.add q) HCB.out HNE.out))
              have HO2 := Lib.hid hown2
              have HB4 := Lib.hid (HBA.out.grown hgrow (by exact HBA.out.size) (fun j hj => (HROW.out.lt _ hj).1))
              clear hown2 hgrow hat
              go_wp2_with fail
              go_roundw
              case rel => exact ⟨q + 1, by omega, by go_num, by rw [HAS.out, HA.out, H1.out, Bool.false_or, Bool.true_and], by rw [HTK.out]; exact HO2.out, HB4.out⟩
              case measure => simp [intOf]; omega
        · have hqn : ¬ (q : Int) < m := by omega
          have hqm2 : q = m := by omega
          subst hqm2
          have hl2 : l.take q = l := List.take_of_length_le (by rw [HLL.out]; exact Nat.le_refl _)
          have hr2 := HROW.out
          rw [hl2] at hr2
          rw [hl2]
          have HROW2 := Lib.hid hr2
          clear hl2 hr2
          have HBX := Lib.hid (HI.out.below.trans (HB.out.mono HI.out.below.size))
          have HE2 := Lib.hid (HE.out.below HB.out)
          have HXR := Lib.hid (own_below HI.out.row HB.out)
          have HGX := Lib.hid (HG.out.below HBX.out HG.out.pos)
          clear hlt
          go_wp2_with fail
          refine (first_any A1 k c1 xs _ _ (by omega) (Rd.of_own HXR.out) HE2.out.forms).mono ?_
          rintro e w3 ⟨rfl, rfl⟩
          obtain ⟨ps, hp, her⟩ := HE2.out.fst
          rw [HWA.out] at her
          have HER := Lib.hid her
          generalize Go.Proofs.YtaekepejeokciaaDoor.fst xs = y at *
          clear her
          go_wp2_with fail
          refine (lcode_er ps want y _ HER.out HGX.out).mono ?_
          rintro e w4 ⟨rfl, hb4⟩
          have HER4 := Lib.hid (HER.out.below hb4)
          have HG4 := Lib.hid (HGX.out.below hb4 HGX.out.pos)
          have HR4 := Lib.hid (own_below HROW2.out hb4)
          have HB4 := Lib.hid (HBX.out.trans (hb4.mono HBX.out.size))
          clear hb4
          go_wp2_with fail
          refine (is_er ps want y A3 q c3 l _ _ HER4.out (by omega) HG4.out (by omega) (Rd.of_own HR4.out)).mono ?_
          rintro e w5 ⟨rfl, hb5⟩
          have HG5 := Lib.hid (HG4.out.below hb5 HG4.out.pos)
          have HB5 := Lib.hid (HB4.out.trans (hb5.mono HB4.out.size))
          clear hb5
          rw [show (want != 0 && hasI l want) = askB want l from rfl]
          generalize askB want l = bb at *
          have hbq : (bb == bb) = true := by simp
          cases bb
          all_goals
            go_wp2_with fail
            refine (awake1_any _ HG5.out).mono ?_
            rintro e w6 ⟨rfl, hb6⟩
            have HB6 := Lib.hid (HB5.out.trans (hb6.mono HB5.out.size))
            clear hb6
            go_wp2_with fail
            go_ret
            exact ⟨rfl, HB6.out⟩

set_option maxHeartbeats 800000 in
theorem first_great (a b : Option Addr) (n m c d : Nat) (w : World) (h : 40 < n ∨ 40 < m) (hg : ErrTy w) :
    Calls Tryd.prog 5 #[.slice a n c, .slice b m d] w fun e w' => e = .returned (.bool true) ∧ Below w.heap.size w w' := by
  have HG := Lib.hid hg
  clear hg
  by_cases hn : 40 < n
  · have h1 : (40 : Int) < n := by omega
    clear h hn
    go_enter Tryd.func5, Tryd.ntmps5
    go_wp2_with fail
    refine (awake1_any _ HG.out).mono ?_
    rintro e w6 ⟨rfl, hb6⟩
    go_wp2_with fail
    go_ret
    exact ⟨rfl, hb6⟩
  · have h1 : ¬ (40 : Int) < n := by omega
    have h2 : (40 : Int) < m := by omega
    clear h hn
    go_enter Tryd.func5, Tryd.ntmps5
    go_wp2_with fail
    refine (awake1_any _ HG.out).mono ?_
    rintro e w6 ⟨rfl, hb6⟩
    go_wp2_with fail
    go_ret
    exact ⟨rfl, hb6⟩

theorem first_law (a b : Option Addr) (n m c d : Nat) (cs : List UInt8) (l : List Int) (F G : Nat → Prop) (w : World) (hr : Rd w F a n (Bs cs)) (hl : Rd w G b m (Is l)) (hg : ErrTy w) :
    Calls Tryd.prog 5 #[.slice a n c, .slice b m d] w fun e w' => e = .returned (.bool true) ∧ Below w.heap.size w w' := by
  by_cases h : 40 < n ∨ 40 < m
  · exact first_great a b n m c d w h hg
  · exact first_small a b n m c d cs l F G w (by omega) (by omega) hr hl hg

end Go.Proofs.YtaekepejeokciaaDoor
