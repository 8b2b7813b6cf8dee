/- The document's digits: Rest, a division by hand. -/
import Derived.Test.YtklbcpaoccdmeaaDoorRfB
import Derived.Deep.RegionHeld3
import Derived.Deep.MidRow
import Derived.Deep.LoopGhost
import Derived.Laws.OwnMore
import Derived.Laws.BitsAllLaws
import Derived.Deep.CutRange
import Derived.Deep.CutBlock
import Derived.RegionTactic
import Derived.Lib.Hide
import Derived.IntWalk
namespace Go.Proofs.YtklbcpaoccdmeaaDoor
set_option maxRecDepth 100000
open Go.RowKit

set_option linter.unusedSimpArgs false
theorem rest_sub {C t n : Nat} (hC : C < 256 ^ n) (h : ¬ C < qq * 256 ^ t) : ∃ D, D + qq * 256 ^ t = C ∧ D < C ∧ D < 256 ^ n ∧ D % qq = C % qq := by
  have hp : 0 < qq * 256 ^ t := Nat.mul_pos qq_pos (p256 t)
  refine ⟨C - qq * 256 ^ t, by omega, by omega, by omega, ?_⟩
  conv => rhs; rw [show C = C - qq * 256 ^ t + qq * 256 ^ t by omega]
  rw [Nat.add_mul_mod_self_left]

set_option maxHeartbeats 6400000 in
theorem rest_doc (A n : Nat) (hA : A < 256 ^ n) (h1 : 1 ≤ n) (hn : n ≤ 1000) (a : Option Addr) (cap : Nat) (F : Nat → Prop) (w : World) (hr : Rd w F a n (Tabs .i64 (byt A) n)) :
    Calls Tryd.prog 21 #[.slice a n cap] w fun e w' => ∃ v, e = .returned v ∧ w'.ownsRow w.heap.size 3 1 v n (Tabs .i64 (byt (A % qq)) n) ∧ Below w.heap.size w w' := by
  obtain ⟨i0, hi, hz0, hz1, hz2⟩ := info_parts int_inf
  have hst : A < qq * 256 ^ (n + 1) := by
    refine Nat.lt_of_lt_of_le hA (Nat.le_trans (Nat.pow_le_pow_right (by decide) (Nat.le_succ n)) ?_)
    exact Nat.le_mul_of_pos_left _ qq_pos
  have hr0 := hr.belowAll ((Below.refl w.heap.size w).alloc (Nat.le_refl _) (.cells #[] 3))
  have q1 : 0 + n ≤ maxLen := by unfold maxLen; omega
  have q2 : (0 + n) * 8 ≤ 140737488355328 := by omega
  have HR := Lib.hid hr0
  have HI := Lib.hid hi
  have HZ0 := Lib.hid hz0
  have HZ1 := Lib.hid hz1
  have HZ2 := Lib.hid hz2
  have HA := Lib.hid hA
  have HST := Lib.hid hst
  have HQ1 := Lib.hid q1
  have HQ2 := Lib.hid q2
  clear hr hr0 hi hz0 hz1 hz2 hA hst q1 q2
  go_enter Tryd.func21, Tryd.ntmps21
  go_wp2_with (at_builtin; refine wpList_append_rd _ rfl (.tmp 8) (.tmp 9) 42 rfl w.heap.size 3 i0 (.int .i64 0) 8 Tryd.underlying42 HI.out HZ0.out HZ1.out HZ2.out rfl (.slice (some ⟨w.heap.size, 0, none⟩) 0 0) 0 [] rfl (World.ownsRow_made w #[] 0 (Nat.le_refl _) (by unfold maxLen; omega) rfl) F a n cap (Tabs .i64 (byt A) n) rfl HR.out (Tabs_ones _ _ _) HQ1.out HQ2.out (by simp) ?_; intro v2 w2 hown2 hgrow hat; rw [Nat.zero_add, List.nil_append] at hown2; obtain ⟨g, c2, rfl, hg1, hg2⟩ := hown2.form (by omega); have HOWN2 := Lib.hid hown2; have HG2 := Lib.hid hgrow; clear hown2 hgrow hat)
  have hb2 := ((Below.refl w.heap.size w).alloc (Nat.le_refl _) (.cells #[] 3)).grown HG2.out (by simp) (fun q hq => by cases hq; exact Nat.le_refl _)
  have HB2 := Lib.hid hb2
  clear hb2
  go_loopw [4] (fun i wr => ∃ u C : Nat, u ≤ n + 1 ∧ i = .int .i64 ((u : Int) - 1) ∧ C < 256 ^ n ∧ C % qq = A % qq ∧ C < qq * 256 ^ u ∧ wr.ownsRow w.heap.size 3 1 (.slice (some ⟨g, 0, none⟩) n c2) n (Tabs .i64 (byt C) n) ∧ Below w.heap.size w wr) (fun i _ => (intOf i + 1).toNat)
  case atStart => exact ⟨n + 1, A, Nat.le_refl _, by congr 1; omega, HA.out, rfl, HST.out, HOWN2.out, HB2.out⟩
  case round =>
    obtain ⟨u, C, hu, rfl, hCn, hCq, hCu, hown, hbe⟩ := hrel
    by_cases hu0 : u = 0
    · subst hu0
      rw [show (((0 : Nat) : Int) - 1) = -1 from rfl]
      have hCA : C = A % qq := by
        rw [Nat.pow_zero, Nat.mul_one] at hCu
        rw [← hCq, Nat.mod_eq_of_lt hCu]
      have HCA := Lib.hid hCA
      have HOWN := Lib.hid hown
      have HBE := Lib.hid hbe
      clear hCn hCq hCu hown hbe hCA
      go_wp2_with fail
      go_ret
      exact ⟨_, rfl, by rw [← HCA.out]; exact HOWN.out, HBE.out⟩
    · obtain ⟨t, rfl⟩ : ∃ t, u = t + 1 := ⟨u - 1, by omega⟩
      have hii : (((t + 1 : Nat) : Int) - 1) = (t : Int) := by omega
      rw [hii]
      have bt0 : (0 : Int) ≤ (t : Int) := by omega
      have bt1 : (t : Int) ≤ 1000 := by omega
      have HCN := Lib.hid hCn
      have HCQ := Lib.hid hCq
      have HOWN := Lib.hid hown
      have HBE := Lib.hid hbe
      clear hCn hCq hCu hown hbe hii
      go_wp2_with fail
      obtain ⟨wo, rfl⟩ : ∃ wo, wo = wr := ⟨_, rfl⟩
      go_loopg [] C (fun gk wr => ∃ E : Nat, E = gk ∧ E < 256 ^ n ∧ E % qq = A % qq ∧ wr.ownsRow w.heap.size 3 1 (.slice (some ⟨g, 0, none⟩) n c2) n (Tabs .i64 (byt E) n) ∧ Below w.heap.size w wr)
      case atStart => exact ⟨C, rfl, HCN.out, HCQ.out, HOWN.out, HBE.out⟩
      case round =>
        obtain ⟨E, rfl, hEn, hEq, hown, hbe⟩ := hrel
        have HEN := Lib.hid hEn
        have HEQ := Lib.hid hEq
        have HOWNE := Lib.hid hown
        have HBEE := Lib.hid hbe
        clear hEn hEq hown hbe
        go_wp2_with fail
        refine (Q_any wr).mono ?_
        rintro e w3 ⟨g3, rfl, hq3, hb3⟩
        have hown3 := own_below HOWNE.out hb3
        have hbe3 := HBEE.out.trans (hb3.mono HBEE.out.size)
        have hless := less_any E n qq 32 t HEN.out q_256 hn (by omega) (by omega) (some ⟨g, 0, none⟩) (some ⟨g3, 0, none⟩) c2 32 _ _ w3 (Rd.of_own hown3) (hq3.rd (Tabs_length _ _ _))
        have HL := Lib.hid hless
        have HOWN3 := Lib.hid hown3
        have HBE3 := Lib.hid hbe3
        clear hq3 hb3 hown3 hbe3 hless
        go_wp2_with fail
        refine HL.out.mono ?_
        rintro e w' ⟨rfl, rfl⟩
        by_cases hlt : E < qq * 256 ^ t
        · rw [decide_eq_true hlt]
          have HLT := Lib.hid hlt
          clear hlt
          go_wp2_with fail
          go_roundw
          case rel => exact ⟨t, E, by omega, rfl, HEN.out, HEQ.out, HLT.out, HOWN3.out, HBE3.out⟩
          case measure => simp [intOf] <;> omega
        · obtain ⟨D, hD, hDE, hDn, hDq⟩ := rest_sub HEN.out hlt
          rw [decide_eq_false hlt]
          have hdif := dif_byt hD
          have HDIF := Lib.hid hdif
          have HD := Lib.hid hD
          have HDN := Lib.hid hDn
          have HDQ := Lib.hid hDq
          clear hlt hD hDn hDq hdif
          generalize hB : qq * 256 ^ t = B at *
          have HB := Lib.hid hB
          clear hB
          go_wp2_with fail
          obtain ⟨wp, rfl⟩ : ∃ wp, wp = w' := ⟨_, rfl⟩
          go_loopw [5, 6] (fun un i wr => ∃ k : Nat, k ≤ n ∧ i = .int .i64 k ∧ un = .int .i64 ((brb E B k : Nat) : Int) ∧ wr.ownsRow w.heap.size 3 1 (.slice (some ⟨g, 0, none⟩) n c2) n (Tabs .i64 (mixb D E k) n) ∧ Below w.heap.size w wr) (fun _ i _ => n - (intOf i).toNat)
          case atStart => exact ⟨0, Nat.zero_le _, rfl, by rw [brb_zero]; rfl, by rw [mixb_zero]; exact HOWN3.out, HBE3.out⟩
          case round =>
            obtain ⟨k, hkn, rfl, rfl, hown, hbe⟩ := hrel
            by_cases hk : k < n
            · have hcell := hown.cellAt k (by omega)
              rw [Tabs_get .i64 (mixb D E k) n hk, show mixb D E k k = byt E k by unfold mixb; rw [if_neg (Nat.lt_irrefl k)]] at hcell
              have hmix := mixb_set D E n hk
              have hd := HDIF.out k
              have hcl := brb_le E B k
              have hcl2 := brb_le E B (k + 1)
              have lx := byt_lt E k
              have lz := byt_lt D k
              have hBk : byt (qq * 256 ^ t) k = byt B k := by rw [HB.out]
              have ly := byt_lt B k
              generalize byt E k = x at *
              generalize byt B k = y at *
              generalize byt D k = z at *
              generalize brb E B k = c at *
              generalize hc' : brb E B (k + 1) = c' at *
              have HC' := Lib.hid hc'
              clear hc'
              have w1 : IntKind.i64.wrap ((k : Int) - (t : Int)) = (k : Int) - (t : Int) := IntWalk.i64_in _ (by omega)
              have w2 : IntKind.i64.wrap ((x : Int) - (y : Int)) = (x : Int) - (y : Int) := IntWalk.i64_in _ (by omega)
              have w3 : IntKind.i64.wrap ((x : Int) - (y : Int) - (c : Int)) = (x : Int) - (y : Int) - (c : Int) := IntWalk.i64_in _ (by omega)
              have HCELL := Lib.hid hcell
              have HMIX := Lib.hid hmix
              have HBK := Lib.hid hBk
              have HOWNK := Lib.hid hown
              have HBEK := Lib.hid hbe
              have HDD := Lib.hid hd
              have hgl : g < wr.heap.size := lt_of_cell (a := ⟨g, k, none⟩) hcell
              have HGL := Lib.hid hgl
              have bk0 : (0 : Int) ≤ (k : Int) := by omega
              have bk1 : (k : Int) < (n : Int) := by omega
              clear hcell hmix hBk hown hbe hd hgl
              go_upto_region 10 with fail
              refine wp_region_any (by kernel_rfl) ?_
              change wpAny _ _ _ _ _ _ _ (World.drew _)
              refine wpAny_of_held (S := (fun w' : World => Below wr.heap.size wr w')) _ _ _ _ ?_
              have hHeld := ((Below.refl wr.heap.size wr).drew)
              refine wpAnyH_take (i := 0) (v := ?_) rfl (by kernel_rfl) (by kernel_rfl) (by kernel_rfl) (fun _ _ _ h => h) (Or.inl ⟨by rfl, ?_⟩) hHeld ?_
              rotate_left
              · (intro w' hSw; go_simp; try (with_reducible rfl))
              change wpAnyH _ _ _ _ _ _ _ (Act.put _ (some 28) _) _
              simp only [Act.put, List.setIfInBounds_toArray, List.set_cons_zero, List.set_cons_succ]
              refine wpAnyH_take (i := 1) (v := ?_) rfl (by kernel_rfl) (by kernel_rfl) (by kernel_rfl) (fun _ _ _ h => h) (Or.inl ⟨by rfl, ?_⟩) hHeld ?_
              rotate_left
              · (intro w' hSw; go_simp; try (with_reducible rfl))
              change wpAnyH _ _ _ _ _ _ _ (Act.put _ (some 29) _) _
              simp only [Act.put, List.setIfInBounds_toArray, List.set_cons_zero, List.set_cons_succ]
              refine wpAnyH_take (i := 5) (v := ?_) rfl (by kernel_rfl) (by kernel_rfl) (by kernel_rfl) (fun _ _ _ h => h) (Or.inl ⟨by rfl, ?_⟩) hHeld ?_
              rotate_left
              · (intro w' hSw; go_simp; try (with_reducible rfl))
              change wpAnyH _ _ _ _ _ _ _ (Act.put _ (some 33) _) _
              simp only [Act.put, List.setIfInBounds_toArray, List.set_cons_zero, List.set_cons_succ]
              refine wpAnyH_take (i := 6) (v := ?_) rfl (by kernel_rfl) (by kernel_rfl) (by kernel_rfl) (fun _ _ _ h => h) (Or.inl ⟨by rfl, ?_⟩) hHeld ?_
              rotate_left
              · (intro w' hSw; go_simp; try (with_reducible rfl))
              change wpAnyH _ _ _ _ _ _ _ (Act.put _ (some 34) _) _
              simp only [Act.put, List.setIfInBounds_toArray, List.set_cons_zero, List.set_cons_succ]
              refine wpAnyH_take (i := 10) (v := ?_) rfl (by kernel_rfl) (by kernel_rfl) (by kernel_rfl) (fun _ _ _ h => h) (Or.inl ⟨by rfl, ?_⟩) hHeld ?_
              rotate_left
              · (intro w' hSw; go_simp; try (with_reducible rfl))
              change wpAnyH _ _ _ _ _ _ _ (Act.put _ (some 38) _) _
              simp only [Act.put, List.setIfInBounds_toArray, List.set_cons_zero, List.set_cons_succ]
              refine wpAnyH_take (i := 2) (v := ?_) rfl (by kernel_rfl) (by kernel_rfl) (by kernel_rfl) (fun _ _ _ h => h) (Or.inl ⟨by rfl, ?_⟩) hHeld ?_
              rotate_left
              · (intro w' hSw; go_simp; try (with_reducible rfl))
              change wpAnyH _ _ _ _ _ _ _ (Act.put _ (some 30) _) _
              simp only [Act.put, List.setIfInBounds_toArray, List.set_cons_zero, List.set_cons_succ]
              refine wpAnyH_take (i := 7) (v := ?_) rfl (by kernel_rfl) (by kernel_rfl) (by kernel_rfl) (fun _ _ _ h => h) (Or.inl ⟨by rfl, ?_⟩) hHeld ?_
              rotate_left
              · (intro w' hSw; go_simp; try (with_reducible rfl))
              change wpAnyH _ _ _ _ _ _ _ (Act.put _ (some 35) _) _
              simp only [Act.put, List.setIfInBounds_toArray, List.set_cons_zero, List.set_cons_succ]
              refine wpAnyH_take (i := 3) (v := ?_) rfl (by kernel_rfl) (by kernel_rfl) (by kernel_rfl) (fun _ _ _ h => h) (Or.inl ⟨by rfl, ?_⟩) hHeld ?_
              rotate_left
              · (intro w' hSw; have c0 := (hSw.cell (p := ⟨g, k, none⟩) HGL.out).trans HCELL.out; go_simp; try (with_reducible rfl))
              change wpAnyH _ _ _ _ _ _ _ (Act.put _ (some 31) _) _
              simp only [Act.put, List.setIfInBounds_toArray, List.set_cons_zero, List.set_cons_succ]
              refine wpAnyH_ready (rs := [4]) (by kernel_rfl) (by simp) ?_
              refine AllReadyH.cons rfl (fun K hK => ?_) AllReadyH.nil
              rw [if_pos (by kernel_rfl)]
              go_simp
              refine (Q_any _).mono ?_
              rintro e w5 ⟨g5, rfl, hq5, hb5⟩
              refine hK.out _ _ (hHeld.trans (hb5.mono hHeld.size)) (fun hHeld => ?_)
              clear hK K
              refine wpAnyH_ready (rs := [8]) (by kernel_rfl) (by simp) ?_
              refine AllReadyH.cons rfl (fun K hK => ?_) AllReadyH.nil
              rw [if_pos (by kernel_rfl)]
              go_simp
              refine (at_up qq 32 t q_256 (some ⟨g5, 0, none⟩) 32 _ k w5 (by omega) (by omega) (hq5.rd (Tabs_length _ _ _))).mono ?_
              rintro e w6 ⟨rfl, rfl⟩
              rw [HBK.out]
              refine hK.out _ _ hHeld (fun hHeld => ?_)
              clear hK K
              refine wpAnyH_take (i := 9) (v := ?_) rfl (by kernel_rfl) (by kernel_rfl) (by kernel_rfl) (fun _ _ _ h => h) (Or.inl ⟨by rfl, ?_⟩) hHeld ?_
              rotate_left
              · (intro w' hSw; go_simp; try (with_reducible rfl))
              change wpAnyH _ _ _ _ _ _ _ (Act.put _ (some 37) _) _
              simp only [Act.put, List.setIfInBounds_toArray, List.set_cons_zero, List.set_cons_succ]
              refine wpAnyH_take (i := 11) (v := ?_) rfl (by kernel_rfl) (by kernel_rfl) (by kernel_rfl) (fun _ _ _ h => h) (Or.inl ⟨by rfl, ?_⟩) hHeld ?_
              rotate_left
              · (intro w' hSw; go_simp; try (with_reducible rfl))
              change wpAnyH _ _ _ _ _ _ _ (Act.put _ (some 39) _) _
              simp only [Act.put, List.setIfInBounds_toArray, List.set_cons_zero, List.set_cons_succ]
              refine wpAnyH_take (i := 12) (v := ?_) rfl (by kernel_rfl) (by kernel_rfl) (by kernel_rfl) (fun _ _ _ h => h) (Or.inl ⟨by rfl, ?_⟩) hHeld ?_
              rotate_left
              · (intro w' hSw; go_simp; try (with_reducible rfl))
              change wpAnyH _ _ _ _ _ _ _ (Act.put _ (some 7) _) _
              simp only [Act.put, List.setIfInBounds_toArray, List.set_cons_zero, List.set_cons_succ]
              refine wpAnyH_done (by kernel_rfl) ?_ _
              have hown6 := own_below HOWNK.out hHeld
              have hbe6 := HBEK.out.trans (hHeld.mono HBEK.out.size)
              have hc6 := (hHeld.cell (p := ⟨g, k, none⟩) HGL.out).trans HCELL.out
              have hf6 := hown6.frozenAt k
              have hst6 := (hown6.stored k (.int .i64 (z : Int))).1
              rw [HMIX.out] at hst6
              have hgb : w.heap.size ≤ g := (HOWNK.out.lt g rfl).1
              have hbs6 := hbe6.setCell (p := ⟨g, k, none⟩) hgb (.int .i64 (z : Int))
              have HST6 := Lib.hid hst6
              have HBS6 := Lib.hid hbs6
              have hd := HDD.out
              clear hown6 hbe6 hst6 hgb hbs6 hHeld hq5 hb5 w1 w2 w3
              by_cases hneg : c' = 0
              · have hdd : (x : Int) - (y : Int) - (c : Int) = (z : Int) := by omega
                rw [hdd]
                clear hd hdd
                go_wp2_with fail
                go_roundw
                case rel => exact ⟨k + 1, by omega, by go_num, by rw [HC'.out, hneg]; rfl, HST6.out, HBS6.out⟩
                case measure => simp [intOf] <;> omega
              · have hdd : (x : Int) - (y : Int) - (c : Int) = (z : Int) - 256 := by omega
                have hc1 : c' = 1 := by omega
                rw [hdd]
                have hng : (z : Int) - 256 < 0 := by omega
                have hzz : IntKind.i64.wrap ((z : Int) - 256 + 256) = (z : Int) := by rw [IntWalk.i64_in _ (by omega)]; omega
                have HC1 := Lib.hid hc1
                clear hd hdd hneg hc1
                go_wp2_with fail
                go_roundw
                case rel => exact ⟨k + 1, by omega, by go_num, by rw [HC'.out, HC1.out]; rfl, HST6.out, HBS6.out⟩
                case measure => simp [intOf] <;> omega
            · obtain rfl : k = n := by omega
              rw [mixb_all] at hown
              have HOWNK := Lib.hid hown
              have HBEK := Lib.hid hbe
              clear hown hbe
              go_wp2_with fail
              go_roundg D
              case measure => exact hDE
              case rel => exact ⟨D, rfl, HDN.out, by rw [HDQ.out]; exact HEQ.out, HOWNK.out, HBEK.out⟩

end Go.Proofs.YtklbcpaoccdmeaaDoor
