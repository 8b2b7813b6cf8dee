/- PackReads: what is told between two fields, and the walk. -/
import Derived.Test.YtaekepejeokciaaDoorRdsB
import Derived.Test.YtaekepejeokciaaDoorGreat
import Derived.Test.YtaekepejeokciaaDoorErrJ
import Derived.Test.YtaekepejeokciaaDoorAwake
import Derived.Deep.RegionHeld
import Derived.Deep.RegionWith
namespace Go.Proofs.YtaekepejeokciaaDoor
set_option maxRecDepth 100000
open Go.RowKit

set_option maxHeartbeats 400000 in
theorem at_any (g : Nat) (A : Option Addr) (c : Nat) (F : Nat → Prop) (k : List UInt8) (p : Nat) (code : Int) (w : World) (h : Rr w g A c F k p code) :
    Calls Tryd.prog 28 #[.pointer (some ⟨g, 0, none⟩)] w fun e w' => e = .returned (.int .i64 p) ∧ w = w' := by
  have h1 := h.c1
  clear h
  go_enter Tryd.func28, Tryd.ntmps28
  go_wp2_with fail
  go_ret
  exact ⟨rfl, rfl⟩

/-- An error of this number, in this place; none, where the number is 0. -/
def EV (w : World) (v : Value) (p : Nat) (code : Int) : Prop := (code = 0 ∧ v = .nilIface) ∨ (code ≠ 0 ∧ Flt w v p code)
theorem EV.below {w w' : World} {v : Value} {p : Nat} {code : Int} (h : EV w v p code) (hb : Below w.heap.size w w') : EV w' v p code :=
  h.imp id fun ⟨h0, b, e, hb'⟩ => ⟨h0, b, e, (hb.block b (Array.getElem?_eq_some_iff.1 hb').1).trans hb'⟩

theorem uerr (g : Nat) (A : Option Addr) (c : Nat) (F : Nat → Prop) (k : List UInt8) (p : Nat) (code : Int) (w : World) (h : Rr w g A c F k p code) :
    Calls Tryd.prog 30 #[.pointer (some ⟨g, 0, none⟩)] w fun e w' => ∃ v, e = .returned v ∧ EV w' v p code ∧ Below w.heap.size w w' := by
  by_cases h0 : code = 0
  · subst h0; exact (err_none g A c F k p w h).mono fun e w' ⟨he, hw⟩ => ⟨_, he, .inl ⟨rfl, rfl⟩, hw ▸ Below.refl _ _⟩
  · exact (err_some g A c F k p code w h h0).mono fun e w' ⟨v, he, hf, hb⟩ => ⟨v, he, .inr ⟨h0, hf⟩, hb⟩

theorem utold (v : Value) (p : Nat) (code : Int) (w : World) (h : EV w v p code) (hg : ErrTy w) :
    Calls Tryd.prog 29 #[v, .int .i64 code, .int .i64 (fz code p)] w fun e w' => e = .returned (.bool true) ∧ Below w.heap.size w w' := by
  rcases h with ⟨rfl, rfl⟩ | ⟨h0, b, rfl, hb⟩
  · exact (told_nil _ w).mono fun e w' ⟨he, hw⟩ => ⟨he, hw ▸ Below.refl _ _⟩
  · have hz : fz code p = p := if_neg h0
    rw [hz]
    exact told_any [(p : Int)] code p w.heap.size _ w ⟨b, _, rfl, (Array.getElem?_eq_some_iff.1 hb).1, hb, rfl⟩ (by simp) hg h0 rfl

/-- The number at the end. -/
def ce (k : List UInt8) (p : Nat) (code : Int) : Int := if code = 0 then (if p < k.length then 2 else 0) else code

theorem uend (g : Nat) (A : Option Addr) (c : Nat) (F : Nat → Prop) (k : List UInt8) (p : Nat) (code : Int) (w : World) (h : Rr w g A c F k p code) :
    Calls Tryd.prog 32 #[.pointer (some ⟨g, 0, none⟩)] w fun e w' => ∃ v, e = .returned v ∧ EV w' v p (ce k p code) ∧ Below w.heap.size w w' := by
  by_cases h0 : code = 0
  · subst h0
    by_cases hp : p < k.length
    · unfold ce; rw [if_pos rfl, if_pos hp]
      exact (end_left g A c F k p w h hp).mono fun e w' ⟨v, he, hf, hb⟩ => ⟨v, he, .inr ⟨by decide, hf⟩, hb⟩
    · have hpk : p = k.length := by have := h.le; omega
      subst hpk
      unfold ce; rw [if_pos rfl, if_neg hp]
      exact (end_ok g A c F k w h).mono fun e w' ⟨he, q, hw⟩ => ⟨_, he, .inl ⟨rfl, rfl⟩, hw ▸ below_dn (Below.refl _ _) q⟩
  · unfold ce; rw [if_neg h0]
    exact (end_broken g A c F k p code w h h0).mono fun e w' ⟨v, he, hf, hb⟩ => ⟨v, he, .inr ⟨h0, hf⟩, hb⟩

theorem vend (g : Nat) (A : Option Addr) (c : Nat) (F : Nat → Prop) (k : List UInt8) (p : Nat) (code : Int) (w : World) (h : Mr w g A c F k p code (fz code p)) :
    Calls Tryd.prog 31 #[.pointer (some ⟨g, 0, none⟩)] w fun e w' => e = .returned (.tuple #[.int .i64 (ce k p code), .int .i64 (fz (ce k p code) p)]) ∧ ∃ q, w' = w.drewN q := by
  by_cases h0 : code = 0
  · subst h0
    by_cases hp : p < k.length
    · unfold ce; rw [if_pos rfl, if_pos hp]
      exact mend_left g A c F k p w h hp
    · have hpk : p = k.length := by have := h.le; omega
      subst hpk
      unfold ce; rw [if_pos rfl, if_neg hp]
      exact mend_ok g A c F k w h
  · unfold ce; rw [if_neg h0]
    exact mend_broken g A c F k p w code _ h h0

set_option maxHeartbeats 8000000 in
theorem packreads_small (b : Option Addr) (cb : Nat) (k : List UInt8) (a : Option Addr) (n c : Nat) (l : List Fd) (w : World) (hb : Rd w (fun j => j < w.heap.size) b k.length (Bs k)) (hk : k.length ≤ 400) (hcb : k.length ≤ cb) (hct : cb ≤ maxLen)
    (h : Fds w (fun j => j < w.heap.size) a n l) (hn : n ≤ 140737488351232) (ht : tot l ≤ 400) (hg : ErrTy w) :
    Calls Tryd.prog 7 #[.slice b k.length cb, .slice a n c] w fun e w' => e = .returned (.bool true) ∧ Below w.heap.size w w' := by
  have HD := Lib.hid (decide_eq_false (by omega : ¬ 400 < tot l))
  have H := Lib.hid h
  have HB := Lib.hid hb
  have HG := Lib.hid hg
  have hk' : ¬ (400 : Int) < k.length := by omega
  have HCB := Lib.hid hcb
  have HCT := Lib.hid hct
  clear h hb hg ht hcb hct
  go_enter Tryd.func7, Tryd.ntmps7
  go_wp2_with fail
  refine (great_any a n c l _ _ H.out hn).mono ?_
  rintro e w' ⟨rfl, rfl⟩
  rw [HD.out]
  go_wp2_with fail
  refine (new_any b k.length cb k _ _ HB.out (by omega)).mono ?_
  rintro e w1 ⟨g1, A1, c1, rfl, hrr, hlo, hb1⟩
  have hba : Below w1.heap.size w1 (w1.alloc (.cells #[.slice b k.length cb, .int .i64 0, .int .i64 0, .int .i64 0] 60)) := (Below.refl _ _).alloc (Nat.le_refl _) _
  have htwo : Two (w1.alloc (.cells #[.slice b k.length cb, .int .i64 0, .int .i64 0, .int .i64 0] 60)) g1 w1.heap.size w.heap.size A1 b c1 cb k 0 0 :=
    ⟨hrr.below hba, ⟨heap_alloc_new _ _, (HB.out.belowAll hb1).belowAll hba, HCB.out, HCT.out, by omega, Nat.zero_le _, by have := hb1.size; omega⟩, hrr.lt, hlo⟩
  have HT := Lib.hid htwo
  have HB1 := Lib.hid (hb1.trans (hba.mono hb1.size))
  have hg1 : g1 < w1.heap.size := hrr.lt
  have hlo1 := hlo
  clear hrr hba htwo hb1
  go_wp2_with fail
  go_loopw [7] (fun i wr => ∃ (j p : Nat) (code : Int), j ≤ n ∧ i = .int .i64 j ∧ Two wr g1 w1.heap.size w.heap.size A1 b c1 cb k p code ∧ Below w.heap.size w wr) (fun i _ => n - (intOf i).toNat)
  case atStart => exact ⟨0, 0, 0, Nat.zero_le _, rfl, HT.out, HB1.out⟩
  case round =>
    obtain ⟨j, p, code, hj, rfl, htw, hbl⟩ := hrel
    have HT2 := Lib.hid htw
    have HB2 := Lib.hid hbl
    have HG2 := Lib.hid (HG.out.below hbl HG.out.pos)
    clear htw hbl
    by_cases hlt : j < n
    · obtain ⟨f, ad, A3, c3, hf, rfl, hfd⟩ := H.out.at_ hlt
      obtain ⟨k0, k1, k2, k3⟩ := (hfd.below HB2.out).cells
      have hm1 := hfd.m1
      have hm2 := hfd.m2
      clear hf hfd
      by_cases h6 : f.kind = 6
      · have q6 : (f.kind == 6) = true := beq_iff_eq.2 h6
        clear h6
        by_cases hneg : f.most < 0
        · go_wp2_with fail
          go_roundw
          case rel => exact ⟨j + 1, p, code, by omega, by go_num, HT2.out, HB2.out⟩
          case measure => simp [intOf]; omega
        · by_cases h15 : 15 < f.most
          · go_wp2_with fail
            go_roundw
            case rel => exact ⟨j + 1, p, code, by omega, by go_num, HT2.out, HB2.out⟩
            case measure => simp [intOf]; omega
          · go_wp2_with fail
            refine wp_region_any (by kernel_rfl) ?_
            change wpAny _ _ _ _ _ _ _ (World.drew _)
            refine wpAny_take (i := 0) (v := ?_) rfl (by kernel_rfl) (by kernel_rfl) (by kernel_rfl) (fun _ _ _ h => h) (Or.inl ⟨by rfl, ?_⟩) ?_
            rotate_left
            · (intro w'; go_simp; try (with_reducible rfl))
            change wpAny _ _ _ _ _ _ (Act.put _ (some 51) _) _
            simp only [Act.put, List.setIfInBounds_toArray, List.set_cons_zero, List.set_cons_succ]
            refine wpAny_take (i := 1) (v := ?_) rfl (by kernel_rfl) (by kernel_rfl) (by kernel_rfl) (fun _ _ _ h => h) (Or.inl ⟨by rfl, ?_⟩) ?_
            rotate_left
            · (intro w'; go_simp; try (with_reducible rfl))
            change wpAny _ _ _ _ _ _ (Act.put _ (some 52) _) _
            simp only [Act.put, List.setIfInBounds_toArray, List.set_cons_zero, List.set_cons_succ]
            refine wpAny_take (i := 2) (v := ?_) rfl (by kernel_rfl) (by kernel_rfl) (by kernel_rfl) (fun _ _ _ h => h) (Or.inl ⟨by rfl, ?_⟩) ?_
            rotate_left
            · (intro w'; go_simp; try (with_reducible rfl))
            change wpAny _ _ _ _ _ _ (Act.put _ (some 53) _) _
            simp only [Act.put, List.setIfInBounds_toArray, List.set_cons_zero, List.set_cons_succ]
            refine wpAny_take (i := 3) (v := ?_) rfl (by kernel_rfl) (by kernel_rfl) (by kernel_rfl) (fun _ _ _ h => h) (Or.inl ⟨by rfl, ?_⟩) ?_
            rotate_left
            · (intro w'; go_simp; try (with_reducible rfl))
            change wpAny _ _ _ _ _ _ (Act.put _ (some 54) _) _
            simp only [Act.put, List.setIfInBounds_toArray, List.set_cons_zero, List.set_cons_succ]
            refine wpAny_take (i := 4) (v := ?_) rfl (by kernel_rfl) (by kernel_rfl) (by kernel_rfl) (fun _ _ _ h => h) (Or.inl ⟨by rfl, ?_⟩) ?_
            rotate_left
            · (intro w'; go_simp; try (with_reducible rfl))
            change wpAny _ _ _ _ _ _ (Act.put _ (some 55) _) _
            simp only [Act.put, List.setIfInBounds_toArray, List.set_cons_zero, List.set_cons_succ]
            refine wpAny_ready (rs := [5]) (by kernel_rfl) (by simp) ?_
            refine AllReady.cons rfl (fun K hK => ?_) AllReady.nil
            go_simp
            refine hK _ _ ?_
            clear hK K
            refine wpAny_ready (rs := [6]) (by kernel_rfl) (by simp) ?_
            refine AllReady.cons rfl (fun K hK => ?_) AllReady.nil
            go_simp
            refine (reads_any g1 w1.heap.size w.heap.size A1 b c1 cb k p code f A3 c3 _ (HT2.out.drewN 1) hm2).mono ?_
            rintro e w3 ⟨rfl, p3, code3, ht3, hb3⟩
            have m1 := ht3.mr.c1
            have m2 := ht3.mr.c2
            have m3 := ht3.mr.c3
            have qpp : (((p3 : Nat) : Int) != (p3 : Nat)) = false := by simp
            have HT3 := Lib.hid ht3
            have HB3 := Lib.hid ((below_dn HB2.out 1).trans hb3)
            clear ht3 hb3
            refine hK _ _ ?_
            clear hK K
            refine wpAny_of_held (S := (fun w' => w'.cell? ⟨w1.heap.size, 1, none⟩ = some (.int .i64 p3) ∧ w'.cell? ⟨w1.heap.size, 2, none⟩ = some (.int .i64 code3) ∧ w'.cell? ⟨w1.heap.size, 3, none⟩ = some (.int .i64 (fz code3 p3)))) _ _ _ _ ?_
            have hHeld : (fun w' => w'.cell? ⟨w1.heap.size, 1, none⟩ = some (.int .i64 p3) ∧ w'.cell? ⟨w1.heap.size, 2, none⟩ = some (.int .i64 code3) ∧ w'.cell? ⟨w1.heap.size, 3, none⟩ = some (.int .i64 (fz code3 p3))) w3 := ⟨m1, m2, m3⟩
            refine wpAnyH_take (i := 7) (v := ?_) rfl (by kernel_rfl) (by kernel_rfl) (by kernel_rfl) (fun _ _ _ h => h) (Or.inl ⟨by rfl, ?_⟩) hHeld ?_
            rotate_left
            · (intro w' hSw; (try dsimp only at hSw); obtain ⟨s1, s2, s3⟩ := hSw; go_simp; try (with_reducible rfl))
            change wpAnyH _ _ _ _ _ _ _ (Act.put _ (some 58) _) _
            simp only [Act.put, List.setIfInBounds_toArray, List.set_cons_zero, List.set_cons_succ]
            refine wpAnyH_take (i := 8) (v := ?_) rfl (by kernel_rfl) (by kernel_rfl) (by kernel_rfl) (fun _ _ _ h => h) (Or.inl ⟨by rfl, ?_⟩) hHeld ?_
            rotate_left
            · (intro w' hSw; (try dsimp only at hSw); obtain ⟨s1, s2, s3⟩ := hSw; go_simp; try (with_reducible rfl))
            change wpAnyH _ _ _ _ _ _ _ (Act.put _ (some 59) _) _
            simp only [Act.put, List.setIfInBounds_toArray, List.set_cons_zero, List.set_cons_succ]
            refine wpAnyH_take (i := 9) (v := ?_) rfl (by kernel_rfl) (by kernel_rfl) (by kernel_rfl) (fun _ _ _ h => h) (Or.inl ⟨by rfl, ?_⟩) hHeld ?_
            rotate_left
            · (intro w' hSw; (try dsimp only at hSw); obtain ⟨s1, s2, s3⟩ := hSw; go_simp; try (with_reducible rfl))
            change wpAnyH _ _ _ _ _ _ _ (Act.put _ (some 60) _) _
            simp only [Act.put, List.setIfInBounds_toArray, List.set_cons_zero, List.set_cons_succ]
            refine wpAnyH_take (i := 11) (v := ?_) rfl (by kernel_rfl) (by kernel_rfl) (by kernel_rfl) (fun _ _ _ h => h) (Or.inl ⟨by rfl, ?_⟩) hHeld ?_
            rotate_left
            · (intro w' hSw; (try dsimp only at hSw); obtain ⟨s1, s2, s3⟩ := hSw; go_simp; try (with_reducible rfl))
            change wpAnyH _ _ _ _ _ _ _ (Act.put _ (some 62) _) _
            simp only [Act.put, List.setIfInBounds_toArray, List.set_cons_zero, List.set_cons_succ]
            refine wpAnyH_take (i := 12) (v := ?_) rfl (by kernel_rfl) (by kernel_rfl) (by kernel_rfl) (fun _ _ _ h => h) (Or.inl ⟨by rfl, ?_⟩) hHeld ?_
            rotate_left
            · (intro w' hSw; (try dsimp only at hSw); obtain ⟨s1, s2, s3⟩ := hSw; go_simp; try (with_reducible rfl))
            change wpAnyH _ _ _ _ _ _ _ (Act.put _ (some 63) _) _
            simp only [Act.put, List.setIfInBounds_toArray, List.set_cons_zero, List.set_cons_succ]
            refine wpAnyH_take (i := 13) (v := ?_) rfl (by kernel_rfl) (by kernel_rfl) (by kernel_rfl) (fun _ _ _ h => h) (Or.inl ⟨by rfl, ?_⟩) hHeld ?_
            rotate_left
            · (intro w' hSw; (try dsimp only at hSw); obtain ⟨s1, s2, s3⟩ := hSw; go_simp; try (with_reducible rfl))
            change wpAnyH _ _ _ _ _ _ _ (Act.put _ (some 64) _) _
            simp only [Act.put, List.setIfInBounds_toArray, List.set_cons_zero, List.set_cons_succ]
            refine wpAnyH_take (i := 14) (v := ?_) rfl (by kernel_rfl) (by kernel_rfl) (by kernel_rfl) (fun _ _ _ h => h) (Or.inl ⟨by rfl, ?_⟩) hHeld ?_
            rotate_left
            · (intro w' hSw; (try dsimp only at hSw); obtain ⟨s1, s2, s3⟩ := hSw; go_simp; try (with_reducible rfl))
            change wpAnyH _ _ _ _ _ _ _ (Act.put _ (some 65) _) _
            simp only [Act.put, List.setIfInBounds_toArray, List.set_cons_zero, List.set_cons_succ]
            refine wpAnyH_ready (rs := [10]) (by kernel_rfl) (by simp) ?_
            refine AllReadyH.cons rfl (fun K hK => ?_) AllReadyH.nil
            go_simp
            refine (at_any g1 A1 c1 _ k p3 code3 _ HT3.out.rr).mono ?_
            rintro e w4 ⟨rfl, rfl⟩
            refine hK.out _ _ ⟨m1, m2, m3⟩ (fun hHeld => ?_)
            clear hK K
            refine wpAnyH_take (i := 15) (v := ?_) rfl (by kernel_rfl) (by kernel_rfl) (by kernel_rfl) (fun _ _ _ h => h) (Or.inl ⟨by rfl, ?_⟩) hHeld ?_
            rotate_left
            · (intro w' hSw; (try dsimp only at hSw); obtain ⟨s1, s2, s3⟩ := hSw; go_simp; try (with_reducible rfl))
            change wpAnyH _ _ _ _ _ _ _ (Act.put _ (some 66) _) _
            simp only [Act.put, List.setIfInBounds_toArray, List.set_cons_zero, List.set_cons_succ]
            refine wpAnyH_take (i := 16) (v := ?_) rfl (by kernel_rfl) (by kernel_rfl) (by kernel_rfl) (fun _ _ _ h => h) (Or.inl ⟨by rfl, ?_⟩) hHeld ?_
            rotate_left
            · (intro w' hSw; (try dsimp only at hSw); obtain ⟨s1, s2, s3⟩ := hSw; go_simp; try (with_reducible rfl))
            change wpAnyH _ _ _ _ _ _ _ (Act.put _ (some 67) _) _
            simp only [Act.put, List.setIfInBounds_toArray, List.set_cons_zero, List.set_cons_succ]
            refine wpAnyH_take (i := 17) (v := ?_) rfl (by kernel_rfl) (by kernel_rfl) (by kernel_rfl) (fun _ _ _ h => h) (Or.inl ⟨by rfl, ?_⟩) hHeld ?_
            rotate_left
            · (intro w' hSw; (try dsimp only at hSw); obtain ⟨s1, s2, s3⟩ := hSw; go_simp; try (with_reducible rfl))
            change wpAnyH _ _ _ _ _ _ _ (Act.put _ (some 68) _) _
            simp only [Act.put, List.setIfInBounds_toArray, List.set_cons_zero, List.set_cons_succ]
            refine wpAnyH_take (i := 18) (v := ?_) rfl (by kernel_rfl) (by kernel_rfl) (by kernel_rfl) (fun _ _ _ h => h) (Or.inl ⟨by rfl, ?_⟩) hHeld ?_
            rotate_left
            · (intro w' hSw; (try dsimp only at hSw); obtain ⟨s1, s2, s3⟩ := hSw; go_simp; try (with_reducible rfl))
            change wpAnyH _ _ _ _ _ _ _ (Act.put _ (some 69) _) _
            simp only [Act.put, List.setIfInBounds_toArray, List.set_cons_zero, List.set_cons_succ]
            refine wpAnyH_take (i := 20) (v := ?_) rfl (by kernel_rfl) (by kernel_rfl) (by kernel_rfl) (fun _ _ _ h => h) (Or.inl ⟨by rfl, ?_⟩) hHeld ?_
            rotate_left
            · (intro w' hSw; (try dsimp only at hSw); obtain ⟨s1, s2, s3⟩ := hSw; go_simp; try (with_reducible rfl))
            change wpAnyH _ _ _ _ _ _ _ (Act.put _ (some 71) _) _
            simp only [Act.put, List.setIfInBounds_toArray, List.set_cons_zero, List.set_cons_succ]
            refine wpAnyH_take (i := 21) (v := ?_) rfl (by kernel_rfl) (by kernel_rfl) (by kernel_rfl) (fun _ _ _ h => h) (Or.inl ⟨by rfl, ?_⟩) hHeld ?_
            rotate_left
            · (intro w' hSw; (try dsimp only at hSw); obtain ⟨s1, s2, s3⟩ := hSw; go_simp; try (with_reducible rfl))
            change wpAnyH _ _ _ _ _ _ _ (Act.put _ (some 72) _) _
            simp only [Act.put, List.setIfInBounds_toArray, List.set_cons_zero, List.set_cons_succ]
            refine wpAnyH_take (i := 22) (v := ?_) rfl (by kernel_rfl) (by kernel_rfl) (by kernel_rfl) (fun _ _ _ h => h) (Or.inl ⟨by rfl, ?_⟩) hHeld ?_
            rotate_left
            · (intro w' hSw; (try dsimp only at hSw); obtain ⟨s1, s2, s3⟩ := hSw; go_simp; try (with_reducible rfl))
            change wpAnyH _ _ _ _ _ _ _ (Act.put _ (some 73) _) _
            simp only [Act.put, List.setIfInBounds_toArray, List.set_cons_zero, List.set_cons_succ]
            refine wpAnyH_take (i := 23) (v := ?_) rfl (by kernel_rfl) (by kernel_rfl) (by kernel_rfl) (fun _ _ _ h => h) (Or.inl ⟨by rfl, ?_⟩) hHeld ?_
            rotate_left
            · (intro w' hSw; (try dsimp only at hSw); obtain ⟨s1, s2, s3⟩ := hSw; go_simp; try (with_reducible rfl))
            change wpAnyH _ _ _ _ _ _ _ (Act.put _ (some 74) _) _
            simp only [Act.put, List.setIfInBounds_toArray, List.set_cons_zero, List.set_cons_succ]
            refine wpAnyH_take (i := 24) (v := ?_) rfl (by kernel_rfl) (by kernel_rfl) (by kernel_rfl) (fun _ _ _ h => h) (Or.inl ⟨by rfl, ?_⟩) hHeld ?_
            rotate_left
            · (intro w' hSw; (try dsimp only at hSw); obtain ⟨s1, s2, s3⟩ := hSw; go_simp; try (with_reducible rfl))
            change wpAnyH _ _ _ _ _ _ _ (Act.put _ (some 75) _) _
            simp only [Act.put, List.setIfInBounds_toArray, List.set_cons_zero, List.set_cons_succ]
            refine wpAnyH_take (i := 25) (v := ?_) rfl (by kernel_rfl) (by kernel_rfl) (by kernel_rfl) (fun _ _ _ h => h) (Or.inl ⟨by rfl, ?_⟩) hHeld ?_
            rotate_left
            · (intro w' hSw; (try dsimp only at hSw); obtain ⟨s1, s2, s3⟩ := hSw; go_simp; try (with_reducible rfl))
            change wpAnyH _ _ _ _ _ _ _ (Act.put _ (some 76) _) _
            simp only [Act.put, List.setIfInBounds_toArray, List.set_cons_zero, List.set_cons_succ]
            refine wpAnyH_take (i := 26) (v := ?_) rfl (by kernel_rfl) (by kernel_rfl) (by kernel_rfl) (fun _ _ _ h => h) (Or.inl ⟨by rfl, ?_⟩) hHeld ?_
            rotate_left
            · (intro w' hSw; (try dsimp only at hSw); obtain ⟨s1, s2, s3⟩ := hSw; go_simp; try (with_reducible rfl))
            change wpAnyH _ _ _ _ _ _ _ (Act.put _ (some 77) _) _
            simp only [Act.put, List.setIfInBounds_toArray, List.set_cons_zero, List.set_cons_succ]
            refine wpAnyH_take (i := 27) (v := ?_) rfl (by kernel_rfl) (by kernel_rfl) (by kernel_rfl) (fun _ _ _ h => h) (Or.inl ⟨by rfl, ?_⟩) hHeld ?_
            rotate_left
            · (intro w' hSw; (try dsimp only at hSw); obtain ⟨s1, s2, s3⟩ := hSw; go_simp; try (with_reducible rfl))
            change wpAnyH _ _ _ _ _ _ _ (Act.put _ (some 78) _) _
            simp only [Act.put, List.setIfInBounds_toArray, List.set_cons_zero, List.set_cons_succ]
            refine wpAnyH_ready (rs := [19]) (by kernel_rfl) (by simp) ?_
            refine AllReadyH.cons rfl (fun K hK => ?_) AllReadyH.nil
            go_simp
            refine (uerr g1 A1 c1 _ k p3 code3 _ HT3.out.rr).mono ?_
            rintro e w5 ⟨v5, rfl, hev, hb5⟩
            have n1 := (hb5.cell (p := ⟨w1.heap.size, 1, none⟩) (lt_of_cell m1)).trans m1
            have n2 := (hb5.cell (p := ⟨w1.heap.size, 2, none⟩) (lt_of_cell m2)).trans m2
            have n3 := (hb5.cell (p := ⟨w1.heap.size, 3, none⟩) (lt_of_cell m3)).trans m3
            have HE5 := Lib.hid hev
            have HB5 := Lib.hid hb5
            clear hev hb5
            refine hK.out _ _ ⟨n1, n2, n3⟩ (fun hHeld => ?_)
            clear hK K
            refine wpAnyH_ready (rs := [28]) (by kernel_rfl) (by simp) ?_
            refine AllReadyH.cons rfl (fun K hK => ?_) AllReadyH.nil
            go_simp
            refine (utold v5 p3 code3 _ HE5.out (HG.out.below (HB3.out.trans (HB5.out.mono HB3.out.size)) HG.out.pos)).mono ?_
            rintro e w6 ⟨rfl, hb6⟩
            have o1 := (hb6.cell (p := ⟨w1.heap.size, 1, none⟩) (lt_of_cell n1)).trans n1
            have o2 := (hb6.cell (p := ⟨w1.heap.size, 2, none⟩) (lt_of_cell n2)).trans n2
            have o3 := (hb6.cell (p := ⟨w1.heap.size, 3, none⟩) (lt_of_cell n3)).trans n3
            have HB6 := Lib.hid hb6
            clear hb6
            refine hK.out _ _ ⟨o1, o2, o3⟩ (fun hHeld => ?_)
            clear hK K
            refine wpAnyH_take (i := 29) (v := ?_) rfl (by kernel_rfl) (by kernel_rfl) (by kernel_rfl) (fun _ _ _ h => h) (Or.inl ⟨by rfl, ?_⟩) hHeld ?_
            rotate_left
            · (intro w' hSw; (try dsimp only at hSw); obtain ⟨s1, s2, s3⟩ := hSw; go_simp; try (with_reducible rfl))
            change wpAnyH _ _ _ _ _ _ _ (Act.put _ (some 80) _) _
            simp only [Act.put, List.setIfInBounds_toArray, List.set_cons_zero, List.set_cons_succ]
            refine wpAnyH_take (i := 30) (v := ?_) rfl (by kernel_rfl) (by kernel_rfl) (by kernel_rfl) (fun _ _ _ h => h) (Or.inl ⟨by rfl, ?_⟩) hHeld ?_
            rotate_left
            · (intro w' hSw; (try dsimp only at hSw); obtain ⟨s1, s2, s3⟩ := hSw; go_simp; try (with_reducible rfl))
            change wpAnyH _ _ _ _ _ _ _ (Act.put _ (some 81) _) _
            simp only [Act.put, List.setIfInBounds_toArray, List.set_cons_zero, List.set_cons_succ]
            refine wpAnyH_done (by kernel_rfl) ?_ _
            clear hHeld
            go_wp2_with fail
            go_roundw
            case rel => exact ⟨j + 1, p3, code3, by omega, by go_num, (HT3.out.below HB5.out).below HB6.out, (HB3.out.trans (HB5.out.mono HB3.out.size)).trans (HB6.out.mono (HB3.out.trans (HB5.out.mono HB3.out.size)).size)⟩
            case measure => simp [intOf]; omega
      · have q6 : (f.kind == 6) = false := beq_eq_false_iff_ne.2 h6
        clear h6
        go_wp2_with fail
        refine wp_region_any (by kernel_rfl) ?_
        change wpAny _ _ _ _ _ _ _ (World.drew _)
        refine wpAny_take (i := 0) (v := ?_) rfl (by kernel_rfl) (by kernel_rfl) (by kernel_rfl) (fun _ _ _ h => h) (Or.inl ⟨by rfl, ?_⟩) ?_
        rotate_left
        · (intro w'; go_simp; try (with_reducible rfl))
        change wpAny _ _ _ _ _ _ (Act.put _ (some 51) _) _
        simp only [Act.put, List.setIfInBounds_toArray, List.set_cons_zero, List.set_cons_succ]
        refine wpAny_take (i := 1) (v := ?_) rfl (by kernel_rfl) (by kernel_rfl) (by kernel_rfl) (fun _ _ _ h => h) (Or.inl ⟨by rfl, ?_⟩) ?_
        rotate_left
        · (intro w'; go_simp; try (with_reducible rfl))
        change wpAny _ _ _ _ _ _ (Act.put _ (some 52) _) _
        simp only [Act.put, List.setIfInBounds_toArray, List.set_cons_zero, List.set_cons_succ]
        refine wpAny_take (i := 2) (v := ?_) rfl (by kernel_rfl) (by kernel_rfl) (by kernel_rfl) (fun _ _ _ h => h) (Or.inl ⟨by rfl, ?_⟩) ?_
        rotate_left
        · (intro w'; go_simp; try (with_reducible rfl))
        change wpAny _ _ _ _ _ _ (Act.put _ (some 53) _) _
        simp only [Act.put, List.setIfInBounds_toArray, List.set_cons_zero, List.set_cons_succ]
        refine wpAny_take (i := 3) (v := ?_) rfl (by kernel_rfl) (by kernel_rfl) (by kernel_rfl) (fun _ _ _ h => h) (Or.inl ⟨by rfl, ?_⟩) ?_
        rotate_left
        · (intro w'; go_simp; try (with_reducible rfl))
        change wpAny _ _ _ _ _ _ (Act.put _ (some 54) _) _
        simp only [Act.put, List.setIfInBounds_toArray, List.set_cons_zero, List.set_cons_succ]
        refine wpAny_take (i := 4) (v := ?_) rfl (by kernel_rfl) (by kernel_rfl) (by kernel_rfl) (fun _ _ _ h => h) (Or.inl ⟨by rfl, ?_⟩) ?_
        rotate_left
        · (intro w'; go_simp; try (with_reducible rfl))
        change wpAny _ _ _ _ _ _ (Act.put _ (some 55) _) _
        simp only [Act.put, List.setIfInBounds_toArray, List.set_cons_zero, List.set_cons_succ]
        refine wpAny_ready (rs := [5]) (by kernel_rfl) (by simp) ?_
        refine AllReady.cons rfl (fun K hK => ?_) AllReady.nil
        go_simp
        refine hK _ _ ?_
        clear hK K
        refine wpAny_ready (rs := [6]) (by kernel_rfl) (by simp) ?_
        refine AllReady.cons rfl (fun K hK => ?_) AllReady.nil
        go_simp
        refine (reads_any g1 w1.heap.size w.heap.size A1 b c1 cb k p code f A3 c3 _ (HT2.out.drewN 1) hm2).mono ?_
        rintro e w3 ⟨rfl, p3, code3, ht3, hb3⟩
        have m1 := ht3.mr.c1
        have m2 := ht3.mr.c2
        have m3 := ht3.mr.c3
        have qpp : (((p3 : Nat) : Int) != (p3 : Nat)) = false := by simp
        have HT3 := Lib.hid ht3
        have HB3 := Lib.hid ((below_dn HB2.out 1).trans hb3)
        clear ht3 hb3
        refine hK _ _ ?_
        clear hK K
        refine wpAny_of_held (S := (fun w' => w'.cell? ⟨w1.heap.size, 1, none⟩ = some (.int .i64 p3) ∧ w'.cell? ⟨w1.heap.size, 2, none⟩ = some (.int .i64 code3) ∧ w'.cell? ⟨w1.heap.size, 3, none⟩ = some (.int .i64 (fz code3 p3)))) _ _ _ _ ?_
        have hHeld : (fun w' => w'.cell? ⟨w1.heap.size, 1, none⟩ = some (.int .i64 p3) ∧ w'.cell? ⟨w1.heap.size, 2, none⟩ = some (.int .i64 code3) ∧ w'.cell? ⟨w1.heap.size, 3, none⟩ = some (.int .i64 (fz code3 p3))) w3 := ⟨m1, m2, m3⟩
        refine wpAnyH_take (i := 7) (v := ?_) rfl (by kernel_rfl) (by kernel_rfl) (by kernel_rfl) (fun _ _ _ h => h) (Or.inl ⟨by rfl, ?_⟩) hHeld ?_
        rotate_left
        · (intro w' hSw; (try dsimp only at hSw); obtain ⟨s1, s2, s3⟩ := hSw; go_simp; try (with_reducible rfl))
        change wpAnyH _ _ _ _ _ _ _ (Act.put _ (some 58) _) _
        simp only [Act.put, List.setIfInBounds_toArray, List.set_cons_zero, List.set_cons_succ]
        refine wpAnyH_take (i := 8) (v := ?_) rfl (by kernel_rfl) (by kernel_rfl) (by kernel_rfl) (fun _ _ _ h => h) (Or.inl ⟨by rfl, ?_⟩) hHeld ?_
        rotate_left
        · (intro w' hSw; (try dsimp only at hSw); obtain ⟨s1, s2, s3⟩ := hSw; go_simp; try (with_reducible rfl))
        change wpAnyH _ _ _ _ _ _ _ (Act.put _ (some 59) _) _
        simp only [Act.put, List.setIfInBounds_toArray, List.set_cons_zero, List.set_cons_succ]
        refine wpAnyH_take (i := 9) (v := ?_) rfl (by kernel_rfl) (by kernel_rfl) (by kernel_rfl) (fun _ _ _ h => h) (Or.inl ⟨by rfl, ?_⟩) hHeld ?_
        rotate_left
        · (intro w' hSw; (try dsimp only at hSw); obtain ⟨s1, s2, s3⟩ := hSw; go_simp; try (with_reducible rfl))
        change wpAnyH _ _ _ _ _ _ _ (Act.put _ (some 60) _) _
        simp only [Act.put, List.setIfInBounds_toArray, List.set_cons_zero, List.set_cons_succ]
        refine wpAnyH_take (i := 11) (v := ?_) rfl (by kernel_rfl) (by kernel_rfl) (by kernel_rfl) (fun _ _ _ h => h) (Or.inl ⟨by rfl, ?_⟩) hHeld ?_
        rotate_left
        · (intro w' hSw; (try dsimp only at hSw); obtain ⟨s1, s2, s3⟩ := hSw; go_simp; try (with_reducible rfl))
        change wpAnyH _ _ _ _ _ _ _ (Act.put _ (some 62) _) _
        simp only [Act.put, List.setIfInBounds_toArray, List.set_cons_zero, List.set_cons_succ]
        refine wpAnyH_take (i := 12) (v := ?_) rfl (by kernel_rfl) (by kernel_rfl) (by kernel_rfl) (fun _ _ _ h => h) (Or.inl ⟨by rfl, ?_⟩) hHeld ?_
        rotate_left
        · (intro w' hSw; (try dsimp only at hSw); obtain ⟨s1, s2, s3⟩ := hSw; go_simp; try (with_reducible rfl))
        change wpAnyH _ _ _ _ _ _ _ (Act.put _ (some 63) _) _
        simp only [Act.put, List.setIfInBounds_toArray, List.set_cons_zero, List.set_cons_succ]
        refine wpAnyH_take (i := 13) (v := ?_) rfl (by kernel_rfl) (by kernel_rfl) (by kernel_rfl) (fun _ _ _ h => h) (Or.inl ⟨by rfl, ?_⟩) hHeld ?_
        rotate_left
        · (intro w' hSw; (try dsimp only at hSw); obtain ⟨s1, s2, s3⟩ := hSw; go_simp; try (with_reducible rfl))
        change wpAnyH _ _ _ _ _ _ _ (Act.put _ (some 64) _) _
        simp only [Act.put, List.setIfInBounds_toArray, List.set_cons_zero, List.set_cons_succ]
        refine wpAnyH_take (i := 14) (v := ?_) rfl (by kernel_rfl) (by kernel_rfl) (by kernel_rfl) (fun _ _ _ h => h) (Or.inl ⟨by rfl, ?_⟩) hHeld ?_
        rotate_left
        · (intro w' hSw; (try dsimp only at hSw); obtain ⟨s1, s2, s3⟩ := hSw; go_simp; try (with_reducible rfl))
        change wpAnyH _ _ _ _ _ _ _ (Act.put _ (some 65) _) _
        simp only [Act.put, List.setIfInBounds_toArray, List.set_cons_zero, List.set_cons_succ]
        refine wpAnyH_ready (rs := [10]) (by kernel_rfl) (by simp) ?_
        refine AllReadyH.cons rfl (fun K hK => ?_) AllReadyH.nil
        go_simp
        refine (at_any g1 A1 c1 _ k p3 code3 _ HT3.out.rr).mono ?_
        rintro e w4 ⟨rfl, rfl⟩
        refine hK.out _ _ ⟨m1, m2, m3⟩ (fun hHeld => ?_)
        clear hK K
        refine wpAnyH_take (i := 15) (v := ?_) rfl (by kernel_rfl) (by kernel_rfl) (by kernel_rfl) (fun _ _ _ h => h) (Or.inl ⟨by rfl, ?_⟩) hHeld ?_
        rotate_left
        · (intro w' hSw; (try dsimp only at hSw); obtain ⟨s1, s2, s3⟩ := hSw; go_simp; try (with_reducible rfl))
        change wpAnyH _ _ _ _ _ _ _ (Act.put _ (some 66) _) _
        simp only [Act.put, List.setIfInBounds_toArray, List.set_cons_zero, List.set_cons_succ]
        refine wpAnyH_take (i := 16) (v := ?_) rfl (by kernel_rfl) (by kernel_rfl) (by kernel_rfl) (fun _ _ _ h => h) (Or.inl ⟨by rfl, ?_⟩) hHeld ?_
        rotate_left
        · (intro w' hSw; (try dsimp only at hSw); obtain ⟨s1, s2, s3⟩ := hSw; go_simp; try (with_reducible rfl))
        change wpAnyH _ _ _ _ _ _ _ (Act.put _ (some 67) _) _
        simp only [Act.put, List.setIfInBounds_toArray, List.set_cons_zero, List.set_cons_succ]
        refine wpAnyH_take (i := 17) (v := ?_) rfl (by kernel_rfl) (by kernel_rfl) (by kernel_rfl) (fun _ _ _ h => h) (Or.inl ⟨by rfl, ?_⟩) hHeld ?_
        rotate_left
        · (intro w' hSw; (try dsimp only at hSw); obtain ⟨s1, s2, s3⟩ := hSw; go_simp; try (with_reducible rfl))
        change wpAnyH _ _ _ _ _ _ _ (Act.put _ (some 68) _) _
        simp only [Act.put, List.setIfInBounds_toArray, List.set_cons_zero, List.set_cons_succ]
        refine wpAnyH_take (i := 18) (v := ?_) rfl (by kernel_rfl) (by kernel_rfl) (by kernel_rfl) (fun _ _ _ h => h) (Or.inl ⟨by rfl, ?_⟩) hHeld ?_
        rotate_left
        · (intro w' hSw; (try dsimp only at hSw); obtain ⟨s1, s2, s3⟩ := hSw; go_simp; try (with_reducible rfl))
        change wpAnyH _ _ _ _ _ _ _ (Act.put _ (some 69) _) _
        simp only [Act.put, List.setIfInBounds_toArray, List.set_cons_zero, List.set_cons_succ]
        refine wpAnyH_take (i := 20) (v := ?_) rfl (by kernel_rfl) (by kernel_rfl) (by kernel_rfl) (fun _ _ _ h => h) (Or.inl ⟨by rfl, ?_⟩) hHeld ?_
        rotate_left
        · (intro w' hSw; (try dsimp only at hSw); obtain ⟨s1, s2, s3⟩ := hSw; go_simp; try (with_reducible rfl))
        change wpAnyH _ _ _ _ _ _ _ (Act.put _ (some 71) _) _
        simp only [Act.put, List.setIfInBounds_toArray, List.set_cons_zero, List.set_cons_succ]
        refine wpAnyH_take (i := 21) (v := ?_) rfl (by kernel_rfl) (by kernel_rfl) (by kernel_rfl) (fun _ _ _ h => h) (Or.inl ⟨by rfl, ?_⟩) hHeld ?_
        rotate_left
        · (intro w' hSw; (try dsimp only at hSw); obtain ⟨s1, s2, s3⟩ := hSw; go_simp; try (with_reducible rfl))
        change wpAnyH _ _ _ _ _ _ _ (Act.put _ (some 72) _) _
        simp only [Act.put, List.setIfInBounds_toArray, List.set_cons_zero, List.set_cons_succ]
        refine wpAnyH_take (i := 22) (v := ?_) rfl (by kernel_rfl) (by kernel_rfl) (by kernel_rfl) (fun _ _ _ h => h) (Or.inl ⟨by rfl, ?_⟩) hHeld ?_
        rotate_left
        · (intro w' hSw; (try dsimp only at hSw); obtain ⟨s1, s2, s3⟩ := hSw; go_simp; try (with_reducible rfl))
        change wpAnyH _ _ _ _ _ _ _ (Act.put _ (some 73) _) _
        simp only [Act.put, List.setIfInBounds_toArray, List.set_cons_zero, List.set_cons_succ]
        refine wpAnyH_take (i := 23) (v := ?_) rfl (by kernel_rfl) (by kernel_rfl) (by kernel_rfl) (fun _ _ _ h => h) (Or.inl ⟨by rfl, ?_⟩) hHeld ?_
        rotate_left
        · (intro w' hSw; (try dsimp only at hSw); obtain ⟨s1, s2, s3⟩ := hSw; go_simp; try (with_reducible rfl))
        change wpAnyH _ _ _ _ _ _ _ (Act.put _ (some 74) _) _
        simp only [Act.put, List.setIfInBounds_toArray, List.set_cons_zero, List.set_cons_succ]
        refine wpAnyH_take (i := 24) (v := ?_) rfl (by kernel_rfl) (by kernel_rfl) (by kernel_rfl) (fun _ _ _ h => h) (Or.inl ⟨by rfl, ?_⟩) hHeld ?_
        rotate_left
        · (intro w' hSw; (try dsimp only at hSw); obtain ⟨s1, s2, s3⟩ := hSw; go_simp; try (with_reducible rfl))
        change wpAnyH _ _ _ _ _ _ _ (Act.put _ (some 75) _) _
        simp only [Act.put, List.setIfInBounds_toArray, List.set_cons_zero, List.set_cons_succ]
        refine wpAnyH_take (i := 25) (v := ?_) rfl (by kernel_rfl) (by kernel_rfl) (by kernel_rfl) (fun _ _ _ h => h) (Or.inl ⟨by rfl, ?_⟩) hHeld ?_
        rotate_left
        · (intro w' hSw; (try dsimp only at hSw); obtain ⟨s1, s2, s3⟩ := hSw; go_simp; try (with_reducible rfl))
        change wpAnyH _ _ _ _ _ _ _ (Act.put _ (some 76) _) _
        simp only [Act.put, List.setIfInBounds_toArray, List.set_cons_zero, List.set_cons_succ]
        refine wpAnyH_take (i := 26) (v := ?_) rfl (by kernel_rfl) (by kernel_rfl) (by kernel_rfl) (fun _ _ _ h => h) (Or.inl ⟨by rfl, ?_⟩) hHeld ?_
        rotate_left
        · (intro w' hSw; (try dsimp only at hSw); obtain ⟨s1, s2, s3⟩ := hSw; go_simp; try (with_reducible rfl))
        change wpAnyH _ _ _ _ _ _ _ (Act.put _ (some 77) _) _
        simp only [Act.put, List.setIfInBounds_toArray, List.set_cons_zero, List.set_cons_succ]
        refine wpAnyH_take (i := 27) (v := ?_) rfl (by kernel_rfl) (by kernel_rfl) (by kernel_rfl) (fun _ _ _ h => h) (Or.inl ⟨by rfl, ?_⟩) hHeld ?_
        rotate_left
        · (intro w' hSw; (try dsimp only at hSw); obtain ⟨s1, s2, s3⟩ := hSw; go_simp; try (with_reducible rfl))
        change wpAnyH _ _ _ _ _ _ _ (Act.put _ (some 78) _) _
        simp only [Act.put, List.setIfInBounds_toArray, List.set_cons_zero, List.set_cons_succ]
        refine wpAnyH_ready (rs := [19]) (by kernel_rfl) (by simp) ?_
        refine AllReadyH.cons rfl (fun K hK => ?_) AllReadyH.nil
        go_simp
        refine (uerr g1 A1 c1 _ k p3 code3 _ HT3.out.rr).mono ?_
        rintro e w5 ⟨v5, rfl, hev, hb5⟩
        have n1 := (hb5.cell (p := ⟨w1.heap.size, 1, none⟩) (lt_of_cell m1)).trans m1
        have n2 := (hb5.cell (p := ⟨w1.heap.size, 2, none⟩) (lt_of_cell m2)).trans m2
        have n3 := (hb5.cell (p := ⟨w1.heap.size, 3, none⟩) (lt_of_cell m3)).trans m3
        have HE5 := Lib.hid hev
        have HB5 := Lib.hid hb5
        clear hev hb5
        refine hK.out _ _ ⟨n1, n2, n3⟩ (fun hHeld => ?_)
        clear hK K
        refine wpAnyH_ready (rs := [28]) (by kernel_rfl) (by simp) ?_
        refine AllReadyH.cons rfl (fun K hK => ?_) AllReadyH.nil
        go_simp
        refine (utold v5 p3 code3 _ HE5.out (HG.out.below (HB3.out.trans (HB5.out.mono HB3.out.size)) HG.out.pos)).mono ?_
        rintro e w6 ⟨rfl, hb6⟩
        have o1 := (hb6.cell (p := ⟨w1.heap.size, 1, none⟩) (lt_of_cell n1)).trans n1
        have o2 := (hb6.cell (p := ⟨w1.heap.size, 2, none⟩) (lt_of_cell n2)).trans n2
        have o3 := (hb6.cell (p := ⟨w1.heap.size, 3, none⟩) (lt_of_cell n3)).trans n3
        have HB6 := Lib.hid hb6
        clear hb6
        refine hK.out _ _ ⟨o1, o2, o3⟩ (fun hHeld => ?_)
        clear hK K
        refine wpAnyH_take (i := 29) (v := ?_) rfl (by kernel_rfl) (by kernel_rfl) (by kernel_rfl) (fun _ _ _ h => h) (Or.inl ⟨by rfl, ?_⟩) hHeld ?_
        rotate_left
        · (intro w' hSw; (try dsimp only at hSw); obtain ⟨s1, s2, s3⟩ := hSw; go_simp; try (with_reducible rfl))
        change wpAnyH _ _ _ _ _ _ _ (Act.put _ (some 80) _) _
        simp only [Act.put, List.setIfInBounds_toArray, List.set_cons_zero, List.set_cons_succ]
        refine wpAnyH_take (i := 30) (v := ?_) rfl (by kernel_rfl) (by kernel_rfl) (by kernel_rfl) (fun _ _ _ h => h) (Or.inl ⟨by rfl, ?_⟩) hHeld ?_
        rotate_left
        · (intro w' hSw; (try dsimp only at hSw); obtain ⟨s1, s2, s3⟩ := hSw; go_simp; try (with_reducible rfl))
        change wpAnyH _ _ _ _ _ _ _ (Act.put _ (some 81) _) _
        simp only [Act.put, List.setIfInBounds_toArray, List.set_cons_zero, List.set_cons_succ]
        refine wpAnyH_done (by kernel_rfl) ?_ _
        clear hHeld
        go_wp2_with fail
        go_roundw
        case rel => exact ⟨j + 1, p3, code3, by omega, by go_num, (HT3.out.below HB5.out).below HB6.out, (HB3.out.trans (HB5.out.mono HB3.out.size)).trans (HB6.out.mono (HB3.out.trans (HB5.out.mono HB3.out.size)).size)⟩
        case measure => simp [intOf]; omega
    · have he : ¬ (j : Int) < n := by omega
      go_wp2_with fail
      refine (vend w1.heap.size b cb _ k p code _ HT2.out.mr).mono ?_
      rintro e w3 ⟨rfl, q, rfl⟩
      generalize hce : ce k p code = cc at *
      have HCE := Lib.hid hce
      clear hce
      go_wp2_with fail
      refine (uend g1 A1 c1 _ k p code _ (HT2.out.rr.drewN q)).mono ?_
      rw [HCE.out]
      rintro e w4 ⟨v4, rfl, hev, hb4⟩
      have HE4 := Lib.hid hev
      have HB4 := Lib.hid (below_dn (n := q) (Below.refl wr.heap.size wr) |>.trans hb4)
      clear hev hb4
      go_wp2_with fail
      refine (utold v4 p cc _ HE4.out (HG2.out.below HB4.out HG2.out.pos)).mono ?_
      rintro e w5 ⟨rfl, hb5⟩
      have HB5 := Lib.hid (HB4.out.trans (hb5.mono HB4.out.size))
      clear hb5
      go_wp2_with fail
      refine (awake_any _).mono ?_
      rintro e w6 ⟨rfl, hb6⟩
      have HB6 := Lib.hid (HB2.out.trans ((HB5.out.trans (hb6.mono HB5.out.size)).mono HB2.out.size))
      clear hb6
      go_wp2_with fail
      go_ret
      exact ⟨rfl, HB6.out⟩

set_option maxHeartbeats 400000 in
theorem packreads_long (b : Option Addr) (n cb : Nat) (v : Value) (w : World) (hn : 400 < n) :
    Calls Tryd.prog 7 #[.slice b n cb, v] w fun e w' => e = .returned (.bool true) ∧ Below w.heap.size w w' := by
  have h1 : (400 : Int) < n := by omega
  clear hn
  go_enter Tryd.func7, Tryd.ntmps7
  go_wp2_with fail
  refine (awake_any _).mono ?_
  rintro e w' ⟨rfl, hb⟩
  go_wp2_with fail
  go_ret
  exact ⟨rfl, hb⟩

set_option maxHeartbeats 400000 in
theorem packreads_great (b : Option Addr) (m cb : Nat) (a : Option Addr) (n c : Nat) (l : List Fd) (w : World) (hm : ¬ 400 < m) (h : Fds w (fun j => j < w.heap.size) a n l) (hn : n ≤ 140737488351232) (ht : 400 < tot l) :
    Calls Tryd.prog 7 #[.slice b m cb, .slice a n c] w fun e w' => e = .returned (.bool true) ∧ Below w.heap.size w w' := by
  have HD := Lib.hid (decide_eq_true ht)
  have H := Lib.hid h
  have h1 : ¬ (400 : Int) < m := by omega
  clear h ht hm
  go_enter Tryd.func7, Tryd.ntmps7
  go_wp2_with fail
  refine (great_any a n c l _ _ H.out hn).mono ?_
  rintro e w' ⟨rfl, rfl⟩
  rw [HD.out]
  go_wp2_with fail
  refine (awake_any _).mono ?_
  rintro e w' ⟨rfl, hb⟩
  go_wp2_with fail
  go_ret
  exact ⟨rfl, hb⟩

theorem packreads_law (b : Option Addr) (m cb : Nat) (k : List UInt8) (a : Option Addr) (n c : Nat) (l : List Fd) (w : World) (hb : Rd w (fun j => j < w.heap.size) b m (Bs k)) (hcb : m ≤ cb) (hct : cb ≤ maxLen)
    (h : Fds w (fun j => j < w.heap.size) a n l) (hn : n ≤ 140737488351232) (hg : ErrTy w) :
    Calls Tryd.prog 7 #[.slice b m cb, .slice a n c] w fun e w' => e = .returned (.bool true) ∧ Below w.heap.size w w' := by
  obtain rfl : m = k.length := hb.len.symm
  by_cases hk : 400 < k.length
  · exact packreads_long b _ cb _ w hk
  · by_cases ht : 400 < tot l
    · exact packreads_great b _ cb a n c l w hk h hn ht
    · exact packreads_small b cb k a n c l w hb (by omega) hcb hct h hn (by omega) hg

end Go.Proofs.YtaekepejeokciaaDoor
