/- An error of a number in some places, and the document's; for any number and any places. -/
import Derived.Test.YtaekepejeokciaaDoorMadeA
import Derived.StillTailTactics
namespace Go.Proofs.YtaekepejeokciaaDoor
set_option maxRecDepth 100000
open Go.RowKit

theorem results_tmp_cell_row {P : Program} {fn : Func} {p u : Tmp} {ty : TypeId} (h : fn.results = #[.tmp u, .cell p ty]) (tmps : Array Value) (w : World) (g : Nat) (t : TypeId) (cs : Array Value) (fr : Nat × Nat) (d : TypeDesc)
    (hp : tmps.getD p undef = .pointer (some ⟨g, 0, none⟩)) (hg : w.heap[g]? = some (.cells cs t fr))
    (hu : P.underlying ty = some d) (hd : (match d with | .struct _ | .array _ _ => true | _ => false) = true) (hi : (P.info? ty).map (·.size) = some cs.size) :
    (results fn tmps).run P w = .ok (.tuple #[tmps.getD u undef, .agg cs]) w := by
  have hp' : tmps[p]?.getD undef = .pointer (some ⟨g, 0, none⟩) := by simpa using hp
  simp [results, h, hp', asAddr, run_loadVar_row w g t ty cs fr d hg hu hd hi]

/-- Block b holds one of the document's errors. -/
def FB (w : World) (b : Nat) (n : Int) (v : Value) : Prop := w.heap[b]? = some (.cells #[.int .i64 n, v] 26 (0, 0))
section
variable {w w' : World} {b : Nat} {n : Int} {v : Value}
theorem FB.c0 (h : FB w b n v) : w.cell? ⟨b, 0, none⟩ = some (.int .i64 n) := by rw [cell_of_row w b 0 _ _ _ h]; rfl
theorem FB.c1 (h : FB w b n v) : w.cell? ⟨b, 1, none⟩ = some v := by rw [cell_of_row w b 1 _ _ _ h]; rfl
theorem FB.f (h : FB w b n v) (o : Nat) : w.frozen? ⟨b, o, none⟩ = false := frozen_of_row _ _ _ _ _ h
theorem FB.lt (h : FB w b n v) : b < w.heap.size := (Array.getElem?_eq_some_iff.1 h).1
theorem FB.below (h : FB w b n v) (hb : Below w.heap.size w w') : FB w' b n v := (hb.block b h.lt).trans h
theorem FB.set (h : FB w b n v) (n' : Int) (v' : Value) : FB ((w.setCell ⟨b, 0, none⟩ (.int .i64 n')).setCell ⟨b, 1, none⟩ v') b n' v' := set_two h
end

/-- The number in a byte. -/
theorem rem16 (c : Nat) : ((c : Int) % 16) = ((c % 16 : Nat) : Int) := by omega

set_option maxHeartbeats 1000000 in
theorem made_zero (code : Nat) (a : Option Addr) (len c : Nat) (zs : List Int) (F : Nat → Prop) (w : World) (hc : code < 256) (h16 : code % 16 = 0) (hr : Rd w F a len (Is zs)) (_hlen : len ≤ 9223372036854775807) :
    Calls Tryd.prog 9 #[.int .u8 code, .slice a len c] w fun e w' => e = .returned (.tuple #[.nilIface, .agg #[.int .i64 0, .slice none 0 0]]) ∧ Below w.heap.size w w' := by
  have h0 : ((code : Int) % 16) = 0 := by omega
  have HR := Lib.hid hr
  clear hr
  go_enter Tryd.func9, Tryd.ntmps9
  have hfb : FB ((w.alloc (.cells #[.int .i64 0, .slice none 0 0] 26)).alloc (.cells #[.int .i64 0, .slice none 0 0] 26)) (w.heap.size + 1) 0 (.slice none 0 0) := heap_alloc2_new _ _ _
  have hrb : FB ((w.alloc (.cells #[.int .i64 0, .slice none 0 0] 26)).alloc (.cells #[.int .i64 0, .slice none 0 0] 26)) w.heap.size 0 (.slice none 0 0) := (heap_alloc_old _ _ (by simp)).trans (heap_alloc_new _ _)
  have hbel : Below w.heap.size w ((w.alloc (.cells #[.int .i64 0, .slice none 0 0] 26)).alloc (.cells #[.int .i64 0, .slice none 0 0] 26)) := ((Below.refl _ _).alloc (Nat.le_refl _) _).alloc (by simp) _
  have HFB := Lib.hid hfb
  have HRB := Lib.hid hrb
  have HBEL := Lib.hid hbel
  clear hfb hrb hbel
  go_wp2_with fail
  rw [h0]
  clear h0 h16
  go_loopw [6, 9] (fun e i wr => ∃ k : Nat, i = .int .i64 k ∧ k ≤ len ∧ k ≤ 40 ∧ e = .nilIface ∧ FB wr (w.heap.size + 1) 0 (.slice none 0 0) ∧ FB wr w.heap.size 0 (.slice none 0 0) ∧ Below w.heap.size w wr) (fun _ i _ => 41 - (intOf i).toNat)
  case atStart => exact ⟨0, rfl, Nat.zero_le _, by omega, rfl, HFB.out, HRB.out, HBEL.out⟩
  case round =>
    obtain ⟨k, rfl, hkl, hk4, rfl, hfb, hrb, hbel⟩ := hrel
    have HBW := Lib.hid hbel
    have HF := Lib.hid hfb
    have HRE := Lib.hid hrb
    by_cases h40 : k < 40 ∧ k < len
    · obtain ⟨a0, x, rfl, hab, hx, hca⟩ := (HR.out.belowAll hbel).num h40.2
      have hck : (k : Int) < len := by omega
      have hc4 : (k : Int) < 40 := by omega
      have hk0 : (0 : Int) ≤ k := by omega
      have c0 := hfb.c0
      have c1 := hfb.c1
      have d0 := hfb.f 0
      have d1 := hfb.f 1
      clear hx hfb hrb hbel
      go_wp2_with fail
      refine (wrap_nil _ _).mono ?_
      rintro e w1 ⟨rfl, rfl⟩
      go_wp2_with fail
      go_still_tail 5, (by kernel_rfl)
      go_wp2_with fail
      refine (refwrap_zero _ _ _).mono ?_
      rintro e w2 ⟨rfl, hb2⟩
      have hf2 : FB w2 (w.heap.size + 1) 0 (.slice none 0 0) := (hb2.block _ HF.out.lt).trans HF.out
      have hr2 : FB w2 w.heap.size 0 (.slice none 0 0) := (hb2.block _ HRE.out.lt).trans HRE.out
      have c0 := hf2.c0
      have c1 := hf2.c1
      have d0 := hf2.f 0
      have d1 := hf2.f 1
      have HF2 := Lib.hid hf2
      have HR2 := Lib.hid hr2
      have HB2 := Lib.hid (HBW.out.trans (((Below.refl _ _).drew).trans (hb2.mono (by have := HBW.out.size; exact this))))
      clear hf2 hr2 hb2
      go_wp2_with fail
      go_roundw
      case rel =>
        refine ⟨k + 1, by go_num, by omega, by omega, by trivial, HF2.out.set _ _, ?_, (HB2.out.setCell (by simp) _).setCell (by simp) _⟩
        exact (heap_setCell_other _ ⟨w.heap.size + 1, 1, none⟩ _ _ (by simp)).trans ((heap_setCell_other _ ⟨w.heap.size + 1, 0, none⟩ _ _ (by simp)).trans HR2.out)
      case measure => simp [intOf]; omega
    · have c0 := hfb.c0
      have c1 := hfb.c1
      have r0 := hrb.c0
      have r1 := hrb.c1
      have d0 := hrb.f 0
      have d1 := hrb.f 1
      clear hfb hrb hbel
      by_cases hlk : k < len
      · have hck : (k : Int) < len := by omega
        have hc4 : ¬ (k : Int) < 40 := by omega
        go_wp2_with fail
        go_region
        all_goals go_wp2_with fail
        all_goals
          refine bodyPost_ret (results_tmp_cell_row (by rfl) _ _ w.heap.size _ #[.int .i64 0, .slice none 0 0] _ _ (by rfl) (by exact HRE.out.set 0 (.slice none 0 0)) Tryd.underlying26 rfl fault_size) rfl ?_
          exact ⟨rfl, ((HBW.out.setCell (by simp) _).setCell (by simp) _).drew⟩
      · have hck : ¬ (k : Int) < len := by omega
        go_wp2_with fail
        go_region
        all_goals go_wp2_with fail
        all_goals
          refine bodyPost_ret (results_tmp_cell_row (by rfl) _ _ w.heap.size _ #[.int .i64 0, .slice none 0 0] _ _ (by rfl) (by exact HRE.out.set 0 (.slice none 0 0)) Tryd.underlying26 rfl fault_size) rfl ?_
          exact ⟨rfl, ((HBW.out.setCell (by simp) _).setCell (by simp) _).drew⟩

theorem Ch.other {w w' : World} {b : Nat} (hb : ∀ cs fr, w.heap[b]? ≠ some (.cells cs 42 fr)) (hk : ∀ k, k ≠ b → w'.heap[k]? = w.heap[k]?) : ∀ {ps : List Int} {c : Int} {lim : Nat} {v : Value}, Ch w ps c lim v → Ch w' ps c lim v
  | [], _, _, _, h => h
  | p :: ps, c, lim, v, h => by
    obtain ⟨g, v', rfl, hl, hg, hr⟩ := h
    exact ⟨g, v', rfl, hl, (hk g (fun e => hb _ _ (by rw [← e]; exact hg))).trans hg, Ch.other hb hk hr⟩
theorem Ch.drew {w : World} {ps : List Int} {c : Int} {lim : Nat} {v : Value} (h : Ch w ps c lim v) : Ch w.drew ps c lim v := Ch.keep (w := w) (w' := w.drew) (fun _ _ => rfl) h
theorem FB.no {w : World} {b : Nat} {n : Int} {v : Value} (h : FB w b n v) : ∀ cs fr, w.heap[b]? ≠ some (.cells cs 42 fr) := by
  intro cs fr e
  have := h.symm.trans e
  injection this with this
  injection this with _ h2 _
  exact absurd h2 (by decide)
theorem Ch.set {w : World} {b : Nat} {n : Int} {v x y z : Value} {ps : List Int} {c : Int} {lim : Nat} (hf : FB w b n v) (h : Ch w ps c lim z) : Ch ((w.setCell ⟨b, 0, none⟩ x).setCell ⟨b, 1, none⟩ y) ps c lim z :=
  h.other hf.no fun _ hk => (heap_setCell_other _ _ _ _ hk).trans (heap_setCell_other _ _ _ _ hk)
theorem rev_take {zs : List Int} {k : Nat} {x : Int} (h : zs[k]? = some x) : (zs.take (k + 1)).reverse = x :: (zs.take k).reverse := by
  rw [List.take_add_one, h]; simp

set_option maxHeartbeats 1000000 in
theorem made_any (code : Nat) (n : Int) (a : Option Addr) (len c : Nat) (zs : List Int) (F : Nat → Prop) (w : World) (_hc : code < 256) (h16 : (code : Int) % 16 = n) (hn : 0 < n) (hr : Rd w F a len (Is zs)) (hlen : len ≤ 9223372036854775807) :
    Calls Tryd.prog 9 #[.int .u8 code, .slice a len c] w fun e w' => ∃ x v, e = .returned (.tuple #[x, .agg #[.int .i64 n, v]]) ∧ Ch w' (zs.take 40).reverse n w'.heap.size x ∧
      w'.ownsRow w.heap.size 3 1 v (zs.take 40).reverse.length (Is (zs.take 40).reverse) ∧ Below w.heap.size w w' := by
  have hn16 : n < 16 := by omega
  have HR := Lib.hid hr
  have hzl : zs.length = len := hr.leni
  clear hr
  go_enter Tryd.func9, Tryd.ntmps9
  have hfb : FB ((w.alloc (.cells #[.int .i64 0, .slice none 0 0] 26)).alloc (.cells #[.int .i64 n, .slice none 0 0] 26)) (w.heap.size + 1) n (.slice none 0 0) := heap_alloc2_new _ _ _
  have hrb : FB ((w.alloc (.cells #[.int .i64 0, .slice none 0 0] 26)).alloc (.cells #[.int .i64 n, .slice none 0 0] 26)) w.heap.size 0 (.slice none 0 0) := (heap_alloc_old _ _ (by simp)).trans (heap_alloc_new _ _)
  have hbel : Below w.heap.size w ((w.alloc (.cells #[.int .i64 0, .slice none 0 0] 26)).alloc (.cells #[.int .i64 n, .slice none 0 0] 26)) := ((Below.refl _ _).alloc (Nat.le_refl _) _).alloc (by simp) _
  have HFB := Lib.hid hfb
  have HRB := Lib.hid hrb
  have HBEL := Lib.hid hbel
  clear hfb hrb hbel
  go_wp2_with fail
  rw [h16]
  clear h16
  go_loopw [6, 9] (fun e i wr => ∃ (k : Nat) (v : Value), i = .int .i64 k ∧ k ≤ len ∧ k ≤ 40 ∧ Ch wr (zs.take k).reverse n wr.heap.size e ∧ FB wr (w.heap.size + 1) n v ∧ FB wr w.heap.size 0 (.slice none 0 0) ∧ wr.ownsRow (w.heap.size + 2) 3 1 v k (Is (zs.take k).reverse) ∧ Below w.heap.size w wr) (fun _ i _ => 41 - (intOf i).toNat)
  case atStart => exact ⟨0, _, rfl, Nat.zero_le _, by omega, rfl, HFB.out, HRB.out, World.ownsRow_nil _ _ _ _, HBEL.out⟩
  case round =>
    obtain ⟨k, v, rfl, hkl, hk4, hch, hfb, hrb, hown, hbel⟩ := hrel
    obtain ⟨T, x0, rfl⟩ := hch.iface
    obtain ⟨A1, c1', rfl⟩ := own_slice hown
    have HBW := Lib.hid hbel
    have HF := Lib.hid hfb
    have HRE := Lib.hid hrb
    have HCH := Lib.hid hch
    have HO := Lib.hid hown
    by_cases h40 : k < 40 ∧ k < len
    · obtain ⟨a0, x, rfl, hab, hx, hca⟩ := (HR.out.belowAll hbel).num h40.2
      have HX := Lib.hid (rev_take hx)
      have hck : (k : Int) < len := by omega
      have hc4 : (k : Int) < 40 := by omega
      have hk0 : (0 : Int) ≤ k := by omega
      clear hx hfb hrb hbel hch hown
      go_wp2_with fail
      refine (wrap_some T x0 x _).mono ?_
      rintro e w1 ⟨rfl, hw1⟩
      have hb1 : Below wr.heap.size wr w1 := by rw [hw1]; exact (Below.refl _ _).alloc (Nat.le_refl _) _
      have hch1 : Ch w1 (x :: (zs.take k).reverse) n (wr.heap.size + 1) (.iface 38 (.pointer (some ⟨wr.heap.size, 0, none⟩))) :=
        ⟨wr.heap.size, _, rfl, Nat.lt_succ_self _, by rw [hw1]; exact heap_alloc_new _ _, HCH.out.below hb1⟩
      have hs1 : w1.heap.size = wr.heap.size + 1 := by rw [hw1]; simp
      have hf1 : FB w1 (w.heap.size + 1) n (.slice A1 k c1') := HF.out.below hb1
      have hca1 := (hb1.cell (p := a0.add k) (by rw [add_block]; exact hab)).trans hca
      have c0 := hf1.c0
      have c1 := hf1.c1
      have HF1 := Lib.hid hf1
      have HC1 := Lib.hid hch1
      have HS1 := Lib.hid hs1
      have HB1 := Lib.hid hb1
      clear hw1 hca hf1 hch1 hs1 hb1
      go_wp2_with fail
      go_still_tail 5, (by kernel_rfl)
      go_wp2_with fail
      refine (refwrap_any n A1 k c1' (zs.take k).reverse _ x _ (by omega) (Rd.of_own (own_below HO.out HB1.out.drew)) (by omega)).mono ?_
      rintro e w2 ⟨v2, rfl, hown2, hb2⟩
      obtain ⟨A2, c2, rfl⟩ := own_slice hown2
      have hbb : Below w1.heap.size w1 w2 := ((Below.refl _ _).drew).trans hb2
      have hf2 : FB w2 (w.heap.size + 1) n (.slice A1 k c1') := HF1.out.below hbb
      have hr2 : FB w2 w.heap.size 0 (.slice none 0 0) := (HRE.out.below HB1.out).below hbb
      have hsw : w.heap.size + 2 ≤ w1.heap.size := by have := HF.out.lt; have := HB1.out.size; omega
      have hown3 : w2.ownsRow (w.heap.size + 2) 3 1 (.slice A2 (1 + k) c2) (1 + k) (Is (x :: (zs.take k).reverse)) := own_base hown2 (by exact hsw)
      have hne : (Value.slice A2 (1 + k) c2).ownBlock ≠ some (w.heap.size + 1) := fun e => by have := (hown3.lt _ e).1; omega
      have c0 := hf2.c0
      have c1 := hf2.c1
      have d0 := hf2.f 0
      have d1 := hf2.f 1
      have HF2 := Lib.hid hf2
      have HR2 := Lib.hid hr2
      have HO3 := Lib.hid (own_set (a := ⟨w.heap.size + 1, 1, none⟩) (u := .slice A2 (1 + k) c2) (own_set (a := ⟨w.heap.size + 1, 0, none⟩) (u := .int .i64 n) hown3 hne) hne)
      have HB2 := Lib.hid (HBW.out.trans ((HB1.out.trans (hbb.mono HB1.out.size)).mono HBW.out.size))
      have HC2 := Lib.hid ((HC1.out.below hbb).more (lim' := w2.heap.size) (by have := HS1.out; have := hbb.size; omega))
      clear hf2 hr2 hb2 hbb hown2 hown3 hne
      go_wp2_with fail
      go_roundw
      case rel =>
        refine ⟨k + 1, _, by go_num, by omega, by omega, ?_, HF2.out.set _ _, ?_, ?_, (HB2.out.setCell (by simp) _).setCell (by simp) _⟩
        · rw [HX.out]
          exact (HC2.out.set HF2.out).more (by simp)
        · exact (heap_setCell_other _ ⟨w.heap.size + 1, 1, none⟩ _ _ (by simp)).trans ((heap_setCell_other _ ⟨w.heap.size + 1, 0, none⟩ _ _ (by simp)).trans HR2.out)
        · rw [HX.out, Nat.add_comm k 1]
          exact HO3.out
      case measure => simp [intOf]; omega
    · have c0 := hfb.c0
      have c1 := hfb.c1
      have r0 := hrb.c0
      have r1 := hrb.c1
      have d0 := hrb.f 0
      have d1 := hrb.f 1
      have hps : zs.take 40 = zs.take k := by
        by_cases h : k = 40
        · rw [h]
        · rw [List.take_of_length_le (by omega), List.take_of_length_le (by omega)]
      have hkl2 : (zs.take k).reverse.length = k := by simp; omega
      have HPS := Lib.hid hps
      have HKL := Lib.hid hkl2
      have hne : (Value.slice A1 k c1').ownBlock ≠ some w.heap.size := fun e => by have := (hown.lt _ e).1; omega
      have HO3 := Lib.hid (own_set (a := ⟨w.heap.size, 1, none⟩) (u := .slice A1 k c1') (own_set (a := ⟨w.heap.size, 0, none⟩) (u := .int .i64 n) (own_base hown (b' := w.heap.size) (by omega)) hne) hne)
      clear hfb hrb hbel hown hch hne hps hkl2
      by_cases hlk : k < len
      · have hck : (k : Int) < len := by omega
        have hc4 : ¬ (k : Int) < 40 := by omega
        go_wp2_with fail
        go_region
        all_goals go_wp2_with fail
        all_goals
          refine bodyPost_ret (results_tmp_cell_row (by rfl) _ _ w.heap.size _ #[.int .i64 n, .slice A1 k c1'] _ _ (by rfl) (by exact HRE.out.set n (.slice A1 k c1')) Tryd.underlying26 rfl fault_size) rfl ?_
          refine ⟨_, _, rfl, ?_, ?_, ((HBW.out.setCell (by simp) _).setCell (by simp) _).drew⟩
          · rw [HPS.out]; 
            have hd := (HCH.out.set (x := .int .i64 n) (y := .slice A1 k c1') HRE.out).more (lim' := ((wr.setCell ⟨w.heap.size, 0, none⟩ (.int .i64 n)).setCell ⟨w.heap.size, 1, none⟩ (.slice A1 k c1')).heap.size) (Nat.le_of_eq (by simp))
            exact hd.drew
          · rw [HPS.out, HKL.out]; exact HO3.out
      · have hck : ¬ (k : Int) < len := by omega
        go_wp2_with fail
        go_region
        all_goals go_wp2_with fail
        all_goals
          refine bodyPost_ret (results_tmp_cell_row (by rfl) _ _ w.heap.size _ #[.int .i64 n, .slice A1 k c1'] _ _ (by rfl) (by exact HRE.out.set n (.slice A1 k c1')) Tryd.underlying26 rfl fault_size) rfl ?_
          refine ⟨_, _, rfl, ?_, ?_, ((HBW.out.setCell (by simp) _).setCell (by simp) _).drew⟩
          · rw [HPS.out]; 
            have hd := (HCH.out.set (x := .int .i64 n) (y := .slice A1 k c1') HRE.out).more (lim' := ((wr.setCell ⟨w.heap.size, 0, none⟩ (.int .i64 n)).setCell ⟨w.heap.size, 1, none⟩ (.slice A1 k c1')).heap.size) (Nat.le_of_eq (by simp))
            exact hd.drew
          · rw [HPS.out, HKL.out]; exact HO3.out

end Go.Proofs.YtaekepejeokciaaDoor
