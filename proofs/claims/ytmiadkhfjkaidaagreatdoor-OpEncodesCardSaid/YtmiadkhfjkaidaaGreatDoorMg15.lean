/- Whether a value fits a schema: the program. The document's depth of schemas; how much there is. Whether a value fits: the program's Fits. -/
import Derived.Test.YtmiadkhfjkaidaaGreatDoorMg14
namespace Go.Proofs.YtmiadkhfjkaidaaGreatDoor
section
set_option maxRecDepth 100000
set_option linter.unusedSimpArgs false
set_option linter.unusedVariables false
open Go.RowKit

theorem Gives.load_at {P : Program} {S : World → Prop} {o : Oper} {a : Act} (ty : TypeId) (x : Operand) (ho : o.op = .load ty x) (ad : Addr) (hx : a.eval x = .pointer (some ad)) (cs : List Value) (d : TypeDesc) (hS : ∀ w, S w → ∀ j v, cs[j]? = some v → w.cell? (ad.add j) = some v)
    (hu : P.underlying ty = some d) (hd : rowD d = true) (hi : (P.info? ty).map (·.size) = some cs.length) : Gives P S o (.agg cs.toArray) a :=
  Gives.load ty x ho (.pointer (some ad)) _ hx fun w hw => by
    simp only [Instr.loadAt, Instr.sureAddr, Sem.run_bind, Sem.run_pure, Result.andThen_ok, run_loadVar_at w ad ty cs d (hS w hw) hu hd hi]
theorem fs_2 (g : Nat) (w : World) : (Instr.fieldAt 48 (.pointer (some ⟨g, 0, none⟩)) 2).run Tryz.prog w = .ok (.pointer (some ⟨g, 2, none⟩)) w := by kernel_rfl
theorem ld_ss {a : Addr} {v : Value} {w : World} (h : w.cell? a = some v) : (Instr.loadAt 46 (.pointer (some a))).run Tryz.prog w = .ok v w := by
  go_simp
theorem un_not (b : Bool) (w : World) : (Op.unary .not (.bool b)).run Tryz.prog w = .ok (.bool (!b)) w := rfl
theorem VAt.one {w : World} {v : Vt} {cs : List Value} (h : VAt w v cs) : cs.toArray.all (·.oneCell') = true := by cases h; rw [List.all_toArray]; rfl
theorem Row.setRow {w : World} {g : Nat} {T : TypeId} {l : List Value} (h : Row w g T l) (m : List Value) : Row (w.setRow g m.toArray) g T m := setRow_heap w g _ _ _ _ h
theorem Row.setRowOther {w : World} {g k : Nat} {T : TypeId} {l : List Value} (h : Row w g T l) (hk : g ≠ k) (m : Array Value) : Row (w.setRow k m) g T l := (setRow_other w k g m hk).trans h
theorem Vt.sound_mk {k n : Int} {s : ByteArray} {names : List ByteArray} {ids : List Int} {len : Nat} {parts : Nat → Vt} (h : (Vt.mk k n s names ids len parts).sound = true) : headV k n s names ids len = true ∧ ∀ i, i < len → (parts i).sound = true := by
  rw [Vt.sound, Bool.and_eq_true, List.all_eq_true] at h
  exact ⟨h.1, fun i hi => h.2 i (List.mem_range.2 hi)⟩
theorem St.sound_mk {k : Int} {words : List ByteArray} {len : Nat} {parts : Nat → St} (h : (St.mk k words len parts).sound = true) : headS k words len = true ∧ ∀ i, i < len → (parts i).sound = true := by
  rw [St.sound, Bool.and_eq_true, List.all_eq_true] at h
  exact ⟨h.1, fun i hi => h.2 i (List.mem_range.2 hi)⟩
theorem headV_5 {n : Int} {s : ByteArray} {names : List ByteArray} {ids : List Int} {len : Nat} (h : headV 5 n s names ids len = true) : len = names.length := by
  unfold headV at h
  rw [if_neg (by decide), if_neg (by decide), if_neg (by decide), if_neg (by decide), if_pos rfl] at h
  simp only [Bool.and_eq_true, decide_eq_true_eq] at h
  exact h.1.2
theorem headS_5 {words : List ByteArray} {len : Nat} (h : headS 5 words len = true) : len = words.length := by
  unfold headS at h
  rw [if_neg (by decide), if_neg (by decide), if_pos rfl] at h
  simp only [Bool.and_eq_true, decide_eq_true_eq] at h
  exact h.1.2
theorem headS_6 {words : List ByteArray} {len : Nat} (h : headS 6 words len = true) : len = 1 := by
  unfold headS at h
  rw [if_neg (by decide), if_neg (by decide), if_neg (by decide), if_pos rfl] at h
  simp only [Bool.and_eq_true, decide_eq_true_eq] at h
  exact h.2
theorem eqL_len {l m : List ByteArray} (h : eqL l m = true) : l.length = m.length := by
  unfold eqL at h
  rw [Bool.and_eq_true, decide_eq_true_eq] at h
  exact h.1
def allN (f : Nat → Bool) (n : Nat) : Bool := (List.range n).all f
theorem allN_more (f : Nat → Bool) (n : Nat) : allN f (n + 1) = (allN f n && f n) := by
  unfold allN
  rw [List.range_succ, List.all_append]
  simp only [List.all_cons, List.all_nil, Bool.and_true]
theorem allN_no {f : Nat → Bool} {n k : Nat} (h : allN f n = false) (hm : n ≤ k) : allN f k = false := by
  unfold allN at *
  rw [← Bool.not_eq_true, List.all_eq_true] at *
  exact fun h' => h fun i hi => h' i (List.mem_range.2 (by have := List.mem_range.1 hi; omega))

set_option maxHeartbeats 800000 in
theorem if_fits (a : Option Addr) (n cap : Nat) (css : Nat → List Value) (q : Value) (p : Nat → Bool) (hn : n ≤ 9223372036854775807) (w : World) (h : Parts w 6 a n css)
    (hf : ∀ j, j < n → ∀ w', Below w.heap.size w w' → Calls Tryz.prog 106 #[.agg (css j).toArray, q] w' fun e w'' => e = .returned (.bool (p j)) ∧ Below w'.heap.size w' w'') :
    Calls Tryz.prog 148 #[.slice a n cap, .func (.func 106) #[] #[q]] w fun e w' => (∃ r, e = .returned (.int .i64 r) ∧ IsFirst p n r) ∧ Below w.heap.size w w' := by
  have H := Lib.hid h
  have HF := Lib.hid hf
  clear h hf
  go_enter Tryz.func148, Tryz.ntmps148
  go_wp2_with fail
  go_loopw [8] (fun i wr => ∃ j : Nat, j ≤ n ∧ i = .int .i64 (j : Int) ∧ (∀ i, i < j → p i = false) ∧ Below w.heap.size w wr) (fun i _ => n - (intOf i).toNat)
  case atStart => exact ⟨0, Nat.zero_le _, rfl, fun _ h => absurd h (Nat.not_lt_zero _), Below.refl _ _⟩
  case round =>
    obtain ⟨j, hjn, rfl, hall, hw⟩ := hrel
    have bj0 : (0 : Int) ≤ (j : Int) := by omega
    by_cases hj : j < n
    · have hji : (j : Int) < (n : Int) := by omega
      obtain ⟨ad, rfl, hlen, hcell⟩ := (H.out.below hw).at_ hj
      have HIX := Lib.hid (ix_v ad n cap j hj wr)
      have HC := Lib.hid hcell
      have HL := Lib.hid (v_len hlen)
      clear hlen hcell
      have HA := Lib.hid hall
      have HW := Lib.hid hw
      have hfj := HF.out j hj wr hw
      obtain ⟨b, hb⟩ : ∃ b, p j = b := ⟨_, rfl⟩
      rw [hb] at hfj
      have HFJ := Lib.hid hfj
      have HB := Lib.hid hb
      clear hall hw hfj hb
      cases b
      · skip
        go_wp2_with (first
        | (refine wpList_indexAt rfl 26 (.tmp 12) (.tmp 13) rfl _ _ _ rfl rfl HIX.out ?_)
        | (refine wpList_load_at rfl 28 (.tmp 14) rfl (ad.add (j * 6)) rfl (css j) _ HC.out Tryz.underlying28 rfl HL.out ?_))
        refine HFJ.out.mono ?_
        rintro e W1 ⟨rfl, hbl⟩
        have HBL := Lib.hid hbl
        clear hbl
        go_wp2_with fail
        go_roundw
        case rel =>
          refine ⟨j + 1, by omega, by go_num, fun i hi => ?_, HW.out.trans (HBL.out.mono HW.out.size)⟩
          by_cases hij : i = j
          · subst hij; exact HB.out
          · exact HA.out i (by omega)
        case measure => simp [intOf] <;> omega
      · skip
        go_wp2_with (first
        | (refine wpList_indexAt rfl 26 (.tmp 12) (.tmp 13) rfl _ _ _ rfl rfl HIX.out ?_)
        | (refine wpList_load_at rfl 28 (.tmp 14) rfl (ad.add (j * 6)) rfl (css j) _ HC.out Tryz.underlying28 rfl HL.out ?_))
        refine HFJ.out.mono ?_
        rintro e W1 ⟨rfl, hbl⟩
        have HBL := Lib.hid hbl
        clear hbl
        go_wp2_with fail
        go_ret
        exact ⟨⟨_, rfl, .inr ⟨j, hj, rfl, HB.out, HA.out⟩⟩, HW.out.trans (HBL.out.mono HW.out.size)⟩
    · obtain rfl : j = n := by omega
      have HA := Lib.hid hall
      have HW := Lib.hid hw
      clear hall hw
      go_wp2_with fail
      go_ret
      exact ⟨⟨_, rfl, .inl ⟨rfl, HA.out⟩⟩, HW.out⟩
theorem cf_fits (a : Option Addr) (n cap : Nat) (css : Nat → List Value) (q : Value) (p : Nat → Bool) (hn : n ≤ 9223372036854775807) (w : World) (h : Parts w 6 a n css)
    (hf : ∀ j, j < n → ∀ w', Below w.heap.size w w' → Calls Tryz.prog 106 #[.agg (css j).toArray, q] w' fun e w'' => e = .returned (.bool (p j)) ∧ Below w'.heap.size w' w'') :
    Calls Tryz.prog 105 #[.slice a n cap, .func (.func 106) #[] #[q]] w fun e w' => e = .returned (.bool ((List.range n).any p)) ∧ Below w.heap.size w w' := by
  have HI := Lib.hid (if_fits a n cap css q p hn w h hf)
  clear h hf
  go_enter Tryz.func105, Tryz.ntmps105
  go_wp2_with fail
  refine HI.out.mono ?_
  rintro e W1 ⟨⟨r, rfl, hr⟩, hb⟩
  have HR := Lib.hid hr.any
  have HB := Lib.hid hb
  clear hr hb
  go_wp2_with fail
  go_ret
  exact ⟨by rw [← HR.out]; rfl, HB.out⟩

/-- The function that is handed on: each part against the schema's one. -/
theorem fitsc_any (cs ds : List Value) (hcs : cs.length = 6) (hds : ds.length = 3) (g : Nat) (ad : Addr) (n cap : Nat) (hn : 0 < n) (b : Bool) (w : World) (hg : w.cell? ⟨g, 2, none⟩ = some (.slice (some ad) n cap))
    (hc : ∀ i u, ds[i]? = some u → w.cell? (ad.add i) = some u)
    (hrec : ∀ w1, Below w.heap.size w w1 → Calls Tryz.prog 72 #[.agg cs.toArray, .agg ds.toArray] w1 fun e w' => e = .returned (.bool b) ∧ Below w1.heap.size w1 w') :
    Calls Tryz.prog 106 #[.agg cs.toArray, .pointer (some ⟨g, 0, none⟩)] w fun e w' => e = .returned (.bool (!b)) ∧ Below w.heap.size w w' := by
  have hw := Below.alloc1 w (.cells cs.toArray 28)
  have hb0 := Row.new w cs 28
  have hg1 := (hw.cell (p := ⟨g, 2, none⟩) (lt_of_cell hg)).trans hg
  have hc1 : ∀ i u, ds[i]? = some u → (w.alloc (.cells cs.toArray 28)).cell? (ad.add i) = some u := fun i u hu => by
    have h1 := hc i u hu
    have h2 := lt_of_cell h1
    exact (hw.cell (p := ad.add i) h2).trans h1
  have hlt : ∀ i u, ds[i]? = some u → (ad.add i).block < (w.alloc (.cells cs.toArray 28)).heap.size := fun i u hu => lt_of_cell (hc1 i u hu)
  have hI := v_info hcs
  have hL := s_len hds
  go_enter Tryz.func106, Tryz.ntmps106
  go_wp2_with fail
  generalize w.alloc (.cells cs.toArray 28) = V at *
  refine wp_flat_none (aD := ?aDq) (S := fun w' => Below V.heap.size V w')
    (vs := [(0, .agg cs.toArray), (1, .pointer (some ⟨g, 2, none⟩)), (2, .slice (some ad) n cap), (3, .pointer (some (ad.add (0 * 3)))), (4, .agg ds.toArray), (5, .bool b), (6, .bool (!b)), (7, .bool (!b))]) (by kernel_rfl) ((Below.refl _ _).drew) (fun _ _ h k => S_trans h k) ?hDq ?hkq ?hq
  case hDq =>
    refine .step (some 4) rfl rfl (by kernel_rfl) (Gives.load_row 28 (.tmp 2) rfl w.heap.size rfl 28 _ (fun w' h => hb0.belowAll h) Tryz.underlying28 rfl hI) ?_
    simp only [Act.put, List.setIfInBounds_toArray, List.set_cons_zero, List.set_cons_succ]
    refine .step (some 5) rfl rfl (by kernel_rfl) (Gives.fieldAt 48 (.tmp 1) 2 rfl _ _ rfl (fun w' => fs_2 g w')) ?_
    simp only [Act.put, List.setIfInBounds_toArray, List.set_cons_zero, List.set_cons_succ]
    refine .step (some 6) rfl rfl (by kernel_rfl) (Gives.load 46 (.tmp 5) rfl _ _ rfl (fun w' h => ld_ss ((h.cell (p := ⟨g, 2, none⟩) (lt_of_cell hg1)).trans hg1))) ?_
    simp only [Act.put, List.setIfInBounds_toArray, List.set_cons_zero, List.set_cons_succ]
    refine .step (some 7) rfl rfl (by kernel_rfl) (Gives.indexAt 46 (.tmp 6) (.const (.int .i64 0)) rfl _ _ _ rfl rfl (fun w' => ix_s ad n cap 0 hn w')) ?_
    simp only [Act.put, List.setIfInBounds_toArray, List.set_cons_zero, List.set_cons_succ]
    refine .step (some 8) rfl rfl (by kernel_rfl) (Gives.load_at 48 (.tmp 7) rfl (ad.add (0 * 3)) rfl ds _ (fun w' h i u hu => by rw [Nat.zero_mul, show (ad.add 0).add i = ad.add i by rw [add_add, Nat.zero_add]]; exact (h.cell (p := ad.add i) (hlt i u hu)).trans (hc1 i u hu)) Tryz.underlying48 rfl hL) ?_
    simp only [Act.put, List.setIfInBounds_toArray, List.set_cons_zero, List.set_cons_succ]
    refine .step (some 9) rfl rfl (by kernel_rfl) (Gives.call (args := [.agg cs.toArray, .agg ds.toArray]) rfl Tryz.func72 (by kernel_rfl) (by kernel_rfl) rfl (fun w' h => hrec w' (hw.trans (h.mono hw.size)))) ?_
    simp only [Act.put, List.setIfInBounds_toArray, List.set_cons_zero, List.set_cons_succ]
    refine .step (some 10) rfl rfl (by kernel_rfl) (Gives.unop .not 4 (.tmp 9) rfl (.bool b) (.bool !b) rfl (fun w' => un_not b w')) ?_
    simp only [Act.put, List.setIfInBounds_toArray, List.set_cons_zero, List.set_cons_succ]
    refine .step (some 3) rfl rfl (by kernel_rfl) (Gives.assign (x := .tmp 10) rfl rfl) ?_
    simp only [Act.put, List.setIfInBounds_toArray, List.set_cons_zero, List.set_cons_succ]
    exact .nil
  case hkq => kernel_rfl
  case hq =>
  intro Wq hb
  replace hw := hw.trans (hb.mono hw.size)
  clear hb
  go_wp2_with fail
  go_ret
  exact ⟨rfl, hw⟩

set_option maxHeartbeats 3200000 in
theorem fits_any : ∀ (v : Vt) (sc : St) (cs ds : List Value) (w : World), VAt w v cs → SAt w sc ds → v.sound = true → sc.sound = true →
    Calls Tryz.prog 72 #[.agg cs.toArray, .agg ds.toArray] w fun e w' => e = .returned (.bool (fitsV v sc)) ∧ Below w.heap.size w w' := by
  intro v
  induction v with
  | nul => intro sc cs ds w h; cases h
  | mk k n s names ids len parts ih =>
    intro sc cs ds w h hs' hvs hss
    cases h with
    | mk css hk hn hs h1 h1c hsz h2 h2c hi h3 h3c hp =>
    rename_i a b c la ca lb cb cc
    cases hs' with
    | mk dss kk w1 w1c wsz w3 w3c wp =>
    rename_i k2 words len2 parts2 a2 c2 la2 ca2 cc2
    obtain ⟨hv1, hv2⟩ := Vt.sound_mk hvs
    obtain ⟨hs1, hs2⟩ := St.sound_mk hss
    have hfv : fitsV (.mk k n s names ids len parts) (.mk k2 words len2 parts2) = (decide (k = k2) && (if k = 4 then (List.range words.length).any fun i => eqS (nth words i) s
      else if k = 5 then eqL names words && (List.range len).all fun i => fitsV (parts i) (parts2 i)
      else if k = 6 then (List.range len).all fun i => fitsV (parts i) (parts2 0)
      else true)) := by rw [fitsV]
    generalize fitsV (.mk k n s names ids len parts) (.mk k2 words len2 parts2) = res at *
    have hlc : len ≤ 9223372036854775807 := by have := h3c.1; have := h3c.2; unfold maxLen at this; omega
    have hla : la2 ≤ 9223372036854775807 := by have := w1c.1; have := w1c.2; unfold maxLen at this; omega
    have hw := Below.alloc2 w (.cells [.int .i64 k, .int .i64 n, .string s, .slice a la ca, .slice b lb cb, .slice c len cc].toArray 28) (.cells [.int .i64 k2, .slice a2 la2 ca2, .slice c2 len2 cc2].toArray 48)
    have hb0 := (Row.new w [.int .i64 k, .int .i64 n, .string s, .slice a la ca, .slice b lb cb, .slice c len cc] 28).alloc (.cells [.int .i64 k2, .slice a2 la2 ca2, .slice c2 len2 cc2].toArray 48)
    have hb1 := Row.new1 w (.cells [.int .i64 k, .int .i64 n, .string s, .slice a la ca, .slice b lb cb, .slice c len cc].toArray 28) [.int .i64 k2, .slice a2 la2 ca2, .slice c2 len2 cc2] 48
    have H1 := Lib.hid h1
    have H3 := Lib.hid h3
    have HP := Lib.hid hp
    have IH := Lib.hid ih
    have HV2 := Lib.hid hv2
    have HS2 := Lib.hid hs2
    have HV1 := Lib.hid hv1
    have HS1 := Lib.hid hs1
    have HW := Lib.hid hw
    have HB0 := Lib.hid hb0
    have HB1 := Lib.hid hb1
    have W1 := Lib.hid w1
    have W3 := Lib.hid w3
    have WP := Lib.hid wp
    have HL1 := Lib.hid (Strs.len h1)
    have HL2 := Lib.hid (Strs.len w1)
    clear h1 h3 hp ih hv1 hv2 hs1 hs2 hw hb0 hb1 w1 w3 wp hvs hss hk hn hs h1c hsz h2 h2c hi kk w1c wsz h3c w3c
    by_cases hkk : k = k2
    · subst hkk
      rw [decide_eq_true rfl, Bool.true_and] at hfv
      have gkk : (k != k) = false := bne_self_eq_false k
      by_cases h4 : k = 4
      · subst h4
        rw [if_pos rfl, HL2.out] at hfv
        have HF := Lib.hid hfv
        have HC := Lib.hid (has_any a2 la2 ca2 words s hla _ (W1.out.belowAll HW.out))
        clear hfv
        go_enter Tryz.func72, Tryz.ntmps72
        go_wp2_with fail
        refine HC.out.mono ?_
        rintro e W4 ⟨rfl, hb⟩
        have HB := Lib.hid hb
        clear hb
        go_wp2_with fail
        go_ret
        exact ⟨by rw [HF.out]; rfl, HW.out.trans (HB.out.mono HW.out.size)⟩
      · rw [if_neg h4] at hfv
        by_cases h5 : k = 5
        · subst h5
          rw [if_pos rfl] at hfv
          have HC := Lib.hid (equal_any a a2 la ca la2 ca2 names words (by have := headV_5 HV1.out; have := HL1.out; omega) _ (H1.out.belowAll HW.out) (W1.out.belowAll HW.out))
          obtain ⟨be, hbe⟩ : ∃ b, eqL names words = b := ⟨_, rfl⟩
          rw [hbe] at hfv HC
          have HBE := Lib.hid hbe
          have HF := Lib.hid hfv
          clear hfv hbe
          cases be
          · go_enter Tryz.func72, Tryz.ntmps72
            go_wp2_with fail
            refine HC.out.mono ?_
            rintro e W4 ⟨rfl, hb⟩
            have HB := Lib.hid hb
            clear hb
            go_wp2_with fail
            go_ret
            exact ⟨by rw [HF.out]; rfl, HW.out.trans (HB.out.mono HW.out.size)⟩
          · have hll : len2 = len := by have := headV_5 HV1.out; have := headS_5 HS1.out; have := eqL_len HBE.out; omega
            subst hll
            have HF2 := Lib.hid (show res = allN (fun i => fitsV (parts i) (parts2 i)) len2 by rw [HF.out, Bool.true_and]; rfl)
            go_enter Tryz.func72, Tryz.ntmps72
            go_wp2_with fail
            refine HC.out.mono ?_
            rintro e W4 ⟨rfl, hb⟩
            have hw4 := HW.out.trans (hb.mono HW.out.size)
            have hb04 := HB0.out.belowAll hb
            have hb14 := HB1.out.belowAll hb
            have hc5 := hb04.cell (k := 5) (v := .slice c len2 cc) rfl
            have HB04 := Lib.hid hb04
            have HB14 := Lib.hid hb14
            have HW4 := Lib.hid hw4
            clear hb hb04 hb14 hw4
            go_wp2_with fail
            go_loopw [32] (fun i wr => ∃ j : Nat, j ≤ len2 ∧ i = .int .i64 (j : Int) ∧ allN (fun i => fitsV (parts i) (parts2 i)) j = true ∧ Row wr (w.heap.size + 1) 48 [.int .i64 5, .slice a2 la2 ca2, .slice c2 len2 cc2] ∧ Below w.heap.size w wr) (fun i _ => len2 - (intOf i).toNat)
            case atStart => exact ⟨0, Nat.zero_le _, rfl, rfl, HB14.out, HW4.out⟩
            case round =>
              obtain ⟨j, hjn, rfl, hall, hb1, hw⟩ := hrel
              have bj0 : (0 : Int) ≤ (j : Int) := by omega
              by_cases hj : j < len2
              · have hji : (j : Int) < (len2 : Int) := by omega
                have hvj := (HP.out j hj).later hw
                obtain ⟨ad, rfl, hlen, hcell⟩ := (H3.out.below hw).at_ hj
                obtain ⟨ae, rfl, hlen2, hcell2⟩ := (W3.out.below hw).at_ hj
                have hm := allN_more (fun i => fitsV (parts i) (parts2 i)) j
                rw [hall, Bool.true_and] at hm
                have HM := Lib.hid hm
                have HNO := Lib.hid (fun h => allN_no (f := fun i => fitsV (parts i) (parts2 i)) (n := j + 1) (k := len2) h (by omega))
                have HIX := Lib.hid (ix_v ad len2 cc j hj wr)
                have HCE := Lib.hid hcell
                have HL := Lib.hid (v_len hlen)
                have e6 : Row (wr.alloc (.cells #[.int .i64 0, .int .i64 0, .string ⟨#[]⟩, .slice none 0 0, .slice none 0 0, .slice none 0 0] 28)) wr.heap.size 28 [.int .i64 0, .int .i64 0, .string ⟨#[]⟩, .slice none 0 0, .slice none 0 0, .slice none 0 0] := Row.new wr _ _
                have h6 := e6.setRow (css j)
                have hz6 : ([.int .i64 0, .int .i64 0, .string ⟨#[]⟩, .slice none 0 0, .slice none 0 0, .slice none 0 0] : List Value).toArray.size = (css j).toArray.size := by rw [List.size_toArray, List.size_toArray, hlen]; rfl
                have hl1 := hb1.lt
                have hsz := hw.size
                have hb16 := (hb1.alloc (.cells #[.int .i64 0, .int .i64 0, .string ⟨#[]⟩, .slice none 0 0, .slice none 0 0, .slice none 0 0] 28)).setRowOther (k := wr.heap.size) (by omega) (css j).toArray
                have hw6 := below_setRow (g := wr.heap.size) ((Below.refl wr.heap.size wr).alloc (Nat.le_refl _) (.cells #[.int .i64 0, .int .i64 0, .string ⟨#[]⟩, .slice none 0 0, .slice none 0 0, .slice none 0 0] 28)) (Nat.le_refl _) (css j).toArray
                have E6 := Lib.hid e6
                have HZ6 := Lib.hid hz6
                have HON := Lib.hid hvj.one
                have HI := Lib.hid (v_info hlen)
                have HSL := Lib.hid (s_len hlen2)
                have HW0 := Lib.hid hw
                have hrec := fun wx hx => IH.out j (parts2 j) (css j) (dss j) wx (hvj.later hx) (((WP.out j hj).later hw).later hx) (HV2.out j hj) (HS2.out j hj)
                have hc2 := hb16.cell (k := 2) (v := .slice (some ae) len2 cc2) rfl
                have hce2 : ∀ i u, (dss j)[i]? = some u → ((wr.alloc (.cells #[.int .i64 0, .int .i64 0, .string ⟨#[]⟩, .slice none 0 0, .slice none 0 0, .slice none 0 0] 28)).setRow wr.heap.size (css j).toArray).cell? ((ae.add (j * 3)).add i) = some u := fun i u hu =>
                  (hw6.cell (p := (ae.add (j * 3)).add i) (lt_of_cell (hcell2 i u hu))).trans (hcell2 i u hu)
                have HREC := Lib.hid hrec
                have HC2 := Lib.hid hc2
                have HCE2 := Lib.hid hce2
                have HW6 := Lib.hid hw6
                have H6 := Lib.hid h6
                have HB16 := Lib.hid hb16
                clear hvj hlen hcell hlen2 hcell2 hm hall e6 h6 hz6 hl1 hsz hb16 hw6 hb1 hw hrec hc2 hce2
                go_wp2_with (first
                  | (refine wpList_indexAt rfl 26 (.tmp 30) (.tmp 32) rfl _ _ _ rfl rfl HIX.out ?_)
                  | (refine wpList_load_at rfl 28 (.tmp 35) rfl (ad.add (j * 6)) rfl (css j) _ HCE.out Tryz.underlying28 rfl HL.out ?_)
                  | (refine wpList_store_row rfl 28 (.tmp 6) (.tmp 36) rfl wr.heap.size _ rfl rfl 28 _ E6.out HI.out HZ6.out HON.out ?_))
                clear E6 HZ6 HON HIX HCE HL
                have hc2 := HC2.out
                generalize (wr.alloc (.cells #[.int .i64 0, .int .i64 0, .string ⟨#[]⟩, .slice none 0 0, .slice none 0 0, .slice none 0 0] 28)).setRow wr.heap.size (css j).toArray = V at *
                generalize hbj : fitsV (parts j) (parts2 j) = bj at *
                clear hbj
                refine wp_flat_none (aD := ?aDf) (S := fun w' => Below V.heap.size V w')
                  (vs := [(0, .agg (css j).toArray), (1, .pointer (some ⟨w.heap.size + 1, 2, none⟩)), (2, .slice (some ae) len2 cc2), (3, .int .i64 (j : Int)), (4, .pointer (some (ae.add (j * 3)))), (5, .agg (dss j).toArray), (6, .bool bj), (7, .bool (!bj))]) (by kernel_rfl) ((Below.refl _ _).drew) (fun _ _ h k => S_trans h k) ?hDf ?hkf ?hf
                case hDf =>
                  refine .step (some 37) rfl rfl (by kernel_rfl) (Gives.load_row 28 (.tmp 6) rfl wr.heap.size rfl 28 _ (fun w' h => H6.out.belowAll h) Tryz.underlying28 rfl HI.out) ?_
                  simp only [Act.put, List.setIfInBounds_toArray, List.set_cons_zero, List.set_cons_succ]
                  refine .step (some 38) rfl rfl (by kernel_rfl) (Gives.fieldAt 48 (.tmp 3) 2 rfl _ _ rfl (fun w' => fs_2 _ w')) ?_
                  simp only [Act.put, List.setIfInBounds_toArray, List.set_cons_zero, List.set_cons_succ]
                  refine .step (some 39) rfl rfl (by kernel_rfl) (Gives.load 46 (.tmp 38) rfl _ _ rfl (fun w' h => ld_ss ((h.cell (p := ⟨w.heap.size + 1, 2, none⟩) (lt_of_cell hc2)).trans hc2))) ?_
                  simp only [Act.put, List.setIfInBounds_toArray, List.set_cons_zero, List.set_cons_succ]
                  refine .step (some 40) rfl rfl (by kernel_rfl) (Gives.move (x := .tmp 5) rfl rfl) ?_
                  simp only [Act.put, List.setIfInBounds_toArray, List.set_cons_zero, List.set_cons_succ]
                  refine .step (some 41) rfl rfl (by kernel_rfl) (Gives.indexAt 46 (.tmp 39) (.tmp 40) rfl _ _ _ rfl rfl (fun w' => ix_s ae len2 cc2 j hj w')) ?_
                  simp only [Act.put, List.setIfInBounds_toArray, List.set_cons_zero, List.set_cons_succ]
                  refine .step (some 42) rfl rfl (by kernel_rfl) (Gives.load_at 48 (.tmp 41) rfl (ae.add (j * 3)) rfl (dss j) _ (fun w' h i u hu => (h.cell (p := (ae.add (j * 3)).add i) (lt_of_cell (HCE2.out i u hu))).trans (HCE2.out i u hu)) Tryz.underlying48 rfl HSL.out) ?_
                  simp only [Act.put, List.setIfInBounds_toArray, List.set_cons_zero, List.set_cons_succ]
                  refine .step (some 43) rfl rfl (by kernel_rfl) (Gives.call (args := [.agg (css j).toArray, .agg (dss j).toArray]) rfl Tryz.func72 (by kernel_rfl) (by kernel_rfl) rfl (fun w' h => HREC.out w' (HW6.out.trans (h.mono HW6.out.size)))) ?_
                  simp only [Act.put, List.setIfInBounds_toArray, List.set_cons_zero, List.set_cons_succ]
                  refine .step (some 44) rfl rfl (by kernel_rfl) (Gives.unop .not 4 (.tmp 43) rfl (.bool bj) (.bool !bj) rfl (fun w' => un_not bj w')) ?_
                  simp only [Act.put, List.setIfInBounds_toArray, List.set_cons_zero, List.set_cons_succ]
                  exact .nil
                case hkf => kernel_rfl
                case hf =>
                intro Wq hb
                have HWQ := Lib.hid (HW0.out.trans ((HW6.out.trans (hb.mono HW6.out.size)).mono HW0.out.size))
                have HBQ := Lib.hid (HB16.out.belowAll hb)
                clear hb hc2
                cases bj
                · go_wp2_with fail
                  go_ret
                  exact ⟨by rw [HF2.out, HNO.out HM.out]; rfl, HWQ.out⟩
                · go_wp2_with fail
                  go_roundw
                  case rel => exact ⟨j + 1, by omega, by go_num, HM.out, HBQ.out, HWQ.out⟩
                  case measure => simp [intOf] <;> omega
              · obtain rfl : j = len2 := by omega
                have HA := Lib.hid hall
                have HWE := Lib.hid hw
                clear hall hw
                go_wp2_with fail
                go_ret
                exact ⟨by rw [HF2.out, HA.out]; rfl, HWE.out⟩
        · rw [if_neg h5] at hfv
          by_cases h6 : k = 6
          · subst h6
            rw [if_pos rfl] at hfv
            obtain rfl := headS_6 HS1.out
            have hbb := HB1.out
            obtain ⟨ae, rfl, hlen2, hcell2⟩ := (W3.out.below HW.out).at_ (j := 0) (by decide)
            have hc2 := hbb.cell (k := 2) (v := .slice (some ae) 1 cc2) rfl
            have hcf := cf_fits c len cc css (.pointer (some ⟨w.heap.size + 1, 0, none⟩)) (fun j => !fitsV (parts j) (parts2 0)) hlc _ (H3.out.below HW.out) (fun j hj w' hbw =>
              fitsc_any (css j) (dss 0) (HP.out j hj).length hlen2 (w.heap.size + 1) ae 1 cc2 (by decide) _ w' ((hbw.cell (p := ⟨w.heap.size + 1, 2, none⟩) (lt_of_cell hc2)).trans hc2)
                (fun i u hu => by
                  have h1 := hcell2 i u hu
                  rw [Nat.zero_mul, show (ae.add 0).add i = ae.add i by rw [add_add, Nat.zero_add]] at h1
                  exact (hbw.cell (p := ae.add i) (lt_of_cell h1)).trans h1)
                (fun w1 hb1 => IH.out j (parts2 0) (css j) (dss 0) w1 ((HP.out j hj).later (HW.out.trans ((hbw.trans (hb1.mono hbw.size)).mono HW.out.size))) ((WP.out 0 (by decide)).later (HW.out.trans ((hbw.trans (hb1.mono hbw.size)).mono HW.out.size))) (HV2.out j hj) (HS2.out 0 (by decide))))
            rw [show (List.range len).any (fun j => !fitsV (parts j) (parts2 0)) = !(List.range len).all fun i => fitsV (parts i) (parts2 0) by rw [← not_any, Bool.not_not]] at hcf
            have HCF := Lib.hid hcf
            have HF := Lib.hid hfv
            clear hcf hfv hc2 hcell2 hbb
            generalize ((List.range len).all fun i => fitsV (parts i) (parts2 0)) = ba at *
            go_enter Tryz.func72, Tryz.ntmps72
            go_wp2_with fail
            refine HCF.out.mono ?_
            rintro e W4 ⟨rfl, hb⟩
            have HB := Lib.hid hb
            clear hb
            go_wp2_with fail
            go_ret
            exact ⟨by rw [HF.out]; cases ba <;> rfl, HW.out.trans (HB.out.mono HW.out.size)⟩
          · rw [if_neg h6] at hfv
            have HF := Lib.hid hfv
            have g4 : (k == 4) = false := beq_eq_false_iff_ne.2 h4
            have g5 : (k == 5) = false := beq_eq_false_iff_ne.2 h5
            have g6 : (k == 6) = false := beq_eq_false_iff_ne.2 h6
            clear hfv
            go_enter Tryz.func72, Tryz.ntmps72
            go_wp2_with fail
            go_ret
            exact ⟨by rw [HF.out]; rfl, HW.out⟩
    · have HF := Lib.hid (show res = false by rw [hfv, decide_eq_false hkk]; rfl)
      have gkk : (k != k2) = true := bne_iff_ne.2 hkk
      clear hfv
      go_enter Tryz.func72, Tryz.ntmps72
      go_wp2_with fail
      go_ret
      exact ⟨by rw [HF.out]; rfl, HW.out⟩
end

section
set_option maxRecDepth 100000
set_option linter.unusedSimpArgs false
set_option linter.unusedVariables false
open Go.RowKit

set_option maxHeartbeats 1600000 in
theorem room_ref : ∀ (v : Vt) (cs : List Value) (n0 : Int) (d : Nat) (w : World), VAt w v cs → d ≤ 12 →
    Calls Tryz.prog 30 #[.agg cs.toArray, .int .i64 n0, .int .i64 (d : Int)] w fun e w' => (∃ r : Int, e = .returned (.int .i64 r) ∧ (0 ≤ r → v.depth ≤ d)) ∧ Below w.heap.size w w' := by
  intro v
  induction v with
  | nul => intro cs n0 d w h; cases h
  | mk k n s names ids len parts ih =>
    intro cs n0 d w h hd
    cases h with
    | mk css hk hn hs h1 h1c hss h2 h2c hi h3 h3c hp =>
    rename_i a b c la ca lb cb cc
    have hdn : (Vt.mk k n s names ids len parts).depth = most (fun i => (parts i).depth) len + 1 := by rw [Vt.depth]
    have HDN := Lib.hid hdn
    have HP := Lib.hid hp
    have H3 := Lib.hid h3
    have IH := Lib.hid ih
    have hlc : len ≤ maxLen := Nat.le_trans h3c.1 h3c.2
    have hlb : (len : Int) ≤ 9223372036854775807 := by unfold maxLen at hlc; omega
    have HB0 := Lib.hid (Row.new w [.int .i64 k, .int .i64 n, .string s, .slice a la ca, .slice b lb cb, .slice c len cc] 28)
    have HW := Lib.hid (Below.alloc1 w (.cells #[.int .i64 k, .int .i64 n, .string s, .slice a la ca, .slice b lb cb, .slice c len cc] 28))
    clear hp h3 ih h1 h2 hdn hk hn hs h1c hss h2c hi h3c hlc
    cases d with
    | zero =>
      go_enter Tryz.func30, Tryz.ntmps30
      go_wp2_with fail
      go_ret
      exact ⟨⟨-1, rfl, fun h => absurd h (by decide)⟩, HW.out⟩
    | succ d =>
      have gd : (((d + 1 : Nat) : Int) == 0) = false := beq_eq_false_iff_ne.2 (by omega)
      have gd1 : ((d : Int) + 1 == 0) = false := beq_eq_false_iff_ne.2 (by omega)
      have gd2 : ¬ (d : Int) + 1 = 0 := by omega
      have gd3 : (0 : Int) ≤ (d : Int) := by omega
      have gd4 : (d : Int) ≤ 11 := by omega
      by_cases h4 : s.size > 400
      · have g4 : (s.size : Int) > 400 := by omega
        have g4b : (400 : Int) < (s.size : Int) := by omega
        have g4c : ¬ (s.size : Int) ≤ 400 := by omega
        go_enter Tryz.func30, Tryz.ntmps30
        go_wp2_with fail
        go_ret
        exact ⟨⟨-1, rfl, fun h => absurd h (by decide)⟩, HW.out⟩
      · have g4 : ¬ (s.size : Int) > 400 := by omega
        have g4b : ¬ (400 : Int) < (s.size : Int) := by omega
        have g4c : (s.size : Int) ≤ 400 := by omega
        go_enter Tryz.func30, Tryz.ntmps30
        go_wp2_with fail
        go_loopw [1, 7] (fun m i wr => ∃ (j : Nat) (x : Int), j ≤ len ∧ i = .int .i64 (j : Int) ∧ m = .int .i64 x ∧ (0 ≤ x → ∀ i, i < j → (parts i).depth ≤ d) ∧ Row wr w.heap.size 28 [.int .i64 k, .int .i64 n, .string s, .slice a la ca, .slice b lb cb, .slice c len cc] ∧ Below w.heap.size w wr) (fun _ i _ => len - (intOf i).toNat)
        case atStart => exact ⟨0, _, Nat.zero_le _, rfl, rfl, fun _ i hi => absurd hi (Nat.not_lt_zero i), HB0.out, HW.out⟩
        case round =>
          obtain ⟨j, x, hjn, rfl, rfl, hall, hb0, hw⟩ := hrel
          have bj0 : (0 : Int) ≤ (j : Int) := by omega
          have hc5 := hb0.cell (k := 5) (v := .slice c len cc) rfl
          by_cases hx : 0 ≤ x
          · by_cases hj : j < len
            · have hji : (j : Int) < (len : Int) := by omega
              have hvj := (HP.out j hj).later hw
              obtain ⟨ad, rfl, hlen, hcell⟩ := (H3.out.below hw).at_ hj
              have HIX := Lib.hid (ix_v ad len cc j hj wr)
              have HREC := Lib.hid (IH.out j (css j) x d wr hvj (by omega))
              have HC := Lib.hid hcell
              have HL := Lib.hid (v_len hlen)
              have HB1 := Lib.hid hb0
              have HW1 := Lib.hid hw
              have HA := Lib.hid (hall hx)
              clear hvj hlen hcell hw hb0 HB0 HW hall
              go_wp2_with (first
                | (refine wpList_indexAt rfl 26 (.tmp 38) (.tmp 39) rfl _ _ _ rfl rfl HIX.out ?_)
                | (refine wpList_load_at rfl 28 (.tmp 40) rfl (ad.add (j * 6)) rfl (css j) _ HC.out Tryz.underlying28 rfl HL.out ?_))
              refine HREC.out.mono ?_
              rintro e W1 ⟨⟨r, rfl, hr⟩, hb⟩
              have HR := Lib.hid hr
              have HW2 := Lib.hid (HW1.out.trans (hb.mono HW1.out.size))
              have HB2 := Lib.hid (HB1.out.belowAll hb)
              clear hr hb
              go_wp2_with fail
              go_roundw
              case rel =>
                refine ⟨j + 1, r, by omega, by go_num, rfl, fun hr0 i hi => ?_, HB2.out, HW2.out⟩
                by_cases hij : i = j
                · subst hij; exact HR.out hr0
                · exact HA.out i (by omega)
              case measure => simp [intOf] <;> omega
            · obtain rfl : j = len := by omega
              have HA := Lib.hid (hall hx)
              have HW1 := Lib.hid hw
              clear hall hw
              go_wp2_with fail
              go_ret
              exact ⟨⟨x, rfl, fun _ => by rw [HDN.out]; have := most_le.2 HA.out; omega⟩, HW1.out⟩
          · have hx2 : ¬ x ≥ 0 := hx
            have HW1 := Lib.hid hw
            clear hall hw
            by_cases hj : j < len
            · have hji : (j : Int) < (len : Int) := by omega
              go_wp2_with fail
              go_ret
              exact ⟨⟨x, rfl, fun h => absurd h (by omega)⟩, HW1.out⟩
            · have hji : ¬ (j : Int) < (len : Int) := by omega
              go_wp2_with fail
              go_ret
              exact ⟨⟨x, rfl, fun h => absurd h (by omega)⟩, HW1.out⟩

theorem great_ref (v : Vt) (cs : List Value) (w : World) (h : VAt w v cs) :
    Calls Tryz.prog 14 #[.agg cs.toArray] w fun e w' => (∃ b : Bool, e = .returned (.bool b) ∧ (b = false → v.depth ≤ 12)) ∧ Below w.heap.size w w' := by
  have hw := Below.alloc1 w (.cells cs.toArray 28)
  have HR := Lib.hid (room_ref v cs 300 12 _ (h.later hw) (by decide))
  have HW := Lib.hid hw
  have HB0 := Lib.hid (Row.new w cs 28)
  have HI := Lib.hid (v_info h.length)
  clear hw h
  go_enter Tryz.func14, Tryz.ntmps14
  go_wp2_with (refine wpList_load_row rfl 28 (.tmp 1) rfl w.heap.size rfl 28 _ (0, 0) _ HB0.out Tryz.underlying28 rfl HI.out ?_)
  refine HR.out.mono ?_
  rintro e W1 ⟨⟨r, rfl, hr⟩, hb⟩
  have HRR := Lib.hid hr
  have HB := Lib.hid hb
  clear hb hr
  go_wp2_with fail
  go_ret
  exact ⟨⟨_, rfl, fun hb => HRR.out (by simpa using hb)⟩, HW.out.trans (HB.out.mono HW.out.size)⟩

/-- The sum of the first ones. -/
def sumN (f : Nat → Nat) : Nat → Nat
  | 0 => 0
  | n + 1 => sumN f n + f n
theorem sumN_le {f : Nat → Nat} {i : Nat} : ∀ {n : Nat}, i < n → f i ≤ sumN f n
  | n + 1, h => by
    rw [sumN]
    by_cases hi : i = n
    · subst hi; omega
    · have := sumN_le (f := f) (n := n) (show i < n by omega)
      omega
/-- How much room a schema takes. -/
def St.wt : St → Nat
  | .nul => 0
  | .mk _ words len parts => 1 + words.length + sumN (fun i => (parts i).wt) len
theorem wrap64_of {x : Int} (h1 : -9223372036854775808 ≤ x) (h2 : x ≤ 9223372036854775807) : wrap64 x = x := by
  unfold wrap64
  omega
end

section
set_option maxRecDepth 100000
set_option linter.unusedSimpArgs false
set_option linter.unusedVariables false
open Go.RowKit

theorem Vt.sound_of {v : Vt} {d : Nat} (h : v.rightAt d = true) : v.sound = true := by unfold Vt.rightAt at h; rw [Bool.and_eq_true] at h; exact h.2
theorem St.sound_of {v : St} {d : Nat} (h : v.rightAt d = true) : v.sound = true := by unfold St.rightAt at h; rw [Bool.and_eq_true] at h; exact h.2

theorem fits_all (v : Vt) (s : St) (cs ds : List Value) (w : World) (h : VAt w v cs) (h' : SAt w s ds)  :
    Calls Tryz.prog 32 #[.agg cs.toArray, .agg ds.toArray] w fun e w' => e = .returned (.bool (v.rightAt 1 && s.rightAt 1 && fitsV v s)) ∧ Below w.heap.size w w' := by
  have hw := Below.alloc2 w (.cells cs.toArray 28) (.cells ds.toArray 48)
  have R1 := Lib.hid (fun wx (hx : Below w.heap.size w wx) => vright_any v cs wx (h.later hx))
  have R2 := Lib.hid (fun wx (hx : Below w.heap.size w wx) => sRight_any s ds wx (h'.later hx))
  have FF := Lib.hid (fun (h1 : v.rightAt 1 = true) (h2 : s.rightAt 1 = true) wx (hx : Below w.heap.size w wx) => fits_any v s cs ds wx (h.later hx) (h'.later hx) (Vt.sound_of h1) (St.sound_of h2))
  have HB0 := Lib.hid ((Row.new w cs 28).alloc (.cells ds.toArray 48))
  have HB1 := Lib.hid (Row.new1 w (.cells cs.toArray 28) ds 48)
  have HI := Lib.hid (v_info h.length)
  have HJ := Lib.hid (s_info h'.length)
  have HW := Lib.hid hw
  clear hw h h'
  generalize v.rightAt 1 = b1 at *
  generalize s.rightAt 1 = b2 at *
  cases b1
  · go_enter Tryz.func32, Tryz.ntmps32
    go_wp2_with (refine wpList_load_row rfl 28 (.tmp 2) rfl w.heap.size rfl 28 _ (0, 0) _ HB0.out Tryz.underlying28 rfl HI.out ?_)
    refine (R1.out _ HW.out).mono ?_
    rintro e W1 ⟨rfl, hb⟩
    have HB := Lib.hid hb
    clear hb
    go_wp2_with fail
    go_ret
    exact ⟨rfl, HW.out.trans (HB.out.mono HW.out.size)⟩
  · cases b2
    · go_enter Tryz.func32, Tryz.ntmps32
      go_wp2_with (refine wpList_load_row rfl 28 (.tmp 2) rfl w.heap.size rfl 28 _ (0, 0) _ HB0.out Tryz.underlying28 rfl HI.out ?_)
      refine (R1.out _ HW.out).mono ?_
      rintro e W1 ⟨rfl, hb⟩
      have HW1 := Lib.hid (HW.out.trans (hb.mono HW.out.size))
      have HB11 := Lib.hid (HB1.out.belowAll hb)
      clear hb
      go_wp2_with (refine wpList_load_guarded (by rfl) 48 (.tmp 3) rfl (w.heap.size + 1) rfl 48 _ HB11.out Tryz.underlying48 rfl HJ.out ?_)
      refine (R2.out _ HW1.out).mono ?_
      rintro e W2 ⟨rfl, hb⟩
      have HB := Lib.hid hb
      clear hb
      go_wp2_with fail
      go_ret
      exact ⟨rfl, HW1.out.trans (HB.out.mono HW1.out.size)⟩
    · have FF2 := Lib.hid (FF.out rfl rfl)
      clear FF
      generalize fitsV v s = b3 at *
      go_enter Tryz.func32, Tryz.ntmps32
      go_wp2_with (refine wpList_load_row rfl 28 (.tmp 2) rfl w.heap.size rfl 28 _ (0, 0) _ HB0.out Tryz.underlying28 rfl HI.out ?_)
      refine (R1.out _ HW.out).mono ?_
      rintro e W1 ⟨rfl, hb⟩
      have HW1 := Lib.hid (HW.out.trans (hb.mono HW.out.size))
      have HB11 := Lib.hid (HB1.out.belowAll hb)
      have HB01 := Lib.hid (HB0.out.belowAll hb)
      clear hb
      go_wp2_with (refine wpList_load_guarded (by rfl) 48 (.tmp 3) rfl (w.heap.size + 1) rfl 48 _ HB11.out Tryz.underlying48 rfl HJ.out ?_)
      refine (R2.out _ HW1.out).mono ?_
      rintro e W2 ⟨rfl, hb⟩
      have HW2 := Lib.hid (HW1.out.trans (hb.mono HW1.out.size))
      have HB12 := Lib.hid (HB11.out.belowAll hb)
      have HB02 := Lib.hid (HB01.out.belowAll hb)
      clear hb
      go_wp2_with (first
        | (refine wpList_load_guarded (by rfl) 28 (.tmp 2) rfl w.heap.size rfl 28 _ HB02.out Tryz.underlying28 rfl HI.out ?_)
        | (refine wpList_load_guarded (by rfl) 48 (.tmp 3) rfl (w.heap.size + 1) rfl 48 _ HB12.out Tryz.underlying48 rfl HJ.out ?_))
      refine (FF2.out _ HW2.out).mono ?_
      rintro e W3 ⟨rfl, hb⟩
      have HB := Lib.hid hb
      clear hb
      go_wp2_with fail
      go_ret
      exact ⟨rfl, HW2.out.trans (HB.out.mono HW2.out.size)⟩
end

end Go.Proofs.YtmiadkhfjkaidaaGreatDoor
