/- A schema's default, of a record: the program. -/
import Derived.Test.YteeabfckjjbmkaaFi
import Derived.Test.YteeabfckjjbmkaaGw
namespace Go.Proofs.Yteeabfckjjbmkaa
set_option maxRecDepth 100000
set_option linter.unusedSimpArgs false
set_option linter.unusedVariables false
open Go.RowKit

theorem vin_one {X : Nat → Prop} {w : World} {v : Vt} {cs : List Value} (h : VIn X w v cs) : ∀ u ∈ cs, u.oneCell' = true := by
  cases h
  intro u hu
  simp only [List.mem_cons, List.not_mem_nil, or_false] at hu
  rcases hu with rfl | rfl | rfl | rfl | rfl | rfl <;> rfl
/-- What the loop knows. -/
structure FI (w : World) (SR : List Value) (words : List ByteArray) (ps : Nat → Vt) (j : Nat) (vN vP : Value) (dss : Nat → List Value) (wr : World) : Prop where
  r0 : Row wr w.heap.size 41 SR
  r1 : Row wr (w.heap.size + 1) 26 [.int .i64 0, .int .i64 0, .string { data := #[] }, .slice none 0 0, .slice none 0 0, .slice none 0 0]
  r2 : Row wr (w.heap.size + 1 + 1) 26 [.int .i64 5, .int .i64 0, .string { data := #[] }, vN, .slice none 0 0, vP]
  oN : wr.ownsRow (w.heap.size + 3) 9 1 vN j ((words.take j).map Value.string)
  oP : wr.ownsRow (w.heap.size + 3) 26 6 vP j ((List.range j).flatMap dss)
  tr : ∀ i, i < j → VIn (fun g => w.heap.size + 3 ≤ g ∧ ¬ Own2 vN vP g) wr (ps i) (dss i)
  be : Below w.heap.size w wr
  sz : w.heap.size + 3 ≤ wr.heap.size
set_option maxHeartbeats 6400000 in
theorem first_5 (words : List ByteArray) (a c : Option Addr) (la ca len cc : Nat) (css : Nat → List Value) (ps : Nat → Vt) (h8 : la ≤ 8) (hll : len = la) (hss : ∀ x ∈ words, x.size ≤ maxLen) (w : World) (h1 : Strs w a la words) (h3 : Parts w 3 c len css)
    (ih : ∀ j, j < len → ∀ w', Below w.heap.size w w' → Calls Try.prog 88 #[.agg (css j).toArray] w' fun e w'' => (∃ ds : List Value, e = .returned (.agg ds.toArray) ∧ VIn (fun g => w'.heap.size ≤ g) w'' (ps j) ds) ∧ Below w'.heap.size w' w'') :
    Calls Try.prog 88 #[.agg #[.int .i64 5, .slice a la ca, .slice c len cc]] w fun e w' => (∃ ds : List Value, e = .returned (.agg ds.toArray) ∧ VIn (fun g => w.heap.size ≤ g) w' (.mk 5 0 ByteArray.empty words [] words.length ps) ds) ∧ Below w.heap.size w w' := by
  have hl := Strs.len h1
  subst hll
  obtain ⟨i0, hi, hz0, hz1, hz2⟩ := info3 str_info
  obtain ⟨j0, hj0, hy0, hy1, hy2⟩ := info3 val_info
  have HF := Lib.hid (show FI w [.int .i64 5, .slice a len ca, .slice c len cc] words ps 0 (.slice none 0 0) (.slice none 0 0) (fun _ => []) (((w.alloc (.cells #[.int .i64 5, .slice a len ca, .slice c len cc] 41)).alloc (.cells #[.int .i64 0, .int .i64 0, .string { data := #[] }, .slice none 0 0, .slice none 0 0, .slice none 0 0] 26)).alloc (.cells #[.int .i64 5, .int .i64 0, .string { data := #[] }, .slice none 0 0, .slice none 0 0, .slice none 0 0] 26)) from
    ⟨((Row.new w _ _).alloc _).alloc _, (Row.new1 w _ _ _).alloc _, Row.new2 w _ _ _ _, World.ownsRow_nil _ _ _ _, World.ownsRow_nil _ _ _ _, fun i h => absurd h (Nat.not_lt_zero i), Below.alloc3 w _ _ _, by simp⟩)
  have H1 := Lib.hid h1
  have H3 := Lib.hid h3
  have IH := Lib.hid ih
  have HSS := Lib.hid hss
  have HL := Lib.hid hl
  have HI := Lib.hid hi
  have HJ := Lib.hid hj0
  clear h1 h3 ih hss hl hi hj0
  go_enter Try.func88, Try.ntmps88
  go_wp2_with fail
  go_loopw [4, 5, 23] (fun _ _ i wr => ∃ (j : Nat) (vN vP : Value) (dss : Nat → List Value), j ≤ len ∧ i = .int .i64 (j : Int) ∧ FI w [.int .i64 5, .slice a len ca, .slice c len cc] words ps j vN vP dss wr) (fun _ _ i _ => len - (intOf i).toNat)
  case atStart => exact ⟨0, _, _, _, Nat.zero_le _, rfl, HF.out⟩
  case round =>
    obtain ⟨j, vN, vP, dss, hjn, rfl, hf⟩ := hrel
    have bj0 : (0 : Int) ≤ (j : Int) := by omega
    by_cases hj : j < len
    · have hji : (j : Int) < (len : Int) := by omega
      obtain ⟨ad, hade, hcx⟩ := Strs.at_ (H1.out.belowAll hf.be) hj
      subst hade
      obtain ⟨af, hafe, hlen, hcell⟩ := (H3.out.below hf.be).at_ hj
      subst hafe
      have hlN := hf.oN.lt
      have hlP := hf.oP.lt
      have hnot : ∀ g, g < w.heap.size + 3 → ¬ Own2 vN vP g := fun g hg h => by rcases h with h | h; (have := (hlN g h).1; omega); (have := (hlP g h).1; omega)
      have hlt : ∀ g, Own2 vN vP g → g < wr.heap.size := fun g h => by rcases h with h | h; exact (hlN g h).2; exact (hlP g h).2
      have hc0 : wr.cell? ⟨w.heap.size, 2, none⟩ = some (.slice (some af) len cc) := hf.r0.cell (k := 2) rfl
      have hcN : wr.cell? ⟨w.heap.size + 1 + 1, 3, none⟩ = some vN := hf.r2.cell (k := 3) rfl
      have hcP : wr.cell? ⟨w.heap.size + 1 + 1, 5, none⟩ = some vP := hf.r2.cell (k := 5) rfl
      obtain ⟨x, hx⟩ : ∃ x, nth words j = x := ⟨_, rfl⟩
      rw [hx] at hcx
      have HX := Lib.hid hx
      clear hx
      have KEEP := Lib.hid (fun (w' : World) (h : Only (Own2 vN vP) wr w') (p : Addr) (v : Value) (hp : p.block < w.heap.size + 3) (hc : wr.cell? p = some v) => (h.cell (a := p) (hnot _ hp) (lt_of_cell hc)).trans hc)
      have hafb : af.block < w.heap.size := by obtain ⟨af2, e, hb, _⟩ := H3.out (by omega); cases e; exact hb
      have HF1 := Lib.hid hf
      have HNOT := Lib.hid hnot
      have HLT := Lib.hid hlt
      have HAF := Lib.hid hafb
      have HCE := Lib.hid hcell
      have HLN := Lib.hid (s_len hlen)
      have HC0 := Lib.hid hc0
      have HCN := Lib.hid hcN
      have HCP := Lib.hid hcP
      have HLO := Lib.hid hlN
      have HLP := Lib.hid hlP
      clear hf hnot hlt hafb hcell hlen hc0 hcN hcP HF hlN hlP
      go_wp2_with fail
      clear hcx
      refine startT (Only (Own2 vN vP) wr) [16, 18] (by kernel_rfl) ?_
      have hS0 : Only (Own2 vN vP) wr wr.drew := (Only.refl _ _).drew
      refine takeT 0 (some 28) rfl rfl (by kernel_rfl) (by kernel_rfl) (fun _ _ _ h => h) (Reads.fieldAt 26 (.tmp 3) 3 rfl _ _ rfl (fun w' => fv_3 _ w')) hS0 ?_
      simp only [Act.put, List.setIfInBounds_toArray, List.set_cons_zero, List.set_cons_succ]
      refine takeT 1 (some 29) rfl rfl (by kernel_rfl) (by kernel_rfl) (fun _ _ _ h => h) (Reads.load 22 (.tmp 28) rfl _ _ rfl (fun w' h => ld_strs (KEEP.out w' h ⟨w.heap.size + 1 + 1, 3, none⟩ _ (by show w.heap.size + 1 + 1 < _; omega) HCN.out))) hS0 ?_
      simp only [Act.put, List.setIfInBounds_toArray, List.set_cons_zero, List.set_cons_succ]
      refine takeT 2 (some 30) rfl rfl (by kernel_rfl) (by kernel_rfl) (fun _ _ _ h => h) (Reads.move (x := .tmp 5) rfl rfl) hS0 ?_
      simp only [Act.put, List.setIfInBounds_toArray, List.set_cons_zero, List.set_cons_succ]
      refine takeT 5 (some 33) rfl rfl (by kernel_rfl) (by kernel_rfl) (fun _ _ _ h => h) (Reads.fieldAt 26 (.tmp 3) 5 rfl _ _ rfl (fun w' => fv_5 _ w')) hS0 ?_
      simp only [Act.put, List.setIfInBounds_toArray, List.set_cons_zero, List.set_cons_succ]
      refine takeT 6 (some 34) rfl rfl (by kernel_rfl) (by kernel_rfl) (fun _ _ _ h => h) (Reads.load 24 (.tmp 33) rfl _ _ rfl (fun w' h => ld_vals (KEEP.out w' h ⟨w.heap.size + 1 + 1, 5, none⟩ _ (by show w.heap.size + 1 + 1 < _; omega) HCP.out))) hS0 ?_
      simp only [Act.put, List.setIfInBounds_toArray, List.set_cons_zero, List.set_cons_succ]
      refine takeT 7 (some 35) rfl rfl (by kernel_rfl) (by kernel_rfl) (fun _ _ _ h => h) (Reads.fieldAt 41 (.tmp 1) 2 rfl _ _ rfl (fun w' => fs_2 _ w')) hS0 ?_
      simp only [Act.put, List.setIfInBounds_toArray, List.set_cons_zero, List.set_cons_succ]
      refine takeT 8 (some 36) rfl rfl (by kernel_rfl) (by kernel_rfl) (fun _ _ _ h => h) (Reads.load 39 (.tmp 35) rfl _ _ rfl (fun w' h => ld_schs (KEEP.out w' h ⟨w.heap.size, 2, none⟩ _ (by show w.heap.size < _; omega) HC0.out))) hS0 ?_
      simp only [Act.put, List.setIfInBounds_toArray, List.set_cons_zero, List.set_cons_succ]
      refine takeT 9 (some 37) rfl rfl (by kernel_rfl) (by kernel_rfl) (fun _ _ _ h => h) (Reads.move (x := .tmp 4) rfl rfl) hS0 ?_
      simp only [Act.put, List.setIfInBounds_toArray, List.set_cons_zero, List.set_cons_succ]
      refine takeT 10 (some 38) rfl rfl (by kernel_rfl) (by kernel_rfl) (fun _ _ _ h => h) (Reads.indexAt 39 (.tmp 36) (.tmp 37) rfl _ _ _ rfl rfl (fun w' => ix_s af len cc j hj w')) hS0 ?_
      simp only [Act.put, List.setIfInBounds_toArray, List.set_cons_zero, List.set_cons_succ]
      refine takeT 11 (some 39) rfl rfl (by kernel_rfl) (by kernel_rfl) (fun _ _ _ h => h) (Reads.load_at 41 (.tmp 38) rfl (af.add (j * 3)) rfl (css j) _ (fun w' h i u hu => KEEP.out w' h _ _ (by have := HAF.out; rw [add_block, add_block]; omega) (HCE.out i u hu)) Try.underlying41 rfl HLN.out) hS0 ?_
      simp only [Act.put, List.setIfInBounds_toArray, List.set_cons_zero, List.set_cons_succ]
      have hS1 := hS0.alloc (.cells #[.string x] 9)
      refine oneT 3 (by kernel_rfl) rfl (by kernel_rfl) (fun K hK => ?_)
      refine wp_slice1 22 9 (.tmp 30) rfl (.string x) rfl #[.string x] (fun w' => mk_str x w') ?_
      refine hK.out _ _ (fun _ => hS1) ?_
      clear hK K
      change wpAnyT _ _ _ _ _ _ _ _ (Act.put _ (some 31) _) _
      simp only [Act.put, List.setIfInBounds_toArray, List.set_cons_zero, List.set_cons_succ]
      have hoN1 : (wr.drew.alloc (.cells #[.string x] 9)).ownsRow (w.heap.size + 3) 9 1 vN j ((words.take j).map Value.string) := World.ownsRow.alloc (w := wr.drew) HF1.out.oN _
      have hoP1 : (wr.drew.alloc (.cells #[.string x] 9)).ownsRow (w.heap.size + 3) 26 6 vP j ((List.range j).flatMap dss) := World.ownsRow.alloc (w := wr.drew) HF1.out.oP _
      refine oneT 4 (by kernel_rfl) rfl (by kernel_rfl) (fun K hK => ?_)
      refine wp_append_at (.tmp 29) (.tmp 31) 22 rfl (w.heap.size + 3) 9 i0 (.string ByteArray.empty) 1 16 Try.underlying22 HI.out hz0 hz1 hz2 rfl (by decide) vN j _ rfl hoN1 ⟨wr.heap.size, 0, none⟩ 1 1 [.string x] rfl rfl (Go.cell_one_new wr.drew (.string x) _) (by intro u hu; simp at hu; subst hu; rfl) (by unfold maxLen; omega) (by omega) (by have := HF1.out.sz; simp; omega) (fun vN2 W2 hoN2 hgr2 hat2 => ?_)
      have hS2 : Only (Own2 vN vP) wr W2 := hS1.grown hgr2 (fun k hk => .inl (.inl hk))
      refine hK.out _ _ (fun _ => hS2) ?_
      clear hK K
      change wpAnyT _ _ _ _ _ _ _ _ (Act.put _ (some 32) _) _
      simp only [Act.put, List.setIfInBounds_toArray, List.set_cons_zero, List.set_cons_succ]
      refine takeT 15 (some 43) rfl rfl (by kernel_rfl) (by kernel_rfl) (fun _ _ _ h => h) (Reads.fieldAt 26 (.tmp 3) 3 rfl _ _ rfl (fun w' => fv_3 _ w')) hS2 ?_
      simp only [Act.put, List.setIfInBounds_toArray, List.set_cons_zero, List.set_cons_succ]
      have hb2 : Below w.heap.size w W2 := HF1.out.be.trans (hS2.below HF1.out.be.size (fun k hk => by rcases hk with h | h; (have := (HLO.out k h).1; omega); (have := (HLP.out k h).1; omega)))
      have hsz1 : wr.heap.size < W2.heap.size := by have := hgr2.size; simp at this; omega
      have hoP2 := hoP1.kept hgr2 (own_ne hoP1 hoN1 (by decide))
      have HREC := Lib.hid (IH.out j hj W2 hb2)
      refine oneT 12 (by kernel_rfl) rfl (by kernel_rfl) (fun K hK => ?_)
      refine wp_call_any (args := [.agg (css j).toArray]) rfl Try.func88 (by kernel_rfl) (by kernel_rfl) rfl HREC.out ?_
      rintro e W3 ⟨⟨ds, rfl, hv⟩, hb3⟩
      refine ⟨_, rfl, ?_⟩
      have hS3 : Only (Own2 vN vP) wr W3 := hS2.trans (Only.of_below hb3 (fun _ => False)) (fun _ _ h => h.elim)
      refine hK.out _ _ (fun _ => hS3) ?_
      clear hK K
      change wpAnyT _ _ _ _ _ _ _ _ (Act.put _ (some 40) _) _
      simp only [Act.put, List.setIfInBounds_toArray, List.set_cons_zero, List.set_cons_succ]
      have hoN3 := own_below hoN2 hb3
      have hoP3 := own_below hoP2 hb3
      have hS4 := hS3.alloc (.cells ds.toArray 26)
      refine oneT 13 (by kernel_rfl) rfl (by kernel_rfl) (fun K hK => ?_)
      refine wp_slice1 24 26 (.tmp 40) rfl (.agg ds.toArray) rfl ds.toArray (fun w' => mk_val hv.length w') ?_
      refine hK.out _ _ (fun _ => hS4) ?_
      clear hK K
      change wpAnyT _ _ _ _ _ _ _ _ (Act.put _ (some 41) _) _
      simp only [Act.put, List.setIfInBounds_toArray, List.set_cons_zero, List.set_cons_succ]
      have hoN4 := hoN3.alloc (.cells ds.toArray 26)
      have hoP4 := hoP3.alloc (.cells ds.toArray 26)
      refine oneT 14 (by kernel_rfl) rfl (by kernel_rfl) (fun K hK => ?_)
      refine wp_append_at (.tmp 34) (.tmp 41) 24 rfl (w.heap.size + 3) 26 j0 _ 6 104 Try.underlying24 HJ.out hy0 hy1 hy2 rfl (by decide) vP j _ rfl hoP4 ⟨W3.heap.size, 0, none⟩ 1 1 ds rfl hv.length (fun q u hu => (Row.new W3 ds 26).cell (k := q) hu |> fun h => by rw [show (⟨W3.heap.size, 0, none⟩ : Addr).add q = ⟨W3.heap.size, q, none⟩ by unfold Addr.add; split <;> simp_all]; exact h) (vin_one hv) (by unfold maxLen; omega) (by omega) (by have := HF1.out.sz; have := hS3.size; simp; omega) (fun vP2 W5 hoP5 hgr5 hat5 => ?_)
      have hS5 : Only (Own2 vN vP) wr W5 := hS4.grown hgr5 (fun k hk => .inl (.inr hk))
      refine hK.out _ _ (fun _ => hS5) ?_
      clear hK K
      change wpAnyT _ _ _ _ _ _ _ _ (Act.put _ (some 42) _) _
      simp only [Act.put, List.setIfInBounds_toArray, List.set_cons_zero, List.set_cons_succ]
      have hoN5 := hoN4.kept hgr5 (own_ne hoN4 hoP4 (by decide))
      obtain ⟨aN, cN, eN⟩ := own_form hoN5
      obtain ⟨aP, cP, eP⟩ := own_form hoP5
      have hr2 : Row W5 (w.heap.size + 1 + 1) 26 [.int .i64 5, .int .i64 0, .string { data := #[] }, vN, .slice none 0 0, vP] := HF1.out.r2.only hS5 (HNOT.out _ (by omega))
      refine oneT 16 (by kernel_rfl) rfl (by kernel_rfl) (fun K hK => ?_)
      refine wp_store_cell 22 (.tmp 43) (.tmp 32) rfl ⟨w.heap.size + 1 + 1, 3, none⟩ rfl vN2 rfl (st_strs (hr2.cell (k := 3) rfl) (hr2.free 3) eN) ?_
      refine hK.out _ _ (late_ok (by kernel_rfl)) ?_
      clear hK K
      change wpAnyT _ _ _ _ _ _ _ _ (Act.put _ none _) _
      simp only [Act.put, List.setIfInBounds_toArray, List.set_cons_zero, List.set_cons_succ]
      have hr3 := hr2.set 3 vN2
      simp only [List.set_cons_zero, List.set_cons_succ] at hr3
      refine oneT 17 (by kernel_rfl) rfl (by kernel_rfl) (fun K hK => ?_)
      refine wp_run (Reads.fieldAt (S := fun _ => True) 26 (.tmp 3) 5 rfl _ _ rfl (fun w' => fv_5 _ w') _ trivial) ?_
      refine hK.out _ _ (late_ok (by kernel_rfl)) ?_
      clear hK K
      change wpAnyT _ _ _ _ _ _ _ _ (Act.put _ (some 44) _) _
      simp only [Act.put, List.setIfInBounds_toArray, List.set_cons_zero, List.set_cons_succ]
      refine oneT 18 (by kernel_rfl) rfl (by kernel_rfl) (fun K hK => ?_)
      refine wp_store_cell 24 (.tmp 44) (.tmp 42) rfl ⟨w.heap.size + 1 + 1, 5, none⟩ rfl vP2 rfl (st_vals (hr3.cell (k := 5) rfl) (hr3.free 5) eP) ?_
      refine hK.out _ _ (late_ok (by kernel_rfl)) ?_
      clear hK K
      change wpAnyT _ _ _ _ _ _ _ _ (Act.put _ none _) _
      simp only [Act.put, List.setIfInBounds_toArray, List.set_cons_zero, List.set_cons_succ]
      refine doneT (by kernel_rfl) ?_ _
      have hr4 := hr3.set 5 vP2
      simp only [List.set_cons_zero, List.set_cons_succ] at hr4
      have HN := Lib.hid (show FI w [.int .i64 5, .slice (some ad) len ca, .slice (some af) len cc] words ps (j + 1) vN2 vP2 (fun i => if i = j then ds else dss i) ((W5.setCell ⟨w.heap.size + 1 + 1, 3, none⟩ vN2).setCell ⟨w.heap.size + 1 + 1, 5, none⟩ vP2) from by
        have hsz := HF1.out.sz
        have hsz3 := hS3.size
        have hsz5 := hS5.size
        have hg5 := hgr5.size
        simp at hg5
        have hN2 : ∀ g, vN2.ownBlock = some g → w.heap.size + 3 ≤ g ∧ g < W2.heap.size := hoN2.lt
        have hsame : ∀ g, g < wr.heap.size → ¬ Own2 vN vP g → g ≠ w.heap.size + 1 + 1 → ((W5.setCell ⟨w.heap.size + 1 + 1, 3, none⟩ vN2).setCell ⟨w.heap.size + 1 + 1, 5, none⟩ vP2).heap[g]? = wr.heap[g]? := fun g hg hn hne => by rw [Below.heap_setCell _ _ _ _ hne, Below.heap_setCell _ _ _ _ hne]; exact hS5.block g hg hn
        refine ⟨?_, ?_, hr4, ?_, ?_, ?_, ?_, ?_⟩
        · exact (((HF1.out.r0.only hS5 (HNOT.out _ (by omega))).setCell (by show _ ≠ _; simp; omega) _).setCell (by show _ ≠ _; simp; omega) _)
        · exact (((HF1.out.r1.only hS5 (HNOT.out _ (by omega))).setCell (by show _ ≠ _; simp) _).setCell (by show _ ≠ _; simp) _)
        · rw [take_more words (by have := HL.out; omega), HX.out]; exact own_set (own_set hoN5 (by show _ < _; simp) _) (by show _ < _; simp) _
        · rw [flat_more]; exact own_set (own_set hoP5 (by show _ < _; simp) _) (by show _ < _; simp) _
        · intro i hi
          by_cases hij : i = j
          · subst hij
            rw [if_pos rfl]
            refine hv.kept (by simp; omega) (fun g hg1 hg2 => ⟨⟨by omega, fun h => ?hA⟩, ?hB⟩)
            case hA =>
              rcases h with h | h
              · have := (hN2 g h).2; omega
              · rcases hat5 with e | e
                · rw [e] at h; have := (HLP.out g h).2; omega
                · rw [e] at h; simp at h; omega
            case hB =>
              have hne : g ≠ w.heap.size + 1 + 1 := by omega
              rw [Below.heap_setCell _ _ _ _ hne, Below.heap_setCell _ _ _ _ hne, hgr5.block g (by simp; omega) (fun e => by have := (HLP.out g e.symm).2; omega)]
              exact heap_alloc_old W3 _ hg2
          · rw [if_neg hij]
            refine (HF1.out.tr i (by omega)).kept (by simp; omega) (fun g hg1 hg2 => ⟨⟨hg1.1, fun h => ?_⟩, hsame g hg2 hg1.2 (by omega)⟩)
            rcases h with h | h
            · rcases hat2 with e | e
              · rw [e] at h; exact hg1.2 (.inl h)
              · rw [e] at h; simp at h; omega
            · rcases hat5 with e | e
              · rw [e] at h; exact hg1.2 (.inr h)
              · rw [e] at h; simp at h; omega
        · exact ((HF1.out.be.trans (hS5.below HF1.out.be.size (fun k hk => by rcases hk with h | h; (have := (HLO.out k h).1; omega); (have := (HLP.out k h).1; omega)))).setCell (by show _ ≤ _; simp; omega) _).setCell (by show _ ≤ _; simp; omega) _
        · simp; omega)
      generalize (W5.setCell ⟨w.heap.size + 1 + 1, 3, none⟩ vN2).setCell ⟨w.heap.size + 1 + 1, 5, none⟩ vP2 = W7 at *
      clear hS0 hS1 hoN1 hoP1 hoN2 hgr2 hat2 hS2 hb2 hsz1 hoP2 HREC hv hb3 hS3 hoN3 hoP3 hS4 hoN4 hoP4 hoP5 hgr5 hat5 hS5 hoN5 eN eP hr2 hr3 hr4 KEEP
      go_wp2_with fail
      go_roundw
      case rel => exact ⟨j + 1, _, _, _, by omega, by go_num, HN.out⟩
      case measure => simp [intOf] <;> omega
    · obtain rfl : j = len := by omega
      obtain ⟨aN, cN, eN, rN, cN1, _⟩ := own_rd hf.oN
      have hl6 : ∀ i, i < j → (dss i).length = 6 := fun i hi => (hf.tr i hi).length
      obtain ⟨aP, cP, eP, rP, cP1⟩ := own_parts hl6 hf.oP
      subst eN eP
      have hr1 := hf.r1
      have hr2 := hf.r2
      have hbe := hf.be
      have hsz := hf.sz
      have htr := hf.tr
      have HR1 := Lib.hid hr1
      have HR2 := Lib.hid hr2
      have HBE := Lib.hid hbe
      have HSZ := Lib.hid hsz
      have HTR := Lib.hid htr
      have HRN := Lib.hid rN
      have HRP := Lib.hid rP
      clear hf hr1 hr2 hbe hsz htr rN rP HF
      have HV2 := Lib.hid (v_info (cs := [.int .i64 5, .int .i64 0, .string { data := #[] }, .slice aN j cN, .slice none 0 0, .slice aP j cP]) rfl)
      have HO := Lib.hid (show ([.int .i64 0, .int .i64 0, .string { data := #[] }, .slice none 0 0, .slice none 0 0, .slice none 0 0] : List Value).toArray.size = ([.int .i64 5, .int .i64 0, .string { data := #[] }, .slice aN j cN, .slice none 0 0, .slice aP j cP] : List Value).toArray.size from rfl)
      go_upto_region 11 with fail
      go_step
      refine wpList_load_row rfl 26 (.tmp 3) rfl (w.heap.size + 1 + 1) rfl 26 _ (0, 0) _ HR2.out Try.underlying26 rfl HV2.out ?_
      simp only [Act.put, List.setIfInBounds_toArray, List.set_cons_zero, List.set_cons_succ]
      refine wpList_store_row rfl 26 (.tmp 2) (.tmp 46) rfl (w.heap.size + 1) _ rfl rfl 26 _ HR1.out HV2.out HO.out (by rw [List.all_toArray]; rfl) ?_
      go_wp2_with fail
      have hgot := setRow_heap wr (w.heap.size + 1) _ ([.int .i64 5, .int .i64 0, .string { data := #[] }, .slice aN j cN, .slice none 0 0, .slice aP j cP] : List Value).toArray _ _ HR1.out
      refine bodyPost_ret (results_cell_row (by rfl) _ _ (w.heap.size + 1) _ _ _ _ (by rfl) hgot Try.underlying26 rfl (v_info rfl)) rfl ?_
      refine ⟨⟨_, rfl, ?_⟩, below_setRow HBE.out (by omega) _⟩
      have hsz := HSZ.out
      have hkeep : ∀ g, w.heap.size + 3 ≤ g → g < wr.heap.size → w.heap.size ≤ g ∧ (wr.setRow (w.heap.size + 1) ([.int .i64 5, .int .i64 0, .string { data := #[] }, .slice aN j cN, .slice none 0 0, .slice aP j cP] : List Value).toArray).heap[g]? = wr.heap[g]? := fun g h1 h2 => ⟨by omega, setRow_other wr _ _ _ (by omega)⟩
      have hszr : wr.heap.size ≤ (wr.setRow (w.heap.size + 1) ([.int .i64 5, .int .i64 0, .string { data := #[] }, .slice aN j cN, .slice none 0 0, .slice aP j cP] : List Value).toArray).heap.size := by simp
      have hlw : words.length = j := HL.out
      rw [hlw]
      have htk : words.take j = words := by rw [← hlw]; exact List.take_length
      have hrn := HRN.out
      rw [htk] at hrn
      exact .mk dss rfl rfl (Nat.zero_le _) (Rd.kept hrn hszr hkeep) cN1 HSS.out (Rd.nil _ _ _) ⟨Nat.le_refl _, Nat.zero_le _⟩ (fun _ h => by cases h) (HRP.out.kept hszr hkeep) cP1 (fun i hi => (HTR.out i hi).kept hszr (fun g h1 h2 => hkeep g h1.1 h2))

end Go.Proofs.Yteeabfckjjbmkaa
