/- All places of an error, the outermost one first; for any chain of errors. -/
import Derived.Test.YtaekepejeokciaaDoorPlcA
import Derived.Deep.AppendLies
import Derived.Deep.RegionHeld3
import Derived.Deep.RegionLaw
namespace Go.Proofs.YtaekepejeokciaaDoor
set_option maxRecDepth 100000
open Go.RowKit

theorem int_info : (Tryd.prog.info? 3).map (fun i => (i.zero, i.size, i.bytes)) = some (some (.int .i64 0), 1, 8) := by kernel_rfl

/-- A variable at b holds a row v of numbers l, which lies above the base. -/
structure Il (w : World) (b : Addr) (base : Nat) (v : Value) (l : List Int) : Prop where
  cell : w.cell? b = some v
  free : w.frozen? b = false
  row : w.ownsRow base 3 1 v l.length (Is l)
  off : v.ownBlock ≠ some b.block

theorem Il.below {w w' : World} {b : Addr} {base : Nat} {v : Value} {l : List Int} (h : Il w b base v l) (ho : Below w.heap.size w w') : Il w' b base v l :=
  ⟨(ho.cell (lt_of_cell h.cell)).trans h.cell, (ho.frozen (lt_of_cell h.cell)).trans h.free, own_below h.row ho, h.off⟩

def blk : Value → Nat
  | .pointer (some a) => a.block + 1
  | _ => 0

/-- What the loop's variable holds: the outermost of the places that are left. -/
def Nxt (w : World) (rest : List Int) (c : Int) (lim : Nat) (a : Value) : Prop :=
  match rest with
  | [] => a = .pointer none
  | p :: r => ∃ h v', a = .pointer (some ⟨h, 0, none⟩) ∧ h < lim ∧ w.heap[h]? = some (.cells #[.int .i64 p, v'] 42 (0, 0)) ∧ Ch w r c h v'

theorem Nxt.more {w : World} {ps : List Int} {c : Int} {lim lim' : Nat} {a : Value} (h : Nxt w ps c lim a) (hl : lim ≤ lim') : Nxt w ps c lim' a := by
  cases ps with
  | nil => exact h
  | cons p ps =>
    obtain ⟨b, v', e, hb, r⟩ := h
    exact ⟨b, v', e, Nat.lt_of_lt_of_le hb hl, r⟩
theorem Nxt.blk {w : World} {ps : List Int} {c : Int} {lim : Nat} {a : Value} (h : Nxt w ps c lim a) : blk a < lim + 1 := by
  cases ps with
  | nil =>
    have h' : a = .pointer none := h
    subst h'
    exact Nat.succ_pos _
  | cons p ps =>
    obtain ⟨b, v', rfl, hb, r⟩ := h
    exact Nat.succ_lt_succ hb

set_option maxHeartbeats 400000 in
theorem outer_any (ps : List Int) (c : Int) (lim : Nat) (v : Value) (w : World) (h : Ch w ps c lim v) (hg : ErrTy w) :
    Calls Tryd.prog 45 #[v] w fun e w' => ∃ a, e = .returned a ∧ Nxt w ps c lim a ∧ Below w.heap.size w w' := by
  cases ps with
  | nil =>
    have h' : v = .iface 29 (.int .i64 c) := h
    subst h'
    exact (outer_code c w hg).mono fun e w' ⟨he, hb⟩ => ⟨_, he, rfl, hb⟩
  | cons p ps =>
    obtain ⟨h0, v', rfl, hl, hc, hr⟩ := h
    exact (outer_at ⟨h0, 0, none⟩ w hg).mono fun e w' ⟨he, hb⟩ => ⟨_, he, ⟨h0, v', rfl, hl, hc, hr⟩, hb⟩

theorem Nxt.only {S : Nat → Prop} {w w' : World} {ps : List Int} {c : Int} {lim : Nat} {a : Value} (h : Nxt w ps c lim a) (ho : Only S w w') (hS : ∀ k, k < lim → ¬ S k) : Nxt w' ps c lim a := by
  cases ps with
  | nil => exact h
  | cons p ps =>
    obtain ⟨b, v', rfl, hl, hb, hr⟩ := h
    exact ⟨b, v', rfl, hl, (ho.block b (Array.getElem?_eq_some_iff.1 hb).1 (hS b hl)).trans hb, hr.only ho fun k hk => hS k (Nat.lt_trans hk hl)⟩

set_option maxHeartbeats 1000000 in
theorem places1_any (a b : Addr) (ps : List Int) (c : Int) (lim : Nat) (v : Value) (w : World) (h : Ch w ps c lim v) (hn : ps.length ≤ 1000) (hg : ErrTy w) (hb0 : 0 < b.block) (hl : lim ≤ b.block) (hls : lim ≤ w.heap.size)
    (ha : w.cell? a = some v) (hb : w.cell? b = some (.slice none 0 0)) (hf : w.frozen? b = false) :
    Calls Tryd.prog 44 #[.pointer (some a), .pointer (some b)] w fun e w' => e = .returned (.tuple #[]) ∧
      ∃ v1, Il w' b w.heap.size v1 ps ∧ Only (fun j => j = b.block) w w' := by
  obtain ⟨i0, hi, hz0, hz1, hz2⟩ := info_parts int_info
  have hbl := lt_of_cell hb
  have hil0 : Il w b w.heap.size (.slice none 0 0) [] := ⟨hb, hf, World.ownsRow_nil _ _ _ _, by simp [Value.ownBlock]⟩
  have HI := Lib.hid hil0
  have HG := Lib.hid hg
  have H := Lib.hid h
  clear hg h hb hf hil0
  obtain ⟨T, x, rfl⟩ := H.out.iface
  go_enter Tryd.func44, Tryd.ntmps44
  go_wp2_with fail
  refine (outer_any ps c lim (.iface T x) w H.out HG.out).mono ?_
  rintro e w1 ⟨a1, rfl, hnx, hb1⟩
  have HN := Lib.hid (hnx.only (Only.of_below hb1 (fun j => j = b.block)) (fun k hk e => by omega))
  have HB := Lib.hid hb1
  have HI1 := Lib.hid ((HI.out.below hb1))
  clear hnx hb1
  go_wp2_with fail
  go_loopw [2] (fun i wr => ∃ (done rest : List Int) (v1 : Value), ps = done ++ rest ∧ Nxt wr rest c lim i ∧ Il wr b w.heap.size v1 done ∧ Only (fun j => j = b.block) w wr) (fun i _ => blk i)
  case atStart => exact ⟨[], ps, _, rfl, HN.out, HI1.out, Only.of_below HB.out _⟩
  case round =>
    obtain ⟨done, rest, v1, rfl, hnx, hil, hon⟩ := hrel
    cases rest with
    | nil =>
      simp only [Nxt] at hnx
      subst hnx
      have HIL := Lib.hid hil
      have HON := Lib.hid hon
      clear hil hon
      go_wp2_with fail
      go_end0
      exact ⟨rfl, v1, by simpa using HIL.out, HON.out⟩
    | cons p r =>
      obtain ⟨h0, v', rfl, hl0, hc, hr⟩ := hnx
      have hdl : done.length + 1 ≤ 1000 := by simp at hn; omega
      have hcb := hil.cell
      have hfb := hil.free
      have hcp : wr.cell? ⟨h0, 0, none⟩ = some (.int .i64 p) := by rw [cell_of_row wr h0 0 _ _ _ hc]; rfl
      have hba : Below wr.heap.size wr (wr.alloc (.cells #[.int .i64 p] 3)) := (Below.refl _ _).alloc (Nat.le_refl _) _
      have hca : (wr.alloc (.cells #[.int .i64 p] 3)).cell? b = some v1 := (hba.cell (lt_of_cell hcb)).trans hcb
      have hfa : (wr.alloc (.cells #[.int .i64 p] 3)).frozen? b = false := (hba.frozen (lt_of_cell hcb)).trans hfb
      have hbw := lt_of_cell hcb
      have HBA := Lib.hid hba
      clear hba
      have hws : w.heap.size ≤ wr.heap.size := hon.size
      have HIL := Lib.hid hil
      have HON := Lib.hid hon
      have HC := Lib.hid hc
      have HR := Lib.hid hr
      clear hil hon hc hr
      go_wp2_with fail
      go_region_law ((refine step_append_lies _ (by rfl) (.tmp 12) (.tmp 17) 22 (by rfl) w.heap.size 3 i0 (.int .i64 0) 1 8 Tryd.underlying22 hi hz0 hz1 hz2 rfl (by omega) v1 done.length (Is done) (by rfl) ((own_below HIL.out.row ((Below.refl _ _).alloc (Nat.le_refl _) _)).drew) ⟨wr.heap.size, 0, none⟩ 1 1 [.int .i64 p] (by rfl) (by rfl) (World.news_of_block (cs := #[.int .i64 p]) (t := 3) (fr := (0, 0)) (heap_alloc_new wr _)) (by simp [Value.oneCell']) (by omega) (by unfold maxLen; omega) (by omega) (by simp; omega) (wr.heap.size + 1) (by simp) ?_; intro gg cap w2 hown2 hgrow hat hlt; have hcb2 : w2.cell? b = some v1 := ((hgrow.cell_far b (by simp; omega) (Ne.symm HIL.out.off)).trans (by simp only [World.cell?_drew]; exact hca)); have hfb2 : w2.frozen? b = false := ((hgrow.frozen_far b (by simp; omega) (Ne.symm HIL.out.off)).trans (by simp only [World.frozen?_drew]; exact hfa))))
      all_goals
        have hne : (Value.slice (some ⟨gg, 0, none⟩) (done.length + 1) cap).ownBlock ≠ some b.block := by
          intro e
          rcases hat with h | h
          · exact HIL.out.off (h.trans e)
          · simp [Value.ownBlock] at e; omega
        have hrow : (w2.setCell b (.slice (some ⟨gg, 0, none⟩) (done.length + 1) cap)).ownsRow w.heap.size 3 1 (.slice (some ⟨gg, 0, none⟩) (done.length + 1) cap) (done.length + 1) (Is done ++ [Value.int .i64 p]) :=
          hown2.kept (row := some b.block) ⟨rfl, rfl, rfl, by simp, fun j _ hj => Below.heap_setCell _ _ _ _ (fun e => hj (by rw [e]))⟩ (.inr hne)
        have hil2 : Il (w2.setCell b (.slice (some ⟨gg, 0, none⟩) (done.length + 1) cap)) b w.heap.size (.slice (some ⟨gg, 0, none⟩) (done.length + 1) cap) (done ++ [p]) :=
          ⟨World.cell?_setCell_same _ _ _ hcb2, by rw [World.frozen?_setCell]; exact hfb2, by rw [List.length_append, Is_append]; exact hrow, hne⟩
        have hstep : Only (fun j => j = b.block ∨ w.heap.size ≤ j) wr (w2.setCell b (.slice (some ⟨gg, 0, none⟩) (done.length + 1) cap)) :=
          (((Only.of_below HBA.out _).drew).grown hgrow (fun k hk => .inl (.inr (HIL.out.row.lt k hk).1))).setCell (.inl (.inl rfl)) _
        have HSTEP := Lib.hid hstep
        have HIL2 := Lib.hid hil2
        obtain ⟨T2, x2, rfl⟩ := HR.out.iface
        have hc3 := (hstep.block h0 (by omega) (by omega)).trans HC.out
        have hcv : (w2.setCell b (.slice (some ⟨gg, 0, none⟩) (done.length + 1) cap)).cell? ⟨h0, 1, none⟩ = some (.iface T2 x2) := by rw [cell_of_row _ h0 1 _ _ _ hc3]; rfl
        have HR2 := Lib.hid (HR.out.only hstep (fun k hk => by omega))
        have HG2 : ErrTy _ := ((hstep.cell (a := ⟨0, 0, none⟩) (by show ¬ (0 = b.block ∨ w.heap.size ≤ 0); omega) (by show 0 < wr.heap.size; omega)).trans ((HON.out.cell (a := ⟨0, 0, none⟩) (by show ¬ (0 = b.block); omega) (by show 0 < w.heap.size; omega)).trans HG.out))
        have HG3 := Lib.hid HG2
        clear hne hrow hil2 hstep HG2 hown2 hgrow hat hcb2 hfb2 hc3 hca hfa hcb hfb hcp
        go_wp2_with fail
        refine (outer_any r c h0 (.iface T2 x2) _ HR2.out HG3.out).mono ?_
        rintro e w4 ⟨a4, rfl, hnx4, hb4⟩
        have HN4 := Lib.hid (hnx4.only (Only.of_below hb4 (fun _ => False)) (fun _ _ h => h))
        have HB4 := Lib.hid hb4
        clear hnx4 hb4
        go_wp2_with fail
        go_roundw
        case rel =>
          exact ⟨done ++ [p], r, _, by simp, HN4.out.more (Nat.le_of_lt hl0), HIL2.out.below HB4.out, (HON.out.trans HSTEP.out fun k hk h => by omega).trans (Only.of_below HB4.out (fun j => j = b.block)) (fun _ _ h => h)⟩
        case measure => exact HN4.out.blk

set_option maxHeartbeats 400000 in
theorem places_any (ps : List Int) (c : Int) (lim : Nat) (v : Value) (w : World) (h : Ch w ps c lim v) (hn : ps.length ≤ 1000) (hg : ErrTy w) :
    Calls Tryd.prog 12 #[v] w fun e w' => ∃ v1, e = .returned v1 ∧ w'.ownsRow w.heap.size 3 1 v1 ps.length (Is ps) ∧ Below w.heap.size w w' := by
  obtain ⟨T, x, rfl⟩ := h.iface
  have hb2 : Below w.heap.size w ((w.alloc (.cells #[.iface T x] 24)).alloc (.cells #[.slice none 0 0] 22)) := ((Below.refl _ _).alloc (Nat.le_refl _) _).alloc (by simp) _
  have ha2 : ((w.alloc (.cells #[.iface T x] 24)).alloc (.cells #[.slice none 0 0] 22)).cell? ⟨w.heap.size, 0, none⟩ = some (.iface T x) := by rw [World.cell?_alloc_lt _ _ _ (by simp)]; simp
  have hc2 : ((w.alloc (.cells #[.iface T x] 24)).alloc (.cells #[.slice none 0 0] 22)).cell? ⟨w.heap.size + 1, 0, none⟩ = some (.slice none 0 0) := by rw [World.cell?_alloc_at _ _ _ _ (by simp)]; rfl
  have hf2 : ((w.alloc (.cells #[.iface T x] 24)).alloc (.cells #[.slice none 0 0] 22)).frozen? ⟨w.heap.size + 1, 0, none⟩ = false := by rw [World.frozen?_alloc_at _ _ _ _ (by simp)]
  have HG := Lib.hid (hg.below hb2 hg.pos)
  have H := Lib.hid (h.top.below hb2)
  have HB2 := Lib.hid hb2
  have HA := Lib.hid ha2
  have HC := Lib.hid hc2
  have HF := Lib.hid hf2
  have hmf := mkfunc
  clear h hb2 ha2 hc2 hf2 hg
  go_enter Tryd.func12, Tryd.ntmps12
  go_wp2_with fail
  refine (search_places ⟨w.heap.size, 0, none⟩ ⟨w.heap.size + 1, 0, none⟩ ps c w.heap.size (.iface T x) _ H.out hn (fun w1 w' => w.heap.size + 2 ≤ w1.heap.size ∧ ∃ v1, Il w' ⟨w.heap.size + 1, 0, none⟩ w1.heap.size v1 ps ∧ Only (fun j => j = w.heap.size + 1) w1 w') ?_).mono ?_
  · intro w1 hb1
    have hl : w.heap.size + 1 < ((w.alloc (.cells #[.iface T x] 24)).alloc (.cells #[.slice none 0 0] 22)).heap.size := by simp
    have hz := hb1.size
    simp at hz
    refine (places1_any _ _ ps c w.heap.size (.iface T x) w1 (H.out.below hb1) hn (HG.out.below hb1 (by simp)) (by simp) (by simp) (by omega) ((hb1.cell (p := ⟨w.heap.size, 0, none⟩) (Nat.lt_of_succ_lt hl)).trans HA.out) ((hb1.cell (p := ⟨w.heap.size + 1, 0, none⟩) hl).trans HC.out) ((hb1.frozen (p := ⟨w.heap.size + 1, 0, none⟩) hl).trans HF.out)).mono ?_
    rintro e w' ⟨he, hr⟩
    exact ⟨he, by omega, hr⟩
  rintro e w3 ⟨rfl, w1, hb1, hz1, v1, hil, hon⟩
  have hbw1 : Below w.heap.size w w1 := HB2.out.trans (hb1.mono (by simp; omega))
  have hbw3 : Below w.heap.size w w3 := hbw1.trans (hon.below (by omega) (fun k hk => by omega))
  have hk := hil.cell
  have HK := Lib.hid hbw3
  have HO := Lib.hid (own_base hil.row (b' := w.heap.size) (by omega))
  clear hbw1 hbw3 hb1 hon hil
  go_wp2_with fail
  go_ret
  exact ⟨v1, rfl, HO.out, HK.out⟩

end Go.Proofs.YtaekepejeokciaaDoor
