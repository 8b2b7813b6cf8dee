/- order's number.rest. -/
import Derived.Test.YtklbcpaoccdmeaaDoorDiv
import Derived.Test.YtklbcpaoccdmeaaDoorPlus
import Derived.Test.YtklbcpaoccdmeaaDoorMinus
import Derived.Deep.QuietTactic
import Derived.BigQuiet
import Derived.Laws.BitsAllLaws
import Derived.Deep.CutRange
import Derived.Deep.CutBlock
import Derived.RegionTactic
import Derived.Lib.Hide
import Derived.IntWalk
namespace Go.Proofs.YtklbcpaoccdmeaaDoor
set_option maxRecDepth 100000
open Go.RowKit

/-- The order, as it lies. -/
def Qt (w : World) : Prop := ∃ t, w.heap[0]? = some (.cells (Nm qq).toArray t (0, 0))
theorem Qt.lt {w : World} (h : Qt w) : 0 < w.heap.size := by
  obtain ⟨t, h⟩ := h
  exact (Array.getElem?_eq_some_iff.1 h).1
theorem Qt.below {w w' : World} {B : Nat} (h : Qt w) (hb : Below B w w') (hB : 0 < B) : Qt w' := by
  obtain ⟨t, h⟩ := h
  exact ⟨t, (hb.block 0 hB).trans h⟩
theorem Row.setRow {w : World} {g : Nat} {T : TypeId} {l : List Value} (h : Row w g T l) (m : List Value) : Row (w.setRow g m.toArray) g T m := setRow_heap w g _ _ _ _ h
theorem Row.setRowOther {w : World} {g k : Nat} {T : TypeId} {l : List Value} (h : Row w g T l) (hk : g ≠ k) (m : Array Value) : Row (w.setRow k m) g T l := (setRow_other w k g m hk).trans h

set_option maxHeartbeats 3200000 in
theorem rest_any (N : Nat) (hN : N < M64 8) (w : World) (hq : Qt w) :
    Calls Tryd.prog 18 #[.agg (Nm N).toArray] w fun e w' => e = .returned (.agg (Nm (N % qq)).toArray) ∧ Below w.heap.size w w' := by
  have HN := Lib.hid hN
  have HQ := Lib.hid hq
  have hS : ∀ x, (Tryd.prog.info? 36).map (·.size) = some (Nm x).toArray.size := nm_info
  have hO : ∀ x y, (Nm x).toArray.size = (Nm y).toArray.size := fun _ _ => rfl
  have HS4 := Lib.hid hS
  have HO4 := Lib.hid hO
  clear hN hq hS hO
  go_enter Tryd.func18, Tryd.ntmps18
  go_wp2_with fail
  go_loopw [4] (fun i wr => ∃ k : Nat, k ≤ 512 ∧ i = .int .i64 (511 - (k : Int)) ∧ Row wr w.heap.size 36 (Nm N) ∧ Row wr (w.heap.size + 1 + 1) 36 (Nm (shr N (512 - k) % qq)) ∧ Row wr (w.heap.size + 1) 36 (Nm 0) ∧ Below w.heap.size w wr) (fun i _ => (intOf i + 1).toNat)
  case atStart =>
    refine ⟨0, Nat.zero_le _, rfl, ((Row.new w _ _).alloc _).alloc _, ?_, ?_, Below.alloc3 _ _ _ _⟩
    · have e : shr N (512 - 0) % qq = 0 := by
        exact div_top HN.out _ rfl
      rw [e, Nm_zero]
      exact Row.new2 w _ _ _ _
    · rw [Nm_zero]
      exact (Row.new1 w _ _ _).alloc _
  case round =>
    obtain ⟨k, hkn, rfl, hn, hrow, hres, hbe⟩ := hrel
    by_cases hlt : k < 512
    · obtain ⟨i, hi⟩ : ∃ i : Nat, i = 511 - k := ⟨_, rfl⟩
      have hii : (511 - (k : Int)) = (i : Int) := by omega
      rw [hii]
      have e1 : 512 - k = i + 1 := by omega
      have e2 : 512 - (k + 1) = i := by omega
      rw [e1] at hrow
      have hbd := bit_div N i
      have hb2 : shr N i % 2 < 2 := Nat.mod_lt _ (by decide)
      have hwb : wd N (i / 64) / 2 ^ (i % 64) % 2 = shr N i % 2 := wd_bit N i
      have hrs := rest_step (x := shr N (i + 1)) (q := qq) hb2
      rw [← hbd] at hrs
      have hrl : shr N (i + 1) % qq < qq := Nat.mod_lt _ qq_pos
      have hcn := hn.cell (Nm_get N (k := i / 64) (by omega))
      have lw := wd_lt N (i / 64)
      generalize shr N (i + 1) % qq = r at *
      generalize hbb : shr N i % 2 = b at *
      have hd : Int.tdiv (i : Int) 64 = ((i / 64 : Nat) : Int) := by rw [Int.tdiv_eq_ediv_of_nonneg (by omega)]; omega
      have hm : Int.tmod (i : Int) 64 = ((i % 64 : Nat) : Int) := by rw [Int.tmod_eq_emod_of_nonneg (by omega)]; omega
      have hi8 : i / 64 < 8 := by omega
      have hi9 : i ≤ 511 := by omega
      have him : i % 64 < 64 := by omega
      have hw1 : IntKind.i64.wrap ((i / 64 : Nat) : Int) = ((i / 64 : Nat) : Int) := IntWalk.i64_in _ (by omega)
      have hsh : ((wd N (i / 64) : Nat) : Int) / 2 ^ (i % 64) = ((wd N (i / 64) / 2 ^ (i % 64) : Nat) : Int) := by simp
      have hsl : wd N (i / 64) / 2 ^ (i % 64) < 18446744073709551616 := Nat.lt_of_le_of_lt (Nat.div_le_self _ _) lw
      have hand : bits .and .u64 ((wd N (i / 64) / 2 ^ (i % 64) : Nat) : Int) 1 = (b : Int) := by
        have h := u64_and_nat (wd N (i / 64) / 2 ^ (i % 64)) 1 hsl (by decide)
        rw [Nat.and_one_is_mod, hwb] at h
        exact h
      have hor : bits .or .u64 ((wd (r + r) 0 : Nat) : Int) (b : Int) = ((wd (r + r) 0 ||| b : Nat) : Int) := u64_or_nat _ _ (wd_lt _ _) (by omega)
      have HN0 := Lib.hid hn
      have HRES0 := Lib.hid hres
      have HBE0 := Lib.hid hbe
      have HROW0 := Lib.hid hrow
      have HRS := Lib.hid hrs
      have HOR := Lib.hid hor
      have HAND := Lib.hid hand
      have HSH := Lib.hid hsh
      have HD := Lib.hid hd
      have HM := Lib.hid hm
      have HW1 := Lib.hid hw1
      have HCN := Lib.hid hcn
      have HII := Lib.hid hii
      have HE2 := Lib.hid e2
      have HRL := Lib.hid hrl
      clear hn hrow hres hbe hrs hor hand hsh hd hm hw1 hcn hii e1 e2 hbd hwb hbb hi lw hsl hrl
      have bi0 : (0 : Int) ≤ (i : Int) := by omega
      have bi1 : (i : Int) ≤ 511 := by omega
      go_wp2_with (first
        | (refine wpList_load_row rfl 36 (.tmp 3) rfl (w.heap.size + 1 + 1) rfl 36 _ (0, 0) _ HROW0.out Tryd.underlying36 rfl (HS4.out _) ?_))
      refine (plus_any r r wr).mono ?_
      rintro e w1 ⟨rfl, hb1⟩
      have hrow1 := HROW0.out.belowAll hb1
      have hn1 := HN0.out.belowAll hb1
      have hres1 := HRES0.out.belowAll hb1
      have hbe1 := HBE0.out.trans (hb1.mono HBE0.out.size)
      have HROW1 := Lib.hid hrow1
      have HN1 := Lib.hid hn1
      have HRES1 := Lib.hid hres1
      have HBE1 := Lib.hid hbe1
      clear hb1 hrow1 hn1 hres1 hbe1
      go_upto_region 6 with (refine wpList_store_row rfl 36 (.tmp 3) (.tmp 13) rfl (w.heap.size + 1 + 1) _ rfl rfl 36 _ HROW1.out (HS4.out _) (HO4.out _ _) (Nm_one _) ?_)
      have hrow2 := HROW1.out.setRow (Nm (r + r))
      have hn2 := HN1.out.setRowOther (k := w.heap.size + 1 + 1) (by omega) (Nm (r + r)).toArray
      have hres2 := HRES1.out.setRowOther (k := w.heap.size + 1 + 1) (by omega) (Nm (r + r)).toArray
      have hbe2 := below_setRow (g := w.heap.size + 1 + 1) HBE1.out (by omega) (Nm (r + r)).toArray
      generalize w1.setRow (w.heap.size + 1 + 1) (Nm (r + r)).toArray = w2 at *
      have hcl := hrow2.cell (Nm_get (r + r) (k := 0) (by decide))
      have hcn := hn2.cell (Nm_get N (k := i / 64) hi8)
      have hfree := hrow2.free 0
      have hset := hrow2.set 0 (.int .u64 ((wd (r + r) 0 ||| b : Nat) : Int))
      rw [Nm_bit r b hb2] at hset
      have hn3 := hn2.setCell (p := ⟨w.heap.size + 1 + 1, 0, none⟩) (by show _ ≠ w.heap.size + 1 + 1; omega) (.int .u64 ((wd (r + r) 0 ||| b : Nat) : Int))
      have hres3 := hres2.setCell (p := ⟨w.heap.size + 1 + 1, 0, none⟩) (by show _ ≠ w.heap.size + 1 + 1; omega) (.int .u64 ((wd (r + r) 0 ||| b : Nat) : Int))
      have hbe3 := hbe2.setCell (p := ⟨w.heap.size + 1 + 1, 0, none⟩) (by simp; omega) (.int .u64 ((wd (r + r) 0 ||| b : Nat) : Int))
      have HSET := Lib.hid hset
      have HN3 := Lib.hid hn3
      have HRES3 := Lib.hid hres3
      have HBE3 := Lib.hid hbe3
      have hd := HD.out
      have hm := HM.out
      have hw1 := HW1.out
      clear hrow2 hn2 hres2 hbe2 hset hn3 hres3 hbe3
      generalize i / 64 = i1 at *
      generalize i % 64 = i2 at *
      generalize wd N i1 = x at *
      generalize wd (r + r) 0 = y at *
      have bj0 : (0 : Int) ≤ (i1 : Int) := by omega
      have bj1 : (i1 : Int) < 8 := by omega
      have bk0 : (0 : Int) ≤ (i2 : Int) := by omega
      have bk1 : (i2 : Int) < 64 := by omega
      simp only [Act.put]
      go_cut [14] from 15 to 26 (fun _ wx => Row wx w.heap.size 36 (Nm N) ∧ Row wx (w.heap.size + 1 + 1) 36 (Nm (r + r + b)) ∧ Row wx (w.heap.size + 1) 36 (Nm 0) ∧ Below w.heap.size w wx)
      case first =>
        go_region
        all_goals
          go_step
          go_step
          go_meet
          rw [HSH.out, HAND.out, HOR.out]
          exact ⟨HN3.out, HSET.out, HRES3.out, HBE3.out.drew⟩
      case rest =>
        obtain ⟨hn4, hrow4, hres4, hbe4⟩ := hcut
        have hq4 : Qt wc := HQ.out.below hbe4 HQ.out.lt
        obtain ⟨tq, hq5⟩ := hq4
        have hd5 : r + r + b + M64 8 - qq + qq = r + r + b + M64 8 := by have := qq_lt; have := M64_mono (show 4 ≤ 8 by omega); omega
        have hqm : qq % M64 8 = qq := Nat.mod_eq_of_lt (Nat.lt_of_lt_of_le qq_lt (M64_mono (by omega)))
        have hxm : (r + r + b) % M64 8 = r + r + b := Nat.mod_eq_of_lt (by have := HRL.out; have := qq_lt; have h8 := M64_48; omega)
        have hmin := fun w => minus_any (r + r + b) qq (r + r + b + M64 8 - qq) hd5 w
        rw [hqm, hxm] at hmin
        have hnd : ¬ r + r + b < qq → Nm (r + r + b + M64 8 - qq) = Nm (r + r + b - qq) := fun h => by
          rw [show r + r + b + M64 8 - qq = r + r + b - qq + M64 8 by omega, Nm_over]
        have HND := Lib.hid hnd
        have HMIN := Lib.hid hmin
        have HQ5 := Lib.hid hq5
        have HN4 := Lib.hid hn4
        have HROW4 := Lib.hid hrow4
        have HRES4 := Lib.hid hres4
        have HBE4 := Lib.hid hbe4
        clear hq5 hd5 hqm hxm hmin hnd hn4 hrow4 hres4 hbe4 hd hm hw1 hcl hcn hfree
        generalize hD : r + r + b + M64 8 - qq = D at *
        clear hD
        go_wp2_with (first
          | (refine wpList_load_row rfl 36 (.tmp 3) rfl (w.heap.size + 1 + 1) rfl 36 _ (0, 0) _ HROW4.out Tryd.underlying36 rfl (HS4.out _) ?_)
          | (refine wpList_load_row rfl 36 (.global 0) rfl 0 rfl tq _ (0, 0) _ HQ5.out Tryd.underlying36 rfl (HS4.out _) ?_))
        refine (HMIN.out wc).mono ?_
        rintro e w5 ⟨rfl, hb5⟩
        have hn5 := (HN4.out.belowAll hb5).alloc (.cells (Nm 0).toArray 36)
        have hrow5 := (HROW4.out.belowAll hb5).alloc (.cells (Nm 0).toArray 36)
        have hres5 := (HRES4.out.belowAll hb5).alloc (.cells (Nm 0).toArray 36)
        have hsz5 : w.heap.size + 1 + 1 < w5.heap.size := Nat.lt_of_lt_of_le HROW4.out.lt hb5.size
        have hbe5 := (HBE4.out.trans (hb5.mono HBE4.out.size)).alloc (by omega) (.cells (Nm 0).toArray 36)
        have hnew := Row.new w5 (Nm 0) 36
        rw [Nm_zero] at hn5 hrow5 hbe5 hnew
        rw [show (Nm 0).toArray = #[Value.int .u64 0, .int .u64 0, .int .u64 0, .int .u64 0, .int .u64 0, .int .u64 0, .int .u64 0, .int .u64 0] by rw [Nm_zero]] at hres5
        have HN5 := Lib.hid hn5
        have HROW5 := Lib.hid hrow5
        have HRES5 := Lib.hid hres5
        have HBE5 := Lib.hid hbe5
        have HNEW := Lib.hid hnew
        have hO6 : ∀ x, ([Value.int .u64 0, .int .u64 0, .int .u64 0, .int .u64 0, .int .u64 0, .int .u64 0, .int .u64 0, .int .u64 0]).toArray.size = (Nm x).toArray.size := fun _ => rfl
        have HO6 := Lib.hid hO6
        clear hO6
        have HSZ5 := Lib.hid hsz5
        clear hb5 hn5 hrow5 hres5 hbe5 hnew hsz5
        by_cases hshort : r + r + b < qq
        · have hrs2 := HRS.out
          rw [if_pos hshort] at hrs2
          rw [decide_eq_true hshort]
          have HRS2 := Lib.hid hrs2
          clear hrs2 hshort
          go_wp2_with (refine wpList_store_row rfl 36 (.tmp 5) (.tmp 30) rfl w5.heap.size _ rfl rfl 36 _ HNEW.out (HS4.out _) (HO6.out _) (Nm_one _) ?_)
          go_roundw
          case rel =>
            refine ⟨k + 1, by omega, ?_, HN5.out.setRowOther (by have := HSZ5.out; omega) _, ?_, HRES5.out.setRowOther (by have := HSZ5.out; omega) _, below_setRow HBE5.out (by have := HSZ5.out; omega) _⟩
            · congr 1
              have := HII.out
              omega
            · rw [HE2.out, HRS2.out]
              exact HROW5.out.setRowOther (by have := HSZ5.out; omega) _
          case measure => simp [intOf] <;> omega
        · have hrs2 := HRS.out
          rw [if_neg hshort] at hrs2
          have hnd := HND.out hshort
          rw [decide_eq_false hshort, hnd]
          have HRS2 := Lib.hid hrs2
          have hl6 := HNEW.out.setRow (Nm (r + r + b - qq))
          have hn6 := HN5.out.setRowOther (k := w5.heap.size) (by have := HSZ5.out; omega) (Nm (r + r + b - qq)).toArray
          have hrow6 := HROW5.out.setRowOther (k := w5.heap.size) (by have := HSZ5.out; omega) (Nm (r + r + b - qq)).toArray
          have hres6 := HRES5.out.setRowOther (k := w5.heap.size) (by have := HSZ5.out; omega) (Nm (r + r + b - qq)).toArray
          have hbe6 := below_setRow (g := w5.heap.size) HBE5.out (by have := HSZ5.out; omega) (Nm (r + r + b - qq)).toArray
          have HL6 := Lib.hid hl6
          have HN6 := Lib.hid hn6
          have HROW6 := Lib.hid hrow6
          have HRES6 := Lib.hid hres6
          have HBE6 := Lib.hid hbe6
          clear hrs2 hshort hnd hl6 hn6 hrow6 hres6 hbe6
          go_wp2_with (first
            | (refine wpList_store_row rfl 36 (.tmp 5) (.tmp 30) rfl w5.heap.size _ rfl rfl 36 _ HNEW.out (HS4.out _) (HO6.out _) (Nm_one _) ?_)
            | (refine wpList_load_row rfl 36 (.tmp 5) rfl w5.heap.size rfl 36 _ (0, 0) _ HL6.out Tryd.underlying36 rfl (HS4.out _) ?_)
            | (refine wpList_store_row rfl 36 (.tmp 3) (.tmp 34) rfl (w.heap.size + 1 + 1) _ rfl rfl 36 _ HROW6.out (HS4.out _) (HO4.out _ _) (Nm_one _) ?_))
          go_roundw
          case rel =>
            refine ⟨k + 1, by omega, ?_, HN6.out.setRowOther (by omega) _, ?_, HRES6.out.setRowOther (by omega) _, below_setRow HBE6.out (by omega) _⟩
            · congr 1
              have := HII.out
              omega
            · rw [HE2.out, HRS2.out]
              exact HROW6.out.setRow _
          case measure => simp [intOf] <;> omega
    · obtain rfl : k = 512 := by omega
      have hneg : (511 - ((512 : Nat) : Int)) = -1 := by decide
      rw [hneg]
      rw [show 512 - 512 = 0 from rfl, shr_zero] at hrow
      have HROW := Lib.hid hrow
      have HRES := Lib.hid hres
      have HBE := Lib.hid hbe
      clear hrow hres hbe hn hneg
      go_wp2_with (first
        | (refine wpList_load_row rfl 36 (.tmp 3) rfl (w.heap.size + 1 + 1) rfl 36 _ (0, 0) _ HROW.out Tryd.underlying36 rfl (HS4.out _) ?_)
        | (refine wpList_store_row rfl 36 (.tmp 2) (.tmp 35) rfl (w.heap.size + 1) _ rfl rfl 36 _ HRES.out (HS4.out _) (HO4.out _ _) (Nm_one _) ?_))
      have hgot := setRow_heap wr (w.heap.size + 1) _ (Nm (N % qq)).toArray _ _ HRES.out
      refine bodyPost_ret (results_cell_row (by rfl) _ _ (w.heap.size + 1) _ _ _ _ (by rfl) hgot Tryd.underlying36 rfl (HS4.out _)) rfl ?_
      exact ⟨rfl, below_setRow HBE.out (by omega) _⟩

end Go.Proofs.YtklbcpaoccdmeaaDoor
