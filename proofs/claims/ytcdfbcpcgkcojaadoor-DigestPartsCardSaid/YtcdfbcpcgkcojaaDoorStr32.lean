/- The words of a block, one for each round: as the document says; for any block. -/
import Derived.Test.YtcdfbcpcgkcojaaDoorWrd32
import Derived.Laws.Rows
import Derived.Laws.CopyOwn
import Derived.Below
import Derived.Deep.RegionHeld3
import Derived.Deep.RegionLaw
import Derived.Laws.Tables
import Derived.Deep.MidRow
namespace Go.Proofs.YtcdfbcpcgkcojaaDoor
set_option maxRecDepth 100000
open Go.RowKit

/-- Words as cells. -/
def Us32 (l : List Nat) : List Value := l.map fun x => .int .u32 ((x : Nat) : Int)
theorem Us32_length (l : List Nat) : (Us32 l).length = l.length := by simp [Us32]
theorem Us32_append (l m : List Nat) : Us32 (l ++ m) = Us32 l ++ Us32 m := by simp [Us32]
theorem Us32_get (l : List Nat) (k : Nat) : (Us32 l)[k]? = l[k]?.map fun x => .int .u32 ((x : Nat) : Int) := by simp [Us32]
theorem Us32_one (l : List Nat) : ∀ u ∈ Us32 l, u.oneCell' = true := by
  intro u hu
  simp only [Us32, List.mem_map] at hu
  obtain ⟨c, _, rfl⟩ := hu
  rfl

/-- One more word; so many more. -/
def nxt32 (l : List Nat) : Nat := (sml3 32 (l.getD (l.length - 2) 0) 17 19 10 + l.getD (l.length - 7) 0 + sml3 32 (l.getD (l.length - 15) 0) 7 18 3 + l.getD (l.length - 16) 0) % 4294967296
def exp32 : Nat → List Nat → List Nat
  | 0, l => l
  | n + 1, l => exp32 n l ++ [nxt32 (exp32 n l)]
theorem exp32_length (n : Nat) (l : List Nat) : (exp32 n l).length = l.length + n := by
  induction n with
  | zero => rfl
  | succ n ih => simp [exp32, ih, Nat.add_assoc]
theorem exp32_lt {l : List Nat} (h : ∀ x ∈ l, x < 4294967296) : ∀ n, ∀ x ∈ exp32 n l, x < 4294967296
  | 0 => h
  | n + 1 => by
    intro x hx
    rcases List.mem_append.1 hx with hx | hx
    · exact exp32_lt h n x hx
    · rw [List.mem_singleton.1 hx]; exact Nat.mod_lt _ (by decide)

theorem sum32 (a b c d : Nat) : IntKind.u32.wrap (IntKind.u32.wrap (IntKind.u32.wrap ((a : Int) + b) + c) + d) = (((a + b + c + d) % 4294967296 : Nat) : Int) := by
  rw [← Int.natCast_add, wrap32_nat, ← Int.natCast_add, wrap32_nat, ← Int.natCast_add, wrap32_nat]
  congr 1
  omega

theorem summ32 (a b c d : Nat) : ((((a : Int) + b) % 4294967296 + c) % 4294967296 + d) % 4294967296 = (((a + b + c + d) % 4294967296 : Nat) : Int) := by omega
theorem below_dn32 {B : Nat} {a w : World} (h : Below B a w) (n : Nat) : Below B a (w.drewN n) := ⟨h.os, h.tape, h.output, h.size, h.block⟩

/-- The array of the words, as far as they are reckoned. -/
def At32 (w : World) (g : Nat) (l : List Nat) : Prop := w.heap[g]? = some (.cells (Us32 (l ++ List.replicate (80 - l.length) 0)).toArray 99 (0, 0))
theorem At32.cell {w : World} {g : Nat} {l : List Nat} (h : At32 w g l) {k : Nat} (hk : k < l.length) : w.cell? ⟨g, k, none⟩ = some (.int .u32 ((l.getD k 0 : Nat) : Int)) := by
  rw [cell_of_row w g k _ _ _ h, List.getElem?_toArray, Us32_get, List.getElem?_append_left hk, List.getD, List.getElem?_eq_getElem hk]
  rfl
theorem At32.free {w : World} {g : Nat} {l : List Nat} (h : At32 w g l) (k : Nat) : w.frozen? ⟨g, k, none⟩ = false := frozen_of_row w g k _ _ h
theorem At32.room {w : World} {g : Nat} {l : List Nat} (h : At32 w g l) (hl : l.length < 80) : w.cell? ⟨g, l.length, none⟩ = some (.int .u32 0) := by
  rw [cell_of_row w g _ _ _ _ h]
  have : 80 - l.length = (79 - l.length) + 1 := by omega
  simp [Us32, this, List.replicate_succ]
theorem At32.more {w : World} {g : Nat} {l : List Nat} (h : At32 w g l) (hl : l.length < 80) (x : Nat) : At32 (w.setCell ⟨g, l.length, none⟩ (.int .u32 ((x : Nat) : Int))) g (l ++ [x]) := by
  unfold At32 at h ⊢
  rw [heap_setCell_same w g _ _ _ _ h]
  have e : 80 - l.length = (80 - (l ++ [x]).length) + 1 := by simp; omega
  rw [e, List.replicate_succ]
  congr 2
  simp [Us32]
theorem At32.below {w w' : World} {g B : Nat} {l : List Nat} (h : At32 w g l) (hb : Below B w w') (hg : g < B) : At32 w' g l := (hb.block g hg).trans h
theorem At32.drewN {w : World} {g : Nat} {l : List Nat} (h : At32 w g l) (n : Nat) : At32 (w.drewN n) g l := h

theorem zeros32 : Tryd.zeroCells99 = (Us32 (List.replicate 80 0)).toArray := by kernel_rfl
theorem u32_size : (Tryd.prog.info? 62).map (·.size) = some 1 := by kernel_rfl

theorem st32w (l : List Nat) (w : World) : (((w.alloc (.cells (Us32 l).toArray 64)).alloc (.cells Tryd.zeroCells99 99)).alloc (.cells Tryd.zeroCells99 99)).drew.heap[w.heap.size + 1 + 1]? = some (.cells (Us32 (List.replicate 80 0)).toArray 99 (0, 0)) := by
  rw [heap_drew, ← zeros32]
  have := heap_alloc_new ((w.alloc (.cells (Us32 l).toArray 64)).alloc (.cells Tryd.zeroCells99 99)) (.cells Tryd.zeroCells99 99)
  simpa using this
theorem st32r (l : List Nat) (w : World) : (((w.alloc (.cells (Us32 l).toArray 64)).alloc (.cells Tryd.zeroCells99 99)).alloc (.cells Tryd.zeroCells99 99)).drew.heap[w.heap.size + 1]? = some (.cells Tryd.zeroCells99 99 (0, 0)) := by
  rw [heap_drew]
  exact (Below.heap_alloc _ _ _ (by simp)).trans (heap_alloc2_new _ _ _)
theorem st32b (l : List Nat) (w : World) : Below w.heap.size w (((w.alloc (.cells (Us32 l).toArray 64)).alloc (.cells Tryd.zeroCells99 99)).alloc (.cells Tryd.zeroCells99 99)).drew := ((((Below.refl _ _).alloc (Nat.le_refl _) _).alloc (by simp) _).alloc (by simp <;> omega) _).drew
theorem st32p (l : List Nat) (w : World) : 0 < (Us32 l).length → some (⟨w.heap.size + 1 + 1, 0, none⟩ : Addr) = some ⟨w.heap.size + 1 + 1, 0, none⟩ ∧ ∃ ad, some (⟨w.heap.size, 0, none⟩ : Addr) = some ad ∧ ∀ (j : Nat) v, (Us32 l)[j]? = some v → (((w.alloc (.cells (Us32 l).toArray 64)).alloc (.cells Tryd.zeroCells99 99)).alloc (.cells Tryd.zeroCells99 99)).drew.cell? (ad.add j) = some v := by
  intro _
  refine ⟨rfl, _, rfl, fun j v hv => ?_⟩
  have e : (⟨w.heap.size, 0, none⟩ : Addr).add j = ⟨w.heap.size, j, none⟩ := by unfold Addr.add; split <;> simp_all
  rw [e, World.cell?_drew, World.cell?_alloc_lt _ _ _ (by simp <;> omega), World.cell?_alloc_lt _ _ _ (by simp), World.cell?_alloc_new]
  simpa using hv
theorem st32n {l : List Nat} (hl : l.length = 16) : (Us32 l).length = Nat.min 16 80 := by rw [Us32_length, hl]; rfl
theorem st32f {l : List Nat} (hl : l.length = 16) : 0 + (Us32 l).length ≤ (Us32 (List.replicate 80 0)).length := by rw [Us32_length, Us32_length, hl]; simp
theorem st32s {l : List Nat} (hl : l.length = 16) : splice (Us32 (List.replicate 80 0)) 0 (Us32 l) = Us32 (l ++ List.replicate (80 - l.length) 0) := by
  unfold splice
  rw [Us32_length, hl, Us32_append]
  simp [Us32]

set_option maxHeartbeats 800000 in
theorem stretch32 (l : List Nat) (hl : l.length = 16) (hm : ∀ x ∈ l, x < 4294967296) (w : World) :
    Calls Tryd.prog 60 #[.agg (Us32 l).toArray] w fun e w' => e = .returned (.agg (Us32 (exp32 48 l ++ List.replicate 16 0)).toArray) ∧ Below w.heap.size w w' := by
  have HN := Lib.hid (st32n hl)
  have HF := Lib.hid (st32f hl)
  have HL := Lib.hid hl
  have HM := Lib.hid hm
  clear hl hm
  go_enter Tryd.func60, Tryd.ntmps60
  go_wp2_with fail
  go_region_law ((refine step_copy_splice (by rfl) (.tmp 5) (.tmp 6) 117 117 (by rfl) 62 Tryd.underlying117 u32_size (some ⟨w.heap.size + 1 + 1, 0, none⟩) (some ⟨w.heap.size, 0, none⟩) 80 80 16 16 (by rfl) (by rfl) (w.heap.size + 1 + 1) 0 (Us32 (List.replicate 80 0)) 99 (st32w l w) (Us32 l) HN.out (st32p l w) HF.out (Us32_one l) (w.heap.size + 1 + 1) (((w.alloc (.cells (Us32 l).toArray 64)).alloc (.cells Tryd.zeroCells99 99)).alloc (.cells Tryd.zeroCells99 99)).drew (Below.refl _ _) (Nat.le_refl _) ?_; intro w2 HC HB2))
  have hat : At32 w2 (w.heap.size + 1 + 1) l := by
    have := HC.out
    rw [st32s HL.out] at this
    exact this
  have HAT := Lib.hid hat
  have HBB := Lib.hid HB2
  clear hat HC HB2
  go_wp2_with fail
  go_loopw [4] (fun s wr => ∃ i : Nat, 16 ≤ i ∧ i ≤ 64 ∧ s = .int .i64 i ∧ At32 wr (w.heap.size + 1 + 1) (exp32 (i - 16) l) ∧ Below (w.heap.size + 1 + 1) (((w.alloc (.cells (Us32 l).toArray 64)).alloc (.cells Tryd.zeroCells99 99)).alloc (.cells Tryd.zeroCells99 99)).drew wr) (fun s _ => 64 - (intOf s).toNat)
  case atStart => exact ⟨16, Nat.le_refl _, by decide, rfl, HAT.out, HBB.out⟩
  case round =>
    obtain ⟨i, h16, hi, rfl, hat, hbl⟩ := hrel
    have HA := Lib.hid hat
    have HB := Lib.hid hbl
    clear hat hbl
    have hlen : (exp32 (i - 16) l).length = i := by rw [exp32_length, HL.out]; omega
    by_cases hlt : i < 64
    · have HLT := Lib.hid (exp32_lt HM.out (i - 16))
      have hget : ∀ k, k < i → (exp32 (i - 16) l).getD k 0 < 4294967296 := by
        intro k hk
        rw [List.getD, List.getElem?_eq_getElem (by omega)]
        exact HLT.out _ (List.getElem_mem _)
      have hnx : nxt32 (exp32 (i - 16) l) = (sml3 32 ((exp32 (i - 16) l).getD (i - 2) 0) 17 19 10 + (exp32 (i - 16) l).getD (i - 7) 0 + sml3 32 ((exp32 (i - 16) l).getD (i - 15) 0) 7 18 3 + (exp32 (i - 16) l).getD (i - 16) 0) % 4294967296 := by unfold nxt32; rw [hlen]
      have hup : exp32 (i + 1 - 16) l = exp32 (i - 16) l ++ [nxt32 (exp32 (i - 16) l)] := by rw [show i + 1 - 16 = (i - 16) + 1 by omega]; rfl
      have g2 := hget (i - 2) (by omega)
      have g15 := hget (i - 15) (by omega)
      have k2 := HA.out.cell (k := i - 2) (by omega)
      have k7 := HA.out.cell (k := i - 7) (by omega)
      have k15 := HA.out.cell (k := i - 15) (by omega)
      have k16 := HA.out.cell (k := i - 16) (by omega)
      have kr := HA.out.room (by omega)
      have kf := HA.out.free i
      rw [hlen] at kr
      generalize (exp32 (i - 16) l).getD (i - 2) 0 = x2 at *
      generalize (exp32 (i - 16) l).getD (i - 7) 0 = x7 at *
      generalize (exp32 (i - 16) l).getD (i - 15) 0 = x15 at *
      generalize (exp32 (i - 16) l).getD (i - 16) 0 = x16 at *
      have HNX := Lib.hid hnx
      have HLEN := Lib.hid hlen
      have HUP := Lib.hid hup
      clear hnx hget hlen hup
      have a2 : (0 : Int) ≤ (i : Int) - 2 := by omega
      have b2 : (i : Int) - 2 < 80 := by omega
      have c2 : (2 : Int) ≤ (i : Int) := by omega
      have t2 : ((i : Int) - 2).toNat = i - 2 := by omega
      have a7 : (0 : Int) ≤ (i : Int) - 7 := by omega
      have b7 : (i : Int) - 7 < 80 := by omega
      have c7 : (7 : Int) ≤ (i : Int) := by omega
      have t7 : ((i : Int) - 7).toNat = i - 7 := by omega
      have a15 : (0 : Int) ≤ (i : Int) - 15 := by omega
      have b15 : (i : Int) - 15 < 80 := by omega
      have c15 : (15 : Int) ≤ (i : Int) := by omega
      have t15 : ((i : Int) - 15).toNat = i - 15 := by omega
      have a16 : (0 : Int) ≤ (i : Int) - 16 := by omega
      have b16 : (i : Int) - 16 < 80 := by omega
      have c16 : (16 : Int) ≤ (i : Int) := by omega
      have t16 : ((i : Int) - 16).toNat = i - 16 := by omega
      have bi : (i : Int) < 80 := by omega
      have s2 : IntKind.i64.wrap ((i : Int) - 2) = (i : Int) - 2 := IntWalk.i64_in _ (by omega)
      have s7 : IntKind.i64.wrap ((i : Int) - 7) = (i : Int) - 7 := IntWalk.i64_in _ (by omega)
      have s15 : IntKind.i64.wrap ((i : Int) - 15) = (i : Int) - 15 := IntWalk.i64_in _ (by omega)
      have s16 : IntKind.i64.wrap ((i : Int) - 16) = (i : Int) - 16 := IntWalk.i64_in _ (by omega)
      go_wp2_with fail
      refine (rounds32 _).mono ?_
      rintro e w3 ⟨rfl, rfl⟩
      go_wp2_with fail
      go_region_held3 (fun w' => w'.cell? ⟨w.heap.size + 1 + 1, i - 2, none⟩ = some (.int .u32 (x2 : Int)) ∧ w'.cell? ⟨w.heap.size + 1 + 1, i - 7, none⟩ = some (.int .u32 (x7 : Int)) ∧ w'.cell? ⟨w.heap.size + 1 + 1, i - 15, none⟩ = some (.int .u32 (x15 : Int)) ∧ w'.cell? ⟨w.heap.size + 1 + 1, i - 16, none⟩ = some (.int .u32 (x16 : Int)))
        (first | go_keep | (go_split_ands; refine ⟨?_, ?_, ?_, ?_⟩ <;> (rw [World.cell?_setCell_other _ _ _ _ (by intro e; injection e with _ e; omega)]; assumption)))
        (first
          | (go_at_call 72; refine (small132 x2 _ g2).mono ?_; rintro e w4 ⟨rfl, q1, rfl⟩)
          | (go_at_call 73; refine (small032 x15 _ g15).mono ?_; rintro e w5 ⟨rfl, q2, rfl⟩))
      go_wp2_with fail
      go_roundw
      case rel =>
        refine ⟨i + 1, by omega, by omega, by go_num, ?_, (below_dn32 HB.out _).setCell (Nat.le_refl _) _⟩
        have h := (HA.out.drewN (1 + q1 + q2)).more (by rw [HLEN.out]; omega) (nxt32 (exp32 (i - 16) l))
        rw [HLEN.out] at h
        rw [HUP.out]
        first
          | rw [summ32, ← HNX.out]
          | rw [sum32, ← HNX.out]
        exact h
      case measure => simp [intOf]; omega
    · have hie : i = 64 := by omega
      subst hie
      go_wp2_with fail
      refine (rounds32 _).mono ?_
      rintro e w3 ⟨rfl, rfl⟩
      have hfin : exp32 (64 - 16) l ++ List.replicate (80 - (exp32 (64 - 16) l).length) 0 = exp32 48 l ++ List.replicate 16 0 := by rw [hlen]
      have hcell := HA.out
      unfold At32 at hcell
      rw [hfin] at hcell
      have hlen80 : (Us32 (exp32 48 l ++ List.replicate 16 0)).toArray.size = 80 := by simp [Us32, exp32_length, HL.out]
      have hsz : (Tryd.prog.info? 99).map (·.size) = some (Us32 (exp32 48 l ++ List.replicate 16 0)).toArray.size := by rw [hlen80]; kernel_rfl
      have hres := (HB.out.block (w.heap.size + 1) (by omega)).trans (st32r l w)
      have hold : (Tryd.zeroCells99).size = (Us32 (exp32 48 l ++ List.replicate 16 0)).toArray.size := by rw [hlen80]; kernel_rfl
      have hone := all_oneCell_toArray (Us32_one (exp32 48 l ++ List.replicate 16 0))
      have HCELL := Lib.hid hcell
      have HSZ := Lib.hid hsz
      have HRES := Lib.hid hres
      have HOLD := Lib.hid hold
      have HONE := Lib.hid hone
      have HST := Lib.hid (st32b l w)
      clear hfin hcell hlen80 hsz hres hold hone hlen
      go_wp2_with (first
        | (refine wpList_load_row rfl 99 (.tmp 3) rfl (w.heap.size + 1 + 1) rfl 99 _ (0, 0) _ HCELL.out Tryd.underlying99 rfl HSZ.out ?_)
        | (refine wpList_store_row rfl 99 (.tmp 2) (.tmp 36) rfl (w.heap.size + 1) _ rfl rfl 99 _ HRES.out HSZ.out HOLD.out HONE.out ?_))
      have hgot := setRow_heap w3 (w.heap.size + 1) _ (Us32 (exp32 48 l ++ List.replicate 16 0)).toArray _ _ HRES.out
      refine bodyPost_ret (results_cell_row (by rfl) _ _ (w.heap.size + 1) _ _ _ _ (by rfl) hgot Tryd.underlying99 rfl HSZ.out) rfl ?_
      exact ⟨rfl, below_setRow (HST.out.trans (HB.out.mono (by omega))) (by omega) _⟩

end Go.Proofs.YtcdfbcpcgkcojaaDoor
