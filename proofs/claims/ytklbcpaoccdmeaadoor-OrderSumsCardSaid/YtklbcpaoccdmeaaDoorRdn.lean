/- order.read: the number of at most 64 bytes. -/
import Derived.Test.YtklbcpaoccdmeaaDoorArr
import Derived.Test.YtklbcpaoccdmeaaDoorRows
import Derived.Laws.BitsAllLaws
import Derived.Deep.QuietTactic
import Derived.BigQuiet
import Derived.Deep.CutRange
import Derived.Deep.CutBlock
import Derived.RegionTactic
import Derived.Lib.Hide
import Derived.IntWalk
namespace Go.Proofs.YtklbcpaoccdmeaaDoor
set_option maxRecDepth 100000
open Go.RowKit

theorem byte_or (x c j : Nat) (hx : x < 18446744073709551616) (hc : c < 256) (hj : j < 8) : bits .or .u64 (x : Int) (IntKind.u64.wrap ((c : Int) * 2 ^ (8 * j))) = ((x ||| c * 2 ^ (8 * j) : Nat) : Int) := by
  have h7 : 2 ^ (8 * j) ≤ 2 ^ 56 := Nat.pow_le_pow_right (by decide) (by omega)
  have h1 : (c + 1) * 2 ^ (8 * j) ≤ 256 * 2 ^ 56 := Nat.mul_le_mul hc h7
  have h3 : (c + 1) * 2 ^ (8 * j) = c * 2 ^ (8 * j) + 2 ^ (8 * j) := by rw [Nat.add_mul, Nat.one_mul]
  have h4 : 0 < 2 ^ (8 * j) := Nat.two_pow_pos _
  rw [h3] at h1
  have e : (c : Int) * 2 ^ (8 * j) = ((c * 2 ^ (8 * j) : Nat) : Int) := by simp
  rw [e]
  generalize c * 2 ^ (8 * j) = y at *
  generalize 2 ^ (8 * j) = z at *
  have h2 : y < 18446744073709551616 := by omega
  rw [IntKind.wrap_u64, show ((y : Nat) : Int) % 18446744073709551616 = ((y : Nat) : Int) by omega, u64_or_nat _ _ hx h2]

/-- The number of the first bytes. -/
def pre (xs : List Nat) (k : Nat) : Nat := lev (xs.take k)
theorem pre_lt {xs : List Nat} (h : ∀ c ∈ xs, c < 256) {k : Nat} (hk : k ≤ xs.length) : pre xs k < 256 ^ k := by
  have := lev_lt (l := xs.take k) (fun c hc => h c (List.mem_of_mem_take hc))
  rwa [List.length_take, Nat.min_eq_left hk] at this
theorem pre_succ (xs : List Nat) {k : Nat} (hk : k < xs.length) : pre xs (k + 1) = pre xs k + xs.getD k 0 * 256 ^ k := by
  unfold pre
  rw [List.take_add_one, List.getD, List.getElem?_eq_getElem hk, Option.toList_some, lev_append, List.length_take, Nat.min_eq_left (by omega)]
  simp [lev, Nat.mul_comm]
theorem pre_set (xs : List Nat) (h : ∀ c ∈ xs, c < 256) {k : Nat} (hk : k < xs.length) (_ : k < 64) :
    (Nm (pre xs k)).set (k / 8) (.int .u64 ((wd (pre xs k) (k / 8) ||| xs.getD k 0 * 2 ^ (8 * (k % 8)) : Nat) : Int)) = Nm (pre xs (k + 1)) := by
  have hc : xs.getD k 0 < 256 := by rw [List.getD, List.getElem?_eq_getElem hk]; exact h _ (List.getElem_mem _)
  refine Nm_ext _ (by rw [List.length_set, Nm_length]) fun j hj => ?_
  rw [pre_succ xs hk, wd_byte (pre_lt h (by omega)) hc, List.getElem?_set]
  by_cases e : j = k / 8
  · subst e; rw [if_pos rfl, if_pos rfl, if_pos (by rw [Nm_length]; exact hj)]
  · rw [if_neg (fun h => e h.symm), if_neg e, Nm_get _ hj]

set_option maxHeartbeats 800000 in
theorem read_any (xs : List Nat) (a : Option Addr) (n cap : Nat) (F : Nat → Prop) (w : World) (hx : ∀ x ∈ xs, x < 256) (hn : n ≤ 64) (hr : Rd w F a n (xs.map fun x => .int .u8 ((x : Nat) : Int))) :
    Calls Tryd.prog 17 #[.slice a n cap] w fun e w' => e = .returned (.agg (Nm (lev xs)).toArray) ∧ Below w.heap.size w w' := by
  have hl : xs.length = n := by have := hr.1; simpa using this
  have HX := Lib.hid hx
  have HR := Lib.hid hr
  have HL := Lib.hid hl
  clear hx hr hl
  go_enter Tryd.func17, Tryd.ntmps17
  go_wp2_with fail
  go_loopw [8] (fun i wr => ∃ k : Nat, k ≤ n ∧ i = .int .i64 k ∧ Row wr (w.heap.size + 1) 36 (Nm (pre xs k)) ∧ Row wr w.heap.size 36 (Nm 0) ∧ Below w.heap.size w wr) (fun i _ => n - (intOf i).toNat)
  case atStart =>
    refine ⟨0, Nat.zero_le _, rfl, ?_, ?_, ?_⟩
    · show Row _ _ _ (Nm 0)
      rw [Nm_zero]
      exact heap_alloc2_new _ _ _
    · rw [Nm_zero]
      exact (Row.new w _ _).alloc _
    · exact ((Below.refl _ _).alloc (Nat.le_refl _) _).alloc (by simp) _
  case round =>
    obtain ⟨k, hkn, rfl, hrow, hres, hbe⟩ := hrel
    by_cases hlt : k < n
    · obtain ⟨ad, e, hF, hB, hC⟩ := HR.out.2 (by omega)
      have hlen : k < xs.length := by rw [HL.out]; exact hlt
      have hc := hC k (.int .u8 ((xs.getD k 0 : Nat) : Int)) (by rw [List.getElem?_map, List.getD, List.getElem?_eq_getElem hlen]; rfl)
      have hc2 := (hbe.cell (p := ad.add k) (by rw [add_block]; exact hB)).trans hc
      have h256 : xs.getD k 0 < 256 := by rw [List.getD, List.getElem?_eq_getElem hlen]; exact HX.out _ (List.getElem_mem _)
      have hcell := hrow.cell (Nm_get (pre xs k) (k := k / 8) (by omega))
      have hfree := hrow.free (k / 8)
      have hset := fun x => hrow.set (k / 8) (.int .u64 x)
      have hstep := pre_set xs HX.out hlen (by omega)
      have hwl := wd_lt (pre xs k) (k / 8)
      have hres2 := fun x => hres.setCell (p := ⟨w.heap.size + 1, k / 8, none⟩) (by simp) (.int .u64 x)
      have hb2 := fun x => hbe.setCell (p := ⟨w.heap.size + 1, k / 8, none⟩) (by simp) (.int .u64 x)
      have hor := byte_or (wd (pre xs k) (k / 8)) (xs.getD k 0) (k % 8) hwl h256 (by omega)
      have hi8 : k / 8 < 8 := by omega
      have hj8 : k % 8 < 8 := by omega
      have hd : Int.tdiv (k : Int) 8 = ((k / 8 : Nat) : Int) := by rw [Int.tdiv_eq_ediv_of_nonneg (by omega)]; omega
      have hm : Int.tmod (k : Int) 8 = ((k % 8 : Nat) : Int) := by rw [Int.tmod_eq_emod_of_nonneg (by omega)]; omega
      have hw1 : IntKind.i64.wrap ((k / 8 : Nat) : Int) = ((k / 8 : Nat) : Int) := IntWalk.i64_in _ (by omega)
      have hw2 : IntKind.i64.wrap (8 * ((k % 8 : Nat) : Int)) = 8 * ((k % 8 : Nat) : Int) := IntWalk.i64_in _ (by omega)
      generalize wd (pre xs k) (k / 8) = x at *
      generalize xs.getD k 0 = c at *
      generalize k / 8 = i at *
      generalize k % 8 = j at *
      have b0 : (0 : Int) ≤ (i : Int) := by omega
      have b1 : (i : Int) < 8 := by omega
      have b2 : (0 : Int) ≤ 8 * (j : Int) := by omega
      have b3 : 8 * (j : Int) < 64 := by omega
      have HSTEP := Lib.hid hstep
      have HSET := Lib.hid hset
      have HRES2 := Lib.hid hres2
      have HB2 := Lib.hid hb2
      have HOR := Lib.hid hor
      subst e
      clear hrow hres hbe hC hc hF hB hlen hstep hset hres2 hb2 hor
      go_wp2_with fail
      go_region
      rw [HOR.out]
      have hrow2 : Row (wr.setCell { block := w.heap.size + 1, off := i } (Value.int .u64 ((x ||| c * 2 ^ (8 * j) : Nat) : Int))).drew (w.heap.size + 1) 36 (Nm (pre xs (k + 1))) := by
        have := HSET.out ((x ||| c * 2 ^ (8 * j) : Nat) : Int)
        rw [HSTEP.out] at this
        exact this
      have hres3 : Row (wr.setCell { block := w.heap.size + 1, off := i } (Value.int .u64 ((x ||| c * 2 ^ (8 * j) : Nat) : Int))).drew w.heap.size 36 (Nm 0) := HRES2.out _
      have hbe3 : Below w.heap.size w (wr.setCell { block := w.heap.size + 1, off := i } (Value.int .u64 ((x ||| c * 2 ^ (8 * j) : Nat) : Int))).drew := (HB2.out _).drew
      generalize (wr.setCell { block := w.heap.size + 1, off := i } (Value.int .u64 ((x ||| c * 2 ^ (8 * j) : Nat) : Int))).drew = w2 at *
      have HROW := Lib.hid hrow2
      have HRES := Lib.hid hres3
      have HBE := Lib.hid hbe3
      clear hrow2 hres3 hbe3 hd hw1 hm hw2 hc2 hcell hfree
      go_wp2_with fail
      go_roundw
      case rel => exact ⟨k + 1, by omega, by go_num, HROW.out, HRES.out, HBE.out⟩
      case measure => simp [intOf]; omega
    · obtain rfl : k = n := by omega
      have hall : pre xs k = lev xs := by unfold pre; rw [List.take_of_length_le (by rw [HL.out]; exact Nat.le_refl _)]
      rw [hall] at hrow
      have hS : (Tryd.prog.info? 36).map (·.size) = some (Nm (lev xs)).toArray.size := by rw [Nm_size]; kernel_rfl
      have hO : (Nm 0).toArray.size = (Nm (lev xs)).toArray.size := rfl
      have HROW := Lib.hid hrow
      have HRES := Lib.hid hres
      have HBE := Lib.hid hbe
      have HS4 := Lib.hid hS
      have HO4 := Lib.hid hO
      clear hrow hres hbe hS hO hall
      go_wp2_with (first
        | (refine wpList_load_row rfl 36 (.tmp 3) rfl (w.heap.size + 1) rfl 36 _ (0, 0) _ HROW.out Tryd.underlying36 rfl HS4.out ?_)
        | (refine wpList_store_row rfl 36 (.tmp 2) (.tmp 26) rfl w.heap.size _ rfl rfl 36 _ HRES.out HS4.out HO4.out (Nm_one _) ?_))
      have hgot := setRow_heap wr w.heap.size _ (Nm (lev xs)).toArray _ _ HRES.out
      refine bodyPost_ret (results_cell_row (by rfl) _ _ w.heap.size _ _ _ _ (by rfl) hgot Tryd.underlying36 rfl HS4.out) rfl ?_
      exact ⟨rfl, below_setRow HBE.out (Nat.le_refl _) _⟩

end Go.Proofs.YtklbcpaoccdmeaaDoor
