import Derived.Deep.LoopGhost
import Derived.Deep.RegionHeld3
import Derived.Test.YtnpjecdodhkplaaGreatDoorSC
namespace Go.Proofs.YtnpjecdodhkplaaGreatDoor
set_option maxRecDepth 100000
set_option linter.unusedSimpArgs false
open Go.RowKit
open List renaming setIfInBounds_toArray → yA, set_cons_zero → yB, set_cons_succ → yC
open Lib renaming hid → yH
def wds (N : Nat) : List Nat := [wd N 0, wd N 1, wd N 2, wd N 3, wd N 4, wd N 5, wd N 6, wd N 7]
def Nm (N : Nat) : List Value := (wds N).map fun x => .int .u64 ((x : Nat) : Int)
theorem Nm_length (N : Nat) : (Nm N).length = 8 := rfl
theorem Nm_size (N : Nat) : (Nm N).toArray.size = 8 := rfl
theorem Nm_get (N : Nat) {k : Nat} (hk : k < 8) : (Nm N)[k]? = some (.int .u64 ((wd N k : Nat) : Int)) :=
 match k, hk with
 | 0, _ => rfl
 | 1, _ => rfl
 | 2, _ => rfl
 | 3, _ => rfl
 | 4, _ => rfl
 | 5, _ => rfl
 | 6, _ => rfl
 | 7, _ => rfl
 | _ + 8, h => by omega
theorem Nm_ext {l : List Value} (N : Nat) (hl : l.length = 8) (h : ∀ k, k < 8 → l[k]? = some (.int .u64 ((wd N k : Nat) : Int))) : l = Nm N := by
 refine List.ext_getElem? fun k => ?_
 by_cases hk : k < 8
 ·rw [h k hk, Nm_get N hk]
 ·rw [List.getElem?_eq_none (by omega), List.getElem?_eq_none (by rw [Nm_length]; omega)]
theorem Nm_one (N : Nat) : (Nm N).toArray.all (·.oneCell') = true := by
 rw [List.all_toArray, List.all_eq_true]
 intro v hv
 simp only [Nm, List.mem_map] at hv
 obtain ⟨i, _, rfl⟩ := hv
 rfl
theorem Nm_zero : Nm 0 = [.int .u64 0, .int .u64 0, .int .u64 0, .int .u64 0, .int .u64 0, .int .u64 0, .int .u64 0, .int .u64 0] := by
 have : ∀ k, wd 0 k = 0 := fun k => by unfold wd; rw [Nat.zero_div]
 simp [Nm, wds, this]
theorem Nm_set (V : Nat) {k x : Nat} (hk : k < 8) (hx : x < 18446744073709551616) : (Nm V).set k (.int .u64 ((x : Nat) : Int)) = Nm (putw V k x) := by
 refine Nm_ext _ (by rw [List.length_set, Nm_length]) fun j hj => ?_
 rw [wd_putw _ _ _ _ hx, List.getElem?_set]
 by_cases h : j = k
 ·subst h; rw [if_pos rfl, if_pos rfl, if_pos (by rw [Nm_length]; exact hj)]
 ·rw [if_neg (fun e => h e.symm), if_neg h, Nm_get V hj]
theorem wd_mod (N k j : Nat) : wd (N % M64 k) j = if j < k then wd N j else 0 := by
 by_cases h : j < k
 ·rw [if_pos h]
  have e := Nat.mod_add_div N (M64 k)
  conv => rhs; rw [← e, Nat.mul_comm]
  rw [wd_add_high _ _ _ _ h]
 ·rw [if_neg h]
  exact wd_of_lt' (Nat.mod_lt _ (M64_pos k)) (by omega)
theorem Nm_next (S : Nat) {k : Nat} (hk : k < 8) : (Nm (S % M64 k)).set k (.int .u64 ((wd S k : Nat) : Int)) = Nm (S % M64 (k + 1)) := by
 refine Nm_ext _ (by rw [List.length_set, Nm_length]) fun j hj => ?_
 rw [wd_mod, List.getElem?_set]
 by_cases h : j = k
 ·subst h; rw [if_pos rfl, if_pos (by rw [Nm_length]; exact hj), if_pos (by omega)]
 ·rw [if_neg (fun e => h e.symm), Nm_get _ hj, wd_mod]
  by_cases h2 : j < k
  ·rw [if_pos h2, if_pos (by omega)]
  ·rw [if_neg h2, if_neg (by omega)]
theorem Nm_whole (N : Nat) : Nm (N % M64 8) = Nm N := by
 refine Nm_ext _ rfl fun k hk => ?_
 rw [Nm_get _ hk, wd_mod, if_pos hk]
theorem sub64n (x y b d o : Nat) (hb : b ≤ 1) (hd : d = (x + 18446744073709551616 - y - b) % 18446744073709551616) (ho : o = if x < y + b then 1 else 0) (w : World) : (callFunc 112 #[.int .u64 (x : Int), .int .u64 (y : Int), .int .u64 (b : Int)]).run Tryz.prog w =
  .ok (.value (.tuple #[.int .u64 (d : Int), .int .u64 (o : Int)])) w := by
 subst hd ho
 rw [run_callFunc_extern Tryz.func112 (by kernel_rfl) (by kernel_rfl) (by kernel_rfl) (e := sub64Entry) (by kernel_rfl), run_sub64 x y b hb]
 rfl
theorem nm_info (N : Nat) : (Tryz.prog.info? 103).map (·.size) = some (Nm N).toArray.size := by rw [Nm_size]; kernel_rfl
theorem byte_or (x c j : Nat) (hx : x < 18446744073709551616) (hc : c < 256) (hj : j < 8) : bits .or .u64 (x : Int) (IntKind.u64.wrap ((c : Int) * 2 ^ (8 * j))) = ((x ||| c * 2 ^ (8 * j) : Nat) : Int) := by
 have h7 : 2 ^ (8 * j) ≤ 2 ^ 56 := Nat.pow_le_pow_right (by decide) (by omega)
 have h1 : (c + 1) * 2 ^ (8 * j) ≤ 256 * 2 ^ 56 := Nat.mul_le_mul hc h7
 have h3 : (c + 1) * 2 ^ (8 * j) = c * 2 ^ (8 * j) + 2 ^ (8 * j) := by rw [Nat.add_mul, Nat.one_mul]
 have h4 : 0 < 2 ^ (8 * j) := Nat.two_pow_pos _
 rw [h3] at h1
 have e : (c : Int) * 2 ^ (8 * j) = ((c * 2 ^ (8 * j) : Nat) : Int) := by simp
 rw [e]
 generalize c * 2 ^ (8 * j) = y at *
 generalize 2 ^ (8 * j) = z at *
 have h2 : y < 18446744073709551616 := by omega
 rw [IntKind.wrap_u64, show ((y : Nat) : Int) % 18446744073709551616 = ((y : Nat) : Int) by omega, u64_or_nat _ _ hx h2]
def pre (xs : List Nat) (k : Nat) : Nat := lev (xs.take k)
theorem pre_lt {xs : List Nat} (h : ∀ c ∈ xs, c < 256) {k : Nat} (hk : k ≤ xs.length) : pre xs k < 256 ^ k := by
 have := lev_lt (l := xs.take k) (fun c hc => h c (List.mem_of_mem_take hc))
 rwa [List.length_take, Nat.min_eq_left hk] at this
theorem pre_succ (xs : List Nat) {k : Nat} (hk : k < xs.length) : pre xs (k + 1) = pre xs k + xs.getD k 0 * 256 ^ k := by
 unfold pre
 rw [List.take_add_one, List.getD, List.getElem?_eq_getElem hk, Option.toList_some, lev_append, List.length_take, Nat.min_eq_left (by omega)]
 simp [lev, Nat.mul_comm]
theorem pre_set (xs : List Nat) (h : ∀ c ∈ xs, c < 256) {k : Nat} (hk : k < xs.length) (_ : k < 64) :
  (Nm (pre xs k)).set (k / 8) (.int .u64 ((wd (pre xs k) (k / 8) ||| xs.getD k 0 * 2 ^ (8 * (k % 8)) : Nat) : Int)) = Nm (pre xs (k + 1)) := by
 have hc : xs.getD k 0 < 256 := by rw [List.getD, List.getElem?_eq_getElem hk]; exact h _ (List.getElem_mem _)
 refine Nm_ext _ (by rw [List.length_set, Nm_length]) fun j hj => ?_
 rw [pre_succ xs hk, wd_byte (pre_lt h (by omega)) hc, List.getElem?_set]
 by_cases e : j = k / 8
 ·subst e; rw [if_pos rfl, if_pos rfl, if_pos (by rw [Nm_length]; exact hj)]
 ·rw [if_neg (fun h => e h.symm), if_neg e, Nm_get _ hj]
set_option maxHeartbeats 800000 in
theorem read_any (xs : List Nat) (a : Option Addr) (n cap : Nat) (F : Nat → Prop) (w : World) (hx : ∀ x ∈ xs, x < 256) (hn : n ≤ 64) (hr : Rd w F a n (xs.map fun x => .int .u8 ((x : Nat) : Int))) :
  Calls Tryz.prog 64 #[.slice a n cap] w fun e w' => e = .returned (.agg (Nm (lev xs)).toArray) ∧ Below w.heap.size w w' := by
 have hl : xs.length = n := by have := hr.1; simpa using this
 have HX := yH hx
 have HR := yH hr
 have HL := yH hl
 clear hx hr hl
 go_enter Tryz.func64, Tryz.ntmps64
 go_wp2_with fail
 go_loopw [8] (fun i wr => ∃ k : Nat, k ≤ n ∧ i = .int .i64 k ∧ Row wr (w.heap.size + 1) 103 (Nm (pre xs k)) ∧ Row wr w.heap.size 103 (Nm 0) ∧ Below w.heap.size w wr) (fun i _ => n - (intOf i).toNat)
 case atStart =>
  refine ⟨0, Nat.zero_le _, rfl, ?_, ?_, ?_⟩
  ·show Row _ _ _ (Nm 0)
   rw [Nm_zero]
   exact heap_alloc2_new _ _ _
  ·rw [Nm_zero]
   exact (Row.new w _ _).alloc _
  ·exact ((Below.refl _ _).alloc (Nat.le_refl _) _).alloc (by simp) _
 case round =>
  obtain ⟨k, hkn, rfl, hrow, hres, hbe⟩ := hrel
  by_cases hlt : k < n
  ·obtain ⟨ad, e, hF, hB, hC⟩ := HR.out.2 (by omega)
   have hlen : k < xs.length := by rw [HL.out]; exact hlt
   have hc := hC k (.int .u8 ((xs.getD k 0 : Nat) : Int)) (by rw [List.getElem?_map, List.getD, List.getElem?_eq_getElem hlen]; rfl)
   have hc2 := (hbe.cell (p := ad.add k) (by rw [add_block]; exact hB)).trans hc
   have h256 : xs.getD k 0 < 256 := by rw [List.getD, List.getElem?_eq_getElem hlen]; exact HX.out _ (List.getElem_mem _)
   have hcell := hrow.cell (Nm_get (pre xs k) (k := k / 8) (by omega))
   have hfree := hrow.free (k / 8)
   have hset := fun x => hrow.set (k / 8) (.int .u64 x)
   have hstep := pre_set xs HX.out hlen (by omega)
   have hwl := wd_lt (pre xs k) (k / 8)
   have hres2 := fun x => hres.setCell (p := ⟨w.heap.size + 1, k / 8, none⟩) (by simp) (.int .u64 x)
   have hb2 := fun x => hbe.setCell (p := ⟨w.heap.size + 1, k / 8, none⟩) (by simp) (.int .u64 x)
   have hor := byte_or (wd (pre xs k) (k / 8)) (xs.getD k 0) (k % 8) hwl h256 (by omega)
   have hi8 : k / 8 < 8 := by omega
   have hj8 : k % 8 < 8 := by omega
   have hd : Int.tdiv (k : Int) 8 = ((k / 8 : Nat) : Int) := by rw [Int.tdiv_eq_ediv_of_nonneg (by omega)]; omega
   have hm : Int.tmod (k : Int) 8 = ((k % 8 : Nat) : Int) := by rw [Int.tmod_eq_emod_of_nonneg (by omega)]; omega
   have hw1 : IntKind.i64.wrap ((k / 8 : Nat) : Int) = ((k / 8 : Nat) : Int) := IntWalk.i64_in _ (by omega)
   have hw2 : IntKind.i64.wrap (8 * ((k % 8 : Nat) : Int)) = 8 * ((k % 8 : Nat) : Int) := IntWalk.i64_in _ (by omega)
   generalize wd (pre xs k) (k / 8) = x at *
   generalize xs.getD k 0 = c at *
   generalize k / 8 = i at *
   generalize k % 8 = j at *
   have b0 : (0 : Int) ≤ (i : Int) := by omega
   have b1 : (i : Int) < 8 := by omega
   have b2 : (0 : Int) ≤ 8 * (j : Int) := by omega
   have b3 : 8 * (j : Int) < 64 := by omega
   have HSTEP := yH hstep
   have HSET := yH hset
   have HRES2 := yH hres2
   have HB2 := yH hb2
   have HOR := yH hor
   subst e
   clear hrow hres hbe hC hc hF hB hlen hstep hset hres2 hb2 hor
   go_wp2_with fail
   go_region
   rw [HOR.out]
   have hrow2 : Row (wr.setCell { block := w.heap.size + 1, off := i } (Value.int .u64 ((x ||| c * 2 ^ (8 * j) : Nat) : Int))).drew (w.heap.size + 1) 103 (Nm (pre xs (k + 1))) := by
    have := HSET.out ((x ||| c * 2 ^ (8 * j) : Nat) : Int)
    rw [HSTEP.out] at this
    exact this
   have hres3 : Row (wr.setCell { block := w.heap.size + 1, off := i } (Value.int .u64 ((x ||| c * 2 ^ (8 * j) : Nat) : Int))).drew w.heap.size 103 (Nm 0) := HRES2.out _
   have hbe3 : Below w.heap.size w (wr.setCell { block := w.heap.size + 1, off := i } (Value.int .u64 ((x ||| c * 2 ^ (8 * j) : Nat) : Int))).drew := (HB2.out _).drew
   generalize (wr.setCell { block := w.heap.size + 1, off := i } (Value.int .u64 ((x ||| c * 2 ^ (8 * j) : Nat) : Int))).drew = w2 at *
   have HROW := yH hrow2
   have HRES := yH hres3
   have HBE := yH hbe3
   clear hrow2 hres3 hbe3 hd hw1 hm hw2 hc2 hcell hfree
   go_wp2_with fail
   go_roundw
   case rel => exact ⟨k + 1, by omega, by go_num, HROW.out, HRES.out, HBE.out⟩
   case measure => simp [intOf]; omega
  ·obtain rfl : k = n := by omega
   have hall : pre xs k = lev xs := by unfold pre; rw [List.take_of_length_le (by rw [HL.out]; exact Nat.le_refl _)]
   rw [hall] at hrow
   have hS : (Tryz.prog.info? 103).map (·.size) = some (Nm (lev xs)).toArray.size := by rw [Nm_size]; kernel_rfl
   have hO : (Nm 0).toArray.size = (Nm (lev xs)).toArray.size := rfl
   have HROW := yH hrow
   have HRES := yH hres
   have HBE := yH hbe
   have HS4 := yH hS
   have HO4 := yH hO
   clear hrow hres hbe hS hO hall
   go_wp2_with (first
    | (refine wpList_load_row rfl 103 (.tmp 3) rfl (w.heap.size + 1) rfl 103 _ (0, 0) _ HROW.out Tryz.underlying103 rfl HS4.out ?_)
    | (refine wpList_store_row rfl 103 (.tmp 2) (.tmp 26) rfl w.heap.size _ rfl rfl 103 _ HRES.out HS4.out HO4.out (Nm_one _) ?_))
   have hgot := setRow_heap wr w.heap.size _ (Nm (lev xs)).toArray _ _ HRES.out
   refine bodyPost_ret (results_cell_row (by rfl) _ _ w.heap.size _ _ _ _ (by rfl) hgot Tryz.underlying103 rfl HS4.out) rfl ?_
   exact ⟨rfl, below_setRow HBE.out (Nat.le_refl _) _⟩
theorem byt_run (N k : Nat) : IntKind.u8.wrap (((wd N (k / 8) : Nat) : Int) / 2 ^ (8 * (k % 8))) = ((byt N k : Nat) : Int) := by
 rw [← wd_byt]
 have e : ((wd N (k / 8) : Nat) : Int) / 2 ^ (8 * (k % 8)) = ((wd N (k / 8) / 2 ^ (8 * (k % 8)) : Nat) : Int) := by simp
 rw [e]
 generalize wd N (k / 8) / 2 ^ (8 * (k % 8)) = y
 show IntKind.u8.wrap (y : Int) = _
 rw [IntKind.wrap_u8]
 omega
set_option maxHeartbeats 800000 in
theorem obytes_any (N : Nat) (w : World) :
  Calls Tryz.prog 68 #[.agg (Nm N).toArray] w fun e w' => e = .returned (.agg (By N 32).toArray) ∧ Below w.heap.size w w' := by
 go_enter Tryz.func68, Tryz.ntmps68
 go_wp2_with fail
 go_loopw [5] (fun i wr => ∃ k : Nat, k ≤ 32 ∧ i = .int .i64 k ∧ Row wr w.heap.size 103 (Nm N) ∧ Row wr (w.heap.size + 1 + 1) 22 (Tab .u8 (byt N) 32 k) ∧ Row wr (w.heap.size + 1) 22 (Tab .u8 (byt N) 32 0) ∧ Below w.heap.size w wr) (fun i _ => 32 - (intOf i).toNat)
 case atStart =>
  refine ⟨0, Nat.zero_le _, rfl, ((Row.new w _ _).alloc _).alloc _, ?_, ?_, Below.alloc3 _ _ _ _⟩
  ·rw [Tab_zero]
   exact Row.new2 w _ _ (List.replicate 32 (.int .u8 0)) _
  ·rw [Tab_zero]
   exact (Row.new1 w _ (List.replicate 32 (.int .u8 0)) _).alloc _
 case round =>
  obtain ⟨k, hkn, rfl, hn, hrow, hres, hbe⟩ := hrel
  by_cases hlt : k < 32
  ·have hcell := hn.cell (Nm_get N (k := k / 8) (by omega))
   have hfree := hrow.free k
   have hold := hrow.cell (Tab_get .u8 (byt N) 32 k hlt)
   have hset := hrow.set k (.int .u8 ((byt N k : Nat) : Int))
   rw [By_set N 32 hlt] at hset
   have hn2 := hn.setCell (p := ⟨w.heap.size + 1 + 1, k, none⟩) (by simp; omega) (.int .u8 ((byt N k : Nat) : Int))
   have hres2 := hres.setCell (p := ⟨w.heap.size + 1 + 1, k, none⟩) (by simp) (.int .u8 ((byt N k : Nat) : Int))
   have hb2 := hbe.setCell (p := ⟨w.heap.size + 1 + 1, k, none⟩) (by simp; omega) (.int .u8 ((byt N k : Nat) : Int))
   have hrun := byt_run N k
   have hd : (k : Int) / 8 = ((k / 8 : Nat) : Int) := by omega
   have hm : (k : Int) % 8 = ((k % 8 : Nat) : Int) := by omega
   have hi8 : k / 8 < 8 := by omega
   have hj8 : k % 8 < 8 := by omega
   generalize wd N (k / 8) = x at *
   generalize byt N k = y at *
   generalize k / 8 = i at *
   generalize k % 8 = j at *
   have b0 : (0 : Int) ≤ (i : Int) := by omega
   have b1 : (i : Int) < 8 := by omega
   have b2 : (0 : Int) ≤ 8 * (j : Int) := by omega
   have b3 : 8 * (j : Int) < 64 := by omega
   have HSET := yH hset
   have HN2 := yH hn2
   have HRES2 := yH hres2
   have HB2 := yH hb2
   clear hn hrow hres hbe hset hn2 hres2 hb2
   go_wp2_with fail
   go_roundw
   case rel => exact ⟨k + 1, by omega, by go_num, HN2.out, HSET.out, HRES2.out, HB2.out⟩
   case measure => simp [intOf]; omega
  ·obtain rfl : k = 32 := by omega
   rw [Tab_done] at hrow
   rw [Tab_zero] at hres
   have hS := by_info N
   have hO : (List.replicate 32 (Value.int .u8 0)).toArray.size = (By N 32).toArray.size := by rw [List.size_toArray, List.size_toArray, By_length, List.length_replicate]
   have hrow2 : Row wr (w.heap.size + 1 + 1) 22 (By N 32) := hrow
   have HROW := yH hrow2
   have HRES := yH hres
   have HBE := yH hbe
   have HS4 := yH hS
   have HO4 := yH hO
   clear hrow hrow2 hres hbe hS hO hn
   go_wp2_with (first
    | (refine wpList_load_row rfl 22 (.tmp 3) rfl (w.heap.size + 1 + 1) rfl 22 _ (0, 0) _ HROW.out Tryz.underlying22 rfl HS4.out ?_)
    | (refine wpList_store_row rfl 22 (.tmp 2) (.tmp 20) rfl (w.heap.size + 1) _ rfl rfl 22 _ HRES.out HS4.out HO4.out (By_one _ _) ?_))
   have hgot := setRow_heap wr (w.heap.size + 1) _ (By N 32).toArray _ _ HRES.out
   refine bodyPost_ret (results_cell_row (by rfl) _ _ (w.heap.size + 1) _ _ _ _ (by rfl) hgot Tryz.underlying22 rfl HS4.out) rfl ?_
   exact ⟨rfl, below_setRow HBE.out (by omega) _⟩
set_option maxHeartbeats 1600000 in
theorem oplus_any (N M : Nat) (w : World) :
  Calls Tryz.prog 66 #[.agg (Nm N).toArray, .agg (Nm M).toArray] w fun e w' => e = .returned (.agg (Nm (N + M)).toArray) ∧ Below w.heap.size w w' := by
 go_enter Tryz.func66, Tryz.ntmps66
 go_wp2_with fail
 go_loopw [6, 8] (fun o i wr => ∃ k : Nat, k ≤ 8 ∧ i = .int .i64 k ∧ o = .int .u64 ((cry N M k : Nat) : Int) ∧ Row wr w.heap.size 103 (Nm N) ∧ Row wr (w.heap.size + 1) 103 (Nm M) ∧ Row wr (w.heap.size + 1 + 1 + 1) 103 (Nm ((N + M) % M64 k)) ∧ Row wr (w.heap.size + 1 + 1) 103 (Nm 0) ∧ Below w.heap.size w wr) (fun _ i _ => 8 - (intOf i).toNat)
 case atStart =>
  refine ⟨0, Nat.zero_le _, rfl, ?_, (((Row.new w _ _).alloc _).alloc _).alloc _, ((Row.new1 w _ _ _).alloc _).alloc _, ?_, ?_, Below.alloc4 _ _ _ _ _⟩
  ·rw [cry_zero]; rfl
  ·have e : (N + M) % M64 0 = 0 := Nat.mod_one _
   rw [e, Nm_zero]
   exact Row.new3 w _ _ _ _ _
  ·rw [Nm_zero]
   exact (Row.new2 w _ _ _ _).alloc _
 case round =>
  obtain ⟨k, hkn, rfl, rfl, hn, hm, hrow, hres, hbe⟩ := hrel
  by_cases hlt : k < 8
  ·have hcn := hn.cell (Nm_get N hlt)
   have hcm := hm.cell (Nm_get M hlt)
   have hold := hrow.cell (Nm_get ((N + M) % M64 k) hlt)
   have hfree := hrow.free k
   have hset := hrow.set k (.int .u64 ((wd ((N + M)) k : Nat) : Int))
   rw [Nm_next ((N + M)) hlt] at hset
   have hn2 := hn.setCell (p := ⟨w.heap.size + 1 + 1 + 1, k, none⟩) (by show _ ≠ w.heap.size + 1 + 1 + 1; omega) (.int .u64 ((wd ((N + M)) k : Nat) : Int))
   have hm2 := hm.setCell (p := ⟨w.heap.size + 1 + 1 + 1, k, none⟩) (by show _ ≠ w.heap.size + 1 + 1 + 1; omega) (.int .u64 ((wd ((N + M)) k : Nat) : Int))
   have hres2 := hres.setCell (p := ⟨w.heap.size + 1 + 1 + 1, k, none⟩) (by show _ ≠ w.heap.size + 1 + 1 + 1; omega) (.int .u64 ((wd ((N + M)) k : Nat) : Int))
   have hb2 := hbe.setCell (p := ⟨w.heap.size + 1 + 1 + 1, k, none⟩) (by simp; omega) (.int .u64 ((wd ((N + M)) k : Nat) : Int))
   have hcall := add64n (wd N k) (wd M k) (cry N M k) (wd (N + M) k) (cry N M (k + 1)) (cry_le N M k) (sum_wd N M k) (cry_succ N M k)
   generalize wd ((N + M)) k = s at *
   generalize wd ((N + M) % M64 k) k = z at *
   generalize wd N k = x at *
   generalize wd M k = y at *
   generalize ho : cry N M (k + 1) = o at *
   have HO := yH ho
   clear ho
   generalize cry N M k = c at *
   have b0 : (0 : Int) ≤ (k : Int) := by omega
   have b1 : (k : Int) < 8 := by omega
   have HSET := yH hset
   have HN2 := yH hn2
   have HM2 := yH hm2
   have HRES2 := yH hres2
   have HB2 := yH hb2
   clear hn hm hrow hres hbe hset hn2 hm2 hres2 hb2
   go_wp2_with fail
   go_region
   go_wp2_with fail
   go_roundw
   case rel => exact ⟨k + 1, by omega, by go_num, by rw [HO.out], HN2.out, HM2.out, HSET.out, HRES2.out, HB2.out.drew⟩
   case measure => simp [intOf]; omega
  ·obtain rfl : k = 8 := by omega
   rw [Nm_whole] at hrow
   have hS := nm_info (N + M)
   have hO : (Nm 0).toArray.size = (Nm (N + M)).toArray.size := rfl
   have HROW := yH hrow
   have HRES := yH hres
   have HBE := yH hbe
   have HS4 := yH hS
   have HO4 := yH hO
   clear hrow hres hbe hS hO hn hm
   go_wp2_with (first
    | (refine wpList_load_row rfl 103 (.tmp 5) rfl (w.heap.size + 1 + 1 + 1) rfl 103 _ (0, 0) _ HROW.out Tryz.underlying103 rfl HS4.out ?_)
    | (refine wpList_store_row rfl 103 (.tmp 4) (.tmp 25) rfl (w.heap.size + 1 + 1) _ rfl rfl 103 _ HRES.out HS4.out HO4.out (Nm_one _) ?_))
   have hgot := setRow_heap wr (w.heap.size + 1 + 1) _ (Nm (N + M)).toArray _ _ HRES.out
   refine bodyPost_ret (results_cell_row (by rfl) _ _ (w.heap.size + 1 + 1) _ _ _ _ (by rfl) hgot Tryz.underlying103 rfl HS4.out) rfl ?_
   exact ⟨rfl, below_setRow HBE.out (by omega) _⟩
set_option maxHeartbeats 1600000 in
theorem minus_any (N M D : Nat) (hd : D + M = N + M64 8) (w : World) :
  Calls Tryz.prog 80 #[.agg (Nm N).toArray, .agg (Nm M).toArray] w fun e w' => e = .returned (.tuple #[.agg (Nm D).toArray, .bool (decide (N % M64 8 < M % M64 8))]) ∧ Below w.heap.size w w' := by
 have HD := yH hd
 go_enter Tryz.func80, Tryz.ntmps80
 go_wp2_with fail
 go_loopw [7, 9] (fun o i wr => ∃ k : Nat, k ≤ 8 ∧ i = .int .i64 k ∧ o = .int .u64 ((brw N M k : Nat) : Int) ∧ Row wr w.heap.size 103 (Nm N) ∧ Row wr (w.heap.size + 1) 103 (Nm M) ∧ Row wr (w.heap.size + 1 + 1 + 1) 103 (Nm (D % M64 k)) ∧ Row wr (w.heap.size + 1 + 1) 103 (Nm 0) ∧ Below w.heap.size w wr) (fun _ i _ => 8 - (intOf i).toNat)
 case atStart =>
  refine ⟨0, Nat.zero_le _, rfl, ?_, (((Row.new w _ _).alloc _).alloc _).alloc _, ((Row.new1 w _ _ _).alloc _).alloc _, ?_, ?_, Below.alloc4 _ _ _ _ _⟩
  ·rw [brw_zero]; rfl
  ·have e : D % M64 0 = 0 := Nat.mod_one _
   rw [e, Nm_zero]
   exact Row.new3 w _ _ _ _ _
  ·rw [Nm_zero]
   exact (Row.new2 w _ _ _ _).alloc _
 case round =>
  obtain ⟨k, hkn, rfl, rfl, hn, hm, hrow, hres, hbe⟩ := hrel
  by_cases hlt : k < 8
  ·have hcn := hn.cell (Nm_get N hlt)
   have hcm := hm.cell (Nm_get M hlt)
   have hold := hrow.cell (Nm_get (D % M64 k) hlt)
   have hfree := hrow.free k
   have hset := hrow.set k (.int .u64 ((wd (D) k : Nat) : Int))
   rw [Nm_next (D) hlt] at hset
   have hn2 := hn.setCell (p := ⟨w.heap.size + 1 + 1 + 1, k, none⟩) (by show _ ≠ w.heap.size + 1 + 1 + 1; omega) (.int .u64 ((wd (D) k : Nat) : Int))
   have hm2 := hm.setCell (p := ⟨w.heap.size + 1 + 1 + 1, k, none⟩) (by show _ ≠ w.heap.size + 1 + 1 + 1; omega) (.int .u64 ((wd (D) k : Nat) : Int))
   have hres2 := hres.setCell (p := ⟨w.heap.size + 1 + 1 + 1, k, none⟩) (by show _ ≠ w.heap.size + 1 + 1 + 1; omega) (.int .u64 ((wd (D) k : Nat) : Int))
   have hb2 := hbe.setCell (p := ⟨w.heap.size + 1 + 1 + 1, k, none⟩) (by simp; omega) (.int .u64 ((wd (D) k : Nat) : Int))
   have hcall := sub64n (wd N k) (wd M k) (brw N M k) (wd D k) (brw N M (k + 1)) (brw_le N M k) (dif_wd N M D k hd hlt) (brw_succ N M k)
   generalize wd (D) k = s at *
   generalize wd (D % M64 k) k = z at *
   generalize wd N k = x at *
   generalize wd M k = y at *
   generalize ho : brw N M (k + 1) = o at *
   have HO := yH ho
   clear ho
   generalize brw N M k = c at *
   have b0 : (0 : Int) ≤ (k : Int) := by omega
   have b1 : (k : Int) < 8 := by omega
   have HSET := yH hset
   have HN2 := yH hn2
   have HM2 := yH hm2
   have HRES2 := yH hres2
   have HB2 := yH hb2
   clear hn hm hrow hres hbe hset hn2 hm2 hres2 hb2
   go_wp2_with fail
   go_region
   go_wp2_with fail
   go_roundw
   case rel => exact ⟨k + 1, by omega, by go_num, by rw [HO.out], HN2.out, HM2.out, HSET.out, HRES2.out, HB2.out.drew⟩
   case measure => simp [intOf]; omega
  ·obtain rfl : k = 8 := by omega
   rw [Nm_whole] at hrow
   have hS := nm_info D
   have hO : (Nm 0).toArray.size = (Nm D).toArray.size := rfl
   have HROW := yH hrow
   have HRES := yH hres
   have HBE := yH hbe
   have HS4 := yH hS
   have HO4 := yH hO
   clear hrow hres hbe hS hO hn hm
   have hq : IntKind.u64.wrap 0 = 0 := rfl
   clear hq
   have hbq : ((((brw N M 8 : Nat) : Int) == 1) : Bool) = decide (N % M64 8 < M % M64 8) := by
    unfold brw
    by_cases h : N % M64 8 < M % M64 8
    ·rw [if_pos h, decide_eq_true h]; rfl
    ·rw [if_neg h, decide_eq_false h]; rfl
   generalize hbb : decide (N % M64 8 < M % M64 8) = b at *
   have HBB := yH hbb
   clear hbb
   generalize brw N M 8 = o at *
   go_wp2_with (first
    | (refine wpList_load_row rfl 103 (.tmp 6) rfl (w.heap.size + 1 + 1 + 1) rfl 103 _ (0, 0) _ HROW.out Tryz.underlying103 rfl HS4.out ?_)
    | (refine wpList_store_row rfl 103 (.tmp 4) (.tmp 26) rfl (w.heap.size + 1 + 1) _ rfl rfl 103 _ HRES.out HS4.out HO4.out (Nm_one _) ?_))
   have hgot := setRow_heap wr (w.heap.size + 1 + 1) _ (Nm D).toArray _ _ HRES.out
   refine bodyPost_ret (results_row_slot (by rfl) _ _ (w.heap.size + 1 + 1) _ _ _ _ (.bool b) (by rfl) hgot Tryz.underlying103 rfl HS4.out (by rfl)) rfl ?_
   exact ⟨by rw [HBB.out], below_setRow HBE.out (by omega) _⟩
theorem mid_step (a r q b t : Nat) : a * (r + q * b) * t = a * r * t + a * b * (q * t) := by
 have h : a * (q * b) * t = a * b * (q * t) := by rw [Nat.mul_comm q b, ← Nat.mul_assoc a b q, Nat.mul_assoc (a * b) q t]
 rw [Nat.mul_add, Nat.add_mul, h]
theorem mul_inner {N M V k j c s d : Nat} (hV : V < M64 (k + 4)) (hj : j < 4) (hs : s < 18446744073709551616) (hi : V + c * M64 (k + j) = N % M64 k * M + wd N k * (M % M64 j) * M64 k)
  (hst : s + d * 18446744073709551616 = wd N k * wd M j + wd V (k + j) + c) :
  putw V (k + j) s < M64 (k + 4) ∧ putw V (k + j) s + d * M64 (k + (j + 1)) = N % M64 k * M + wd N k * (M % M64 (j + 1)) * M64 k := by
 refine ⟨putw_lt hV (by omega) hs, ?_⟩
 have h1 := putw_add V (k + j) s
 have e : M64 (k + (j + 1)) = 18446744073709551616 * M64 (k + j) := by rw [← Nat.add_assoc, M64_succ, Nat.mul_comm]
 have e2 : M64 (k + j) = M64 j * M64 k := by rw [M64_add, Nat.mul_comm]
 rw [mod_succ, e]
 have h2 := congrArg (· * M64 (k + j)) hst
 simp only [Nat.add_mul] at h2
 generalize putw V (k + j) s = P at *
 generalize wd V (k + j) = v at *
 generalize wd N k = a at *
 generalize wd M j = b at *
 generalize M % M64 j = r at *
 generalize N % M64 k * M = X at *
 have e5 : a * (r + M64 j * b) * M64 k = a * r * M64 k + a * b * M64 (k + j) := by
  rw [e2]
  exact mid_step a r (M64 j) b (M64 k)
 rw [e5]
 have e4 : d * (18446744073709551616 * M64 (k + j)) = d * 18446744073709551616 * M64 (k + j) := by rw [Nat.mul_assoc]
 rw [e4]
 generalize a * b * M64 (k + j) = A at *
 generalize a * r * M64 k = B at *
 generalize d * 18446744073709551616 * M64 (k + j) = C at *
 generalize s * M64 (k + j) = D at *
 generalize v * M64 (k + j) = E at *
 generalize c * M64 (k + j) = F at *
 omega
theorem mul_outer {N M V k c : Nat} (hV : V < M64 (k + 4)) (hM : M < M64 4) (hi : V + c * M64 (k + 4) = N % M64 k * M + wd N k * (M % M64 4) * M64 k) :
  putw V (k + 4) c = N % M64 (k + 1) * M := by
 have h1 := putw_add V (k + 4) c
 rw [wd_of_lt hV, Nat.zero_mul, Nat.add_zero] at h1
 rw [h1, hi, Nat.mod_eq_of_lt hM, mod_succ, Nat.add_mul]
 rw [show wd N k * M * M64 k = M64 k * wd N k * M by rw [Nat.mul_comm (wd N k * M), Nat.mul_assoc]]
theorem mul_lt {N M k : Nat} (hM : M < M64 4) : N % M64 k * M < M64 (k + 4) := by
 rw [M64_add]
 have h := Nat.mod_lt N (M64_pos k)
 calc N % M64 k * M ≤ N % M64 k * M64 4 := Nat.mul_le_mul_left _ (Nat.le_of_lt hM)
  _ < M64 k * M64 4 := (Nat.mul_lt_mul_right (M64_pos 4)).2 h
set_option maxHeartbeats 3200000 in
theorem times_any (N M : Nat) (hN : N < M64 4) (hM : M < M64 4) (w : World) :
  Calls Tryz.prog 65 #[.agg (Nm N).toArray, .agg (Nm M).toArray] w fun e w' => e = .returned (.agg (Nm (N * M)).toArray) ∧ Below w.heap.size w w' := by
 have HM := yH hM
 have HN := yH hN
 clear hN hM
 go_enter Tryz.func65, Tryz.ntmps65
 go_wp2_with fail
 go_loopw [12] (fun i wr => ∃ k : Nat, k ≤ 4 ∧ i = .int .i64 k ∧ Row wr w.heap.size 103 (Nm N) ∧ Row wr (w.heap.size + 1) 103 (Nm M) ∧ Row wr (w.heap.size + 1 + 1 + 1) 103 (Nm (N % M64 k * M)) ∧ Row wr (w.heap.size + 1 + 1) 103 (Nm 0) ∧ Below w.heap.size w wr) (fun i _ => 4 - (intOf i).toNat)
 case atStart =>
  refine ⟨0, Nat.zero_le _, rfl, (((Row.new w _ _).alloc _).alloc _).alloc _, ((Row.new1 w _ _ _).alloc _).alloc _, ?_, ?_, Below.alloc4 _ _ _ _ _⟩
  ·have e : N % M64 0 * M = 0 := by rw [show N % M64 0 = 0 from Nat.mod_one _, Nat.zero_mul]
   rw [e, Nm_zero]
   exact Row.new3 w _ _ _ _ _
  ·rw [Nm_zero]
   exact (Row.new2 w _ _ _ _).alloc _
 case round =>
  obtain ⟨k, hkn, rfl, hn, hm, hrow, hres, hbe⟩ := hrel
  by_cases hlt : k < 4
  ·have bk0 : (0 : Int) ≤ (k : Int) := by omega
   have bk1 : (k : Int) < 4 := by omega
   have HN0 := yH hn
   have HM0 := yH hm
   have HROW0 := yH hrow
   have HRES0 := yH hres
   have HBE0 := yH hbe
   clear hn hm hrow hres hbe
   go_wp2_with fail
   obtain ⟨wo, rfl⟩ : ∃ wo, wo = wr := ⟨_, rfl⟩
   go_loopw [7, 15] (fun o j wr => ∃ m c V : Nat, m ≤ 4 ∧ j = .int .i64 m ∧ o = .int .u64 (c : Int) ∧ c < 18446744073709551616 ∧ V < M64 (k + 4) ∧ V + c * M64 (k + m) = N % M64 k * M + wd N k * (M % M64 m) * M64 k ∧ Row wr w.heap.size 103 (Nm N) ∧ Row wr (w.heap.size + 1) 103 (Nm M) ∧ Row wr (w.heap.size + 1 + 1 + 1) 103 (Nm V) ∧ Row wr (w.heap.size + 1 + 1) 103 (Nm 0) ∧ Below w.heap.size w wr) (fun _ j _ => 4 - (intOf j).toNat)
   case atStart =>
    refine ⟨0, 0, N % M64 k * M, Nat.zero_le _, rfl, rfl, by decide, mul_lt HM.out, ?_, HN0.out, HM0.out, HROW0.out, HRES0.out, HBE0.out⟩
    rw [show M % M64 0 = 0 from Nat.mod_one _]
    simp
   case round =>
    obtain ⟨m, c, V, hmn, rfl, rfl, hc64, hV, hi, hn, hm, hrow, hres, hbe⟩ := hrel
    by_cases hltm : m < 4
    ·have hcn := hn.cell (Nm_get N (k := k) (by omega))
     have hcm := hm.cell (Nm_get M (k := m) (by omega))
     have hold := hrow.cell (Nm_get V (k := k + m) (by omega))
     have hfree := hrow.free (k + m)
     have hset := fun x (hx : x < 18446744073709551616) => Nm_set V (k := k + m) (by omega) hx ▸ hrow.set (k + m) (.int .u64 ((x : Nat) : Int))
     have hn2 := fun x => hn.setCell (p := ⟨w.heap.size + 1 + 1 + 1, k + m, none⟩) (by show _ ≠ w.heap.size + 1 + 1 + 1; omega) (.int .u64 ((x : Nat) : Int))
     have hm2 := fun x => hm.setCell (p := ⟨w.heap.size + 1 + 1 + 1, k + m, none⟩) (by show _ ≠ w.heap.size + 1 + 1 + 1; omega) (.int .u64 ((x : Nat) : Int))
     have hres2 := fun x => hres.setCell (p := ⟨w.heap.size + 1 + 1 + 1, k + m, none⟩) (by show _ ≠ w.heap.size + 1 + 1 + 1; omega) (.int .u64 ((x : Nat) : Int))
     have hb2 := fun x => hbe.setCell (p := ⟨w.heap.size + 1 + 1 + 1, k + m, none⟩) (by simp; omega) (.int .u64 ((x : Nat) : Int))
     have la := wd_lt N k
     have lb := wd_lt M m
     have lv := wd_lt V (k + m)
     have hmul := mul64n (wd N k) (wd M m) la lb
     have hst := mul_step (high := wd N k * wd M m / 18446744073709551616) (low := wd N k * wd M m % 18446744073709551616) la lb hc64 lv rfl rfl rfl rfl
     have hin := fun s d hs => mul_inner (N := N) (M := M) (V := V) (k := k) (j := m) (c := c) (s := s) (d := d) hV hltm hs hi
     generalize wd N k = a at *
     generalize wd M m = b at *
     generalize wd V (k + m) = v at *
     have lhi : a * b / 18446744073709551616 < 18446744073709551616 := by omega
     have llo : a * b % 18446744073709551616 < 18446744073709551616 := Nat.mod_lt _ (by decide)
     generalize a * b / 18446744073709551616 = high at *
     generalize a * b % 18446744073709551616 = low at *
     have hadd1 := add64z low v ((low + v) % 18446744073709551616) ((low + v) / 18446744073709551616) rfl rfl
     have hadd2 := add64z ((low + v) % 18446744073709551616) c (((low + v) % 18446744073709551616 + c) % 18446744073709551616) (((low + v) % 18446744073709551616 + c) / 18446744073709551616) rfl rfl
     generalize (low + v) % 18446744073709551616 = l1 at *
     generalize (low + v) / 18446744073709551616 = one at *
     have ls : (l1 + c) % 18446744073709551616 < 18446744073709551616 := Nat.mod_lt _ (by decide)
     generalize (l1 + c) % 18446744073709551616 = s at *
     generalize (l1 + c) / 18446744073709551616 = d at *
     have bm0 : (0 : Int) ≤ (m : Int) := by omega
     have bm1 : (m : Int) < 4 := by omega
     have hst1 := hst.1
     have w1 : IntKind.u64.wrap ((high : Int) + (one : Int)) = ((high + one : Nat) : Int) := by rw [IntKind.wrap_u64]; omega
     have w2 : IntKind.u64.wrap ((d : Int) + ((high + one : Nat) : Int)) = ((d + high + one : Nat) : Int) := by rw [IntKind.wrap_u64]; omega
     have HIN := yH (hin s (d + high + one) ls hst.2)
     have HC := yH hst1
     have HSET := yH (hset s ls)
     have HN2 := yH (hn2 s)
     have HM2 := yH (hm2 s)
     have HRES2 := yH (hres2 s)
     have HB2 := yH (hb2 s)
     have HMUL := yH hmul
     clear hn hm hrow hres hbe hset hn2 hm2 hres2 hb2 hi hst hst1 hin hmul
     go_wp2_with fail
     go_quiet ((go_at_call 103; exact Calls.quiet_of_same (HMUL.out _)))
     go_wp2_with fail
     go_roundw
     case rel =>
      refine ⟨m + 1, d + high + one, putw V (k + m) s, by omega, by go_num, ?_, HC.out, HIN.out.1, HIN.out.2, HN2.out, HM2.out, HSET.out, HRES2.out, ⟨HB2.out.os, HB2.out.tape, HB2.out.output, HB2.out.size, HB2.out.block⟩⟩
      first | rfl | (congr 1; done) | (congr 1; omega)
     case measure => simp [intOf]; omega
    ·obtain rfl : m = 4 := by omega
     have hold := hrow.cell (Nm_get V (k := k + 4) (by omega))
     have hfree := hrow.free (k + 4)
     have hset := hrow.set (k + 4) (.int .u64 ((c : Nat) : Int))
     rw [Nm_set V (by omega) hc64, mul_outer hV HM.out hi] at hset
     have hn2 := hn.setCell (p := ⟨w.heap.size + 1 + 1 + 1, k + 4, none⟩) (by show _ ≠ w.heap.size + 1 + 1 + 1; omega) (.int .u64 ((c : Nat) : Int))
     have hm2 := hm.setCell (p := ⟨w.heap.size + 1 + 1 + 1, k + 4, none⟩) (by show _ ≠ w.heap.size + 1 + 1 + 1; omega) (.int .u64 ((c : Nat) : Int))
     have hres2 := hres.setCell (p := ⟨w.heap.size + 1 + 1 + 1, k + 4, none⟩) (by show _ ≠ w.heap.size + 1 + 1 + 1; omega) (.int .u64 ((c : Nat) : Int))
     have hb2 := hbe.setCell (p := ⟨w.heap.size + 1 + 1 + 1, k + 4, none⟩) (by simp; omega) (.int .u64 ((c : Nat) : Int))
     have HSET := yH hset
     have HN2 := yH hn2
     have HM2 := yH hm2
     have HRES2 := yH hres2
     have HB2 := yH hb2
     clear hn hm hrow hres hbe hset hn2 hm2 hres2 hb2 hi
     generalize wd V (k + 4) = z at *
     go_wp2_with fail
     go_roundw
     case rel => exact ⟨k + 1, by omega, by go_num, HN2.out, HM2.out, HSET.out, HRES2.out, HB2.out⟩
     case measure => simp [intOf]; omega
  ·obtain rfl : k = 4 := by omega
   rw [Nat.mod_eq_of_lt HN.out] at hrow
   have hS := nm_info (N * M)
   have hO : (Nm 0).toArray.size = (Nm (N * M)).toArray.size := rfl
   have HROW := yH hrow
   have HRES := yH hres
   have HBE := yH hbe
   have HS4 := yH hS
   have HO4 := yH hO
   clear hrow hres hbe hS hO hn hm
   go_wp2_with (first
    | (refine wpList_load_row rfl 103 (.tmp 5) rfl (w.heap.size + 1 + 1 + 1) rfl 103 _ (0, 0) _ HROW.out Tryz.underlying103 rfl HS4.out ?_)
    | (refine wpList_store_row rfl 103 (.tmp 4) (.tmp 59) rfl (w.heap.size + 1 + 1) _ rfl rfl 103 _ HRES.out HS4.out HO4.out (Nm_one _) ?_))
   have hgot := setRow_heap wr (w.heap.size + 1 + 1) _ (Nm (N * M)).toArray _ _ HRES.out
   refine bodyPost_ret (results_cell_row (by rfl) _ _ (w.heap.size + 1 + 1) _ _ _ _ (by rfl) hgot Tryz.underlying103 rfl HS4.out) rfl ?_
   exact ⟨rfl, below_setRow HBE.out (by omega) _⟩
def qq : Nat := 7237005577332262213973186563042994240857116359379907606001950938285454250989
theorem qq_pos : 0 < qq := by decide
theorem qq_lt : qq < M64 4 := by decide +kernel
theorem wds_qq : wds qq = [6346243789798364141, 1503914060200516822, 0, 1152921504606846976, 0, 0, 0, 0] := by decide +kernel
theorem bit_div' (N i : Nat) : N / 2 ^ i = N / 2 ^ (i + 1) + N / 2 ^ (i + 1) + N / 2 ^ i % 2 := by
 rw [Nat.pow_succ, ← Nat.div_div_eq_div_mul]
 omega
theorem rest_step {x b q : Nat} (hb : b < 2) : (x + x + b) % q = if x % q + x % q + b < q then x % q + x % q + b else x % q + x % q + b - q := by
 by_cases hq : q = 0
 ·subst hq; simp
 ·have h := Nat.mod_add_div x q
  have hl := Nat.mod_lt x (Nat.pos_of_ne_zero hq)
  have e : x + x + b = x % q + x % q + b + q * (x / q + x / q) := by
   rw [Nat.mul_add]
   omega
  rw [e, Nat.add_mul_mod_self_left]
  by_cases h1 : x % q + x % q + b < q
  ·rw [if_pos h1, Nat.mod_eq_of_lt h1]
  ·rw [if_neg h1, Nat.mod_eq_sub_mod (by omega), Nat.mod_eq_of_lt (by omega)]
theorem wd_bit (N i : Nat) : wd N (i / 64) / 2 ^ (i % 64) % 2 = N / 2 ^ i % 2 := by
 unfold wd
 have e : (18446744073709551616 : Nat) = 2 ^ (i % 64) * (2 * 2 ^ (63 - i % 64)) := by
  rw [show (2 : Nat) * 2 ^ (63 - i % 64) = 2 ^ (1 + (63 - i % 64)) by rw [Nat.pow_add], ← Nat.pow_add, show i % 64 + (1 + (63 - i % 64)) = 64 by omega]
 rw [e, Nat.mod_mul_right_div_self, Nat.mod_mul_right_mod, Nat.div_div_eq_div_mul]
 congr 2
 show 2 ^ (64 * (i / 64)) * 2 ^ (i % 64) = _
 rw [← Nat.pow_add]
 congr 1
 omega
theorem even_or (r b : Nat) (hb : b < 2) : wd (r + r) 0 ||| b = wd (r + r) 0 + b ∧ wd (r + r) 0 + b < 18446744073709551616 ∧ wd (r + r + b) 0 = wd (r + r) 0 + b := by
 have e0 : ∀ x, wd x 0 = x % 18446744073709551616 := fun x => by
  unfold wd
  rw [show M64 0 = 1 from rfl, Nat.div_one]
 rw [e0, e0]
 have e : (r + r) % 18446744073709551616 = 2 ^ 1 * ((r + r) % 18446744073709551616 / 2) := by omega
 refine ⟨?_, by omega, by omega⟩
 rw [e]
 exact (Nat.two_pow_add_eq_or_of_lt (i := 1) (by omega) _).symm
theorem wd_even (r b : Nat) (hb : b < 2) {j : Nat} (hj : 0 < j) : wd (r + r + b) j = wd (r + r) j := by
 unfold wd
 have e : M64 j = 2 * 2 ^ (64 * j - 1) := by
  show 2 ^ (64 * j) = _
  rw [show (2 : Nat) * 2 ^ (64 * j - 1) = 2 ^ (1 + (64 * j - 1)) by rw [Nat.pow_add]]
  congr 1
  omega
 have h2 : (r + r + b) / 2 = (r + r) / 2 := by omega
 rw [e, ← Nat.div_div_eq_div_mul, ← Nat.div_div_eq_div_mul, h2]
theorem Nm_bit (r b : Nat) (hb : b < 2) : (Nm (r + r)).set 0 (.int .u64 ((wd (r + r) 0 ||| b : Nat) : Int)) = Nm (r + r + b) := by
 have h := even_or r b hb
 refine Nm_ext _ (by rw [List.length_set, Nm_length]) fun j hj => ?_
 rw [List.getElem?_set]
 by_cases e : j = 0
 ·subst e; rw [if_pos rfl, if_pos (by rw [Nm_length]; exact hj), h.1, h.2.2]
 ·rw [if_neg (fun h => e h.symm), Nm_get _ hj, wd_even r b hb (by omega)]
def shr (N k : Nat) : Nat := N / 2 ^ k
theorem shr_zero (N : Nat) : shr N 0 = N := by unfold shr; rw [Nat.pow_zero, Nat.div_one]
theorem div_top {N q : Nat} (h : N < M64 8) (k : Nat) (hk : k = 64 * 8) : shr N k % q = 0 := by
 unfold M64 at h
 rw [← hk] at h
 unfold shr
 rw [Nat.div_eq_of_lt h, Nat.zero_mod]
theorem bit_div (N i : Nat) : shr N i = shr N (i + 1) + shr N (i + 1) + shr N i % 2 := bit_div' N i
theorem M64_48 : M64 4 + M64 4 + M64 4 ≤ M64 8 := by
 have h5 := M64_succ 4
 have h8 := M64_mono (show 4 + 1 ≤ 8 by omega)
 generalize M64 8 = a at *
 generalize M64 (4 + 1) = b at *
 omega
theorem Nm_over (x : Nat) : Nm (x + M64 8) = Nm x := by
 refine Nm_ext _ rfl fun j hj => ?_
 rw [Nm_get _ hj]
 have := wd_add_high x 1 j 8 hj
 rw [Nat.one_mul] at this
 rw [this]
def Qt (w : World) : Prop := ∃ t, w.heap[2]? = some (.cells (Nm qq).toArray t (0, 0))
theorem Qt.lt {w : World} (h : Qt w) : 2 < w.heap.size := by
 obtain ⟨t, h⟩ := h
 exact (Array.getElem?_eq_some_iff.1 h).1
theorem Qt.below {w w' : World} {B : Nat} (h : Qt w) (hb : Below B w w') (hB : 2 < B) : Qt w' := by
 obtain ⟨t, h⟩ := h
 exact ⟨t, (hb.block 2 hB).trans h⟩
set_option maxHeartbeats 3200000 in
theorem rest_any (N : Nat) (hN : N < M64 8) (w : World) (hq : Qt w) :
  Calls Tryz.prog 67 #[.agg (Nm N).toArray] w fun e w' => e = .returned (.agg (Nm (N % qq)).toArray) ∧ Below w.heap.size w w' := by
 have HN := yH hN
 have HQ := yH hq
 have hS : ∀ x, (Tryz.prog.info? 103).map (·.size) = some (Nm x).toArray.size := nm_info
 have hO : ∀ x y, (Nm x).toArray.size = (Nm y).toArray.size := fun _ _ => rfl
 have HS4 := yH hS
 have HO4 := yH hO
 clear hN hq hS hO
 go_enter Tryz.func67, Tryz.ntmps67
 go_wp2_with fail
 go_loopw [4] (fun i wr => ∃ k : Nat, k ≤ 512 ∧ i = .int .i64 (511 - (k : Int)) ∧ Row wr w.heap.size 103 (Nm N) ∧ Row wr (w.heap.size + 1 + 1) 103 (Nm (shr N (512 - k) % qq)) ∧ Row wr (w.heap.size + 1) 103 (Nm 0) ∧ Below w.heap.size w wr) (fun i _ => (intOf i + 1).toNat)
 case atStart =>
  refine ⟨0, Nat.zero_le _, rfl, ((Row.new w _ _).alloc _).alloc _, ?_, ?_, Below.alloc3 _ _ _ _⟩
  ·have e : shr N (512 - 0) % qq = 0 := by
    exact div_top HN.out _ rfl
   rw [e, Nm_zero]
   exact Row.new2 w _ _ _ _
  ·rw [Nm_zero]
   exact (Row.new1 w _ _ _).alloc _
 case round =>
  obtain ⟨k, hkn, rfl, hn, hrow, hres, hbe⟩ := hrel
  by_cases hlt : k < 512
  ·obtain ⟨i, hi⟩ : ∃ i : Nat, i = 511 - k := ⟨_, rfl⟩
   have hii : (511 - (k : Int)) = (i : Int) := by omega
   rw [hii]
   have e1 : 512 - k = i + 1 := by omega
   have e2 : 512 - (k + 1) = i := by omega
   rw [e1] at hrow
   have hbd := bit_div N i
   have hb2 : shr N i % 2 < 2 := Nat.mod_lt _ (by decide)
   have hwb : wd N (i / 64) / 2 ^ (i % 64) % 2 = shr N i % 2 := wd_bit N i
   have hrs := rest_step (x := shr N (i + 1)) (q := qq) hb2
   rw [← hbd] at hrs
   have hrl : shr N (i + 1) % qq < qq := Nat.mod_lt _ qq_pos
   have hcn := hn.cell (Nm_get N (k := i / 64) (by omega))
   have lw := wd_lt N (i / 64)
   generalize shr N (i + 1) % qq = r at *
   generalize hbb : shr N i % 2 = b at *
   have hd : Int.tdiv (i : Int) 64 = ((i / 64 : Nat) : Int) := by rw [Int.tdiv_eq_ediv_of_nonneg (by omega)]; omega
   have hm : Int.tmod (i : Int) 64 = ((i % 64 : Nat) : Int) := by rw [Int.tmod_eq_emod_of_nonneg (by omega)]; omega
   have hi8 : i / 64 < 8 := by omega
   have hi9 : i ≤ 511 := by omega
   have him : i % 64 < 64 := by omega
   have hw1 : IntKind.i64.wrap ((i / 64 : Nat) : Int) = ((i / 64 : Nat) : Int) := IntWalk.i64_in _ (by omega)
   have hsh : ((wd N (i / 64) : Nat) : Int) / 2 ^ (i % 64) = ((wd N (i / 64) / 2 ^ (i % 64) : Nat) : Int) := by simp
   have hsl : wd N (i / 64) / 2 ^ (i % 64) < 18446744073709551616 := Nat.lt_of_le_of_lt (Nat.div_le_self _ _) lw
   have hand : bits .and .u64 ((wd N (i / 64) / 2 ^ (i % 64) : Nat) : Int) 1 = (b : Int) := by
    have h := u64_and_nat (wd N (i / 64) / 2 ^ (i % 64)) 1 hsl (by decide)
    rw [Nat.and_one_is_mod, hwb] at h
    exact h
   have hor : bits .or .u64 ((wd (r + r) 0 : Nat) : Int) (b : Int) = ((wd (r + r) 0 ||| b : Nat) : Int) := u64_or_nat _ _ (wd_lt _ _) (by omega)
   have HN0 := yH hn
   have HRES0 := yH hres
   have HBE0 := yH hbe
   have HROW0 := yH hrow
   have HRS := yH hrs
   have HOR := yH hor
   have HAND := yH hand
   have HSH := yH hsh
   have HD := yH hd
   have HM := yH hm
   have HW1 := yH hw1
   have HCN := yH hcn
   have HII := yH hii
   have HE2 := yH e2
   have HRL := yH hrl
   clear hn hrow hres hbe hrs hor hand hsh hd hm hw1 hcn hii e1 e2 hbd hwb hbb hi lw hsl hrl
   have bi0 : (0 : Int) ≤ (i : Int) := by omega
   have bi1 : (i : Int) ≤ 511 := by omega
   go_wp2_with (first
    | (refine wpList_load_row rfl 103 (.tmp 3) rfl (w.heap.size + 1 + 1) rfl 103 _ (0, 0) _ HROW0.out Tryz.underlying103 rfl (HS4.out _) ?_))
   refine (oplus_any r r wr).mono ?_
   rintro e w1 ⟨rfl, hb1⟩
   have hrow1 := HROW0.out.belowAll hb1
   have hn1 := HN0.out.belowAll hb1
   have hres1 := HRES0.out.belowAll hb1
   have hbe1 := HBE0.out.trans (hb1.mono HBE0.out.size)
   have HROW1 := yH hrow1
   have HN1 := yH hn1
   have HRES1 := yH hres1
   have HBE1 := yH hbe1
   clear hb1 hrow1 hn1 hres1 hbe1
   go_upto_region 6 with (refine wpList_store_row rfl 103 (.tmp 3) (.tmp 13) rfl (w.heap.size + 1 + 1) _ rfl rfl 103 _ HROW1.out (HS4.out _) (HO4.out _ _) (Nm_one _) ?_)
   have hrow2 := HROW1.out.setRow (Nm (r + r))
   have hn2 := HN1.out.setRowOther (k := w.heap.size + 1 + 1) (by omega) (Nm (r + r)).toArray
   have hres2 := HRES1.out.setRowOther (k := w.heap.size + 1 + 1) (by omega) (Nm (r + r)).toArray
   have hbe2 := below_setRow (g := w.heap.size + 1 + 1) HBE1.out (by omega) (Nm (r + r)).toArray
   generalize w1.setRow (w.heap.size + 1 + 1) (Nm (r + r)).toArray = w2 at *
   have hcl := hrow2.cell (Nm_get (r + r) (k := 0) (by decide))
   have hcn := hn2.cell (Nm_get N (k := i / 64) hi8)
   have hfree := hrow2.free 0
   have hset := hrow2.set 0 (.int .u64 ((wd (r + r) 0 ||| b : Nat) : Int))
   rw [Nm_bit r b hb2] at hset
   have hn3 := hn2.setCell (p := ⟨w.heap.size + 1 + 1, 0, none⟩) (by show _ ≠ w.heap.size + 1 + 1; omega) (.int .u64 ((wd (r + r) 0 ||| b : Nat) : Int))
   have hres3 := hres2.setCell (p := ⟨w.heap.size + 1 + 1, 0, none⟩) (by show _ ≠ w.heap.size + 1 + 1; omega) (.int .u64 ((wd (r + r) 0 ||| b : Nat) : Int))
   have hbe3 := hbe2.setCell (p := ⟨w.heap.size + 1 + 1, 0, none⟩) (by simp; omega) (.int .u64 ((wd (r + r) 0 ||| b : Nat) : Int))
   have HSET := yH hset
   have HN3 := yH hn3
   have HRES3 := yH hres3
   have HBE3 := yH hbe3
   have hd := HD.out
   have hm := HM.out
   have hw1 := HW1.out
   clear hrow2 hn2 hres2 hbe2 hset hn3 hres3 hbe3
   generalize i / 64 = i1 at *
   generalize i % 64 = i2 at *
   generalize wd N i1 = x at *
   generalize wd (r + r) 0 = y at *
   have bj0 : (0 : Int) ≤ (i1 : Int) := by omega
   have bj1 : (i1 : Int) < 8 := by omega
   have bk0 : (0 : Int) ≤ (i2 : Int) := by omega
   have bk1 : (i2 : Int) < 64 := by omega
   simp only [Act.put]
   go_cut [14] from 15 to 26 (fun _ wx => Row wx w.heap.size 103 (Nm N) ∧ Row wx (w.heap.size + 1 + 1) 103 (Nm (r + r + b)) ∧ Row wx (w.heap.size + 1) 103 (Nm 0) ∧ Below w.heap.size w wx)
   case first =>
    go_region
    all_goals
     go_step
     go_step
     go_meet
     rw [HSH.out, HAND.out, HOR.out]
     exact ⟨HN3.out, HSET.out, HRES3.out, HBE3.out.drew⟩
   case rest =>
    obtain ⟨hn4, hrow4, hres4, hbe4⟩ := hcut
    have hq4 : Qt wc := HQ.out.below hbe4 HQ.out.lt
    obtain ⟨tq, hq5⟩ := hq4
    have hd5 : r + r + b + M64 8 - qq + qq = r + r + b + M64 8 := by have := qq_lt; have := M64_mono (show 4 ≤ 8 by omega); omega
    have hqm : qq % M64 8 = qq := Nat.mod_eq_of_lt (Nat.lt_of_lt_of_le qq_lt (M64_mono (by omega)))
    have hxm : (r + r + b) % M64 8 = r + r + b := Nat.mod_eq_of_lt (by have := HRL.out; have := qq_lt; have h8 := M64_48; omega)
    have hmin := fun w => minus_any (r + r + b) qq (r + r + b + M64 8 - qq) hd5 w
    rw [hqm, hxm] at hmin
    have hnd : ¬ r + r + b < qq → Nm (r + r + b + M64 8 - qq) = Nm (r + r + b - qq) := fun h => by
     rw [show r + r + b + M64 8 - qq = r + r + b - qq + M64 8 by omega, Nm_over]
    have HND := yH hnd
    have HMIN := yH hmin
    have HQ5 := yH hq5
    have HN4 := yH hn4
    have HROW4 := yH hrow4
    have HRES4 := yH hres4
    have HBE4 := yH hbe4
    clear hq5 hd5 hqm hxm hmin hnd hn4 hrow4 hres4 hbe4 hd hm hw1 hcl hcn hfree
    generalize hD : r + r + b + M64 8 - qq = D at *
    clear hD
    go_wp2_with (first
     | (refine wpList_load_row rfl 103 (.tmp 3) rfl (w.heap.size + 1 + 1) rfl 103 _ (0, 0) _ HROW4.out Tryz.underlying103 rfl (HS4.out _) ?_)
     | (refine wpList_load_row rfl 103 (.global 2) rfl 2 rfl tq _ (0, 0) _ HQ5.out Tryz.underlying103 rfl (HS4.out _) ?_))
    refine (HMIN.out wc).mono ?_
    rintro e w5 ⟨rfl, hb5⟩
    have hn5 := (HN4.out.belowAll hb5).alloc (.cells (Nm 0).toArray 103)
    have hrow5 := (HROW4.out.belowAll hb5).alloc (.cells (Nm 0).toArray 103)
    have hres5 := (HRES4.out.belowAll hb5).alloc (.cells (Nm 0).toArray 103)
    have hsz5 : w.heap.size + 1 + 1 < w5.heap.size := Nat.lt_of_lt_of_le HROW4.out.lt hb5.size
    have hbe5 := (HBE4.out.trans (hb5.mono HBE4.out.size)).alloc (by omega) (.cells (Nm 0).toArray 103)
    have hnew := Row.new w5 (Nm 0) 103
    rw [Nm_zero] at hn5 hrow5 hbe5 hnew
    rw [show (Nm 0).toArray = #[Value.int .u64 0, .int .u64 0, .int .u64 0, .int .u64 0, .int .u64 0, .int .u64 0, .int .u64 0, .int .u64 0] by rw [Nm_zero]] at hres5
    have HN5 := yH hn5
    have HROW5 := yH hrow5
    have HRES5 := yH hres5
    have HBE5 := yH hbe5
    have HNEW := yH hnew
    have hO6 : ∀ x, ([Value.int .u64 0, .int .u64 0, .int .u64 0, .int .u64 0, .int .u64 0, .int .u64 0, .int .u64 0, .int .u64 0]).toArray.size = (Nm x).toArray.size := fun _ => rfl
    have HO6 := yH hO6
    clear hO6
    have HSZ5 := yH hsz5
    clear hb5 hn5 hrow5 hres5 hbe5 hnew hsz5
    by_cases hshort : r + r + b < qq
    ·have hrs2 := HRS.out
     rw [if_pos hshort] at hrs2
     rw [decide_eq_true hshort]
     have HRS2 := yH hrs2
     clear hrs2 hshort
     go_wp2_with (refine wpList_store_row rfl 103 (.tmp 5) (.tmp 30) rfl w5.heap.size _ rfl rfl 103 _ HNEW.out (HS4.out _) (HO6.out _) (Nm_one _) ?_)
     go_roundw
     case rel =>
      refine ⟨k + 1, by omega, ?_, HN5.out.setRowOther (by have := HSZ5.out; omega) _, ?_, HRES5.out.setRowOther (by have := HSZ5.out; omega) _, below_setRow HBE5.out (by have := HSZ5.out; omega) _⟩
      ·congr 1
       have := HII.out
       omega
      ·rw [HE2.out, HRS2.out]
       exact HROW5.out.setRowOther (by have := HSZ5.out; omega) _
     case measure => simp [intOf] <;> omega
    ·have hrs2 := HRS.out
     rw [if_neg hshort] at hrs2
     have hnd := HND.out hshort
     rw [decide_eq_false hshort, hnd]
     have HRS2 := yH hrs2
     have hl6 := HNEW.out.setRow (Nm (r + r + b - qq))
     have hn6 := HN5.out.setRowOther (k := w5.heap.size) (by have := HSZ5.out; omega) (Nm (r + r + b - qq)).toArray
     have hrow6 := HROW5.out.setRowOther (k := w5.heap.size) (by have := HSZ5.out; omega) (Nm (r + r + b - qq)).toArray
     have hres6 := HRES5.out.setRowOther (k := w5.heap.size) (by have := HSZ5.out; omega) (Nm (r + r + b - qq)).toArray
     have hbe6 := below_setRow (g := w5.heap.size) HBE5.out (by have := HSZ5.out; omega) (Nm (r + r + b - qq)).toArray
     have HL6 := yH hl6
     have HN6 := yH hn6
     have HROW6 := yH hrow6
     have HRES6 := yH hres6
     have HBE6 := yH hbe6
     clear hrs2 hshort hnd hl6 hn6 hrow6 hres6 hbe6
     go_wp2_with (first
      | (refine wpList_store_row rfl 103 (.tmp 5) (.tmp 30) rfl w5.heap.size _ rfl rfl 103 _ HNEW.out (HS4.out _) (HO6.out _) (Nm_one _) ?_)
      | (refine wpList_load_row rfl 103 (.tmp 5) rfl w5.heap.size rfl 103 _ (0, 0) _ HL6.out Tryz.underlying103 rfl (HS4.out _) ?_)
      | (refine wpList_store_row rfl 103 (.tmp 3) (.tmp 34) rfl (w.heap.size + 1 + 1) _ rfl rfl 103 _ HROW6.out (HS4.out _) (HO4.out _ _) (Nm_one _) ?_))
     go_roundw
     case rel =>
      refine ⟨k + 1, by omega, ?_, HN6.out.setRowOther (by omega) _, ?_, HRES6.out.setRowOther (by omega) _, below_setRow HBE6.out (by omega) _⟩
      ·congr 1
       have := HII.out
       omega
      ·rw [HE2.out, HRS2.out]
       exact HROW6.out.setRow _
     case measure => simp [intOf] <;> omega
  ·obtain rfl : k = 512 := by omega
   have hneg : (511 - ((512 : Nat) : Int)) = -1 := by decide
   rw [hneg]
   rw [show 512 - 512 = 0 from rfl, shr_zero] at hrow
   have HROW := yH hrow
   have HRES := yH hres
   have HBE := yH hbe
   clear hrow hres hbe hn hneg
   go_wp2_with (first
    | (refine wpList_load_row rfl 103 (.tmp 3) rfl (w.heap.size + 1 + 1) rfl 103 _ (0, 0) _ HROW.out Tryz.underlying103 rfl (HS4.out _) ?_)
    | (refine wpList_store_row rfl 103 (.tmp 2) (.tmp 35) rfl (w.heap.size + 1) _ rfl rfl 103 _ HRES.out (HS4.out _) (HO4.out _ _) (Nm_one _) ?_))
   have hgot := setRow_heap wr (w.heap.size + 1) _ (Nm (N % qq)).toArray _ _ HRES.out
   refine bodyPost_ret (results_cell_row (by rfl) _ _ (w.heap.size + 1) _ _ _ _ (by rfl) hgot Tryz.underlying103 rfl (HS4.out _)) rfl ?_
   exact ⟨rfl, below_setRow HBE.out (by omega) _⟩
theorem read_by (N n g : Nat) (T : TypeId) (w : World) (hn : n ≤ 64) (hN : N < 256 ^ n) (hr : Row w g T (By N n)) :
  Calls Tryz.prog 64 #[.slice (some ⟨g, 0, none⟩) n n] w fun e w' => e = .returned (.agg (Nm N).toArray) ∧ Below w.heap.size w w' := by
 have h := hr.rd (n := n) (By_length N n)
 rw [By_nat] at h
 have hc := read_any ((List.range n).map (byt N)) (some ⟨g, 0, none⟩) n n (fun k => k = g) w (byts_lt N n) hn h
 rwa [lev_byts, Nat.mod_eq_of_lt hN] at hc
theorem p32 : 256 ^ 32 = M64 4 := by rw [pow256]; rfl
theorem nm_len (N : Nat) : (Tryz.prog.info? 103).map (·.size) = some (Nm N).length := by rw [Nm_length]; kernel_rfl
theorem by_len (N : Nat) : (Tryz.prog.info? 22).map (·.size) = some (By N 32).length := by rw [By_length]; kernel_rfl
theorem Qt.row {w : World} (h : Qt w) : ∃ t, Row w 2 t (Nm qq) := h
theorem sub_hd {x : Nat} (h : qq ≤ x + M64 8) : x + M64 8 - qq + qq = x + M64 8 := by omega
theorem qq_8 : qq ≤ M64 8 := Nat.le_of_lt (Nat.lt_of_lt_of_le qq_lt (M64_mono (by omega)))
set_option maxHeartbeats 3200000 in
theorem below_fn (N : Nat) (hN : N < 256 ^ 32) (w : World) (hq : Qt w) :
  Calls Tryz.prog 42 #[.agg (By N 32).toArray] w fun e w' => e = .returned (.bool (decide (N < qq))) ∧ Below w.heap.size w w' := by
 obtain ⟨tq, hq0⟩ := hq.row
 have hbox := Row.new w (By N 32) 22
 have hqw := hq0.alloc (.cells (By N 32).toArray 22)
 have hmin := fun w => minus_any N qq (N + M64 8 - qq) (sub_hd (by have := qq_8; omega)) w
 have hqm : qq % M64 8 = qq := Nat.mod_eq_of_lt (Nat.lt_of_lt_of_le qq_lt (M64_mono (by omega)))
 have hxm : N % M64 8 = N := Nat.mod_eq_of_lt (by rw [p32] at hN; exact Nat.lt_of_lt_of_le hN (M64_mono (by omega)))
 rw [hqm, hxm] at hmin
 have hO6 : ∀ x, ([Value.int .u64 0, .int .u64 0, .int .u64 0, .int .u64 0, .int .u64 0, .int .u64 0, .int .u64 0, .int .u64 0]).toArray.size = (Nm x).toArray.size := fun _ => rfl
 have hS : ∀ x, (Tryz.prog.info? 103).map (·.size) = some (Nm x).toArray.size := nm_info
 have hL : ∀ x, (Tryz.prog.info? 103).map (·.size) = some (Nm x).length := nm_len
 have hb0 : Below w.heap.size w (w.alloc (.cells (By N 32).toArray 22)) := (Below.refl _ _).alloc (Nat.le_refl _) _
 have HBOX := yH hbox
 have HQW := yH hqw
 have HMIN := yH hmin
 have HO6 := yH hO6
 have HS4 := yH hS
 have HL4 := yH hL
 have HB0 := yH hb0
 have HN := yH hN
 clear hq hq0 hbox hqw hmin hqm hxm hO6 hS hL hb0 hN
 generalize N + M64 8 - qq = D at *
 go_enter Tryz.func42, Tryz.ntmps42
 go_wp2_with fail
 generalize hW : w.alloc (.cells (By N 32).toArray 22) = W at *
 have hwl : w.heap.size ≤ W.heap.size := by rw [← hW]; simp
 have HWL := yH hwl
 clear hW hwl
 refine wp_region_any (by kernel_rfl) ?_
 change wpAny _ _ _ _ _ _ _ (World.drew _)
 refine wpAny_of_held (S := (fun w' : World => Below W.heap.size W w')) _ _ _ _ ?_
 have hHeld := ((Below.refl W.heap.size W).drew)
 refine tk 0 6 (v := ?_) rfl rfl (by kernel_rfl) (fun _ _ _ h => h) (by rfl) ?_ hHeld ?_
 rotate_left
 ·(intro w' hSw; go_simp; try (with_reducible rfl))
 simp only [Act.put, yA, yB, yC]
 refine wpAnyH_take (i := 2) (v := .agg (Nm qq).toArray) rfl (by kernel_rfl) (by kernel_rfl) (by kernel_rfl) (fun _ _ _ h => h) (yieldsIf_load_mid (by rfl) 103 (.global 2) rfl 2 0 rfl (Nm qq) _ (fun w' hSw => (HQW.out.belowAll hSw).range) (by rfl) rfl (HL4.out _)) hHeld ?_
 change wpAnyH _ _ _ _ _ _ _ (Act.put _ (some 8) _) _
 simp only [Act.put, yA, yB, yC]
 refine wpAnyH_ready (rs := [1, 7]) (by kernel_rfl) (by simp) ?_
 refine AllReadyH.cons rfl (fun K hK => ?_) (AllReadyH.cons rfl (fun K hK => ?_) AllReadyH.nil)
 ·rw [if_pos (by kernel_rfl)]
  go_simp
  refine (read_by N 32 w.heap.size _ _ (by decide) HN.out (HBOX.out.belowAll hHeld)).mono ?_
  rintro e w_1_c0 ⟨rfl, hbw_1_c0⟩
  refine hK.out _ _ (hHeld.trans (hbw_1_c0.mono hHeld.size)) (fun hHeld => ?_)
  clear hK K
  refine wpAnyH_ready (rs := [3, 7]) (by kernel_rfl) (by simp) ?_
  refine AllReadyH.cons rfl (fun K hK => ?_) (AllReadyH.cons rfl (fun K hK => ?_) AllReadyH.nil)
  ·rw [if_pos (by kernel_rfl)]
   go_simp
   refine (HMIN.out _).mono ?_
   rintro e w_1_3_c1 ⟨rfl, hbw_1_3_c1⟩
   refine hK.out _ _ (hHeld.trans (hbw_1_3_c1.mono hHeld.size)) (fun hHeld => ?_)
   clear hK K
   have hl : Ls [(4, 5), (5, 10), (6, 11)] := trivial
   repeat
    refine tkl hl (v := ?_) rfl rfl (by kernel_rfl) (fun _ _ _ h => h) (by rfl) ?_ hHeld ?_
    rotate_left
    ·(intro w' hSw; go_simp; try (with_reducible rfl))
    simp only [Act.put, yA, yB, yC]
    replace hl := hl.tl
   clear hl
   refine wpAnyH_ready (rs := [7]) (by kernel_rfl) (by simp) ?_
   refine AllReadyH.cons rfl (fun K hK => ?_) AllReadyH.nil
   rw [if_pos (by kernel_rfl)]
   go_simp
   have hl2a := Row.new w_1_3_c1 (Nm 0) 103
   rw [Nm_zero] at hl2a
   have hgs := hHeld.size
   refine hK.out _ _ (hHeld.alloc hHeld.size _) (fun hHeld => ?_)
   clear hK K
   refine wpAnyH_ready (rs := [8]) (by kernel_rfl) (by simp) ?_
   refine AllReadyH.cons rfl (fun K hK => ?_) AllReadyH.nil
   rw [if_pos (by kernel_rfl)]
   refine wp_store_row 103 (.tmp 3) (.tmp 10) rfl (w_1_3_c1.heap.size) (Nm D).toArray rfl rfl 103 _ hl2a (HS4.out _) (HO6.out _) (Nm_one _) ?_
   have hs3 := hl2a.setRow (Nm D)
   refine hK.out _ _ (below_setRow hHeld (hgs) _) (fun hHeld => ?_)
   clear hK K
   refine tk 9 4 (v := ?_) rfl rfl (by kernel_rfl) (fun _ _ _ h => h) (by rfl) ?_ hHeld ?_
   rotate_left
   ·(intro w' hSw; go_simp; try (with_reducible rfl))
   simp only [Act.put, yA, yB, yC]
   refine wpAnyH_done (by kernel_rfl) ?_ _
   have HF := yH hHeld
   clear hHeld
   go_wp2_with fail
   go_ret
   exact ⟨rfl, HB0.out.trans (HF.out.mono HWL.out)⟩
  ·rw [if_pos (by kernel_rfl)]
   go_simp
   have hl1a := Row.new w_1_c0 (Nm 0) 103
   rw [Nm_zero] at hl1a
   have hgs := hHeld.size
   refine hK.out _ _ (hHeld.alloc hHeld.size _) (fun hHeld => ?_)
   clear hK K
   refine wpAnyH_ready (rs := [3]) (by kernel_rfl) (by simp) ?_
   refine AllReadyH.cons rfl (fun K hK => ?_) AllReadyH.nil
   rw [if_pos (by kernel_rfl)]
   go_simp
   refine (HMIN.out _).mono ?_
   rintro e w_1_7_c2 ⟨rfl, hbw_1_7_c2⟩
   have hlw_1_7_c2 := hl1a.belowAll hbw_1_7_c2
   refine hK.out _ _ (hHeld.trans (hbw_1_7_c2.mono hHeld.size)) (fun hHeld => ?_)
   clear hK K
   have hl : Ls [(4, 5), (5, 10), (6, 11)] := trivial
   repeat
    refine tkl hl (v := ?_) rfl rfl (by kernel_rfl) (fun _ _ _ h => h) (by rfl) ?_ hHeld ?_
    rotate_left
    ·(intro w' hSw; go_simp; try (with_reducible rfl))
    simp only [Act.put, yA, yB, yC]
    replace hl := hl.tl
   clear hl
   refine wpAnyH_ready (rs := [8]) (by kernel_rfl) (by simp) ?_
   refine AllReadyH.cons rfl (fun K hK => ?_) AllReadyH.nil
   rw [if_pos (by kernel_rfl)]
   refine wp_store_row 103 (.tmp 3) (.tmp 10) rfl (w_1_c0.heap.size) (Nm D).toArray rfl rfl 103 _ hlw_1_7_c2 (HS4.out _) (HO6.out _) (Nm_one _) ?_
   have hs3 := hlw_1_7_c2.setRow (Nm D)
   refine hK.out _ _ (below_setRow hHeld (hgs) _) (fun hHeld => ?_)
   clear hK K
   refine tk 9 4 (v := ?_) rfl rfl (by kernel_rfl) (fun _ _ _ h => h) (by rfl) ?_ hHeld ?_
   rotate_left
   ·(intro w' hSw; go_simp; try (with_reducible rfl))
   simp only [Act.put, yA, yB, yC]
   refine wpAnyH_done (by kernel_rfl) ?_ _
   have HF := yH hHeld
   clear hHeld
   go_wp2_with fail
   go_ret
   exact ⟨rfl, HB0.out.trans (HF.out.mono HWL.out)⟩
 ·rw [if_pos (by kernel_rfl)]
  go_simp
  have hl0a := Row.new W.drew (Nm 0) 103
  rw [Nm_zero] at hl0a
  have hgs := hHeld.size
  refine hK.out _ _ (hHeld.alloc hHeld.size _) (fun hHeld => ?_)
  clear hK K
  refine wpAnyH_ready (rs := [1]) (by kernel_rfl) (by simp) ?_
  refine AllReadyH.cons rfl (fun K hK => ?_) AllReadyH.nil
  rw [if_pos (by kernel_rfl)]
  go_simp
  refine (read_by N 32 w.heap.size _ _ (by decide) HN.out (HBOX.out.belowAll hHeld)).mono ?_
  rintro e w_7_c1 ⟨rfl, hbw_7_c1⟩
  have hlw_7_c1 := hl0a.belowAll hbw_7_c1
  refine hK.out _ _ (hHeld.trans (hbw_7_c1.mono hHeld.size)) (fun hHeld => ?_)
  clear hK K
  refine wpAnyH_ready (rs := [3]) (by kernel_rfl) (by simp) ?_
  refine AllReadyH.cons rfl (fun K hK => ?_) AllReadyH.nil
  rw [if_pos (by kernel_rfl)]
  go_simp
  refine (HMIN.out _).mono ?_
  rintro e w_7_c2 ⟨rfl, hbw_7_c2⟩
  have hlw_7_c2 := hlw_7_c1.belowAll hbw_7_c2
  refine hK.out _ _ (hHeld.trans (hbw_7_c2.mono hHeld.size)) (fun hHeld => ?_)
  clear hK K
  have hl : Ls [(4, 5), (5, 10), (6, 11)] := trivial
  repeat
   refine tkl hl (v := ?_) rfl rfl (by kernel_rfl) (fun _ _ _ h => h) (by rfl) ?_ hHeld ?_
   rotate_left
   ·(intro w' hSw; go_simp; try (with_reducible rfl))
   simp only [Act.put, yA, yB, yC]
   replace hl := hl.tl
  clear hl
  refine wpAnyH_ready (rs := [8]) (by kernel_rfl) (by simp) ?_
  refine AllReadyH.cons rfl (fun K hK => ?_) AllReadyH.nil
  rw [if_pos (by kernel_rfl)]
  refine wp_store_row 103 (.tmp 3) (.tmp 10) rfl (W.drew.heap.size) (Nm D).toArray rfl rfl 103 _ hlw_7_c2 (HS4.out _) (HO6.out _) (Nm_one _) ?_
  have hs3 := hlw_7_c2.setRow (Nm D)
  refine hK.out _ _ (below_setRow hHeld (hgs) _) (fun hHeld => ?_)
  clear hK K
  refine tk 9 4 (v := ?_) rfl rfl (by kernel_rfl) (fun _ _ _ h => h) (by rfl) ?_ hHeld ?_
  rotate_left
  ·(intro w' hSw; go_simp; try (with_reducible rfl))
  simp only [Act.put, yA, yB, yC]
  refine wpAnyH_done (by kernel_rfl) ?_ _
  have HF := yH hHeld
  clear hHeld
  go_wp2_with fail
  go_ret
  exact ⟨rfl, HB0.out.trans (HF.out.mono HWL.out)⟩
theorem p64g (k n : Nat) (h : 8 * k = 64 * n) : 256 ^ k = M64 n := by unfold M64; rw [pow256, h]
theorem p64 : 256 ^ 64 = M64 8 := p64g 64 8 rfl
theorem big_lt {A B C : Nat} (hA : A < M64 4) (hB : B < M64 4) (hC : C < M64 4) : A * B + C < M64 8 := by
 have e : M64 8 = M64 4 * M64 4 := M64_add 4 4
 rw [e]
 generalize M64 4 = m at *
 have h1 : A * B ≤ (m - 1) * (m - 1) := Nat.mul_le_mul (by omega) (by omega)
 have h2 : (m - 1) * (m - 1) + m ≤ m * m := by
  obtain ⟨n, rfl⟩ : ∃ n, m = n + 1 := ⟨m - 1, by omega⟩
  rw [Nat.add_sub_cancel, Nat.add_mul, Nat.mul_add]
  omega
 omega
theorem Qt.only {S : Nat → Prop} {w w' : World} (h : Qt w) (ho : Only S w w') (hs : ¬ S 2) : Qt w' := by
 obtain ⟨t, h⟩ := h
 exact ⟨t, (ho.block 2 (Array.getElem?_eq_some_iff.1 h).1 hs).trans h⟩
set_option maxHeartbeats 3200000 in
theorem muladd_fn (A B C : Nat) (hA : A < 256 ^ 32) (hB : B < 256 ^ 32) (hC : C < 256 ^ 32) (w : World) (hq : Qt w) :
  Calls Tryz.prog 26 #[.agg (By A 32).toArray, .agg (By B 32).toArray, .agg (By C 32).toArray] w fun e w' => e = .returned (.agg (By ((A * B + C) % qq) 32).toArray) ∧ Below w.heap.size w w' := by
 have ha := ((Row.new w (By A 32) 22).alloc (.cells (By B 32).toArray 22)).alloc (.cells (By C 32).toArray 22) |>.alloc (.cells (List.replicate 32 (Value.int .u8 0)).toArray 22)
 have hb := ((Row.new1 w (.cells (By A 32).toArray 22) (By B 32) 22).alloc (.cells (By C 32).toArray 22)).alloc (.cells (List.replicate 32 (Value.int .u8 0)).toArray 22)
 have hc := (Row.new2 w (.cells (By A 32).toArray 22) (.cells (By B 32).toArray 22) (By C 32) 22).alloc (.cells (List.replicate 32 (Value.int .u8 0)).toArray 22)
 have hr := Row.new3 w (.cells (By A 32).toArray 22) (.cells (By B 32).toArray 22) (.cells (By C 32).toArray 22) (List.replicate 32 (Value.int .u8 0)) 22
 have hb0 := Below.alloc4 w (.cells (By A 32).toArray 22) (.cells (By B 32).toArray 22) (.cells (By C 32).toArray 22) (.cells (List.replicate 32 (Value.int .u8 0)).toArray 22)
 have hqw := hq.below hb0 hq.lt
 have hsz : ((((w.alloc (.cells (By A 32).toArray 22)).alloc (.cells (By B 32).toArray 22)).alloc (.cells (By C 32).toArray 22)).alloc (.cells (List.replicate 32 (Value.int .u8 0)).toArray 22)).heap.size = w.heap.size + 1 + 1 + 1 + 1 := by simp
 have hql := hq.lt
 have hA4 : A < M64 4 := by rw [← p32]; exact hA
 have hB4 : B < M64 4 := by rw [← p32]; exact hB
 have hC4 : C < M64 4 := by rw [← p32]; exact hC
 have hbig := big_lt hA4 hB4 hC4
 have hO6 : ∀ x, ([Value.int .u64 0, .int .u64 0, .int .u64 0, .int .u64 0, .int .u64 0, .int .u64 0, .int .u64 0, .int .u64 0]).toArray.size = (Nm x).toArray.size := fun _ => rfl
 have hS : ∀ x, (Tryz.prog.info? 103).map (·.size) = some (Nm x).toArray.size := nm_info
 have hL : ∀ x, (Tryz.prog.info? 103).map (·.size) = some (Nm x).length := nm_len
 have hS8 : ∀ x, (Tryz.prog.info? 22).map (·.size) = some (By x 32).toArray.size := by_info
 have hO8 : ∀ x, (List.replicate 32 (Value.int .u8 0)).toArray.size = (By x 32).toArray.size := fun x => by rw [List.size_toArray, List.size_toArray, By_length, List.length_replicate]
 have HO6 := yH hO6
 have HS4 := yH hS
 have HL4 := yH hL
 have HS8 := yH hS8
 have HO8 := yH hO8
 clear hO6 hS hL hS8 hO8
 have HA := yH ha
 have HB := yH hb
 have HC := yH hc
 have HR := yH hr
 have HB0 := yH hb0
 have HQW := yH hqw
 have HSZ := yH hsz
 have HQL := yH hql
 have HA4 := yH hA4
 have HB4 := yH hB4
 have HBIG := yH hbig
 have HA0 := yH hA
 have HB00 := yH hB
 have HC0 := yH hC
 clear ha hb hc hr hb0 hq hqw hsz hql hA4 hB4 hC4 hbig hA hB hC
 go_enter Tryz.func26, Tryz.ntmps26
 go_upto_region 1 with fail
 change Code.wp _ _ _ _ ((((w.alloc (.cells (By A 32).toArray 22)).alloc (.cells (By B 32).toArray 22)).alloc (.cells (By C 32).toArray 22)).alloc (.cells (List.replicate 32 (Value.int .u8 0)).toArray 22))
 generalize (((w.alloc (.cells (By A 32).toArray 22)).alloc (.cells (By B 32).toArray 22)).alloc (.cells (By C 32).toArray 22)).alloc (.cells (List.replicate 32 (Value.int .u8 0)).toArray 22) = W at *
 have hl0 : Row W.drew (w.heap.size + 1 + 1 + 1) 22 (List.replicate 32 (Value.int .u8 0)) := HR.out
 refine wp_region_any (by kernel_rfl) ?_
 change wpAny _ _ _ _ _ _ _ (World.drew _)
 refine wpAny_of_held (S := (fun w' : World => Only (fun k => k = w.heap.size + 1 + 1 + 1) W w')) _ _ _ _ ?_
 have hHeld := ((Only.refl (fun k => k = w.heap.size + 1 + 1 + 1) W).drew)
 have hl : Ls [(0, 7), (2, 9), (5, 12)] := trivial
 repeat
  refine tkl hl (v := ?_) rfl rfl (by kernel_rfl) (fun _ _ _ h => h) (by rfl) ?_ hHeld ?_
  rotate_left
  ·(intro w' hSw; go_simp; try (with_reducible rfl))
  simp only [Act.put, yA, yB, yC]
  replace hl := hl.tl
 clear hl
 refine wpAnyH_ready (rs := [1]) (by kernel_rfl) (by simp) ?_
 refine AllReadyH.cons rfl (fun K hK => ?_) AllReadyH.nil
 rw [if_pos (by kernel_rfl)]
 go_simp
 refine (read_by A 32 w.heap.size _ _ (by decide) HA0.out (HA.out.only hHeld (by show ¬ _ = w.heap.size + 1 + 1 + 1; omega))).mono ?_
 rintro e w_c0 ⟨rfl, hbw_c0⟩
 have hlw_c0 := hl0.belowAll hbw_c0
 refine hK.out _ _ (hHeld.trans (Only.of_below hbw_c0 _) (fun _ _ h => h)) (fun hHeld => ?_)
 clear hK K
 refine wpAnyH_ready (rs := [3]) (by kernel_rfl) (by simp) ?_
 refine AllReadyH.cons rfl (fun K hK => ?_) AllReadyH.nil
 rw [if_pos (by kernel_rfl)]
 go_simp
 refine (read_by B 32 (w.heap.size + 1) _ _ (by decide) HB00.out (HB.out.only hHeld (by show ¬ _ = w.heap.size + 1 + 1 + 1; omega))).mono ?_
 rintro e w_c1 ⟨rfl, hbw_c1⟩
 have hlw_c1 := hlw_c0.belowAll hbw_c1
 refine hK.out _ _ (hHeld.trans (Only.of_below hbw_c1 _) (fun _ _ h => h)) (fun hHeld => ?_)
 clear hK K
 refine wpAnyH_ready (rs := [4]) (by kernel_rfl) (by simp) ?_
 refine AllReadyH.cons rfl (fun K hK => ?_) AllReadyH.nil
 rw [if_pos (by kernel_rfl)]
 go_simp
 refine (times_any A B HA4.out HB4.out _).mono ?_
 rintro e w_c2 ⟨rfl, hbw_c2⟩
 have hlw_c2 := hlw_c1.belowAll hbw_c2
 refine hK.out _ _ (hHeld.trans (Only.of_below hbw_c2 _) (fun _ _ h => h)) (fun hHeld => ?_)
 clear hK K
 refine wpAnyH_ready (rs := [6]) (by kernel_rfl) (by simp) ?_
 refine AllReadyH.cons rfl (fun K hK => ?_) AllReadyH.nil
 rw [if_pos (by kernel_rfl)]
 go_simp
 refine (read_by C 32 (w.heap.size + 1 + 1) _ _ (by decide) HC0.out (HC.out.only hHeld (by show ¬ _ = w.heap.size + 1 + 1 + 1; omega))).mono ?_
 rintro e w_c3 ⟨rfl, hbw_c3⟩
 have hlw_c3 := hlw_c2.belowAll hbw_c3
 refine hK.out _ _ (hHeld.trans (Only.of_below hbw_c3 _) (fun _ _ h => h)) (fun hHeld => ?_)
 clear hK K
 refine wpAnyH_ready (rs := [7]) (by kernel_rfl) (by simp) ?_
 refine AllReadyH.cons rfl (fun K hK => ?_) AllReadyH.nil
 rw [if_pos (by kernel_rfl)]
 go_simp
 refine (oplus_any (A * B) C _).mono ?_
 rintro e w_c4 ⟨rfl, hbw_c4⟩
 have hlw_c4 := hlw_c3.belowAll hbw_c4
 refine hK.out _ _ (hHeld.trans (Only.of_below hbw_c4 _) (fun _ _ h => h)) (fun hHeld => ?_)
 clear hK K
 refine wpAnyH_ready (rs := [8]) (by kernel_rfl) (by simp) ?_
 refine AllReadyH.cons rfl (fun K hK => ?_) AllReadyH.nil
 rw [if_pos (by kernel_rfl)]
 go_simp
 refine (rest_any (A * B + C) HBIG.out _ (HQW.out.only hHeld (by have := HQL.out; show ¬ _ = w.heap.size + 1 + 1 + 1; omega))).mono ?_
 rintro e w_c5 ⟨rfl, hbw_c5⟩
 have hlw_c5 := hlw_c4.belowAll hbw_c5
 refine hK.out _ _ (hHeld.trans (Only.of_below hbw_c5 _) (fun _ _ h => h)) (fun hHeld => ?_)
 clear hK K
 refine wpAnyH_ready (rs := [9]) (by kernel_rfl) (by simp) ?_
 refine AllReadyH.cons rfl (fun K hK => ?_) AllReadyH.nil
 rw [if_pos (by kernel_rfl)]
 go_simp
 refine (obytes_any ((A * B + C) % qq) _).mono ?_
 rintro e w_c6 ⟨rfl, hbw_c6⟩
 have hlw_c6 := hlw_c5.belowAll hbw_c6
 refine hK.out _ _ (hHeld.trans (Only.of_below hbw_c6 _) (fun _ _ h => h)) (fun hHeld => ?_)
 clear hK K
 refine wpAnyH_ready (rs := [10]) (by kernel_rfl) (by simp) ?_
 refine AllReadyH.cons rfl (fun K hK => ?_) AllReadyH.nil
 rw [if_pos (by kernel_rfl)]
 refine wp_store_row 22 (.tmp 6) (.tmp 16) rfl (w.heap.size + 1 + 1 + 1) (By ((A * B + C) % qq) 32).toArray rfl rfl 22 _ hlw_c6 (HS8.out _) (HO8.out _) (By_one _ _) ?_
 have hs7 := hlw_c6.setRow (By ((A * B + C) % qq) 32)
 refine hK.out _ _ (hHeld.setRow (.inl rfl)) (fun hHeld => ?_)
 clear hK K
 refine wpAnyH_done (by kernel_rfl) ?_ _
 have HF := yH hHeld
 have HG := yH hs7
 clear hHeld hs7
 go_wp2_with fail
 refine bodyPost_ret (results_cell_row (by rfl) _ _ (w.heap.size + 1 + 1 + 1) _ _ _ _ (by rfl) HG.out Tryz.underlying22 rfl (HS8.out _)) rfl ?_
 exact ⟨rfl, HB0.out.trans (HF.out.below (by rw [HSZ.out]; omega) (fun k e => by subst e; omega))⟩
set_option maxHeartbeats 1600000 in
theorem reduce_fn (A : Nat) (hA : A < 256 ^ 64) (w : World) (hq : Qt w) :
  Calls Tryz.prog 54 #[.agg (By A 64).toArray] w fun e w' => e = .returned (.agg (By (A % qq) 32).toArray) ∧ Below w.heap.size w w' := by
 have ha := (Row.new w (By A 64) 30).alloc (.cells (List.replicate 32 (Value.int .u8 0)).toArray 22)
 have hr := Row.new1 w (.cells (By A 64).toArray 30) (List.replicate 32 (Value.int .u8 0)) 22
 have hb0 := Below.alloc2 w (.cells (By A 64).toArray 30) (.cells (List.replicate 32 (Value.int .u8 0)).toArray 22)
 have hqw := hq.below hb0 hq.lt
 have hsz : ((w.alloc (.cells (By A 64).toArray 30)).alloc (.cells (List.replicate 32 (Value.int .u8 0)).toArray 22)).heap.size = w.heap.size + 1 + 1 := by simp
 have hA8 : A < M64 8 := by rw [← p64]; exact hA
 have hO6 : ∀ x, ([Value.int .u64 0, .int .u64 0, .int .u64 0, .int .u64 0, .int .u64 0, .int .u64 0, .int .u64 0, .int .u64 0]).toArray.size = (Nm x).toArray.size := fun _ => rfl
 have hS : ∀ x, (Tryz.prog.info? 103).map (·.size) = some (Nm x).toArray.size := nm_info
 have hL : ∀ x, (Tryz.prog.info? 103).map (·.size) = some (Nm x).length := nm_len
 have hS8 : ∀ x, (Tryz.prog.info? 22).map (·.size) = some (By x 32).toArray.size := by_info
 have hO8 : ∀ x, (List.replicate 32 (Value.int .u8 0)).toArray.size = (By x 32).toArray.size := fun x => by rw [List.size_toArray, List.size_toArray, By_length, List.length_replicate]
 have HO6 := yH hO6
 have HS4 := yH hS
 have HL4 := yH hL
 have HS8 := yH hS8
 have HO8 := yH hO8
 clear hO6 hS hL hS8 hO8
 have HA := yH ha
 have HR := yH hr
 have HB0 := yH hb0
 have HQW := yH hqw
 have HSZ := yH hsz
 have HA8 := yH hA8
 have HA0 := yH hA
 clear ha hr hb0 hq hqw hsz hA8 hA
 go_enter Tryz.func54, Tryz.ntmps54
 go_wp2_with fail
 refine (read_by A 64 w.heap.size 30 _ (by decide) HA0.out HA.out).mono ?_
 rintro e w4 ⟨rfl, hb4⟩
 have hr4 := HR.out.belowAll hb4
 have hbe4 := HB0.out.trans (hb4.mono (by rw [HSZ.out]; omega))
 have hq4 := HQW.out.below hb4 HQW.out.lt
 have HR4 := yH hr4
 have HBE4 := yH hbe4
 have HQ4 := yH hq4
 clear hb4 hr4 hbe4 hq4
 go_wp2_with fail
 refine (rest_any A HA8.out _ HQ4.out).mono ?_
 rintro e w5 ⟨rfl, hb5⟩
 have hr5 := HR4.out.belowAll hb5
 have hbe5 := HBE4.out.trans (hb5.mono HBE4.out.size)
 have HR5 := yH hr5
 have HBE5 := yH hbe5
 clear hb5 hr5 hbe5
 go_wp2_with fail
 refine (obytes_any (A % qq) _).mono ?_
 rintro e w6 ⟨rfl, hb6⟩
 have hr6 := HR5.out.belowAll hb6
 have hbe6 := HBE5.out.trans (hb6.mono HBE5.out.size)
 have HR6 := yH hr6
 have HBE6 := yH hbe6
 clear hb6 hr6 hbe6
 go_wp2_with (refine wpList_store_row rfl 22 (.tmp 2) (.tmp 6) rfl (w.heap.size + 1) _ rfl rfl 22 _ HR6.out (HS8.out _) (HO8.out _) (By_one _ _) ?_)
 have hgot := setRow_heap w6 (w.heap.size + 1) _ (By (A % qq) 32).toArray _ _ HR6.out
 refine bodyPost_ret (results_cell_row (by rfl) _ _ (w.heap.size + 1) _ _ _ _ (by rfl) hgot Tryz.underlying22 rfl (HS8.out _)) rfl ?_
 exact ⟨rfl, below_setRow HBE6.out (by omega) _⟩
end Go.Proofs.YtnpjecdodhkplaaGreatDoor
