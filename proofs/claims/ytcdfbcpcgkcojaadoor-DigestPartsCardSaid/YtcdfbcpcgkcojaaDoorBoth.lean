/- Both sums of one part, the program's and the document's: the same bytes. -/
import Derived.Test.YtcdfbcpcgkcojaaDoorRArr32
import Derived.Test.YtcdfbcpcgkcojaaDoorRArr64
import Derived.Test.YtcdfbcpcgkcojaaDoorShaM32
import Derived.Test.YtcdfbcpcgkcojaaDoorShaM64
import Derived.Test.YtcdfbcpcgkcojaaDoorS512
import Derived.Test.YtcdfbcpcgkcojaaDoorAwk
import Derived.Test.YtcdfbcpcgkcojaaDoorArrEq
namespace Go.Proofs.YtcdfbcpcgkcojaaDoor
set_option maxRecDepth 100000
open Go.RowKit

theorem dig32_doc {xs : List Nat} (hx : ∀ x ∈ xs, x < 256) (hn : xs.length < 1152921504606846976) : Tabs .u8 (sby32 (hf32 ((msg32 xs).length / 64) ini32 (msg32 xs)).list) 32 = dig32 (fed32 beg32 xs) := by
  unfold dig32
  rw [fnl32_doc hx hn]
theorem dig64_doc {xs : List Nat} (hx : ∀ x ∈ xs, x < 256) (hn : xs.length < 1152921504606846976) : Tabs .u8 (sby64 (hf64 ((msg64 xs).length / 128) ini64 (msg64 xs)).list) 64 = dig64 (fed64 beg64 xs) := by
  unfold dig64
  rw [fnl64_doc hx hn]
theorem doc32 (xs : List Nat) (a : Option Addr) (n cap : Nat) (F : Nat → Prop) (w : World) (hx : ∀ x ∈ xs, x < 256) (hr : Rd w F a n (Ny xs)) (hn : n < 1099511627776) :
    Calls Tryd.prog 10 #[.slice a n cap] w fun e w' => e = .returned (.agg (dig32 (fed32 beg32 xs)).toArray) ∧ Below w.heap.size w w' := by
  have hl : xs.length = n := by have := hr.1; rwa [Ny_len] at this
  have h := docsum32 xs a n cap F w hx hr hn
  rwa [dig32_doc hx (by omega)] at h
theorem doc64 (xs : List Nat) (a : Option Addr) (n cap : Nat) (F : Nat → Prop) (w : World) (hx : ∀ x ∈ xs, x < 256) (hr : Rd w F a n (Ny xs)) (hn : n < 1099511627776) :
    Calls Tryd.prog 12 #[.slice a n cap] w fun e w' => e = .returned (.agg (dig64 (fed64 beg64 xs)).toArray) ∧ Below w.heap.size w w' := by
  have hl : xs.length = n := by have := hr.1; rwa [Ny_len] at this
  have h := docsum64 xs a n cap F w hx hr hn
  rwa [dig64_doc hx (by omega)] at h

theorem one_parts (xs : List Nat) (a : Option Addr) (n c : Nat) (F : Nat → Prop) (w : World) (hx : ∀ x ∈ xs, x < 256) (hr : Rd w F a n (Ny xs)) (T : TypeId) :
    Parts (w.alloc (.cells #[.slice a n c] T)) (· < (w.alloc (.cells #[.slice a n c] T)).heap.size) [.slice a n c] [xs] := by
  refine ⟨rfl, fun j p hj => ?_⟩
  have hj0 : j = 0 := by
    have := (List.getElem?_eq_some_iff.1 hj).1
    simpa using this
  subst hj0
  obtain rfl : xs = p := by simpa using hj
  refine ⟨hx, a, n, c, rfl, ?_⟩
  have h : Rd w F a n (xs.map fun x => .int .u8 ((x : Nat) : Int)) := hr
  exact (h.keep (by simp) (fun k _ hl => Below.heap_alloc _ _ _ hl)).mono (fun k hl _ => hl)
theorem one256 (xs : List Nat) (a : Option Addr) (n c : Nat) (F : Nat → Prop) (w : World) (hk : Ks32 w) (hs : Ss32 w) (hx : ∀ x ∈ xs, x < 256) (hr : Rd w F a n (Ny xs)) (hn : n < 1099511627776) :
    Calls Tryd.prog 9 #[.slice (some ⟨w.heap.size, 0, none⟩) 1 1] (w.alloc (.cells #[.slice a n c] 22)) fun e w' => e = .returned (.agg (dig32 (fed32 beg32 xs)).toArray) ∧ Below w.heap.size w w' := by
  have hl : xs.length = n := by have := hr.1; rwa [Ny_len] at this
  have hb : Below w.heap.size w (w.alloc (.cells #[.slice a n c] 22)) := (Below.refl _ _).alloc (Nat.le_refl _) _
  have hf : [xs].flatten = xs := by simp
  have h := sum256 [xs] [.slice a n c] (some ⟨w.heap.size, 0, none⟩) 1 1 _ (hk.below hb hk.lt) (hs.below hb hs.lt) ((Rd.lit w [.slice a n c] #[.slice a n c] 22 rfl 1 rfl).mono (fun _ _ _ => trivial)) (one_parts xs a n c F w hx hr _) (by decide) (by rw [hf]; omega)
  rw [hf] at h
  exact h.mono fun e w' ⟨he, hb'⟩ => ⟨he, hb.trans (hb'.mono (by simp))⟩
theorem one512 (xs : List Nat) (a : Option Addr) (n c : Nat) (F : Nat → Prop) (w : World) (hk : Ks64 w) (hs : Ss64 w) (hx : ∀ x ∈ xs, x < 256) (hr : Rd w F a n (Ny xs)) (hn : n < 1099511627776) :
    Calls Tryd.prog 11 #[.slice (some ⟨w.heap.size, 0, none⟩) 1 1] (w.alloc (.cells #[.slice a n c] 22)) fun e w' => e = .returned (.agg (dig64 (fed64 beg64 xs)).toArray) ∧ Below w.heap.size w w' := by
  have hl : xs.length = n := by have := hr.1; rwa [Ny_len] at this
  have hb : Below w.heap.size w (w.alloc (.cells #[.slice a n c] 22)) := (Below.refl _ _).alloc (Nat.le_refl _) _
  have hf : [xs].flatten = xs := by simp
  have h := sum512 [xs] [.slice a n c] (some ⟨w.heap.size, 0, none⟩) 1 1 _ (hk.below hb hk.lt) (hs.below hb hs.lt) ((Rd.lit w [.slice a n c] #[.slice a n c] 22 rfl 1 rfl).mono (fun _ _ _ => trivial)) (one_parts xs a n c F w hx hr _) (by decide) (by rw [hf]; omega)
  rw [hf] at h
  exact h.mono fun e w' ⟨he, hb'⟩ => ⟨he, hb.trans (hb'.mono (by simp))⟩

/-- Such arrays held against each other. -/
theorem guard32 : Tryd.prog.eqGuardType Tryd.prog.depth 24 = false := by kernel_rfl
theorem guard64 : Tryd.prog.eqGuardType Tryd.prog.depth 27 = false := by kernel_rfl
theorem info_of {P : Program} {t : TypeId} {d : TypeDesc} (h : P.underlying t = some d) : ∃ i, P.info? t = some i := info_of_underlying h
theorem same32 (t : S8x32 × List Nat × Nat) (w : World) : (Op.equalIn 10000 24 (.agg (dig32 t).toArray) (.agg (dig32 t).toArray)).run Tryd.prog w = .ok true w := by
  obtain ⟨i, hi⟩ := info_of Tryd.underlying5
  have hm : dig32 t = ((List.range 32).map (sby32 (fnl32 t).list)).map fun x => Value.int .u8 ((x : Nat) : Int) := by unfold dig32; exact Tabs_map ..
  have hm2 : dig32 t = (((List.range 32).map (sby32 (fnl32 t).list)).map fun x => ((x : Nat) : Int)).map (Value.int .u8) := by rw [hm, List.map_map]; rfl
  rw [hm2, run_equalIn_ints w 9998 Tryd.underlying24 hi Tryd.underlying5 (by kernel_rfl) _ _ (by simp) (by simp)]
  simp
theorem same64 (t : S8x64 × List Nat × Nat) (w : World) : (Op.equalIn 10000 27 (.agg (dig64 t).toArray) (.agg (dig64 t).toArray)).run Tryd.prog w = .ok true w := by
  obtain ⟨i, hi⟩ := info_of Tryd.underlying5
  have hm : dig64 t = ((List.range 64).map (sby64 (fnl64 t).list)).map fun x => Value.int .u8 ((x : Nat) : Int) := by unfold dig64; exact Tabs_map ..
  have hm2 : dig64 t = (((List.range 64).map (sby64 (fnl64 t).list)).map fun x => ((x : Nat) : Int)).map (Value.int .u8) := by rw [hm, List.map_map]; rfl
  rw [hm2, run_equalIn_ints w 9998 Tryd.underlying27 hi Tryd.underlying5 (by kernel_rfl) _ _ (by simp) (by simp)]
  simp
theorem eql32 (t : S8x32 × List Nat × Nat) (w : World) : (binOp .eql 24 (.agg (dig32 t).toArray) (.agg (dig32 t).toArray)).run Tryd.prog w = .ok (.bool true) w := by
  rw [run_eql_struct, same32]
  rfl
theorem eql64 (t : S8x64 × List Nat × Nat) (w : World) : (binOp .eql 27 (.agg (dig64 t).toArray) (.agg (dig64 t).toArray)).run Tryd.prog w = .ok (.bool true) w := by
  rw [run_eql_struct, same64]
  rfl
theorem neq32 (t : S8x32 × List Nat × Nat) (w : World) : (binOp .neq 24 (.agg (dig32 t).toArray) (.agg (dig32 t).toArray)).run Tryd.prog w = .ok (.bool false) w := by
  rw [run_neq_struct, same32]
  rfl
theorem grd32 (op : BinOp) (x y : Operand) (us vs : Array Value) (w : World) : (eqGuard op 24 x y (.agg us) (.agg vs)).run Tryd.prog w = .ok () w := run_eqGuard_agg w op _ x y us vs guard32
theorem grd64 (op : BinOp) (x y : Operand) (us vs : Array Value) (w : World) : (eqGuard op 27 x y (.agg us) (.agg vs)).run Tryd.prog w = .ok () w := run_eqGuard_agg w op _ x y us vs guard64

end Go.Proofs.YtcdfbcpcgkcojaaDoor
