/- The document's example of errors in places; the first error of some; what is told of nil. -/
import Derived.Test.YtaekepejeokciaaDoorNilA
namespace Go.Proofs.YtaekepejeokciaaDoor
set_option maxRecDepth 100000
open Go.RowKit

theorem chain2 (w : World) : Ch ((w.alloc (.cells #[.int .i64 3, .iface 29 (.int .i64 2)] 42)).alloc (.cells #[.int .i64 7, .iface 38 (.pointer (some ⟨w.heap.size, 0, none⟩))] 42)) [7, 3] 2 (w.heap.size + 2) (.iface 38 (.pointer (some ⟨w.heap.size + 1, 0, none⟩))) := by
  have e : ∀ o, (w.alloc o).heap.size = w.heap.size + 1 := fun o => by simp
  refine ⟨w.heap.size + 1, _, rfl, by omega, by rw [← e]; exact heap_alloc_new _ _, w.heap.size, _, rfl, by omega, ?_, rfl⟩
  have hb : Below (w.heap.size + 1) (w.alloc (.cells #[.int .i64 3, .iface 29 (.int .i64 2)] 42)) ((w.alloc (.cells #[.int .i64 3, .iface 29 (.int .i64 2)] 42)).alloc (.cells #[.int .i64 7, .iface 38 (.pointer (some ⟨w.heap.size, 0, none⟩))] 42)) := (Below.refl _ _).alloc (by simp) _
  exact (hb.block w.heap.size (by omega)).trans (heap_alloc_new _ _)

theorem below_drewN {B n : Nat} {a w : World} (h : Below B a w) : Below B a (w.drewN n) := ⟨h.os, h.tape, h.output, h.size, h.block⟩

theorem own_two (w : World) (base : Nat) (hb : base ≤ w.heap.size) (p q : Int) : (w.alloc (.cells #[.int .i64 p, .int .i64 q] 3)).ownsRow base 3 1 (.slice (some ⟨w.heap.size, 0, none⟩) 2 2) 2 (Is [p, q]) :=
  ⟨rfl, .inr ⟨w.heap.size, 2, #[.int .i64 p, .int .i64 q], rfl, hb, heap_alloc_new w _, Nat.le_refl _, by unfold maxLen; omega, rfl, rfl⟩⟩

set_option maxHeartbeats 1000000 in
theorem awake1_any (w : World) (hg : ErrTy w) :
    Calls Tryd.prog 14 #[] w fun e w' => e = .returned (.bool true) ∧ Below w.heap.size w w' := by
  have hb2 : Below w.heap.size w ((w.alloc (.cells #[.int .i64 3, .iface 29 (.int .i64 2)] 42)).alloc (.cells #[.int .i64 7, .iface 38 (.pointer (some ⟨w.heap.size, 0, none⟩))] 42)) := ((Below.refl _ _).alloc (Nat.le_refl _) _).alloc (by simp) _
  have HB := Lib.hid hb2
  have HC := Lib.hid (chain2 w)
  have HG := Lib.hid (hg.below hb2 hg.pos)
  clear hg hb2
  go_enter Tryd.func14, Tryd.ntmps14
  go_wp2_with fail
  refine (wrap_some _ _ _ _).mono ?_
  rintro e w1 ⟨rfl, rfl⟩
  go_wp2_with fail
  refine (wrap_some _ _ _ _).mono ?_
  rintro e w2 ⟨rfl, hw2⟩
  simp only [World.size_alloc] at hw2 ⊢
  subst hw2
  go_wp2_with fail
  refine (code_any [7, 3] 2 _ _ _ HC.out (by decide) HG.out).mono ?_
  rintro e w3 ⟨rfl, hb3⟩
  have HB3 := Lib.hid hb3
  clear hb3
  go_wp2_with fail
  refine (place_any [7, 3] 2 _ _ _ (HC.out.below HB3.out) (by decide) (HG.out.below HB3.out HG.out.pos)).mono ?_
  rintro e w4 ⟨rfl, hb4⟩
  have HB4 := Lib.hid (HB3.out.trans (hb4.mono HB3.out.size))
  clear hb4 HB3
  have hp : plc [7, 3] = 7 := rfl
  rw [hp]
  go_wp2_with fail
  refine (places_any [7, 3] 2 _ _ _ (HC.out.below HB4.out) (by decide) (HG.out.below HB4.out HG.out.pos)).mono ?_
  rintro e w5 ⟨v5, rfl, ho5, hb5⟩
  obtain ⟨A5, c5, rfl⟩ := own_slice ho5
  have HB5 := Lib.hid (HB4.out.trans (hb5.mono HB4.out.size))
  have HO5 := Lib.hid ho5
  clear hb5 HB4 ho5
  go_wp2_with fail
  refine (ints_same _ _ _ _ _ _ [7, 3] _ _ _ (by decide) (Rd.of_own (own_below HO5.out ((Below.refl _ _).alloc (Nat.le_refl _) _))) (Rd.of_own (own_two w5 0 (Nat.zero_le _) 7 3))).mono ?_
  rintro e w6 ⟨rfl, q, rfl⟩
  go_wp2_with fail
  go_ret
  exact ⟨rfl, below_drewN ((HB.out.trans (HB5.out.mono HB.out.size)).alloc (by have := HB.out.size; have := HB5.out.size; omega) _)⟩

/-- The first error of some. -/
def fst : List Value → Value
  | [] => .nilIface
  | .nilIface :: r => fst r
  | u :: _ => u
theorem fst_skip {xs : List Value} : ∀ {k : Nat}, (∀ j, j < k → xs[j]? = some .nilIface) → fst xs = fst (xs.drop k)
  | 0, _ => rfl
  | k + 1, h => by
    rw [fst_skip (k := k) fun j hj => h j (by omega)]
    have hk := h k (by omega)
    have hl : k < xs.length := (List.getElem?_eq_some_iff.1 hk).1
    rw [List.drop_eq_getElem_cons hl, show xs[k] = .nilIface from (List.getElem?_eq_some_iff.1 hk).2]
    rfl

set_option maxHeartbeats 400000 in
theorem first_any (a : Option Addr) (n c : Nat) (xs : List Value) (F : Nat → Prop) (w : World) (hn : n ≤ 9223372036854775807) (hr : Rd w F a n xs) (hx : ∀ u ∈ xs, u = .nilIface ∨ ∃ T x, u = .iface T x) :
    Calls Tryd.prog 22 #[.slice a n c] w fun e w' => e = .returned (fst xs) ∧ w' = w := by
  have HR := Lib.hid hr
  have HX := Lib.hid hx
  clear hr hx
  go_enter Tryd.func22, Tryd.ntmps22
  go_wp2_with fail
  go_loopw [7] (fun i wr => ∃ k : Nat, k ≤ n ∧ i = .int .i64 k ∧ wr = w ∧ ∀ j, j < k → xs[j]? = some .nilIface) (fun i _ => n - (intOf i).toNat)
  case atStart => exact ⟨0, Nat.zero_le _, rfl, rfl, fun j hj => by omega⟩
  case round =>
    obtain ⟨k, hk, rfl, rfl, hj⟩ := hrel
    have HJ := Lib.hid hj
    clear hj
    by_cases hlt : k < n
    · obtain ⟨a0, u, rfl, hab, hu, hca⟩ := HR.out.at_ hlt
      have HU := Lib.hid hu
      rcases HX.out u (List.mem_of_getElem? hu) with rfl | ⟨T, x, rfl⟩
      · clear hu
        go_wp2_with fail
        go_roundw
        case rel =>
          refine ⟨k + 1, by omega, by go_num, by trivial, fun j hj => ?_⟩
          by_cases e : j = k
          · subst e; exact HU.out
          · exact HJ.out j (by omega)
        case measure => simp [intOf]; omega
      · clear hu
        have hf : fst xs = .iface T x := by
          rw [fst_skip HJ.out]
          have hl : k < xs.length := by have := HR.out.1; omega
          rw [List.drop_eq_getElem_cons hl, show xs[k] = .iface T x from (List.getElem?_eq_some_iff.1 HU.out).2]
          rfl
        have HF := Lib.hid hf
        clear hf
        go_wp2_with fail
        go_ret
        exact ⟨by rw [HF.out]; rfl, rfl⟩
    · have he : ¬ (k : Int) < n := by omega
      have hf : fst xs = .nilIface := by
        rw [fst_skip HJ.out, List.drop_eq_nil_of_le (by have := HR.out.1; omega)]
        rfl
      have HF := Lib.hid hf
      clear hf
      go_wp2_with fail
      go_ret
      exact ⟨by rw [HF.out]; rfl, rfl⟩

set_option maxHeartbeats 400000 in
theorem is_nil (v : Value) (w : World) :
    Calls Tryd.prog 23 #[.nilIface, v] w fun e w' => e = .returned (.bool false) ∧ w' = w := by
  go_enter Tryd.func23, Tryd.ntmps23
  go_wp2_with fail
  go_ret
  exact ⟨rfl, rfl⟩
set_option maxHeartbeats 400000 in
theorem wrap_nil (v : Value) (w : World) :
    Calls Tryd.prog 16 #[.nilIface, v] w fun e w' => e = .returned .nilIface ∧ w' = w := by
  go_enter Tryd.func16, Tryd.ntmps16
  go_wp2_with fail
  go_ret
  exact ⟨rfl, rfl⟩
set_option maxHeartbeats 400000 in
theorem unwrap_nil (w : World) :
    Calls Tryd.prog 20 #[.pointer none] w fun e w' => e = .returned .nilIface ∧ w' = w := by
  go_enter Tryd.func20, Tryd.ntmps20
  go_wp2_with fail
  go_ret
  exact ⟨rfl, rfl⟩

set_option maxHeartbeats 2000000 in
theorem fnone_law (p c : Int) (w : World) (hg : ErrTy w) :
    Calls Tryd.prog 6 #[.int .i64 p, .int .i64 c] w fun e w' => e = .returned (.bool true) ∧ Below w.heap.size w w' := by
  have HG := Lib.hid hg
  clear hg
  go_enter Tryd.func6, Tryd.ntmps6
  go_wp2_with fail
  refine (wrap_nil _ _).mono ?_
  rintro e w1 ⟨rfl, rfl⟩
  go_wp2_with fail
  refine (code_nil _).mono ?_
  rintro e w2 ⟨rfl, hb2⟩
  have HB2 := Lib.hid hb2
  clear hb2
  go_wp2_with fail
  refine (place_nil _).mono ?_
  rintro e w3 ⟨rfl, hb3⟩
  have HB3 := Lib.hid (HB2.out.trans (hb3.mono HB2.out.size))
  clear hb3 HB2
  go_wp2_with fail
  refine (places_nil _).mono ?_
  rintro e w4 ⟨rfl, hb4⟩
  have HB4 := Lib.hid (HB3.out.trans (hb4.mono HB3.out.size))
  clear hb4 HB3
  go_wp2_with fail
  refine (first_any none 0 0 [] (fun _ => True) _ (by decide) (Rd.nil _ _ _) (fun u hu => by cases hu)).mono ?_
  rintro e w5 ⟨rfl, rfl⟩
  rw [show fst [] = .nilIface from rfl]
  go_wp2_with fail
  refine (first_any _ 2 2 [.nilIface, .nilIface] _ _ (by decide) (Rd.lit _ _ _ _ rfl 2 rfl) (fun u hu => .inl (by simpa using hu))).mono ?_
  rintro e w6 ⟨rfl, rfl⟩
  rw [show fst [.nilIface, .nilIface] = .nilIface from rfl]
  have HB6 := Lib.hid (HB4.out.alloc HB4.out.size (.cells #[.nilIface, .nilIface] 24))
  clear HB4
  go_wp2_with fail
  refine (is_nil _ _).mono ?_
  rintro e w7 ⟨rfl, rfl⟩
  have HB7 := Lib.hid (HB6.out.alloc HB6.out.size (.cells #[.int .i64 c] 29))
  clear HB6
  go_wp2_with fail
  refine (unwrap_nil _).mono ?_
  rintro e w8 ⟨rfl, rfl⟩
  go_wp2_with fail
  refine (awake1_any _ (HG.out.below HB7.out HG.out.pos)).mono ?_
  rintro e w9 ⟨rfl, hb9⟩
  have HB9 := Lib.hid (HB7.out.trans (hb9.mono HB7.out.size))
  clear hb9 HB7
  go_wp2_with fail
  go_ret
  exact ⟨rfl, HB9.out⟩

end Go.Proofs.YtaekepejeokciaaDoor
