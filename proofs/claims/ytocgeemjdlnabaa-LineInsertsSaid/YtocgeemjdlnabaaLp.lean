/- The document's example; LineInserts' walk. -/
import Derived.Test.YtocgeemjdlnabaaLo
namespace Go.Proofs.Ytocgeemjdlnabaa
set_option maxRecDepth 100000
set_option linter.unusedSimpArgs false
set_option linter.unusedVariables false
open Go.RowKit

theorem wpList_buildMks {ops : Array Oper} {rest : List Oper} {o : Oper} {a : Act} {w : World} {Q : Exit → Act → World → Prop} (hgd : o.guard = none) (len : Nat) (parts : Array (Nat × Operand)) (ho : o.op = .buildSlice 22 len parts)
    (l : List Mk) (hlen : len = l.length) (hpos : 0 < len) (hsm : len < 1000) (hp : (parts.toList.map fun y => (y.1, a.eval y.2)) = ((l.map fun x => Value.agg (Mk.c x).toArray).zipIdx 0).map fun x => (x.2, x.1))
    (h : wpList Try.prog ops Q rest (a.put o.dst (.slice (some ⟨w.heap.size, 0, none⟩) len len)) (w.alloc (.cells (flatM l).toArray 26))) : wpList Try.prog ops Q (o :: rest) a w :=
  wpList_plain hgd fun _ hK => wp_buildMks len parts ho l hlen hpos hsm hp (hK _ _ h)
def zh : Hs := ⟨List.replicate 32 0, by simp⟩
theorem RdHM.lit (w : World) (l : List Mk) : RdHM (w.alloc (.cells (flatM l).toArray 26)) (some ⟨w.heap.size, 0, none⟩) l.length l :=
  RdHM.rowM (R := []) (by rw [List.append_nil]; exact Row.new w (flatM l) _) rfl
theorem So_ex : So [((2 : Int), zh), (1, zh)] = [((1 : Int), zh), (2, zh)] := by
  refine (So_of ?_ fun x => ?_).symm
  · refine List.pairwise_cons.2 ⟨fun x hx => ?_, List.pairwise_singleton _ _⟩
    rw [List.mem_singleton] at hx
    subst hx
    exact (Mk.lt_iff _ _).2 (Or.inl (by decide))
  · simp only [List.mem_cons, List.not_mem_nil, or_false]
    exact or_comm
set_option maxHeartbeats 3200000 in
theorem awake18 (w : World) : Calls Try.prog 8 #[] w fun e w' => e = .returned (.bool true) ∧ Below w.heap.size w w' := by
  have HB1 := Lib.hid (below_newE w (.cells (flatM [((2 : Int), zh), (1, zh)]).toArray 26))
  have HS := Lib.hid (sort_So (some ⟨w.heap.size, 0, none⟩) 2 2 [((2 : Int), zh), (1, zh)] _ (RdHM.lit w _) (by omega))
  have hs := So_ex
  have HE := Lib.hid hs
  go_enter Try.func8, Try.ntmps8
  go_wp2_with (refine wpList_buildMks rfl 2 _ rfl [((2 : Int), zh), (1, zh)] rfl (by omega) (by omega) (by kernel_rfl) ?_)
  refine HS.out.mono ?_
  rintro e W1 ⟨v, rfl, ho, hb⟩
  rw [HE.out] at ho
  obtain ⟨A, c, rfl, hr⟩ := RdHM.own ho
  have HB2 := Lib.hid (HB1.out.trans (hb.mono HB1.out.size))
  have HB3 := Lib.hid (below_newE W1 (.cells (flatM [((1 : Int), zh), (2, zh)]).toArray 26))
  have HSM := Lib.hid (rsame_any A _ 2 2 c 2 [((1 : Int), zh), (2, zh)] [((1 : Int), zh), (2, zh)] _ (hr.keep HB3.out) (RdHM.lit W1 _) (by omega))
  rw [decide_eq_true rfl] at HSM
  clear ho hb hr
  go_wp2_with (refine wpList_buildMks rfl 2 _ rfl [((1 : Int), zh), (2, zh)] rfl (by omega) (by omega) (by kernel_rfl) ?_)
  refine HSM.out.mono ?_
  rintro e W2 ⟨rfl, hb⟩
  have HB4 := Lib.hid ((HB2.out.trans (HB3.out.mono HB2.out.size)).trans (hb.mono (Nat.le_trans HB2.out.size HB3.out.size)))
  clear hb
  go_wp2_with fail
  go_ret
  exact ⟨rfl, HB4.out⟩

set_option maxHeartbeats 6400000 in
theorem inserts_walk (A : Option Addr) (n c : Nat) (D : List Mk) (m : Mk) (w : World) (hr : RdHM w A n D) :
    Calls Try.prog 4 #[.slice A n c, .agg (Mk.c m).toArray] w fun e w' => e = .returned (.bool true) ∧ Below w.heap.size w w' := by
  have HA := Lib.hid awake18
  have HB0 := Lib.hid (below_newE w (.cells (Mk.c m).toArray 26))
  by_cases h80 : 80 < n
  · have h80i : (80 : Int) < (n : Int) := by omega
    clear hr
    generalize (Mk.c m).toArray = x at *
    go_enter Try.func4, Try.ntmps4
    go_wp2_with fail
    refine (HA.out _).mono ?_
    rintro e w' ⟨rfl, hb⟩
    have HB := Lib.hid (HB0.out.trans (hb.mono HB0.out.size))
    clear hb
    go_wp2_with fail
    go_ret
    exact ⟨rfl, HB.out⟩
  have h80i : ¬ (80 : Int) < (n : Int) := by omega
  have R1 := Row.new w (Mk.c m) 26
  have hs0 : (w.alloc (.cells (Mk.c m).toArray 26)).heap.size = w.heap.size + 1 := by simp
  have HR0 := Lib.hid (hr.keep HB0.out)
  have HM0 := Lib.hid (show (w.alloc (.cells (Mk.c m).toArray 26)).rangeAt w.heap.size 0 (Mk.c m) from fun j v hv => R1.cell (by rw [Nat.zero_add]; exact hv))
  have HIM := Lib.hid (hs_infoEM m)
  clear hr R1
  go_enter Try.func4, Try.ntmps4
  go_wp2_with fail
  generalize hW0 : (w.alloc (.cells (Mk.c m).toArray 26)) = W0 at *
  have HMM := Lib.hid (fun (w' : World) (h : Below W0.heap.size W0 w') => range_below HM0.out h (by omega))
  have hDn := HR0.out.1
  refine (rsort_any A n c D W0 HR0.out (by omega)).mono ?_
  rintro e W1 ⟨A1, n1, c1, rfl, hr1, hp1, hnc1, hb1⟩
  have hn1 : n1 ≤ 80 := by
    have h1 := hr1.1
    have h2 := So_len D
    omega
  have HR1 := Lib.hid hr1
  have HB1 := Lib.hid hb1
  have HI1 := Lib.hid (rinsert_any A1 n1 c1 (So D) m W1 hr1 hp1 hnc1 (by omega))
  clear hr1 hb1
  go_wp2_with (refine wpList_load_mid rfl 26 (.tmp 3) rfl w.heap.size 0 rfl (Mk.c m) _ (HMM.out _ HB1.out) Try.underlying26 rfl HIM.out ?_)
  refine HI1.out.mono ?_
  rintro e W2 ⟨A2, n2, c2, rfl, hr2, hp2, hnc2, hb2⟩
  have HR2 := Lib.hid hr2
  have HB2 := Lib.hid (HB1.out.trans (hb2.mono HB1.out.size))
  have HR12 := Lib.hid (HR1.out.keep hb2)
  have HI2 := Lib.hid (insert_any A1 n1 c1 (So D) m W2 HR12.out hp1 hnc1 (So_asc D) (by omega))
  clear hr2 hb2
  go_wp2_with (refine wpList_load_mid rfl 26 (.tmp 3) rfl w.heap.size 0 rfl (Mk.c m) _ (HMM.out _ HB2.out) Try.underlying26 rfl HIM.out ?_)
  refine HI2.out.mono ?_
  rintro e W3 ⟨v3, rfl, ho3, hb3⟩
  obtain ⟨A3, c3, rfl, hr3⟩ := RdHM.own ho3
  have HR3 := Lib.hid hr3
  have HB3 := Lib.hid (HB2.out.trans (hb3.mono HB2.out.size))
  have HR13 := Lib.hid (HR12.out.keep hb3)
  have HR23 := Lib.hid (HR2.out.keep hb3)
  have HI3 := Lib.hid (place_any A1 n1 c1 (So D) m W3 HR13.out (So_asc D) (by omega))
  clear hr3 hb3 ho3
  go_wp2_with (refine wpList_load_mid rfl 26 (.tmp 3) rfl w.heap.size 0 rfl (Mk.c m) _ (HMM.out _ HB3.out) Try.underlying26 rfl HIM.out ?_)
  refine HI3.out.mono ?_
  rintro e W4 ⟨rfl, hb4⟩
  have HB4 := Lib.hid (HB3.out.trans (hb4.mono HB3.out.size))
  have hil := ins_len (So D) m
  have h1l := HR1.out.1
  have HSM := Lib.hid (rsame_any A3 A2 _ n2 c3 c2 _ _ W4 (HR3.out.keep hb4) (HR23.out.keep hb4) (by omega))
  rw [decide_eq_true rfl] at HSM
  clear hb4
  generalize (ins (So D) m).length = n3 at *
  generalize pl (So D) m = k at *
  generalize isAt (So D) m = r at *
  go_wp2_with fail
  refine HSM.out.mono ?_
  rintro e W5 ⟨rfl, hb5⟩
  have HB5 := Lib.hid (HB4.out.trans (hb5.mono HB4.out.size))
  clear hb5
  have hrr : (r == r) = true := by simp
  have hrr2 : ((!r) == (!r)) = true := by simp
  go_wp2_with fail
  refine (HA.out _).mono ?_
  rintro e W6 ⟨rfl, hb6⟩
  have HB6 := Lib.hid (HB5.out.trans (hb6.mono HB5.out.size))
  clear hb6
  go_wp2_with fail
  go_ret
  exact ⟨rfl, HB0.out.trans (HB6.out.mono HB0.out.size)⟩

end Go.Proofs.Ytocgeemjdlnabaa
