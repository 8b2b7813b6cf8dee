/- The entry of the example: its parts, its content. -/
import Derived.Test.YtkhadfliandpmaaGreatEl
import Derived.Test.YtkhadfliandpmaaGreatEh
namespace Go.Proofs.YtkhadfliandpmaaGreat
set_option maxRecDepth 100000
set_option linter.unusedSimpArgs false
set_option linter.unusedVariables false
open Go.RowKit

abbrev z8 (n : Nat) : List Value := List.replicate n (.int .u8 0)
def enE : List Value := [.int .i64 1] ++ (z8 32 ++ ([.slice none 0 0] ++ (opE ++ (leafL ++ (z8 32 ++ z8 64)))))
theorem enE_len : enE.length = 160 := by kernel_rfl
theorem enE_info : (Tryz.prog.info? 55).map (·.size) = some enE.toArray.size := by kernel_rfl
theorem get_drop {l B C : List Value} {off : Nat} (h : l.drop off = B ++ C) {j : Nat} {v : Value} (hj : B[j]? = some v) : l[off + j]? = some v := by
  rw [← List.getElem?_drop, h, List.getElem?_append_left (List.getElem?_eq_some_iff.1 hj).1]
  exact hj
theorem enE_op : enE.drop 34 = opE ++ (leafL ++ (z8 32 ++ z8 64)) := by kernel_rfl
theorem enE_lens : enE.drop 44 = leafL ++ (z8 32 ++ z8 64) := by kernel_rfl
theorem enE_ver : enE.drop 1 = z8 32 ++ ([.slice none 0 0] ++ (opE ++ (leafL ++ (z8 32 ++ z8 64)))) := by kernel_rfl
theorem enE_key : enE.drop 64 = z8 32 ++ z8 64 := by kernel_rfl
theorem enE_sig : enE.drop 96 = z8 64 ++ [] := by kernel_rfl
theorem row_range {w : World} {g : Nat} {T : TypeId} {l B C : List Value} {off : Nat} (h : Row w g T l) (hd : l.drop off = B ++ C) : w.rangeAt g off B := fun j v hj => h.cell (get_drop hd hj)
theorem zB (n : Nat) : z8 n = Bs (List.replicate n 0) := by
  unfold z8 Bs
  rw [List.map_replicate]
  rfl
theorem row_zeros {w : World} {g n off : Nat} {T : TypeId} {l C : List Value} (h : Row w g T l) (hd : l.drop off = z8 n ++ C) (hn : 0 < n) : Rd w (fun k => k = g) (some ⟨g, off, none⟩) n (Bs (List.replicate n 0)) :=
  ⟨by rw [Bs_length, List.length_replicate], fun _ => ⟨_, rfl, rfl, h.lt, fun j u hj => by
    rw [← zB] at hj
    rw [Addr.add_mid]
    exact row_range h hd j u hj⟩⟩
theorem eqs_hash (p : Option Addr) (c : Nat) (w : World) : Calls Tryz.prog 35 #[.slice none 0 0, .slice p 0 c] w fun e w' => e = .returned (.bool true) ∧ w' = w := by
  go_enter Tryz.func35, Tryz.ntmps35
  go_wp2_with fail
  refine wp_loop_rounds 1 ?_
  rw [rounds_succ]
  go_wp2_with fail
  go_ret
  exact ⟨rfl, rfl⟩
theorem rise_nil (w : World) : Calls Tryz.prog 18 #[.slice none 0 0] w fun e w' => e = .returned (.bool true) ∧ Below w.heap.size w w' := by
  have HS := Lib.hid ((sort_any none 0 0 [] w ⟨rfl, fun h => absurd h (by omega)⟩ (by omega)).mono fun e w' ⟨v, h1, h2, h3⟩ => (show ∃ p c, e = Ending.returned (.slice p 0 c) ∧ Below w.heap.size w w' from by
    subst h1
    rcases h2.2 with ⟨rfl, _⟩ | ⟨g, cap, cur, rfl, _⟩
    · exact ⟨none, 0, rfl, h3⟩
    · exact ⟨_, cap, rfl, h3⟩))
  go_enter Tryz.func18, Tryz.ntmps18
  go_wp2_with fail
  refine HS.out.mono ?_
  rintro e W1 ⟨p, c, rfl, hb⟩
  have HB := Lib.hid hb
  clear hb
  go_wp2_with fail
  refine (eqs_hash _ _ _).mono ?_
  rintro e W2 ⟨rfl, rfl⟩
  go_wp2_with fail
  go_ret
  exact ⟨rfl, HB.out⟩
/-- A load under a guard that is wanted, by its run. -/
theorem wpList_loadgE {P : Program} {ops : Array Oper} {rest : List Oper} {o : Oper} {a : Act} {w : World} {Q : Exit → Act → World → Prop} (hw : Region.wanted o (yielded ops a.tmps) = true) (ty : TypeId) (x : Operand) (ho : o.op = .load ty x) (u r : Value) (hx : a.eval x = u)
    (hi : (Instr.loadAt ty u).run P w = .ok r w) (h : wpList P ops Q rest (a.put o.dst r) w) : wpList P ops Q (o :: rest) a w := by
  refine BigFrame.wpList_want hw fun K hK => ?_
  unfold Oper.wp execOp
  simp only [ho, Sem.run_bind, Sem.run_pure, Result.andThen_ok, hx, hi]
  exact hK _ _ h
set_option maxHeartbeats 1600000 in
theorem content_any (w : World) : Calls Tryz.prog 19 #[.agg enE.toArray] w fun e w' => ∃ A c, e = .returned (.tuple #[.slice A 3 c, .nilIface]) ∧ w'.ownsRow w.heap.size 5 1 (.slice A 3 c) 3 (Bs [3, 0, 3]) ∧ Below w.heap.size w w' := by
  have HR := Lib.hid (Row.new w enE 55)
  have HB := Lib.hid (below_newE w (.cells enE.toArray 55))
  have HL := Lib.hid (fun (w' : World) (h : Row w' w.heap.size 55 enE) => run_loadAt_mid (P := Tryz.prog) w' w.heap.size 44 50 leafL _ (row_range h enE_lens) Tryz.underlying50 rfl (by kernel_rfl))
  have HO := Lib.hid (fun (w' : World) (h : Row w' w.heap.size 55 enE) => run_loadAt_mid (P := Tryz.prog) w' w.heap.size 34 43 opE _ (row_range h enE_op) Tryz.underlying43 rfl (by kernel_rfl))
  have c0 := HR.out.cell (k := 0) rfl
  have HSL := Lib.hid sameL
  have HEN := Lib.hid encode_op
  generalize enE.toArray = X at *
  go_enter Tryz.func19, Tryz.ntmps19
  go_wp2_with (refine wpList_loadgE (by rfl) 50 (.tmp 10) rfl _ _ rfl (HL.out _ HR.out) ?_)
  refine (HSL.out _).mono ?_
  rintro e W1 ⟨rfl, hb⟩
  have HR1 := Lib.hid (HR.out.belowAll hb)
  have HB1 := Lib.hid (HB.out.trans (hb.mono HB.out.size))
  clear hb c0
  go_wp2_with (refine wpList_loadgE (by rfl) 43 (.tmp 14) rfl _ _ rfl (HO.out _ HR1.out) ?_)
  refine (HEN.out _).mono ?_
  rintro e W2 ⟨A, c, rfl, ho, hb⟩
  have HOW := Lib.hid (own_base ho HB1.out.size)
  have HB2 := Lib.hid (HB1.out.trans (hb.mono HB1.out.size))
  clear ho hb
  go_wp2_with fail
  go_ret2
  exact ⟨_, _, rfl, HOW.out, HB2.out⟩

end Go.Proofs.YtkhadfliandpmaaGreat
