import Derived.Test.YtnpjecdodhkplaaGreatDoorSV
import Derived.Test.YtnpjecdodhkplaaGreatDoorTF
namespace Go.Proofs.YtnpjecdodhkplaaGreatDoor
set_option maxRecDepth 100000
set_option linter.unusedSimpArgs false
set_option linter.unusedVariables false
open Go.RowKit
open Lib renaming hid → yH
theorem wp_allocK {P : Program} {o : Oper} {a : Act} {w : World} {K : Act → World → Prop} {Q : Exit → Act → World → Prop} (T : TypeId) (z : List Value) (ho : o.op = .alloc T)
  (hrun : ∀ w : World, (Instr.alloc T true (.tuple #[])).run P w = .ok (.pointer (some ⟨w.heap.size, 0, none⟩)) (w.alloc (.cells z.toArray T)))
  (h : K (a.put o.dst (.pointer (some ⟨w.heap.size, 0, none⟩))) (w.alloc (.cells z.toArray T))) : o.wp P a w K Q := by
 have he : (execOp a.eval o).run P w = .ok (.value (.pointer (some ⟨w.heap.size, 0, none⟩))) (w.alloc (.cells z.toArray T)) := by
  unfold execOp
  simp only [ho, Sem.run_bind, Sem.run_pure, hrun, Result.andThen_ok]
 unfold Oper.wp
 rw [he]
 exact h
theorem region_cut {P : Program} {ops : Array Oper} {id : Nat} {Q : Exit → Act → World → Prop} {a : Act} {W : World} (Post : Act → World → Prop)
  (h : (Code.region id ops true).wp P (fun e a' w' => e = .normal ∧ Post a' w') a W) (hend : ∀ a' w', Post a' w' → Q .normal a' w') : (Code.region id ops true).wp P Q a W :=
 Code.wp_mono (fun e a w hp => by obtain ⟨rfl, hp⟩ := hp; exact hend a w hp) h
theorem sum_ref (xs : List Nat) {a : Option Addr} {n cap : Nat} (w : World) (hx : ∀ x ∈ xs, x < 256) (hr : Rd w (fun _ => True) a n (N8 xs)) (hn : n < 1000000) :
  Calls Tryz.prog 50 #[.slice a n cap] w fun e w' => e = .returned (.agg (By (shN xs) 64).toArray) ∧ Below w.heap.size w w' := by
 have h := doc64 xs a n cap _ w hx hr (by omega)
 rw [dig_By] at h
 exact h
theorem hash_ref (xs : List Nat) {a : Option Addr} {n cap : Nat} (w : World) (hx : ∀ x ∈ xs, x < 256) (hr : Rd w (fun _ => True) a n (N8 xs)) (hn : n < 1000000) :
  Calls Tryz.prog 46 #[.slice a n cap] w fun e w' => e = .returned (.agg (By (hN xs) 32).toArray) ∧ Below w.heap.size w w' := by
 have hW := Below.alloc1 w (.cells (By 0 32).toArray 22)
 have hz := Row.new w (By 0 32) 22
 have hs := sum_ref xs (cap := cap) _ hx (hr.belowAll hW) hn
 have hd := fun w => reduce_doc (shN xs) (dgN_lt _) w
 have e0 : shN xs % qq = hN xs := rfl
 rw [e0] at hd
 clear e0
 generalize shN xs = S at *
 generalize hN xs = V at *
 have HS := yH hs
 have HD := yH hd
 have HZ := yH hz
 have HW := yH hW
 clear hW hz hs hd hr hx
 go_enter Tryz.func46, Tryz.ntmps46
 go_wp2_with fail
 rw [z32r]
 refine HS.out.mono ?_
 rintro e w1 ⟨rfl, hb⟩
 have HZ1 := yH (HZ.out.belowAll hb)
 have HW1 := yH (HW.out.trans (hb.mono HW.out.size))
 clear hb
 go_wp2_with fail
 refine (HD.out _).mono ?_
 rintro e w2 ⟨rfl, hb⟩
 have HZ2 := yH (HZ1.out.belowAll hb)
 have HW2 := yH (HW1.out.trans (hb.mono HW1.out.size))
 clear hb
 go_wp2_with (refine wpList_store_row rfl 22 (.tmp 2) (.tmp 5) rfl w.heap.size _ rfl rfl 22 _ HZ2.out (by_info _) (By_sz _ _) (By_one32 _) ?_)
 have HR := yH (HZ2.out.setRow (By V 32))
 go_wp2_with fail
 refine bodyPost_ret (results_cell_row (by rfl) _ _ w.heap.size _ _ _ _ (by rfl) HR.out Tryz.underlying22 rfl (by_info _)) rfl ?_
 exact ⟨rfl, below_setRow HW2.out (Nat.le_refl _) _⟩
theorem N8_nb (N : Nat) : By N 32 = N8 (nb N 32) := By_nb N 32
theorem N8_ones (l : List Nat) : ∀ u ∈ N8 l, u.oneCell' = true := by
 intro u hu
 obtain ⟨x, _, rfl⟩ := List.mem_map.1 hu
 rfl
theorem nb3_lt (F K : Nat) {l : List Nat} (hx : ∀ x ∈ l, x < 256) : ∀ x ∈ nb F 32 ++ (nb K 32 ++ l), x < 256 := by
 intro x h
 rcases List.mem_append.1 h with h | h
 ·exact nb_lt F 32 x h
 rcases List.mem_append.1 h with h | h
 ·exact nb_lt K 32 x h
 ·exact hx x h
theorem wp_none {o : Oper} {a : Act} {w : World} {K : Act → World → Prop} {Q : Exit → Act → World → Prop} (ho : o.op = .buildSlice 24 0 #[])
  (h : K (a.put o.dst (.slice (some ⟨w.heap.size, 0, none⟩) 0 0)) (w.alloc (.cells #[] 5))) : o.wp Tryz.prog a w K Q := by
 unfold Oper.wp execOp
 simp only [ho]
 go_simp
 exact h
theorem wp_store_byte {o : Oper} {a : Act} {w : World} {K : Act → World → Prop} {Q : Exit → Act → World → Prop} (x y : Operand) (ho : o.op = .store 5 x y) (p : Addr) (u : Value) (n : Int)
  (hx : a.eval x = .pointer (some p)) (hy : a.eval y = .int .u8 n) (hc : w.cell? p = some u) (hf : w.frozen? p = false)
  (h : K (a.put o.dst undef) (w.setCell p (.int .u8 n))) : o.wp Tryz.prog a w K Q := by
 unfold Oper.wp execOp
 simp only [ho, hx, hy]
 go_simp
 exact h
theorem own_ne {w : World} {B n g : Nat} {v : Value} {L l : List Value} (ho : w.ownsRow B 5 1 v n L) (hc : Row w g 22 l) : some g ≠ v.ownBlock := by
 rcases ho.2 with ⟨rfl, _⟩ | ⟨q, cap, cur, rfl, _, hq, _⟩
 ·intro e; cases e
 ·intro e
  obtain rfl : g = q := Option.some.inj e
  unfold Row at hc
  rw [hc] at hq
  injection hq with hq
  injection hq with _ hq
  exact absurd hq (by decide)
theorem ix64 (g m : Nat) (h : m < 64) (w : World) : (Instr.indexAt 30 (.pointer (some ⟨g, 0, none⟩)) (.int .i64 (m : Int))).run Tryz.prog w = .ok (.pointer (some ⟨g, m, none⟩)) w := by
 have h1 : (0 : Int) ≤ (m : Int) := by omega
 have h2 : (m : Int) < 64 := by omega
 have e : (⟨g, 0, none⟩ : Addr).add m = ⟨g, m, none⟩ := by rw [Addr.add_mid, Nat.zero_add]
 go_simp
 try rw [e]
theorem ix32 (g m : Nat) (h : m < 32) (w : World) : (Instr.indexAt 22 (.pointer (some ⟨g, 0, none⟩)) (.int .i64 (m : Int))).run Tryz.prog w = .ok (.pointer (some ⟨g, m, none⟩)) w := by
 have h2 := ix_by g 0 m h w
 rwa [Nat.zero_add] at h2
theorem intAd (x y z : Nat) (h : x + y = z) (hz : z < 1000000) (w : World) : (binOp .add 3 (.int .i64 (x : Int)) (.int .i64 (y : Int))).run Tryz.prog w = .ok (.int .i64 (z : Int)) w := by
 have e1 : (x : Int) + (y : Int) = (z : Int) := by omega
 have e : IntKind.i64.wrap (z : Int) = (z : Int) := IntWalk.i64_in _ (by omega)
 go_simp
 try rw [e1]
 try rw [e]
theorem intAdg (x y : Operand) (u v : Value) (w : World) : (eqGuard .add 3 x y u v).run Tryz.prog w = .ok () w := by rfl
theorem tg {P : Program} {ops : Array Oper} {Q : Exit → Act → World → Prop} {S : World → Prop} (i d : Nat) {oi : Oper} {v : Value} {fuel : Nat} {listed : Array Bool} {a : Act} {w : World} (hi : ops[i]? = some oi) (hd : oi.dst = some d)
  (hc : (Region.noSelect ops && (Region.free .any ops listed i && (Region.ready .any ops listed).contains i)) = true)
  (hQ : ∀ c a w, Q (.panic c) (a.put oi.dst v) w → Q (.panic c) a w) (hg : Region.wanted oi (yielded ops a.tmps) = true) (hS : S w) (hy : ∀ w, S w → (execOp a.eval oi).run P w = .ok (.value v) w)
  (h : wpAnyH P .any ops Q S fuel (listed.setIfInBounds i true) (a.put (some d) v) w) : wpAnyH P .any ops Q S (fuel + 1) listed a w :=
 tk i d hi hd hc hQ hg hy hS h
theorem ex_move {P : Program} {o : Oper} {a : Act} {w : World} {x : Operand} {v : Value} (ho : o.op = .move x) (hx : a.eval x = v) : (execOp a.eval o).run P w = .ok (.value v) w := by
 unfold execOp
 simp only [ho, hx, Sem.run_pure]
theorem ex_ix {P : Program} {o : Oper} {a : Act} {w : World} (T : TypeId) (x y : Operand) (ho : o.op = .indexAddr T x y) (u v r : Value) (hx : a.eval x = u) (hy : a.eval y = v) (hi : (Instr.indexAt T u v).run P w = .ok r w) : (execOp a.eval o).run P w = .ok (.value r) w := by
 unfold execOp
 simp only [ho, hx, hy, Sem.run_bind, Sem.run_pure, hi, Result.andThen_ok]
theorem ex_ld {P : Program} {o : Oper} {a : Act} {w : World} (T : TypeId) (x : Operand) (ho : o.op = .load T x) (u r : Value) (hx : a.eval x = u) (hi : (Instr.loadAt T u).run P w = .ok r w) : (execOp a.eval o).run P w = .ok (.value r) w := by
 unfold execOp
 simp only [ho, hx, Sem.run_bind, Sem.run_pure, hi, Result.andThen_ok]
theorem ex_bin {P : Program} {o : Oper} {a : Act} {w : World} (op : BinOp) (T T2 : TypeId) (x y : Operand) (ho : o.op = .binOp op T x y T2) (u v r : Value) (hx : a.eval x = u) (hy : a.eval y = v)
  (hg : (eqGuard op T x y u v).run P w = .ok () w) (hi : (binOp op T u v).run P w = .ok r w) : (execOp a.eval o).run P w = .ok (.value r) w := by
 unfold execOp
 simp only [ho, hx, hy, Sem.run_bind, Sem.run_pure, hg, hi, Result.andThen_ok]
end Go.Proofs.YtnpjecdodhkplaaGreatDoor
