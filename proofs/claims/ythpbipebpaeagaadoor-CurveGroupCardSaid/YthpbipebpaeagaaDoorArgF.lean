/- Arrays of bytes that came in, as numbers; two numbers' bytes held against each other. -/
import Derived.Test.YthpbipebpaeagaaDoorDw
import Derived.Test.YthpbipebpaeagaaDoorArrA
import Derived.Test.YthpbipebpaeagaaDoorArrEq
namespace Go.Proofs.YthpbipebpaeagaaDoor
set_option maxRecDepth 100000
open Go.RowKit

theorem byt_lev : ∀ (l : List Nat), (∀ c ∈ l, c < 256) → ∀ i, i < l.length → byt (lev l) i = l.getD i 0
  | [], _, i, h => absurd h (by simp)
  | c :: l, h, 0, _ => by
    have hc := h c (List.mem_cons_self ..)
    show (c + 256 * lev l) / 2 ^ (8 * 0) % 256 = c
    rw [show 2 ^ (8 * 0) = 1 from rfl]
    omega
  | c :: l, h, i + 1, hi => by
    have hc := h c (List.mem_cons_self ..)
    have ih := byt_lev l (fun x hx => h x (List.mem_cons_of_mem _ hx)) i (by simpa using hi)
    have e : byt (c + 256 * lev l) (i + 1) = byt (lev l) i := by
      unfold byt
      have : 2 ^ (8 * (i + 1)) = 256 * 2 ^ (8 * i) := by rw [Nat.mul_add, Nat.pow_add, Nat.mul_comm]
      rw [this, ← Nat.div_div_eq_div_mul]
      congr 2
      omega
    show byt (c + 256 * lev l) (i + 1) = _
    rw [e, ih]
    rfl
theorem By_lev {l : List Nat} (h : ∀ c ∈ l, c < 256) {n : Nat} (hl : l.length = n) : By (lev l) n = l.map fun x => .int .u8 ((x : Nat) : Int) := by
  refine (By_ext (lev l) n (by rw [List.length_map, hl]) fun k hk => ?_).symm
  rw [byt_lev l h k (by omega), List.getElem?_map, List.getD, List.getElem?_eq_getElem (by omega)]
  rfl
theorem arr_by {zs : List Int} {n : Nat} (hl : zs.length = n) (hw : ∀ z ∈ zs, (Lit.int .u8 z).wf = true) : ∃ N, N < 256 ^ n ∧ (zs.map (Value.int .u8)) = By N n := by
  have hr : ∀ z ∈ zs, 0 ≤ z ∧ z ≤ 255 := fun z hz => by have := bounds_u8 (hw z hz); omega
  have hlt : ∀ c ∈ zs.map Int.toNat, c < 256 := by
    intro c hc
    obtain ⟨z, hz, rfl⟩ := List.mem_map.1 hc
    have := hr z hz
    omega
  have hll : (zs.map Int.toNat).length = n := by rw [List.length_map, hl]
  refine ⟨lev (zs.map Int.toNat), by have := lev_lt hlt; rwa [hll] at this, ?_⟩
  rw [By_lev hlt hll, List.map_map]
  refine List.map_congr_left fun z hz => ?_
  have := hr z hz
  show Value.int .u8 z = .int .u8 ((z.toNat : Nat) : Int)
  congr 1
  omega

theorem By_map (N n : Nat) : By N n = ((List.range n).map (byt N)).map fun x => Value.int .u8 ((x : Nat) : Int) := by unfold By; exact Tabs_map ..
theorem bguard32 : Tryd.prog.eqGuardType Tryd.prog.depth 22 = false := by kernel_rfl
theorem bgrd (op : BinOp) (x y : Operand) (us vs : Array Value) (w : World) : (eqGuard op 22 x y (.agg us) (.agg vs)).run Tryd.prog w = .ok () w := run_eqGuard_agg w op _ x y us vs bguard32
theorem beq_run (N M : Nat) (w : World) : (binOp .eql 22 (.agg (By N 32).toArray) (.agg (By M 32).toArray)).run Tryd.prog w = .ok (.bool (decide (((List.range 32).map (byt N)) = ((List.range 32).map (byt M))))) w := by
  obtain ⟨i, hi⟩ := info_of_underlying Tryd.underlying5
  rw [By_map, By_map]
  exact run_eql_nats w Tryd.underlying22 hi Tryd.underlying5 (by kernel_rfl) _ _ (by simp) (by simp)
theorem bne_run (N M : Nat) (w : World) : (binOp .neq 22 (.agg (By N 32).toArray) (.agg (By M 32).toArray)).run Tryd.prog w = .ok (.bool (!decide (((List.range 32).map (byt N)) = ((List.range 32).map (byt M))))) w := by
  obtain ⟨i, hi⟩ := info_of_underlying Tryd.underlying5
  rw [By_map, By_map]
  exact run_neq_nats w Tryd.underlying22 hi Tryd.underlying5 (by kernel_rfl) _ _ (by simp) (by simp)
theorem beq_same {N M : Nat} (h : N = M) (w : World) : (binOp .eql 22 (.agg (By N 32).toArray) (.agg (By M 32).toArray)).run Tryd.prog w = .ok (.bool true) w := by
  subst h
  rw [beq_run, decide_eq_true rfl]
theorem bne_same {N M : Nat} (h : N = M) (w : World) : (binOp .neq 22 (.agg (By N 32).toArray) (.agg (By M 32).toArray)).run Tryd.prog w = .ok (.bool false) w := by
  subst h
  rw [bne_run, decide_eq_true rfl]
  rfl
/-- In a region that draws its order: a comparison, by its two runs. -/
theorem yieldsIf_binop {P : Program} {ops : Array Oper} {S : World → Prop} {o : Oper} {a : Act} (hw : Region.wanted o (yielded ops a.tmps) = true) (op : BinOp) (T T2 : TypeId) (x y : Operand) (ho : o.op = .binOp op T x y T2)
    (u v r : Value) (hx : a.eval x = u) (hy : a.eval y = v) (hg : ∀ w, (eqGuard op T x y u v).run P w = .ok () w) (hb : ∀ w, (binOp op T u v).run P w = .ok r w) : YieldsIf P ops S o r a :=
  .inl ⟨hw, fun w _ => by
    unfold execOp
    simp only [ho, Sem.run_bind, Sem.run_pure, Result.andThen_ok, hx, hy, hg, hb]⟩

theorem By_zero : By 0 32 = List.replicate 32 (.int .u8 0) := by
  refine (By_ext 0 32 (by simp) fun k hk => ?_).symm
  have : byt 0 k = 0 := by unfold byt; rw [Nat.zero_div]
  rw [this, List.getElem?_replicate, if_pos hk]
  rfl


end Go.Proofs.YthpbipebpaeagaaDoor
