/- Arrays of bytes that came in, as numbers; two numbers' bytes held against each other; numbers' bytes side by side. -/
import Derived.Test.YtklbcpaoccdmeaaDoorSum
import Derived.Test.YtklbcpaoccdmeaaDoorArrA
import Derived.Test.YtklbcpaoccdmeaaDoorArrEq
import Derived.Great.BuildSlice
namespace Go.Proofs.YtklbcpaoccdmeaaDoor
set_option maxRecDepth 100000
open Go.RowKit

theorem byt_lev : ∀ (l : List Nat), (∀ c ∈ l, c < 256) → ∀ i, i < l.length → byt (lev l) i = l.getD i 0
  | [], _, i, h => absurd h (by simp)
  | c :: l, h, 0, _ => by
    have hc := h c (List.mem_cons_self ..)
    show (c + 256 * lev l) / 2 ^ (8 * 0) % 256 = c
    rw [show 2 ^ (8 * 0) = 1 from rfl]
    omega
  | c :: l, h, i + 1, hi => by
    have hc := h c (List.mem_cons_self ..)
    have ih := byt_lev l (fun x hx => h x (List.mem_cons_of_mem _ hx)) i (by simpa using hi)
    have e : byt (c + 256 * lev l) (i + 1) = byt (lev l) i := by
      unfold byt
      have : 2 ^ (8 * (i + 1)) = 256 * 2 ^ (8 * i) := by rw [Nat.mul_add, Nat.pow_add, Nat.mul_comm]
      rw [this, ← Nat.div_div_eq_div_mul]
      congr 2
      omega
    show byt (c + 256 * lev l) (i + 1) = _
    rw [e, ih]
    rfl
theorem By_lev {l : List Nat} (h : ∀ c ∈ l, c < 256) {n : Nat} (hl : l.length = n) : By (lev l) n = l.map fun x => .int .u8 ((x : Nat) : Int) := by
  refine (By_ext (lev l) n (by rw [List.length_map, hl]) fun k hk => ?_).symm
  rw [byt_lev l h k (by omega), List.getElem?_map, List.getD, List.getElem?_eq_getElem (by omega)]
  rfl
theorem arr_by {zs : List Int} {n : Nat} (hl : zs.length = n) (hw : ∀ z ∈ zs, (Lit.int .u8 z).wf = true) : ∃ N, N < 256 ^ n ∧ (zs.map (Value.int .u8)) = By N n := by
  have hr : ∀ z ∈ zs, 0 ≤ z ∧ z ≤ 255 := fun z hz => by have := bounds_u8 (hw z hz); omega
  have hlt : ∀ c ∈ zs.map Int.toNat, c < 256 := by
    intro c hc
    obtain ⟨z, hz, rfl⟩ := List.mem_map.1 hc
    have := hr z hz
    omega
  have hll : (zs.map Int.toNat).length = n := by rw [List.length_map, hl]
  refine ⟨lev (zs.map Int.toNat), by have := lev_lt hlt; rwa [hll] at this, ?_⟩
  rw [By_lev hlt hll, List.map_map]
  refine List.map_congr_left fun z hz => ?_
  have := hr z hz
  show Value.int .u8 z = .int .u8 ((z.toNat : Nat) : Int)
  congr 1
  omega

theorem By_map (N n : Nat) : By N n = ((List.range n).map (byt N)).map fun x => Value.int .u8 ((x : Nat) : Int) := by unfold By; exact Tabs_map ..
theorem bguard32 : Tryd.prog.eqGuardType Tryd.prog.depth 23 = false := by kernel_rfl
theorem bgrd (op : BinOp) (x y : Operand) (us vs : Array Value) (w : World) : (eqGuard op 23 x y (.agg us) (.agg vs)).run Tryd.prog w = .ok () w := run_eqGuard_agg w op _ x y us vs bguard32
theorem beq_run (N M : Nat) (w : World) : (binOp .eql 23 (.agg (By N 32).toArray) (.agg (By M 32).toArray)).run Tryd.prog w = .ok (.bool (decide (((List.range 32).map (byt N)) = ((List.range 32).map (byt M))))) w := by
  obtain ⟨i, hi⟩ := info_of_underlying Tryd.underlying5
  rw [By_map, By_map]
  exact run_eql_nats w Tryd.underlying23 hi Tryd.underlying5 (by kernel_rfl) _ _ (by simp) (by simp)
theorem bne_run (N M : Nat) (w : World) : (binOp .neq 23 (.agg (By N 32).toArray) (.agg (By M 32).toArray)).run Tryd.prog w = .ok (.bool (!decide (((List.range 32).map (byt N)) = ((List.range 32).map (byt M))))) w := by
  obtain ⟨i, hi⟩ := info_of_underlying Tryd.underlying5
  rw [By_map, By_map]
  exact run_neq_nats w Tryd.underlying23 hi Tryd.underlying5 (by kernel_rfl) _ _ (by simp) (by simp)
theorem beq_same {N M : Nat} (h : N = M) (w : World) : (binOp .eql 23 (.agg (By N 32).toArray) (.agg (By M 32).toArray)).run Tryd.prog w = .ok (.bool true) w := by
  subst h
  rw [beq_run, decide_eq_true rfl]
theorem bne_same {N M : Nat} (h : N = M) (w : World) : (binOp .neq 23 (.agg (By N 32).toArray) (.agg (By M 32).toArray)).run Tryd.prog w = .ok (.bool false) w := by
  subst h
  rw [bne_run, decide_eq_true rfl]
  rfl
/-- In a region that draws its order: a comparison, by its two runs. -/
theorem yieldsIf_binop {P : Program} {ops : Array Oper} {S : World → Prop} {o : Oper} {a : Act} (hw : Region.wanted o (yielded ops a.tmps) = true) (op : BinOp) (T T2 : TypeId) (x y : Operand) (ho : o.op = .binOp op T x y T2)
    (u v r : Value) (hx : a.eval x = u) (hy : a.eval y = v) (hg : ∀ w, (eqGuard op T x y u v).run P w = .ok () w) (hb : ∀ w, (binOp op T u v).run P w = .ok r w) : YieldsIf P ops S o r a :=
  .inl ⟨hw, fun w _ => by
    unfold execOp
    simp only [ho, Sem.run_bind, Sem.run_pure, Result.andThen_ok, hx, hy, hg, hb]⟩

theorem By_zero : By 0 32 = List.replicate 32 (.int .u8 0) := by
  refine (By_ext 0 32 (by simp) fun k hk => ?_).symm
  have : byt 0 k = 0 := by unfold byt; rw [Nat.zero_div]
  rw [this, List.getElem?_replicate, if_pos hk]
  rfl

/-- Side by side. -/
def side (l : List Nat) : List Value := l.flatMap fun N => By N 32
theorem side_get : ∀ (l : List Nat) (k N j : Nat), l[k]? = some N → j < 32 → (side l)[k * 32 + j]? = (By N 32)[j]?
  | [], k, N, j, h, _ => by simp at h
  | M :: l, 0, N, j, h, hj => by
    obtain rfl : M = N := by simpa using h
    show (By M 32 ++ side l)[0 * 32 + j]? = _
    rw [Nat.zero_mul, Nat.zero_add, List.getElem?_append_left (by rw [By_length]; exact hj)]
  | M :: l, k + 1, N, j, h, hj => by
    have ih := side_get l k N j (by simpa using h) hj
    show (By M 32 ++ side l)[(k + 1) * 32 + j]? = _
    rw [List.getElem?_append_right (by rw [By_length]; omega), By_length, show (k + 1) * 32 + j - 32 = k * 32 + j by omega, ih]
theorem side_arrs (w : World) (l : List Nat) (T : TypeId) : Arrs (w.alloc (.cells (side l).toArray T)) w.heap.size 0 l := by
  intro k N hN j v hv
  have hj : j < 32 := by
    have := (List.getElem?_eq_some_iff.1 hv).1
    rwa [By_length] at this
  have hr : Row (w.alloc (.cells (side l).toArray T)) w.heap.size T (side l) := Row.new w (side l) T
  rw [show 0 + k * 32 + j = k * 32 + j by omega]
  refine hr.cell ?_
  rw [side_get l k N j hN hj]
  exact hv
/-- A block of numbers' bytes. -/
def ArrB (w : World) (b : Nat) (l : List Nat) : Prop := b < w.heap.size ∧ Arrs w b 0 l
theorem ArrB.below {w w' : World} {b : Nat} {l : List Nat} (h : ArrB w b l) (hb : Below w.heap.size w w') : ArrB w' b l := ⟨Nat.lt_of_lt_of_le h.1 hb.size, h.2.keep (hb.block b h.1)⟩
theorem ArrB.alloc {w : World} {b : Nat} {l : List Nat} (h : ArrB w b l) (o : Obj) : ArrB (w.alloc o) b l := h.below ((Below.refl _ _).alloc (Nat.le_refl _) _)
theorem ArrB.new (w : World) (l : List Nat) (T : TypeId) : ArrB (w.alloc (.cells (side l).toArray T)) w.heap.size l := ⟨by simp, side_arrs w l T⟩
theorem ArrB.new2 (w : World) (l : List Nat) (T : TypeId) (b : Nat) (h : w.heap.size = b) : ArrB (w.alloc (.cells (side l).toArray T)) b l := h ▸ ArrB.new w l T
theorem wp_buildArrs {o : Oper} {a : Act} {w : World} {K : Act → World → Prop} {Q : Exit → Act → World → Prop} (len : Nat) (parts : Array (Nat × Operand)) (ho : o.op = .buildSlice 31 len parts)
    (l : List Nat) (hlen : len = l.length) (hpos : 0 < len) (hsm : len < 1000) (hp : (parts.toList.map fun y => (y.1, a.eval y.2)) = ((l.map fun N => Value.agg (By N 32).toArray).zipIdx 0).map fun x => (x.2, x.1))
    (h : K (a.put o.dst (.slice (some ⟨w.heap.size, 0, none⟩) len len)) (w.alloc (.cells (side l).toArray 23))) : o.wp Tryd.prog a w K Q := by
  have hinf : ((Tryd.prog.info? 23).map fun i => (i.zero.isSome, i.size)) = some (true, 32) := by kernel_rfl
  obtain ⟨ie, hie, hz⟩ := Option.map_eq_some_iff.1 hinf
  simp only [Prod.mk.injEq] at hz
  obtain ⟨z, hzz⟩ := Option.isSome_iff_exists.1 hz.1
  refine wp_buildSlice 31 23 len parts ho (side l).toArray ie z Tryd.underlying31 hie hzz (by rw [hz.2]; omega) (by rw [hz.2]; omega) ?_ h
  rw [Array.toList_map, show (parts.toList.map fun (i, x) => (i, a.eval x)) = (parts.toList.map fun y => (y.1, a.eval y.2)) from rfl, hp, hz.2]
  have hw := Great.fill_whole (s := 32) (by decide) (l.map fun N => Value.agg (By N 32).toArray) ((Array.range (len * 32)).map (z.cells[· % z.cells.size]!)) (fun v hv => by
    obtain ⟨N, _, rfl⟩ := List.mem_map.1 hv
    show (By N 32).toArray.size = 32
    rw [List.size_toArray, By_length]) (by simp [hlen])
  rw [hw]
  congr 2
  unfold side
  rw [List.flatMap_map]
  rfl

end Go.Proofs.YtklbcpaoccdmeaaDoor
