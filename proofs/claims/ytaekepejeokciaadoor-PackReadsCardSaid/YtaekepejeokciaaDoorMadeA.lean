/- The document's own errors: a number and its places; one place more. -/
import Derived.Test.YtaekepejeokciaaDoorPlcC
namespace Go.Proofs.YtaekepejeokciaaDoor
set_option maxRecDepth 100000
open Go.RowKit

/-- append at a step of a region that draws its order; the source may be nil or empty. -/
theorem step_append_rd {P : Program} {w : World} {ops : Array Oper} {o : Oper} {a : Act} {K : Act → World → Prop} {Q : Exit → Act → World → Prop} {E : Prop} (hgd : o.guard = none) (s x : Operand) (t : TypeId)
    (ho : o.op = .call { callee := .builtin .append, args := #[s, x], argTypes := #[t, t] })
    (base : Nat) (e : TypeId) (i : TypeInfo) (z : Value) (bytes : Nat) (ht : P.underlying t = some (.slice e)) (hi : P.info? e = some i) (hz : i.zero = some z)
    (hsize : i.size = 1) (hby : i.bytes = bytes) (hzs : z.cells.size = 1)
    (v : Value) (n : Nat) (xs : List Value) (hs : a.eval s = v) (hown : w.ownsRow base e 1 v n xs)
    (F : Nat → Prop) (A : Option Addr) (m c : Nat) (news : List Value) (hx : a.eval x = .slice A m c) (hr : Rd w F A m news) (h1 : ∀ u ∈ news, u.oneCell' = true)
    (h63 : n + m ≤ maxLen) (hbytes : (n + m) * bytes ≤ 140737488355328) (hbase : base ≤ w.heap.size)
    (h : ∀ v' w', w'.ownsRow base e 1 v' (n + m) (xs ++ news) → w.grownBy w' v.ownBlock → (v'.ownBlock = v.ownBlock ∨ v'.ownBlock = some w.heap.size) → K (a.put o.dst v') w') :
    if Region.wanted o (yielded ops a.tmps) = true then Oper.wp P o a w K Q else E := by
  have hw : Region.wanted o (yielded ops a.tmps) = true := by simp [Region.wanted, hgd]
  rw [if_pos hw]
  obtain ⟨v', w', hrun, h2, h3, h4⟩ := append_rd (P := P) w base t o.type e i z bytes ht hi hz hsize hby hzs v n xs hown F A m c news hr h1 h63 hbytes hbase
  unfold Oper.wp execOp
  simp only [ho, resolve, invoke, builtin, Sem.run_bind, Sem.run_pure, Result.andThen_ok, List.map_toArray, List.map_cons, List.map_nil, hs, hx, hrun]
  exact h v' w' h2 h3 h4

theorem own_one (w : World) (base H : Nat) (hb : base ≤ w.heap.size) (hH : w.heap.size = H) (p : Int) : (w.alloc (.cells #[.int .i64 p] 3)).ownsRow base 3 1 (.slice (some ⟨H, 0, none⟩) 1 1) 1 [.int .i64 p] := by
  subst hH
  exact ⟨rfl, .inr ⟨w.heap.size, 1, #[.int .i64 p], rfl, hb, heap_alloc_new w _, Nat.le_refl _, by unfold maxLen; omega, rfl, rfl⟩⟩

theorem own_set {w : World} {base : Nat} {e : TypeId} {v : Value} {n : Nat} {xs : List Value} {a : Addr} {u : Value} (h : w.ownsRow base e 1 v n xs) (hne : v.ownBlock ≠ some a.block) : (w.setCell a u).ownsRow base e 1 v n xs :=
  h.kept (row := some a.block) ⟨rfl, rfl, rfl, by simp, fun j _ hj => Below.heap_setCell _ _ _ _ (fun e => hj (by rw [e]))⟩ (.inr hne)
theorem set_two {w : World} {b : Nat} {x y x' y' : Value} {t : TypeId} (h : w.heap[b]? = some (.cells #[x, y] t (0, 0))) : ((w.setCell ⟨b, 0, none⟩ x').setCell ⟨b, 1, none⟩ y').heap[b]? = some (.cells #[x', y'] t (0, 0)) :=
  heap_setCell_same _ b 1 _ t y' (heap_setCell_same w b 0 _ t x' h)

/-- The world in which the document's Wrap has laid its argument and its answer. -/
def wrapW (w : World) (n : Int) (v : Value) : World := (w.alloc (.cells #[.int .i64 n, v] 26)).alloc (.cells #[.int .i64 0, .slice none 0 0] 26)

theorem fault_size : (Tryd.prog.info? 26).map (·.size) = some 2 := by kernel_rfl

set_option maxHeartbeats 400000 in
theorem refwrap_zero (v : Value) (p : Int) (w : World)  :
    Calls Tryd.prog 41 #[.agg #[.int .i64 0, v], .int .i64 p] w fun e w' => e = .returned (.agg #[.int .i64 0, .slice none 0 0]) ∧ Below w.heap.size w w' := by
  go_enter Tryd.func41, Tryd.ntmps41
  go_wp2_with fail
  refine bodyPost_ret (results_cell_row (by rfl) _ _ (w.heap.size + 1) _ _ _ _ (by rfl) (heap_alloc2_new _ _ _) Tryd.underlying26 rfl fault_size) rfl ?_
  exact ⟨rfl, ((Below.refl _ _).alloc (Nat.le_refl _) _).alloc (by simp) _⟩

set_option maxHeartbeats 1000000 in
theorem refwrap_any (n : Int) (A : Option Addr) (m c : Nat) (ps : List Int) (F : Nat → Prop) (p : Int) (w : World) (hn : n ≠ 0) (hr : Rd w F A m (Is ps)) (hm : m ≤ 1000) :
    Calls Tryd.prog 41 #[.agg #[.int .i64 n, .slice A m c], .int .i64 p] w fun e w' => ∃ v', e = .returned (.agg #[.int .i64 n, v']) ∧ w'.ownsRow w.heap.size 3 1 v' (1 + m) (Is (p :: ps)) ∧ Below w.heap.size w w' := by
  obtain ⟨i0, hi, hz0, hz1, hz2⟩ := info_parts int_info
  have q : (n == 0) = false := beq_eq_false_iff_ne.2 hn
  have hb2 : Below w.heap.size w (wrapW w n (.slice A m c)) := ((Below.refl _ _).alloc (Nat.le_refl _) _).alloc (by simp) _
  have hb3 : Below w.heap.size w ((wrapW w n (.slice A m c)).alloc (.cells #[.int .i64 p] 3)) := hb2.alloc hb2.size _
  have HR3 := Lib.hid (hr.belowAll hb3.drew)
  have HB3 := Lib.hid hb3
  have hsz : (wrapW w n (.slice A m c)).heap.size = w.heap.size + 2 := by simp [wrapW]
  have HO := Lib.hid ((own_one (wrapW w n (.slice A m c)) w.heap.size (w.heap.size + 2) (by omega) hsz p).drew)
  have hblk : ((wrapW w n (.slice A m c)).alloc (.cells #[.int .i64 p] 3)).heap[w.heap.size + 1]? = some (.cells #[.int .i64 0, .slice none 0 0] 26 (0, 0)) :=
    (heap_alloc_old _ _ (by omega)).trans (heap_alloc2_new _ _ _)
  have hk0 : ((wrapW w n (.slice A m c)).alloc (.cells #[.int .i64 p] 3)).drew.cell? ⟨w.heap.size + 1, 0, none⟩ = some (.int .i64 0) := by rw [World.cell?_drew, cell_of_row _ _ 0 _ _ _ hblk]; rfl
  have hk1 : ((wrapW w n (.slice A m c)).alloc (.cells #[.int .i64 p] 3)).drew.cell? ⟨w.heap.size + 1, 1, none⟩ = some (.slice none 0 0) := by rw [World.cell?_drew, cell_of_row _ _ 1 _ _ _ hblk]; rfl
  have hf0 : ((wrapW w n (.slice A m c)).alloc (.cells #[.int .i64 p] 3)).drew.frozen? ⟨w.heap.size + 1, 0, none⟩ = false := by rw [World.frozen?_drew]; exact frozen_of_row _ _ _ _ _ hblk
  have hf1 : ((wrapW w n (.slice A m c)).alloc (.cells #[.int .i64 p] 3)).drew.frozen? ⟨w.heap.size + 1, 1, none⟩ = false := by rw [World.frozen?_drew]; exact frozen_of_row _ _ _ _ _ hblk
  have HK0 := Lib.hid hk0
  have HK1 := Lib.hid hk1
  have HF0 := Lib.hid hf0
  have HF1 := Lib.hid hf1
  have HBK := Lib.hid hblk
  clear hr hb2 hb3 hk0 hk1 hf0 hf1 hblk
  go_enter Tryd.func41, Tryd.ntmps41
  go_wp2_with fail
  go_region_held3 (fun w' => w'.cell? ⟨w.heap.size, 0, none⟩ = some (.int .i64 n) ∧ w'.cell? ⟨w.heap.size, 1, none⟩ = some (.slice A m c))
    (first
      | go_keep
      | (go_split_ands
         refine ⟨?_, ?_⟩
         · (rw [hgrow.cell_far _ (by simp; omega) (by simp [Value.ownBlock])]; assumption)
         · (rw [hgrow.cell_far _ (by simp; omega) (by simp [Value.ownBlock])]; assumption)))
    ((refine step_append_rd (by rfl) (.tmp 12) (.tmp 14) 22 (by rfl) w.heap.size 3 i0 (.int .i64 0) 8 Tryd.underlying22 hi hz0 hz1 hz2 rfl (.slice (some ⟨w.heap.size + 2, 0, none⟩) 1 1) 1 [.int .i64 p] (by rfl) HO.out F A m c (Is ps) (by rfl) HR3.out (Is_one ps) (by unfold maxLen; omega) (by omega) (by simp <;> omega) ?_; intro v2 w2 hown2 hgrow hat; obtain ⟨A2, c2, rfl⟩ := own_slice hown2;
      have k0 : w2.cell? ⟨w.heap.size + 1, 0, none⟩ = some (.int .i64 0) := (hgrow.cell_far _ (by simp) (by simp [Value.ownBlock])).trans HK0.out;
      have k1 : w2.cell? ⟨w.heap.size + 1, 1, none⟩ = some (.slice none 0 0) := (hgrow.cell_far _ (by simp) (by simp [Value.ownBlock])).trans HK1.out;
      have k2 : w2.frozen? ⟨w.heap.size + 1, 0, none⟩ = false := (hgrow.frozen_far _ (by simp) (by simp [Value.ownBlock])).trans HF0.out;
      have k3 : w2.frozen? ⟨w.heap.size + 1, 1, none⟩ = false := (hgrow.frozen_far _ (by simp) (by simp [Value.ownBlock])).trans HF1.out))
  have hw2 : w2.heap[w.heap.size + 1]? = some (.cells #[.int .i64 0, .slice none 0 0] 26 (0, 0)) := (hgrow.block _ (by simp) (by simp [Value.ownBlock])).trans HBK.out
  have hw3 := set_two (x' := .int .i64 n) (y' := .slice A2 (1 + m) c2) hw2
  have hb4 : Below w.heap.size w w2 := (HB3.out.drew).grown hgrow (by exact HB3.out.size) (fun k hk => by simp [Value.ownBlock] at hk; omega)
  have hb5 : Below w.heap.size w ((w2.setCell ⟨w.heap.size + 1, 0, none⟩ (.int .i64 n)).setCell ⟨w.heap.size + 1, 1, none⟩ (.slice A2 (1 + m) c2)) := (hb4.setCell (by simp) _).setCell (by simp) _
  have hne : (Value.slice A2 (1 + m) c2).ownBlock ≠ some (w.heap.size + 1) := by
    rcases hat with h | h
    · rw [h]; simp [Value.ownBlock]
    · rw [h]; intro e; injection e with e; simp at e <;> omega
  have hrow : ((w2.setCell ⟨w.heap.size + 1, 0, none⟩ (.int .i64 n)).setCell ⟨w.heap.size + 1, 1, none⟩ (.slice A2 (1 + m) c2)).ownsRow w.heap.size 3 1 (.slice A2 (1 + m) c2) (1 + m) (Is (p :: ps)) :=
    own_set (own_set hown2 hne) hne
  have HW := Lib.hid hw3
  have HB5 := Lib.hid hb5
  have HRW := Lib.hid hrow
  clear hw2 hw3 hb4 hb5 hne hrow hown2 hgrow hat
  go_wp2_with fail
  refine bodyPost_ret (results_cell_row (by rfl) _ _ (w.heap.size + 1) _ _ _ _ (by rfl) HW.out Tryd.underlying26 rfl fault_size) rfl ?_
  exact ⟨_, rfl, HRW.out, HB5.out⟩

end Go.Proofs.YtaekepejeokciaaDoor
