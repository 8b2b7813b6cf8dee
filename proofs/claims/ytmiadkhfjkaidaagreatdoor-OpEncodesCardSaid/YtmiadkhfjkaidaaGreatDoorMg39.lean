/- An element taken out of a list of two, and laid in behind the one that is left. The example's type, and that the operation fits. -/
import Derived.Test.YtmiadkhfjkaidaaGreatDoorMg38
import Derived.Laws.OwnMore
import Derived.Deep.MidRow
import Derived.Test.YtmiadkhfjkaidaaGreatDoorMg21
import Derived.Laws.ResultCell
namespace Go.Proofs.YtmiadkhfjkaidaaGreatDoor
section
set_option maxRecDepth 100000
set_option linter.unusedSimpArgs false
set_option linter.unusedVariables false
open Go.RowKit

theorem elem_at (b n c : Nat) (id : Int) (ids : List Int) (N S X P : Value) (w : World) (hl : (id :: ids).length = n) (hn : n ≤ 100) (hb : Cells w b ((id :: ids).map (Value.int .u64))) :
    Calls Tryz.prog 75 #[.agg #[.int .i64 6, N, S, X, .slice (some ⟨b, 0, none⟩) n c, P], .int .u64 id] w fun e w' => e = .returned (.tuple #[.int .i64 0, .bool true]) ∧ Below w.heap.size w w' := by
  have hlt : b < w.heap.size := lt_of_cell (hb 0 _ rfl)
  have hnn : Nums (w.alloc (.cells #[.int .i64 6, N, S, X, .slice (some ⟨b, 0, none⟩) n c, P] 28)) (some ⟨b, 0, none⟩) n (id :: ids) := by
    refine ⟨by rw [List.length_map]; exact hl, fun _ => ⟨⟨b, 0, none⟩, rfl, trivial, by simp; omega, fun j u hj => ?_⟩⟩
    rw [add0J]
    exact (Below.cell (p := (⟨b, j, none⟩ : Addr)) (below_new w _) hlt).trans (hb j u hj)
  have hi := index_any (some ⟨b, 0, none⟩) n c (id :: ids) id (by omega) _ hnn
  have HI := Lib.hid hi
  have hpos : 0 < (id :: ids).length := Nat.succ_pos _
  clear hb hnn hi
  go_enter Tryz.func75, Tryz.ntmps75
  go_wp2_with fail
  refine HI.out.mono ?_
  rintro e W1 ⟨⟨r, rfl, hr⟩, rfl⟩
  obtain rfl : r = 0 := by
    rcases hr with ⟨_, h⟩ | ⟨i, hi, rfl, _, h⟩
    · have := h 0 (by omega)
      simp at this
    · rcases Nat.eq_zero_or_pos i with e | e
      · subst e; rfl
      · have := h 0 e
        simp at this
  clear hr
  go_wp2_with fail
  go_ret2
  exact ⟨rfl, below_new _ _⟩
set_option maxHeartbeats 1600000 in
theorem behind_ex (b c : Nat) (N S X P : Value) (w : World) (hb : Cells w b [.int .u64 2]) :
    Calls Tryz.prog 113 #[.agg #[.int .i64 6, N, S, X, .slice (some ⟨b, 0, none⟩) 1 c, P], .int .u64 2] w fun e w' => e = .returned (.int .i64 1) ∧ Below w.heap.size w w' := by
  have hbn := below_new w (.cells #[.int .i64 6, N, S, X, .slice (some ⟨b, 0, none⟩) 1 c, P] 28)
  have HE := Lib.hid (elem_at b 1 c 2 [] N S X P _ rfl (by omega) (hb.below hbn))
  have HR := Lib.hid (Row.new w [.int .i64 6, N, S, X, .slice (some ⟨b, 0, none⟩) 1 c, P] 28)
  have HB := Lib.hid hbn
  clear hb hbn
  go_enter Tryz.func113, Tryz.ntmps113
  go_wp2_with (refine wpList_load_row rfl 28 (.tmp 2) rfl w.heap.size rfl 28 _ (0, 0) _ HR.out Tryz.underlying28 rfl (v_info6 _ _ _ _ _ _) ?_)
  refine HE.out.mono ?_
  rintro e W1 ⟨rfl, hb⟩
  have HB1 := Lib.hid (below_more HB.out hb)
  clear hb
  go_wp2_with fail
  go_ret
  exact ⟨rfl, HB1.out⟩
theorem only_setCellsJ : ∀ (vs : List Value) (w : World) (g o : Nat), Only (fun j => j = g) w (w.setCells g o vs)
  | [], w, _, _ => Only.refl _ w
  | v :: r, w, g, o => ((Only.refl (fun j => j = g) w).setCell (.inl rfl) v).trans (only_setCellsJ r (w.setCell ⟨g, o, none⟩ v) g (o + 1)) fun _ _ e => e
theorem own_setCellsJ {B g cap n sz : Nat} {e : TypeId} {xs : List Value} : ∀ (vs : List Value) (o : Nat) (w : World), w.ownsRow B e sz (.slice (some ⟨g, 0, none⟩) n cap) n xs → n * sz ≤ o → (w.setCells g o vs).ownsRow B e sz (.slice (some ⟨g, 0, none⟩) n cap) n xs
  | [], _, _, h, _ => h
  | v :: r, o, w, h, ho => by
    refine own_setCellsJ r (o + 1) _ ?_ (by omega)
    have h1 := own_setJ h o v
    rwa [show xs.set o v = xs from List.set_eq_of_length_le (by have := h.1; omega)] at h1
theorem own_thereJ {w : World} {B g cap n m sz o : Nat} {e : TypeId} {xs : List Value} (h : w.ownsRow B e sz (.slice (some ⟨g, 0, none⟩) n cap) n xs) (hm : o + m ≤ cap * sz) : w.there g o m := fun j hj => by
  rcases h.2 with ⟨h0, _⟩ | ⟨g', cap', cur, h0, hb, hg, h1, h2, h3, h4⟩
  · cases h0
  · cases h0
    refine ⟨?_, frozen_of_row w g _ _ _ hg⟩
    rw [cell_of_row w g _ _ _ _ hg, Array.getElem?_eq_getElem (by omega)]
    rfl
theorem run_clearJ {P : Program} (w : World) (t e ty : TypeId) (z : Value) (m : Nat) (ht : P.underlying t = some (.slice e)) (hv : ∀ w, (zeroValue e).run P w = .ok z w) (hm : z.cells.size = m) (h1 : ∀ v ∈ z.cells.toList, v.oneCell' = true) (hm0 : 0 < m) (b o n c : Nat) (hn : 0 < n)
    (hc : w.there b o (n * m)) :
    ∃ vs : List Value, vs.length = n * m ∧ (Builtin.clear_ #[t] ty #[.slice (some ⟨b, o, none⟩) n c]).run P w = .ok (.tuple #[]) (w.setCells b o vs) := by
  have hl : (Builtin.zeroCells z.cells n).toList.length = n * m := by simp [Builtin.zeroCells, hm]
  refine ⟨(Builtin.zeroCells z.cells n).toList, hl, ?_⟩
  have h1' : ∀ v ∈ (Builtin.zeroCells z.cells n).toList, v.oneCell' = true := by
    intro v hv
    simp only [Builtin.zeroCells, Array.toList_map, List.mem_map] at hv
    obtain ⟨i, hi, rfl⟩ := hv
    have hlt : i % z.cells.size < z.cells.size := Nat.mod_lt _ (by omega)
    rw [getElem!_pos z.cells _ hlt]
    exact h1 _ (by simp)
  have hst := run_storeCells_cells (P := P) b o (Builtin.zeroCells z.cells n).toList 0 w (fun j hj => by rw [Nat.add_zero]; exact (hc j (by omega)).1) (fun j hj => by rw [Nat.add_zero]; exact (hc j (by omega)).2) h1'
  simp only [Nat.add_zero] at hst
  obtain ⟨q, rfl⟩ : ∃ q, n = q + 1 := ⟨n - 1, by omega⟩
  simp [Builtin.clear_, run_underlying ht, hv, hst]
theorem wpList_clearJ {P : Program} {w w' : World} {ops : Array Oper} {rest : List Oper} {o : Oper} {a : Act} {Q : Exit → Act → World → Prop} (hgd : o.guard = none) (x : Operand) (T : TypeId)
    (ho : o.op = .call { callee := .builtin .clear, args := #[x], argTypes := #[T] }) (u r : Value) (hx : a.eval x = u) (hi : (Builtin.clear_ #[T] o.type #[u]).run P w = .ok r w') (h : wpList P ops Q rest (a.put o.dst r) w') : wpList P ops Q (o :: rest) a w := by
  refine wpList_plain hgd fun _ hK => ?_
  unfold Oper.wp execOp
  simp only [ho, resolve, invoke, builtin, Sem.run_bind, Sem.run_pure, Result.andThen_ok, List.map_toArray, List.map_cons, List.map_nil, hx, hi]
  exact hK _ _ h
theorem wp_append_fitsJ {P : Program} {o : Oper} {a : Act} {w : World} {K : Act → World → Prop} {Q : Exit → Act → World → Prop} (s x : Operand) (t : TypeId)
    (ho : o.op = .call { callee := .builtin .append, args := #[s, x], argTypes := #[t, t] })
    (base : Nat) (e : TypeId) (i : TypeInfo) (size : Nat) (h1 : P.underlying t = some (.slice e)) (h2 : P.info? e = some i) (h4 : i.size = size)
    (g k cap : Nat) (xs : List Value) (hs : a.eval s = .slice (some ⟨g, 0, none⟩) k cap) (hown : w.ownsRow base e size (.slice (some ⟨g, 0, none⟩) k cap) k xs) (ad : Addr) (m c : Nat) (news : List Value) (hx : a.eval x = .slice (some ad) m c) (hn : news.length = m * size)
    (hc : ∀ j u, news[j]? = some u → w.cell? (ad.add j) = some u) (h1c : ∀ u ∈ news, u.oneCell' = true) (b1 : k + m ≤ cap)
    (h : ∀ w', w'.ownsRow base e size (.slice (some ⟨g, 0, none⟩) (k + m) cap) (k + m) (xs ++ news) → w.grownBy w' (some g) → K (a.put o.dst (.slice (some ⟨g, 0, none⟩) (k + m) cap)) w') : o.wp P a w K Q := by
  obtain ⟨w', hrun, r1, r2⟩ := run_append_fits (P := P) w base t o.type e i size h1 h2 h4 g k cap xs hown ad m c news hn hc h1c b1
  unfold Oper.wp execOp
  simp only [ho, resolve, invoke, builtin, Sem.run_bind, Sem.run_pure, Result.andThen_ok, List.map_toArray, List.map_cons, List.map_nil, hs, hx, hrun]
  exact h w' r1 r2
theorem grown_onlyJ {w w' : World} {g : Nat} (h : w.grownBy w' (some g)) : Only (fun j => j = g) w w' := Only.grown (Only.refl _ w) h (fun k hk => .inl (by injection hk with e; exact e.symm))
theorem zero_u64J (w : World) : (zeroValue 23).run Tryz.prog w = .ok (.int .u64 0) w := by go_simp
theorem zero_valJ (w : World) : (zeroValue 28).run Tryz.prog w = .ok (.agg #[.int .i64 0, .int .i64 0, .string ⟨#[]⟩, .slice none 0 0, .slice none 0 0, .slice none 0 0]) w := by kernel_rfl
set_option maxHeartbeats 3200000 in
theorem delu_ex (B g cap : Nat) (w : World) (hB : B ≤ w.heap.size) (hc2 : 2 ≤ cap) (hcm : cap ≤ maxLen) (h : w.ownsRow B 23 1 (.slice (some ⟨g, 0, none⟩) 2 cap) 2 pI) :
    Calls Tryz.prog 116 #[.slice (some ⟨g, 0, none⟩) 2 cap, .int .i64 0, .int .i64 1] w fun e w' => e = .returned (.slice (some ⟨g, 0, none⟩) 1 cap) ∧ w'.ownsRow B 23 1 (.slice (some ⟨g, 0, none⟩) 1 cap) 1 [.int .u64 2] ∧ Only (fun j => j = g) w w' := by
  obtain ⟨i, z, hi, hz, hs, hb, hzs⟩ := info_u64J
  have hcm2 : cap ≤ 9223372036854775807 := by unfold maxLen at hcm; omega
  have HO := Lib.hid (own_cutJ h.drew (m := 0) (by omega))
  have HC := Lib.hid (fun j u (hj : ([.int .u64 2] : List Value)[j]? = some u) => own_cellJ h.drew (k := 1 + j) (u := u) (by rw [← hj, show (pI : List Value) = (pI : List Value).take 1 ++ [.int .u64 2] from rfl, List.getElem?_append_right (by simp)]; simp))
  have hci : (2 : Int) ≤ (cap : Int) := by omega
  have hcn : ¬ cap = 1 := by omega
  clear h hcm
  go_enter Tryz.func116, Tryz.ntmps116
  go_wp2_with fail
  have hS : (fun _ : World => True) w.drew := trivial
  refine wp_region_held (S := fun _ : World => True) (by kernel_rfl) ?_
  change wpAnyH _ _ _ _ _ _ _ _ (World.drew _)
  refine wpAnyH_take (i := 0) (v := ?_) rfl (by kernel_rfl) (by kernel_rfl) (by kernel_rfl) (fun _ _ _ h => h) (Or.inl ⟨by rfl, ?_⟩) hS ?_
  rotate_left
  · (intro w' hSw; go_simp; try (with_reducible rfl))
  change wpAnyH _ _ _ _ _ _ _ (Act.put _ (some 20) _) _
  try simp only [Act.put, List.setIfInBounds_toArray, List.set_cons_zero, List.set_cons_succ]
  refine wpAnyH_take (i := 1) (v := ?_) rfl (by kernel_rfl) (by kernel_rfl) (by kernel_rfl) (fun _ _ _ h => h) (Or.inl ⟨by rfl, ?_⟩) hS ?_
  rotate_left
  · (intro w' hSw; go_simp; try (with_reducible rfl))
  change wpAnyH _ _ _ _ _ _ _ (Act.put _ (some 21) _) _
  try simp only [Act.put, List.setIfInBounds_toArray, List.set_cons_zero, List.set_cons_succ]
  refine wpAnyH_take (i := 2) (v := ?_) rfl (by kernel_rfl) (by kernel_rfl) (by kernel_rfl) (fun _ _ _ h => h) (Or.inl ⟨by rfl, ?_⟩) hS ?_
  rotate_left
  · (intro w' hSw; go_simp; try (with_reducible rfl))
  change wpAnyH _ _ _ _ _ _ _ (Act.put _ (some 22) _) _
  try simp only [Act.put, List.setIfInBounds_toArray, List.set_cons_zero, List.set_cons_succ]
  refine wpAnyH_take (i := 3) (v := ?_) rfl (by kernel_rfl) (by kernel_rfl) (by kernel_rfl) (fun _ _ _ h => h) (Or.inl ⟨by rfl, ?_⟩) hS ?_
  rotate_left
  · (intro w' hSw; go_simp; try (with_reducible rfl))
  change wpAnyH _ _ _ _ _ _ _ (Act.put _ (some 23) _) _
  try simp only [Act.put, List.setIfInBounds_toArray, List.set_cons_zero, List.set_cons_succ]
  refine wpAnyH_take (i := 4) (v := ?_) rfl (by kernel_rfl) (by kernel_rfl) (by kernel_rfl) (fun _ _ _ h => h) (Or.inl ⟨by rfl, ?_⟩) hS ?_
  rotate_left
  · (intro w' hSw; go_simp; try (with_reducible rfl))
  change wpAnyH _ _ _ _ _ _ _ (Act.put _ (some 24) _) _
  try simp only [Act.put, List.setIfInBounds_toArray, List.set_cons_zero, List.set_cons_succ]
  refine wpAnyH_take (i := 5) (v := ?_) rfl (by kernel_rfl) (by kernel_rfl) (by kernel_rfl) (fun _ _ _ h => h) (Or.inl ⟨by rfl, ?_⟩) hS ?_
  rotate_left
  · (intro w' hSw; go_simp; try (with_reducible rfl))
  change wpAnyH _ _ _ _ _ _ _ (Act.put _ (some 25) _) _
  try simp only [Act.put, List.setIfInBounds_toArray, List.set_cons_zero, List.set_cons_succ]
  refine wpAnyH_ready (rs := [6]) (by kernel_rfl) (by simp) ?_
  refine AllReadyH.cons rfl (fun K hK => ?_) AllReadyH.nil
  rw [if_pos (by kernel_rfl)]
  refine wp_append_fitsJ (.tmp 22) (.tmp 25) 25 rfl B 23 i 1 Tryz.underlying25 hi hs g 0 cap _ rfl HO.out ⟨g, 1, none⟩ 1 (cap - 1) [.int .u64 2] rfl rfl (fun j u hj => by rw [Addr.add_mid]; exact HC.out j u hj) (by simp [Value.oneCell']) (by omega) ?_
  intro w1 ho1 hg1
  refine hK.out _ _ trivial (fun hS1 => ?_)
  clear hK K hS
  have hS := hS1
  clear hS1
  change wpAnyH _ _ _ _ _ _ _ (Act.put _ (some 26) _) _
  try simp only [Act.put, List.setIfInBounds_toArray, List.set_cons_zero, List.set_cons_succ]
  refine wpAnyH_take (i := 7) (v := ?_) rfl (by kernel_rfl) (by kernel_rfl) (by kernel_rfl) (fun _ _ _ h => h) (Or.inl ⟨by rfl, ?_⟩) hS ?_
  rotate_left
  · (intro w' hSw; go_simp; try (with_reducible rfl))
  change wpAnyH _ _ _ _ _ _ _ (Act.put _ (some 0) _) _
  try simp only [Act.put, List.setIfInBounds_toArray, List.set_cons_zero, List.set_cons_succ]
  refine wpAnyH_done (by kernel_rfl) ?_ _
  have ho1 : w1.ownsRow B 23 1 (.slice (some ⟨g, 0, none⟩) 1 cap) 1 [.int .u64 2] := by have h := ho1; simp only [Nat.zero_mul, List.take_zero, List.nil_append, Nat.zero_add] at h; exact h
  have HO1 := Lib.hid ho1
  have HG1 := Lib.hid (grown_onlyJ hg1)
  have hth := own_thereJ ho1 (o := 1) (m := 1 * 1) (by omega)
  obtain ⟨vs, hvl, hrun⟩ := run_clearJ (P := Tryz.prog) w1 25 23 0 _ 1 Tryz.underlying25 zero_u64J (by simp [Value.cells]) (by intro v hv; simp [Value.cells] at hv; rw [hv]; rfl) (by omega) g 1 1 (cap - 1) (by omega) hth
  have HRUN := Lib.hid hrun
  clear hrun hth ho1 hg1 hvl
  go_wp2_with ((with_reducible show wpList _ _ _ _ _ _); (refine wpList_clearJ rfl (.tmp 31) 25 rfl _ _ rfl HRUN.out ?_))
  go_wp2_with fail
  go_ret
  exact ⟨rfl, own_setCellsJ vs _ _ HO1.out (by omega), ((Only.refl (fun j => j = g) w).drew.trans HG1.out fun _ _ e => e).trans (only_setCellsJ vs _ _ _) fun _ _ e => e⟩
set_option maxHeartbeats 3200000 in
theorem delv_ex (B g cap : Nat) (w : World) (hB : B ≤ w.heap.size) (hc2 : 2 ≤ cap) (hcm : cap ≤ maxLen) (h : w.ownsRow B 28 6 (.slice (some ⟨g, 0, none⟩) 2 cap) 2 pP) :
    Calls Tryz.prog 117 #[.slice (some ⟨g, 0, none⟩) 2 cap, .int .i64 0, .int .i64 1] w fun e w' => e = .returned (.slice (some ⟨g, 0, none⟩) 1 cap) ∧ w'.ownsRow B 28 6 (.slice (some ⟨g, 0, none⟩) 1 cap) 1 [.int .i64 2, .int .i64 6, .string ⟨#[]⟩, .slice none 0 0, .slice none 0 0, .slice none 0 0] ∧ Only (fun j => j = g) w w' := by
  obtain ⟨i, z, hi, hz, hs, hb, hzs⟩ := info_valJ
  have hcm2 : cap ≤ 9223372036854775807 := by unfold maxLen at hcm; omega
  have HO := Lib.hid (own_cutJ h.drew (m := 0) (by omega))
  have HC := Lib.hid (fun j u (hj : ([.int .i64 2, .int .i64 6, .string ⟨#[]⟩, .slice none 0 0, .slice none 0 0, .slice none 0 0] : List Value)[j]? = some u) => own_cellJ h.drew (k := 6 + j) (u := u) (by rw [← hj, show (pP : List Value) = (pP : List Value).take 6 ++ [.int .i64 2, .int .i64 6, .string ⟨#[]⟩, .slice none 0 0, .slice none 0 0, .slice none 0 0] from rfl, List.getElem?_append_right (by simp)]; simp))
  have hci : (2 : Int) ≤ (cap : Int) := by omega
  have hcn : ¬ cap = 1 := by omega
  clear h hcm
  go_enter Tryz.func117, Tryz.ntmps117
  go_wp2_with fail
  have hS : (fun _ : World => True) w.drew := trivial
  refine wp_region_held (S := fun _ : World => True) (by kernel_rfl) ?_
  change wpAnyH _ _ _ _ _ _ _ _ (World.drew _)
  refine wpAnyH_take (i := 0) (v := ?_) rfl (by kernel_rfl) (by kernel_rfl) (by kernel_rfl) (fun _ _ _ h => h) (Or.inl ⟨by rfl, ?_⟩) hS ?_
  rotate_left
  · (intro w' hSw; go_simp; try (with_reducible rfl))
  change wpAnyH _ _ _ _ _ _ _ (Act.put _ (some 20) _) _
  try simp only [Act.put, List.setIfInBounds_toArray, List.set_cons_zero, List.set_cons_succ]
  refine wpAnyH_take (i := 1) (v := ?_) rfl (by kernel_rfl) (by kernel_rfl) (by kernel_rfl) (fun _ _ _ h => h) (Or.inl ⟨by rfl, ?_⟩) hS ?_
  rotate_left
  · (intro w' hSw; go_simp; try (with_reducible rfl))
  change wpAnyH _ _ _ _ _ _ _ (Act.put _ (some 21) _) _
  try simp only [Act.put, List.setIfInBounds_toArray, List.set_cons_zero, List.set_cons_succ]
  refine wpAnyH_take (i := 2) (v := ?_) rfl (by kernel_rfl) (by kernel_rfl) (by kernel_rfl) (fun _ _ _ h => h) (Or.inl ⟨by rfl, ?_⟩) hS ?_
  rotate_left
  · (intro w' hSw; go_simp; try (with_reducible rfl))
  change wpAnyH _ _ _ _ _ _ _ (Act.put _ (some 22) _) _
  try simp only [Act.put, List.setIfInBounds_toArray, List.set_cons_zero, List.set_cons_succ]
  refine wpAnyH_take (i := 3) (v := ?_) rfl (by kernel_rfl) (by kernel_rfl) (by kernel_rfl) (fun _ _ _ h => h) (Or.inl ⟨by rfl, ?_⟩) hS ?_
  rotate_left
  · (intro w' hSw; go_simp; try (with_reducible rfl))
  change wpAnyH _ _ _ _ _ _ _ (Act.put _ (some 23) _) _
  try simp only [Act.put, List.setIfInBounds_toArray, List.set_cons_zero, List.set_cons_succ]
  refine wpAnyH_take (i := 4) (v := ?_) rfl (by kernel_rfl) (by kernel_rfl) (by kernel_rfl) (fun _ _ _ h => h) (Or.inl ⟨by rfl, ?_⟩) hS ?_
  rotate_left
  · (intro w' hSw; go_simp; try (with_reducible rfl))
  change wpAnyH _ _ _ _ _ _ _ (Act.put _ (some 24) _) _
  try simp only [Act.put, List.setIfInBounds_toArray, List.set_cons_zero, List.set_cons_succ]
  refine wpAnyH_take (i := 5) (v := ?_) rfl (by kernel_rfl) (by kernel_rfl) (by kernel_rfl) (fun _ _ _ h => h) (Or.inl ⟨by rfl, ?_⟩) hS ?_
  rotate_left
  · (intro w' hSw; go_simp; try (with_reducible rfl))
  change wpAnyH _ _ _ _ _ _ _ (Act.put _ (some 25) _) _
  try simp only [Act.put, List.setIfInBounds_toArray, List.set_cons_zero, List.set_cons_succ]
  refine wpAnyH_ready (rs := [6]) (by kernel_rfl) (by simp) ?_
  refine AllReadyH.cons rfl (fun K hK => ?_) AllReadyH.nil
  rw [if_pos (by kernel_rfl)]
  refine wp_append_fitsJ (.tmp 22) (.tmp 25) 26 rfl B 28 i 6 Tryz.underlying26 hi hs g 0 cap _ rfl HO.out ⟨g, 6, none⟩ 1 (cap - 1) [.int .i64 2, .int .i64 6, .string ⟨#[]⟩, .slice none 0 0, .slice none 0 0, .slice none 0 0] rfl rfl (fun j u hj => by rw [Addr.add_mid]; exact HC.out j u hj) (by simp [Value.oneCell']) (by omega) ?_
  intro w1 ho1 hg1
  refine hK.out _ _ trivial (fun hS1 => ?_)
  clear hK K hS
  have hS := hS1
  clear hS1
  change wpAnyH _ _ _ _ _ _ _ (Act.put _ (some 26) _) _
  try simp only [Act.put, List.setIfInBounds_toArray, List.set_cons_zero, List.set_cons_succ]
  refine wpAnyH_take (i := 7) (v := ?_) rfl (by kernel_rfl) (by kernel_rfl) (by kernel_rfl) (fun _ _ _ h => h) (Or.inl ⟨by rfl, ?_⟩) hS ?_
  rotate_left
  · (intro w' hSw; go_simp; try (with_reducible rfl))
  change wpAnyH _ _ _ _ _ _ _ (Act.put _ (some 0) _) _
  try simp only [Act.put, List.setIfInBounds_toArray, List.set_cons_zero, List.set_cons_succ]
  refine wpAnyH_done (by kernel_rfl) ?_ _
  have ho1 : w1.ownsRow B 28 6 (.slice (some ⟨g, 0, none⟩) 1 cap) 1 [.int .i64 2, .int .i64 6, .string ⟨#[]⟩, .slice none 0 0, .slice none 0 0, .slice none 0 0] := by have h := ho1; simp only [Nat.zero_mul, List.take_zero, List.nil_append, Nat.zero_add] at h; exact h
  have HO1 := Lib.hid ho1
  have HG1 := Lib.hid (grown_onlyJ hg1)
  have hth := own_thereJ ho1 (o := 6) (m := 1 * 6) (by omega)
  obtain ⟨vs, hvl, hrun⟩ := run_clearJ (P := Tryz.prog) w1 26 28 0 _ 6 Tryz.underlying26 zero_valJ (by simp [Value.cells]) (by intro v hv; simp [Value.cells] at hv; rcases hv with rfl | rfl | rfl <;> rfl) (by omega) g 6 1 (cap - 1) (by omega) hth
  have HRUN := Lib.hid hrun
  clear hrun hth ho1 hg1 hvl
  go_wp2_with ((with_reducible show wpList _ _ _ _ _ _); (refine wpList_clearJ rfl (.tmp 31) 26 rfl _ _ rfl HRUN.out ?_))
  go_wp2_with fail
  go_ret
  exact ⟨rfl, own_setCellsJ vs _ _ HO1.out (by omega), ((Only.refl (fun j => j = g) w).drew.trans HG1.out fun _ _ e => e).trans (only_setCellsJ vs _ _ _) fun _ _ e => e⟩
end

section
set_option maxRecDepth 100000
set_option linter.unusedSimpArgs false
set_option linter.unusedVariables false
open Go.RowKit

abbrev sA (q k : Nat) : List Value := [.int .i64 6, .slice none 0 0, .slice (some ⟨q, 0, none⟩) 1 k]
abbrev sZ : List Value := [.int .i64 0, .slice none 0 0, .slice none 0 0]
set_option maxHeartbeats 1600000 in
theorem typec_ex (g x pb pcap : Nat) (w : World) (hP : Cells w pb pS) (hpl : Plain w pb) (hg : Row w g 48 (sA pb pcap)) (hx : Row w x 48 sZ) :
    Calls Tryz.prog 109 #[.pointer (some ⟨g, 0, none⟩), .pointer (some ⟨x, 0, none⟩)] w fun e w' => e = .returned (.tuple #[]) ∧ (∃ q k, Row w' x 48 (sA q k)) ∧ Only (fun j => j = x) w w' := by
  have HC := Lib.hid (vcopy_S1 pb pcap w hP hpl)
  have HG := Lib.hid hg
  have HX := Lib.hid hx
  clear hP hpl hg hx
  go_enter Tryz.func109, Tryz.ntmps109
  go_wp2_with (refine wpList_load_row rfl 48 (.tmp 4) rfl g rfl 48 _ (0, 0) _ HG.out Tryz.underlying48 rfl sch_info ?_)
  refine HC.out.mono ?_
  rintro e W1 ⟨q, k, rfl, _, hb⟩
  have HX1 := Lib.hid (HX.out.belowAll hb)
  have HB := Lib.hid hb
  clear hb
  go_wp2_with (refine wpList_store_row rfl 48 (.tmp 1) (.tmp 6) rfl x (sA q k).toArray rfl rfl 48 _ HX1.out sch_info rfl (by simp [Value.oneCell']) ?_)
  go_end0
  refine ⟨rfl, ⟨q, k, ?_⟩, (Only.of_below HB.out _).trans (only_setRow W1 x _) fun _ _ h => h⟩
  exact setRow_heap W1 x _ _ _ _ HX1.out
set_option maxHeartbeats 1600000 in
theorem atS_ex (g x pb pcap : Nat) (w : World) (hP : Cells w pb pS) (hpl : Plain w pb) (hg : Row w g 48 (sA pb pcap)) (hx : Row w x 48 sZ) :
    Calls Tryz.prog 107 #[.pointer (some ⟨g, 0, none⟩), .slice none 0 0, .func (.func 108) #[] #[], .func (.func 109) #[] #[.pointer (some ⟨x, 0, none⟩)]] w fun e w' => e = .returned (.bool true) ∧ (∃ q k, Row w' x 48 (sA q k)) ∧ Only (fun j => j = x) w w' := by
  have HT := Lib.hid (typec_ex g x pb pcap w hP hpl hg hx)
  clear hP hpl hg hx
  go_enter Tryz.func107, Tryz.ntmps107
  go_wp2_with fail
  refine wp_loop_rounds 1 ?_
  rw [rounds_succ]
  go_wp2_with fail
  refine HT.out.mono ?_
  rintro e W1 ⟨rfl, hq⟩
  have HQ := Lib.hid hq
  clear hq
  go_wp2_with fail
  go_ret
  exact ⟨rfl, HQ.out⟩
set_option maxHeartbeats 1600000 in
theorem ptype_ex (pb pcap : Nat) (w : World) (hP : Cells w pb pS) (hpl : Plain w pb) :
    Calls Tryz.prog 73 #[.agg (sA pb pcap).toArray, .slice none 0 0] w fun e w' => ∃ q k, e = .returned (.tuple #[.agg (sA q k).toArray, .bool true]) ∧ Below w.heap.size w w' := by
  have hb0 := Below.alloc3 w (.cells (sA pb pcap).toArray 48) (.cells sZ.toArray 48) (.cells sZ.toArray 48)
  have rg := ((Row.new w (sA pb pcap) 48).alloc (.cells sZ.toArray 48)).alloc (.cells sZ.toArray 48)
  have rr := (Row.new1 w (.cells (sA pb pcap).toArray 48) sZ 48).alloc (.cells sZ.toArray 48)
  have rx := Row.new2 w (.cells (sA pb pcap).toArray 48) (.cells sZ.toArray 48) sZ 48
  have HA := Lib.hid (atS_ex w.heap.size (w.heap.size + 1 + 1) pb pcap _ (hP.below hb0) (hpl.below hb0 hpl.lt) rg rx)
  have HR := Lib.hid rr
  have HB0 := Lib.hid hb0
  clear hP hpl rg rx rr hb0
  go_enter Tryz.func73, Tryz.ntmps73
  go_wp2_with fail
  refine HA.out.mono ?_
  rintro e W1 ⟨rfl, ⟨q, k, hx⟩, ho⟩
  have HX := Lib.hid hx
  have HR1 := Lib.hid (HR.out.only ho (show ¬ (w.heap.size + 1 = w.heap.size + 1 + 1) by omega))
  have HB1 := Lib.hid (HB0.out.trans (ho.below (B := w.heap.size) HB0.out.size (fun j hj => by have h2 : j = w.heap.size + 1 + 1 := hj; omega)))
  clear hx ho
  go_wp2_with (first
    | (refine wpList_load_row rfl 48 (.tmp 6) rfl (w.heap.size + 1 + 1) rfl 48 _ (0, 0) _ HX.out Tryz.underlying48 rfl sch_info ?_)
    | (refine wpList_store_row rfl 48 (.tmp 4) (.tmp 11) rfl (w.heap.size + 1) (sA q k).toArray rfl rfl 48 _ HR1.out sch_info rfl (by simp [Value.oneCell']) ?_))
  have hgot := setRow_heap W1 (w.heap.size + 1) _ (sA q k).toArray _ _ HR1.out
  (try simp only [Exit.inBlock, Exit.then])
  refine bodyPost_ret (results_row_tmp_ (by rfl) _ _ (w.heap.size + 1) _ _ _ _ (by rfl) hgot Tryz.underlying48 rfl sch_info) rfl ?_
  exact ⟨q, k, rfl, below_setRow HB1.out (by omega) _⟩
/-- The example's operation. -/
abbrev oE : List Value := oC 4 none 0 0 1 2 0 0 ⟨#[]⟩ none 0 0 none 0 0 none 0 0
set_option maxHeartbeats 1600000 in
theorem ofits_ex (pb pcap : Nat) (w : World) (hP : Cells w pb pS) (hpl : Plain w pb) :
    Calls Tryz.prog 33 #[.agg oE.toArray, .agg (sA pb pcap).toArray] w fun e w' => e = .returned (.bool true) ∧ Below w.heap.size w w' := by
  have hb0 := below2O w (.cells oE.toArray 30) (.cells (sA pb pcap).toArray 48)
  have HRO := Lib.hid ((Row.new w oE 30).alloc (.cells (sA pb pcap).toArray 48))
  have HRS := Lib.hid (row_new1O w (.cells oE.toArray 30) (sA pb pcap) 48)
  have HT := Lib.hid (ptype_ex pb pcap _ (hP.below hb0) (hpl.below hb0 hpl.lt))
  have HB0 := Lib.hid hb0
  have c1 := HRO.out.cell (k := 1) rfl
  clear hP hpl hb0
  go_enter Tryz.func33, Tryz.ntmps33
  go_wp2_with (refine wpList_load_row rfl 48 (.tmp 3) rfl (w.heap.size + 1) rfl 48 _ (0, 0) _ HRS.out Tryz.underlying48 rfl sch_info ?_)
  refine HT.out.mono ?_
  rintro e W1 ⟨q, k, rfl, hb⟩
  have hr := (HRO.out.belowAll hb).alloc (.cells (sA q k).toArray 48)
  have c0 := hr.cell (k := 0) rfl
  have hn := Row.new W1 (sA q k) 48
  have d0 := hn.cell (k := 0) rfl
  have hb1 := below_more HB0.out hb
  have HB1 := Lib.hid (below_more hb1 (below_new W1 (.cells (sA q k).toArray 48)))
  clear hb c1 hr hn hb1
  go_wp2_with fail
  go_ret
  exact ⟨rfl, HB1.out⟩
end

end Go.Proofs.YtmiadkhfjkaidaaGreatDoor
