/- Rows that a call owns, of elements of any width; small facts for walks through small trees. Walks through a list of two values. Walks through a list schema of one. -/
import Derived.Test.YtmiadkhfjkaidaaGreatDoorMg34
import Derived.Test.YtmiadkhfjkaidaaGreatDoorMg32
import Derived.LaidEqlPtr
namespace Go.Proofs.YtmiadkhfjkaidaaGreatDoor
section
set_option maxRecDepth 100000
set_option linter.unusedSimpArgs false
set_option linter.unusedVariables false
open Go.RowKit

section
variable {P : Program}
theorem own_formJ {w : World} {B z n : Nat} {v : Value} {xs : List Value} {e : TypeId} (hn : 0 < n) (h : w.ownsRow B e z v n xs) : ∃ g cap, v = .slice (some ⟨g, 0, none⟩) n cap ∧ B ≤ g ∧ n ≤ cap ∧ cap ≤ maxLen ∧ ∃ cur, w.heap[g]? = some (.cells cur e (0, 0)) := by
  rcases h.2 with h | ⟨g, cap, cur, rfl, hb, hg, h1, h2, _⟩
  · exact absurd h.2 (by omega)
  · exact ⟨g, cap, rfl, hb, h1, h2, cur, hg⟩
theorem own_cutJ {w : World} {B g cap n m sz : Nat} {e : TypeId} {xs : List Value} (h : w.ownsRow B e sz (.slice (some ⟨g, 0, none⟩) n cap) n xs) (hm : m ≤ n) : w.ownsRow B e sz (.slice (some ⟨g, 0, none⟩) m cap) m (xs.take (m * sz)) := by
  have hle : m * sz ≤ n * sz := Nat.mul_le_mul_right _ hm
  refine ⟨?_, ?_⟩
  · have := h.1
    rw [List.length_take, this]
    omega
  · rcases h.2 with ⟨h0, _⟩ | ⟨g', cap', cur, h0, hb, hg, h1, h2, h3, h4⟩
    · cases h0
    · cases h0
      refine .inr ⟨g, cap, cur, rfl, hb, hg, by omega, h2, h3, ?_⟩
      rw [← h4, List.take_take]
      congr 1
      omega
theorem own_setJ {w : World} {B g cap n sz : Nat} {e : TypeId} {xs : List Value} (h : w.ownsRow B e sz (.slice (some ⟨g, 0, none⟩) n cap) n xs) (k : Nat) (u : Value) : (w.setCell ⟨g, k, none⟩ u).ownsRow B e sz (.slice (some ⟨g, 0, none⟩) n cap) n (xs.set k u) := by
  refine ⟨by rw [List.length_set]; exact h.1, ?_⟩
  rcases h.2 with ⟨h0, _⟩ | ⟨g', cap', cur, h0, hb, hg, h1, h2, h3, h4⟩
  · cases h0
  · cases h0
    refine .inr ⟨g, cap, cur.setIfInBounds k u, rfl, hb, heap_setCell_same w g _ _ _ _ hg, h1, h2, by rw [Array.size_setIfInBounds]; exact h3, ?_⟩
    rw [Array.toList_setIfInBounds, List.take_set, h4]
theorem own_freeJ {w : World} {B g cap n sz : Nat} {e : TypeId} {xs : List Value} (h : w.ownsRow B e sz (.slice (some ⟨g, 0, none⟩) n cap) n xs) (k : Nat) : w.frozen? ⟨g, k, none⟩ = false := by
  rcases h.2 with ⟨h0, _⟩ | ⟨g', cap', cur, h0, hb, hg, _⟩
  · cases h0
  · cases h0
    exact frozen_of_row w g k _ _ hg
theorem own_cellJ {w : World} {B g cap n sz : Nat} {e : TypeId} {xs : List Value} (h : w.ownsRow B e sz (.slice (some ⟨g, 0, none⟩) n cap) n xs) {k : Nat} {u : Value} (hu : xs[k]? = some u) : w.cell? ⟨g, k, none⟩ = some u := by
  have := h.cells (g := g) rfl k u hu
  rwa [show (⟨g, 0, none⟩ : Addr).add k = ⟨g, k, none⟩ by unfold Addr.add; split <;> simp_all] at this
theorem row_ownJ {w : World} {g : Nat} {e : TypeId} {l : List Value} (h : Row w g e l) {B n sz : Nat} (hB : B ≤ g) (hl : l.length = n * sz) (hm : n ≤ maxLen) : w.ownsRow B e sz (.slice (some ⟨g, 0, none⟩) n n) n l :=
  ⟨hl, .inr ⟨g, n, l.toArray, rfl, hB, h, Nat.le_refl _, hm, by simp [hl], by rw [List.take_of_length_le (by simp [hl])]⟩⟩
theorem append_nothingJ (w : World) (base : Nat) (t ty e : TypeId) (i : TypeInfo) (sz : Nat) (ht : P.underlying t = some (.slice e)) (hi : P.info? e = some i)
    (v : Value) (n : Nat) (xs : List Value) (hown : w.ownsRow base e sz v n xs) (c : Nat) : (Builtin.append_ #[t, t] ty #[v, .slice none 0 c]).run P w = .ok v w := by
  rcases hown.2 with ⟨rfl, rfl⟩ | ⟨g, cap, cur, rfl, _, _, hnc, _⟩
  · simp [Builtin.append_, run_underlying ht, sizeOf, typeInfo, hi, Builtin.lenOf, Builtin.firstCells]
  · simp [Builtin.append_, run_underlying ht, sizeOf, typeInfo, hi, Builtin.lenOf, Builtin.firstCells, hnc, storeCells]
theorem append_rdJ (w : World) (base : Nat) (t ty e : TypeId) (i : TypeInfo) (z : Value) (sz bytes : Nat) (ht : P.underlying t = some (.slice e)) (hi : P.info? e = some i) (hz : i.zero = some z)
    (hsize : i.size = sz) (hby : i.bytes = bytes) (hzs : z.cells.size = sz) (hsz : 0 < sz) (v : Value) (n : Nat) (xs : List Value) (hown : w.ownsRow base e sz v n xs)
    (A : Option Addr) (m c : Nat) (news : List Value) (hl : news.length = m * sz) (hr : 0 < m → ∃ ad : Addr, A = some ad ∧ ∀ j u, news[j]? = some u → w.cell? (ad.add j) = some u) (h1 : ∀ u ∈ news, u.oneCell' = true)
    (h63 : n + m ≤ maxLen) (hbytes : (n + m) * bytes ≤ 140737488355328) (hbase : base ≤ w.heap.size) :
    ∃ v' w', (Builtin.append_ #[t, t] ty #[v, .slice A m c]).run P w = .ok v' w' ∧ w'.ownsRow base e sz v' (n + m) (xs ++ news) ∧ w.grownBy w' v.ownBlock := by
  rcases A with _ | ad
  · have hm : m = 0 := by
      rcases Nat.eq_zero_or_pos m with h | h
      · exact h
      · obtain ⟨ad, e, _⟩ := hr h; cases e
    subst hm
    have hn : news = [] := List.eq_nil_of_length_eq_zero (by omega)
    subst hn
    exact ⟨v, w, append_nothingJ w base t ty e i sz ht hi v n xs hown c, by simpa using hown, World.grownBy.refl w _⟩
  · obtain ⟨v', w', hrun, h2, h3, _⟩ := run_append_own (P := P) w base t ty e i z sz bytes ht hi hz hsize hby hzs hsz v n xs hown ad m c news hl (fun j u hj => by
      rcases Nat.eq_zero_or_pos m with h | h
      · subst h
        have hn : news = [] := List.eq_nil_of_length_eq_zero (by omega)
        subst hn
        simp at hj
      · obtain ⟨ad', e, hc⟩ := hr h
        cases e
        exact hc j u hj) h1 h63 hbytes hbase
    exact ⟨v', w', hrun, h2, h3⟩
theorem wpList_append_rdJ {ops : Array Oper} {rest : List Oper} {o : Oper} {a : Act} {w : World} {Q : Exit → Act → World → Prop} (hgd : o.guard = none) (s x : Operand) (t : TypeId)
    (ho : o.op = .call { callee := .builtin .append, args := #[s, x], argTypes := #[t, t] })
    (base : Nat) (e : TypeId) (i : TypeInfo) (z : Value) (sz bytes : Nat) (ht : P.underlying t = some (.slice e)) (hi : P.info? e = some i) (hz : i.zero = some z)
    (hsize : i.size = sz) (hby : i.bytes = bytes) (hzs : z.cells.size = sz) (hsz : 0 < sz) (v : Value) (n : Nat) (xs : List Value) (hs : a.eval s = v) (hown : w.ownsRow base e sz v n xs)
    (A : Option Addr) (m c : Nat) (news : List Value) (hx : a.eval x = .slice A m c) (hl : news.length = m * sz) (hr : 0 < m → ∃ ad : Addr, A = some ad ∧ ∀ j u, news[j]? = some u → w.cell? (ad.add j) = some u) (h1 : ∀ u ∈ news, u.oneCell' = true)
    (h63 : n + m ≤ maxLen) (hbytes : (n + m) * bytes ≤ 140737488355328) (hbase : base ≤ w.heap.size)
    (h : ∀ v' w', w'.ownsRow base e sz v' (n + m) (xs ++ news) → w.grownBy w' v.ownBlock → wpList P ops Q rest (a.put o.dst v') w') : wpList P ops Q (o :: rest) a w := by
  refine wpList_plain hgd fun _ hK => ?_
  obtain ⟨v', w', hrun, h2, h3⟩ := append_rdJ (P := P) w base t o.type e i z sz bytes ht hi hz hsize hby hzs hsz v n xs hown A m c news hl hr h1 h63 hbytes hbase
  unfold Oper.wp execOp
  simp only [ho, resolve, invoke, builtin, Sem.run_bind, Sem.run_pure, Result.andThen_ok, List.map_toArray, List.map_cons, List.map_nil, hs, hx, hrun]
  exact hK _ _ (h v' w' h2 h3)
end
/-- A row of variables that no string's memory can be. -/
def Plain (w : World) (g : Nat) : Prop := ∃ cs T, w.heap[g]? = some (.cells cs T (0, 0))
theorem Plain.lt {w : World} {g : Nat} (h : Plain w g) : g < w.heap.size := by
  obtain ⟨_, _, h⟩ := h
  exact (Array.getElem?_eq_some_iff.1 h).1
theorem Plain.below {w w' : World} {g B : Nat} (h : Plain w g) (hb : Below B w w') (hg : g < B) : Plain w' g := by
  obtain ⟨cs, T, h⟩ := h
  exact ⟨cs, T, (hb.block g hg).trans h⟩
theorem Row.plain {w : World} {g : Nat} {T : TypeId} {l : List Value} (h : Row w g T l) : Plain w g := ⟨_, _, h⟩
theorem add0J (g q : Nat) : (⟨g, 0, none⟩ : Addr).add q = ⟨g, q, none⟩ := by unfold Addr.add; split <;> simp_all
theorem row_atJ (w : World) (l : List Value) (T : TypeId) (n : Nat) (hn : n = w.heap.size) : Row (w.alloc (.cells l.toArray T)) n T l := hn ▸ Row.new w l T
theorem len64J (w : World) : Calls Tryz.prog 190 #[.int .u64 1] w fun e w' => e = .returned (.int .i64 1) ∧ w' = w := by
  go_enter Tryz.func190, Tryz.ntmps190
  go_wp2_with fail
  go_ret
  exact ⟨by kernel_rfl, rfl⟩
theorem lenJ (w : World) : Calls Tryz.prog 177 #[.int .u64 1] w fun e w' => e = .returned (.int .i64 1) ∧ w' = w := by
  go_enter Tryz.func177, Tryz.ntmps177
  go_wp2_with fail
  refine (len64J _).mono ?_
  rintro e w' ⟨rfl, rfl⟩
  go_wp2_with fail
  go_ret
  exact ⟨rfl, rfl⟩
theorem keptV2 (g cap : Nat) (q : Addr) (w : World) (hc : w.cell? ⟨g, 0, none⟩ = some (.pointer (some q))) :
    Calls Tryz.prog 142 #[.slice (some ⟨g, 0, none⟩) 1 cap] w fun e w' => e = .returned (.pointer (some q)) ∧ w' = w := by
  go_enter Tryz.func142, Tryz.ntmps142
  go_wp2_with fail
  refine (lenJ _).mono ?_
  rintro e w' ⟨rfl, rfl⟩
  go_wp2_with fail
  go_ret
  exact ⟨rfl, rfl⟩
theorem partsV2 (g o : Nat) (v : Value) (w : World) (h : w.cell? ⟨g, o + 5, none⟩ = some v) :
    Calls Tryz.prog 66 #[.pointer (some ⟨g, o, none⟩)] w fun e w' => e = .returned v ∧ w' = w := by
  go_enter Tryz.func66, Tryz.ntmps66
  go_wp2_with fail
  go_ret
  exact ⟨rfl, rfl⟩
theorem neV2 {w : World} {a b : Addr} (hne : a ≠ b) (ha : Plain w a.block) (hb : Plain w b.block) : (binOp .eql 74 (.pointer (some a)) (.pointer (some b))).run Tryz.prog w = .ok (.bool false) w := by
  obtain ⟨ca, ta, ha⟩ := ha
  obtain ⟨cb, tb, hb⟩ := hb
  have hi : Tryz.prog.info? 28 = some (Tryz.prog.info? 28).get! := by kernel_rfl
  have hz : (Tryz.prog.info? 28).get!.size ≠ 0 := by
    rw [show (Tryz.prog.info? 28).get!.size = 6 by kernel_rfl]; decide
  exact run_eql_ptr_other w Tryz.underlying74 hi hz hne ha hb
theorem mbV2 : ∃ i, Tryz.prog.info? 194 = some i ∧ i.zero = some (.agg #[.pointer none, .int .i64 0]) ∧ i.size = 2 ∧ i.bytes = 16 :=
  ⟨(Tryz.prog.info? 194).get!, by kernel_rfl, by kernel_rfl, by kernel_rfl, by kernel_rfl⟩
/-- A member whose parts have none. -/
structure FamV2 (w : World) (g c cc : Nat) : Prop where
  top : w.cell? ⟨g, 5, none⟩ = some (.slice (some ⟨c, 0, none⟩) 2 cc)
  a0 : w.cell? ⟨c, 5, none⟩ = some (.slice none 0 0)
  a1 : w.cell? ⟨c, 11, none⟩ = some (.slice none 0 0)
  pg : Plain w g
  pc : Plain w c
  ne : g ≠ c
theorem FamV2.below {w w' : World} {g c cc : Nat} (h : FamV2 w g c cc) (hb : Below w.heap.size w w') : FamV2 w' g c cc :=
  ⟨(hb.cell (lt_of_cell h.top)).trans h.top, (hb.cell (lt_of_cell h.a0)).trans h.a0, (hb.cell (lt_of_cell h.a1)).trans h.a1, h.pg.below hb h.pg.lt, h.pc.below hb h.pc.lt, h.ne⟩
theorem keptS1 (g cap : Nat) (q : Addr) (w : World) (hc : w.cell? ⟨g, 0, none⟩ = some (.pointer (some q))) :
    Calls Tryz.prog 193 #[.slice (some ⟨g, 0, none⟩) 1 cap] w fun e w' => e = .returned (.pointer (some q)) ∧ w' = w := by
  go_enter Tryz.func193, Tryz.ntmps193
  go_wp2_with fail
  refine (lenJ _).mono ?_
  rintro e w' ⟨rfl, rfl⟩
  go_wp2_with fail
  go_ret
  exact ⟨rfl, rfl⟩
theorem partsS1 (g o : Nat) (v : Value) (w : World) (h : w.cell? ⟨g, o + 2, none⟩ = some v) :
    Calls Tryz.prog 151 #[.pointer (some ⟨g, o, none⟩)] w fun e w' => e = .returned v ∧ w' = w := by
  go_enter Tryz.func151, Tryz.ntmps151
  go_wp2_with fail
  go_ret
  exact ⟨rfl, rfl⟩
theorem neS1 {w : World} {a b : Addr} (hne : a ≠ b) (ha : Plain w a.block) (hb : Plain w b.block) : (binOp .eql 160 (.pointer (some a)) (.pointer (some b))).run Tryz.prog w = .ok (.bool false) w := by
  obtain ⟨ca, ta, ha⟩ := ha
  obtain ⟨cb, tb, hb⟩ := hb
  have hi : Tryz.prog.info? 48 = some (Tryz.prog.info? 48).get! := by kernel_rfl
  have hz : (Tryz.prog.info? 48).get!.size ≠ 0 := by
    rw [show (Tryz.prog.info? 48).get!.size = 3 by kernel_rfl]; decide
  exact run_eql_ptr_other w Tryz.underlying160 hi hz hne ha hb
theorem mbS1 : ∃ i, Tryz.prog.info? 237 = some i ∧ i.zero = some (.agg #[.pointer none, .int .i64 0]) ∧ i.size = 2 ∧ i.bytes = 16 :=
  ⟨(Tryz.prog.info? 237).get!, by kernel_rfl, by kernel_rfl, by kernel_rfl, by kernel_rfl⟩
/-- A member whose parts have none. -/
structure FamS1 (w : World) (g c cc : Nat) : Prop where
  top : w.cell? ⟨g, 2, none⟩ = some (.slice (some ⟨c, 0, none⟩) 1 cc)
  a0 : w.cell? ⟨c, 2, none⟩ = some (.slice none 0 0)
  pg : Plain w g
  pc : Plain w c
  ne : g ≠ c
theorem FamS1.below {w w' : World} {g c cc : Nat} (h : FamS1 w g c cc) (hb : Below w.heap.size w w') : FamS1 w' g c cc :=
  ⟨(hb.cell (lt_of_cell h.top)).trans h.top, (hb.cell (lt_of_cell h.a0)).trans h.a0, h.pg.below hb h.pg.lt, h.pc.below hb h.pc.lt, h.ne⟩
end

section
set_option maxRecDepth 100000
set_option linter.unusedSimpArgs false
set_option linter.unusedVariables false
open Go.RowKit


set_option maxHeartbeats 6400000 in
theorem walkeV2 (g : Nat) (R : Nat → Nat → World → Prop) (w : World)
    (hv : Calls Tryz.prog 141 #[.pointer (some ⟨g, 0, none⟩), .int .i64 1] w fun e w1 => e = .returned (.tuple #[]) ∧ ∃ c cc, R c cc w1 ∧ FamV2 w1 g c cc ∧ ∀ o, o < 12 → o % 6 = 0 → ∀ wx, Below w1.heap.size w1 wx → Calls Tryz.prog 141 #[.pointer (some ⟨c, o, none⟩), .int .i64 2] wx fun e w' => e = .returned (.tuple #[]) ∧ Below wx.heap.size wx w') :
    Calls Tryz.prog 101 #[.pointer (some ⟨g, 0, none⟩), .func (.func 66) #[] #[], .func (.func 141) #[] #[]] w fun e w' => e = .returned (.bool true) ∧ ∃ w1 c cc, R c cc w1 ∧ Below w1.heap.size w1 w' := by
  have HV := Lib.hid hv
  obtain ⟨mi, hmi, hmz, hms, hmb⟩ := mbV2
  clear hv
  go_enter Tryz.func101, Tryz.ntmps101
  go_wp2_with fail
  refine HV.out.mono ?_
  rintro e W1 ⟨rfl, c, cc, hR, hF, hL⟩
  have HR := Lib.hid hR
  have HF := Lib.hid hF
  have HL := Lib.hid hL
  have HRN := Lib.hid (Row.new W1 [.pointer (some ⟨g, 0, none⟩), .int .i64 0] 194)
  have HB0 := Lib.hid (below_new W1 (.cells #[.pointer (some ⟨g, 0, none⟩), .int .i64 0] 194))
  have c0 := HRN.out.cell (k := 0) rfl
  have c1 := HRN.out.cell (k := 1) rfl
  have f1 := HRN.out.free 1
  clear hR hF hL HV
  go_wp2_with fail
  refine wp_loop_rounds 6 ?_
  rw [rounds_succ]
  go_wp2_with fail
  -- part 0
  refine (partsV2 g 0 _ _ (HF.out.below HB0.out).top).mono ?_
  rintro e wp0 ⟨rfl, rfl⟩
  go_wp2_with fail
  have r1 := Row.new W1 [.pointer (some ⟨g, 0, none⟩), .int .i64 1] 194
  have HO0 := Lib.hid (row_ownJ (B := W1.heap.size) (n := 1) (sz := 2) r1 (Nat.le_refl _) rfl (by unfold maxLen; omega))
  have HS0 := Lib.hid (below_new W1 (.cells #[.pointer (some ⟨g, 0, none⟩), .int .i64 1] 194))
  have k0 := r1.cell (k := 0) rfl
  clear r1 c0 c1 f1
  refine (keptV2 _ _ _ _ k0).mono ?_
  rintro e wk0 ⟨rfl, rfl⟩
  have hne := neV2 (a := ⟨c, 0, none⟩) (b := ⟨g, 0, none⟩) (fun e => HF.out.ne (congrArg Addr.block e).symm) (HF.out.below HS0.out).pc (HF.out.below HS0.out).pg
  go_wp2_with (at_builtin; refine wpList_append_rdJ rfl (.tmp 60) (.tmp 63) 195 rfl W1.heap.size 194 mi _ 2 16 Tryz.underlying195 hmi hmz hms hmb rfl (by omega) _ 1 _ rfl (World.ownsRow.alloc HO0.out _) _ 1 1 [.pointer (some ⟨c, 0, none⟩), .int .i64 0] rfl rfl ?ca (by simp [Value.oneCell']) (by unfold maxLen; omega) (by omega) (Nat.le_trans HS0.out.size (by simp)) ?_)
  case ca => exact fun _ => ⟨_, rfl, fun q u hu => by
    rw [add0J]
    exact (row_atJ _ [.pointer (some ⟨c, 0, none⟩), .int .i64 0] 194 _ (by simp)).cell hu⟩
  intro va0 wa0 hoa hga
  have HBA0 := Lib.hid ((HS0.out.alloc HS0.out.size (.cells #[.pointer (some ⟨c, 0, none⟩), .int .i64 0] 194)).grown hga (Nat.le_trans HS0.out.size (by simp)) (fun q hq => ((World.ownsRow.alloc HO0.out (.cells #[.pointer (some ⟨c, 0, none⟩), .int .i64 0] 194)).lt q hq).1))
  have HOA0 := Lib.hid hoa
  obtain ⟨g0, cap0, rfl, hg1, hg2, hg3, _⟩ := own_formJ (by omega) hoa
  have HG0 := Lib.hid hg1
  clear hoa hga hne k0
  go_wp2_with fail
  refine (HL.out 0 (by decide) (by decide) _ HBA0.out).mono ?_
  rintro e wv0 ⟨rfl, hbv⟩
  have HB2 := Lib.hid (HBA0.out.trans (hbv.mono HBA0.out.size))
  have HOV0 := Lib.hid (own_below HOA0.out hbv)
  have c0 := own_cellJ HOV0.out (k := 2) rfl
  have c1 := own_cellJ HOV0.out (k := 3) rfl
  clear hbv
  go_wp2_with fail
  rw [rounds_succ]
  go_wp2_with fail
  refine (partsV2 c 0 _ _ (HF.out.below HB2.out).a0).mono ?_
  rintro e wq0 ⟨rfl, rfl⟩
  have hcp : 1 ≤ cap0 := by omega
  go_wp2_with fail
  have HOC0 := Lib.hid (own_cutJ HOV0.out (m := 1) (by omega))
  have HB4 := Lib.hid HB2.out
  clear c0 c1
  have c0 := own_cellJ HOC0.out (k := 0) rfl
  have c1 := own_cellJ HOC0.out (k := 1) rfl
  have f1 := own_freeJ HOC0.out 1
  rw [rounds_succ]
  go_wp2_with fail
  -- part 1
  refine (partsV2 g 0 _ _ (HF.out.below HB4.out).top).mono ?_
  rintro e wp1 ⟨rfl, rfl⟩
  go_wp2_with fail
  have HO1 := Lib.hid (own_setJ HOC0.out 1 (.int .i64 2))
  have HS1 := Lib.hid (HB4.out.setCell (p := ⟨g0, 1, none⟩) HG0.out (.int .i64 2))
  have k0 := own_cellJ HO1.out (k := 0) rfl
  clear c0 c1 f1
  refine (keptV2 _ _ _ _ k0).mono ?_
  rintro e wk1 ⟨rfl, rfl⟩
  have hne := neV2 (a := ⟨c, 6, none⟩) (b := ⟨g, 0, none⟩) (fun e => HF.out.ne (congrArg Addr.block e).symm) (HF.out.below HS1.out).pc (HF.out.below HS1.out).pg
  go_wp2_with (at_builtin; refine wpList_append_rdJ rfl (.tmp 60) (.tmp 63) 195 rfl W1.heap.size 194 mi _ 2 16 Tryz.underlying195 hmi hmz hms hmb rfl (by omega) _ 1 _ rfl (World.ownsRow.alloc HO1.out _) _ 1 1 [.pointer (some ⟨c, 6, none⟩), .int .i64 0] rfl rfl ?ca (by simp [Value.oneCell']) (by unfold maxLen; omega) (by omega) (Nat.le_trans HS1.out.size (by simp)) ?_)
  case ca => exact fun _ => ⟨_, rfl, fun q u hu => by
    rw [add0J]
    exact (row_atJ _ [.pointer (some ⟨c, 6, none⟩), .int .i64 0] 194 _ (by simp)).cell hu⟩
  intro va1 wa1 hoa hga
  have HBA1 := Lib.hid ((HS1.out.alloc HS1.out.size (.cells #[.pointer (some ⟨c, 6, none⟩), .int .i64 0] 194)).grown hga (Nat.le_trans HS1.out.size (by simp)) (fun q hq => ((World.ownsRow.alloc HO1.out (.cells #[.pointer (some ⟨c, 6, none⟩), .int .i64 0] 194)).lt q hq).1))
  have HOA1 := Lib.hid hoa
  obtain ⟨g1, cap1, rfl, hg1, hg2, hg3, _⟩ := own_formJ (by omega) hoa
  have HG1 := Lib.hid hg1
  clear hoa hga hne k0
  go_wp2_with fail
  refine (HL.out 6 (by decide) (by decide) _ HBA1.out).mono ?_
  rintro e wv1 ⟨rfl, hbv⟩
  have HB6 := Lib.hid (HBA1.out.trans (hbv.mono HBA1.out.size))
  have HOV1 := Lib.hid (own_below HOA1.out hbv)
  have c0 := own_cellJ HOV1.out (k := 2) rfl
  have c1 := own_cellJ HOV1.out (k := 3) rfl
  clear hbv
  go_wp2_with fail
  rw [rounds_succ]
  go_wp2_with fail
  refine (partsV2 c 6 _ _ (HF.out.below HB6.out).a1).mono ?_
  rintro e wq1 ⟨rfl, rfl⟩
  have hcp : 1 ≤ cap1 := by omega
  go_wp2_with fail
  have HOC1 := Lib.hid (own_cutJ HOV1.out (m := 1) (by omega))
  have HB8 := Lib.hid HB6.out
  clear c0 c1
  have c0 := own_cellJ HOC1.out (k := 0) rfl
  have c1 := own_cellJ HOC1.out (k := 1) rfl
  have f1 := own_freeJ HOC1.out 1
  rw [rounds_succ]
  go_wp2_with fail
  -- the root is done
  refine (partsV2 g 0 _ _ (HF.out.below HB8.out).top).mono ?_
  rintro e wz ⟨rfl, rfl⟩
  go_wp2_with fail
  rw [rounds_succ]
  go_wp2_with fail
  go_ret
  exact ⟨rfl, W1, c, cc, HR.out, HB8.out⟩

set_option maxHeartbeats 6400000 in
theorem walkcV2 (g f : Nat) (R : Nat → Nat → World → Prop) (w : World)
    (hv : Calls Tryz.prog 102 #[.pointer (some ⟨g, 0, none⟩), .int .i64 1, .pointer (some ⟨f, 0, none⟩)] w fun e w1 => e = .returned (.tuple #[]) ∧ ∃ c cc, R c cc w1 ∧ FamV2 w1 g c cc ∧ ∀ o, o < 12 → o % 6 = 0 → ∀ wx, Below w1.heap.size w1 wx → Calls Tryz.prog 102 #[.pointer (some ⟨c, o, none⟩), .int .i64 2, .pointer (some ⟨f, 0, none⟩)] wx fun e w' => e = .returned (.tuple #[]) ∧ Below wx.heap.size wx w') :
    Calls Tryz.prog 101 #[.pointer (some ⟨g, 0, none⟩), .func (.func 66) #[] #[], .func (.func 102) #[] #[.pointer (some ⟨f, 0, none⟩)]] w fun e w' => e = .returned (.bool true) ∧ ∃ w1 c cc, R c cc w1 ∧ Below w1.heap.size w1 w' := by
  have HV := Lib.hid hv
  obtain ⟨mi, hmi, hmz, hms, hmb⟩ := mbV2
  clear hv
  go_enter Tryz.func101, Tryz.ntmps101
  go_wp2_with fail
  refine HV.out.mono ?_
  rintro e W1 ⟨rfl, c, cc, hR, hF, hL⟩
  have HR := Lib.hid hR
  have HF := Lib.hid hF
  have HL := Lib.hid hL
  have HRN := Lib.hid (Row.new W1 [.pointer (some ⟨g, 0, none⟩), .int .i64 0] 194)
  have HB0 := Lib.hid (below_new W1 (.cells #[.pointer (some ⟨g, 0, none⟩), .int .i64 0] 194))
  have c0 := HRN.out.cell (k := 0) rfl
  have c1 := HRN.out.cell (k := 1) rfl
  have f1 := HRN.out.free 1
  clear hR hF hL HV
  go_wp2_with fail
  refine wp_loop_rounds 6 ?_
  rw [rounds_succ]
  go_wp2_with fail
  -- part 0
  refine (partsV2 g 0 _ _ (HF.out.below HB0.out).top).mono ?_
  rintro e wp0 ⟨rfl, rfl⟩
  go_wp2_with fail
  have r1 := Row.new W1 [.pointer (some ⟨g, 0, none⟩), .int .i64 1] 194
  have HO0 := Lib.hid (row_ownJ (B := W1.heap.size) (n := 1) (sz := 2) r1 (Nat.le_refl _) rfl (by unfold maxLen; omega))
  have HS0 := Lib.hid (below_new W1 (.cells #[.pointer (some ⟨g, 0, none⟩), .int .i64 1] 194))
  have k0 := r1.cell (k := 0) rfl
  clear r1 c0 c1 f1
  refine (keptV2 _ _ _ _ k0).mono ?_
  rintro e wk0 ⟨rfl, rfl⟩
  have hne := neV2 (a := ⟨c, 0, none⟩) (b := ⟨g, 0, none⟩) (fun e => HF.out.ne (congrArg Addr.block e).symm) (HF.out.below HS0.out).pc (HF.out.below HS0.out).pg
  go_wp2_with (at_builtin; refine wpList_append_rdJ rfl (.tmp 60) (.tmp 63) 195 rfl W1.heap.size 194 mi _ 2 16 Tryz.underlying195 hmi hmz hms hmb rfl (by omega) _ 1 _ rfl (World.ownsRow.alloc HO0.out _) _ 1 1 [.pointer (some ⟨c, 0, none⟩), .int .i64 0] rfl rfl ?ca (by simp [Value.oneCell']) (by unfold maxLen; omega) (by omega) (Nat.le_trans HS0.out.size (by simp)) ?_)
  case ca => exact fun _ => ⟨_, rfl, fun q u hu => by
    rw [add0J]
    exact (row_atJ _ [.pointer (some ⟨c, 0, none⟩), .int .i64 0] 194 _ (by simp)).cell hu⟩
  intro va0 wa0 hoa hga
  have HBA0 := Lib.hid ((HS0.out.alloc HS0.out.size (.cells #[.pointer (some ⟨c, 0, none⟩), .int .i64 0] 194)).grown hga (Nat.le_trans HS0.out.size (by simp)) (fun q hq => ((World.ownsRow.alloc HO0.out (.cells #[.pointer (some ⟨c, 0, none⟩), .int .i64 0] 194)).lt q hq).1))
  have HOA0 := Lib.hid hoa
  obtain ⟨g0, cap0, rfl, hg1, hg2, hg3, _⟩ := own_formJ (by omega) hoa
  have HG0 := Lib.hid hg1
  clear hoa hga hne k0
  go_wp2_with fail
  refine (HL.out 0 (by decide) (by decide) _ HBA0.out).mono ?_
  rintro e wv0 ⟨rfl, hbv⟩
  have HB2 := Lib.hid (HBA0.out.trans (hbv.mono HBA0.out.size))
  have HOV0 := Lib.hid (own_below HOA0.out hbv)
  have c0 := own_cellJ HOV0.out (k := 2) rfl
  have c1 := own_cellJ HOV0.out (k := 3) rfl
  clear hbv
  go_wp2_with fail
  rw [rounds_succ]
  go_wp2_with fail
  refine (partsV2 c 0 _ _ (HF.out.below HB2.out).a0).mono ?_
  rintro e wq0 ⟨rfl, rfl⟩
  have hcp : 1 ≤ cap0 := by omega
  go_wp2_with fail
  have HOC0 := Lib.hid (own_cutJ HOV0.out (m := 1) (by omega))
  have HB4 := Lib.hid HB2.out
  clear c0 c1
  have c0 := own_cellJ HOC0.out (k := 0) rfl
  have c1 := own_cellJ HOC0.out (k := 1) rfl
  have f1 := own_freeJ HOC0.out 1
  rw [rounds_succ]
  go_wp2_with fail
  -- part 1
  refine (partsV2 g 0 _ _ (HF.out.below HB4.out).top).mono ?_
  rintro e wp1 ⟨rfl, rfl⟩
  go_wp2_with fail
  have HO1 := Lib.hid (own_setJ HOC0.out 1 (.int .i64 2))
  have HS1 := Lib.hid (HB4.out.setCell (p := ⟨g0, 1, none⟩) HG0.out (.int .i64 2))
  have k0 := own_cellJ HO1.out (k := 0) rfl
  clear c0 c1 f1
  refine (keptV2 _ _ _ _ k0).mono ?_
  rintro e wk1 ⟨rfl, rfl⟩
  have hne := neV2 (a := ⟨c, 6, none⟩) (b := ⟨g, 0, none⟩) (fun e => HF.out.ne (congrArg Addr.block e).symm) (HF.out.below HS1.out).pc (HF.out.below HS1.out).pg
  go_wp2_with (at_builtin; refine wpList_append_rdJ rfl (.tmp 60) (.tmp 63) 195 rfl W1.heap.size 194 mi _ 2 16 Tryz.underlying195 hmi hmz hms hmb rfl (by omega) _ 1 _ rfl (World.ownsRow.alloc HO1.out _) _ 1 1 [.pointer (some ⟨c, 6, none⟩), .int .i64 0] rfl rfl ?ca (by simp [Value.oneCell']) (by unfold maxLen; omega) (by omega) (Nat.le_trans HS1.out.size (by simp)) ?_)
  case ca => exact fun _ => ⟨_, rfl, fun q u hu => by
    rw [add0J]
    exact (row_atJ _ [.pointer (some ⟨c, 6, none⟩), .int .i64 0] 194 _ (by simp)).cell hu⟩
  intro va1 wa1 hoa hga
  have HBA1 := Lib.hid ((HS1.out.alloc HS1.out.size (.cells #[.pointer (some ⟨c, 6, none⟩), .int .i64 0] 194)).grown hga (Nat.le_trans HS1.out.size (by simp)) (fun q hq => ((World.ownsRow.alloc HO1.out (.cells #[.pointer (some ⟨c, 6, none⟩), .int .i64 0] 194)).lt q hq).1))
  have HOA1 := Lib.hid hoa
  obtain ⟨g1, cap1, rfl, hg1, hg2, hg3, _⟩ := own_formJ (by omega) hoa
  have HG1 := Lib.hid hg1
  clear hoa hga hne k0
  go_wp2_with fail
  refine (HL.out 6 (by decide) (by decide) _ HBA1.out).mono ?_
  rintro e wv1 ⟨rfl, hbv⟩
  have HB6 := Lib.hid (HBA1.out.trans (hbv.mono HBA1.out.size))
  have HOV1 := Lib.hid (own_below HOA1.out hbv)
  have c0 := own_cellJ HOV1.out (k := 2) rfl
  have c1 := own_cellJ HOV1.out (k := 3) rfl
  clear hbv
  go_wp2_with fail
  rw [rounds_succ]
  go_wp2_with fail
  refine (partsV2 c 6 _ _ (HF.out.below HB6.out).a1).mono ?_
  rintro e wq1 ⟨rfl, rfl⟩
  have hcp : 1 ≤ cap1 := by omega
  go_wp2_with fail
  have HOC1 := Lib.hid (own_cutJ HOV1.out (m := 1) (by omega))
  have HB8 := Lib.hid HB6.out
  clear c0 c1
  have c0 := own_cellJ HOC1.out (k := 0) rfl
  have c1 := own_cellJ HOC1.out (k := 1) rfl
  have f1 := own_freeJ HOC1.out 1
  rw [rounds_succ]
  go_wp2_with fail
  -- the root is done
  refine (partsV2 g 0 _ _ (HF.out.below HB8.out).top).mono ?_
  rintro e wz ⟨rfl, rfl⟩
  go_wp2_with fail
  rw [rounds_succ]
  go_wp2_with fail
  go_ret
  exact ⟨rfl, W1, c, cc, HR.out, HB8.out⟩
end

section
set_option maxRecDepth 100000
set_option linter.unusedSimpArgs false
set_option linter.unusedVariables false
open Go.RowKit


set_option maxHeartbeats 6400000 in
theorem walkeS1 (g : Nat) (R : Nat → Nat → World → Prop) (w : World)
    (hv : Calls Tryz.prog 192 #[.pointer (some ⟨g, 0, none⟩), .int .i64 1] w fun e w1 => e = .returned (.tuple #[]) ∧ ∃ c cc, R c cc w1 ∧ FamS1 w1 g c cc ∧ ∀ o, o < 3 → o % 3 = 0 → ∀ wx, Below w1.heap.size w1 wx → Calls Tryz.prog 192 #[.pointer (some ⟨c, o, none⟩), .int .i64 2] wx fun e w' => e = .returned (.tuple #[]) ∧ Below wx.heap.size wx w') :
    Calls Tryz.prog 181 #[.pointer (some ⟨g, 0, none⟩), .func (.func 151) #[] #[], .func (.func 192) #[] #[]] w fun e w' => e = .returned (.bool true) ∧ ∃ w1 c cc, R c cc w1 ∧ Below w1.heap.size w1 w' := by
  have HV := Lib.hid hv
  obtain ⟨mi, hmi, hmz, hms, hmb⟩ := mbS1
  clear hv
  go_enter Tryz.func181, Tryz.ntmps181
  go_wp2_with fail
  refine HV.out.mono ?_
  rintro e W1 ⟨rfl, c, cc, hR, hF, hL⟩
  have HR := Lib.hid hR
  have HF := Lib.hid hF
  have HL := Lib.hid hL
  have HRN := Lib.hid (Row.new W1 [.pointer (some ⟨g, 0, none⟩), .int .i64 0] 237)
  have HB0 := Lib.hid (below_new W1 (.cells #[.pointer (some ⟨g, 0, none⟩), .int .i64 0] 237))
  have c0 := HRN.out.cell (k := 0) rfl
  have c1 := HRN.out.cell (k := 1) rfl
  have f1 := HRN.out.free 1
  clear hR hF hL HV
  go_wp2_with fail
  refine wp_loop_rounds 4 ?_
  rw [rounds_succ]
  go_wp2_with fail
  -- part 0
  refine (partsS1 g 0 _ _ (HF.out.below HB0.out).top).mono ?_
  rintro e wp0 ⟨rfl, rfl⟩
  go_wp2_with fail
  have r1 := Row.new W1 [.pointer (some ⟨g, 0, none⟩), .int .i64 1] 237
  have HO0 := Lib.hid (row_ownJ (B := W1.heap.size) (n := 1) (sz := 2) r1 (Nat.le_refl _) rfl (by unfold maxLen; omega))
  have HS0 := Lib.hid (below_new W1 (.cells #[.pointer (some ⟨g, 0, none⟩), .int .i64 1] 237))
  have k0 := r1.cell (k := 0) rfl
  clear r1 c0 c1 f1
  refine (keptS1 _ _ _ _ k0).mono ?_
  rintro e wk0 ⟨rfl, rfl⟩
  have hne := neS1 (a := ⟨c, 0, none⟩) (b := ⟨g, 0, none⟩) (fun e => HF.out.ne (congrArg Addr.block e).symm) (HF.out.below HS0.out).pc (HF.out.below HS0.out).pg
  go_wp2_with (at_builtin; refine wpList_append_rdJ rfl (.tmp 60) (.tmp 63) 238 rfl W1.heap.size 237 mi _ 2 16 Tryz.underlying238 hmi hmz hms hmb rfl (by omega) _ 1 _ rfl (World.ownsRow.alloc HO0.out _) _ 1 1 [.pointer (some ⟨c, 0, none⟩), .int .i64 0] rfl rfl ?ca (by simp [Value.oneCell']) (by unfold maxLen; omega) (by omega) (Nat.le_trans HS0.out.size (by simp)) ?_)
  case ca => exact fun _ => ⟨_, rfl, fun q u hu => by
    rw [add0J]
    exact (row_atJ _ [.pointer (some ⟨c, 0, none⟩), .int .i64 0] 237 _ (by simp)).cell hu⟩
  intro va0 wa0 hoa hga
  have HBA0 := Lib.hid ((HS0.out.alloc HS0.out.size (.cells #[.pointer (some ⟨c, 0, none⟩), .int .i64 0] 237)).grown hga (Nat.le_trans HS0.out.size (by simp)) (fun q hq => ((World.ownsRow.alloc HO0.out (.cells #[.pointer (some ⟨c, 0, none⟩), .int .i64 0] 237)).lt q hq).1))
  have HOA0 := Lib.hid hoa
  obtain ⟨g0, cap0, rfl, hg1, hg2, hg3, _⟩ := own_formJ (by omega) hoa
  have HG0 := Lib.hid hg1
  clear hoa hga hne k0
  go_wp2_with fail
  refine (HL.out 0 (by decide) (by decide) _ HBA0.out).mono ?_
  rintro e wv0 ⟨rfl, hbv⟩
  have HB2 := Lib.hid (HBA0.out.trans (hbv.mono HBA0.out.size))
  have HOV0 := Lib.hid (own_below HOA0.out hbv)
  have c0 := own_cellJ HOV0.out (k := 2) rfl
  have c1 := own_cellJ HOV0.out (k := 3) rfl
  clear hbv
  go_wp2_with fail
  rw [rounds_succ]
  go_wp2_with fail
  refine (partsS1 c 0 _ _ (HF.out.below HB2.out).a0).mono ?_
  rintro e wq0 ⟨rfl, rfl⟩
  have hcp : 1 ≤ cap0 := by omega
  go_wp2_with fail
  have HOC0 := Lib.hid (own_cutJ HOV0.out (m := 1) (by omega))
  have HB4 := Lib.hid HB2.out
  clear c0 c1
  have c0 := own_cellJ HOC0.out (k := 0) rfl
  have c1 := own_cellJ HOC0.out (k := 1) rfl
  have f1 := own_freeJ HOC0.out 1
  rw [rounds_succ]
  go_wp2_with fail
  -- the root is done
  refine (partsS1 g 0 _ _ (HF.out.below HB4.out).top).mono ?_
  rintro e wz ⟨rfl, rfl⟩
  go_wp2_with fail
  rw [rounds_succ]
  go_wp2_with fail
  go_ret
  exact ⟨rfl, W1, c, cc, HR.out, HB4.out⟩

set_option maxHeartbeats 6400000 in
theorem walkcS1 (g f : Nat) (R : Nat → Nat → World → Prop) (w : World)
    (hv : Calls Tryz.prog 182 #[.pointer (some ⟨g, 0, none⟩), .int .i64 1, .pointer (some ⟨f, 0, none⟩)] w fun e w1 => e = .returned (.tuple #[]) ∧ ∃ c cc, R c cc w1 ∧ FamS1 w1 g c cc ∧ ∀ o, o < 3 → o % 3 = 0 → ∀ wx, Below w1.heap.size w1 wx → Calls Tryz.prog 182 #[.pointer (some ⟨c, o, none⟩), .int .i64 2, .pointer (some ⟨f, 0, none⟩)] wx fun e w' => e = .returned (.tuple #[]) ∧ Below wx.heap.size wx w') :
    Calls Tryz.prog 181 #[.pointer (some ⟨g, 0, none⟩), .func (.func 151) #[] #[], .func (.func 182) #[] #[.pointer (some ⟨f, 0, none⟩)]] w fun e w' => e = .returned (.bool true) ∧ ∃ w1 c cc, R c cc w1 ∧ Below w1.heap.size w1 w' := by
  have HV := Lib.hid hv
  obtain ⟨mi, hmi, hmz, hms, hmb⟩ := mbS1
  clear hv
  go_enter Tryz.func181, Tryz.ntmps181
  go_wp2_with fail
  refine HV.out.mono ?_
  rintro e W1 ⟨rfl, c, cc, hR, hF, hL⟩
  have HR := Lib.hid hR
  have HF := Lib.hid hF
  have HL := Lib.hid hL
  have HRN := Lib.hid (Row.new W1 [.pointer (some ⟨g, 0, none⟩), .int .i64 0] 237)
  have HB0 := Lib.hid (below_new W1 (.cells #[.pointer (some ⟨g, 0, none⟩), .int .i64 0] 237))
  have c0 := HRN.out.cell (k := 0) rfl
  have c1 := HRN.out.cell (k := 1) rfl
  have f1 := HRN.out.free 1
  clear hR hF hL HV
  go_wp2_with fail
  refine wp_loop_rounds 4 ?_
  rw [rounds_succ]
  go_wp2_with fail
  -- part 0
  refine (partsS1 g 0 _ _ (HF.out.below HB0.out).top).mono ?_
  rintro e wp0 ⟨rfl, rfl⟩
  go_wp2_with fail
  have r1 := Row.new W1 [.pointer (some ⟨g, 0, none⟩), .int .i64 1] 237
  have HO0 := Lib.hid (row_ownJ (B := W1.heap.size) (n := 1) (sz := 2) r1 (Nat.le_refl _) rfl (by unfold maxLen; omega))
  have HS0 := Lib.hid (below_new W1 (.cells #[.pointer (some ⟨g, 0, none⟩), .int .i64 1] 237))
  have k0 := r1.cell (k := 0) rfl
  clear r1 c0 c1 f1
  refine (keptS1 _ _ _ _ k0).mono ?_
  rintro e wk0 ⟨rfl, rfl⟩
  have hne := neS1 (a := ⟨c, 0, none⟩) (b := ⟨g, 0, none⟩) (fun e => HF.out.ne (congrArg Addr.block e).symm) (HF.out.below HS0.out).pc (HF.out.below HS0.out).pg
  go_wp2_with (at_builtin; refine wpList_append_rdJ rfl (.tmp 60) (.tmp 63) 238 rfl W1.heap.size 237 mi _ 2 16 Tryz.underlying238 hmi hmz hms hmb rfl (by omega) _ 1 _ rfl (World.ownsRow.alloc HO0.out _) _ 1 1 [.pointer (some ⟨c, 0, none⟩), .int .i64 0] rfl rfl ?ca (by simp [Value.oneCell']) (by unfold maxLen; omega) (by omega) (Nat.le_trans HS0.out.size (by simp)) ?_)
  case ca => exact fun _ => ⟨_, rfl, fun q u hu => by
    rw [add0J]
    exact (row_atJ _ [.pointer (some ⟨c, 0, none⟩), .int .i64 0] 237 _ (by simp)).cell hu⟩
  intro va0 wa0 hoa hga
  have HBA0 := Lib.hid ((HS0.out.alloc HS0.out.size (.cells #[.pointer (some ⟨c, 0, none⟩), .int .i64 0] 237)).grown hga (Nat.le_trans HS0.out.size (by simp)) (fun q hq => ((World.ownsRow.alloc HO0.out (.cells #[.pointer (some ⟨c, 0, none⟩), .int .i64 0] 237)).lt q hq).1))
  have HOA0 := Lib.hid hoa
  obtain ⟨g0, cap0, rfl, hg1, hg2, hg3, _⟩ := own_formJ (by omega) hoa
  have HG0 := Lib.hid hg1
  clear hoa hga hne k0
  go_wp2_with fail
  refine (HL.out 0 (by decide) (by decide) _ HBA0.out).mono ?_
  rintro e wv0 ⟨rfl, hbv⟩
  have HB2 := Lib.hid (HBA0.out.trans (hbv.mono HBA0.out.size))
  have HOV0 := Lib.hid (own_below HOA0.out hbv)
  have c0 := own_cellJ HOV0.out (k := 2) rfl
  have c1 := own_cellJ HOV0.out (k := 3) rfl
  clear hbv
  go_wp2_with fail
  rw [rounds_succ]
  go_wp2_with fail
  refine (partsS1 c 0 _ _ (HF.out.below HB2.out).a0).mono ?_
  rintro e wq0 ⟨rfl, rfl⟩
  have hcp : 1 ≤ cap0 := by omega
  go_wp2_with fail
  have HOC0 := Lib.hid (own_cutJ HOV0.out (m := 1) (by omega))
  have HB4 := Lib.hid HB2.out
  clear c0 c1
  have c0 := own_cellJ HOC0.out (k := 0) rfl
  have c1 := own_cellJ HOC0.out (k := 1) rfl
  have f1 := own_freeJ HOC0.out 1
  rw [rounds_succ]
  go_wp2_with fail
  -- the root is done
  refine (partsS1 g 0 _ _ (HF.out.below HB4.out).top).mono ?_
  rintro e wz ⟨rfl, rfl⟩
  go_wp2_with fail
  rw [rounds_succ]
  go_wp2_with fail
  go_ret
  exact ⟨rfl, W1, c, cc, HR.out, HB4.out⟩
end

end Go.Proofs.YtmiadkhfjkaidaaGreatDoor
