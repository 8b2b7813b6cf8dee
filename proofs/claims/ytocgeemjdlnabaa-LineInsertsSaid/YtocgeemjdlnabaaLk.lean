/- slices.Grow from nothing, slices.Concat: at marks. -/
import Derived.Test.YtocgeemjdlnabaaLj
import Derived.Lib.AppendZerosOnto
namespace Go.Proofs.Ytocgeemjdlnabaa
set_option maxRecDepth 100000
set_option linter.unusedSimpArgs false
set_option linter.unusedVariables false
open Go.RowKit

section
variable {P : Program}
theorem append_nothingz (w : World) (base : Nat) (t ty e : TypeId) (i : TypeInfo) (sz : Nat) (ht : P.underlying t = some (.slice e)) (hi : P.info? e = some i)
    (v : Value) (n : Nat) (xs : List Value) (hown : w.ownsRow base e sz v n xs) (c : Nat) : (Builtin.append_ #[t, t] ty #[v, .slice none 0 c]).run P w = .ok v w := by
  rcases hown.2 with ⟨rfl, rfl⟩ | ⟨g, cap, cur, rfl, _, _, hnc, _⟩
  · simp [Builtin.append_, run_underlying ht, sizeOf, typeInfo, hi, Builtin.lenOf, Builtin.firstCells]
  · simp [Builtin.append_, run_underlying ht, sizeOf, typeInfo, hi, Builtin.lenOf, Builtin.firstCells, hnc, storeCells]
theorem append_rdz (w : World) (base : Nat) (t ty e : TypeId) (i : TypeInfo) (z : Value) (sz bytes : Nat) (ht : P.underlying t = some (.slice e)) (hi : P.info? e = some i) (hz : i.zero = some z)
    (hsize : i.size = sz) (hby : i.bytes = bytes) (hzs : z.cells.size = sz) (hsz : 0 < sz) (v : Value) (n : Nat) (xs : List Value) (hown : w.ownsRow base e sz v n xs)
    (A : Option Addr) (m c : Nat) (news : List Value) (hl : news.length = m * sz) (hr : 0 < m → ∃ ad : Addr, A = some ad ∧ ∀ j u, news[j]? = some u → w.cell? (ad.add j) = some u) (h1 : ∀ u ∈ news, u.oneCell' = true)
    (h63 : n + m ≤ maxLen) (hbytes : (n + m) * bytes ≤ 140737488355328) (hbase : base ≤ w.heap.size) :
    ∃ v' w', (Builtin.append_ #[t, t] ty #[v, .slice A m c]).run P w = .ok v' w' ∧ w'.ownsRow base e sz v' (n + m) (xs ++ news) ∧ w.grownBy w' v.ownBlock := by
  rcases A with _ | ad
  · have hm : m = 0 := by
      rcases Nat.eq_zero_or_pos m with h | h
      · exact h
      · obtain ⟨ad, e, _⟩ := hr h; cases e
    subst hm
    have hn : news = [] := List.eq_nil_of_length_eq_zero (by omega)
    subst hn
    exact ⟨v, w, append_nothingz w base t ty e i sz ht hi v n xs hown c, by simpa using hown, World.grownBy.refl w _⟩
  · obtain ⟨v', w', hrun, h2, h3, _⟩ := run_append_own (P := P) w base t ty e i z sz bytes ht hi hz hsize hby hzs hsz v n xs hown ad m c news hl (fun j u hj => by
      rcases Nat.eq_zero_or_pos m with h | h
      · subst h
        have hn : news = [] := List.eq_nil_of_length_eq_zero (by omega)
        subst hn
        simp at hj
      · obtain ⟨ad', e, hc⟩ := hr h
        cases e
        exact hc j u hj) h1 h63 hbytes hbase
    exact ⟨v', w', hrun, h2, h3⟩
theorem wpList_append_rdz {ops : Array Oper} {rest : List Oper} {o : Oper} {a : Act} {w : World} {Q : Exit → Act → World → Prop} (hgd : o.guard = none) (s x : Operand) (t : TypeId)
    (ho : o.op = .call { callee := .builtin .append, args := #[s, x], argTypes := #[t, t] })
    (base : Nat) (e : TypeId) (i : TypeInfo) (z : Value) (sz bytes : Nat) (ht : P.underlying t = some (.slice e)) (hi : P.info? e = some i) (hz : i.zero = some z)
    (hsize : i.size = sz) (hby : i.bytes = bytes) (hzs : z.cells.size = sz) (hsz : 0 < sz) (v : Value) (n : Nat) (xs : List Value) (hs : a.eval s = v) (hown : w.ownsRow base e sz v n xs)
    (A : Option Addr) (m c : Nat) (news : List Value) (hx : a.eval x = .slice A m c) (hl : news.length = m * sz) (hr : 0 < m → ∃ ad : Addr, A = some ad ∧ ∀ j u, news[j]? = some u → w.cell? (ad.add j) = some u) (h1 : ∀ u ∈ news, u.oneCell' = true)
    (h63 : n + m ≤ maxLen) (hbytes : (n + m) * bytes ≤ 140737488355328) (hbase : base ≤ w.heap.size)
    (h : ∀ v' w', w'.ownsRow base e sz v' (n + m) (xs ++ news) → w.grownBy w' v.ownBlock → wpList P ops Q rest (a.put o.dst v') w') : wpList P ops Q (o :: rest) a w := by
  refine wpList_plain hgd fun _ hK => ?_
  obtain ⟨v', w', hrun, h2, h3⟩ := append_rdz (P := P) w base t o.type e i z sz bytes ht hi hz hsize hby hzs hsz v n xs hown A m c news hl hr h1 h63 hbytes hbase
  unfold Oper.wp execOp
  simp only [ho, resolve, invoke, builtin, Sem.run_bind, Sem.run_pure, Result.andThen_ok, List.map_toArray, List.map_cons, List.map_nil, hs, hx, hrun]
  exact hK _ _ (h v' w' h2 h3)
theorem wpList_grow_nilz {ops : Array Oper} {rest : List Oper} {o : Oper} {a : Act} {w : World} {Q : Exit → Act → World → Prop} (hgd : o.guard = none) (s x : Operand) (t tn e : TypeId)
    (ho : o.op = .call { callee := .builtin .append, args := #[s, x], argTypes := #[t, tn] }) (i : TypeInfo) (z : Value) (kn : IntKind) (sz : Nat) (ht : P.underlying t = some (.slice e)) (htn : P.underlying tn = some (.int kn)) (hi : P.info? e = some i) (hz : i.zero = some z) (hsz : i.size = sz) (hz1 : z.cells.size = sz) (hs0 : 0 < sz)
    (hs : a.eval s = .slice none 0 0) (k : Nat) (hx : a.eval x = .int .i64 (k : Int)) (h0 : 0 < k) (hk : k ≤ 1000000) (hb : Nat.ble i.bytes 240 = true)
    (h : ∀ cap w', w'.ownsRow w.heap.size e sz (.slice (some ⟨w.heap.size, 0, none⟩) 0 cap) 0 [] → Below w.heap.size w w' → wpList P ops Q rest (a.put o.dst (.slice (some ⟨w.heap.size, 0, none⟩) k cap)) w') : wpList P ops Q (o :: rest) a w := by
  refine wpList_plain hgd fun _ hK => ?_
  have hold : (Builtin.firstCells i.size 0 (.slice none 0 0)).run P w.drew = .ok ([] : List Value).toArray w.drew := by simp [Builtin.firstCells]
  have hmul : k * i.bytes ≤ 1000000 * 240 := Nat.mul_le_mul hk (Nat.le_of_ble_eq_true hb)
  have hnc : Builtin.nextslicecap (0 + k) 0 = k := by unfold Builtin.nextslicecap; simp; omega
  have hrun := Lib.run_append_grow_zeros (P := P) w t tn o.type e i z .i64 kn ht htn hi hz none 0 0 [] hold k h0 (by omega) (by omega) (by omega) (by omega) (by rw [hnc]; omega)
  unfold Oper.wp execOp
  simp only [ho, resolve, invoke, builtin, Sem.run_bind, Sem.run_pure, Result.andThen_ok, List.map_toArray, List.map_cons, List.map_nil, hs, hx, hrun]
  have hge := grownCap_ge w (0 + k) 0 e
  have hle := grownCap_le_maxLen w (0 + k) 0 e (by unfold maxLen; omega)
  rw [Nat.zero_add] at hge hle ⊢
  have hcs : (([] : List Value).toArray ++ Builtin.zeroCells z.cells k ++ Builtin.zeroCells z.cells (grownCap w k 0 e - k)).size = grownCap w k 0 e * sz := by
    simp [Builtin.zeroCells, hz1]
    rw [← Nat.add_mul]
    congr 1
    omega
  exact hK _ _ (h _ _ (World.ownsRow_made w.drew _ _ (Nat.le_refl _) hle hcs) ((Below.refl _ _).drew.alloc (Nat.le_refl _) _))
end

theorem growM (k : Nat) (hk : k ≤ 1000000) (w : World) :
    Calls Try.prog 35 #[.slice none 0 0, .int .i64 (k : Int)] w fun e w' => ∃ v, e = .returned v ∧ w'.ownsRow w.heap.size 26 33 v 0 [] ∧ Below w.heap.size w w' := by
  have h1 : ¬ ((k : Int) < 0) := by omega
  have hi : Try.prog.info? 26 = some (Try.prog.info? 26).get! := by kernel_rfl
  obtain ⟨i, hi, hz, hs, hb⟩ := hash_infoM
  have HI := Lib.hid hi
  have HZ := Lib.hid hz
  have HSZ := Lib.hid hs
  have HBY := Lib.hid (show Nat.ble i.bytes 240 = true by rw [hb]; rfl)
  clear hi hz hs hb
  have hw1 : wrap64 ((k : Int) - 0) = (k : Int) := by unfold wrap64; omega
  rcases Nat.eq_zero_or_pos k with h0 | h0
  · subst h0
    go_enter Try.func35, Try.ntmps35
    go_wp2_with fail
    go_ret
    exact ⟨_, rfl, ⟨rfl, Or.inl ⟨rfl, rfl⟩⟩, Below.refl _ _⟩
  · have h2 : (k : Int) > 0 := by omega
    go_enter Try.func35, Try.ntmps35
    go_wp2_with (at_builtin; refine wpList_grow_nilz rfl (.tmp 20) (.tmp 21) 22 3 26 rfl _ _ .i64 33 Try.underlying22 Try.underlying3 HI.out HZ.out HSZ.out (by simp [Value.cells]) (by omega) rfl k rfl h0 hk HBY.out ?_)
    intro cap w' hown hb
    go_wp2
    go_ret
    exact ⟨_, rfl, hown, hb⟩

/-- Slices of marks as they lie. -/
def ParsM (w : World) (vs : List Value) (Ds : List (List Mk)) : Prop :=
  vs.length = Ds.length ∧ ∀ (j : Nat) (D : List Mk), Ds[j]? = some D → ∃ a n c, vs[j]? = some (.slice a n c) ∧ RdHM w a n D
theorem ParsM.below {w w' : World} {vs : List Value} {Ds : List (List Mk)} (h : ParsM w vs Ds) (hb : Below w.heap.size w w') : ParsM w' vs Ds :=
  ⟨h.1, fun j p hj => by
    obtain ⟨a, n, c, hv, hr⟩ := h.2 j p hj
    exact ⟨a, n, c, hv, hr.keep hb⟩⟩
theorem ParsM.nil (w : World) : ParsM w [] [] := ⟨rfl, fun j p h => by simp at h⟩
theorem ParsM.cons {w : World} {vs : List Value} {Ds : List (List Mk)} {a : Option Addr} {n c : Nat} {D : List Mk} (hr : RdHM w a n D) (h : ParsM w vs Ds) : ParsM w (.slice a n c :: vs) (D :: Ds) :=
  ⟨by simp [h.1], fun j q hj => by
    cases j with
    | zero => cases hj; exact ⟨a, n, c, rfl, hr⟩
    | succ j => exact h.2 j q hj⟩
def uptM (Ds : List (List Mk)) (k : Nat) : List Mk := (Ds.take k).flatten
theorem uptM_succ (Ds : List (List Mk)) {k : Nat} {D : List Mk} (h : Ds[k]? = some D) : uptM Ds (k + 1) = uptM Ds k ++ D := by
  unfold uptM
  rw [List.take_add_one, h]
  simp
def lenM (Ds : List (List Mk)) (k : Nat) : Nat := (uptM Ds k).length
theorem uptM_all (Ds : List (List Mk)) : uptM Ds Ds.length = Ds.flatten := by unfold uptM; rw [List.take_length]
theorem uptM_le (Ds : List (List Mk)) (k : Nat) : (uptM Ds k).length ≤ Ds.flatten.length := by
  have h : Ds.flatten = uptM Ds k ++ (Ds.drop k).flatten := by unfold uptM; rw [← List.flatten_append, List.take_append_drop]
  rw [h, List.length_append]
  omega
theorem flat_appM (A B : List Mk) : flatM (A ++ B) = flatM A ++ flatM B := by unfold flatM; rw [List.flatMap_append]
theorem own_sliceM {w : World} {B n : Nat} {v : Value} {xs : List Value} (h : w.ownsRow B 26 33 v n xs) : ∃ A c, v = .slice A n c := by
  rcases h.2 with ⟨rfl, rfl⟩ | ⟨g, cap, cur, rfl, _⟩
  · exact ⟨none, 0, rfl⟩
  · exact ⟨_, cap, rfl⟩

set_option maxHeartbeats 3200000 in
theorem catM (vs : List Value) (Ds : List (List Mk)) (A : Option Addr) (m cap : Nat) (w : World) (hr : Rd w (fun _ => True) A m vs) (hp : ParsM w vs Ds) (hm : m < 1000000) (hn : Ds.flatten.length ≤ 1000000) :
    Calls Try.prog 27 #[.slice A m cap] w fun e w' => ∃ v, e = .returned v ∧ w'.ownsRow w.heap.size 26 33 v Ds.flatten.length (flatM Ds.flatten) ∧ Below w.heap.size w w' := by
  have hl : Ds.length = m := by rw [← hp.1]; exact hr.1
  have HL := Lib.hid hl
  have HR := Lib.hid hr
  have HP := Lib.hid hp
  have HN := Lib.hid hn
  obtain ⟨i, hi, hz, hs, hby⟩ := hash_infoM
  have HI := Lib.hid hi
  have HZ := Lib.hid hz
  have HSZ := Lib.hid hs
  have HBY := Lib.hid hby
  clear hl hr hp hn hi hz hs hby
  go_enter Try.func27, Try.ntmps27
  go_wp2_with fail
  go_loopw [3, 11] (fun s i wr => ∃ k : Nat, k ≤ m ∧ i = .int .i64 (k : Int) ∧ s = .int .i64 (lenM Ds k : Int) ∧ w = wr) (fun _ i _ => m - (intOf i).toNat)
  case atStart => exact ⟨0, Nat.zero_le _, rfl, rfl, rfl⟩
  case round =>
    obtain ⟨k, hkm, rfl, rfl, rfl⟩ := hrel
    by_cases hlt : k < m
    · have hkp : k < Ds.length := by rw [HL.out]; exact hlt
      obtain ⟨a, n, c, hv, hrd⟩ := HP.out.2 k Ds[k] (List.getElem?_eq_getElem hkp)
      have hup := uptM_succ Ds (List.getElem?_eq_getElem hkp)
      have hle := uptM_le Ds (k + 1)
      obtain ⟨ad, e, _, hB, hC⟩ := HR.out.2 (by omega)
      have hc := hC k _ hv
      have hn1 := hrd.1
      have hlen : lenM Ds (k + 1) = lenM Ds k + n := by unfold lenM; rw [hup, List.length_append, hn1]
      have hle1 : lenM Ds (k + 1) ≤ Ds.flatten.length := hle
      have hN := HN.out
      subst e
      have HLEN := Lib.hid hlen
      have hneg : ¬ ((lenM Ds k : Int) + (n : Int) < 0) := by omega
      have hwr : wrap64 ((lenM Ds k : Int) + (n : Int)) = (lenM Ds k : Int) + (n : Int) := by unfold wrap64; omega
      clear hv hrd hup hle hle1 hC hlen hn1 hN
      go_wp2
      go_roundw
      case rel => exact ⟨k + 1, by omega, by go_num, by rw [HLEN.out]; go_num, by first | trivial | rfl⟩
      case measure => simp [intOf]; omega
    · obtain rfl : k = m := by omega
      have hal : lenM Ds k = Ds.flatten.length := by unfold lenM; rw [← HL.out, uptM_all Ds]
      have HN1 := Lib.hid (show lenM Ds k ≤ 1000000 from hal ▸ HN.out)
      clear hal
      go_wp2_with fail
      refine (growM (lenM Ds k) HN1.out _).mono ?_
      rintro e w0 ⟨v0, rfl, hown, hb⟩
      have HOWN := Lib.hid hown
      have HB := Lib.hid hb
      clear hown hb
      go_wp2_with fail
      go_loopw [6, 27] (fun v i wr => ∃ j : Nat, j ≤ k ∧ i = .int .i64 (j : Int) ∧ wr.ownsRow w.heap.size 26 33 v (lenM Ds j) (flatM (uptM Ds j)) ∧ Below w.heap.size w wr) (fun _ i _ => k - (intOf i).toNat)
      case atStart => exact ⟨0, Nat.zero_le _, rfl, HOWN.out, HB.out⟩
      case round =>
        obtain ⟨j, hjm, rfl, hown, hb⟩ := hrel
        by_cases hlt : j < k
        · have hkp : j < Ds.length := by rw [HL.out]; exact hlt
          obtain ⟨a, n, c, hv, hrd⟩ := HP.out.2 j Ds[j] (List.getElem?_eq_getElem hkp)
          have hup := uptM_succ Ds (List.getElem?_eq_getElem hkp)
          have hle := uptM_le Ds (j + 1)
          obtain ⟨ad, e, _, hB, hC⟩ := HR.out.2 (by omega)
          have hc := (hb.cell (p := ad.add j) (by rw [add_block]; exact hB)).trans (hC j _ hv)
          have hn1 := hrd.1
          have hlen : lenM Ds (j + 1) = lenM Ds j + n := by unfold lenM; rw [hup, List.length_append, hn1]
          have hle1 : lenM Ds (j + 1) ≤ Ds.flatten.length := hle
          have hN := HN.out
          have hrw := hrd.keep hb
          obtain ⟨A1, c1, hv1⟩ := own_sliceM hown
          subst e
          subst hv1
          have HLEN := Lib.hid hlen
          have HUP := Lib.hid hup
          have HO := Lib.hid hown
          have HBB := Lib.hid hb
          have HRW := Lib.hid hrw
          have hb1 : lenM Ds j + n ≤ 1000000 := by omega
          clear hv hrd hup hle hle1 hC hlen hn1 hN hown hb hrw
          go_wp2_with (at_builtin; refine wpList_append_rdz rfl (.tmp 31) (.tmp 32) 22 rfl w.heap.size 26 _ _ 33 40 Try.underlying22 HI.out HZ.out HSZ.out HBY.out (by simp [Value.cells]) (by omega) _ _ (flatM (uptM Ds j)) rfl HO.out a n c (flatM Ds[j]) rfl ?c0 ?c4 (flat_oneM _) ?c1 ?c2 ?c3 ?_)
          case c0 => rw [flat_lengthM, HRW.out.1]
          case c4 =>
            intro h
            obtain ⟨ad, e, _, hc⟩ := HRW.out.2 h
            exact ⟨ad, e, hc⟩
          case c1 => unfold maxLen; omega
          case c2 => omega
          case c3 => exact HBB.out.size
          intro v' w' hown hg
          have hb2 : Below w.heap.size w w' := HBB.out.grown hg (HBB.out.size) (fun q hq => (HO.out.lt q hq).1)
          have HO2 := Lib.hid hown
          have HB2 := Lib.hid hb2
          clear hown hg hb2 hc
          go_wp2
          go_roundw
          case rel => exact ⟨j + 1, by omega, by go_num, by rw [HLEN.out, HUP.out, flat_appM]; exact HO2.out, HB2.out⟩
          case measure => simp [intOf]; omega
        · obtain rfl : j = k := by omega
          have hal : uptM Ds j = Ds.flatten := by rw [← HL.out]; exact uptM_all Ds
          have hal2 : lenM Ds j = Ds.flatten.length := by unfold lenM; rw [hal]
          rw [hal, hal2] at hown
          clear hal hal2
          have HO := Lib.hid hown
          have HBB := Lib.hid hb
          clear hown hb
          go_wp2
          go_ret
          exact ⟨_, rfl, HO.out, HBB.out⟩

end Go.Proofs.Ytocgeemjdlnabaa
