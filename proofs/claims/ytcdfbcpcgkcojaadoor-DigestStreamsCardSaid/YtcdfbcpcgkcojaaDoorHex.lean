/- Bytes as digits. -/
import Derived.Test.YtcdfbcpcgkcojaaDoorBase
import Derived.Test.YtcdfbcpcgkcojaaDoorRows
import Derived.RegionTactic
import Derived.OwnWalk
import Derived.Laws.BitsAllLaws
import Derived.Laws.BytesArg
import Derived.Laws.BytesString
import Derived.Laws.IdiomStrings
namespace Go.Proofs.YtcdfbcpcgkcojaaDoor
set_option maxRecDepth 100000
open Go.RowKit

/-- string(b). -/
theorem to_text (A : Option Addr) (n c : Nat) (k : List UInt8) (F : Nat → Prop) (w : World) (hr : Rd w F A n (Bs k)) :
    (convert 22 9 (.slice A n c)).run Tryd.prog w = .ok (.string ⟨k.toArray⟩) w := by
  obtain rfl : n = k.length := hr.len.symm
  by_cases hk : 0 < k.length
  · obtain ⟨ad, rfl, _, _, hc⟩ := hr.2 hk
    refine run_convert_bytes_back w _ _ _ ad c k Tryd.underlying22 Tryd.underlying5 Tryd.underlying9 fun j hj => ?_
    exact hc j _ (by rw [Bs_get, List.getElem?_eq_getElem hj]; rfl)
  · obtain rfl : k = [] := List.eq_nil_of_length_eq_zero (by omega)
    cases A with
    | none => exact run_convert_bytes_nil w _ _ Tryd.underlying22 Tryd.underlying5 _ _ _ Tryd.underlying9
    | some ad => exact run_convert_bytes_back w _ _ _ ad c [] Tryd.underlying22 Tryd.underlying5 Tryd.underlying9 (fun j hj => absurd hj (by simp))

theorem wp_append_rd {P : Program} {o : Oper} {a : Act} {w : World} {K : Act → World → Prop} {Q : Exit → Act → World → Prop} (s x : Operand) (t : TypeId)
    (ho : o.op = .call { callee := .builtin .append, args := #[s, x], argTypes := #[t, t] })
    (base : Nat) (e : TypeId) (i : TypeInfo) (z : Value) (bytes : Nat) (ht : P.underlying t = some (.slice e)) (hi : P.info? e = some i) (hz : i.zero = some z)
    (hsize : i.size = 1) (hby : i.bytes = bytes) (hzs : z.cells.size = 1)
    (v : Value) (n : Nat) (xs : List Value) (hs : a.eval s = v) (hown : w.ownsRow base e 1 v n xs)
    (F : Nat → Prop) (A : Option Addr) (m c : Nat) (news : List Value) (hx : a.eval x = .slice A m c) (hr : Rd w F A m news) (h1 : ∀ u ∈ news, u.oneCell' = true)
    (h63 : n + m ≤ maxLen) (hbytes : (n + m) * bytes ≤ 140737488355328) (hbase : base ≤ w.heap.size)
    (h : ∀ v' w', w'.ownsRow base e 1 v' (n + m) (xs ++ news) → w.grownBy w' v.ownBlock → (v'.ownBlock = v.ownBlock ∨ v'.ownBlock = some w.heap.size) → K (a.put o.dst v') w') : o.wp P a w K Q := by
  obtain ⟨v', w', hrun, h2, h3, h4⟩ := append_rd (P := P) w base t o.type e i z bytes ht hi hz hsize hby hzs v n xs hown F A m c news hr h1 h63 hbytes hbase
  unfold Oper.wp execOp
  simp only [ho, resolve, invoke, builtin, Sem.run_bind, Sem.run_pure, Result.andThen_ok, List.map_toArray, List.map_cons, List.map_nil, hs, hx, hrun]
  exact h v' w' h2 h3 h4

theorem u8_info : (Tryd.prog.info? 5).map (fun i => (i.zero, i.size, i.bytes)) = some (some (.int .u8 0), 1, 1) := by kernel_rfl

/-- A digit; bytes as digits. -/
def dgt (i : Nat) : UInt8 := if i < 10 then UInt8.ofNat (48 + i) else UInt8.ofNat (87 + i)
def hexs (xs : List Nat) : List UInt8 := xs.flatMap fun c => [dgt (c / 16), dgt (c % 16)]
theorem hexs_snoc (xs : List Nat) (c : Nat) : hexs (xs ++ [c]) = hexs xs ++ [dgt (c / 16), dgt (c % 16)] := by simp [hexs]
theorem hexs_length (xs : List Nat) : (hexs xs).length = 2 * xs.length := by
  induction xs with
  | nil => rfl
  | cons c l ih => simp [hexs] at ih ⊢; omega
theorem dgt_at : ∀ i, i < 16 → ∀ w : World, (Instr.index 9 (.string { data := #[48, 49, 50, 51, 52, 53, 54, 55, 56, 57, 97, 98, 99, 100, 101, 102] }) (.int .u8 ((i : Nat) : Int))).run Tryd.prog w = .ok (.int .u8 (((dgt i).toNat : Nat) : Int)) w
  | 0, _, _ => by kernel_rfl
  | 1, _, _ => by kernel_rfl
  | 2, _, _ => by kernel_rfl
  | 3, _, _ => by kernel_rfl
  | 4, _, _ => by kernel_rfl
  | 5, _, _ => by kernel_rfl
  | 6, _, _ => by kernel_rfl
  | 7, _, _ => by kernel_rfl
  | 8, _, _ => by kernel_rfl
  | 9, _, _ => by kernel_rfl
  | 10, _, _ => by kernel_rfl
  | 11, _, _ => by kernel_rfl
  | 12, _, _ => by kernel_rfl
  | 13, _, _ => by kernel_rfl
  | 14, _, _ => by kernel_rfl
  | 15, _, _ => by kernel_rfl
  | _ + 16, h, _ => by omega
theorem and15 (c : Nat) (hc : c < 256) : bits .and .u8 (c : Int) 15 = ((c % 16 : Nat) : Int) := by
  have h := u8_and_nat c 15 hc (by decide)
  rw [show ((15 : Nat) : Int) = 15 from rfl] at h
  rw [h]
  congr 1
  exact Nat.and_two_pow_sub_one_eq_mod c 4

set_option maxHeartbeats 800000 in
theorem hex_any (xs : List Nat) (a : Option Addr) (n cap : Nat) (F : Nat → Prop) (w : World) (hx : ∀ x ∈ xs, x < 256) (hn : n ≤ 35184372088832) (hr : Rd w F a n (xs.map fun x => .int .u8 ((x : Nat) : Int))) :
    Calls Tryd.prog 17 #[.slice a n cap] w fun e w' => e = .returned (.string ⟨(hexs xs).toArray⟩) ∧ Below w.heap.size w w' := by
  obtain ⟨i0, hi, hz0, hz1, hz2⟩ := info_parts u8_info
  have hl : xs.length = n := by have := hr.1; simpa using this
  have HX := Lib.hid hx
  have HR := Lib.hid hr
  have HL := Lib.hid hl
  have HI := Lib.hid hi
  have HZ0 := Lib.hid hz0
  have HZ1 := Lib.hid hz1
  have HZ2 := Lib.hid hz2
  have s2 : IntKind.i64.wrap (2 * (n : Int)) = ((2 * n : Nat) : Int) := by rw [IntWalk.i64_in _ (by omega)]; omega
  clear hx hr hl hi hz0 hz1 hz2
  go_enter Tryd.func17, Tryd.ntmps17
  go_wp2_with (at_make; refine wpList_make_own _ rfl _ _ 22 rfl w.heap.size 5 i0 (.int .u8 0) 1 Tryd.underlying22 HI.out HZ0.out HZ1.out _ _ _ (2 * n) rfl rfl (by omega) ?b1 ?b2 ?b3 ?_)
  case b1 => rw [HZ2.out]; omega
  case b2 => unfold maxLen; omega
  case b3 => omega
  intro w1 hown hgrow
  have hb1 : Below w.heap.size w w1 := (Below.refl _ _).grown hgrow (Nat.le_refl _) (fun k h => by cases h)
  have HOWN := Lib.hid hown
  have HB1 := Lib.hid hb1
  clear hown hgrow hb1 s2
  go_wp2_with fail
  go_loopw [3, 12] (fun v i wr => ∃ k : Nat, k ≤ n ∧ i = .int .i64 k ∧ wr.ownsRow w.heap.size 5 1 v (2 * k) (Bs (hexs (xs.take k))) ∧ Below w.heap.size w wr) (fun _ i _ => n - (intOf i).toNat)
  case atStart => exact ⟨0, Nat.zero_le _, rfl, HOWN.out, HB1.out⟩
  case round =>
    obtain ⟨k, hkn, rfl, hown, hbe⟩ := hrel
    obtain ⟨A, c, rfl⟩ := own_slice hown
    by_cases hlt : k < n
    · obtain ⟨ad, e, hF, hB, hC⟩ := HR.out.2 (by omega)
      have hlen : k < xs.length := by rw [HL.out]; exact hlt
      have hc := hC k (.int .u8 ((xs.getD k 0 : Nat) : Int)) (by rw [List.getElem?_map, List.getD, List.getElem?_eq_getElem hlen]; rfl)
      have hc2 := (hbe.cell (p := ad.add k) (by rw [add_block]; exact hB)).trans hc
      have h256 : xs.getD k 0 < 256 := by rw [List.getD, List.getElem?_eq_getElem hlen]; exact HX.out _ (List.getElem_mem _)
      have hup : hexs (xs.take (k + 1)) = hexs (xs.take k) ++ [dgt (xs.getD k 0 / 16), dgt (xs.getD k 0 % 16)] := by
        rw [← hexs_snoc, List.take_add_one, List.getD, List.getElem?_eq_getElem hlen]; rfl
      generalize xs.getD k 0 = x at *
      have hd1 : ∀ w' : World, (Instr.index 9 (.string { data := #[48, 49, 50, 51, 52, 53, 54, 55, 56, 57, 97, 98, 99, 100, 101, 102] }) (.int .u8 ((x : Int) / 16))).run Tryd.prog w' = .ok (.int .u8 (((dgt (x / 16)).toNat : Nat) : Int)) w' := fun w' => by
        have := dgt_at (x / 16) (by omega) w'
        rwa [Int.natCast_ediv] at this
      have hd2 : ∀ w' : World, (Instr.index 9 (.string { data := #[48, 49, 50, 51, 52, 53, 54, 55, 56, 57, 97, 98, 99, 100, 101, 102] }) (.int .u8 ((x : Int) % 16))).run Tryd.prog w' = .ok (.int .u8 (((dgt (x % 16)).toNat : Nat) : Int)) w' := fun w' => by
        have := dgt_at (x % 16) (by omega) w'
        rwa [Int.natCast_emod] at this
      have ha : bits .and .u8 (x : Int) 15 = (x : Int) % 16 := by rw [and15 x h256, Int.natCast_emod]; rfl
      have hnew : [Value.int .u8 (((dgt (x / 16)).toNat : Nat) : Int), .int .u8 (((dgt (x % 16)).toNat : Nat) : Int)] = Bs [dgt (x / 16), dgt (x % 16)] := rfl
      have HNEW := Lib.hid hnew
      generalize dgt (x / 16) = p1 at *
      generalize dgt (x % 16) = p2 at *
      have HOWN2 := Lib.hid hown
      have HBE := Lib.hid hbe
      have HUP := Lib.hid hup
      subst e
      clear hown hbe hup hC hc hF hB hlen hnew
      go_wp2_with fail
      refine wp_region_any (by kernel_rfl) ?_
      change wpAny _ _ _ _ _ _ _ (World.drew _)
      refine wpAny_take (i := 0) (v := ?_) rfl (by kernel_rfl) (by kernel_rfl) (by kernel_rfl) (fun _ _ _ h => h) (Or.inl ⟨by rfl, ?_⟩) ?_
      rotate_left
      · (intro w'; go_simp; try (with_reducible rfl))
      change wpAny _ _ _ _ _ _ (Act.put _ (some 16) _) _
      simp only [Act.put, List.setIfInBounds_toArray, List.set_cons_zero, List.set_cons_succ]
      refine wpAny_take (i := 1) (v := ?_) rfl (by kernel_rfl) (by kernel_rfl) (by kernel_rfl) (fun _ _ _ h => h) (Or.inl ⟨by rfl, ?_⟩) ?_
      rotate_left
      · (intro w'; go_simp; try (with_reducible rfl))
      change wpAny _ _ _ _ _ _ (Act.put _ (some 17) _) _
      simp only [Act.put, List.setIfInBounds_toArray, List.set_cons_zero, List.set_cons_succ]
      refine wpAny_take (i := 2) (v := ?_) rfl (by kernel_rfl) (by kernel_rfl) (by kernel_rfl) (fun _ _ _ h => h) (Or.inl ⟨by rfl, ?_⟩) ?_
      rotate_left
      · (intro w'; go_simp; try (with_reducible rfl))
      change wpAny _ _ _ _ _ _ (Act.put _ (some 18) _) _
      simp only [Act.put, List.setIfInBounds_toArray, List.set_cons_zero, List.set_cons_succ]
      refine wpAny_take (i := 4) (v := ?_) rfl (by kernel_rfl) (by kernel_rfl) (by kernel_rfl) (fun _ _ _ h => h) (Or.inl ⟨by rfl, ?_⟩) ?_
      rotate_left
      · (intro w'; go_simp; try (with_reducible rfl))
      change wpAny _ _ _ _ _ _ (Act.put _ (some 20) _) _
      simp only [Act.put, List.setIfInBounds_toArray, List.set_cons_zero, List.set_cons_succ]
      refine wpAny_take (i := 5) (v := ?_) rfl (by kernel_rfl) (by kernel_rfl) (by kernel_rfl) (fun _ _ _ h => h) (Or.inl ⟨by rfl, ?_⟩) ?_
      rotate_left
      · (intro w'; go_simp; try (with_reducible rfl))
      change wpAny _ _ _ _ _ _ (Act.put _ (some 21) _) _
      simp only [Act.put, List.setIfInBounds_toArray, List.set_cons_zero, List.set_cons_succ]
      refine wpAny_take (i := 3) (v := ?_) rfl (by kernel_rfl) (by kernel_rfl) (by kernel_rfl) (fun _ _ _ h => h) (Or.inl ⟨by rfl, ?_⟩) ?_
      rotate_left
      · (intro w'; go_simp; try (with_reducible rfl))
      change wpAny _ _ _ _ _ _ (Act.put _ (some 19) _) _
      simp only [Act.put, List.setIfInBounds_toArray, List.set_cons_zero, List.set_cons_succ]
      refine wpAny_take (i := 6) (v := ?_) rfl (by kernel_rfl) (by kernel_rfl) (by kernel_rfl) (fun _ _ _ h => h) (Or.inl ⟨by rfl, ?_⟩) ?_
      rotate_left
      · (intro w'; go_simp; try (with_reducible rfl))
      change wpAny _ _ _ _ _ _ (Act.put _ (some 22) _) _
      simp only [Act.put, List.setIfInBounds_toArray, List.set_cons_zero, List.set_cons_succ]
      refine wpAny_ready (rs := [7]) (by kernel_rfl) (by simp) ?_
      refine AllReady.cons rfl (fun K hK => ?_) AllReady.nil
      rw [if_pos (by kernel_rfl)]
      go_simp
      refine hK _ _ ?_
      clear hK K
      refine wpAny_ready (rs := [8]) (by kernel_rfl) (by simp) ?_
      refine AllReady.cons rfl (fun K hK => ?_) AllReady.nil
      rw [if_pos (by kernel_rfl)]
      refine wp_append_rd (.tmp 16) (.tmp 23) 22 rfl w.heap.size 5 i0 (.int .u8 0) 1 Tryd.underlying22 HI.out HZ0.out HZ1.out HZ2.out rfl (.slice A (2 * k) c) (2 * k) (Bs (hexs (xs.take k))) rfl ((HOWN2.out.alloc _).drew) (fun j => j = wr.heap.size) (some ⟨wr.heap.size, 0, none⟩) 2 2 (Bs [p1, p2]) rfl ((Rd.lit wr (Bs [p1, p2]) _ _ HNEW.out 2 rfl).keep (Nat.le_refl _) (fun _ _ _ => rfl)) (Bs_one _) (by unfold maxLen; omega) (by omega) (by have := HBE.out.size; simp; omega) ?_
      intro v' w2 hown2 hg2 _
      have hb2 : Below w.heap.size w w2 := ((HBE.out.alloc HBE.out.size _).drew).grown hg2 (by have := HBE.out.size; simp; omega) (fun j hj => (HOWN2.out.lt j hj).1)
      have HO2 := Lib.hid hown2
      have HB2 := Lib.hid hb2
      clear hown2 hg2 hb2
      refine hK _ _ ?_
      clear hK K
      simp only [Act.put, List.setIfInBounds_toArray]
      refine wpAny_ready (rs := [9]) (by kernel_rfl) (by simp) ?_
      refine AllReady.cons rfl (fun K hK => ?_) AllReady.nil
      rw [if_pos (by kernel_rfl)]
      go_simp
      refine hK _ _ ?_
      clear hK K
      refine wpAny_done (by kernel_rfl) ?_ _
      go_wp2_with fail
      go_roundw
      case rel =>
        refine ⟨k + 1, by omega, by go_num, ?_, HB2.out⟩
        rw [HUP.out, Bs_append]
        exact HO2.out
      case measure => simp [intOf]; omega
    · obtain rfl : k = n := by omega
      have hal : xs.take k = xs := List.take_of_length_le (by rw [HL.out]; exact Nat.le_refl _)
      rw [hal] at hown
      have hrd := Rd.of_own hown
      have h2k : 2 * k = (hexs xs).length := by rw [hexs_length, HL.out]
      have hconv := to_text A (2 * k) c (hexs xs) _ wr hrd
      have HBE := Lib.hid hbe
      clear hal hown hrd h2k hbe
      go_wp2_with fail
      go_ret
      exact ⟨rfl, HBE.out⟩

end Go.Proofs.YtcdfbcpcgkcojaaDoor
