import Derived.Lib.AppendZerosOnto
import Derived.Test.YtnpjecdodhkplaaGreatDoorSL
import Derived.Test.YtnpjecdodhkplaaGreatDoorTO
import Derived.Test.YtnpjecdodhkplaaGreatDoorST
namespace Go.Proofs.YtnpjecdodhkplaaGreatDoor
set_option maxRecDepth 100000
set_option linter.unusedSimpArgs false
set_option linter.unusedVariables false
open Go.RowKit
open Lib renaming hid → yH
section
open Go.RowKit
section
variable {P : Program}
theorem wpList_grow_nil {ops : Array Oper} {rest : List Oper} {o : Oper} {a : Act} {w : World} {Q : Exit → Act → World → Prop} (hgd : o.guard = none) (s x : Operand) (t tn e : TypeId)
  (ho : o.op = .call { callee := .builtin .append, args := #[s, x], argTypes := #[t, tn] }) (i : TypeInfo) (z : Value) (kn : IntKind) (ht : P.underlying t = some (.slice e)) (htn : P.underlying tn = some (.int kn)) (hi : P.info? e = some i) (hz : i.zero = some z) (hsz : i.size = 1) (hz1 : z.cells.size = 1)
  (hs : a.eval s = .slice none 0 0) (k : Nat) (hx : a.eval x = .int .i64 (k : Int)) (h0 : 0 < k) (hk : k ≤ 1099511627776) (hb : Nat.ble i.bytes 24 = true)
  (h : ∀ cap w', w'.ownsRow w.heap.size e 1 (.slice (some ⟨w.heap.size, 0, none⟩) 0 cap) 0 [] → Below w.heap.size w w' → wpList P ops Q rest (a.put o.dst (.slice (some ⟨w.heap.size, 0, none⟩) k cap)) w') : wpList P ops Q (o :: rest) a w := by
 refine wpList_plain hgd fun _ hK => ?_
 have hold : (Builtin.firstCells i.size 0 (.slice none 0 0)).run P w.drew = .ok ([] : List Value).toArray w.drew := by simp [Builtin.firstCells]
 have hmul : k * i.bytes ≤ 1099511627776 * 24 := Nat.mul_le_mul hk (Nat.le_of_ble_eq_true hb)
 have hnc : Builtin.nextslicecap (0 + k) 0 = k := by unfold Builtin.nextslicecap; simp; omega
 have hrun := Lib.run_append_grow_zeros (P := P) w t tn o.type e i z .i64 kn ht htn hi hz none 0 0 [] hold k h0 (by omega) (by omega) (by omega) (by omega) (by rw [hnc]; omega)
 unfold Oper.wp execOp
 simp only [ho, resolve, invoke, builtin, Sem.run_bind, Sem.run_pure, Result.andThen_ok, List.map_toArray, List.map_cons, List.map_nil, hs, hx, hrun]
 have hge := grownCap_ge w (0 + k) 0 e
 have hle := grownCap_le_maxLen w (0 + k) 0 e (by unfold maxLen; omega)
 rw [Nat.zero_add] at hge hle ⊢
 have hcs : (([] : List Value).toArray ++ Builtin.zeroCells z.cells k ++ Builtin.zeroCells z.cells (grownCap w k 0 e - k)).size = grownCap w k 0 e * 1 := by
  simp [Builtin.zeroCells, hz1]
  omega
 exact hK _ _ (h _ _ (World.ownsRow_made w.drew _ _ (Nat.le_refl _) hle hcs) ((Below.refl _ _).drew.alloc (Nat.le_refl _) _))
end
def Pars (w : World) (vs : List Value) (xss : List (List Value)) : Prop :=
 vs.length = xss.length ∧ ∀ (j : Nat) (p : List Value), xss[j]? = some p → (∀ u ∈ p, u.oneCell' = true) ∧ ∃ a n c, vs[j]? = some (.slice a n c) ∧ Rd w (fun _ => True) a n p
theorem Pars.below {w w' : World} {vs : List Value} {xss : List (List Value)} (h : Pars w vs xss) (hb : Below w.heap.size w w') : Pars w' vs xss :=
 ⟨h.1, fun j p hj => by
  obtain ⟨hx, a, n, c, hv, hr⟩ := h.2 j p hj
  exact ⟨hx, a, n, c, hv, hr.belowAll hb⟩⟩
theorem Pars.nil (w : World) : Pars w [] [] := ⟨rfl, fun j p h => by simp at h⟩
theorem Pars.cons {w : World} {vs : List Value} {xss : List (List Value)} {a : Option Addr} {n c : Nat} {p : List Value} (h1 : ∀ u ∈ p, u.oneCell' = true) (hr : Rd w (fun _ => True) a n p) (h : Pars w vs xss) : Pars w (.slice a n c :: vs) (p :: xss) :=
 ⟨by simp [h.1], fun j q hj => by
  cases j with
  | zero => cases hj; exact ⟨h1, a, n, c, rfl, hr⟩
  | succ j => exact h.2 j q hj⟩
def uptV (xss : List (List Value)) (k : Nat) : List Value := (xss.take k).flatten
theorem uptV_succ (xss : List (List Value)) {k : Nat} {p : List Value} (h : xss[k]? = some p) : uptV xss (k + 1) = uptV xss k ++ p := by
 unfold uptV
 rw [List.take_add_one, h]
 simp
def lenV (xss : List (List Value)) (k : Nat) : Nat := (uptV xss k).length
theorem uptV_all (xss : List (List Value)) : uptV xss xss.length = xss.flatten := by unfold uptV; rw [List.take_length]
theorem uptV_le (xss : List (List Value)) (k : Nat) : (uptV xss k).length ≤ xss.flatten.length := by
 have h : xss.flatten = uptV xss k ++ (xss.drop k).flatten := by unfold uptV; rw [← List.flatten_append, List.take_append_drop]
 rw [h, List.length_append]
 omega
theorem growB (k : Nat) (h0 : 0 < k) (hk : k ≤ 1099511627776) (w : World) :
  Calls Tryz.prog 69 #[.slice none 0 0, .int .i64 (k : Int)] w fun e w' => ∃ cap, e = .returned (.slice (some ⟨w.heap.size, 0, none⟩) 0 cap) ∧ w'.ownsRow w.heap.size 5 1 (.slice (some ⟨w.heap.size, 0, none⟩) 0 cap) 0 [] ∧ Below w.heap.size w w' := by
 have h1 : ¬ ((k : Int) < 0) := by omega
 have h2 : (k : Int) > 0 := by omega
 have hi : Tryz.prog.info? 5 = some (Tryz.prog.info? 5).get! := by kernel_rfl
 have hz : (Tryz.prog.info? 5).get!.zero = some (.int .u8 0) := by kernel_rfl
 have HI := yH hi
 have HZ := yH hz
 clear hi hz
 have hw1 : wrap64 ((k : Int) - 0) = (k : Int) := by unfold wrap64; omega
 go_enter Tryz.func69, Tryz.ntmps69
 go_wp2_with (at_builtin; refine wpList_grow_nil rfl (.tmp 20) (.tmp 21) 24 3 5 rfl _ _ .i64 Tryz.underlying24 Tryz.underlying3 HI.out HZ.out (by kernel_rfl) (by rfl) rfl k rfl h0 hk (by kernel_rfl) ?_)
 intro cap w' hown hb
 go_wp2
 go_ret
 exact ⟨cap, rfl, hown, hb⟩
theorem catB (vs : List Value) (xss : List (List Value)) (A : Option Addr) (m cap : Nat) (w : World) (hr : Rd w (fun _ => True) A m vs) (hp : Pars w vs xss) (hm : m < 1099511627776) (hn : xss.flatten.length ≤ 1099511627776) (hpos : 0 < xss.flatten.length) :
  Calls Tryz.prog 28 #[.slice A m cap] w fun e w' => ∃ v, e = .returned v ∧ w'.ownsRow w.heap.size 5 1 v xss.flatten.length xss.flatten ∧ Below w.heap.size w w' := by
 have hl : xss.length = m := by rw [← hp.1]; exact hr.1
 have HL := yH hl
 have HR := yH hr
 have HP := yH hp
 have HN := yH hn
 have HPOS := yH hpos
 have hi : Tryz.prog.info? 5 = some (Tryz.prog.info? 5).get! := by kernel_rfl
 have hz : (Tryz.prog.info? 5).get!.zero = some (.int .u8 0) := by kernel_rfl
 have HI := yH hi
 have HZ := yH hz
 clear hl hr hp hn hpos hi hz
 go_enter Tryz.func28, Tryz.ntmps28
 go_wp2_with fail
 go_loopw [3, 11] (fun s i wr => ∃ k : Nat, k ≤ m ∧ i = .int .i64 (k : Int) ∧ s = .int .i64 (lenV xss k : Int) ∧ w = wr) (fun _ i _ => m - (intOf i).toNat)
 case atStart => exact ⟨0, Nat.zero_le _, rfl, rfl, rfl⟩
 case round =>
  obtain ⟨k, hkm, rfl, rfl, rfl⟩ := hrel
  by_cases hlt : k < m
  ·have hkp : k < xss.length := by rw [HL.out]; exact hlt
   obtain ⟨hx, a, n, c, hv, hrd⟩ := HP.out.2 k xss[k] (List.getElem?_eq_getElem hkp)
   have hup := uptV_succ xss (List.getElem?_eq_getElem hkp)
   have hle := uptV_le xss (k + 1)
   obtain ⟨ad, e, _, hB, hC⟩ := HR.out.2 (by omega)
   have hc := hC k _ hv
   have hn1 := hrd.1
   have hlen : lenV xss (k + 1) = lenV xss k + n := by unfold lenV; rw [hup, List.length_append, hn1]
   have hle1 : lenV xss (k + 1) ≤ xss.flatten.length := hle
   have hN := HN.out
   subst e
   have HLEN := yH hlen
   have hneg : ¬ ((lenV xss k : Int) + (n : Int) < 0) := by omega
   have hwr : wrap64 ((lenV xss k : Int) + (n : Int)) = (lenV xss k : Int) + (n : Int) := by unfold wrap64; omega
   clear hx hv hrd hup hle hle1 hC hlen hn1 hN
   go_wp2
   go_roundw
   case rel => exact ⟨k + 1, by omega, by go_num, by rw [HLEN.out]; go_num, by first | trivial | rfl⟩
   case measure => simp [intOf]; omega
  ·obtain rfl : k = m := by omega
   have hal : lenV xss k = xss.flatten.length := by unfold lenV; rw [← HL.out, uptV_all xss]
   have HPOS1 := yH (show 0 < lenV xss k from hal ▸ HPOS.out)
   have HN1 := yH (show lenV xss k ≤ 1099511627776 from hal ▸ HN.out)
   clear hal
   go_wp2_with fail
   refine (growB (lenV xss k) HPOS1.out HN1.out _).mono ?_
   rintro e w0 ⟨cap, rfl, hown, hb⟩
   have HOWN := yH hown
   have HB := yH hb
   clear hown hb
   go_wp2_with fail
   go_loopw [6, 27] (fun v i wr => ∃ j : Nat, j ≤ k ∧ i = .int .i64 (j : Int) ∧ wr.ownsRow w.heap.size 5 1 v (lenV xss j) (uptV xss j) ∧ Below w.heap.size w wr) (fun _ i _ => k - (intOf i).toNat)
   case atStart => exact ⟨0, Nat.zero_le _, rfl, HOWN.out, HB.out⟩
   case round =>
    obtain ⟨j, hjm, rfl, hown, hb⟩ := hrel
    by_cases hlt : j < k
    ·have hkp : j < xss.length := by rw [HL.out]; exact hlt
     obtain ⟨hx, a, n, c, hv, hrd⟩ := HP.out.2 j xss[j] (List.getElem?_eq_getElem hkp)
     have hup := uptV_succ xss (List.getElem?_eq_getElem hkp)
     have hle := uptV_le xss (j + 1)
     obtain ⟨ad, e, _, hB, hC⟩ := HR.out.2 (by omega)
     have hc := (hb.cell (p := ad.add j) (by rw [add_block]; exact hB)).trans (hC j _ hv)
     have hn1 := hrd.1
     have hlen : lenV xss (j + 1) = lenV xss j + n := by unfold lenV; rw [hup, List.length_append, hn1]
     have hle1 : lenV xss (j + 1) ≤ xss.flatten.length := hle
     have hN := HN.out
     have hrw := hrd.belowAll hb
     obtain ⟨A1, c1, hv1⟩ := own_slice hown
     subst e
     subst hv1
     have HLEN := yH hlen
     have HUP := yH hup
     have HX := yH hx
     have HO := yH hown
     have HBB := yH hb
     have HRW := yH hrw
     have hb1 : lenV xss j + n ≤ 1099511627776 := by omega
     clear hx hv hrd hup hle hle1 hC hlen hn1 hN hown hb hrw
     go_wp2_with (at_builtin; refine wpList_append_rd _ rfl (.tmp 31) (.tmp 32) 24 rfl w.heap.size 5 _ _ 1 Tryz.underlying24 HI.out HZ.out (by kernel_rfl) (by kernel_rfl) (by rfl) _ _ (uptV xss j) rfl HO.out (fun _ => True) a n c xss[j] rfl HRW.out HX.out ?c1 ?c2 ?c3 ?_)
     case c1 => unfold maxLen; omega
     case c2 => omega
     case c3 => exact HBB.out.size
     intro v' w' hown hg hat
     have hb2 : Below w.heap.size w w' := HBB.out.grown hg (HBB.out.size) (fun q hq => (HO.out.lt q hq).1)
     have HO2 := yH hown
     have HB2 := yH hb2
     clear hown hg hat hb2 hc
     go_wp2
     go_roundw
     case rel => exact ⟨j + 1, by omega, by go_num, by rw [HLEN.out, HUP.out]; exact HO2.out, HB2.out⟩
     case measure => simp [intOf]; omega
    ·obtain rfl : j = k := by omega
     have hal : uptV xss j = xss.flatten := by rw [← HL.out]; exact uptV_all xss
     have hal2 : lenV xss j = xss.flatten.length := by unfold lenV; rw [hal]
     rw [hal, hal2] at hown
     clear hal hal2
     have HO := yH hown
     have HBB := yH hb
     clear hown hb
     go_wp2
     go_ret
     exact ⟨_, rfl, HO.out, HBB.out⟩
theorem growS (k : Nat) (h0 : 0 < k) (hk : k ≤ 1099511627776) (w : World) :
  Calls Tryz.prog 91 #[.slice none 0 0, .int .i64 (k : Int)] w fun e w' => ∃ cap, e = .returned (.slice (some ⟨w.heap.size, 0, none⟩) 0 cap) ∧ w'.ownsRow w.heap.size 24 1 (.slice (some ⟨w.heap.size, 0, none⟩) 0 cap) 0 [] ∧ Below w.heap.size w w' := by
 have h1 : ¬ ((k : Int) < 0) := by omega
 have h2 : (k : Int) > 0 := by omega
 have hi : Tryz.prog.info? 24 = some (Tryz.prog.info? 24).get! := by kernel_rfl
 have hz : (Tryz.prog.info? 24).get!.zero = some (.slice none 0 0) := by kernel_rfl
 have HI := yH hi
 have HZ := yH hz
 clear hi hz
 have hw1 : wrap64 ((k : Int) - 0) = (k : Int) := by unfold wrap64; omega
 go_enter Tryz.func91, Tryz.ntmps91
 go_wp2_with (at_builtin; refine wpList_grow_nil rfl (.tmp 20) (.tmp 21) 57 3 24 rfl _ _ .i64 Tryz.underlying57 Tryz.underlying3 HI.out HZ.out (by kernel_rfl) (by rfl) rfl k rfl h0 hk (by kernel_rfl) ?_)
 intro cap w' hown hb
 go_wp2
 go_ret
 exact ⟨cap, rfl, hown, hb⟩
theorem catS (vs : List Value) (xss : List (List Value)) (A : Option Addr) (m cap : Nat) (w : World) (hr : Rd w (fun _ => True) A m vs) (hp : Pars w vs xss) (hm : m < 1099511627776) (hn : xss.flatten.length ≤ 1099511627776) (hpos : 0 < xss.flatten.length) :
  Calls Tryz.prog 55 #[.slice A m cap] w fun e w' => ∃ v, e = .returned v ∧ w'.ownsRow w.heap.size 24 1 v xss.flatten.length xss.flatten ∧ Below w.heap.size w w' := by
 have hl : xss.length = m := by rw [← hp.1]; exact hr.1
 have HL := yH hl
 have HR := yH hr
 have HP := yH hp
 have HN := yH hn
 have HPOS := yH hpos
 have hi : Tryz.prog.info? 24 = some (Tryz.prog.info? 24).get! := by kernel_rfl
 have hz : (Tryz.prog.info? 24).get!.zero = some (.slice none 0 0) := by kernel_rfl
 have HI := yH hi
 have HZ := yH hz
 clear hl hr hp hn hpos hi hz
 go_enter Tryz.func55, Tryz.ntmps55
 go_wp2_with fail
 go_loopw [3, 11] (fun s i wr => ∃ k : Nat, k ≤ m ∧ i = .int .i64 (k : Int) ∧ s = .int .i64 (lenV xss k : Int) ∧ w = wr) (fun _ i _ => m - (intOf i).toNat)
 case atStart => exact ⟨0, Nat.zero_le _, rfl, rfl, rfl⟩
 case round =>
  obtain ⟨k, hkm, rfl, rfl, rfl⟩ := hrel
  by_cases hlt : k < m
  ·have hkp : k < xss.length := by rw [HL.out]; exact hlt
   obtain ⟨hx, a, n, c, hv, hrd⟩ := HP.out.2 k xss[k] (List.getElem?_eq_getElem hkp)
   have hup := uptV_succ xss (List.getElem?_eq_getElem hkp)
   have hle := uptV_le xss (k + 1)
   obtain ⟨ad, e, _, hB, hC⟩ := HR.out.2 (by omega)
   have hc := hC k _ hv
   have hn1 := hrd.1
   have hlen : lenV xss (k + 1) = lenV xss k + n := by unfold lenV; rw [hup, List.length_append, hn1]
   have hle1 : lenV xss (k + 1) ≤ xss.flatten.length := hle
   have hN := HN.out
   subst e
   have HLEN := yH hlen
   have hneg : ¬ ((lenV xss k : Int) + (n : Int) < 0) := by omega
   have hwr : wrap64 ((lenV xss k : Int) + (n : Int)) = (lenV xss k : Int) + (n : Int) := by unfold wrap64; omega
   clear hx hv hrd hup hle hle1 hC hlen hn1 hN
   go_wp2
   go_roundw
   case rel => exact ⟨k + 1, by omega, by go_num, by rw [HLEN.out]; go_num, by first | trivial | rfl⟩
   case measure => simp [intOf]; omega
  ·obtain rfl : k = m := by omega
   have hal : lenV xss k = xss.flatten.length := by unfold lenV; rw [← HL.out, uptV_all xss]
   have HPOS1 := yH (show 0 < lenV xss k from hal ▸ HPOS.out)
   have HN1 := yH (show lenV xss k ≤ 1099511627776 from hal ▸ HN.out)
   clear hal
   go_wp2_with fail
   refine (growS (lenV xss k) HPOS1.out HN1.out _).mono ?_
   rintro e w0 ⟨cap, rfl, hown, hb⟩
   have HOWN := yH hown
   have HB := yH hb
   clear hown hb
   go_wp2_with fail
   go_loopw [6, 27] (fun v i wr => ∃ j : Nat, j ≤ k ∧ i = .int .i64 (j : Int) ∧ wr.ownsRow w.heap.size 24 1 v (lenV xss j) (uptV xss j) ∧ Below w.heap.size w wr) (fun _ i _ => k - (intOf i).toNat)
   case atStart => exact ⟨0, Nat.zero_le _, rfl, HOWN.out, HB.out⟩
   case round =>
    obtain ⟨j, hjm, rfl, hown, hb⟩ := hrel
    by_cases hlt : j < k
    ·have hkp : j < xss.length := by rw [HL.out]; exact hlt
     obtain ⟨hx, a, n, c, hv, hrd⟩ := HP.out.2 j xss[j] (List.getElem?_eq_getElem hkp)
     have hup := uptV_succ xss (List.getElem?_eq_getElem hkp)
     have hle := uptV_le xss (j + 1)
     obtain ⟨ad, e, _, hB, hC⟩ := HR.out.2 (by omega)
     have hc := (hb.cell (p := ad.add j) (by rw [add_block]; exact hB)).trans (hC j _ hv)
     have hn1 := hrd.1
     have hlen : lenV xss (j + 1) = lenV xss j + n := by unfold lenV; rw [hup, List.length_append, hn1]
     have hle1 : lenV xss (j + 1) ≤ xss.flatten.length := hle
     have hN := HN.out
     have hrw := hrd.belowAll hb
     obtain ⟨A1, c1, hv1⟩ := own_slice hown
     subst e
     subst hv1
     have HLEN := yH hlen
     have HUP := yH hup
     have HX := yH hx
     have HO := yH hown
     have HBB := yH hb
     have HRW := yH hrw
     have hb1 : lenV xss j + n ≤ 1099511627776 := by omega
     clear hx hv hrd hup hle hle1 hC hlen hn1 hN hown hb hrw
     go_wp2_with (at_builtin; refine wpList_append_rd _ rfl (.tmp 31) (.tmp 32) 57 rfl w.heap.size 24 _ _ 24 Tryz.underlying57 HI.out HZ.out (by kernel_rfl) (by kernel_rfl) (by rfl) _ _ (uptV xss j) rfl HO.out (fun _ => True) a n c xss[j] rfl HRW.out HX.out ?c1 ?c2 ?c3 ?_)
     case c1 => unfold maxLen; omega
     case c2 => omega
     case c3 => exact HBB.out.size
     intro v' w' hown hg hat
     have hb2 : Below w.heap.size w w' := HBB.out.grown hg (HBB.out.size) (fun q hq => (HO.out.lt q hq).1)
     have HO2 := yH hown
     have HB2 := yH hb2
     clear hown hg hat hb2 hc
     go_wp2
     go_roundw
     case rel => exact ⟨j + 1, by omega, by go_num, by rw [HLEN.out, HUP.out]; exact HO2.out, HB2.out⟩
     case measure => simp [intOf]; omega
    ·obtain rfl : j = k := by omega
     have hal : uptV xss j = xss.flatten := by rw [← HL.out]; exact uptV_all xss
     have hal2 : lenV xss j = xss.flatten.length := by unfold lenV; rw [hal]
     rw [hal, hal2] at hown
     clear hal hal2
     have HO := yH hown
     have HBB := yH hb
     clear hown hb
     go_wp2
     go_ret
     exact ⟨_, rfl, HO.out, HBB.out⟩
end
end Go.Proofs.YtnpjecdodhkplaaGreatDoor
