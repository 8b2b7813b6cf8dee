import Derived.Test.YtnpjecdodhkplaaGreatDoorSN
namespace Go.Proofs.YtnpjecdodhkplaaGreatDoor
set_option maxRecDepth 100000
set_option linter.unusedSimpArgs false
set_option linter.unusedVariables false
open Go.RowKit
open Lib renaming hid → yH
structure Sv (w : World) : Prop where
 gx : Gx w
 q : Qt w
 k : Ks64 w
 s : Ss64 w
theorem Sv.belowAll {w w' : World} (h : Sv w) (hb : Below w.heap.size w w') : Sv w' := ⟨h.gx.belowAll hb, h.q.below hb h.q.lt, h.k.below hb h.k.lt, h.s.below hb h.s.lt⟩
def nb (N n : Nat) : List Nat := (List.range n).map (byt N)
theorem By_nb (N n : Nat) : By N n = (nb N n).map fun x => .int .u8 ((x : Nat) : Int) := By_nat N n
theorem nb_lt (N n : Nat) : ∀ x ∈ nb N n, x < 256 := byts_lt N n
theorem nb_len (N n : Nat) : (nb N n).length = n := by simp [nb]
def dgN (t : S8x64 × List Nat × Nat) : Nat := lev ((List.range 64).map (sby64 (fnl64 t).list))
theorem dgb_lt (t : S8x64 × List Nat × Nat) : ∀ x ∈ (List.range 64).map (sby64 (fnl64 t).list), x < 256 := by
 intro x hx
 obtain ⟨i, _, rfl⟩ := List.mem_map.1 hx
 exact Nat.mod_lt _ (by decide)
theorem dig_By (t : S8x64 × List Nat × Nat) : dig64 t = By (dgN t) 64 := by
 unfold dgN
 rw [By_lev (dgb_lt t) (by simp), dig64, Tabs, List.map_map]
 rfl
theorem dgN_lt (t : S8x64 × List Nat × Nat) : dgN t < 256 ^ 64 := by
 have h := lev_lt (dgb_lt t)
 rwa [List.length_map, List.length_range] at h
def shN (bs : List Nat) : Nat := dgN (fed64 beg64 bs)
def hN (bs : List Nat) : Nat := shN bs % qq
theorem hN_lt (bs : List Nat) : hN bs < qq := Nat.mod_lt _ qq_pos
theorem hN_256 (bs : List Nat) : hN bs < 256 ^ 32 := Nat.lt_trans (hN_lt bs) (by decide)
theorem Parts.old {w : World} {vs : List Value} {ps : List (List Nat)} (h : Parts w (fun _ => True) vs ps) : Parts w (· < w.heap.size) vs ps :=
 ⟨h.1, fun j p hj => by
  obtain ⟨hx, a, n, c, hv, hr⟩ := h.2 j p hj
  refine ⟨hx, a, n, c, hv, hr.1, fun hn => ?_⟩
  obtain ⟨ad, e, _, hb, hc⟩ := hr.2 hn
  exact ⟨ad, e, hb, hb, hc⟩⟩
theorem Parts.belowAll {w w' : World} {vs : List Value} {ps : List (List Nat)} (h : Parts w (fun _ => True) vs ps) (hb : Below w.heap.size w w') : Parts w' (fun _ => True) vs ps :=
 h.keep hb.size fun k _ hl => hb.block k hl
theorem Parts.one {w : World} {a : Option Addr} {n c : Nat} {p : List Nat} (hx : ∀ x ∈ p, x < 256) (hr : Rd w (fun _ => True) a n (p.map fun x => .int .u8 ((x : Nat) : Int))) : Parts w (fun _ => True) [.slice a n c] [p] :=
 ⟨rfl, fun j q hj => by
  cases j with
  | zero => cases hj; exact ⟨hx, a, n, c, rfl, hr⟩
  | succ j => simp at hj⟩
theorem Parts.append {w : World} {vs us : List Value} {ps qs : List (List Nat)} (h : Parts w (fun _ => True) vs ps) (k : Parts w (fun _ => True) us qs) : Parts w (fun _ => True) (vs ++ us) (ps ++ qs) :=
 ⟨by rw [List.length_append, List.length_append, h.1, k.1], fun j p hj => by
  by_cases hl : j < ps.length
  ·rw [List.getElem?_append_left hl] at hj
   obtain ⟨hx, a, n, c, hv, hr⟩ := h.2 j p hj
   exact ⟨hx, a, n, c, by rw [List.getElem?_append_left (by rw [h.1]; exact hl)]; exact hv, hr⟩
  ·rw [List.getElem?_append_right (by omega)] at hj
   obtain ⟨hx, a, n, c, hv, hr⟩ := k.2 _ p hj
   exact ⟨hx, a, n, c, by rw [List.getElem?_append_right (by rw [h.1]; omega), h.1]; exact hv, hr⟩⟩
theorem Parts.cells {w : World} {vs : List Value} {ps : List (List Nat)} (h : Parts w (fun _ => True) vs ps) : ∀ u ∈ vs, u.oneCell' = true := by
 intro u hu
 obtain ⟨j, hj, rfl⟩ := List.mem_iff_getElem.1 hu
 obtain ⟨_, a, n, c, hv, _⟩ := h.2 j _ (List.getElem?_eq_getElem (by rw [← h.1]; exact hj))
 rw [List.getElem?_eq_getElem hj] at hv
 rw [Option.some.inj hv]
 rfl
theorem Rd.row {w : World} {g : Nat} {T : TypeId} {l : List Value} (h : Row w g T l) (n : Nat) (hn : l.length = n) : Rd w (fun _ => True) (some ⟨g, 0, none⟩) n l :=
 ⟨hn, fun _ => ⟨_, rfl, trivial, h.lt, fun j u hu => by
  have e : (⟨g, 0, none⟩ : Addr).add j = ⟨g, j, none⟩ := by unfold Addr.add; split <;> simp_all
  rw [e]
  exact h.cell hu⟩⟩
theorem s5_any (ps : List (List Nat)) (vs : List Value) (A : Option Addr) (m cap : Nat) (w : World) (hw : Sv w) (hr : Rd w (fun _ => True) A m vs) (hp : Parts w (fun _ => True) vs ps) (hm : m < 4611686018427387904) (hn : ps.flatten.length < 1152921504606846976) :
  Calls Tryz.prog 49 #[.slice A m cap] w fun e w' => e = .returned (.agg (By (shN ps.flatten) 64).toArray) ∧ Below w.heap.size w w' := by
 refine (sum512 ps vs A m cap w hw.k hw.s hr hp.old hm hn).mono ?_
 rintro e w' ⟨rfl, hb⟩
 exact ⟨by rw [dig_By, shN], hb⟩
theorem z32r : (#[.int .u8 0, .int .u8 0, .int .u8 0, .int .u8 0, .int .u8 0, .int .u8 0, .int .u8 0, .int .u8 0, .int .u8 0, .int .u8 0, .int .u8 0, .int .u8 0, .int .u8 0, .int .u8 0, .int .u8 0, .int .u8 0, .int .u8 0, .int .u8 0, .int .u8 0, .int .u8 0, .int .u8 0, .int .u8 0, .int .u8 0, .int .u8 0, .int .u8 0, .int .u8 0, .int .u8 0, .int .u8 0, .int .u8 0, .int .u8 0, .int .u8 0, .int .u8 0] : Array Value) = (By 0 32).toArray := by kernel_rfl
set_option maxHeartbeats 3200000 in
theorem rs_any {vs1 vs2 : List Value} {ps1 ps2 : List (List Nat)} {A1 A2 : Option Addr} {m1 m2 c1 c2 : Nat} (w : World) (hw : Sv w) (r1 : Rd w (fun _ => True) A1 m1 vs1) (p1 : Parts w (fun _ => True) vs1 ps1) (r2 : Rd w (fun _ => True) A2 m2 vs2) (p2 : Parts w (fun _ => True) vs2 ps2)
  (hm1 : m1 ≤ 1000) (hm2 : m2 ≤ 1000) (hpos : 0 < m2) (hn : (ps2 ++ ps1).flatten.length < 1099511627776) :
  Calls Tryz.prog 22 #[.slice A1 m1 c1, .slice A2 m2 c2] w fun e w' => e = .returned (.agg (By (hN (ps2 ++ ps1).flatten) 32).toArray) ∧ Below w.heap.size w w' := by
 obtain ⟨M, hM⟩ : ∃ M, M = (ps2 ++ ps1).flatten := ⟨_, rfl⟩
 rw [← hM] at hn ⊢
 have HM := yH hM
 clear hM
 have hW : Below w.heap.size w ((w.alloc (.cells (By 0 32).toArray 22)).alloc (.cells #[.slice A2 m2 c2, .slice A1 m1 c1] 57)) := Below.alloc2 w _ _
 have hz := (Row.new w (By 0 32) 22).alloc (.cells #[.slice A2 m2 c2, .slice A1 m1 c1] 57)
 have ho := Rd.lit (w.alloc (.cells (By 0 32).toArray 22)) [.slice A2 m2 c2, .slice A1 m1 c1] #[.slice A2 m2 c2, .slice A1 m1 c1] 57 rfl 2 rfl
 have hpp : Pars ((w.alloc (.cells (By 0 32).toArray 22)).alloc (.cells #[.slice A2 m2 c2, .slice A1 m1 c1] 57)) [.slice A2 m2 c2, .slice A1 m1 c1] [vs2, vs1] :=
  .cons p2.cells (r2.belowAll hW) (.cons p1.cells (r1.belowAll hW) (.nil _))
 have hsz : (w.alloc (.cells (By 0 32).toArray 22)).heap.size = w.heap.size + 1 := by simp
 rw [hsz] at ho
 have HO := yH (ho.mono (fun _ _ _ => trivial) : Rd _ (fun _ => True) _ _ _)
 have HPP := yH hpp
 have HZ := yH hz
 have HW := yH hW
 have HSV := yH (hw.belowAll hW)
 have HP1 := yH (p1.belowAll hW)
 have HP2 := yH (p2.belowAll hW)
 have HN := yH hn
 have hfl : [vs2, vs1].flatten = vs2 ++ vs1 := by simp
 have HL := yH (show [vs2, vs1].flatten.length = m2 + m1 by rw [hfl, List.length_append, r1.1, r2.1])
 have HFL := yH hfl
 clear hW hz ho hpp hsz hw r1 p1 r2 p2 hn hfl
 go_enter Tryz.func22, Tryz.ntmps22
 go_wp2_with fail
 rw [z32r]
 refine (catS _ [vs2, vs1] _ 2 2 _ HO.out HPP.out (by decide) (by rw [HL.out]; omega) (by rw [HL.out]; omega)).mono ?_
 rintro e w1 ⟨v, rfl, hown, hb⟩
 rw [HL.out, HFL.out] at hown
 obtain ⟨g, cap, rfl, _⟩ := hown.form (by omega)
 have HOWN := yH ((Rd.of_own hown).mono (fun _ _ _ => trivial) : Rd w1 (fun _ => True) _ _ _)
 have HPA := yH ((HP2.out.append HP1.out).belowAll hb)
 have HZ1 := yH (HZ.out.belowAll hb)
 have HW1 := yH (HW.out.trans (hb.mono HW.out.size))
 have HSV1 := yH (HSV.out.belowAll hb)
 clear hown hb
 go_wp2_with fail
 have hs5 := s5_any _ _ _ _ cap _ HSV1.out HOWN.out HPA.out (by omega) (by rw [← HM.out]; exact Nat.lt_trans HN.out (by decide))
 rw [← HM.out] at hs5
 refine hs5.mono ?_
 rintro e w2 ⟨rfl, hb⟩
 have HZ2 := yH (HZ1.out.belowAll hb)
 have HW2 := yH (HW1.out.trans (hb.mono HW1.out.size))
 have HSV2 := yH (HSV1.out.belowAll hb)
 clear hb
 go_wp2_with fail
 have hred := reduce_fn (shN M) (dgN_lt _) w2 HSV2.out.q
 obtain ⟨V, hV⟩ : ∃ V, V = shN M % qq := ⟨_, rfl⟩
 rw [← hV] at hred
 have HV := yH hV
 clear hV
 refine hred.mono ?_
 rintro e w3 ⟨rfl, hb⟩
 have HZ3 := yH (HZ2.out.belowAll hb)
 have HW3 := yH (HW2.out.trans (hb.mono HW2.out.size))
 clear hb
 go_wp2_with (refine wpList_store_row rfl 22 (.tmp 4) (.tmp 10) rfl w.heap.size _ rfl rfl 22 _ HZ3.out (by_info _) (By_sz _ _) (By_one32 _) ?_)
 have HR := yH (HZ3.out.setRow (By V 32))
 go_wp2_with fail
 refine bodyPost_ret (results_cell_row (by rfl) _ _ w.heap.size _ _ _ _ (by rfl) HR.out Tryz.underlying22 rfl (by_info _)) rfl ?_
 refine ⟨?_, below_setRow HW3.out (Nat.le_refl _) _⟩
 rw [HV.out]
 rfl
end Go.Proofs.YtnpjecdodhkplaaGreatDoor
