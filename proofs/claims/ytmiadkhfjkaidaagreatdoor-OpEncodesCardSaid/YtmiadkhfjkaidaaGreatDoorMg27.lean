/- An operation read: of each kind. An operation's bytes decoded: Whole, Decode. -/
import Derived.Test.YtmiadkhfjkaidaaGreatDoorMg26
import Derived.Test.YtmiadkhfjkaidaaGreatDoorMg21
import Derived.Deep.MidRow
import Derived.Laws.ResultCell
namespace Go.Proofs.YtmiadkhfjkaidaaGreatDoor
section
set_option maxRecDepth 100000
set_option linter.unusedSimpArgs false
set_option linter.unusedVariables false
open Go.RowKit

def setsO : List Value → Nat → List Value → List Value
  | l, _, [] => l
  | l, o, v :: r => setsO (l.set o v) (o + 1) r
theorem Row.setCellsO : ∀ (vs : List Value) {w : World} {g o : Nat} {T : TypeId} {l : List Value}, Row w g T l → Row (w.setCells g o vs) g T (setsO l o vs)
  | [], _, _, _, _, _, h => h
  | v :: r, _, _, o, _, _, h => Row.setCellsO r (h.set o v)
theorem Row.thereO {w : World} {g : Nat} {T : TypeId} {l : List Value} (h : Row w g T l) {o n : Nat} (hn : o + n ≤ l.length) : w.there g o n := fun j hj =>
  ⟨by rw [h.cell (List.getElem?_eq_getElem (show o + j < l.length by omega))]; rfl, h.free _⟩
theorem only_setCellsO : ∀ (vs : List Value) (w : World) (g o : Nat), Only (fun j => j = g) w (w.setCells g o vs)
  | [], w, _, _ => Only.refl _ w
  | v :: r, w, g, o => ((Only.refl (fun j => j = g) w).setCell (.inl rfl) v).trans (only_setCellsO r (w.setCell ⟨g, o, none⟩ v) g (o + 1)) fun _ _ e => e
theorem readto_cellsO {w w1 : World} {g : Nat} {A : Option Addr} {c : Nat} {F : Nat → Prop} {k : List UInt8} {q : Nat} (h : Readto w w1 g A c F k q 0) {r o : Nat} (hr : w.heap.size ≤ r) (hg : g < w.heap.size) (hF : ∀ j, F j → j < g) (vs : List Value) : Readto w (w1.setCells r o vs) g A c F k q 0 := by
  have hO := only_setCellsO vs w1 r o
  exact ⟨h.rr.only hO (by omega) (fun j hj e => by have := hF j hj; omega), h.only.trans hO fun j hj e => by omega⟩
theorem vin_rowO {X : Nat → Prop} {w w' : World} {v : Vt} {cs : List Value} {r : Nat} (h : VIn X w v cs) (hX : ∀ b, X b → r < b) (hO : Only (fun j => j = r) w w') : VIn X w' v cs :=
  h.kept hO.size fun b hb hlt => ⟨hb, hO.block b hlt fun e => by have := hX b hb; have e2 : b = r := e; omega⟩
theorem eqS_reflO (s : ByteArray) : eqS s s = true := by unfold eqS; exact beq_self_eq_true _
theorem eqL_reflO (l : List ByteArray) : eqL l l = true := by
  unfold eqL
  rw [decide_eq_true rfl, Bool.true_and, List.all_eq_true]
  exact fun i _ => eqS_reflO _
theorem eqI_reflO (l : List Int) : eqI l l = true := by
  unfold eqI
  simp
theorem sameV_reflO : ∀ {s : Vt}, s.sound = true → sameV s s = true := by
  intro s
  induction s with
  | nul => intro h; cases h
  | mk k n s names ids len parts ih =>
    intro h
    obtain ⟨_, hp⟩ := Vt.sound_mk h
    rw [sameV, decide_eq_true rfl, decide_eq_true rfl, eqS_reflO, eqL_reflO, eqI_reflO, decide_eq_true rfl]
    simp only [Bool.true_and]
    rw [List.all_eq_true]
    exact fun i hi => ih i (hp i (List.mem_range.1 hi))
theorem sameV_z2 : ∀ v : Vt, isZ v = true → sameV zV v = true
  | .nul, h => by cases h
  | .mk k n s names ids len parts, h => by
    unfold isZ at h
    simp only [Bool.and_eq_true, decide_eq_true_eq] at h
    obtain ⟨⟨⟨⟨⟨rfl, rfl⟩, h3⟩, h4⟩, h5⟩, rfl⟩ := h
    obtain rfl := List.length_eq_zero_iff.1 h4
    obtain rfl := List.length_eq_zero_iff.1 h5
    have e1 : eqS ⟨#[]⟩ s = true := by
      unfold eqS
      rw [size0.2 h3, show (⟨#[]⟩ : ByteArray).toList = [] by rw [ByteArray.toList_eq]]
      rfl
    unfold zV
    rw [sameV, e1]
    simp [eqL, eqI]
/-- What reading an operation leaves. -/
def ReadO (w : World) (g : Nat) (A : Option Addr) (c : Nat) (F : Nat → Prop) (k : List UInt8) (q : Nat) (kind : Int) (l : List Stp) (id af : Int) (v : Vt) (e : Ending) (w' : World) : Prop :=
  ∃ (a : Option Addr) (c' : Nat) (kd nd : Int) (sd : ByteArray) (ad : Option Addr) (lad cad : Nat) (bd : Option Addr) (lbd cbd : Nat) (ed : Option Addr) (led ced : Nat) (v' : Vt),
    e = .returned (.agg (oC kind a l.length c' id af kd nd sd ad lad cad bd lbd cbd ed led ced).toArray) ∧ w'.ownsRow w.heap.size 67 2 (.slice a l.length c') l.length (stc l) ∧ sameV v' v = true ∧ (∃ X : Nat → Prop, VIn X w' v' (vC kd nd sd ad lad cad bd lbd cbd ed led ced) ∧ ∀ b, X b → w.heap.size ≤ b) ∧ Readto w w' g A c F k q 0
theorem readO_plain {w : World} {g : Nat} {A : Option Addr} {c : Nat} {F : Nat → Prop} {k : List UInt8} {q : Nat} {kind : Int} {l : List Stp} {id af : Int} {v : Vt} {w' : World} {e : Ending} (hz : isZ v = true) {a : Option Addr} {c' : Nat}
    (he : e = .returned (.agg #[.int .i64 kind, .slice a l.length c', .int .u64 id, .int .u64 af, .int .i64 0, .int .i64 0, .string ⟨#[]⟩, .slice none 0 0, .slice none 0 0, .slice none 0 0])) (ho : w'.ownsRow (w.heap.size + 1) 67 2 (.slice a l.length c') l.length (stc l)) (ht : Readto w w' g A c F k q 0) : ReadO w g A c F k q kind l id af v e w' :=
  ⟨a, c', 0, 0, ⟨#[]⟩, none, 0, 0, none, 0, 0, none, 0, 0, zV, he, own_base ho (by omega), sameV_z2 v hz, ⟨fun _ => False, VIn.bare _ _ 0 0 ⟨#[]⟩ _ rfl rfl (by unfold maxLen; simp [ByteArray.size]), fun _ h => h.elim⟩, ht⟩

set_option maxHeartbeats 3200000 in
theorem oread_1 (g : Nat) (A : Option Addr) (c : Nat) (F : Nat → Prop) (k : List UInt8) (p : Nat) (l : List Stp) (v : Vt) (R : List UInt8) (w : World) (h : Rr w g A c F k p 0) (hk : k.drop p = 1 :: (pBytes l ++ (v.bytes ++ R))) (hr : rightP l = true) (hok : ∀ x ∈ l, StOk x) (hv : v.rightAt 1 = true) (hin : v.inn) (hF : ∀ j, F j → j < g) :
    Calls Tryz.prog 28 #[.pointer (some ⟨g, 0, none⟩)] w (ReadO w g A c F k (p + 1 + (pBytes l).length + v.bytes.length) 1 l 0 0 v) := by
  have hgl := h.lt
  have hk1 : k.drop (p + 1) = pBytes l ++ (v.bytes ++ R) := drop_more (b := [1]) hk
  have hk2 : k.drop (p + 1 + (pBytes l).length) = v.bytes ++ R := drop_more hk1
  have HKD := Lib.hid (kind4_any g A c F k p 1 _ _ (h.below (below_new w (.cells oZ.toArray 30))) hk (by decide))
  have R0 := Lib.hid (Row.new w oZ 30)
  have HPR := Lib.hid (fun (wx : World) (hx : Rr wx g A c F k (p + 1) 0) => pread_any g A c F k (v.bytes ++ R) (p + 1) l wx hx hk1 hr hok hF)
  have HVR := Lib.hid (fun (wx : World) (hx : Rr wx g A c F k (p + 1 + (pBytes l).length) 0) => vRd_any g A c F k hF v hv hin (p + 1 + (pBytes l).length) R wx hx hk2)
  have HFF := Lib.hid hF
  have HSV := Lib.hid (sameV_reflO (Vt.sound_of hv))
  clear h hk hk1 hk2 hr hok hF hv hin
  generalize hlen : l.length = n at *
  go_enter Tryz.func28, Tryz.ntmps28
  go_wp2_with fail
  refine HKD.out.mono ?_
  rintro e W1 ⟨rfl, hto⟩
  have HT1 := Lib.hid (readto_from hto)
  have R1 := Lib.hid (R0.out.only hto.only (show ¬ w.heap.size = g by omega))
  have hs1 : w.heap.size + 1 ≤ W1.heap.size := by have := hto.only.size; simpa using this
  clear hto
  go_wp2_with fail
  refine (HPR.out _ HT1.out.rr).mono ?_
  rintro e W2 ⟨v2, rfl, hown, hto⟩
  obtain ⟨a, c', rfl⟩ := own_sliceO hown
  have HO2 := Lib.hid hown
  have HT2 := Lib.hid (readto_thenO HT1.out hto)
  have R2 := Lib.hid (R1.out.only hto.only (show ¬ w.heap.size = g by omega))
  have hs2 := hto.only.size
  clear hto hown
  have R3 := Lib.hid (R2.out.alloc (.cells (oC 1 a n c' 0 0 0 0 ⟨#[]⟩ none 0 0 none 0 0 none 0 0).toArray 30))
  have HN := Lib.hid (Row.new W2 (oC 1 a n c' 0 0 0 0 ⟨#[]⟩ none 0 0 none 0 0 none 0 0) 30)
  have HT3 := Lib.hid (readto_new HT2.out (.cells (oC 1 a n c' 0 0 0 0 ⟨#[]⟩ none 0 0 none 0 0 none 0 0).toArray 30))
  have c0 := HN.out.cell (k := 0) rfl
  go_wp2_with fail
  have HN5 := Lib.hid HN.out
  have HT5 := Lib.hid HT3.out
  have R5 := Lib.hid R3.out
  have HO5 := Lib.hid (own_only HO2.out ((Only.refl (fun _ => False) W2).alloc (.cells (oC 1 a n c' 0 0 0 0 ⟨#[]⟩ none 0 0 none 0 0 none 0 0).toArray 30)) fun _ _ h => h)
  have hs5 : W2.heap.size + 1 ≤ (W2.alloc (.cells (oC 1 a n c' 0 0 0 0 ⟨#[]⟩ none 0 0 none 0 0 none 0 0).toArray 30)).heap.size := by simp
  generalize W2.alloc (.cells (oC 1 a n c' 0 0 0 0 ⟨#[]⟩ none 0 0 none 0 0 none 0 0).toArray 30) = W5 at *
  refine (HVR.out _ HT5.out.rr).mono ?_
  rintro e W6 ⟨cs, rfl, ⟨X, hX, hXb⟩, hto⟩
  obtain ⟨kd, nd, sd, ad, lad, cad, bd, lbd, cbd, ed, led, ced, rfl⟩ := hX.form
  have n6 := HN5.out.only hto.only (show ¬ W2.heap.size = g by omega)
  have HTH := Lib.hid (n6.thereO (o := 4) (n := 6) (by simp))
  obtain ⟨W7, hW7⟩ : ∃ W, (W6.setCells W2.heap.size 4 [.int .i64 kd, .int .i64 nd, .string sd, .slice ad lad cad, .slice bd lbd cbd, .slice ed led ced]) = W := ⟨_, rfl⟩
  have HN7 := Lib.hid (show Row (W6.setCells W2.heap.size 4 [.int .i64 kd, .int .i64 nd, .string sd, .slice ad lad cad, .slice bd lbd cbd, .slice ed led ced]) W2.heap.size 30 (oC 1 a n c' 0 0 kd nd sd ad lad cad bd lbd cbd ed led ced) from n6.setCellsO [.int .i64 kd, .int .i64 nd, .string sd, .slice ad lad cad, .slice bd lbd cbd, .slice ed led ced])
  have HT7 := Lib.hid (readto_cellsO (readto_thenO HT5.out hto) (r := W2.heap.size) (o := 4) (show w.heap.size ≤ W2.heap.size by omega) hgl HFF.out [.int .i64 kd, .int .i64 nd, .string sd, .slice ad lad cad, .slice bd lbd cbd, .slice ed led ced])
  have hO7 : Only (fun j => j = g ∨ j = W2.heap.size) W5 (W6.setCells W2.heap.size 4 [.int .i64 kd, .int .i64 nd, .string sd, .slice ad lad cad, .slice bd lbd cbd, .slice ed led ced]) := (hto.only.mono fun _ _ e => .inl e).trans (only_setCellsO [.int .i64 kd, .int .i64 nd, .string sd, .slice ad lad cad, .slice bd lbd cbd, .slice ed led ced] W6 W2.heap.size 4) fun _ _ e => .inr e
  have R7 := Lib.hid (R5.out.only hO7 (show ¬ (w.heap.size = g ∨ w.heap.size = W2.heap.size) by omega))
  have HO7 := Lib.hid (own_only HO5.out hO7 fun j hj e => by have := HO2.out.lt j hj; omega)
  have HX7 := Lib.hid (vin_rowO hX (fun b hb => by have := (hXb b hb).1; omega) (only_setCellsO [.int .i64 kd, .int .i64 nd, .string sd, .slice ad lad cad, .slice bd lbd cbd, .slice ed led ced] W6 W2.heap.size 4))
  have HXB := Lib.hid (fun b hb => show W2.heap.size + 1 ≤ b from by have := (hXb b hb).1; omega)
  have HSC := Lib.hid (only_setCellsO [.int .i64 kd, .int .i64 nd, .string sd, .slice ad lad cad, .slice bd lbd cbd, .slice ed led ced] W6 W2.heap.size 4)
  rw [hW7] at HN7 HT7 R7 HO7 HX7 HSC
  have HER := Lib.hid (err_none g A c F k _ _ HT7.out.rr)
  have HW7 := Lib.hid hW7
  clear hto n6 hO7 c0 hX hXb hW7
  go_wp2_with (refine wpList_store_mid rfl 28 (.tmp 28) (.tmp 27) rfl W2.heap.size 4 #[.int .i64 kd, .int .i64 nd, .string sd, .slice ad lad cad, .slice bd lbd cbd, .slice ed led ced] rfl rfl HTH.out (v_info (cs := [.int .i64 kd, .int .i64 nd, .string sd, .slice ad lad cad, .slice bd lbd cbd, .slice ed led ced]) rfl) (v_one _ _ _ _ _ _ _ _ _ _ _ _) ?_; rw [HW7.out])
  refine HER.out.mono ?_
  rintro e W8 ⟨rfl, rfl⟩
  go_wp2_with (first | (refine wpList_load_row rfl 30 (.tmp 3) rfl W2.heap.size rfl 30 _ (0, 0) _ HN7.out Tryz.underlying30 rfl o_info ?_) | (refine wpList_store_row rfl 30 (.tmp 2) (.tmp 43) rfl w.heap.size (oC 1 a n c' 0 0 kd nd sd ad lad cad bd lbd cbd ed led ced).toArray rfl rfl 30 _ R7.out oZ_info rfl (by simp [Value.oneCell']) ?_))
  have hgot := setRow_heap W8 w.heap.size _ (oC 1 a n c' 0 0 kd nd sd ad lad cad bd lbd cbd ed led ced).toArray _ _ R7.out
  (try simp only [Exit.inBlock, Exit.then])
  refine bodyPost_ret (results_cell_row (by rfl) _ _ w.heap.size _ _ _ _ (by rfl) hgot Tryz.underlying30 rfl o_info) rfl ?_
  have hO8 := only_setRow W8 w.heap.size (oC 1 a n c' 0 0 kd nd sd ad lad cad bd lbd cbd ed led ced).toArray
  have hw := own_only HO7.out hO8 fun j hj e => by have := HO2.out.lt j hj; have e2 : j = w.heap.size := e; omega
  subst hlen
  exact ⟨a, c', kd, nd, sd, ad, lad, cad, bd, lbd, cbd, ed, led, ced, v, rfl, own_base hw (by omega), HSV.out, ⟨X, vin_rowO HX7.out (fun b hb => by have := HXB.out b hb; omega) hO8, fun b hb => by have := HXB.out b hb; omega⟩, readto_rowO HT7.out (Nat.le_refl _) hgl HFF.out _⟩

set_option maxHeartbeats 3200000 in
theorem oread_2 (g : Nat) (A : Option Addr) (c : Nat) (F : Nat → Prop) (k : List UInt8) (p : Nat) (l : List Stp) (i f : Nat) (v : Vt) (R : List UInt8) (w : World) (h : Rr w g A c F k p 0) (hk : k.drop p = 2 :: (pBytes l ++ (enc i ++ (enc f ++ (v.bytes ++ R))))) (hr : rightP l = true) (hok : ∀ x ∈ l, StOk x) (hi : i < 18446744073709551616) (hf : f < 18446744073709551616) (hi0 : (i : Int) ≠ 0) (hfi : (f : Int) ≠ i) (hv : v.rightAt 1 = true) (hin : v.inn) (hF : ∀ j, F j → j < g) :
    Calls Tryz.prog 28 #[.pointer (some ⟨g, 0, none⟩)] w (ReadO w g A c F k (p + 1 + (pBytes l).length + (enc i).length + (enc f).length + v.bytes.length) 2 l (i : Int) (f : Int) v) := by
  have hgl := h.lt
  have hk1 : k.drop (p + 1) = pBytes l ++ (enc i ++ (enc f ++ (v.bytes ++ R))) := drop_more (b := [2]) hk
  have hk2 : k.drop (p + 1 + (pBytes l).length) = enc i ++ (enc f ++ (v.bytes ++ R)) := drop_more hk1
  have hk3 : k.drop (p + 1 + (pBytes l).length + (enc i).length) = enc f ++ (v.bytes ++ R) := drop_more hk2
  have hk4 : k.drop (p + 1 + (pBytes l).length + (enc i).length + (enc f).length) = v.bytes ++ R := drop_more hk3
  have HKD := Lib.hid (kind4_any g A c F k p 2 _ _ (h.below (below_new w (.cells oZ.toArray 30))) hk (by decide))
  have R0 := Lib.hid (Row.new w oZ 30)
  have HPR := Lib.hid (fun (wx : World) (hx : Rr wx g A c F k (p + 1) 0) => pread_any g A c F k (enc i ++ (enc f ++ (v.bytes ++ R))) (p + 1) l wx hx hk1 hr hok hF)
  have HID := Lib.hid (fun (wx : World) (hx : Rr wx g A c F k (p + 1 + (pBytes l).length) 0) => onums_any g A c F k (p + 1 + (pBytes l).length) i f (v.bytes ++ R) wx hx hk2 hi hf hi0 hfi hF)
  have HVR := Lib.hid (fun (wx : World) (hx : Rr wx g A c F k (p + 1 + (pBytes l).length + (enc i).length + (enc f).length) 0) => vRd_any g A c F k hF v hv hin (p + 1 + (pBytes l).length + (enc i).length + (enc f).length) R wx hx hk4)
  have HFF := Lib.hid hF
  have HSV := Lib.hid (sameV_reflO (Vt.sound_of hv))
  clear h hk hk1 hk2 hk3 hk4 hr hok hF hv hin
  generalize hlen : l.length = n at *
  go_enter Tryz.func28, Tryz.ntmps28
  go_wp2_with fail
  refine HKD.out.mono ?_
  rintro e W1 ⟨rfl, hto⟩
  have HT1 := Lib.hid (readto_from hto)
  have R1 := Lib.hid (R0.out.only hto.only (show ¬ w.heap.size = g by omega))
  have hs1 : w.heap.size + 1 ≤ W1.heap.size := by have := hto.only.size; simpa using this
  clear hto
  go_wp2_with fail
  refine (HPR.out _ HT1.out.rr).mono ?_
  rintro e W2 ⟨v2, rfl, hown, hto⟩
  obtain ⟨a, c', rfl⟩ := own_sliceO hown
  have HO2 := Lib.hid hown
  have HT2 := Lib.hid (readto_thenO HT1.out hto)
  have R2 := Lib.hid (R1.out.only hto.only (show ¬ w.heap.size = g by omega))
  have hs2 := hto.only.size
  clear hto hown
  have R3 := Lib.hid (R2.out.alloc (.cells (oC 2 a n c' 0 0 0 0 ⟨#[]⟩ none 0 0 none 0 0 none 0 0).toArray 30))
  have HN := Lib.hid (Row.new W2 (oC 2 a n c' 0 0 0 0 ⟨#[]⟩ none 0 0 none 0 0 none 0 0) 30)
  have HT3 := Lib.hid (readto_new HT2.out (.cells (oC 2 a n c' 0 0 0 0 ⟨#[]⟩ none 0 0 none 0 0 none 0 0).toArray 30))
  have c0 := HN.out.cell (k := 0) rfl
  go_wp2_with fail
  refine (HID.out _ HT3.out.rr).mono ?_
  rintro e W4 ⟨rfl, hto⟩
  have n4 := HN.out.only hto.only (show ¬ W2.heap.size = g by omega)
  have c2 := n4.cell (k := 2) rfl
  have f2 := n4.free 2
  have n5 := n4.set 2 (.int .u64 (i : Int))
  have d3 := n5.cell (k := 3) rfl
  have e3 := n5.free 3
  have HN5 := Lib.hid (show Row ((W4.setCell ⟨W2.heap.size, 2, none⟩ (.int .u64 (i : Int))).setCell ⟨W2.heap.size, 3, none⟩ (.int .u64 (f : Int))) W2.heap.size 30 (oC 2 a n c' i f 0 0 ⟨#[]⟩ none 0 0 none 0 0 none 0 0) from n5.set 3 _)
  have HT5 := Lib.hid (readto_setc (readto_setc (readto_thenO HT3.out hto) (p := ⟨W2.heap.size, 2, none⟩) (show w.heap.size ≤ W2.heap.size by omega) hgl HFF.out (.int .u64 (i : Int))) (p := ⟨W2.heap.size, 3, none⟩) (show w.heap.size ≤ W2.heap.size by omega) hgl HFF.out (.int .u64 (f : Int)))
  have R5 := Lib.hid (((R3.out.only hto.only (show ¬ w.heap.size = g by omega)).setCell (p := ⟨W2.heap.size, 2, none⟩) (show w.heap.size ≠ W2.heap.size by omega) (.int .u64 (i : Int))).setCell (p := ⟨W2.heap.size, 3, none⟩) (show w.heap.size ≠ W2.heap.size by omega) (.int .u64 (f : Int)))
  have hO5 : Only (fun j => j = g ∨ j = W2.heap.size) W2 ((W4.setCell ⟨W2.heap.size, 2, none⟩ (.int .u64 (i : Int))).setCell ⟨W2.heap.size, 3, none⟩ (.int .u64 (f : Int))) := ((((Only.refl (fun j => j = g ∨ j = W2.heap.size) W2).alloc _).trans hto.only fun _ _ e => .inl e).setCell (.inl (.inr rfl)) _).setCell (.inl (.inr rfl)) _
  have HO5 := Lib.hid (own_only HO2.out hO5 fun j hj e => by have := HO2.out.lt j hj; omega)
  have hs5 : W2.heap.size + 1 ≤ ((W4.setCell ⟨W2.heap.size, 2, none⟩ (.int .u64 (i : Int))).setCell ⟨W2.heap.size, 3, none⟩ (.int .u64 (f : Int))).heap.size := by have := hto.only.size; simpa using this
  have c0 := HN5.out.cell (k := 0) rfl
  clear hto n4 n5 hO5
  go_wp2_with fail
  clear c2 f2 d3 e3
  generalize ((W4.setCell ⟨W2.heap.size, 2, none⟩ (.int .u64 (i : Int))).setCell ⟨W2.heap.size, 3, none⟩ (.int .u64 (f : Int))) = W5 at *
  refine (HVR.out _ HT5.out.rr).mono ?_
  rintro e W6 ⟨cs, rfl, ⟨X, hX, hXb⟩, hto⟩
  obtain ⟨kd, nd, sd, ad, lad, cad, bd, lbd, cbd, ed, led, ced, rfl⟩ := hX.form
  have n6 := HN5.out.only hto.only (show ¬ W2.heap.size = g by omega)
  have HTH := Lib.hid (n6.thereO (o := 4) (n := 6) (by simp))
  obtain ⟨W7, hW7⟩ : ∃ W, (W6.setCells W2.heap.size 4 [.int .i64 kd, .int .i64 nd, .string sd, .slice ad lad cad, .slice bd lbd cbd, .slice ed led ced]) = W := ⟨_, rfl⟩
  have HN7 := Lib.hid (show Row (W6.setCells W2.heap.size 4 [.int .i64 kd, .int .i64 nd, .string sd, .slice ad lad cad, .slice bd lbd cbd, .slice ed led ced]) W2.heap.size 30 (oC 2 a n c' i f kd nd sd ad lad cad bd lbd cbd ed led ced) from n6.setCellsO [.int .i64 kd, .int .i64 nd, .string sd, .slice ad lad cad, .slice bd lbd cbd, .slice ed led ced])
  have HT7 := Lib.hid (readto_cellsO (readto_thenO HT5.out hto) (r := W2.heap.size) (o := 4) (show w.heap.size ≤ W2.heap.size by omega) hgl HFF.out [.int .i64 kd, .int .i64 nd, .string sd, .slice ad lad cad, .slice bd lbd cbd, .slice ed led ced])
  have hO7 : Only (fun j => j = g ∨ j = W2.heap.size) W5 (W6.setCells W2.heap.size 4 [.int .i64 kd, .int .i64 nd, .string sd, .slice ad lad cad, .slice bd lbd cbd, .slice ed led ced]) := (hto.only.mono fun _ _ e => .inl e).trans (only_setCellsO [.int .i64 kd, .int .i64 nd, .string sd, .slice ad lad cad, .slice bd lbd cbd, .slice ed led ced] W6 W2.heap.size 4) fun _ _ e => .inr e
  have R7 := Lib.hid (R5.out.only hO7 (show ¬ (w.heap.size = g ∨ w.heap.size = W2.heap.size) by omega))
  have HO7 := Lib.hid (own_only HO5.out hO7 fun j hj e => by have := HO2.out.lt j hj; omega)
  have HX7 := Lib.hid (vin_rowO hX (fun b hb => by have := (hXb b hb).1; omega) (only_setCellsO [.int .i64 kd, .int .i64 nd, .string sd, .slice ad lad cad, .slice bd lbd cbd, .slice ed led ced] W6 W2.heap.size 4))
  have HXB := Lib.hid (fun b hb => show W2.heap.size + 1 ≤ b from by have := (hXb b hb).1; omega)
  have HSC := Lib.hid (only_setCellsO [.int .i64 kd, .int .i64 nd, .string sd, .slice ad lad cad, .slice bd lbd cbd, .slice ed led ced] W6 W2.heap.size 4)
  rw [hW7] at HN7 HT7 R7 HO7 HX7 HSC
  have HER := Lib.hid (err_none g A c F k _ _ HT7.out.rr)
  have HW7 := Lib.hid hW7
  clear hto n6 hO7 c0 hX hXb hW7
  go_wp2_with (refine wpList_store_mid rfl 28 (.tmp 28) (.tmp 27) rfl W2.heap.size 4 #[.int .i64 kd, .int .i64 nd, .string sd, .slice ad lad cad, .slice bd lbd cbd, .slice ed led ced] rfl rfl HTH.out (v_info (cs := [.int .i64 kd, .int .i64 nd, .string sd, .slice ad lad cad, .slice bd lbd cbd, .slice ed led ced]) rfl) (v_one _ _ _ _ _ _ _ _ _ _ _ _) ?_; rw [HW7.out])
  refine HER.out.mono ?_
  rintro e W8 ⟨rfl, rfl⟩
  go_wp2_with (first | (refine wpList_load_row rfl 30 (.tmp 3) rfl W2.heap.size rfl 30 _ (0, 0) _ HN7.out Tryz.underlying30 rfl o_info ?_) | (refine wpList_store_row rfl 30 (.tmp 2) (.tmp 43) rfl w.heap.size (oC 2 a n c' i f kd nd sd ad lad cad bd lbd cbd ed led ced).toArray rfl rfl 30 _ R7.out oZ_info rfl (by simp [Value.oneCell']) ?_))
  have hgot := setRow_heap W8 w.heap.size _ (oC 2 a n c' i f kd nd sd ad lad cad bd lbd cbd ed led ced).toArray _ _ R7.out
  (try simp only [Exit.inBlock, Exit.then])
  refine bodyPost_ret (results_cell_row (by rfl) _ _ w.heap.size _ _ _ _ (by rfl) hgot Tryz.underlying30 rfl o_info) rfl ?_
  have hO8 := only_setRow W8 w.heap.size (oC 2 a n c' i f kd nd sd ad lad cad bd lbd cbd ed led ced).toArray
  have hw := own_only HO7.out hO8 fun j hj e => by have := HO2.out.lt j hj; have e2 : j = w.heap.size := e; omega
  subst hlen
  exact ⟨a, c', kd, nd, sd, ad, lad, cad, bd, lbd, cbd, ed, led, ced, v, rfl, own_base hw (by omega), HSV.out, ⟨X, vin_rowO HX7.out (fun b hb => by have := HXB.out b hb; omega) hO8, fun b hb => by have := HXB.out b hb; omega⟩, readto_rowO HT7.out (Nat.le_refl _) hgl HFF.out _⟩

theorem oread_any (g : Nat) (A : Option Addr) (c : Nat) (F : Nat → Prop) (k : List UInt8) (p : Nat) (kind : Int) (l : List Stp) (id af : Int) (v : Vt) (R : List UInt8) (w : World) (h : Rr w g A c F k p 0) (hk : k.drop p = oBytes kind l id af v ++ R) (hr : rightO kind l id af v = true) (hok : ∀ x ∈ l, StOk x) (hi0 : 0 ≤ id) (hi1 : id < 18446744073709551616) (hf0 : 0 ≤ af) (hf1 : af < 18446744073709551616) (hin : v.inn) (hF : ∀ j, F j → j < g) :
    Calls Tryz.prog 28 #[.pointer (some ⟨g, 0, none⟩)] w (ReadO w g A c F k (p + (oBytes kind l id af v).length) kind l id af v) := by
  obtain ⟨i, rfl⟩ := Int.eq_ofNat_of_zero_le hi0
  obtain ⟨f, rfl⟩ := Int.eq_ofNat_of_zero_le hf0
  obtain ⟨hp, hc⟩ := rightO_cases hr
  rcases hc with ⟨rfl, h1, h2, hv⟩ | ⟨rfl, h1, h2, hv⟩ | ⟨rfl, h1, h2, hv⟩ | ⟨rfl, h1, h2, hv⟩
  · obtain rfl : i = 0 := by omega
    obtain rfl : f = 0 := by omega
    have e : oBytes 1 l (0 : Nat) (0 : Nat) v = 1 :: (pBytes l ++ v.bytes) := by simp [oBytes, oTail]
    rw [e, List.cons_append, List.append_assoc] at hk
    rw [e, show p + (1 :: (pBytes l ++ v.bytes)).length = p + 1 + (pBytes l).length + v.bytes.length by simp only [List.length_cons, List.length_append]; omega]
    exact oread_1 g A c F k p l v R w h hk hp hok hv hin hF
  · have e : oBytes 2 l (i : Nat) (f : Nat) v = 2 :: (pBytes l ++ (enc i ++ (enc f ++ v.bytes))) := by simp [oBytes, oTail]
    rw [e] at hk
    simp only [List.cons_append, List.append_assoc] at hk
    rw [e, show p + (2 :: (pBytes l ++ (enc i ++ (enc f ++ v.bytes)))).length = p + 1 + (pBytes l).length + (enc i).length + (enc f).length + v.bytes.length by simp only [List.length_cons, List.length_append]; omega]
    exact oread_2 g A c F k p l i f v R w h hk hp hok (by omega) (by omega) h1 (fun e => h2 e.symm) hv hin hF
  · obtain rfl : f = 0 := by omega
    have e : oBytes 3 l (i : Nat) (0 : Nat) v = 3 :: (pBytes l ++ enc i) := by simp [oBytes, oTail]
    rw [e] at hk
    simp only [List.cons_append, List.append_assoc] at hk
    rw [e, show p + (3 :: (pBytes l ++ enc i)).length = p + 1 + (pBytes l).length + (enc i).length by simp only [List.length_cons, List.length_append]; omega]
    refine (oread_3 g A c F k p l i R w h hk hp hok (by omega) h2 hF).mono ?_
    rintro e' w' ⟨a, c', rfl, ho, ht⟩
    exact readO_plain hv rfl ho ht
  · have e : oBytes 4 l (i : Nat) (f : Nat) v = 4 :: (pBytes l ++ (enc i ++ enc f)) := by simp [oBytes, oTail]
    rw [e] at hk
    simp only [List.cons_append, List.append_assoc] at hk
    rw [e, show p + (4 :: (pBytes l ++ (enc i ++ enc f))).length = p + 1 + (pBytes l).length + (enc i).length + (enc f).length by simp only [List.length_cons, List.length_append]; omega]
    refine (oread_4 g A c F k p l i f R w h hk hp hok (by omega) (by omega) h1 (fun e => h2 e.symm) hF).mono ?_
    rintro e' w' ⟨a, c', rfl, ho, ht⟩
    exact readO_plain hv rfl ho ht
end

section
set_option maxRecDepth 100000
set_option linter.unusedSimpArgs false
set_option linter.unusedVariables false
open Go.RowKit

/-- What decoding leaves. -/
def DecO (w : World) (kind : Int) (l : List Stp) (id af : Int) (v : Vt) (e : Ending) (w' : World) : Prop :=
  ∃ (a : Option Addr) (c' : Nat) (kd nd : Int) (sd : ByteArray) (ad : Option Addr) (lad cad : Nat) (bd : Option Addr) (lbd cbd : Nat) (ed : Option Addr) (led ced : Nat) (v' : Vt),
    e = .returned (.tuple #[.agg (oC kind a l.length c' id af kd nd sd ad lad cad bd lbd cbd ed led ced).toArray, .nilIface]) ∧ w'.ownsRow w.heap.size 67 2 (.slice a l.length c') l.length (stc l) ∧ sameV v' v = true ∧ (∃ X : Nat → Prop, VIn X w' v' (vC kd nd sd ad lad cad bd lbd cbd ed led ced) ∧ ∀ b, X b → w.heap.size ≤ b) ∧ Below w.heap.size w w'

set_option maxHeartbeats 3200000 in
theorem owhole_any (A : Option Addr) (c : Nat) (F : Nat → Prop) (kind : Int) (l : List Stp) (id af : Int) (v : Vt) (hr : rightO kind l id af v = true) (hok : ∀ x ∈ l, StOk x) (hi0 : 0 ≤ id) (hi1 : id < 18446744073709551616) (hf0 : 0 ≤ af) (hf1 : af < 18446744073709551616) (hin : v.inn) (w : World) (h : Rd w F A (oBytes kind l id af v).length (Bs (oBytes kind l id af v))) (h4 : (oBytes kind l id af v).length ≤ 4096) :
    Calls Tryz.prog 27 #[.slice A (oBytes kind l id af v).length c, .func (.func 28) #[] #[]] w (DecO w kind l id af v) := by
  have hb2 := Below.alloc2 w (.cells oZ.toArray 30) (.cells oZ.toArray 30)
  have HNR := Lib.hid (new_any A (oBytes kind l id af v).length c (oBytes kind l id af v) F _ (Rd.below h hb2 fun _ h _ => h) (by omega))
  have R0 := Lib.hid ((Row.new w oZ 30).alloc (.cells oZ.toArray 30))
  have HB2 := Lib.hid hb2
  have HRD := Lib.hid (fun (g : Nat) (A1 : Option Addr) (c1 : Nat) (F1 : Nat → Prop) (wx : World) (hx : Rr wx g A1 c1 F1 (oBytes kind l id af v) 0 0) (hF : ∀ j, F1 j → j < g) => oread_any g A1 c1 F1 (oBytes kind l id af v) 0 kind l id af v [] wx hx (by simp) hr hok hi0 hi1 hf0 hf1 hin hF)
  have h4i : ¬ (4096 : Int) < ((oBytes kind l id af v).length : Int) := by omega
  have hs2 : ((w.alloc (.cells oZ.toArray 30)).alloc (.cells oZ.toArray 30)).heap.size = w.heap.size + 1 + 1 := by simp
  clear h hb2 hr hok hi0 hi1 hf0 hf1 hin
  generalize (oBytes kind l id af v) = bs at *
  go_enter Tryz.func27, Tryz.ntmps27
  go_wp2_with fail
  refine HNR.out.mono ?_
  rintro e W1 ⟨g, A1, c1, rfl, hrr, hg1, hbn⟩
  rw [hs2] at hg1
  have r1 := R0.out.belowAll hbn
  have hgl := hrr.lt
  have HC := Lib.hid (HRD.out g A1 c1 _ W1 hrr (fun j hj => hj.2))
  have hbw := HB2.out.trans (hbn.mono HB2.out.size)
  have HBW := Lib.hid hbw
  have HR1 := Lib.hid r1
  have hs1 := hbw.size
  have hs12 := hbn.size
  rw [hs2] at hs12
  clear hrr hbn r1 hbw
  go_wp2_with fail
  refine HC.out.mono ?_
  rintro e W2 ⟨a, c', kd, nd, sd, ad, lad, cad, bd, lbd, cbd, ed, led, ced, v', rfl, hown, hsm, ⟨X, hX, hXb⟩, hto⟩
  rw [Nat.zero_add] at hto
  generalize hlen : l.length = n at *
  have hr2 := HR1.out.only hto.only (by omega)
  have hs23 := hto.only.size
  have HLD := Lib.hid (Row.new W2 (oC kind a n c' id af kd nd sd ad lad cad bd lbd cbd ed led ced) 30)
  have HRES := Lib.hid (hr2.alloc (.cells (oC kind a n c' id af kd nd sd ad lad cad bd lbd cbd ed led ced).toArray 30))
  have hB3 : Below w.heap.size w (W2.alloc (.cells (oC kind a n c' id af kd nd sd ad lad cad bd lbd cbd ed led ced).toArray 30)) := HBW.out.trans ((hto.only.alloc _).below (by omega) (fun j hj => by have h2 : j = g := hj; omega))
  have HB3 := Lib.hid hB3
  have HX := Lib.hid (show VIn X (W2.alloc (.cells (oC kind a n c' id af kd nd sd ad lad cad bd lbd cbd ed led ced).toArray 30)) v' _ from hX.kept (Only.alloc (Only.refl (fun _ => False) W2) _).size fun b hb hlt => ⟨hb, (Only.alloc (Only.refl (fun _ => False) W2) _).block b hlt fun h => h⟩)
  have HXB := Lib.hid hXb
  have HOW := Lib.hid (own_only hown (Only.alloc (Only.refl (fun _ => False) W2) (.cells (oC kind a n c' id af kd nd sd ad lad cad bd lbd cbd ed led ced).toArray 30)) fun _ _ h => h)
  have HOL := Lib.hid hown.lt
  have HSM := Lib.hid hsm
  have HEN := Lib.hid (end_ok g A1 c1 _ bs _ (readto_new hto (.cells (oC kind a n c' id af kd nd sd ad lad cad bd lbd cbd ed led ced).toArray 30)).rr)
  clear hX hXb hto hr2 hB3 hown hsm
  go_wp2_with fail
  refine HEN.out.mono ?_
  rintro e W3 ⟨rfl, q, rfl⟩
  go_wp2_with (first | (refine wpList_load_row rfl 30 (.tmp 8) rfl W2.heap.size rfl 30 _ (0, 0) _ HLD.out Tryz.underlying30 rfl o_info ?_) | (refine wpList_store_row rfl 30 (.tmp 4) (.tmp 26) rfl w.heap.size (oC kind a n c' id af kd nd sd ad lad cad bd lbd cbd ed led ced).toArray rfl rfl 30 _ HRES.out oZ_info rfl (by simp [Value.oneCell']) ?_))
  have hgot := setRow_heap ((W2.alloc (.cells (oC kind a n c' id af kd nd sd ad lad cad bd lbd cbd ed led ced).toArray 30)).drewN q) w.heap.size _ (oC kind a n c' id af kd nd sd ad lad cad bd lbd cbd ed led ced).toArray _ _ HRES.out
  (try simp only [Exit.inBlock, Exit.then])
  refine bodyPost_ret (results_row_tmp_ (by rfl) _ _ w.heap.size _ _ _ _ (by rfl) hgot Tryz.underlying30 rfl o_info) rfl ?_
  have hO : Only (fun j => j = w.heap.size) (W2.alloc (.cells (oC kind a n c' id af kd nd sd ad lad cad bd lbd cbd ed led ced).toArray 30)) (((W2.alloc (.cells (oC kind a n c' id af kd nd sd ad lad cad bd lbd cbd ed led ced).toArray 30)).drewN q).setRow w.heap.size (oC kind a n c' id af kd nd sd ad lad cad bd lbd cbd ed led ced).toArray) := ((Only.refl (fun j => j = w.heap.size) _).drewN q).trans (only_setRow ((W2.alloc (.cells (oC kind a n c' id af kd nd sd ad lad cad bd lbd cbd ed led ced).toArray 30)).drewN q) _ _) fun _ _ h => h
  subst hlen
  exact ⟨a, c', kd, nd, sd, ad, lad, cad, bd, lbd, cbd, ed, led, ced, v', rfl, own_base (own_only HOW.out hO fun j hj e => by have := HOL.out j hj; have e2 : j = w.heap.size := e; omega) (by omega), HSM.out, ⟨X, HX.out.kept (Y := X) hO.size fun b hb hlt => ⟨hb, hO.block b hlt fun e => by have := HXB.out b hb; have e2 : b = w.heap.size := e; omega⟩, fun b hb => by have := HXB.out b hb; omega⟩, HB3.out.trans (hO.below HB3.out.size fun j hj => by have h2 : j = w.heap.size := hj; omega)⟩

set_option maxHeartbeats 1600000 in
theorem odecode_any (A : Option Addr) (c : Nat) (F : Nat → Prop) (kind : Int) (l : List Stp) (id af : Int) (v : Vt) (hr : rightO kind l id af v = true) (hok : ∀ x ∈ l, StOk x) (hi0 : 0 ≤ id) (hi1 : id < 18446744073709551616) (hf0 : 0 ≤ af) (hf1 : af < 18446744073709551616) (hin : v.inn) (w : World) (h : Rd w F A (oBytes kind l id af v).length (Bs (oBytes kind l id af v))) (h4 : (oBytes kind l id af v).length ≤ 4096) :
    Calls Tryz.prog 10 #[.slice A (oBytes kind l id af v).length c] w (DecO w kind l id af v) := by
  have hb1 := below_new w (.cells oZ.toArray 30)
  have HC := Lib.hid (owhole_any A c F kind l id af v hr hok hi0 hi1 hf0 hf1 hin _ (Rd.below h hb1 fun _ h _ => h) h4)
  have R0 := Lib.hid (Row.new w oZ 30)
  have HB1 := Lib.hid hb1
  clear h hb1 hr hok hi0 hi1 hf0 hf1 hin
  go_enter Tryz.func10, Tryz.ntmps10
  go_wp2_with fail
  refine HC.out.mono ?_
  rintro e W1 ⟨a, c', kd, nd, sd, ad, lad, cad, bd, lbd, cbd, ed, led, ced, v', rfl, hown, hsm, ⟨X, hs, hXb⟩, hb⟩
  have HXB := Lib.hid hXb
  have HRES := Lib.hid (R0.out.belowAll hb)
  have HB := Lib.hid (HB1.out.trans (hb.mono HB1.out.size))
  have HS := Lib.hid hs
  have HSZ := Lib.hid hb.size
  have HOW := Lib.hid hown
  have HSM := Lib.hid hsm
  clear hs hb hXb hown hsm
  generalize hlen : l.length = n at *
  go_wp2_with (refine wpList_store_row rfl 30 (.tmp 2) (.tmp 6) rfl w.heap.size (oC kind a n c' id af kd nd sd ad lad cad bd lbd cbd ed led ced).toArray rfl rfl 30 _ HRES.out oZ_info rfl (by simp [Value.oneCell']) ?_)
  have hgot := setRow_heap W1 w.heap.size _ (oC kind a n c' id af kd nd sd ad lad cad bd lbd cbd ed led ced).toArray _ _ HRES.out
  (try simp only [Exit.inBlock, Exit.then])
  refine bodyPost_ret (results_row_tmp_ (by rfl) _ _ w.heap.size _ _ _ _ (by rfl) hgot Tryz.underlying30 rfl o_info) rfl ?_
  have hO : Only (fun j => j = w.heap.size) W1 (W1.setRow w.heap.size (oC kind a n c' id af kd nd sd ad lad cad bd lbd cbd ed led ced).toArray) := only_setRow W1 _ _
  subst hlen
  exact ⟨a, c', kd, nd, sd, ad, lad, cad, bd, lbd, cbd, ed, led, ced, v', rfl, own_base (own_only HOW.out hO fun j hj e => by have := (HOW.out.lt j hj).1; have e2 : j = w.heap.size := e; simp at this; omega) (by simp), HSM.out, ⟨X, HS.out.kept (Y := X) hO.size fun b hb hlt => ⟨hb, hO.block b hlt fun e => by have := HXB.out b hb; have e2 : b = w.heap.size := e; simp at this; omega⟩, fun b hb => by have := HXB.out b hb; simp at this; omega⟩, HB.out.trans (hO.below HB.out.size fun j hj => by have h2 : j = w.heap.size := hj; omega)⟩
end

end Go.Proofs.YtmiadkhfjkaidaaGreatDoor
