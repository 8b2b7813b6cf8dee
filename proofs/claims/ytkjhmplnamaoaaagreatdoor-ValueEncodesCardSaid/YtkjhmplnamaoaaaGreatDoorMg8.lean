/- A schema's bytes decoded: Read, Whole, Decode. A right value written: the program's recursion. The document's bytes of a right value; for any right value. -/
import Derived.Test.YtkjhmplnamaoaaaGreatDoorMg7
import Derived.Laws.ResultCell
import Derived.Test.YtkjhmplnamaoaaaGreatDoorMg4
namespace Go.Proofs.YtkjhmplnamaoaaaGreatDoor
section
set_option maxRecDepth 100000
set_option linter.unusedSimpArgs false
set_option linter.unusedVariables false
open Go.RowKit

theorem results_row_tmp_ {P : Program} {fn : Func} {p u : Tmp} {ty : TypeId} (h : fn.results = #[.cell p ty, .tmp u]) (tmps : Array Value) (w : World) (g : Nat) (t : TypeId) (cs : Array Value) (fr : Nat × Nat) (d : TypeDesc)
    (hp : tmps.getD p undef = .pointer (some ⟨g, 0, none⟩)) (hg : w.heap[g]? = some (.cells cs t fr))
    (hu : P.underlying ty = some d) (hd : (match d with | .struct _ | .array _ _ => true | _ => false) = true) (hi : (P.info? ty).map (·.size) = some cs.size) :
    (results fn tmps).run P w = .ok (.tuple #[.agg cs, tmps.getD u undef]) w := by
  rw [results_cell_tmp h, hp]
  simp [asAddr, run_loadVar_row w g t ty cs fr d hg hu hd hi, Result.andThen]
theorem readV_more {w0 w w1 : World} {g : Nat} {A : Option Addr} {c : Nat} {F : Nat → Prop} {k : List UInt8} {q : Nat} {s : Vt} {cs : List Value} {X : Nat → Prop} {r B : Nat} {o : Obj}
    (hs : VIn X w1 s cs) (hX : ∀ b, X b → B ≤ b ∧ b < w1.heap.size) (hrB : r < B) (ht : Readto w w1 g A c F k q 0) (hr : w.heap.size ≤ r) (hg : g < w.heap.size) (hF : ∀ j, F j → j < g) :
    ReadV w g A c F k q s (.returned (.agg cs.toArray)) ((w1.alloc o).setRow r cs.toArray) :=
  readV_end (w0 := w0) (hs.kept (Only.alloc (Only.refl (fun _ => False) w1) o).size fun b hb hlt => ⟨hb, (Only.alloc (Only.refl (fun _ => False) w1) o).block b hlt fun h => h⟩)
    (fun b hb => ⟨Nat.lt_of_lt_of_le hrB (hX b hb).1, Nat.lt_of_lt_of_le (hX b hb).2 (Only.alloc (Only.refl (fun _ => False) w1) o).size⟩) (readto_new ht o) hr hg hF

set_option maxHeartbeats 3200000 in
theorem vRd_any (g : Nat) (A : Option Addr) (c : Nat) (F : Nat → Prop) (k : List UInt8) (hF : ∀ j, F j → j < g) (s : Vt) (hr : s.rightAt 1 = true) (hin : s.inn) (p : Nat) (R : List UInt8) (w : World) (h : Rr w g A c F k p 0) (hk : k.drop p = s.bytes ++ R) :
    Calls Tryz.prog 25 #[.pointer (some ⟨g, 0, none⟩)] w (ReadV w g A c F k (p + s.bytes.length) s) := by
  have hgl := h.lt
  have HC := Lib.hid (show Calls Tryz.prog 43 #[.pointer (some ⟨g, 0, none⟩), .int .i64 1] (w.alloc (.cells #[.int .i64 0, .int .i64 0, .string { data := #[] }, .slice none 0 0, .slice none 0 0, .slice none 0 0] 26)) _ from zread_any g A c F k hF s 1 hr hin p R (w.alloc (.cells #[.int .i64 0, .int .i64 0, .string { data := #[] }, .slice none 0 0, .slice none 0 0, .slice none 0 0] 26)) (h.below (below_new w _)) hk)
  have R0 := Lib.hid (Row.new w [.int .i64 0, .int .i64 0, .string { data := #[] }, .slice none 0 0, .slice none 0 0, .slice none 0 0] 26)
  have HFF := Lib.hid hF
  clear h hk hF hr
  go_enter Tryz.func25, Tryz.ntmps25
  go_wp2_with fail
  refine HC.out.mono ?_
  rintro e W1 ⟨cs, rfl, ⟨X, hX, hXb⟩, hto⟩
  obtain ⟨kd, nd, sd, ad, lad, cad, bd, lbd, cbd, ed, led, ced, rfl⟩ := hX.form
  have hs1 : (w.alloc (.cells #[.int .i64 0, .int .i64 0, .string { data := #[] }, .slice none 0 0, .slice none 0 0, .slice none 0 0] 26)).heap.size = w.heap.size + 1 := by simp
  rw [hs1] at hXb
  have r1 := R0.out.only hto.only (by omega)
  have HRES := Lib.hid (r1.alloc (.cells #[.int .i64 kd, .int .i64 nd, .string sd, .slice ad lad cad, .slice bd lbd cbd, .slice ed led ced] 26))
  have HLD := Lib.hid (Row.new W1 [.int .i64 kd, .int .i64 nd, .string sd, .slice ad lad cad, .slice bd lbd cbd, .slice ed led ced] 26)
  have HT := Lib.hid (readto_new (readto_from hto) (.cells #[.int .i64 kd, .int .i64 nd, .string sd, .slice ad lad cad, .slice bd lbd cbd, .slice ed led ced] 26))
  have HE := Lib.hid (readV_more (w0 := w) (o := .cells #[.int .i64 kd, .int .i64 nd, .string sd, .slice ad lad cad, .slice bd lbd cbd, .slice ed led ced] 26) hX hXb (Nat.lt_succ_self _) (readto_from hto) (Nat.le_refl _) hgl HFF.out)
  have HEr := Lib.hid (err_none g A c F k _ _ HT.out.rr)
  clear hX hXb hto r1
  go_wp2_with fail
  refine HEr.out.mono ?_
  rintro e W2 ⟨rfl, rfl⟩
  go_wp2_with (first | (refine wpList_load_row rfl 26 (.tmp 3) rfl W1.heap.size rfl 26 _ (0, 0) _ HLD.out Tryz.underlying26 rfl (v_info (cs := [.int .i64 kd, .int .i64 nd, .string sd, .slice ad lad cad, .slice bd lbd cbd, .slice ed led ced]) rfl) ?_) | (refine wpList_store_row rfl 26 (.tmp 2) (.tmp 10) rfl w.heap.size #[.int .i64 kd, .int .i64 nd, .string sd, .slice ad lad cad, .slice bd lbd cbd, .slice ed led ced] rfl rfl 26 _ HRES.out (v_info (cs := [.int .i64 0, .int .i64 0, .string { data := #[] }, .slice none 0 0, .slice none 0 0, .slice none 0 0]) rfl) rfl (v_one _ _ _ _ _ _ _ _ _ _ _ _) ?_))
  have hgot := setRow_heap (W1.alloc (.cells #[.int .i64 kd, .int .i64 nd, .string sd, .slice ad lad cad, .slice bd lbd cbd, .slice ed led ced] 26)) w.heap.size _ #[.int .i64 kd, .int .i64 nd, .string sd, .slice ad lad cad, .slice bd lbd cbd, .slice ed led ced] _ _ HRES.out
  (try simp only [Exit.inBlock, Exit.then])
  refine bodyPost_ret (results_cell_row (by rfl) _ _ w.heap.size _ _ _ _ (by rfl) hgot Tryz.underlying26 rfl (v_info (cs := [.int .i64 kd, .int .i64 nd, .string sd, .slice ad lad cad, .slice bd lbd cbd, .slice ed led ced]) rfl)) rfl ?_
  exact HE.out

/-- What decoding leaves. -/
def Decd (w : World) (s : Vt) (e : Ending) (w' : World) : Prop := ∃ (kd nd : Int) (sd : ByteArray) (ad : Option Addr) (lad cad : Nat) (bd : Option Addr) (lbd cbd : Nat) (ed : Option Addr) (led ced : Nat), e = .returned (.tuple #[.agg #[.int .i64 kd, .int .i64 nd, .string sd, .slice ad lad cad, .slice bd lbd cbd, .slice ed led ced], .nilIface]) ∧ (∃ X : Nat → Prop, VIn X w' s [.int .i64 kd, .int .i64 nd, .string sd, .slice ad lad cad, .slice bd lbd cbd, .slice ed led ced] ∧ ∀ b, X b → w.heap.size ≤ b) ∧ Below w.heap.size w w'

set_option maxHeartbeats 3200000 in
theorem vwhole_any (A : Option Addr) (c : Nat) (F : Nat → Prop) (s : Vt) (hr : s.rightAt 1 = true) (hin : s.inn) (w : World) (h : Rd w F A s.bytes.length (Bs s.bytes)) (h4 : s.bytes.length ≤ 4096) :
    Calls Tryz.prog 24 #[.slice A s.bytes.length c, .func (.func 25) #[] #[]] w (Decd w s) := by
  have hb2 := Below.alloc2 w (.cells #[.int .i64 0, .int .i64 0, .string { data := #[] }, .slice none 0 0, .slice none 0 0, .slice none 0 0] 26) (.cells #[.int .i64 0, .int .i64 0, .string { data := #[] }, .slice none 0 0, .slice none 0 0, .slice none 0 0] 26)
  have HNR := Lib.hid (new_any A s.bytes.length c s.bytes F _ (Rd.below h hb2 fun _ h _ => h) (by omega))
  have R0 := Lib.hid ((Row.new w [.int .i64 0, .int .i64 0, .string { data := #[] }, .slice none 0 0, .slice none 0 0, .slice none 0 0] 26).alloc (.cells #[.int .i64 0, .int .i64 0, .string { data := #[] }, .slice none 0 0, .slice none 0 0, .slice none 0 0] 26))
  have HB2 := Lib.hid hb2
  have HRT := Lib.hid hr
  have h4i : ¬ (4096 : Int) < (s.bytes.length : Int) := by omega
  have hs2 : ((w.alloc (.cells #[.int .i64 0, .int .i64 0, .string { data := #[] }, .slice none 0 0, .slice none 0 0, .slice none 0 0] 26)).alloc (.cells #[.int .i64 0, .int .i64 0, .string { data := #[] }, .slice none 0 0, .slice none 0 0, .slice none 0 0] 26)).heap.size = w.heap.size + 1 + 1 := by simp
  clear h hb2 hr
  go_enter Tryz.func24, Tryz.ntmps24
  go_wp2_with fail
  refine HNR.out.mono ?_
  rintro e W1 ⟨g, A1, c1, rfl, hrr, hg1, hbn⟩
  rw [hs2] at hg1
  have r1 := R0.out.belowAll hbn
  have hgl := hrr.lt
  have HC := Lib.hid (vRd_any g A1 c1 _ s.bytes (fun j hj => hj.2) s HRT.out hin 0 [] W1 hrr (by simp))
  have hbw := HB2.out.trans (hbn.mono HB2.out.size)
  have HBW := Lib.hid hbw
  have HR1 := Lib.hid r1
  have hs1 := hbw.size
  have hs12 := hbn.size
  rw [hs2] at hs12
  clear hrr hbn r1 hbw
  go_wp2_with fail
  refine HC.out.mono ?_
  rintro e W2 ⟨cs, rfl, ⟨X, hX, hXb⟩, hto⟩
  obtain ⟨kd, nd, sd, ad, lad, cad, bd, lbd, cbd, ed, led, ced, rfl⟩ := hX.form
  rw [Nat.zero_add] at hto
  have hr2 := HR1.out.only hto.only (by omega)
  have hs23 := hto.only.size
  have HLD := Lib.hid (Row.new W2 [.int .i64 kd, .int .i64 nd, .string sd, .slice ad lad cad, .slice bd lbd cbd, .slice ed led ced] 26)
  have HRES := Lib.hid (hr2.alloc (.cells #[.int .i64 kd, .int .i64 nd, .string sd, .slice ad lad cad, .slice bd lbd cbd, .slice ed led ced] 26))
  have hB3 : Below w.heap.size w (W2.alloc (.cells #[.int .i64 kd, .int .i64 nd, .string sd, .slice ad lad cad, .slice bd lbd cbd, .slice ed led ced] 26)) := HBW.out.trans ((hto.only.alloc _).below (by omega) (fun j hj => by have h2 : j = g := hj; omega))
  have HB3 := Lib.hid hB3
  have HX := Lib.hid (show VIn X (W2.alloc (.cells #[.int .i64 kd, .int .i64 nd, .string sd, .slice ad lad cad, .slice bd lbd cbd, .slice ed led ced] 26)) s _ from hX.kept (Only.alloc (Only.refl (fun _ => False) W2) _).size fun b hb hlt => ⟨hb, (Only.alloc (Only.refl (fun _ => False) W2) _).block b hlt fun h => h⟩)
  have HXB := Lib.hid hXb
  have HEN := Lib.hid (end_ok g A1 c1 _ s.bytes _ (readto_new hto (.cells #[.int .i64 kd, .int .i64 nd, .string sd, .slice ad lad cad, .slice bd lbd cbd, .slice ed led ced] 26)).rr)
  clear hX hXb hto hr2 hB3
  go_wp2_with fail
  refine HEN.out.mono ?_
  rintro e W3 ⟨rfl, q, rfl⟩
  go_wp2_with (first | (refine wpList_load_row rfl 26 (.tmp 8) rfl W2.heap.size rfl 26 _ (0, 0) _ HLD.out Tryz.underlying26 rfl (v_info (cs := [.int .i64 kd, .int .i64 nd, .string sd, .slice ad lad cad, .slice bd lbd cbd, .slice ed led ced]) rfl) ?_) | (refine wpList_store_row rfl 26 (.tmp 4) (.tmp 26) rfl w.heap.size #[.int .i64 kd, .int .i64 nd, .string sd, .slice ad lad cad, .slice bd lbd cbd, .slice ed led ced] rfl rfl 26 _ HRES.out (v_info (cs := [.int .i64 0, .int .i64 0, .string { data := #[] }, .slice none 0 0, .slice none 0 0, .slice none 0 0]) rfl) rfl (v_one _ _ _ _ _ _ _ _ _ _ _ _) ?_))
  have hgot := setRow_heap ((W2.alloc (.cells #[.int .i64 kd, .int .i64 nd, .string sd, .slice ad lad cad, .slice bd lbd cbd, .slice ed led ced] 26)).drewN q) w.heap.size _ #[.int .i64 kd, .int .i64 nd, .string sd, .slice ad lad cad, .slice bd lbd cbd, .slice ed led ced] _ _ HRES.out
  (try simp only [Exit.inBlock, Exit.then])
  refine bodyPost_ret (results_row_tmp_ (by rfl) _ _ w.heap.size _ _ _ _ (by rfl) hgot Tryz.underlying26 rfl (v_info (cs := [.int .i64 kd, .int .i64 nd, .string sd, .slice ad lad cad, .slice bd lbd cbd, .slice ed led ced]) rfl)) rfl ?_
  have hO : Only (fun j => j = w.heap.size) (W2.alloc (.cells #[.int .i64 kd, .int .i64 nd, .string sd, .slice ad lad cad, .slice bd lbd cbd, .slice ed led ced] 26)) (((W2.alloc (.cells #[.int .i64 kd, .int .i64 nd, .string sd, .slice ad lad cad, .slice bd lbd cbd, .slice ed led ced] 26)).drewN q).setRow w.heap.size #[.int .i64 kd, .int .i64 nd, .string sd, .slice ad lad cad, .slice bd lbd cbd, .slice ed led ced]) := ((Only.refl (fun j => j = w.heap.size) _).drewN q).trans (only_setRow ((W2.alloc (.cells #[.int .i64 kd, .int .i64 nd, .string sd, .slice ad lad cad, .slice bd lbd cbd, .slice ed led ced] 26)).drewN q) _ _) fun _ _ h => h
  exact ⟨kd, nd, sd, ad, lad, cad, bd, lbd, cbd, ed, led, ced, rfl, ⟨X, HX.out.kept (Y := X) hO.size fun b hb hlt => ⟨hb, hO.block b hlt fun e => by have := HXB.out b hb; have e2 : b = w.heap.size := e; omega⟩, fun b hb => by have := HXB.out b hb; omega⟩, HB3.out.trans (hO.below HB3.out.size fun j hj => by have h2 : j = w.heap.size := hj; omega)⟩

set_option maxHeartbeats 1600000 in
theorem vdecode_any (A : Option Addr) (c : Nat) (F : Nat → Prop) (s : Vt) (hr : s.rightAt 1 = true) (hin : s.inn) (w : World) (h : Rd w F A s.bytes.length (Bs s.bytes)) (h4 : s.bytes.length ≤ 4096) :
    Calls Tryz.prog 10 #[.slice A s.bytes.length c] w (Decd w s) := by
  have hb1 := below_new w (.cells #[.int .i64 0, .int .i64 0, .string { data := #[] }, .slice none 0 0, .slice none 0 0, .slice none 0 0] 26)
  have HC := Lib.hid (vwhole_any A c F s hr hin _ (Rd.below h hb1 fun _ h _ => h) h4)
  have R0 := Lib.hid (Row.new w [.int .i64 0, .int .i64 0, .string { data := #[] }, .slice none 0 0, .slice none 0 0, .slice none 0 0] 26)
  have HB1 := Lib.hid hb1
  clear h hb1 hr
  go_enter Tryz.func10, Tryz.ntmps10
  go_wp2_with fail
  refine HC.out.mono ?_
  rintro e W1 ⟨kd, nd, sd, ad, lad, cad, bd, lbd, cbd, ed, led, ced, rfl, ⟨X, hs, hXb⟩, hb⟩
  have HXB := Lib.hid hXb
  have HRES := Lib.hid (R0.out.belowAll hb)
  have HB := Lib.hid (HB1.out.trans (hb.mono HB1.out.size))
  have HS := Lib.hid hs
  have HSZ := Lib.hid hb.size
  clear hs hb hXb
  go_wp2_with (refine wpList_store_row rfl 26 (.tmp 2) (.tmp 6) rfl w.heap.size #[.int .i64 kd, .int .i64 nd, .string sd, .slice ad lad cad, .slice bd lbd cbd, .slice ed led ced] rfl rfl 26 _ HRES.out (v_info (cs := [.int .i64 0, .int .i64 0, .string { data := #[] }, .slice none 0 0, .slice none 0 0, .slice none 0 0]) rfl) rfl (v_one _ _ _ _ _ _ _ _ _ _ _ _) ?_)
  have hgot := setRow_heap W1 w.heap.size _ #[.int .i64 kd, .int .i64 nd, .string sd, .slice ad lad cad, .slice bd lbd cbd, .slice ed led ced] _ _ HRES.out
  (try simp only [Exit.inBlock, Exit.then])
  refine bodyPost_ret (results_row_tmp_ (by rfl) _ _ w.heap.size _ _ _ _ (by rfl) hgot Tryz.underlying26 rfl (v_info (cs := [.int .i64 kd, .int .i64 nd, .string sd, .slice ad lad cad, .slice bd lbd cbd, .slice ed led ced]) rfl)) rfl ?_
  have hO : Only (fun j => j = w.heap.size) W1 (W1.setRow w.heap.size #[.int .i64 kd, .int .i64 nd, .string sd, .slice ad lad cad, .slice bd lbd cbd, .slice ed led ced]) := only_setRow W1 _ _
  exact ⟨kd, nd, sd, ad, lad, cad, bd, lbd, cbd, ed, led, ced, rfl, ⟨X, HS.out.kept (Y := X) hO.size fun b hb hlt => ⟨hb, hO.block b hlt fun e => by have := HXB.out b hb; have e2 : b = w.heap.size := e; simp at this; omega⟩, fun b hb => by have := HXB.out b hb; simp at this; omega⟩, HB.out.trans (hO.below HB.out.size fun j hj => by have h2 : j = w.heap.size := hj; omega)⟩
end

section
set_option maxRecDepth 100000
set_option linter.unusedSimpArgs false
set_option linter.unusedVariables false
open Go.RowKit

set_option maxHeartbeats 3200000 in
theorem vwrite_10 (W w : World) (a : Addr) (v : Value) (k0 : List UInt8) (s : ByteArray) (a3 b3 c3 : Option Addr) (la ca lb cb len cc : Nat)  (hw : WP W w a v k0) (ha : W.heap.size ≤ a.block) (hlen : k0.length + 100 ≤ 140737488355328) :
    Calls Tryz.prog 16 #[.pointer (some a), .agg #[.int .i64 1, .int .i64 0, .string s, .slice a3 la ca, .slice b3 lb cb, .slice c3 len cc]] w fun e w' => e = .returned (.tuple #[]) ∧ ∃ v', Wrote w w' a v v' (k0 ++ [1, 0]) := by
  have HA := Lib.hid ha
  have R3 := Lib.hid (Row.new w [.int .i64 1, .int .i64 0, .string s, .slice a3 la ca, .slice b3 lb cb, .slice c3 len cc] 26)
  have HWB := Lib.hid (hw.later (below_new w (.cells #[.int .i64 1, .int .i64 0, .string s, .slice a3 la ca, .slice b3 lb cb, .slice c3 len cc] 26)))
  have HWP := Lib.hid hw
  have HLN := Lib.hid hlen
  clear hw ha hlen
  go_enter Tryz.func16, Tryz.ntmps16
  go_wp2_with fail
  refine (byte_any a v k0 1 _ HWB.out.wr (by have := HLN.out; omega)).mono ?_
  rintro e W1 ⟨rfl, v1, hw1⟩
  have hne : ¬ ((fun b => b = a.block ∨ v.ownBlock = some b) w.heap.size) := by
    rintro (h | h)
    · have h2 := HWP.out.wr.lt; have h3 : w.heap.size = a.block := h; omega
    · have h2 := HWP.out.wr.rowlt _ h; exact Nat.lt_irrefl _ h2
  have r1 : Row W1 w.heap.size 26 [.int .i64 1, .int .i64 0, .string s, .slice a3 la ca, .slice b3 lb cb, .slice c3 len cc] := R3.out.only hw1.only hne
  have HR1 := Lib.hid r1
  have c0 := r1.cell (k := 0) rfl
  have HW1 := Lib.hid (HWB.out.wrote HA.out hw1)
  have HX1 := Lib.hid hw1
  have HGL := Lib.hid r1.lt
  have hne1 : v1.ownBlock ≠ some w.heap.size := fun e => by
    rcases hw1.rows _ e with h | h
    · have h2 := HWP.out.wr.rowlt _ h
      exact Nat.lt_irrefl _ h2
    · have h2 : w.heap.size + 1 ≤ w.heap.size := by simpa using h
      omega
  have HNE := Lib.hid hne1
  clear hw1 r1 hne hne1
  have c1 := HR1.out.cell (k := 1) rfl
  go_wp2_with fail
  refine (bool_any a v1 (k0 ++ [1]) false W1 HW1.out.wr (by have := HLN.out; simp only [List.length_append, List.length_cons, List.length_nil]; omega)).mono ?_
  rintro e W2 ⟨rfl, v2, hw2⟩
  have HW2 := Lib.hid (wrote_from (HX1.out.trans hw2))
  clear hw2
  go_wp2_with fail
  go_end0
  exact ⟨rfl, v2, by have h := HW2.out; rw [List.append_assoc] at h; exact h⟩

set_option maxHeartbeats 3200000 in
theorem vwrite_11 (W w : World) (a : Addr) (v : Value) (k0 : List UInt8) (s : ByteArray) (a3 b3 c3 : Option Addr) (la ca lb cb len cc : Nat)  (hw : WP W w a v k0) (ha : W.heap.size ≤ a.block) (hlen : k0.length + 100 ≤ 140737488355328) :
    Calls Tryz.prog 16 #[.pointer (some a), .agg #[.int .i64 1, .int .i64 1, .string s, .slice a3 la ca, .slice b3 lb cb, .slice c3 len cc]] w fun e w' => e = .returned (.tuple #[]) ∧ ∃ v', Wrote w w' a v v' (k0 ++ [1, 1]) := by
  have HA := Lib.hid ha
  have R3 := Lib.hid (Row.new w [.int .i64 1, .int .i64 1, .string s, .slice a3 la ca, .slice b3 lb cb, .slice c3 len cc] 26)
  have HWB := Lib.hid (hw.later (below_new w (.cells #[.int .i64 1, .int .i64 1, .string s, .slice a3 la ca, .slice b3 lb cb, .slice c3 len cc] 26)))
  have HWP := Lib.hid hw
  have HLN := Lib.hid hlen
  clear hw ha hlen
  go_enter Tryz.func16, Tryz.ntmps16
  go_wp2_with fail
  refine (byte_any a v k0 1 _ HWB.out.wr (by have := HLN.out; omega)).mono ?_
  rintro e W1 ⟨rfl, v1, hw1⟩
  have hne : ¬ ((fun b => b = a.block ∨ v.ownBlock = some b) w.heap.size) := by
    rintro (h | h)
    · have h2 := HWP.out.wr.lt; have h3 : w.heap.size = a.block := h; omega
    · have h2 := HWP.out.wr.rowlt _ h; exact Nat.lt_irrefl _ h2
  have r1 : Row W1 w.heap.size 26 [.int .i64 1, .int .i64 1, .string s, .slice a3 la ca, .slice b3 lb cb, .slice c3 len cc] := R3.out.only hw1.only hne
  have HR1 := Lib.hid r1
  have c0 := r1.cell (k := 0) rfl
  have HW1 := Lib.hid (HWB.out.wrote HA.out hw1)
  have HX1 := Lib.hid hw1
  have HGL := Lib.hid r1.lt
  have hne1 : v1.ownBlock ≠ some w.heap.size := fun e => by
    rcases hw1.rows _ e with h | h
    · have h2 := HWP.out.wr.rowlt _ h
      exact Nat.lt_irrefl _ h2
    · have h2 : w.heap.size + 1 ≤ w.heap.size := by simpa using h
      omega
  have HNE := Lib.hid hne1
  clear hw1 r1 hne hne1
  have c1 := HR1.out.cell (k := 1) rfl
  go_wp2_with fail
  refine (bool_any a v1 (k0 ++ [1]) true W1 HW1.out.wr (by have := HLN.out; simp only [List.length_append, List.length_cons, List.length_nil]; omega)).mono ?_
  rintro e W2 ⟨rfl, v2, hw2⟩
  have HW2 := Lib.hid (wrote_from (HX1.out.trans hw2))
  clear hw2
  go_wp2_with fail
  go_end0
  exact ⟨rfl, v2, by have h := HW2.out; rw [List.append_assoc] at h; exact h⟩

set_option maxHeartbeats 3200000 in
theorem vwrite_2 (W w : World) (a : Addr) (v : Value) (k0 : List UInt8) (n : Int) (s : ByteArray) (a3 b3 c3 : Option Addr) (la ca lb cb len cc : Nat) (hn : (Lit.int .i64 n).wf = true) (hw : WP W w a v k0) (ha : W.heap.size ≤ a.block) (hlen : k0.length + 100 ≤ 140737488355328) :
    Calls Tryz.prog 16 #[.pointer (some a), .agg #[.int .i64 2, .int .i64 n, .string s, .slice a3 la ca, .slice b3 lb cb, .slice c3 len cc]] w fun e w' => e = .returned (.tuple #[]) ∧ ∃ v', Wrote w w' a v v' (k0 ++ ([2] ++ enc (zig n))) := by
  have HA := Lib.hid ha
  have R3 := Lib.hid (Row.new w [.int .i64 2, .int .i64 n, .string s, .slice a3 la ca, .slice b3 lb cb, .slice c3 len cc] 26)
  have HWB := Lib.hid (hw.later (below_new w (.cells #[.int .i64 2, .int .i64 n, .string s, .slice a3 la ca, .slice b3 lb cb, .slice c3 len cc] 26)))
  have HWP := Lib.hid hw
  have HLN := Lib.hid hlen
  clear hw ha hlen
  go_enter Tryz.func16, Tryz.ntmps16
  go_wp2_with fail
  refine (byte_any a v k0 2 _ HWB.out.wr (by have := HLN.out; omega)).mono ?_
  rintro e W1 ⟨rfl, v1, hw1⟩
  have hne : ¬ ((fun b => b = a.block ∨ v.ownBlock = some b) w.heap.size) := by
    rintro (h | h)
    · have h2 := HWP.out.wr.lt; have h3 : w.heap.size = a.block := h; omega
    · have h2 := HWP.out.wr.rowlt _ h; exact Nat.lt_irrefl _ h2
  have r1 : Row W1 w.heap.size 26 [.int .i64 2, .int .i64 n, .string s, .slice a3 la ca, .slice b3 lb cb, .slice c3 len cc] := R3.out.only hw1.only hne
  have HR1 := Lib.hid r1
  have c0 := r1.cell (k := 0) rfl
  have HW1 := Lib.hid (HWB.out.wrote HA.out hw1)
  have HX1 := Lib.hid hw1
  have HGL := Lib.hid r1.lt
  have hne1 : v1.ownBlock ≠ some w.heap.size := fun e => by
    rcases hw1.rows _ e with h | h
    · have h2 := HWP.out.wr.rowlt _ h
      exact Nat.lt_irrefl _ h2
    · have h2 : w.heap.size + 1 ≤ w.heap.size := by simpa using h
      omega
  have HNE := Lib.hid hne1
  clear hw1 r1 hne hne1
  have c1 := HR1.out.cell (k := 1) rfl
  go_wp2_with fail
  refine (int_any a v1 (k0 ++ [2]) n W1 HW1.out.wr (wf_i64_le hn).1 (wf_i64_le hn).2 (by have := HLN.out; simp only [List.length_append, List.length_cons, List.length_nil]; omega)).mono ?_
  rintro e W2 ⟨rfl, v2, hw2⟩
  have HW2 := Lib.hid (wrote_from (HX1.out.trans hw2))
  clear hw2
  go_wp2_with fail
  go_end0
  exact ⟨rfl, v2, by have h := HW2.out; rw [List.append_assoc] at h; exact h⟩

set_option maxHeartbeats 3200000 in
theorem vwrite_3 (W w : World) (a : Addr) (v : Value) (k0 : List UInt8) (n : Int) (s : ByteArray) (a3 b3 c3 : Option Addr) (la ca lb cb len cc : Nat) (hs : s.size ≤ 64) (hw : WP W w a v k0) (ha : W.heap.size ≤ a.block) (hlen : k0.length + 200 ≤ 140737488355328) :
    Calls Tryz.prog 16 #[.pointer (some a), .agg #[.int .i64 3, .int .i64 n, .string s, .slice a3 la ca, .slice b3 lb cb, .slice c3 len cc]] w fun e w' => e = .returned (.tuple #[]) ∧ ∃ v', Wrote w w' a v v' (k0 ++ ([3] ++ wB s)) := by
  have HA := Lib.hid ha
  have R3 := Lib.hid (Row.new w [.int .i64 3, .int .i64 n, .string s, .slice a3 la ca, .slice b3 lb cb, .slice c3 len cc] 26)
  have HWB := Lib.hid (hw.later (below_new w (.cells #[.int .i64 3, .int .i64 n, .string s, .slice a3 la ca, .slice b3 lb cb, .slice c3 len cc] 26)))
  have HWP := Lib.hid hw
  have HLN := Lib.hid hlen
  clear hw ha hlen
  go_enter Tryz.func16, Tryz.ntmps16
  go_wp2_with fail
  refine (byte_any a v k0 3 _ HWB.out.wr (by have := HLN.out; omega)).mono ?_
  rintro e W1 ⟨rfl, v1, hw1⟩
  have hne : ¬ ((fun b => b = a.block ∨ v.ownBlock = some b) w.heap.size) := by
    rintro (h | h)
    · have h2 := HWP.out.wr.lt; have h3 : w.heap.size = a.block := h; omega
    · have h2 := HWP.out.wr.rowlt _ h; exact Nat.lt_irrefl _ h2
  have r1 : Row W1 w.heap.size 26 [.int .i64 3, .int .i64 n, .string s, .slice a3 la ca, .slice b3 lb cb, .slice c3 len cc] := R3.out.only hw1.only hne
  have HR1 := Lib.hid r1
  have c0 := r1.cell (k := 0) rfl
  have HW1 := Lib.hid (HWB.out.wrote HA.out hw1)
  have HX1 := Lib.hid hw1
  have HGL := Lib.hid r1.lt
  have hne1 : v1.ownBlock ≠ some w.heap.size := fun e => by
    rcases hw1.rows _ e with h | h
    · have h2 := HWP.out.wr.rowlt _ h
      exact Nat.lt_irrefl _ h2
    · have h2 : w.heap.size + 1 ≤ w.heap.size := by simpa using h
      omega
  have HNE := Lib.hid hne1
  clear hw1 r1 hne hne1
  have c1 := HR1.out.cell (k := 2) rfl
  go_wp2_with fail
  refine (puttext_any a v1 (k0 ++ [3]) s W1 HW1.out.wr (by have := HLN.out; simp only [List.length_append, List.length_cons, List.length_nil]; omega)).mono ?_
  rintro e W2 ⟨rfl, v2, hw2⟩
  have HW2 := Lib.hid (wrote_from (HX1.out.trans hw2))
  clear hw2
  go_wp2_with fail
  go_end0
  exact ⟨rfl, v2, by have h := HW2.out; rw [List.append_assoc] at h; exact h⟩

set_option maxHeartbeats 3200000 in
theorem vwrite_4 (W w : World) (a : Addr) (v : Value) (k0 : List UInt8) (n : Int) (s : ByteArray) (a3 b3 c3 : Option Addr) (la ca lb cb len cc : Nat) (hs : s.size ≤ 64) (hw : WP W w a v k0) (ha : W.heap.size ≤ a.block) (hlen : k0.length + 200 ≤ 140737488355328) :
    Calls Tryz.prog 16 #[.pointer (some a), .agg #[.int .i64 4, .int .i64 n, .string s, .slice a3 la ca, .slice b3 lb cb, .slice c3 len cc]] w fun e w' => e = .returned (.tuple #[]) ∧ ∃ v', Wrote w w' a v v' (k0 ++ ([4] ++ wB s)) := by
  have HA := Lib.hid ha
  have R3 := Lib.hid (Row.new w [.int .i64 4, .int .i64 n, .string s, .slice a3 la ca, .slice b3 lb cb, .slice c3 len cc] 26)
  have HWB := Lib.hid (hw.later (below_new w (.cells #[.int .i64 4, .int .i64 n, .string s, .slice a3 la ca, .slice b3 lb cb, .slice c3 len cc] 26)))
  have HWP := Lib.hid hw
  have HLN := Lib.hid hlen
  clear hw ha hlen
  go_enter Tryz.func16, Tryz.ntmps16
  go_wp2_with fail
  refine (byte_any a v k0 4 _ HWB.out.wr (by have := HLN.out; omega)).mono ?_
  rintro e W1 ⟨rfl, v1, hw1⟩
  have hne : ¬ ((fun b => b = a.block ∨ v.ownBlock = some b) w.heap.size) := by
    rintro (h | h)
    · have h2 := HWP.out.wr.lt; have h3 : w.heap.size = a.block := h; omega
    · have h2 := HWP.out.wr.rowlt _ h; exact Nat.lt_irrefl _ h2
  have r1 : Row W1 w.heap.size 26 [.int .i64 4, .int .i64 n, .string s, .slice a3 la ca, .slice b3 lb cb, .slice c3 len cc] := R3.out.only hw1.only hne
  have HR1 := Lib.hid r1
  have c0 := r1.cell (k := 0) rfl
  have HW1 := Lib.hid (HWB.out.wrote HA.out hw1)
  have HX1 := Lib.hid hw1
  have HGL := Lib.hid r1.lt
  have hne1 : v1.ownBlock ≠ some w.heap.size := fun e => by
    rcases hw1.rows _ e with h | h
    · have h2 := HWP.out.wr.rowlt _ h
      exact Nat.lt_irrefl _ h2
    · have h2 : w.heap.size + 1 ≤ w.heap.size := by simpa using h
      omega
  have HNE := Lib.hid hne1
  clear hw1 r1 hne hne1
  have c1 := HR1.out.cell (k := 2) rfl
  go_wp2_with fail
  refine (puttext_any a v1 (k0 ++ [4]) s W1 HW1.out.wr (by have := HLN.out; simp only [List.length_append, List.length_cons, List.length_nil]; omega)).mono ?_
  rintro e W2 ⟨rfl, v2, hw2⟩
  have HW2 := Lib.hid (wrote_from (HX1.out.trans hw2))
  clear hw2
  go_wp2_with fail
  go_end0
  exact ⟨rfl, v2, by have h := HW2.out; rw [List.append_assoc] at h; exact h⟩

set_option maxHeartbeats 3200000 in
theorem vwrite_5 (W w : World) (a : Addr) (v : Value) (k0 : List UInt8) (n : Int) (s : ByteArray) (a3 b3 c3 : Option Addr) (la ca lb cb cc : Nat) (names : List ByteArray) (css : Nat → List Value) (parts : Nat → Vt) (B : Nat) (hs : Strs W a3 la names) (hss : ∀ i, i < la → (nth names i).size ≤ 64) (hn8 : la ≤ 8) (hp : Parts W 6 c3 la css)
    (HW : ∀ i, i < la → ∀ (w' : World) (v' : Value) (k : List UInt8), WP W w' a v' k → k.length + B + 100 ≤ 140737488355328 → Calls Tryz.prog 16 #[.pointer (some a), .agg (css i).toArray] w' fun e w'' => e = .returned (.tuple #[]) ∧ ∃ v'', Wrote w' w'' a v' v'' (k ++ (parts i).bytes)) (HL : ∀ i, i < la → (parts i).bytes.length ≤ B) (hw : WP W w a v k0) (ha : W.heap.size ≤ a.block) (hlen : k0.length + (20 + 8 * (74 + B) + 200) ≤ 140737488355328) :
    Calls Tryz.prog 16 #[.pointer (some a), .agg #[.int .i64 5, .int .i64 n, .string s, .slice a3 la ca, .slice b3 lb cb, .slice c3 la cc]] w fun e w' => e = .returned (.tuple #[]) ∧ ∃ v', Wrote w w' a v v' (k0 ++ ([5] ++ (enc la ++ (List.range la).flatMap fun i => wB (nth names i) ++ (parts i).bytes))) := by
  have HA := Lib.hid ha
  have HSS := Lib.hid (show Strs W a3 la names ∧ _ ∧ Parts W 6 c3 la css ∧ _ ∧ _ from ⟨hs, hss, hp, HW, HL⟩)
  clear hs hss hp HW HL
  have R3 := Lib.hid (Row.new w [.int .i64 5, .int .i64 n, .string s, .slice a3 la ca, .slice b3 lb cb, .slice c3 la cc] 26)
  have HWB := Lib.hid (hw.later (below_new w (.cells #[.int .i64 5, .int .i64 n, .string s, .slice a3 la ca, .slice b3 lb cb, .slice c3 la cc] 26)))
  have HWP := Lib.hid hw
  have HLN := Lib.hid hlen
  clear hw ha hlen
  go_enter Tryz.func16, Tryz.ntmps16
  go_wp2_with fail
  refine (byte_any a v k0 5 _ HWB.out.wr (by have := HLN.out; omega)).mono ?_
  rintro e W1 ⟨rfl, v1, hw1⟩
  have hne : ¬ ((fun b => b = a.block ∨ v.ownBlock = some b) w.heap.size) := by
    rintro (h | h)
    · have h2 := HWP.out.wr.lt; have h3 : w.heap.size = a.block := h; omega
    · have h2 := HWP.out.wr.rowlt _ h; exact Nat.lt_irrefl _ h2
  have r1 : Row W1 w.heap.size 26 [.int .i64 5, .int .i64 n, .string s, .slice a3 la ca, .slice b3 lb cb, .slice c3 la cc] := R3.out.only hw1.only hne
  have HR1 := Lib.hid r1
  have c0 := r1.cell (k := 0) rfl
  have HW1 := Lib.hid (HWB.out.wrote HA.out hw1)
  have HX1 := Lib.hid hw1
  have HGL := Lib.hid r1.lt
  have hne1 : v1.ownBlock ≠ some w.heap.size := fun e => by
    rcases hw1.rows _ e with h | h
    · have h2 := HWP.out.wr.rowlt _ h
      exact Nat.lt_irrefl _ h2
    · have h2 : w.heap.size + 1 ≤ w.heap.size := by simpa using h
      omega
  have HNE := Lib.hid hne1
  clear hw1 r1 hne hne1
  have c3' := HR1.out.cell (k := 3) rfl
  have c5' := HR1.out.cell (k := 5) rfl
  have HC := Lib.hid (fwrite_any W a a3 c3 la ca cc names css parts B W1 v1 (k0 ++ [5]) HSS.out.1 HSS.out.2.1 hn8 HSS.out.2.2.1 HSS.out.2.2.2.1 HSS.out.2.2.2.2 HA.out HW1.out (by have := HLN.out; simp only [List.length_append, List.length_cons, List.length_nil]; omega))
  go_wp2_with fail
  refine HC.out.mono ?_
  rintro e W2 ⟨rfl, v2, hw2⟩
  have HW2 := Lib.hid (wrote_from (HX1.out.trans hw2))
  clear hw2
  go_wp2_with fail
  go_end0
  exact ⟨rfl, v2, by have h := HW2.out; rw [List.append_assoc] at h; exact h⟩

set_option maxHeartbeats 3200000 in
theorem vwrite_6 (W w : World) (a : Addr) (v : Value) (k0 : List UInt8) (n : Int) (s : ByteArray) (a3 b3 c3 : Option Addr) (la ca lb cb cc : Nat) (ids : List Int) (css : Nat → List Value) (parts : Nat → Vt) (B : Nat) (hs : Nums W b3 lb ids) (hss : ∀ x ∈ ids, (Lit.int .u64 x).wf = true) (hn12 : lb ≤ 12) (hp : Parts W 6 c3 lb css)
    (HW : ∀ i, i < lb → ∀ (w' : World) (v' : Value) (k : List UInt8), WP W w' a v' k → k.length + B + 100 ≤ 140737488355328 → Calls Tryz.prog 16 #[.pointer (some a), .agg (css i).toArray] w' fun e w'' => e = .returned (.tuple #[]) ∧ ∃ v'', Wrote w' w'' a v' v'' (k ++ (parts i).bytes)) (HL : ∀ i, i < lb → (parts i).bytes.length ≤ B) (hw : WP W w a v k0) (ha : W.heap.size ≤ a.block) (hlen : k0.length + (20 + 12 * (10 + B) + 400) ≤ 140737488355328) :
    Calls Tryz.prog 16 #[.pointer (some a), .agg #[.int .i64 6, .int .i64 n, .string s, .slice a3 la ca, .slice b3 lb cb, .slice c3 lb cc]] w fun e w' => e = .returned (.tuple #[]) ∧ ∃ v', Wrote w w' a v v' (k0 ++ ([6] ++ (enc lb ++ (List.range lb).flatMap fun i => iB ids i ++ (parts i).bytes))) := by
  have HA := Lib.hid ha
  have HSS := Lib.hid (show Nums W b3 lb ids ∧ _ ∧ Parts W 6 c3 lb css ∧ _ ∧ _ from ⟨hs, hss, hp, HW, HL⟩)
  clear hs hss hp HW HL
  have R3 := Lib.hid (Row.new w [.int .i64 6, .int .i64 n, .string s, .slice a3 la ca, .slice b3 lb cb, .slice c3 lb cc] 26)
  have HWB := Lib.hid (hw.later (below_new w (.cells #[.int .i64 6, .int .i64 n, .string s, .slice a3 la ca, .slice b3 lb cb, .slice c3 lb cc] 26)))
  have HWP := Lib.hid hw
  have HLN := Lib.hid hlen
  clear hw ha hlen
  go_enter Tryz.func16, Tryz.ntmps16
  go_wp2_with fail
  refine (byte_any a v k0 6 _ HWB.out.wr (by have := HLN.out; omega)).mono ?_
  rintro e W1 ⟨rfl, v1, hw1⟩
  have hne : ¬ ((fun b => b = a.block ∨ v.ownBlock = some b) w.heap.size) := by
    rintro (h | h)
    · have h2 := HWP.out.wr.lt; have h3 : w.heap.size = a.block := h; omega
    · have h2 := HWP.out.wr.rowlt _ h; exact Nat.lt_irrefl _ h2
  have r1 : Row W1 w.heap.size 26 [.int .i64 6, .int .i64 n, .string s, .slice a3 la ca, .slice b3 lb cb, .slice c3 lb cc] := R3.out.only hw1.only hne
  have HR1 := Lib.hid r1
  have c0 := r1.cell (k := 0) rfl
  have HW1 := Lib.hid (HWB.out.wrote HA.out hw1)
  have HX1 := Lib.hid hw1
  have HGL := Lib.hid r1.lt
  have hne1 : v1.ownBlock ≠ some w.heap.size := fun e => by
    rcases hw1.rows _ e with h | h
    · have h2 := HWP.out.wr.rowlt _ h
      exact Nat.lt_irrefl _ h2
    · have h2 : w.heap.size + 1 ≤ w.heap.size := by simpa using h
      omega
  have HNE := Lib.hid hne1
  clear hw1 r1 hne hne1
  have c4 := HR1.out.cell (k := 4) rfl
  have hen := enc_length_le (n := lb) (by omega)
  have hn12i : (lb : Int) ≤ 12 := by omega
  have HIL := Lib.hid HSS.out.1.len
  go_wp2_with fail
  refine (number_any a v1 (k0 ++ [6]) lb W1 HW1.out.wr (by omega) (by have := HLN.out; simp only [List.length_append, List.length_cons, List.length_nil]; omega)).mono ?_
  rintro e W2 ⟨rfl, v2, hw2⟩
  have hr2 := HR1.out.only hw2.only (by rintro (h | h); (have h2 := HWP.out.wr.lt; have h3 : w.heap.size = a.block := h; omega); exact HNE.out h)
  have HR2 := Lib.hid hr2
  have d4 := hr2.cell (k := 4) rfl
  have hne2 : v2.ownBlock ≠ some w.heap.size := fun e => by
    rcases hw2.rows _ e with h | h
    · exact HNE.out h
    · have := HGL.out; omega
  have HNE2 := Lib.hid hne2
  have HGL2 := Lib.hid hr2.lt
  have HX2 := Lib.hid (wrote_from (HX1.out.trans hw2))
  clear hw2 hr2 hne2
  go_wp2_with fail
  go_loopw [4, 5, 52] (fun _ _ i wr => ∃ (j : Nat) (v' : Value), j ≤ lb ∧ i = .int .i64 (j : Int) ∧ Wrote w wr a v v' (k0 ++ [6] ++ enc lb ++ (List.range j).flatMap fun i => iB ids i ++ (parts i).bytes) ∧ Row wr w.heap.size 26 [.int .i64 6, .int .i64 n, .string s, .slice a3 la ca, .slice b3 lb cb, .slice c3 lb cc] ∧ v'.ownBlock ≠ some w.heap.size) (fun _ _ i _ => lb - (intOf i).toNat)
  case atStart => exact ⟨0, v2, Nat.zero_le _, rfl, by simpa using HX2.out, HR2.out, HNE2.out⟩
  case round =>
    obtain ⟨j, v3, hjn, rfl, hwr, hrow, hnb⟩ := hrel
    have hwp := HWP.out.wrote HA.out hwr
    have bj0 : (0 : Int) ≤ (j : Int) := by omega
    by_cases hj : j < lb
    · have hji : (j : Int) < (lb : Int) := by omega
      obtain ⟨ad, rfl, hc0⟩ := Nums.at_ (HSS.out.1.belowAll hwp.be) hj
      have hidl : j < ids.length := by rw [HIL.out]; exact hj
      have hidm : ids.getD j 0 ∈ ids := by simp [hidl]
      have hidb := wf_u64_lt (HSS.out.2.1 _ hidm)
      obtain ⟨m, hm⟩ : ∃ m : Nat, ids.getD j 0 = (m : Int) := ⟨(ids.getD j 0).toNat, by omega⟩
      have hib : iB ids j = enc m := by unfold iB; rw [hm]; rfl
      have hib10 := enc_length_le (n := m) (by omega)
      rw [hm] at hc0 hidb
      have hfl := flat_blen (f := fun i => iB ids i ++ (parts i).bytes) (b := 10 + B) (n := j) (fun i hi => by
        rw [List.length_append]
        have h3 := iB_len HSS.out.2.1 (i := i) (by omega)
        have h4 := HSS.out.2.2.2.2 i (by omega)
        omega)
      have hj8 : j * (10 + B) ≤ 11 * (10 + B) := Nat.mul_le_mul_right _ (by omega)
      have HMO := Lib.hid (flat_bmore (fun i => iB ids i ++ (parts i).bytes) j)
      have hkl : (k0 ++ [6] ++ enc lb ++ (List.range j).flatMap fun i => iB ids i ++ (parts i).bytes).length + B + 10 + 200 ≤ 140737488355328 := by
        have := HLN.out
        simp only [List.length_append, List.length_cons, List.length_nil] at hfl ⊢
        omega
      generalize hkj : (k0 ++ [6] ++ enc lb ++ (List.range j).flatMap fun i => iB ids i ++ (parts i).bytes) = kj at *
      have HKJ := Lib.hid hkj
      have HIB := Lib.hid hib
      have HWP3 := Lib.hid hwp
      have HWR := Lib.hid hwr
      have HRW := Lib.hid hrow
      have HNB := Lib.hid hnb
      have hm0 : (0 : Int) ≤ (m : Int) := by omega
      clear hfl hj8 hwp hwr hkj hm hidm hidl hib hrow hnb
      go_wp2_with fail
      refine (number_any a v3 kj m wr HWP3.out.wr (by omega) (by omega)).mono ?_
      rintro e W3 ⟨rfl, v4, hw4⟩
      have hr4 := HRW.out.only hw4.only (by rintro (h | h); (have h2 := HWP.out.wr.lt; have h3 : w.heap.size = a.block := h; omega); exact HNB.out h)
      have hne4 : v4.ownBlock ≠ some w.heap.size := fun e => by
        rcases hw4.rows _ e with h | h
        · exact HNB.out h
        · have := HRW.out.lt; omega
      have hwp4 := HWP3.out.wrote HA.out hw4
      have e5 := hr4.cell (k := 5) rfl
      obtain ⟨pd, rfl, hpb, hcell⟩ := (HSS.out.2.2.1.below hwp4.be) (by omega)
      obtain ⟨hl6, hcc⟩ := hcell j hj
      have HCC := Lib.hid hcc
      have HL6 := Lib.hid (v_len hl6)
      have HCALL := Lib.hid (HSS.out.2.2.2.1 j hj W3 v4 (kj ++ enc m) hwp4 (by rw [List.length_append]; omega))
      have HR4 := Lib.hid hr4
      have HNE4 := Lib.hid hne4
      have HX4 := Lib.hid (HWR.out.trans hw4)
      clear hw4 hwp4 hcell hcc hl6 hpb hr4 hne4
      go_wp2_with (refine wpList_load_at rfl 26 (.tmp 64) rfl (pd.add (j * 6)) rfl (css j) _ (fun q u hu => by rw [add_add]; exact HCC.out q u hu) Tryz.underlying26 rfl HL6.out ?_)
      refine HCALL.out.mono ?_
      rintro e W5 ⟨rfl, v5, hwp5⟩
      have hr5 := HR4.out.only hwp5.only (by rintro (h | h); (have h2 := HWP.out.wr.lt; have h3 : w.heap.size = a.block := h; omega); exact HNE4.out h)
      have hne5 : v5.ownBlock ≠ some w.heap.size := fun e => by
        rcases hwp5.rows _ e with h | h
        · exact HNE4.out h
        · have := HR4.out.lt; omega
      have HR5 := Lib.hid hr5
      have HNE5 := Lib.hid hne5
      have HX5 := Lib.hid (HX4.out.trans hwp5)
      clear hwp5 hr5 hne5
      go_wp2_with fail
      go_roundw
      case rel =>
        refine ⟨j + 1, v5, by omega, by go_num, ?_, HR5.out, HNE5.out⟩
        rw [HMO.out, HIB.out, ← List.append_assoc, HKJ.out]
        have h := HX5.out
        rw [← List.append_assoc]
        exact h
      case measure => simp [intOf] <;> omega
    · obtain rfl : j = lb := by omega
      have HWQ := Lib.hid hwr
      clear hwp hwr
      go_wp2_with fail
      go_end0
      exact ⟨rfl, v3, by have h := HWQ.out; simpa using h⟩

set_option maxHeartbeats 1600000 in
theorem vwrite_any : ∀ (s : Vt) (cs : List Value) (d : Nat) (W w : World) (a : Addr) (v : Value) (k0 : List UInt8), VAt W s cs → s.rightAt d = true → WP W w a v k0 → W.heap.size ≤ a.block → k0.length + vbnd (6 - d) + 100 ≤ 140737488355328 →
    Calls Tryz.prog 16 #[.pointer (some a), .agg cs.toArray] w fun e w' => e = .returned (.tuple #[]) ∧ ∃ v', Wrote w w' a v v' (k0 ++ s.bytes) := by
  intro s
  induction s with
  | nul => intro cs d W w a v k0 h; cases h
  | mk k n x names ids len parts ih =>
    intro cs d W w a v k0 hs hr hw ha hlen
    rw [Vt.rightAt_mk, Bool.and_eq_true, Bool.and_eq_true, List.all_eq_true] at hr
    obtain ⟨⟨h5, hh⟩, hp⟩ := hr
    have h5 := of_decide_eq_true h5
    have e1 : 6 - d = (5 - d) + 1 := by omega
    have e2 : 6 - (d + 1) = 5 - d := by omega
    rw [e1, vbnd] at hlen
    cases hs with
    | @mk _ _ _ _ _ _ _ a3 b3 c3 la ca lb cb cc css hk hn hsz h1 h1c hss h2 h2c hi h3 h3c hsub =>
    have hnl : names.length = la := Strs.len h1
    have hil : ids.length = lb := Nums.len h2
    have hbl : ∀ i, i < len → (parts i).bytes.length ≤ vbnd (5 - d) := fun i hi' => by
      have := Vt.bytes_len (parts i) (d + 1) (hp i (List.mem_range.2 hi')) (hsub i hi').inn
      rwa [e2] at this
    have hW : ∀ i, i < len → ∀ (w' : World) (v' : Value) (k : List UInt8), WP W w' a v' k → k.length + vbnd (5 - d) + 100 ≤ 140737488355328 → Calls Tryz.prog 16 #[.pointer (some a), .agg (css i).toArray] w' fun e w'' => e = .returned (.tuple #[]) ∧ ∃ v'', Wrote w' w'' a v' v'' (k ++ (parts i).bytes) :=
      fun i hi' w' v' k hw' hl' => ih i (css i) (d + 1) W w' a v' k (hsub i hi') (hp i (List.mem_range.2 hi')) hw' ha (by rw [e2]; exact hl')
    rcases headV_cases hh with ⟨rfl, hn01, _⟩ | ⟨rfl, _⟩ | ⟨rfl, _, hs64, _⟩ | ⟨rfl, _, hnm, _⟩ | ⟨rfl, _, _, _, h8, hl, hri⟩ | ⟨rfl, _, _, _, h12, hl, hid⟩
    · rw [vbytes_1]
      rcases hn01 with rfl | rfl
      · exact vwrite_10 W w a v k0 x a3 b3 c3 la ca lb cb len cc hw ha (by omega)
      · exact vwrite_11 W w a v k0 x a3 b3 c3 la ca lb cb len cc hw ha (by omega)
    · rw [vbytes_2]
      exact vwrite_2 W w a v k0 n x a3 b3 c3 la ca lb cb len cc hn hw ha (by omega)
    · rw [vbytes_3]
      exact vwrite_3 W w a v k0 n x a3 b3 c3 la ca lb cb len cc hs64 hw ha (by omega)
    · rw [vbytes_4]
      exact vwrite_4 W w a v k0 n x a3 b3 c3 la ca lb cb len cc (by have := nameB_sz hnm; omega) hw ha (by omega)
    · rw [vbytes_5, hnl]
      obtain rfl : len = la := by omega
      exact vwrite_5 W w a v k0 n x a3 b3 c3 len ca lb cb cc names css parts (vbnd (5 - d)) h1 (fun i hi' => riseB_size hri (by omega)) (by omega) h3 hW hbl hw ha (by omega)
    · rw [vbytes_6, hil]
      obtain rfl : len = lb := by omega
      exact vwrite_6 W w a v k0 n x a3 b3 c3 la ca len cb cc ids css parts (vbnd (5 - d)) h2 hi (by omega) h3 hW hbl hw ha (by omega)
end

section
set_option maxRecDepth 100000
set_option linter.unusedSimpArgs false
set_option linter.unusedVariables false
open Go.RowKit

theorem own_lit1 (w : World) (o : Obj) (l : List UInt8) (cs : Array Value) (h : cs.toList = Bs l) (n : Nat) (hn : l.length = n) (hm : n ≤ maxLen) :
    ((w.alloc o).alloc (.cells cs 5)).ownsRow w.heap.size 5 1 (.slice (some ⟨w.heap.size + 1, 0, none⟩) n n) n (Bs l) := by
  have h1 := own_base (own_lit (w.alloc o) l cs h n hn hm) (b' := w.heap.size) (by simp)
  simpa using h1
theorem below_grown {w0 w w' : World} {v : Value} {n : Nat} {e : TypeId} {xs : List Value} (h : Below w0.heap.size w0 w) (ho : w.ownsRow w0.heap.size e 1 v n xs) (hg : w.grownBy w' v.ownBlock) : Below w0.heap.size w0 w' :=
  h.grown hg h.size (fun k hk => (ho.lt k hk).1)
set_option maxHeartbeats 1600000 in
theorem vb_10 (w : World) (s : ByteArray) (a3 b3 c3 : Option Addr) (la ca lb cb len cc : Nat) :
    Calls Tryz.prog 9 #[.agg #[.int .i64 1, .int .i64 0, .string s, .slice a3 la ca, .slice b3 lb cb, .slice c3 len cc]] w fun e w' => ∃ v, e = .returned v ∧ w'.ownsRow w.heap.size 5 1 v ([1, 0] : List UInt8).length (Bs ([1, 0] : List UInt8)) ∧ Below w.heap.size w w' := by
  obtain ⟨i0, hi, hz0, hz1, hz2⟩ := info_parts u8_info
  have HOL := Lib.hid (show (((w.alloc (.cells #[.int .i64 1, .int .i64 0, .string s, .slice a3 la ca, .slice b3 lb cb, .slice c3 len cc] 26)).alloc (.cells #[.int .u8 1] 5)).alloc (.cells #[.int .u8 0] 5)).ownsRow (w.heap.size + 1) 5 1 (.slice (some ⟨w.heap.size + 1, 0, none⟩) 1 1) 1 (Bs [1]) from by
    have h := own_lit (w.alloc (.cells #[.int .i64 1, .int .i64 0, .string s, .slice a3 la ca, .slice b3 lb cb, .slice c3 len cc] 26)) [1] #[.int .u8 1] rfl 1 rfl (by unfold maxLen; omega)
    have h := h.alloc (.cells #[.int .u8 0] 5)
    simpa using h)
  have HRL := Lib.hid (show Rd (((w.alloc (.cells #[.int .i64 1, .int .i64 0, .string s, .slice a3 la ca, .slice b3 lb cb, .slice c3 len cc] 26)).alloc (.cells #[.int .u8 1] 5)).alloc (.cells #[.int .u8 0] 5)) (fun q => q = w.heap.size + 1 + 1) (some ⟨w.heap.size + 1 + 1, 0, none⟩) 1 (Bs [0]) from by
    have h := Rd.lit ((w.alloc (.cells #[.int .i64 1, .int .i64 0, .string s, .slice a3 la ca, .slice b3 lb cb, .slice c3 len cc] 26)).alloc (.cells #[.int .u8 1] 5)) (Bs [0]) #[.int .u8 0] 5 rfl 1 rfl
    rw [show ((w.alloc (.cells #[.int .i64 1, .int .i64 0, .string s, .slice a3 la ca, .slice b3 lb cb, .slice c3 len cc] 26)).alloc (.cells #[.int .u8 1] 5)).heap.size = w.heap.size + 1 + 1 by simp] at h
    exact h)
  have HBB := Lib.hid (show Below (w.heap.size + 1) (w.alloc (.cells #[.int .i64 1, .int .i64 0, .string s, .slice a3 la ca, .slice b3 lb cb, .slice c3 len cc] 26)) (((w.alloc (.cells #[.int .i64 1, .int .i64 0, .string s, .slice a3 la ca, .slice b3 lb cb, .slice c3 len cc] 26)).alloc (.cells #[.int .u8 1] 5)).alloc (.cells #[.int .u8 0] 5)) from ((Below.refl _ _).alloc (by simp) _).alloc (by simp) _)
  have HBW := Lib.hid (fun (w' : World) (hb : Below (w.heap.size + 1) (w.alloc (.cells #[.int .i64 1, .int .i64 0, .string s, .slice a3 la ca, .slice b3 lb cb, .slice c3 len cc] 26)) w') => (show Below w.heap.size w w' from (below_new w _).trans (hb.mono (Nat.le_succ _))))
  have HRW := Lib.hid (fun (w' : World) (hb : Below (w.heap.size + 1) (w.alloc (.cells #[.int .i64 1, .int .i64 0, .string s, .slice a3 la ca, .slice b3 lb cb, .slice c3 len cc] 26)) w') => (Row.new w [.int .i64 1, .int .i64 0, .string s, .slice a3 la ca, .slice b3 lb cb, .slice c3 len cc] 26).below hb (Nat.lt_succ_self _))
  go_enter Tryz.func9, Tryz.ntmps9
  go_wp2_with (at_builtin; refine wpList_append_rd _ rfl (.tmp 13) (.tmp 17) 29 rfl (w.heap.size + 1) 5 i0 (.int .u8 0) 1 Tryz.underlying29 hi hz0 hz1 hz2 rfl (.slice (some ⟨w.heap.size + 1, 0, none⟩) 1 1) (1) (Bs [1]) rfl HOL.out _ (some ⟨w.heap.size + 1 + 1, 0, none⟩) 1 1 (Bs [0]) rfl HRL.out (Bs_one _) ?c1 ?c2 ?c3 ?_)
  case c1 => unfold maxLen; omega
  case c2 => omega
  case c3 => simp
  intro v1 W1 ho1 hg1 _
  rw [← Bs_append] at ho1
  have hb1 := HBB.out.grown hg1 (by simp) (fun q hq => (HOL.out.lt q hq).1)
  have HO1 := Lib.hid ho1
  have HB1 := Lib.hid hb1
  clear ho1 hg1 hb1
  go_wp2_with fail
  go_ret
  exact ⟨_, rfl, own_base HO1.out (Nat.le_succ _), HBW.out _ HB1.out⟩
set_option maxHeartbeats 1600000 in
theorem vb_11 (w : World) (s : ByteArray) (a3 b3 c3 : Option Addr) (la ca lb cb len cc : Nat) :
    Calls Tryz.prog 9 #[.agg #[.int .i64 1, .int .i64 1, .string s, .slice a3 la ca, .slice b3 lb cb, .slice c3 len cc]] w fun e w' => ∃ v, e = .returned v ∧ w'.ownsRow w.heap.size 5 1 v ([1, 1] : List UInt8).length (Bs ([1, 1] : List UInt8)) ∧ Below w.heap.size w w' := by
  obtain ⟨i0, hi, hz0, hz1, hz2⟩ := info_parts u8_info
  have HOL := Lib.hid (show (((w.alloc (.cells #[.int .i64 1, .int .i64 1, .string s, .slice a3 la ca, .slice b3 lb cb, .slice c3 len cc] 26)).alloc (.cells #[.int .u8 1] 5)).alloc (.cells #[.int .u8 1] 5)).ownsRow (w.heap.size + 1) 5 1 (.slice (some ⟨w.heap.size + 1, 0, none⟩) 1 1) 1 (Bs [1]) from by
    have h := own_lit (w.alloc (.cells #[.int .i64 1, .int .i64 1, .string s, .slice a3 la ca, .slice b3 lb cb, .slice c3 len cc] 26)) [1] #[.int .u8 1] rfl 1 rfl (by unfold maxLen; omega)
    have h := h.alloc (.cells #[.int .u8 1] 5)
    simpa using h)
  have HRL := Lib.hid (show Rd (((w.alloc (.cells #[.int .i64 1, .int .i64 1, .string s, .slice a3 la ca, .slice b3 lb cb, .slice c3 len cc] 26)).alloc (.cells #[.int .u8 1] 5)).alloc (.cells #[.int .u8 1] 5)) (fun q => q = w.heap.size + 1 + 1) (some ⟨w.heap.size + 1 + 1, 0, none⟩) 1 (Bs [1]) from by
    have h := Rd.lit ((w.alloc (.cells #[.int .i64 1, .int .i64 1, .string s, .slice a3 la ca, .slice b3 lb cb, .slice c3 len cc] 26)).alloc (.cells #[.int .u8 1] 5)) (Bs [1]) #[.int .u8 1] 5 rfl 1 rfl
    rw [show ((w.alloc (.cells #[.int .i64 1, .int .i64 1, .string s, .slice a3 la ca, .slice b3 lb cb, .slice c3 len cc] 26)).alloc (.cells #[.int .u8 1] 5)).heap.size = w.heap.size + 1 + 1 by simp] at h
    exact h)
  have HBB := Lib.hid (show Below (w.heap.size + 1) (w.alloc (.cells #[.int .i64 1, .int .i64 1, .string s, .slice a3 la ca, .slice b3 lb cb, .slice c3 len cc] 26)) (((w.alloc (.cells #[.int .i64 1, .int .i64 1, .string s, .slice a3 la ca, .slice b3 lb cb, .slice c3 len cc] 26)).alloc (.cells #[.int .u8 1] 5)).alloc (.cells #[.int .u8 1] 5)) from ((Below.refl _ _).alloc (by simp) _).alloc (by simp) _)
  have HBW := Lib.hid (fun (w' : World) (hb : Below (w.heap.size + 1) (w.alloc (.cells #[.int .i64 1, .int .i64 1, .string s, .slice a3 la ca, .slice b3 lb cb, .slice c3 len cc] 26)) w') => (show Below w.heap.size w w' from (below_new w _).trans (hb.mono (Nat.le_succ _))))
  have HRW := Lib.hid (fun (w' : World) (hb : Below (w.heap.size + 1) (w.alloc (.cells #[.int .i64 1, .int .i64 1, .string s, .slice a3 la ca, .slice b3 lb cb, .slice c3 len cc] 26)) w') => (Row.new w [.int .i64 1, .int .i64 1, .string s, .slice a3 la ca, .slice b3 lb cb, .slice c3 len cc] 26).below hb (Nat.lt_succ_self _))
  go_enter Tryz.func9, Tryz.ntmps9
  go_wp2_with (at_builtin; refine wpList_append_rd _ rfl (.tmp 13) (.tmp 17) 29 rfl (w.heap.size + 1) 5 i0 (.int .u8 0) 1 Tryz.underlying29 hi hz0 hz1 hz2 rfl (.slice (some ⟨w.heap.size + 1, 0, none⟩) 1 1) (1) (Bs [1]) rfl HOL.out _ (some ⟨w.heap.size + 1 + 1, 0, none⟩) 1 1 (Bs [1]) rfl HRL.out (Bs_one _) ?c1 ?c2 ?c3 ?_)
  case c1 => unfold maxLen; omega
  case c2 => omega
  case c3 => simp
  intro v1 W1 ho1 hg1 _
  rw [← Bs_append] at ho1
  have hb1 := HBB.out.grown hg1 (by simp) (fun q hq => (HOL.out.lt q hq).1)
  have HO1 := Lib.hid ho1
  have HB1 := Lib.hid hb1
  clear ho1 hg1 hb1
  go_wp2_with fail
  go_ret
  exact ⟨_, rfl, own_base HO1.out (Nat.le_succ _), HBW.out _ HB1.out⟩
set_option maxHeartbeats 1600000 in
theorem vb_2 (w : World) (n : Int) (s : ByteArray) (a3 b3 c3 : Option Addr) (la ca lb cb len cc : Nat) (hn : (Lit.int .i64 n).wf = true) (KL : List UInt8) (hKL : KL = [2] ++ enc (zig n)) :
    Calls Tryz.prog 9 #[.agg #[.int .i64 2, .int .i64 n, .string s, .slice a3 la ca, .slice b3 lb cb, .slice c3 len cc]] w fun e w' => ∃ v, e = .returned v ∧ w'.ownsRow w.heap.size 5 1 v (KL).length (Bs (KL)) ∧ Below w.heap.size w w' := by
  obtain ⟨i0, hi, hz0, hz1, hz2⟩ := info_parts u8_info
  have HOL := Lib.hid (show ((w.alloc (.cells #[.int .i64 2, .int .i64 n, .string s, .slice a3 la ca, .slice b3 lb cb, .slice c3 len cc] 26)).alloc (.cells #[.int .u8 2] 5)).ownsRow (w.heap.size + 1) 5 1 (.slice (some ⟨w.heap.size + 1, 0, none⟩) 1 1) 1 (Bs [2]) from by
    have h := own_lit (w.alloc (.cells #[.int .i64 2, .int .i64 n, .string s, .slice a3 la ca, .slice b3 lb cb, .slice c3 len cc] 26)) [2] #[.int .u8 2] rfl 1 rfl (by unfold maxLen; omega)
    simpa using h)
  have HBB := Lib.hid (show Below (w.heap.size + 1) (w.alloc (.cells #[.int .i64 2, .int .i64 n, .string s, .slice a3 la ca, .slice b3 lb cb, .slice c3 len cc] 26)) ((w.alloc (.cells #[.int .i64 2, .int .i64 n, .string s, .slice a3 la ca, .slice b3 lb cb, .slice c3 len cc] 26)).alloc (.cells #[.int .u8 2] 5)) from (Below.refl _ _).alloc (by simp) _)
  have HBW := Lib.hid (fun (w' : World) (hb : Below (w.heap.size + 1) (w.alloc (.cells #[.int .i64 2, .int .i64 n, .string s, .slice a3 la ca, .slice b3 lb cb, .slice c3 len cc] 26)) w') => (show Below w.heap.size w w' from (below_new w _).trans (hb.mono (Nat.le_succ _))))
  have HRW := Lib.hid (fun (w' : World) (hb : Below (w.heap.size + 1) (w.alloc (.cells #[.int .i64 2, .int .i64 n, .string s, .slice a3 la ca, .slice b3 lb cb, .slice c3 len cc] 26)) w') => (Row.new w [.int .i64 2, .int .i64 n, .string s, .slice a3 la ca, .slice b3 lb cb, .slice c3 len cc] 26).below hb (Nat.lt_succ_self _))
  have HKL := Lib.hid hKL
  clear hKL
  have hnb := wf_i64_le hn
  have hzl := enc_length_le (n := zig n) (zig_lt hnb.1 hnb.2)
  go_enter Tryz.func9, Tryz.ntmps9
  go_wp2_with fail
  refine (refint_any n _ hnb.1 hnb.2).mono ?_
  rintro e W2 ⟨v2, rfl, ho2, hb2⟩
  have HO1 := Lib.hid (own_below HOL.out hb2)
  have HBX := Lib.hid (HBB.out.trans (hb2.mono (by simp)))
  have HBS := Lib.hid (show w.heap.size + 1 ≤ W2.heap.size from Nat.le_trans (by simp) hb2.size)
  obtain ⟨kk, hkk⟩ : ∃ kk, enc (zig n) = kk := ⟨_, rfl⟩
  rw [hkk] at ho2 hzl
  obtain ⟨nn, hnn⟩ : ∃ nn, kk.length = nn := ⟨_, rfl⟩
  rw [hnn] at ho2 hzl
  obtain ⟨A2, c2, rfl⟩ := own_slice ho2
  have HO2 := Lib.hid (Rd.of_own ho2)
  have HKK := Lib.hid hkk
  have HNN := Lib.hid hnn
  clear ho2 hb2 hkk hnn
  go_wp2_with (at_builtin; refine wpList_append_rd _ rfl (.tmp 21) (.tmp 24) 29 rfl (w.heap.size + 1) 5 i0 (.int .u8 0) 1 Tryz.underlying29 hi hz0 hz1 hz2 rfl (.slice (some ⟨w.heap.size + 1, 0, none⟩) 1 1) (1) (Bs [2]) rfl HO1.out _ (A2) nn c2 (Bs kk) rfl HO2.out (Bs_one _) ?c1 ?c2 ?c3 ?_)
  case c1 => unfold maxLen; omega
  case c2 => omega
  case c3 => exact HBS.out
  intro v3 W3 ho3 hg3 _
  rw [← Bs_append] at ho3
  have hb3 := HBX.out.grown hg3 HBS.out (fun q hq => (HO1.out.lt q hq).1)
  have HO3 := Lib.hid ho3
  have HB3 := Lib.hid hb3
  clear ho3 hg3 hb3
  go_wp2_with fail
  go_ret
  refine ⟨v3, rfl, ?_, HBW.out _ HB3.out⟩
  have h := own_base HO3.out (Nat.le_succ _)
  rw [HKL.out, HKK.out, List.length_append, HNN.out]
  exact h
set_option maxHeartbeats 1600000 in
theorem vb_3 (w : World) (n : Int) (s : ByteArray) (a3 b3 c3 : Option Addr) (la ca lb cb len cc : Nat) (hs : s.size ≤ 64) (KL : List UInt8) (hKL : KL = [3] ++ wB s) :
    Calls Tryz.prog 9 #[.agg #[.int .i64 3, .int .i64 n, .string s, .slice a3 la ca, .slice b3 lb cb, .slice c3 len cc]] w fun e w' => ∃ v, e = .returned v ∧ w'.ownsRow w.heap.size 5 1 v (KL).length (Bs (KL)) ∧ Below w.heap.size w w' := by
  obtain ⟨i0, hi, hz0, hz1, hz2⟩ := info_parts u8_info
  have HOL := Lib.hid (show ((w.alloc (.cells #[.int .i64 3, .int .i64 n, .string s, .slice a3 la ca, .slice b3 lb cb, .slice c3 len cc] 26)).alloc (.cells #[.int .u8 3] 5)).ownsRow (w.heap.size + 1) 5 1 (.slice (some ⟨w.heap.size + 1, 0, none⟩) 1 1) 1 (Bs [3]) from by
    have h := own_lit (w.alloc (.cells #[.int .i64 3, .int .i64 n, .string s, .slice a3 la ca, .slice b3 lb cb, .slice c3 len cc] 26)) [3] #[.int .u8 3] rfl 1 rfl (by unfold maxLen; omega)
    simpa using h)
  have HBB := Lib.hid (show Below (w.heap.size + 1) (w.alloc (.cells #[.int .i64 3, .int .i64 n, .string s, .slice a3 la ca, .slice b3 lb cb, .slice c3 len cc] 26)) ((w.alloc (.cells #[.int .i64 3, .int .i64 n, .string s, .slice a3 la ca, .slice b3 lb cb, .slice c3 len cc] 26)).alloc (.cells #[.int .u8 3] 5)) from (Below.refl _ _).alloc (by simp) _)
  have HBW := Lib.hid (fun (w' : World) (hb : Below (w.heap.size + 1) (w.alloc (.cells #[.int .i64 3, .int .i64 n, .string s, .slice a3 la ca, .slice b3 lb cb, .slice c3 len cc] 26)) w') => (show Below w.heap.size w w' from (below_new w _).trans (hb.mono (Nat.le_succ _))))
  have HRW := Lib.hid (fun (w' : World) (hb : Below (w.heap.size + 1) (w.alloc (.cells #[.int .i64 3, .int .i64 n, .string s, .slice a3 la ca, .slice b3 lb cb, .slice c3 len cc] 26)) w') => (Row.new w [.int .i64 3, .int .i64 n, .string s, .slice a3 la ca, .slice b3 lb cb, .slice c3 len cc] 26).below hb (Nat.lt_succ_self _))
  have HKL := Lib.hid hKL
  clear hKL
  have hsl : s.data.toList.length = s.size := by simp
  have hzl := enc_length_le (n := s.size) (by omega)
  obtain ⟨cx, w1, hrun, hrd, hbel, _⟩ := of_text s ((w.alloc (.cells #[.int .i64 3, .int .i64 n, .string s, .slice a3 la ca, .slice b3 lb cb, .slice c3 len cc] 26)).alloc (.cells #[.int .u8 3] 5))
  rw [show ((w.alloc (.cells #[.int .i64 3, .int .i64 n, .string s, .slice a3 la ca, .slice b3 lb cb, .slice c3 len cc] 26)).alloc (.cells #[.int .u8 3] 5)).heap.size = w.heap.size + 1 + 1 by simp] at hrd
  have HRD := Lib.hid hrd
  have HBE := Lib.hid hbel
  clear hrd hbel
  go_enter Tryz.func9, Tryz.ntmps9
  go_wp2_with fail
  refine (refbytes_any _ _ cx s.data.toList _ w1 HRD.out (by omega)).mono ?_
  rintro e W2 ⟨v2, rfl, ho2, hb2⟩
  rw [hsl] at ho2
  have hbx := HBE.out.trans (hb2.mono HBE.out.size)
  have HO1 := Lib.hid (own_below HOL.out hbx)
  have HBX := Lib.hid (HBB.out.trans (hbx.mono (by simp)))
  have HBS := Lib.hid (show w.heap.size + 1 ≤ W2.heap.size from Nat.le_trans (by simp) hbx.size)
  have hkl : (enc s.size ++ s.data.toList).length ≤ 84 := by simp only [List.length_append]; omega
  obtain ⟨kk, hkk⟩ : ∃ kk, enc s.size ++ s.data.toList = kk := ⟨_, rfl⟩
  rw [hkk] at ho2 hkl
  obtain ⟨nn, hnn⟩ : ∃ nn, kk.length = nn := ⟨_, rfl⟩
  rw [hnn] at ho2 hkl
  obtain ⟨A2, c2, rfl⟩ := own_slice ho2
  have HO2 := Lib.hid (Rd.of_own ho2)
  have HKK := Lib.hid (show wB s = kk from hkk)
  have HNN := Lib.hid hnn
  clear ho2 hb2 hkk hnn hbx hrun
  go_wp2_with (at_builtin; refine wpList_append_rd _ rfl (.tmp 29) (.tmp 33) 29 rfl (w.heap.size + 1) 5 i0 (.int .u8 0) 1 Tryz.underlying29 hi hz0 hz1 hz2 rfl (.slice (some ⟨w.heap.size + 1, 0, none⟩) 1 1) (1) (Bs [3]) rfl HO1.out _ (A2) nn c2 (Bs kk) rfl HO2.out (Bs_one _) ?c1 ?c2 ?c3 ?_)
  case c1 => unfold maxLen; omega
  case c2 => omega
  case c3 => exact HBS.out
  intro v3 W3 ho3 hg3 _
  rw [← Bs_append] at ho3
  have hb3 := HBX.out.grown hg3 HBS.out (fun q hq => (HO1.out.lt q hq).1)
  have HO3 := Lib.hid ho3
  have HB3 := Lib.hid hb3
  clear ho3 hg3 hb3
  go_wp2_with fail
  go_ret
  refine ⟨v3, rfl, ?_, HBW.out _ HB3.out⟩
  have h := own_base HO3.out (Nat.le_succ _)
  rw [HKL.out, HKK.out, List.length_append, HNN.out]
  exact h
set_option maxHeartbeats 1600000 in
theorem vb_4 (w : World) (n : Int) (s : ByteArray) (a3 b3 c3 : Option Addr) (la ca lb cb len cc : Nat) (hs : s.size ≤ 64) (KL : List UInt8) (hKL : KL = [4] ++ wB s) :
    Calls Tryz.prog 9 #[.agg #[.int .i64 4, .int .i64 n, .string s, .slice a3 la ca, .slice b3 lb cb, .slice c3 len cc]] w fun e w' => ∃ v, e = .returned v ∧ w'.ownsRow w.heap.size 5 1 v (KL).length (Bs (KL)) ∧ Below w.heap.size w w' := by
  obtain ⟨i0, hi, hz0, hz1, hz2⟩ := info_parts u8_info
  have HOL := Lib.hid (show ((w.alloc (.cells #[.int .i64 4, .int .i64 n, .string s, .slice a3 la ca, .slice b3 lb cb, .slice c3 len cc] 26)).alloc (.cells #[.int .u8 4] 5)).ownsRow (w.heap.size + 1) 5 1 (.slice (some ⟨w.heap.size + 1, 0, none⟩) 1 1) 1 (Bs [4]) from by
    have h := own_lit (w.alloc (.cells #[.int .i64 4, .int .i64 n, .string s, .slice a3 la ca, .slice b3 lb cb, .slice c3 len cc] 26)) [4] #[.int .u8 4] rfl 1 rfl (by unfold maxLen; omega)
    simpa using h)
  have HBB := Lib.hid (show Below (w.heap.size + 1) (w.alloc (.cells #[.int .i64 4, .int .i64 n, .string s, .slice a3 la ca, .slice b3 lb cb, .slice c3 len cc] 26)) ((w.alloc (.cells #[.int .i64 4, .int .i64 n, .string s, .slice a3 la ca, .slice b3 lb cb, .slice c3 len cc] 26)).alloc (.cells #[.int .u8 4] 5)) from (Below.refl _ _).alloc (by simp) _)
  have HBW := Lib.hid (fun (w' : World) (hb : Below (w.heap.size + 1) (w.alloc (.cells #[.int .i64 4, .int .i64 n, .string s, .slice a3 la ca, .slice b3 lb cb, .slice c3 len cc] 26)) w') => (show Below w.heap.size w w' from (below_new w _).trans (hb.mono (Nat.le_succ _))))
  have HRW := Lib.hid (fun (w' : World) (hb : Below (w.heap.size + 1) (w.alloc (.cells #[.int .i64 4, .int .i64 n, .string s, .slice a3 la ca, .slice b3 lb cb, .slice c3 len cc] 26)) w') => (Row.new w [.int .i64 4, .int .i64 n, .string s, .slice a3 la ca, .slice b3 lb cb, .slice c3 len cc] 26).below hb (Nat.lt_succ_self _))
  have HKL := Lib.hid hKL
  clear hKL
  have hsl : s.data.toList.length = s.size := by simp
  have hzl := enc_length_le (n := s.size) (by omega)
  obtain ⟨cx, w1, hrun, hrd, hbel, _⟩ := of_text s ((w.alloc (.cells #[.int .i64 4, .int .i64 n, .string s, .slice a3 la ca, .slice b3 lb cb, .slice c3 len cc] 26)).alloc (.cells #[.int .u8 4] 5))
  rw [show ((w.alloc (.cells #[.int .i64 4, .int .i64 n, .string s, .slice a3 la ca, .slice b3 lb cb, .slice c3 len cc] 26)).alloc (.cells #[.int .u8 4] 5)).heap.size = w.heap.size + 1 + 1 by simp] at hrd
  have HRD := Lib.hid hrd
  have HBE := Lib.hid hbel
  clear hrd hbel
  go_enter Tryz.func9, Tryz.ntmps9
  go_wp2_with fail
  refine (refbytes_any _ _ cx s.data.toList _ w1 HRD.out (by omega)).mono ?_
  rintro e W2 ⟨v2, rfl, ho2, hb2⟩
  rw [hsl] at ho2
  have hbx := HBE.out.trans (hb2.mono HBE.out.size)
  have HO1 := Lib.hid (own_below HOL.out hbx)
  have HBX := Lib.hid (HBB.out.trans (hbx.mono (by simp)))
  have HBS := Lib.hid (show w.heap.size + 1 ≤ W2.heap.size from Nat.le_trans (by simp) hbx.size)
  have hkl : (enc s.size ++ s.data.toList).length ≤ 84 := by simp only [List.length_append]; omega
  obtain ⟨kk, hkk⟩ : ∃ kk, enc s.size ++ s.data.toList = kk := ⟨_, rfl⟩
  rw [hkk] at ho2 hkl
  obtain ⟨nn, hnn⟩ : ∃ nn, kk.length = nn := ⟨_, rfl⟩
  rw [hnn] at ho2 hkl
  obtain ⟨A2, c2, rfl⟩ := own_slice ho2
  have HO2 := Lib.hid (Rd.of_own ho2)
  have HKK := Lib.hid (show wB s = kk from hkk)
  have HNN := Lib.hid hnn
  clear ho2 hb2 hkk hnn hbx hrun
  go_wp2_with (at_builtin; refine wpList_append_rd _ rfl (.tmp 29) (.tmp 33) 29 rfl (w.heap.size + 1) 5 i0 (.int .u8 0) 1 Tryz.underlying29 hi hz0 hz1 hz2 rfl (.slice (some ⟨w.heap.size + 1, 0, none⟩) 1 1) (1) (Bs [4]) rfl HO1.out _ (A2) nn c2 (Bs kk) rfl HO2.out (Bs_one _) ?c1 ?c2 ?c3 ?_)
  case c1 => unfold maxLen; omega
  case c2 => omega
  case c3 => exact HBS.out
  intro v3 W3 ho3 hg3 _
  rw [← Bs_append] at ho3
  have hb3 := HBX.out.grown hg3 HBS.out (fun q hq => (HO1.out.lt q hq).1)
  have HO3 := Lib.hid ho3
  have HB3 := Lib.hid hb3
  clear ho3 hg3 hb3
  go_wp2_with fail
  go_ret
  refine ⟨v3, rfl, ?_, HBW.out _ HB3.out⟩
  have h := own_base HO3.out (Nat.le_succ _)
  rw [HKL.out, HKK.out, List.length_append, HNN.out]
  exact h
set_option maxHeartbeats 6400000 in
theorem vb_5 (w : World) (n : Int) (s : ByteArray) (a3 b3 c3 : Option Addr) (lb ca cb len cc : Nat) (names : List ByteArray) (css : Nat → List Value) (parts : Nat → Vt) (B : Nat) (h1 : Strs w a3 len names) (hsz : ∀ i, i < len → (nth names i).size ≤ 64) (h8 : len ≤ 8) (h3 : Parts w 6 c3 len css) (hB : B ≤ 400000000)
    (hbl : ∀ i, i < len → (parts i).bytes.length ≤ B)
    (hW : ∀ i, i < len → ∀ w' : World, Below w.heap.size w w' → Calls Tryz.prog 9 #[.agg (css i).toArray] w' fun e w'' => ∃ v, e = .returned v ∧ w''.ownsRow w'.heap.size 5 1 v (parts i).bytes.length (Bs (parts i).bytes) ∧ Below w'.heap.size w' w'') (KL : List UInt8) (hKL : KL = [5] ++ (enc len ++ (List.range len).flatMap (fun i => wB (nth names i) ++ (parts i).bytes))) :
    Calls Tryz.prog 9 #[.agg #[.int .i64 5, .int .i64 n, .string s, .slice a3 len ca, .slice b3 lb cb, .slice c3 len cc]] w fun e w' => ∃ v, e = .returned v ∧ w'.ownsRow w.heap.size 5 1 v (KL).length (Bs (KL)) ∧ Below w.heap.size w w' := by
  obtain ⟨i0, hi, hz0, hz1, hz2⟩ := info_parts u8_info
  have HOL := Lib.hid (show ((w.alloc (.cells #[.int .i64 5, .int .i64 n, .string s, .slice a3 len ca, .slice b3 lb cb, .slice c3 len cc] 26)).alloc (.cells #[.int .u8 5] 5)).ownsRow (w.heap.size + 1) 5 1 (.slice (some ⟨w.heap.size + 1, 0, none⟩) 1 1) 1 (Bs [5]) from by
    have h := own_lit (w.alloc (.cells #[.int .i64 5, .int .i64 n, .string s, .slice a3 len ca, .slice b3 lb cb, .slice c3 len cc] 26)) [5] #[.int .u8 5] rfl 1 rfl (by unfold maxLen; omega)
    simpa using h)
  have HBB := Lib.hid (show Below (w.heap.size + 1) (w.alloc (.cells #[.int .i64 5, .int .i64 n, .string s, .slice a3 len ca, .slice b3 lb cb, .slice c3 len cc] 26)) ((w.alloc (.cells #[.int .i64 5, .int .i64 n, .string s, .slice a3 len ca, .slice b3 lb cb, .slice c3 len cc] 26)).alloc (.cells #[.int .u8 5] 5)) from (Below.refl _ _).alloc (by simp) _)
  have HBW := Lib.hid (fun (w' : World) (hb : Below (w.heap.size + 1) (w.alloc (.cells #[.int .i64 5, .int .i64 n, .string s, .slice a3 len ca, .slice b3 lb cb, .slice c3 len cc] 26)) w') => (show Below w.heap.size w w' from (below_new w _).trans (hb.mono (Nat.le_succ _))))
  have HRW := Lib.hid (fun (w' : World) (hb : Below (w.heap.size + 1) (w.alloc (.cells #[.int .i64 5, .int .i64 n, .string s, .slice a3 len ca, .slice b3 lb cb, .slice c3 len cc] 26)) w') => (Row.new w [.int .i64 5, .int .i64 n, .string s, .slice a3 len ca, .slice b3 lb cb, .slice c3 len cc] 26).below hb (Nat.lt_succ_self _))
  have HKL := Lib.hid hKL
  clear hKL
  have HIH := Lib.hid hW
  have HP3 := Lib.hid h3
  have HSZ := Lib.hid hsz
  have HBL := Lib.hid hbl
  have HS := Lib.hid h1
  have hlai : (len : Int) ≤ 12 := by omega
  have hel := enc_length_le (n := len) (by omega)
  clear hW h3 hsz hbl h1
  go_enter Tryz.func9, Tryz.ntmps9
  go_wp2_with fail
  refine (refnum_any len len _ (Nat.le_refl _) (by omega)).mono ?_
  rintro e W2 ⟨v2, rfl, ho2, hb2⟩
  have HO1 := Lib.hid (own_below HOL.out hb2)
  have HBX := Lib.hid (HBB.out.trans (hb2.mono (by simp)))
  have HBS := Lib.hid (show w.heap.size + 1 ≤ W2.heap.size from Nat.le_trans (by simp) hb2.size)
  have hzl := hel
  obtain ⟨kk, hkk⟩ : ∃ kk, enc len = kk := ⟨_, rfl⟩
  rw [hkk] at ho2 hzl
  obtain ⟨nn, hnn⟩ : ∃ nn, kk.length = nn := ⟨_, rfl⟩
  rw [hnn] at ho2 hzl
  obtain ⟨A2, c2, rfl⟩ := own_slice ho2
  have HO2 := Lib.hid (Rd.of_own ho2)
  have HKK := Lib.hid hkk
  have HNN := Lib.hid hnn
  have r5 := (HRW.out _ HBX.out).cell (k := 5) rfl
  clear ho2 hb2 hkk hnn
  go_wp2_with (at_builtin; refine wpList_append_rd _ rfl (.tmp 35) (.tmp 40) 29 rfl (w.heap.size + 1) 5 i0 (.int .u8 0) 1 Tryz.underlying29 hi hz0 hz1 hz2 rfl (.slice (some ⟨w.heap.size + 1, 0, none⟩) 1 1) (1) (Bs [5]) rfl HO1.out _ (A2) nn c2 (Bs kk) rfl HO2.out (Bs_one _) ?c1 ?c2 ?c3 ?_)
  case c1 => unfold maxLen; omega
  case c2 => omega
  case c3 => exact HBS.out
  intro v3 W3 ho3 hg3 _
  rw [← Bs_append] at ho3
  have hb3 := HBX.out.grown hg3 HBS.out (fun q hq => (HO1.out.lt q hq).1)
  have HO3 := Lib.hid ho3
  have HB3 := Lib.hid hb3
  clear ho3 hg3 hb3
  have HO4 := Lib.hid (show W3.ownsRow (w.heap.size + 1) 5 1 v3 ([5] ++ enc len ++ (List.range 0).flatMap (fun i => wB (nth names i) ++ (parts i).bytes)).length (Bs ([5] ++ enc len ++ (List.range 0).flatMap (fun i => wB (nth names i) ++ (parts i).bytes))) from by
    have h := HO3.out
    rw [← HNN.out, ← HKK.out] at h
    simpa [Nat.add_comm 1] using h)
  have q5 := (HRW.out _ HB3.out).cell (k := 5) rfl
  go_wp2_with fail
  go_loopw [3, 4] (fun v i wr => ∃ j : Nat, j ≤ len ∧ i = .int .i64 (j : Int) ∧ wr.ownsRow (w.heap.size + 1) 5 1 v ([5] ++ enc len ++ (List.range j).flatMap (fun i => wB (nth names i) ++ (parts i).bytes)).length (Bs ([5] ++ enc len ++ (List.range j).flatMap (fun i => wB (nth names i) ++ (parts i).bytes))) ∧ Below (w.heap.size + 1) (w.alloc (.cells #[.int .i64 5, .int .i64 n, .string s, .slice a3 len ca, .slice b3 lb cb, .slice c3 len cc] 26)) wr) (fun _ i _ => len - (intOf i).toNat)
  case atStart => exact ⟨0, Nat.zero_le _, rfl, HO4.out, HB3.out⟩
  case round =>
    obtain ⟨j, hjn, rfl, hown, hbw⟩ := hrel
    obtain ⟨A, cp, rfl⟩ := own_slice hown
    have bj0 : (0 : Int) ≤ (j : Int) := by omega
    have c0 := (HRW.out _ hbw).cell (k := 0) rfl
    have c3 := (HRW.out _ hbw).cell (k := 3) rfl
    have c4 := (HRW.out _ hbw).cell (k := 4) rfl
    have c5 := (HRW.out _ hbw).cell (k := 5) rfl
    have hfl := flat_blen (f := fun i => wB (nth names i) ++ (parts i).bytes) (b := 400000074) (n := j) (fun i hi => by
      have h3 := wB_len (HSZ.out i (by omega))
      rw [List.length_append]
      have h4 := HBL.out i (by omega)
      omega)
    have hj8 : j * 400000074 ≤ 12 * 400000074 := Nat.mul_le_mul_right _ (by omega)
    have hel := enc_length_le (n := len) (by omega)
    have hkl : ([5] ++ enc len ++ (List.range j).flatMap (fun i => wB (nth names i) ++ (parts i).bytes)).length ≤ 10000000000 := by simp only [List.length_append, List.length_cons, List.length_nil] at hfl ⊢; omega
    have HMO := Lib.hid (flat_bmore (fun i => wB (nth names i) ++ (parts i).bytes) j)
    generalize hkj : [5] ++ enc len ++ (List.range j).flatMap (fun i => wB (nth names i) ++ (parts i).bytes) = kj at *
    have HKJ := Lib.hid hkj
    generalize hnp : kj.length = np at *
    have HNP := Lib.hid hnp
    have HO := Lib.hid hown
    have HB := Lib.hid hbw
    clear hown hbw hfl hj8 hkj hnp
    by_cases hj : j < len
    · have hji : (j : Int) < (len : Int) := by omega
      obtain ⟨ad, rfl, hc0⟩ := Strs.at_ (HS.out.belowAll (HBW.out _ HB.out)) hj
      have hsz := HSZ.out j hj
      obtain ⟨x, hx⟩ : ∃ x, nth names j = x := ⟨_, rfl⟩
      have HX := Lib.hid hx
      rw [hx] at hc0 hsz
      clear hx
      have hsl : x.data.toList.length = x.size := by simp
      have helx := enc_length_le (n := x.size) (by omega)
      obtain ⟨cx, w1, hrun, hrd, hbel, _⟩ := of_text x wr
      have HRD := Lib.hid hrd
      have HBE := Lib.hid hbel
      clear hrd hbel
      go_wp2_with fail
      refine (refbytes_any _ _ cx x.data.toList _ w1 HRD.out (by omega)).mono ?_
      rintro e W3 ⟨v3, rfl, hown3, hb3⟩
      rw [hsl] at hown3
      have hk3 : (enc x.size ++ x.data.toList).length ≤ 84 := by simp only [List.length_append]; omega
      have HWX := Lib.hid (show wB x = enc x.size ++ x.data.toList from rfl)
      generalize enc x.size ++ x.data.toList = k3 at *
      obtain ⟨n3, hn3⟩ : ∃ n3, k3.length = n3 := ⟨_, rfl⟩
      rw [hn3] at hown3 hk3
      obtain ⟨A3, c3, rfl⟩ := own_slice hown3
      have HO3 := Lib.hid (Rd.of_own hown3)
      have HB3 := Lib.hid (HBE.out.trans (hb3.mono HBE.out.size))
      have HN3 := Lib.hid hn3
      clear hown3 hb3 hn3
      go_wp2_with (at_builtin; refine wpList_append_rd _ rfl (.tmp 52) (.tmp 59) 29 rfl (w.heap.size + 1) 5 i0 (.int .u8 0) 1 Tryz.underlying29 hi hz0 hz1 hz2 rfl (.slice A np cp) np (Bs kj) rfl (own_below HO.out HB3.out) _ A3 n3 c3 (Bs k3) rfl HO3.out (Bs_one _) ?c1 ?c2 ?c3 ?_)
      case c1 => unfold maxLen; omega
      case c2 => omega
      case c3 => exact Nat.le_trans (by have := HB.out.size; simpa using this) HB3.out.size
      intro v4 W4 hown4 hg4 _
      rw [← Bs_append] at hown4
      have hsb : w.heap.size + 1 ≤ wr.heap.size := by have := HB.out.size; simpa using this
      have hb4 := (HB.out.trans (HB3.out.mono hsb)).grown hg4 (Nat.le_trans hsb HB3.out.size) (fun q hq => (HO.out.lt q hq).1)
      have q0 := (HRW.out _ hb4).cell (k := 0) rfl
      have q3 := (HRW.out _ hb4).cell (k := 3) rfl
      have q5 := (HRW.out _ hb4).cell (k := 5) rfl
      have HO4 := Lib.hid hown4
      have HB4 := Lib.hid hb4
      clear hown4 hg4 hb4
      obtain ⟨pd, rfl, hpb, hcell⟩ := (HP3.out.below (HBW.out _ HB4.out)) (by omega)
      obtain ⟨hl3, hcc⟩ := hcell j hj
      have HCC := Lib.hid hcc
      have HL3 := Lib.hid (v_len hl3)
      have HC := Lib.hid (HIH.out j hj _ (HBW.out _ HB4.out))
      have hpl := HBL.out j hj
      clear hcell hcc hl3 hpb
      go_wp2_with (refine wpList_load_at rfl 26 (.tmp 73) rfl (pd.add (j * 6)) rfl (css j) _ (fun q u hu => by rw [add_add]; exact HCC.out q u hu) Tryz.underlying26 rfl HL3.out ?_)
      refine HC.out.mono ?_
      rintro e W5 ⟨v5, rfl, ho5, hb5⟩
      generalize hkk : (parts j).bytes = kk at *
      have HKK := Lib.hid hkk
      obtain ⟨nn, hnn⟩ : ∃ nn, kk.length = nn := ⟨_, rfl⟩
      rw [hnn] at ho5 hpl
      obtain ⟨A5, c5, rfl⟩ := own_slice ho5
      have HO5 := Lib.hid (Rd.of_own ho5)
      have HNN := Lib.hid hnn
      have HB5 := Lib.hid hb5
      have hsb4 : w.heap.size + 1 ≤ W4.heap.size := by have := HB4.out.size; simpa using this
      clear ho5 hb5 hnn hkk
      go_wp2_with (at_builtin; refine wpList_append_rd _ rfl (.tmp 69) (.tmp 75) 29 rfl (w.heap.size + 1) 5 i0 (.int .u8 0) 1 Tryz.underlying29 hi hz0 hz1 hz2 rfl v4 (np + n3) (Bs (kj ++ k3)) rfl (own_below HO4.out HB5.out) _ A5 nn c5 (Bs kk) rfl HO5.out (Bs_one _) ?c1 ?c2 ?c3 ?_)
      case c1 => unfold maxLen; omega
      case c2 => omega
      case c3 => exact Nat.le_trans hsb4 HB5.out.size
      intro v6 W6 hown6 hg6 _
      rw [← Bs_append] at hown6
      have hb6 := (HB4.out.trans (HB5.out.mono hsb4)).grown hg6 (Nat.le_trans hsb4 HB5.out.size) (fun q hq => (HO4.out.lt q hq).1)
      have HO6 := Lib.hid hown6
      have HB6 := Lib.hid hb6
      clear hown6 hg6 hb6
      go_wp2_with fail
      go_roundw
      case rel =>
        refine ⟨j + 1, by omega, by go_num, ?_, HB6.out⟩
        have h := HO6.out
        rw [HMO.out, HX.out, HWX.out, ← List.append_assoc, ← List.append_assoc, HKJ.out]
        simp only [List.length_append, HNP.out, HN3.out, HNN.out]
        exact h
      case measure => simp [intOf] <;> omega
    · obtain rfl : j = len := by omega
      go_wp2_with fail
      go_ret
      refine ⟨_, rfl, ?_, HBW.out _ HB.out⟩
      have h := own_base HO.out (Nat.le_succ _)
      rw [HKL.out, ← List.append_assoc, HKJ.out, HNP.out]
      exact h
set_option maxHeartbeats 6400000 in
theorem vb_6 (w : World) (n : Int) (s : ByteArray) (a3 b3 c3 : Option Addr) (la ca cb len cc : Nat) (ids : List Int) (css : Nat → List Value) (parts : Nat → Vt) (B : Nat) (h1 : Nums w b3 len ids) (hsz : ∀ x ∈ ids, (Lit.int .u64 x).wf = true) (h8 : len ≤ 12) (h3 : Parts w 6 c3 len css) (hB : B ≤ 400000000)
    (hbl : ∀ i, i < len → (parts i).bytes.length ≤ B)
    (hW : ∀ i, i < len → ∀ w' : World, Below w.heap.size w w' → Calls Tryz.prog 9 #[.agg (css i).toArray] w' fun e w'' => ∃ v, e = .returned v ∧ w''.ownsRow w'.heap.size 5 1 v (parts i).bytes.length (Bs (parts i).bytes) ∧ Below w'.heap.size w' w'') (KL : List UInt8) (hKL : KL = [6] ++ (enc len ++ (List.range len).flatMap (fun i => iB ids i ++ (parts i).bytes))) :
    Calls Tryz.prog 9 #[.agg #[.int .i64 6, .int .i64 n, .string s, .slice a3 la ca, .slice b3 len cb, .slice c3 len cc]] w fun e w' => ∃ v, e = .returned v ∧ w'.ownsRow w.heap.size 5 1 v (KL).length (Bs (KL)) ∧ Below w.heap.size w w' := by
  obtain ⟨i0, hi, hz0, hz1, hz2⟩ := info_parts u8_info
  have HOL := Lib.hid (show ((w.alloc (.cells #[.int .i64 6, .int .i64 n, .string s, .slice a3 la ca, .slice b3 len cb, .slice c3 len cc] 26)).alloc (.cells #[.int .u8 6] 5)).ownsRow (w.heap.size + 1) 5 1 (.slice (some ⟨w.heap.size + 1, 0, none⟩) 1 1) 1 (Bs [6]) from by
    have h := own_lit (w.alloc (.cells #[.int .i64 6, .int .i64 n, .string s, .slice a3 la ca, .slice b3 len cb, .slice c3 len cc] 26)) [6] #[.int .u8 6] rfl 1 rfl (by unfold maxLen; omega)
    simpa using h)
  have HBB := Lib.hid (show Below (w.heap.size + 1) (w.alloc (.cells #[.int .i64 6, .int .i64 n, .string s, .slice a3 la ca, .slice b3 len cb, .slice c3 len cc] 26)) ((w.alloc (.cells #[.int .i64 6, .int .i64 n, .string s, .slice a3 la ca, .slice b3 len cb, .slice c3 len cc] 26)).alloc (.cells #[.int .u8 6] 5)) from (Below.refl _ _).alloc (by simp) _)
  have HBW := Lib.hid (fun (w' : World) (hb : Below (w.heap.size + 1) (w.alloc (.cells #[.int .i64 6, .int .i64 n, .string s, .slice a3 la ca, .slice b3 len cb, .slice c3 len cc] 26)) w') => (show Below w.heap.size w w' from (below_new w _).trans (hb.mono (Nat.le_succ _))))
  have HRW := Lib.hid (fun (w' : World) (hb : Below (w.heap.size + 1) (w.alloc (.cells #[.int .i64 6, .int .i64 n, .string s, .slice a3 la ca, .slice b3 len cb, .slice c3 len cc] 26)) w') => (Row.new w [.int .i64 6, .int .i64 n, .string s, .slice a3 la ca, .slice b3 len cb, .slice c3 len cc] 26).below hb (Nat.lt_succ_self _))
  have HIL := Lib.hid (Nums.len h1)
  have HKL := Lib.hid hKL
  clear hKL
  have HIH := Lib.hid hW
  have HP3 := Lib.hid h3
  have HSZ := Lib.hid hsz
  have HBL := Lib.hid hbl
  have HS := Lib.hid h1
  have hlai : (len : Int) ≤ 12 := by omega
  have hel := enc_length_le (n := len) (by omega)
  clear hW h3 hsz hbl h1
  go_enter Tryz.func9, Tryz.ntmps9
  go_wp2_with fail
  refine (refnum_any len len _ (Nat.le_refl _) (by omega)).mono ?_
  rintro e W2 ⟨v2, rfl, ho2, hb2⟩
  have HO1 := Lib.hid (own_below HOL.out hb2)
  have HBX := Lib.hid (HBB.out.trans (hb2.mono (by simp)))
  have HBS := Lib.hid (show w.heap.size + 1 ≤ W2.heap.size from Nat.le_trans (by simp) hb2.size)
  have hzl := hel
  obtain ⟨kk, hkk⟩ : ∃ kk, enc len = kk := ⟨_, rfl⟩
  rw [hkk] at ho2 hzl
  obtain ⟨nn, hnn⟩ : ∃ nn, kk.length = nn := ⟨_, rfl⟩
  rw [hnn] at ho2 hzl
  obtain ⟨A2, c2, rfl⟩ := own_slice ho2
  have HO2 := Lib.hid (Rd.of_own ho2)
  have HKK := Lib.hid hkk
  have HNN := Lib.hid hnn
  have r5 := (HRW.out _ HBX.out).cell (k := 5) rfl
  clear ho2 hb2 hkk hnn
  go_wp2_with (at_builtin; refine wpList_append_rd _ rfl (.tmp 35) (.tmp 40) 29 rfl (w.heap.size + 1) 5 i0 (.int .u8 0) 1 Tryz.underlying29 hi hz0 hz1 hz2 rfl (.slice (some ⟨w.heap.size + 1, 0, none⟩) 1 1) (1) (Bs [6]) rfl HO1.out _ (A2) nn c2 (Bs kk) rfl HO2.out (Bs_one _) ?c1 ?c2 ?c3 ?_)
  case c1 => unfold maxLen; omega
  case c2 => omega
  case c3 => exact HBS.out
  intro v3 W3 ho3 hg3 _
  rw [← Bs_append] at ho3
  have hb3 := HBX.out.grown hg3 HBS.out (fun q hq => (HO1.out.lt q hq).1)
  have HO3 := Lib.hid ho3
  have HB3 := Lib.hid hb3
  clear ho3 hg3 hb3
  have HO4 := Lib.hid (show W3.ownsRow (w.heap.size + 1) 5 1 v3 ([6] ++ enc len ++ (List.range 0).flatMap (fun i => iB ids i ++ (parts i).bytes)).length (Bs ([6] ++ enc len ++ (List.range 0).flatMap (fun i => iB ids i ++ (parts i).bytes))) from by
    have h := HO3.out
    rw [← HNN.out, ← HKK.out] at h
    simpa [Nat.add_comm 1] using h)
  have q5 := (HRW.out _ HB3.out).cell (k := 5) rfl
  go_wp2_with fail
  go_loopw [3, 4] (fun v i wr => ∃ j : Nat, j ≤ len ∧ i = .int .i64 (j : Int) ∧ wr.ownsRow (w.heap.size + 1) 5 1 v ([6] ++ enc len ++ (List.range j).flatMap (fun i => iB ids i ++ (parts i).bytes)).length (Bs ([6] ++ enc len ++ (List.range j).flatMap (fun i => iB ids i ++ (parts i).bytes))) ∧ Below (w.heap.size + 1) (w.alloc (.cells #[.int .i64 6, .int .i64 n, .string s, .slice a3 la ca, .slice b3 len cb, .slice c3 len cc] 26)) wr) (fun _ i _ => len - (intOf i).toNat)
  case atStart => exact ⟨0, Nat.zero_le _, rfl, HO4.out, HB3.out⟩
  case round =>
    obtain ⟨j, hjn, rfl, hown, hbw⟩ := hrel
    obtain ⟨A, cp, rfl⟩ := own_slice hown
    have bj0 : (0 : Int) ≤ (j : Int) := by omega
    have c0 := (HRW.out _ hbw).cell (k := 0) rfl
    have c3 := (HRW.out _ hbw).cell (k := 3) rfl
    have c4 := (HRW.out _ hbw).cell (k := 4) rfl
    have c5 := (HRW.out _ hbw).cell (k := 5) rfl
    have hfl := flat_blen (f := fun i => iB ids i ++ (parts i).bytes) (b := 400000074) (n := j) (fun i hi => by
      have h3 := iB_len HSZ.out (i := i) (by rw [HIL.out]; omega)
      rw [List.length_append]
      have h4 := HBL.out i (by omega)
      omega)
    have hj8 : j * 400000074 ≤ 12 * 400000074 := Nat.mul_le_mul_right _ (by omega)
    have hel := enc_length_le (n := len) (by omega)
    have hkl : ([6] ++ enc len ++ (List.range j).flatMap (fun i => iB ids i ++ (parts i).bytes)).length ≤ 10000000000 := by simp only [List.length_append, List.length_cons, List.length_nil] at hfl ⊢; omega
    have HMO := Lib.hid (flat_bmore (fun i => iB ids i ++ (parts i).bytes) j)
    generalize hkj : [6] ++ enc len ++ (List.range j).flatMap (fun i => iB ids i ++ (parts i).bytes) = kj at *
    have HKJ := Lib.hid hkj
    generalize hnp : kj.length = np at *
    have HNP := Lib.hid hnp
    have HO := Lib.hid hown
    have HB := Lib.hid hbw
    clear hown hbw hfl hj8 hkj hnp
    by_cases hj : j < len
    · have hji : (j : Int) < (len : Int) := by omega
      obtain ⟨ad, rfl, hc0⟩ := Nums.at_ (HS.out.belowAll (HBW.out _ HB.out)) hj
      have hidl : j < ids.length := by rw [HIL.out]; exact hj
      have hidm : ids.getD j 0 ∈ ids := by simp [hidl]
      have hidb := wf_u64_lt (HSZ.out _ hidm)
      obtain ⟨m, hm⟩ : ∃ m : Nat, ids.getD j 0 = (m : Int) := ⟨(ids.getD j 0).toNat, by omega⟩
      have HWX := Lib.hid (show iB ids j = enc m by unfold iB; rw [hm]; rfl)
      have hk3 := enc_length_le (n := m) (by omega)
      rw [hm] at hc0 hidb
      clear hm hidm
      go_wp2_with fail
      refine (refnum_any m m _ (Nat.le_refl _) (by omega)).mono ?_
      rintro e W3 ⟨v3, rfl, hown3, hb3⟩
      obtain ⟨k3, hk3e⟩ : ∃ k3, enc m = k3 := ⟨_, rfl⟩
      rw [hk3e] at hown3 hk3 HWX
      clear hk3e
      obtain ⟨n3, hn3⟩ : ∃ n3, k3.length = n3 := ⟨_, rfl⟩
      rw [hn3] at hown3 hk3
      obtain ⟨A3, c3x, rfl⟩ := own_slice hown3
      have HO3 := Lib.hid (Rd.of_own hown3)
      have HB3 := Lib.hid hb3
      have HN3 := Lib.hid hn3
      clear hown3 hb3 hn3
      go_wp2_with (at_builtin; refine wpList_append_rd _ rfl (.tmp 61) (.tmp 67) 29 rfl (w.heap.size + 1) 5 i0 (.int .u8 0) 1 Tryz.underlying29 hi hz0 hz1 hz2 rfl (.slice A np cp) np (Bs kj) rfl (own_below HO.out HB3.out) _ A3 n3 c3x (Bs k3) rfl HO3.out (Bs_one _) ?c1 ?c2 ?c3 ?_)
      case c1 => unfold maxLen; omega
      case c2 => omega
      case c3 => exact Nat.le_trans (by have := HB.out.size; simpa using this) HB3.out.size
      intro v4 W4 hown4 hg4 _
      rw [← Bs_append] at hown4
      have hsb : w.heap.size + 1 ≤ wr.heap.size := by have := HB.out.size; simpa using this
      have hb4 := (HB.out.trans (HB3.out.mono hsb)).grown hg4 (Nat.le_trans hsb HB3.out.size) (fun q hq => (HO.out.lt q hq).1)
      have q0 := (HRW.out _ hb4).cell (k := 0) rfl
      have q4 := (HRW.out _ hb4).cell (k := 4) rfl
      have q5 := (HRW.out _ hb4).cell (k := 5) rfl
      have HO4 := Lib.hid hown4
      have HB4 := Lib.hid hb4
      clear hown4 hg4 hb4
      obtain ⟨pd, rfl, hpb, hcell⟩ := (HP3.out.below (HBW.out _ HB4.out)) (by omega)
      obtain ⟨hl3, hcc⟩ := hcell j hj
      have HCC := Lib.hid hcc
      have HL3 := Lib.hid (v_len hl3)
      have HC := Lib.hid (HIH.out j hj _ (HBW.out _ HB4.out))
      have hpl := HBL.out j hj
      clear hcell hcc hl3 hpb
      go_wp2_with (refine wpList_load_at rfl 26 (.tmp 73) rfl (pd.add (j * 6)) rfl (css j) _ (fun q u hu => by rw [add_add]; exact HCC.out q u hu) Tryz.underlying26 rfl HL3.out ?_)
      refine HC.out.mono ?_
      rintro e W5 ⟨v5, rfl, ho5, hb5⟩
      generalize hkk : (parts j).bytes = kk at *
      have HKK := Lib.hid hkk
      obtain ⟨nn, hnn⟩ : ∃ nn, kk.length = nn := ⟨_, rfl⟩
      rw [hnn] at ho5 hpl
      obtain ⟨A5, c5, rfl⟩ := own_slice ho5
      have HO5 := Lib.hid (Rd.of_own ho5)
      have HNN := Lib.hid hnn
      have HB5 := Lib.hid hb5
      have hsb4 : w.heap.size + 1 ≤ W4.heap.size := by have := HB4.out.size; simpa using this
      clear ho5 hb5 hnn hkk
      go_wp2_with (at_builtin; refine wpList_append_rd _ rfl (.tmp 69) (.tmp 75) 29 rfl (w.heap.size + 1) 5 i0 (.int .u8 0) 1 Tryz.underlying29 hi hz0 hz1 hz2 rfl v4 (np + n3) (Bs (kj ++ k3)) rfl (own_below HO4.out HB5.out) _ A5 nn c5 (Bs kk) rfl HO5.out (Bs_one _) ?c1 ?c2 ?c3 ?_)
      case c1 => unfold maxLen; omega
      case c2 => omega
      case c3 => exact Nat.le_trans hsb4 HB5.out.size
      intro v6 W6 hown6 hg6 _
      rw [← Bs_append] at hown6
      have hb6 := (HB4.out.trans (HB5.out.mono hsb4)).grown hg6 (Nat.le_trans hsb4 HB5.out.size) (fun q hq => (HO4.out.lt q hq).1)
      have HO6 := Lib.hid hown6
      have HB6 := Lib.hid hb6
      clear hown6 hg6 hb6
      go_wp2_with fail
      go_roundw
      case rel =>
        refine ⟨j + 1, by omega, by go_num, ?_, HB6.out⟩
        have h := HO6.out
        rw [HMO.out, HWX.out, ← List.append_assoc, ← List.append_assoc, HKJ.out]
        simp only [List.length_append, HNP.out, HN3.out, HNN.out]
        exact h
      case measure => simp [intOf] <;> omega
    · obtain rfl : j = len := by omega
      go_wp2_with fail
      go_ret
      refine ⟨_, rfl, ?_, HBW.out _ HB.out⟩
      have h := own_base HO.out (Nat.le_succ _)
      rw [HKL.out, ← List.append_assoc, HKJ.out, HNP.out]
      exact h
set_option maxHeartbeats 1600000 in
theorem vbytes_ref : ∀ (v : Vt) (cs : List Value) (d : Nat) (w : World), VAt w v cs → v.rightAt d = true →
    Calls Tryz.prog 9 #[.agg cs.toArray] w fun e w' => ∃ x, e = .returned x ∧ w'.ownsRow w.heap.size 5 1 x v.bytes.length (Bs v.bytes) ∧ Below w.heap.size w w' := by
  intro v
  induction v with
  | nul => intro cs d w h; cases h
  | mk k n x names ids len parts ih =>
    intro cs d w hs hr
    rw [Vt.rightAt_mk, Bool.and_eq_true, Bool.and_eq_true, List.all_eq_true] at hr
    obtain ⟨⟨h5, hh⟩, hp⟩ := hr
    cases hs with
    | @mk _ _ _ _ _ _ _ a3 b3 c3 la ca lb cb cc css hk hn hsz h1 h1c hss h2 h2c hi h3 h3c hsub =>
    have hnl : names.length = la := Strs.len h1
    have hil : ids.length = lb := Nums.len h2
    have hbl : ∀ i, i < len → (parts i).bytes.length ≤ 400000000 := fun i hi' =>
      Nat.le_trans (Vt.bytes_len (parts i) (d + 1) (hp i (List.mem_range.2 hi')) (hsub i hi').inn) (vbnd_all (Nat.sub_le _ _))
    have hW := fun (i : Nat) (hi' : i < len) (w' : World) (hb : Below w.heap.size w w') => ih i (css i) (d + 1) w' ((hsub i hi').later hb) (hp i (List.mem_range.2 hi'))
    rcases headV_cases hh with ⟨rfl, hn01, _⟩ | ⟨rfl, _⟩ | ⟨rfl, _, hs64, _⟩ | ⟨rfl, _, hnm, _⟩ | ⟨rfl, _, _, _, h8, hl, hri⟩ | ⟨rfl, _, _, _, h12, hl, hid⟩
    · rw [vbytes_1]
      rcases hn01 with rfl | rfl
      · exact vb_10 w x a3 b3 c3 la ca lb cb len cc
      · exact vb_11 w x a3 b3 c3 la ca lb cb len cc
    · rw [vbytes_2]
      exact vb_2 w n x a3 b3 c3 la ca lb cb len cc hn _ rfl
    · rw [vbytes_3]
      exact vb_3 w n x a3 b3 c3 la ca lb cb len cc hs64 _ rfl
    · rw [vbytes_4]
      exact vb_4 w n x a3 b3 c3 la ca lb cb len cc (by have := nameB_sz hnm; omega) _ rfl
    · rw [vbytes_5, hnl]
      obtain rfl : len = la := by omega
      exact vb_5 w n x a3 b3 c3 lb ca cb len cc names css parts 400000000 h1 (fun i hi' => riseB_size hri (by omega)) (by omega) h3 (Nat.le_refl _) hbl hW _ rfl
    · rw [vbytes_6, hil]
      obtain rfl : len = lb := by omega
      exact vb_6 w n x a3 b3 c3 la ca cb len cc ids css parts 400000000 h2 hi (by omega) h3 (Nat.le_refl _) hbl hW _ rfl
end

end Go.Proofs.YtkjhmplnamaoaaaGreatDoor
