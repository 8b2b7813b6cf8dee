/- A value read: the program's recursion, at a right value's bytes. -/
import Derived.Test.YtmiadkhfjkaidaaGreatDoorMg19
import Derived.Test.YtmiadkhfjkaidaaGreatDoorMg10
namespace Go.Proofs.YtmiadkhfjkaidaaGreatDoor
section
set_option maxRecDepth 100000
set_option linter.unusedSimpArgs false
set_option linter.unusedVariables false
open Go.RowKit

theorem rbyte_at {k R : List UInt8} {p : Nat} {x : UInt8} (h : k.drop p = x :: R) : rbyte k p = (x, p + 1, 0) := by
  unfold rbyte
  have : k[p]? = some x := by
    have e : (k.drop p)[0]? = some x := by rw [h]; rfl
    rw [List.getElem?_drop] at e
    simpa using e
  rw [this]
theorem rbool_at {k R : List UInt8} {p : Nat} {x : UInt8} (h : k.drop p = x :: R) (hx : ¬ 1 < x.toNat) : rbool k p = (x.toNat == 1, p + 1, 0) := by
  unfold rbool
  have : k[p]? = some x := by
    have e : (k.drop p)[0]? = some x := by rw [h]; rfl
    rw [List.getElem?_drop] at e
    simpa using e
  rw [this]
  simp only
  rw [if_neg hx]
theorem rint_at {k R : List UInt8} {p : Nat} {n : Int} (h : k.drop p = enc (zig n) ++ R) (hz : zig n < 18446744073709551616) : rint k p = (n, p + (enc (zig n)).length, 0) := by
  unfold rint
  rw [rnum_at h hz (by omega)]
  simp only
  rw [unzig_zig]
theorem empty_of_size {s : ByteArray} (h : s.size = 0) : s = { data := #[] } := by
  cases s with
  | mk d =>
    have : d.size = 0 := h
    rw [Array.eq_empty_of_size_eq_zero this]
/-- What reading a value leaves. -/
def ReadV (w : World) (g : Nat) (A : Option Addr) (c : Nat) (F : Nat → Prop) (k : List UInt8) (q : Nat) (s : Vt) (e : Ending) (w' : World) : Prop :=
  ∃ cs, e = .returned (.agg cs.toArray) ∧ (∃ X, VIn X w' s cs ∧ ∀ b, X b → w.heap.size ≤ b ∧ b < w'.heap.size) ∧ Readto w w' g A c F k q 0
theorem readV_end {w0 w w' : World} {g : Nat} {A : Option Addr} {c : Nat} {F : Nat → Prop} {k : List UInt8} {q : Nat} {s : Vt} {cs : List Value} {X : Nat → Prop} {r : Nat}
    (hs : VIn X w' s cs) (hX : ∀ b, X b → r < b ∧ b < w'.heap.size) (ht : Readto w w' g A c F k q 0) (hr : w.heap.size ≤ r) (hg : g < w.heap.size) (hF : ∀ j, F j → j < g) :
    ReadV w g A c F k q s (.returned (.agg cs.toArray)) (w'.setRow r cs.toArray) := by
  have hO : Only (fun j => j = r) w' (w'.setRow r cs.toArray) := only_setRow w' r cs.toArray
  refine ⟨cs, rfl, ⟨X, hs.kept hO.size fun b hb hlt => ⟨hb, hO.block b hlt fun e => ?_⟩, fun b hb => ?_⟩, ⟨ht.rr.only hO (by omega) (fun j hj e => by have := hF j hj; omega), ht.only.trans hO fun j hj e => by omega⟩⟩
  · have := hX b hb; have e' : b = r := e; omega
  · have := hX b hb; have := hO.size; omega
theorem v_one (k n : Int) (s : ByteArray) (a : Option Addr) (la ca : Nat) (b : Option Addr) (lb cb : Nat) (c : Option Addr) (lc cc : Nat) : (#[Value.int .i64 k, .int .i64 n, .string s, .slice a la ca, .slice b lb cb, .slice c lc cc].all fun x : Value => x.oneCell') = true := by simp [Value.oneCell']

/-- The world behind the first region: boxes of the reader and of the depth, and the result. -/
noncomputable abbrev rW (g d : Nat) (w : World) : World := ((w.alloc (.cells #[.pointer (some ⟨g, 0, none⟩)] 99)).alloc (.cells #[.int .i64 (d : Int)] 3)).alloc (.cells #[.int .i64 0, .int .i64 0, .string { data := #[] }, .slice none 0 0, .slice none 0 0, .slice none 0 0] 28)
theorem rW_0 (g d : Nat) (w : World) : Row (rW g d w) w.heap.size 99 [.pointer (some ⟨g, 0, none⟩)] := ((Row.new w [.pointer (some ⟨g, 0, none⟩)] 99).alloc _).alloc _
theorem rW_1 (g d : Nat) (w : World) : Row (rW g d w) (w.heap.size + 1) 3 [.int .i64 (d : Int)] := (Row.new1 w (.cells #[.pointer (some ⟨g, 0, none⟩)] 99) [.int .i64 (d : Int)] 3).alloc _
theorem rW_2 (g d : Nat) (w : World) : Row (rW g d w) (w.heap.size + 1 + 1) 28 [.int .i64 0, .int .i64 0, .string { data := #[] }, .slice none 0 0, .slice none 0 0, .slice none 0 0] := Row.new2 w _ _ [.int .i64 0, .int .i64 0, .string { data := #[] }, .slice none 0 0, .slice none 0 0, .slice none 0 0] 28
theorem rW_below (g d : Nat) (w : World) : Below w.heap.size w (rW g d w) := Below.alloc3 w _ _ _
theorem vk_rd {w : World} {B B0 : Nat} {a : Option Addr} {n : Nat} {l : List Value} (h : Rd w (fun g => B ≤ g) a n l) (hB : B0 ≤ B) : Rd w (fun b => B0 ≤ b ∧ b < w.heap.size) a n l := ⟨h.1, fun hn => by
  obtain ⟨ad, e, hx, hlt, hc⟩ := h.2 hn
  exact ⟨ad, e, ⟨Nat.le_trans hB hx, hlt⟩, hlt, hc⟩⟩
theorem vk_px {w : World} {B B0 s : Nat} {c : Option Addr} {n : Nat} {css : Nat → List Value} (h : PartsX (fun g => B ≤ g) w s c n css) (hB : B0 ≤ B) : PartsX (fun b => B0 ≤ b ∧ b < w.heap.size) w s c n css := fun hn => by
  obtain ⟨ad, e, hx, hlt, hc⟩ := h hn
  exact ⟨ad, e, ⟨Nat.le_trans hB hx, hlt⟩, hlt, hc⟩
theorem readto_setc {g : Nat} {A : Option Addr} {c : Nat} {F : Nat → Prop} {k : List UInt8} {q : Nat} {d : Int} {w w' : World} (h : Readto w w' g A c F k q d) {p : Addr} (hp : w.heap.size ≤ p.block) (hg : g < w.heap.size) (hF : ∀ j, F j → j < g) (u : Value) : Readto w (w'.setCell p u) g A c F k q d := by
  have hO : Only (fun b => b = p.block) w' (w'.setCell p u) := Only.setCell (S := fun b => b = p.block) (Only.refl _ _) (.inl rfl) u
  exact ⟨h.rr.only hO (by omega) (fun j hj e => by have := hF j hj; omega), h.only.trans hO fun j hj e => by omega⟩
theorem words_size {l : List ByteArray} (h : ∀ i, i < l.length → (nth l i).size ≤ 64) : ∀ x ∈ l, x.size ≤ maxLen := fun x hx => by
  obtain ⟨i, hi, rfl⟩ := List.getElem_of_mem hx
  have := h i hi
  unfold nth at this
  simp [hi] at this
  unfold maxLen
  omega
section
variable (g : Nat) (A : Option Addr) (c : Nat) (F : Nat → Prop) (k : List UInt8)
theorem nasked_ (p : Nat) (s : ByteArray) (R : List UInt8) (w : World) (h : Rr w g A c F k p 0) (hk : k.drop p = enc s.size ++ (s.data.toList ++ R)) (hs : nameB s = true) :
    Calls Tryz.prog 167 #[.pointer (some ⟨g, 0, none⟩), .func (.func 168) #[] #[], .func (.func 119) #[] #[]] w fun e w' => e = .returned (.string s) ∧ Readto w w' g A c F k (p + ((enc s.size).length + s.size)) 0 := by
  have hsz := nameB_sz hs
  have HR := Lib.hid (sread_any g A c F k p s R w h hk (by omega))
  have hn := fun wx => vname_any s (by unfold maxLen; omega) wx
  simp only [hs] at hn
  have HA := Lib.hid hn
  clear h hk hs hn
  go_enter Tryz.func167, Tryz.ntmps167
  go_wp2_with fail
  refine HR.out.mono ?_
  rintro e W1 ⟨rfl, hto⟩
  have HT := Lib.hid hto
  clear hto
  go_wp2_with fail
  refine (HA.out W1).mono ?_
  rintro e W2 ⟨rfl, rfl⟩
  go_wp2_with fail
  go_ret
  exact ⟨rfl, HT.out⟩
theorem nword_ (p : Nat) (s : ByteArray) (R : List UInt8) (w : World) (h : Rr w g A c F k p 0) (hk : k.drop p = enc s.size ++ (s.data.toList ++ R)) (hs : nameB s = true) :
    Calls Tryz.prog 130 #[.pointer (some ⟨g, 0, none⟩), .func (.func 119) #[] #[]] w fun e w' => e = .returned (.string s) ∧ Readto w w' g A c F k (p + ((enc s.size).length + s.size)) 0 := by
  have HA := Lib.hid (nasked_ g A c F k p s R w h hk hs)
  clear h hk hs
  go_enter Tryz.func130, Tryz.ntmps130
  go_wp2_with fail
  refine HA.out.mono ?_
  rintro e W1 ⟨rfl, hto⟩
  have HT := Lib.hid hto
  clear hto
  go_wp2_with fail
  go_ret
  exact ⟨rfl, HT.out⟩
/-- Contract of reading at a depth. -/
def ReadsAt (s : Vt) (d : Nat) : Prop := ∀ (p : Nat) (R : List UInt8) (w : World), Rr w g A c F k p 0 → k.drop p = s.bytes ++ R →
  Calls Tryz.prog 98 #[.pointer (some ⟨g, 0, none⟩), .int .i64 (d : Int)] w (ReadV w g A c F k (p + s.bytes.length) s)

set_option maxHeartbeats 1600000 in
theorem readpart_any (hF : ∀ j, F j → j < g) (s : Vt) (d : Nat) (hd : d ≤ 1000) (H : ReadsAt g A c F k s (d + 1)) (b0 b1 p : Nat) (R : List UInt8) (w : World) (h : Rr w g A c F k p 0) (hk : k.drop p = s.bytes ++ R)
    (h0 : w.cell? ⟨b0, 0, none⟩ = some (.pointer (some ⟨g, 0, none⟩))) (h1 : w.cell? ⟨b1, 0, none⟩ = some (.int .i64 (d : Int))) :
    Calls Tryz.prog 135 #[.pointer (some ⟨b0, 0, none⟩), .pointer (some ⟨b1, 0, none⟩)] w (ReadV w g A c F k (p + s.bytes.length) s) := by
  have hgl := h.lt
  have HC := Lib.hid (H p R (w.alloc (.cells #[.int .i64 0, .int .i64 0, .string { data := #[] }, .slice none 0 0, .slice none 0 0, .slice none 0 0] 28)) (h.below (below_new w _)) hk)
  have HR := Lib.hid (Row.new w [.int .i64 0, .int .i64 0, .string { data := #[] }, .slice none 0 0, .slice none 0 0, .slice none 0 0] 28)
  have bd : (d : Int) ≤ 1000 := by omega
  have bd0 : (0 : Int) ≤ (d : Int) := by omega
  have ed : ((d + 1 : Nat) : Int) = (d : Int) + 1 := by omega
  rw [ed] at HC
  have HFF := Lib.hid hF
  have l0 := lt_of_cell h0
  have l1 := lt_of_cell h1
  have h0' := ((below_new w (.cells #[.int .i64 0, .int .i64 0, .string { data := #[] }, .slice none 0 0, .slice none 0 0, .slice none 0 0] 28)).cell (p := ⟨b0, 0, none⟩) l0).trans h0
  have h1' := ((below_new w (.cells #[.int .i64 0, .int .i64 0, .string { data := #[] }, .slice none 0 0, .slice none 0 0, .slice none 0 0] 28)).cell (p := ⟨b1, 0, none⟩) l1).trans h1
  clear h hk H hF ed h0 h1
  go_enter Tryz.func135, Tryz.ntmps135
  go_wp2_with fail
  refine HC.out.mono ?_
  rintro e W1 ⟨cs, rfl, ⟨X, hX, hXb⟩, hto⟩
  have hr1 : Row W1 w.heap.size 28 [.int .i64 0, .int .i64 0, .string { data := #[] }, .slice none 0 0, .slice none 0 0, .slice none 0 0] := HR.out.only hto.only (by omega)
  have HR1 := Lib.hid hr1
  have HE := Lib.hid (readV_end (w0 := w) hX (r := w.heap.size) (fun b hb => by have := hXb b hb; simp at this; omega) (readto_from hto) (Nat.le_refl _) hgl HFF.out)
  obtain ⟨kd, nd, sd, ad, lad, cad, bd2, lbd, cbd, ed2, led, ced, rfl⟩ := hX.form
  clear hX hXb hto hr1
  go_wp2_with (refine wpList_store_row rfl 28 (.tmp 2) (.tmp 6) rfl w.heap.size #[.int .i64 kd, .int .i64 nd, .string sd, .slice ad lad cad, .slice bd2 lbd cbd, .slice ed2 led ced] rfl rfl 28 _ HR1.out (v_info (cs := [.int .i64 0, .int .i64 0, .string { data := #[] }, .slice none 0 0, .slice none 0 0, .slice none 0 0]) rfl) rfl (v_one _ _ _ _ _ _ _ _ _ _ _ _) ?_)
  have hgot : (W1.setRow w.heap.size #[.int .i64 kd, .int .i64 nd, .string sd, .slice ad lad cad, .slice bd2 lbd cbd, .slice ed2 led ced]).heap[w.heap.size]? = some (.cells #[.int .i64 kd, .int .i64 nd, .string sd, .slice ad lad cad, .slice bd2 lbd cbd, .slice ed2 led ced] 28 (0, 0)) := setRow_heap W1 _ _ _ _ _ HR1.out
  (try simp only [Exit.inBlock, Exit.then])
  refine bodyPost_ret (results_cell_row (by rfl) _ _ w.heap.size _ _ _ _ (by rfl) hgot Tryz.underlying28 rfl (v_info (cs := [.int .i64 kd, .int .i64 nd, .string sd, .slice ad lad cad, .slice bd2 lbd cbd, .slice ed2 led ced]) rfl)) rfl ?_
  exact HE.out

set_option maxHeartbeats 3200000 in
theorem zread_10 (hF : ∀ j, F j → j < g) (d : Nat) (hd : d ≤ 5) (parts : Nat → Vt) (p : Nat) (R : List UInt8) (w : World) (h : Rr w g A c F k p 0) (hk : k.drop p = [1] ++ ([0] ++ R)) :
    Calls Tryz.prog 98 #[.pointer (some ⟨g, 0, none⟩), .int .i64 (d : Int)] w (ReadV w g A c F k (p + 1 + 1) (.mk 1 0 { data := #[] } [] [] 0 parts)) := by
  have hgl := h.lt
  have HB := Lib.hid (show Calls Tryz.prog 92 #[.pointer (some ⟨g, 0, none⟩)] (rW g d w) fun e w' => e = .returned (.int .u8 1) ∧ Readto (rW g d w) w' g A c F k (p + 1) 0 from by
    have h1 := rbyte_ok g A c F k p (rW g d w) (h.below (rW_below g d w))
    rw [rbyte_at (x := 1) hk] at h1
    exact h1)
  have HK := Lib.hid (show k.drop (p + 1) = _ from drop_more hk)
  have HFF := Lib.hid hF
  have bd : ¬ (5 : Int) < (d : Int) := by omega
  have bd0 : (0 : Int) ≤ (d : Int) := by omega
  have bd1 : (d : Int) ≤ 5 := by omega
  have R0 := Lib.hid (rW_0 g d w)
  have R1 := Lib.hid (rW_1 g d w)
  have R2 := Lib.hid (rW_2 g d w)
  have RB := Lib.hid (rW_below g d w)
  clear h hk hF
  go_enter Tryz.func98, Tryz.ntmps98
  go_wp2_with fail
  refine HB.out.mono ?_
  rintro e W1 ⟨rfl, hto⟩
  have hs3 : (rW g d w).heap.size = w.heap.size + 1 + 1 + 1 := by simp
  have hsz := hto.only.size
  rw [hs3] at hsz
  have r0 := R0.out.only hto.only (by omega)
  have r1 := R1.out.only hto.only (by omega)
  have r2 := R2.out.only hto.only (by omega)
  have HT1 := Lib.hid (readto_new (hto.after RB.out) (.cells #[.int .i64 1, .int .i64 0, .string { data := #[] }, .slice none 0 0, .slice none 0 0, .slice none 0 0] 28))
  have HR0 := Lib.hid (r0.alloc (.cells #[.int .i64 1, .int .i64 0, .string { data := #[] }, .slice none 0 0, .slice none 0 0, .slice none 0 0] 28))
  have HR1 := Lib.hid (r1.alloc (.cells #[.int .i64 1, .int .i64 0, .string { data := #[] }, .slice none 0 0, .slice none 0 0, .slice none 0 0] 28))
  have HR2 := Lib.hid (r2.alloc (.cells #[.int .i64 1, .int .i64 0, .string { data := #[] }, .slice none 0 0, .slice none 0 0, .slice none 0 0] 28))
  have HN := Lib.hid (Row.new W1 [.int .i64 1, .int .i64 0, .string { data := #[] }, .slice none 0 0, .slice none 0 0, .slice none 0 0] 28)
  have n0 := HN.out.cell (k := 0) rfl
  have c0 := HR0.out.cell (k := 0) rfl
  clear hto r0 r1 r2
  have HC := Lib.hid ((show Calls Tryz.prog 136 #[.pointer (some ⟨g, 0, none⟩)] (W1.alloc (.cells #[.int .i64 1, .int .i64 0, .string { data := #[] }, .slice none 0 0, .slice none 0 0, .slice none 0 0] 28)) fun e w' => e = .returned (.bool false) ∧ Readto (W1.alloc (.cells #[.int .i64 1, .int .i64 0, .string { data := #[] }, .slice none 0 0, .slice none 0 0, .slice none 0 0] 28)) w' g A c F k (p + 1 + 1) 0 from by
    have h1 := rbool_ok g A c F k (p + 1) _ HT1.out.rr
    rw [rbool_at (x := 0) HK.out (by decide)] at h1
    exact h1))
  go_wp2_with fail
  refine HC.out.mono ?_
  rintro e W3 ⟨rfl, hto2⟩
  have hs2 : (W1.alloc (.cells #[.int .i64 1, .int .i64 0, .string { data := #[] }, .slice none 0 0, .slice none 0 0, .slice none 0 0] 28)).heap.size = W1.heap.size + 1 := by simp
  have hs23 := hto2.only.size
  rw [hs2] at hs23
  have hn3 := HN.out.only hto2.only (by omega)
  have HR23 := Lib.hid (HR2.out.only hto2.only (by omega))
  have n3 := hn3.cell (k := 1) rfl
  have n3f := hn3.free 1
  have HT3 := Lib.hid (readto_trans HT1.out hto2)
  have HLD := Lib.hid hn3
  have HRES := HR23
  have HE := Lib.hid (readV_end (w0 := w) (VIn.bare (fun _ => False) W3 1 0 ({ data := #[] } : ByteArray) parts (by decide) (by decide) (by decide)) (r := w.heap.size + 1 + 1) (fun b hb => hb.elim) HT3.out (by omega) hgl HFF.out)
  clear hto2 hn3
  go_wp2_with (first | (refine wpList_load_row rfl 28 (.tmp 5) rfl W1.heap.size rfl 28 _ (0, 0) _ HLD.out Tryz.underlying28 rfl (v_info (cs := [.int .i64 1, .int .i64 0, .string { data := #[] }, .slice none 0 0, .slice none 0 0, .slice none 0 0]) rfl) ?_) | (refine wpList_store_row rfl 28 (.tmp 4) (.tmp 60) rfl (w.heap.size + 1 + 1) #[.int .i64 1, .int .i64 0, .string { data := #[] }, .slice none 0 0, .slice none 0 0, .slice none 0 0] rfl rfl 28 _ HRES.out (v_info (cs := [.int .i64 0, .int .i64 0, .string { data := #[] }, .slice none 0 0, .slice none 0 0, .slice none 0 0]) rfl) rfl (v_one _ _ _ _ _ _ _ _ _ _ _ _) ?_))
  have hgot : (W3.setRow (w.heap.size + 1 + 1) #[.int .i64 1, .int .i64 0, .string { data := #[] }, .slice none 0 0, .slice none 0 0, .slice none 0 0]).heap[w.heap.size + 1 + 1]? = some (.cells #[.int .i64 1, .int .i64 0, .string { data := #[] }, .slice none 0 0, .slice none 0 0, .slice none 0 0] 28 (0, 0)) := setRow_heap W3 _ _ _ _ _ HRES.out
  (try simp only [Exit.inBlock, Exit.then])
  refine bodyPost_ret (results_cell_row (by rfl) _ _ (w.heap.size + 1 + 1) _ _ _ _ (by rfl) hgot Tryz.underlying28 rfl (v_info (cs := [.int .i64 1, .int .i64 0, .string { data := #[] }, .slice none 0 0, .slice none 0 0, .slice none 0 0]) rfl)) rfl ?_
  exact HE.out

set_option maxHeartbeats 3200000 in
theorem zread_11 (hF : ∀ j, F j → j < g) (d : Nat) (hd : d ≤ 5) (parts : Nat → Vt) (p : Nat) (R : List UInt8) (w : World) (h : Rr w g A c F k p 0) (hk : k.drop p = [1] ++ ([1] ++ R)) :
    Calls Tryz.prog 98 #[.pointer (some ⟨g, 0, none⟩), .int .i64 (d : Int)] w (ReadV w g A c F k (p + 1 + 1) (.mk 1 1 { data := #[] } [] [] 0 parts)) := by
  have hgl := h.lt
  have HB := Lib.hid (show Calls Tryz.prog 92 #[.pointer (some ⟨g, 0, none⟩)] (rW g d w) fun e w' => e = .returned (.int .u8 1) ∧ Readto (rW g d w) w' g A c F k (p + 1) 0 from by
    have h1 := rbyte_ok g A c F k p (rW g d w) (h.below (rW_below g d w))
    rw [rbyte_at (x := 1) hk] at h1
    exact h1)
  have HK := Lib.hid (show k.drop (p + 1) = _ from drop_more hk)
  have HFF := Lib.hid hF
  have bd : ¬ (5 : Int) < (d : Int) := by omega
  have bd0 : (0 : Int) ≤ (d : Int) := by omega
  have bd1 : (d : Int) ≤ 5 := by omega
  have R0 := Lib.hid (rW_0 g d w)
  have R1 := Lib.hid (rW_1 g d w)
  have R2 := Lib.hid (rW_2 g d w)
  have RB := Lib.hid (rW_below g d w)
  clear h hk hF
  go_enter Tryz.func98, Tryz.ntmps98
  go_wp2_with fail
  refine HB.out.mono ?_
  rintro e W1 ⟨rfl, hto⟩
  have hs3 : (rW g d w).heap.size = w.heap.size + 1 + 1 + 1 := by simp
  have hsz := hto.only.size
  rw [hs3] at hsz
  have r0 := R0.out.only hto.only (by omega)
  have r1 := R1.out.only hto.only (by omega)
  have r2 := R2.out.only hto.only (by omega)
  have HT1 := Lib.hid (readto_new (hto.after RB.out) (.cells #[.int .i64 1, .int .i64 0, .string { data := #[] }, .slice none 0 0, .slice none 0 0, .slice none 0 0] 28))
  have HR0 := Lib.hid (r0.alloc (.cells #[.int .i64 1, .int .i64 0, .string { data := #[] }, .slice none 0 0, .slice none 0 0, .slice none 0 0] 28))
  have HR1 := Lib.hid (r1.alloc (.cells #[.int .i64 1, .int .i64 0, .string { data := #[] }, .slice none 0 0, .slice none 0 0, .slice none 0 0] 28))
  have HR2 := Lib.hid (r2.alloc (.cells #[.int .i64 1, .int .i64 0, .string { data := #[] }, .slice none 0 0, .slice none 0 0, .slice none 0 0] 28))
  have HN := Lib.hid (Row.new W1 [.int .i64 1, .int .i64 0, .string { data := #[] }, .slice none 0 0, .slice none 0 0, .slice none 0 0] 28)
  have n0 := HN.out.cell (k := 0) rfl
  have c0 := HR0.out.cell (k := 0) rfl
  clear hto r0 r1 r2
  have HC := Lib.hid ((show Calls Tryz.prog 136 #[.pointer (some ⟨g, 0, none⟩)] (W1.alloc (.cells #[.int .i64 1, .int .i64 0, .string { data := #[] }, .slice none 0 0, .slice none 0 0, .slice none 0 0] 28)) fun e w' => e = .returned (.bool true) ∧ Readto (W1.alloc (.cells #[.int .i64 1, .int .i64 0, .string { data := #[] }, .slice none 0 0, .slice none 0 0, .slice none 0 0] 28)) w' g A c F k (p + 1 + 1) 0 from by
    have h1 := rbool_ok g A c F k (p + 1) _ HT1.out.rr
    rw [rbool_at (x := 1) HK.out (by decide)] at h1
    exact h1))
  go_wp2_with fail
  refine HC.out.mono ?_
  rintro e W3 ⟨rfl, hto2⟩
  have hs2 : (W1.alloc (.cells #[.int .i64 1, .int .i64 0, .string { data := #[] }, .slice none 0 0, .slice none 0 0, .slice none 0 0] 28)).heap.size = W1.heap.size + 1 := by simp
  have hs23 := hto2.only.size
  rw [hs2] at hs23
  have hn3 := HN.out.only hto2.only (by omega)
  have HR23 := Lib.hid (HR2.out.only hto2.only (by omega))
  have n3 := hn3.cell (k := 1) rfl
  have n3f := hn3.free 1
  have HT3 := Lib.hid (readto_setc (readto_trans HT1.out hto2) (p := ⟨W1.heap.size, 1, none⟩) (show w.heap.size ≤ W1.heap.size by omega) hgl HFF.out (.int .i64 1))
  have HLD := Lib.hid (show Row (W3.setCell ⟨W1.heap.size, 1, none⟩ (.int .i64 1)) W1.heap.size 28 [.int .i64 1, .int .i64 1, .string { data := #[] }, .slice none 0 0, .slice none 0 0, .slice none 0 0] from hn3.set 1 _)
  have HRES := Lib.hid (show Row (W3.setCell ⟨W1.heap.size, 1, none⟩ (.int .i64 1)) (w.heap.size + 1 + 1) 28 [.int .i64 0, .int .i64 0, .string { data := #[] }, .slice none 0 0, .slice none 0 0, .slice none 0 0] from
    HR23.out.only (Only.setCell (S := fun b => b = W1.heap.size) (Only.refl _ _) (.inl rfl) _) (by omega))
  have HE := Lib.hid (readV_end (w0 := w) (VIn.bare (fun _ => False) (W3.setCell ⟨W1.heap.size, 1, none⟩ (.int .i64 1)) 1 1 ({ data := #[] } : ByteArray) parts (by decide) (by decide) (by decide)) (r := w.heap.size + 1 + 1) (fun b hb => hb.elim) HT3.out (by omega) hgl HFF.out)
  clear hto2 hn3
  go_wp2_with (first | (refine wpList_load_row rfl 28 (.tmp 5) rfl W1.heap.size rfl 28 _ (0, 0) _ HLD.out Tryz.underlying28 rfl (v_info (cs := [.int .i64 1, .int .i64 1, .string { data := #[] }, .slice none 0 0, .slice none 0 0, .slice none 0 0]) rfl) ?_) | (refine wpList_store_row rfl 28 (.tmp 4) (.tmp 60) rfl (w.heap.size + 1 + 1) #[.int .i64 1, .int .i64 1, .string { data := #[] }, .slice none 0 0, .slice none 0 0, .slice none 0 0] rfl rfl 28 _ HRES.out (v_info (cs := [.int .i64 0, .int .i64 0, .string { data := #[] }, .slice none 0 0, .slice none 0 0, .slice none 0 0]) rfl) rfl (v_one _ _ _ _ _ _ _ _ _ _ _ _) ?_))
  have hgot : ((W3.setCell ⟨W1.heap.size, 1, none⟩ (.int .i64 1)).setRow (w.heap.size + 1 + 1) #[.int .i64 1, .int .i64 1, .string { data := #[] }, .slice none 0 0, .slice none 0 0, .slice none 0 0]).heap[w.heap.size + 1 + 1]? = some (.cells #[.int .i64 1, .int .i64 1, .string { data := #[] }, .slice none 0 0, .slice none 0 0, .slice none 0 0] 28 (0, 0)) := setRow_heap (W3.setCell ⟨W1.heap.size, 1, none⟩ (.int .i64 1)) _ _ _ _ _ HRES.out
  (try simp only [Exit.inBlock, Exit.then])
  refine bodyPost_ret (results_cell_row (by rfl) _ _ (w.heap.size + 1 + 1) _ _ _ _ (by rfl) hgot Tryz.underlying28 rfl (v_info (cs := [.int .i64 1, .int .i64 1, .string { data := #[] }, .slice none 0 0, .slice none 0 0, .slice none 0 0]) rfl)) rfl ?_
  exact HE.out

set_option maxHeartbeats 3200000 in
theorem zread_2 (hF : ∀ j, F j → j < g) (d : Nat) (hd : d ≤ 5) (n : Int) (parts : Nat → Vt) (hnw : (Lit.int .i64 n).wf = true) (p : Nat) (R : List UInt8) (w : World) (h : Rr w g A c F k p 0) (hk : k.drop p = [2] ++ (enc (zig n) ++ R)) :
    Calls Tryz.prog 98 #[.pointer (some ⟨g, 0, none⟩), .int .i64 (d : Int)] w (ReadV w g A c F k (p + 1 + (enc (zig n)).length) (.mk 2 n { data := #[] } [] [] 0 parts)) := by
  have hgl := h.lt
  have HB := Lib.hid (show Calls Tryz.prog 92 #[.pointer (some ⟨g, 0, none⟩)] (rW g d w) fun e w' => e = .returned (.int .u8 2) ∧ Readto (rW g d w) w' g A c F k (p + 1) 0 from by
    have h1 := rbyte_ok g A c F k p (rW g d w) (h.below (rW_below g d w))
    rw [rbyte_at (x := 2) hk] at h1
    exact h1)
  have HK := Lib.hid (show k.drop (p + 1) = _ from drop_more hk)
  have HFF := Lib.hid hF
  have bd : ¬ (5 : Int) < (d : Int) := by omega
  have bd0 : (0 : Int) ≤ (d : Int) := by omega
  have bd1 : (d : Int) ≤ 5 := by omega
  have R0 := Lib.hid (rW_0 g d w)
  have R1 := Lib.hid (rW_1 g d w)
  have R2 := Lib.hid (rW_2 g d w)
  have RB := Lib.hid (rW_below g d w)
  clear h hk hF
  have hz := zig_lt (wf_i64_le hnw).1 (wf_i64_le hnw).2
  go_enter Tryz.func98, Tryz.ntmps98
  go_wp2_with fail
  refine HB.out.mono ?_
  rintro e W1 ⟨rfl, hto⟩
  have hs3 : (rW g d w).heap.size = w.heap.size + 1 + 1 + 1 := by simp
  have hsz := hto.only.size
  rw [hs3] at hsz
  have r0 := R0.out.only hto.only (by omega)
  have r1 := R1.out.only hto.only (by omega)
  have r2 := R2.out.only hto.only (by omega)
  have HT1 := Lib.hid (readto_new (hto.after RB.out) (.cells #[.int .i64 2, .int .i64 0, .string { data := #[] }, .slice none 0 0, .slice none 0 0, .slice none 0 0] 28))
  have HR0 := Lib.hid (r0.alloc (.cells #[.int .i64 2, .int .i64 0, .string { data := #[] }, .slice none 0 0, .slice none 0 0, .slice none 0 0] 28))
  have HR1 := Lib.hid (r1.alloc (.cells #[.int .i64 2, .int .i64 0, .string { data := #[] }, .slice none 0 0, .slice none 0 0, .slice none 0 0] 28))
  have HR2 := Lib.hid (r2.alloc (.cells #[.int .i64 2, .int .i64 0, .string { data := #[] }, .slice none 0 0, .slice none 0 0, .slice none 0 0] 28))
  have HN := Lib.hid (Row.new W1 [.int .i64 2, .int .i64 0, .string { data := #[] }, .slice none 0 0, .slice none 0 0, .slice none 0 0] 28)
  have n0 := HN.out.cell (k := 0) rfl
  have c0 := HR0.out.cell (k := 0) rfl
  clear hto r0 r1 r2
  have HC := Lib.hid ((show Calls Tryz.prog 137 #[.pointer (some ⟨g, 0, none⟩)] (W1.alloc (.cells #[.int .i64 2, .int .i64 0, .string { data := #[] }, .slice none 0 0, .slice none 0 0, .slice none 0 0] 28)) fun e w' => e = .returned (.int .i64 n) ∧ Readto (W1.alloc (.cells #[.int .i64 2, .int .i64 0, .string { data := #[] }, .slice none 0 0, .slice none 0 0, .slice none 0 0] 28)) w' g A c F k (p + 1 + (enc (zig n)).length) 0 from by
    have h1 := rint_any g A c F k (p + 1) _ HT1.out.rr
    rw [rint_at HK.out hz] at h1
    exact h1))
  go_wp2_with fail
  refine HC.out.mono ?_
  rintro e W3 ⟨rfl, hto2⟩
  have hs2 : (W1.alloc (.cells #[.int .i64 2, .int .i64 0, .string { data := #[] }, .slice none 0 0, .slice none 0 0, .slice none 0 0] 28)).heap.size = W1.heap.size + 1 := by simp
  have hs23 := hto2.only.size
  rw [hs2] at hs23
  have hn3 := HN.out.only hto2.only (by omega)
  have HR23 := Lib.hid (HR2.out.only hto2.only (by omega))
  have n3 := hn3.cell (k := 1) rfl
  have n3f := hn3.free 1
  have HT3 := Lib.hid (readto_setc (readto_trans HT1.out hto2) (p := ⟨W1.heap.size, 1, none⟩) (show w.heap.size ≤ W1.heap.size by omega) hgl HFF.out (.int .i64 n))
  have HLD := Lib.hid (show Row (W3.setCell ⟨W1.heap.size, 1, none⟩ (.int .i64 n)) W1.heap.size 28 [.int .i64 2, .int .i64 n, .string { data := #[] }, .slice none 0 0, .slice none 0 0, .slice none 0 0] from hn3.set 1 _)
  have HRES := Lib.hid (show Row (W3.setCell ⟨W1.heap.size, 1, none⟩ (.int .i64 n)) (w.heap.size + 1 + 1) 28 [.int .i64 0, .int .i64 0, .string { data := #[] }, .slice none 0 0, .slice none 0 0, .slice none 0 0] from
    HR23.out.only (Only.setCell (S := fun b => b = W1.heap.size) (Only.refl _ _) (.inl rfl) _) (by omega))
  have HE := Lib.hid (readV_end (w0 := w) (VIn.bare (fun _ => False) (W3.setCell ⟨W1.heap.size, 1, none⟩ (.int .i64 n)) 2 n ({ data := #[] } : ByteArray) parts (by decide) hnw (by decide)) (r := w.heap.size + 1 + 1) (fun b hb => hb.elim) HT3.out (by omega) hgl HFF.out)
  clear hto2 hn3
  go_wp2_with (first | (refine wpList_load_row rfl 28 (.tmp 5) rfl W1.heap.size rfl 28 _ (0, 0) _ HLD.out Tryz.underlying28 rfl (v_info (cs := [.int .i64 2, .int .i64 n, .string { data := #[] }, .slice none 0 0, .slice none 0 0, .slice none 0 0]) rfl) ?_) | (refine wpList_store_row rfl 28 (.tmp 4) (.tmp 60) rfl (w.heap.size + 1 + 1) #[.int .i64 2, .int .i64 n, .string { data := #[] }, .slice none 0 0, .slice none 0 0, .slice none 0 0] rfl rfl 28 _ HRES.out (v_info (cs := [.int .i64 0, .int .i64 0, .string { data := #[] }, .slice none 0 0, .slice none 0 0, .slice none 0 0]) rfl) rfl (v_one _ _ _ _ _ _ _ _ _ _ _ _) ?_))
  have hgot : ((W3.setCell ⟨W1.heap.size, 1, none⟩ (.int .i64 n)).setRow (w.heap.size + 1 + 1) #[.int .i64 2, .int .i64 n, .string { data := #[] }, .slice none 0 0, .slice none 0 0, .slice none 0 0]).heap[w.heap.size + 1 + 1]? = some (.cells #[.int .i64 2, .int .i64 n, .string { data := #[] }, .slice none 0 0, .slice none 0 0, .slice none 0 0] 28 (0, 0)) := setRow_heap (W3.setCell ⟨W1.heap.size, 1, none⟩ (.int .i64 n)) _ _ _ _ _ HRES.out
  (try simp only [Exit.inBlock, Exit.then])
  refine bodyPost_ret (results_cell_row (by rfl) _ _ (w.heap.size + 1 + 1) _ _ _ _ (by rfl) hgot Tryz.underlying28 rfl (v_info (cs := [.int .i64 2, .int .i64 n, .string { data := #[] }, .slice none 0 0, .slice none 0 0, .slice none 0 0]) rfl)) rfl ?_
  exact HE.out

set_option maxHeartbeats 3200000 in
theorem zread_3 (hF : ∀ j, F j → j < g) (d : Nat) (hd : d ≤ 5) (s : ByteArray) (parts : Nat → Vt) (hs : s.size ≤ 64) (p : Nat) (R : List UInt8) (w : World) (h : Rr w g A c F k p 0) (hk : k.drop p = [3] ++ (enc s.size ++ (s.data.toList ++ R))) :
    Calls Tryz.prog 98 #[.pointer (some ⟨g, 0, none⟩), .int .i64 (d : Int)] w (ReadV w g A c F k (p + 1 + ((enc s.size).length + s.size)) (.mk 3 0 s [] [] 0 parts)) := by
  have hgl := h.lt
  have HB := Lib.hid (show Calls Tryz.prog 92 #[.pointer (some ⟨g, 0, none⟩)] (rW g d w) fun e w' => e = .returned (.int .u8 3) ∧ Readto (rW g d w) w' g A c F k (p + 1) 0 from by
    have h1 := rbyte_ok g A c F k p (rW g d w) (h.below (rW_below g d w))
    rw [rbyte_at (x := 3) hk] at h1
    exact h1)
  have HK := Lib.hid (show k.drop (p + 1) = _ from drop_more hk)
  have HFF := Lib.hid hF
  have bd : ¬ (5 : Int) < (d : Int) := by omega
  have bd0 : (0 : Int) ≤ (d : Int) := by omega
  have bd1 : (d : Int) ≤ 5 := by omega
  have R0 := Lib.hid (rW_0 g d w)
  have R1 := Lib.hid (rW_1 g d w)
  have R2 := Lib.hid (rW_2 g d w)
  have RB := Lib.hid (rW_below g d w)
  clear h hk hF
  go_enter Tryz.func98, Tryz.ntmps98
  go_wp2_with fail
  refine HB.out.mono ?_
  rintro e W1 ⟨rfl, hto⟩
  have hs3 : (rW g d w).heap.size = w.heap.size + 1 + 1 + 1 := by simp
  have hsz := hto.only.size
  rw [hs3] at hsz
  have r0 := R0.out.only hto.only (by omega)
  have r1 := R1.out.only hto.only (by omega)
  have r2 := R2.out.only hto.only (by omega)
  have HT1 := Lib.hid (readto_new (hto.after RB.out) (.cells #[.int .i64 3, .int .i64 0, .string { data := #[] }, .slice none 0 0, .slice none 0 0, .slice none 0 0] 28))
  have HR0 := Lib.hid (r0.alloc (.cells #[.int .i64 3, .int .i64 0, .string { data := #[] }, .slice none 0 0, .slice none 0 0, .slice none 0 0] 28))
  have HR1 := Lib.hid (r1.alloc (.cells #[.int .i64 3, .int .i64 0, .string { data := #[] }, .slice none 0 0, .slice none 0 0, .slice none 0 0] 28))
  have HR2 := Lib.hid (r2.alloc (.cells #[.int .i64 3, .int .i64 0, .string { data := #[] }, .slice none 0 0, .slice none 0 0, .slice none 0 0] 28))
  have HN := Lib.hid (Row.new W1 [.int .i64 3, .int .i64 0, .string { data := #[] }, .slice none 0 0, .slice none 0 0, .slice none 0 0] 28)
  have n0 := HN.out.cell (k := 0) rfl
  have c0 := HR0.out.cell (k := 0) rfl
  clear hto r0 r1 r2
  have HC := Lib.hid ((show Calls Tryz.prog 138 #[.pointer (some ⟨g, 0, none⟩), .int .i64 64] (W1.alloc (.cells #[.int .i64 3, .int .i64 0, .string { data := #[] }, .slice none 0 0, .slice none 0 0, .slice none 0 0] 28)) fun e w' => e = .returned (.string s) ∧ Readto (W1.alloc (.cells #[.int .i64 3, .int .i64 0, .string { data := #[] }, .slice none 0 0, .slice none 0 0, .slice none 0 0] 28)) w' g A c F k (p + 1 + ((enc s.size).length + s.size)) 0 from by
    have hsl : s.data.toList.length = s.size := by simp
    have h1 := rtext_any g A c F k (p + 1) 64 _ HT1.out.rr (by omega)
    rw [rbytes_at (b := s.data.toList) (R := R) (by rw [hsl]; exact HK.out) (by omega) (by omega), hsl, bytes_text] at h1
    exact h1))
  go_wp2_with fail
  refine HC.out.mono ?_
  rintro e W3 ⟨rfl, hto2⟩
  have hs2 : (W1.alloc (.cells #[.int .i64 3, .int .i64 0, .string { data := #[] }, .slice none 0 0, .slice none 0 0, .slice none 0 0] 28)).heap.size = W1.heap.size + 1 := by simp
  have hs23 := hto2.only.size
  rw [hs2] at hs23
  have hn3 := HN.out.only hto2.only (by omega)
  have HR23 := Lib.hid (HR2.out.only hto2.only (by omega))
  have n3 := hn3.cell (k := 2) rfl
  have n3f := hn3.free 2
  have HT3 := Lib.hid (readto_setc (readto_trans HT1.out hto2) (p := ⟨W1.heap.size, 2, none⟩) (show w.heap.size ≤ W1.heap.size by omega) hgl HFF.out (.string s))
  have HLD := Lib.hid (show Row (W3.setCell ⟨W1.heap.size, 2, none⟩ (.string s)) W1.heap.size 28 [.int .i64 3, .int .i64 0, .string s, .slice none 0 0, .slice none 0 0, .slice none 0 0] from hn3.set 2 _)
  have HRES := Lib.hid (show Row (W3.setCell ⟨W1.heap.size, 2, none⟩ (.string s)) (w.heap.size + 1 + 1) 28 [.int .i64 0, .int .i64 0, .string { data := #[] }, .slice none 0 0, .slice none 0 0, .slice none 0 0] from
    HR23.out.only (Only.setCell (S := fun b => b = W1.heap.size) (Only.refl _ _) (.inl rfl) _) (by omega))
  have HE := Lib.hid (readV_end (w0 := w) (VIn.bare (fun _ => False) (W3.setCell ⟨W1.heap.size, 2, none⟩ (.string s)) 3 0 s parts (by decide) (by decide) (by unfold maxLen; omega)) (r := w.heap.size + 1 + 1) (fun b hb => hb.elim) HT3.out (by omega) hgl HFF.out)
  clear hto2 hn3
  go_wp2_with (first | (refine wpList_load_row rfl 28 (.tmp 5) rfl W1.heap.size rfl 28 _ (0, 0) _ HLD.out Tryz.underlying28 rfl (v_info (cs := [.int .i64 3, .int .i64 0, .string s, .slice none 0 0, .slice none 0 0, .slice none 0 0]) rfl) ?_) | (refine wpList_store_row rfl 28 (.tmp 4) (.tmp 60) rfl (w.heap.size + 1 + 1) #[.int .i64 3, .int .i64 0, .string s, .slice none 0 0, .slice none 0 0, .slice none 0 0] rfl rfl 28 _ HRES.out (v_info (cs := [.int .i64 0, .int .i64 0, .string { data := #[] }, .slice none 0 0, .slice none 0 0, .slice none 0 0]) rfl) rfl (v_one _ _ _ _ _ _ _ _ _ _ _ _) ?_))
  have hgot : ((W3.setCell ⟨W1.heap.size, 2, none⟩ (.string s)).setRow (w.heap.size + 1 + 1) #[.int .i64 3, .int .i64 0, .string s, .slice none 0 0, .slice none 0 0, .slice none 0 0]).heap[w.heap.size + 1 + 1]? = some (.cells #[.int .i64 3, .int .i64 0, .string s, .slice none 0 0, .slice none 0 0, .slice none 0 0] 28 (0, 0)) := setRow_heap (W3.setCell ⟨W1.heap.size, 2, none⟩ (.string s)) _ _ _ _ _ HRES.out
  (try simp only [Exit.inBlock, Exit.then])
  refine bodyPost_ret (results_cell_row (by rfl) _ _ (w.heap.size + 1 + 1) _ _ _ _ (by rfl) hgot Tryz.underlying28 rfl (v_info (cs := [.int .i64 3, .int .i64 0, .string s, .slice none 0 0, .slice none 0 0, .slice none 0 0]) rfl)) rfl ?_
  exact HE.out

set_option maxHeartbeats 3200000 in
theorem zread_4 (hF : ∀ j, F j → j < g) (d : Nat) (hd : d ≤ 5) (s : ByteArray) (parts : Nat → Vt) (hnm : nameB s = true) (p : Nat) (R : List UInt8) (w : World) (h : Rr w g A c F k p 0) (hk : k.drop p = [4] ++ (enc s.size ++ (s.data.toList ++ R))) :
    Calls Tryz.prog 98 #[.pointer (some ⟨g, 0, none⟩), .int .i64 (d : Int)] w (ReadV w g A c F k (p + 1 + ((enc s.size).length + s.size)) (.mk 4 0 s [] [] 0 parts)) := by
  have hgl := h.lt
  have HB := Lib.hid (show Calls Tryz.prog 92 #[.pointer (some ⟨g, 0, none⟩)] (rW g d w) fun e w' => e = .returned (.int .u8 4) ∧ Readto (rW g d w) w' g A c F k (p + 1) 0 from by
    have h1 := rbyte_ok g A c F k p (rW g d w) (h.below (rW_below g d w))
    rw [rbyte_at (x := 4) hk] at h1
    exact h1)
  have HK := Lib.hid (show k.drop (p + 1) = _ from drop_more hk)
  have HFF := Lib.hid hF
  have bd : ¬ (5 : Int) < (d : Int) := by omega
  have bd0 : (0 : Int) ≤ (d : Int) := by omega
  have bd1 : (d : Int) ≤ 5 := by omega
  have R0 := Lib.hid (rW_0 g d w)
  have R1 := Lib.hid (rW_1 g d w)
  have R2 := Lib.hid (rW_2 g d w)
  have RB := Lib.hid (rW_below g d w)
  clear h hk hF
  go_enter Tryz.func98, Tryz.ntmps98
  go_wp2_with fail
  refine HB.out.mono ?_
  rintro e W1 ⟨rfl, hto⟩
  have hs3 : (rW g d w).heap.size = w.heap.size + 1 + 1 + 1 := by simp
  have hsz := hto.only.size
  rw [hs3] at hsz
  have r0 := R0.out.only hto.only (by omega)
  have r1 := R1.out.only hto.only (by omega)
  have r2 := R2.out.only hto.only (by omega)
  have HT1 := Lib.hid (readto_new (hto.after RB.out) (.cells #[.int .i64 4, .int .i64 0, .string { data := #[] }, .slice none 0 0, .slice none 0 0, .slice none 0 0] 28))
  have HR0 := Lib.hid (r0.alloc (.cells #[.int .i64 4, .int .i64 0, .string { data := #[] }, .slice none 0 0, .slice none 0 0, .slice none 0 0] 28))
  have HR1 := Lib.hid (r1.alloc (.cells #[.int .i64 4, .int .i64 0, .string { data := #[] }, .slice none 0 0, .slice none 0 0, .slice none 0 0] 28))
  have HR2 := Lib.hid (r2.alloc (.cells #[.int .i64 4, .int .i64 0, .string { data := #[] }, .slice none 0 0, .slice none 0 0, .slice none 0 0] 28))
  have HN := Lib.hid (Row.new W1 [.int .i64 4, .int .i64 0, .string { data := #[] }, .slice none 0 0, .slice none 0 0, .slice none 0 0] 28)
  have n0 := HN.out.cell (k := 0) rfl
  have c0 := HR0.out.cell (k := 0) rfl
  clear hto r0 r1 r2
  have HC := Lib.hid (nword_ g A c F k (p + 1) s R _ HT1.out.rr HK.out hnm)
  go_wp2_with fail
  refine HC.out.mono ?_
  rintro e W3 ⟨rfl, hto2⟩
  have hs2 : (W1.alloc (.cells #[.int .i64 4, .int .i64 0, .string { data := #[] }, .slice none 0 0, .slice none 0 0, .slice none 0 0] 28)).heap.size = W1.heap.size + 1 := by simp
  have hs23 := hto2.only.size
  rw [hs2] at hs23
  have hn3 := HN.out.only hto2.only (by omega)
  have HR23 := Lib.hid (HR2.out.only hto2.only (by omega))
  have n3 := hn3.cell (k := 2) rfl
  have n3f := hn3.free 2
  have HT3 := Lib.hid (readto_setc (readto_trans HT1.out hto2) (p := ⟨W1.heap.size, 2, none⟩) (show w.heap.size ≤ W1.heap.size by omega) hgl HFF.out (.string s))
  have HLD := Lib.hid (show Row (W3.setCell ⟨W1.heap.size, 2, none⟩ (.string s)) W1.heap.size 28 [.int .i64 4, .int .i64 0, .string s, .slice none 0 0, .slice none 0 0, .slice none 0 0] from hn3.set 2 _)
  have HRES := Lib.hid (show Row (W3.setCell ⟨W1.heap.size, 2, none⟩ (.string s)) (w.heap.size + 1 + 1) 28 [.int .i64 0, .int .i64 0, .string { data := #[] }, .slice none 0 0, .slice none 0 0, .slice none 0 0] from
    HR23.out.only (Only.setCell (S := fun b => b = W1.heap.size) (Only.refl _ _) (.inl rfl) _) (by omega))
  have HE := Lib.hid (readV_end (w0 := w) (VIn.bare (fun _ => False) (W3.setCell ⟨W1.heap.size, 2, none⟩ (.string s)) 4 0 s parts (by decide) (by decide) (by have := nameB_sz hnm; unfold maxLen; omega)) (r := w.heap.size + 1 + 1) (fun b hb => hb.elim) HT3.out (by omega) hgl HFF.out)
  clear hto2 hn3
  go_wp2_with (first | (refine wpList_load_row rfl 28 (.tmp 5) rfl W1.heap.size rfl 28 _ (0, 0) _ HLD.out Tryz.underlying28 rfl (v_info (cs := [.int .i64 4, .int .i64 0, .string s, .slice none 0 0, .slice none 0 0, .slice none 0 0]) rfl) ?_) | (refine wpList_store_row rfl 28 (.tmp 4) (.tmp 60) rfl (w.heap.size + 1 + 1) #[.int .i64 4, .int .i64 0, .string s, .slice none 0 0, .slice none 0 0, .slice none 0 0] rfl rfl 28 _ HRES.out (v_info (cs := [.int .i64 0, .int .i64 0, .string { data := #[] }, .slice none 0 0, .slice none 0 0, .slice none 0 0]) rfl) rfl (v_one _ _ _ _ _ _ _ _ _ _ _ _) ?_))
  have hgot : ((W3.setCell ⟨W1.heap.size, 2, none⟩ (.string s)).setRow (w.heap.size + 1 + 1) #[.int .i64 4, .int .i64 0, .string s, .slice none 0 0, .slice none 0 0, .slice none 0 0]).heap[w.heap.size + 1 + 1]? = some (.cells #[.int .i64 4, .int .i64 0, .string s, .slice none 0 0, .slice none 0 0, .slice none 0 0] 28 (0, 0)) := setRow_heap (W3.setCell ⟨W1.heap.size, 2, none⟩ (.string s)) _ _ _ _ _ HRES.out
  (try simp only [Exit.inBlock, Exit.then])
  refine bodyPost_ret (results_cell_row (by rfl) _ _ (w.heap.size + 1 + 1) _ _ _ _ (by rfl) hgot Tryz.underlying28 rfl (v_info (cs := [.int .i64 4, .int .i64 0, .string s, .slice none 0 0, .slice none 0 0, .slice none 0 0]) rfl)) rfl ?_
  exact HE.out

set_option maxHeartbeats 3200000 in
theorem zread_5 (hF : ∀ j, F j → j < g) (d : Nat) (hd : d ≤ 5) (names : List ByteArray) (parts : Nat → Vt) (hw8 : names.length ≤ 8) (hri : riseB names = true) (H : ∀ j, j < names.length → ReadsAt g A c F k (parts j) (d + 1)) (p : Nat) (R : List UInt8) (w : World) (h : Rr w g A c F k p 0) (hk : k.drop p = [5] ++ (enc names.length ++ (fsB names parts names.length ++ R))) :
    Calls Tryz.prog 98 #[.pointer (some ⟨g, 0, none⟩), .int .i64 (d : Int)] w (ReadV w g A c F k (p + 1 + ((enc names.length).length + (fsB names parts names.length).length)) (.mk 5 0 { data := #[] } names [] names.length parts)) := by
  have hgl := h.lt
  have HB := Lib.hid (show Calls Tryz.prog 92 #[.pointer (some ⟨g, 0, none⟩)] (rW g d w) fun e w' => e = .returned (.int .u8 5) ∧ Readto (rW g d w) w' g A c F k (p + 1) 0 from by
    have h1 := rbyte_ok g A c F k p (rW g d w) (h.below (rW_below g d w))
    rw [rbyte_at (x := 5) hk] at h1
    exact h1)
  have HK := Lib.hid (show k.drop (p + 1) = _ from drop_more hk)
  have HFF := Lib.hid hF
  have bd : ¬ (5 : Int) < (d : Int) := by omega
  have bd0 : (0 : Int) ≤ (d : Int) := by omega
  have bd1 : (d : Int) ≤ 5 := by omega
  have R0 := Lib.hid (rW_0 g d w)
  have R1 := Lib.hid (rW_1 g d w)
  have R2 := Lib.hid (rW_2 g d w)
  have RB := Lib.hid (rW_below g d w)
  clear h hk hF
  have HWS := Lib.hid (words_size fun i hi => riseB_size hri hi)
  have HWD := Lib.hid hri
  have HH := Lib.hid H
  clear hri H
  go_enter Tryz.func98, Tryz.ntmps98
  go_wp2_with fail
  refine HB.out.mono ?_
  rintro e W1 ⟨rfl, hto⟩
  have hs3 : (rW g d w).heap.size = w.heap.size + 1 + 1 + 1 := by simp
  have hsz := hto.only.size
  rw [hs3] at hsz
  have r0 := R0.out.only hto.only (by omega)
  have r1 := R1.out.only hto.only (by omega)
  have r2 := R2.out.only hto.only (by omega)
  have HT1 := Lib.hid (readto_new (hto.after RB.out) (.cells #[.int .i64 5, .int .i64 0, .string { data := #[] }, .slice none 0 0, .slice none 0 0, .slice none 0 0] 28))
  have HR0 := Lib.hid (r0.alloc (.cells #[.int .i64 5, .int .i64 0, .string { data := #[] }, .slice none 0 0, .slice none 0 0, .slice none 0 0] 28))
  have HR1 := Lib.hid (r1.alloc (.cells #[.int .i64 5, .int .i64 0, .string { data := #[] }, .slice none 0 0, .slice none 0 0, .slice none 0 0] 28))
  have HR2 := Lib.hid (r2.alloc (.cells #[.int .i64 5, .int .i64 0, .string { data := #[] }, .slice none 0 0, .slice none 0 0, .slice none 0 0] 28))
  have HN := Lib.hid (Row.new W1 [.int .i64 5, .int .i64 0, .string { data := #[] }, .slice none 0 0, .slice none 0 0, .slice none 0 0] 28)
  have n0 := HN.out.cell (k := 0) rfl
  have c0 := HR0.out.cell (k := 0) rfl
  clear hto r0 r1 r2
  have c1 := HR1.out.cell (k := 0) rfl
  have HC := Lib.hid (sfread_any g A c F k (p + 1) names parts R 135 Tryz.f135 #[.pointer (some ⟨w.heap.size, 0, none⟩), .pointer (some ⟨w.heap.size + 1, 0, none⟩)] _ HT1.out.rr Tryz.func135 (by kernel_rfl) (by rfl) HK.out hw8 HWD.out HFF.out
    (fun j hj w' p' R' ho hrr hk' => (readpart_any g A c F k HFF.out (parts j) d (by omega) (HH.out j hj) w.heap.size (w.heap.size + 1) p' R' w' hrr hk' ((HR0.out.only ho (by omega)).cell (k := 0) rfl) ((HR1.out.only ho (by omega)).cell (k := 0) rfl)).mono fun _ _ h => h))
  go_wp2_with fail
  refine HC.out.mono ?_
  rintro e W3 ⟨v, u, css, rfl, hrf⟩
  have hrow := hrf.row
  rw [List.take_length] at hrow
  have hl3 : ∀ j, j < names.length → (css j).length = 6 := fun j hj => by
    obtain ⟨X, hX, _⟩ := hrf.pin j hj
    exact hX.length
  have hprow := hrf.prow
  have HPIN := Lib.hid hrf.pin
  obtain ⟨a, ca, rfl, _, hcap, _⟩ := own_rd hrow
  obtain ⟨b, cb, rfl, _, hcapb⟩ := own_parts hl3 hprow
  have hto2 := hrf.rd
  have hs2 : (W1.alloc (.cells #[.int .i64 5, .int .i64 0, .string { data := #[] }, .slice none 0 0, .slice none 0 0, .slice none 0 0] 28)).heap.size = W1.heap.size + 1 := by simp
  have hs23 := hto2.only.size
  rw [hs2] at hs23 hrow hprow
  have hn3 := HN.out.only hto2.only (by omega)
  have hn4 : Row (W3.setCell ⟨W1.heap.size, 3, none⟩ (.slice a names.length ca)) W1.heap.size 28 [.int .i64 5, .int .i64 0, .string { data := #[] }, .slice a names.length ca, .slice none 0 0, .slice none 0 0] := hn3.set 3 _
  have hn5 : Row ((W3.setCell ⟨W1.heap.size, 3, none⟩ (.slice a names.length ca)).setCell ⟨W1.heap.size, 5, none⟩ (.slice b names.length cb)) W1.heap.size 28 [.int .i64 5, .int .i64 0, .string { data := #[] }, .slice a names.length ca, .slice none 0 0, .slice b names.length cb] := hn4.set 5 _
  have HLD := Lib.hid hn5
  have HR23 := Lib.hid (HR2.out.only hto2.only (by omega))
  have HT3 := Lib.hid (readto_setc (readto_setc (readto_trans HT1.out hto2) (p := ⟨W1.heap.size, 3, none⟩) (show w.heap.size ≤ W1.heap.size by omega) hgl HFF.out (.slice a names.length ca)) (p := ⟨W1.heap.size, 5, none⟩) (show w.heap.size ≤ W1.heap.size by omega) hgl HFF.out (.slice b names.length cb))
  have HOW := Lib.hid (own_set_ (own_set_ hrow (p := ⟨W1.heap.size, 3, none⟩) (show W1.heap.size < _ by omega) (.slice a names.length ca)) (p := ⟨W1.heap.size, 5, none⟩) (show W1.heap.size < _ by omega) (.slice b names.length cb))
  have HOP := Lib.hid (own_set_ (own_set_ hprow (p := ⟨W1.heap.size, 3, none⟩) (show W1.heap.size < _ by omega) (.slice a names.length ca)) (p := ⟨W1.heap.size, 5, none⟩) (show W1.heap.size < _ by omega) (.slice b names.length cb))
  have n31 := hn3.cell (k := 3) rfl
  have n3f := hn3.free 3
  have n42 := hn4.cell (k := 5) rfl
  have n4f := hn4.free 5
  have hO35 : Only (fun q => q = W1.heap.size) W3 ((W3.setCell ⟨W1.heap.size, 3, none⟩ (.slice a names.length ca)).setCell ⟨W1.heap.size, 5, none⟩ (.slice b names.length cb)) := Only.setCell (S := fun q => q = W1.heap.size) (Only.setCell (S := fun q => q = W1.heap.size) (Only.refl _ _) (.inl rfl) _) (.inl rfl) _
  have HRES := Lib.hid (HR23.out.only hO35 (by omega))
  have hsz5 : ((W3.setCell ⟨W1.heap.size, 3, none⟩ (.slice a names.length ca)).setCell ⟨W1.heap.size, 5, none⟩ (.slice b names.length cb)).heap.size = W3.heap.size := by simp
  have HE := Lib.hid (readV_end (w0 := w) (VIn.mk (X := fun q => W1.heap.size + 1 ≤ q ∧ q < ((W3.setCell ⟨W1.heap.size, 3, none⟩ (.slice a names.length ca)).setCell ⟨W1.heap.size, 5, none⟩ (.slice b names.length cb)).heap.size) (k := 5) (n := 0) (s := { data := #[] }) (names := names) (ids := []) (b := none) (lb := 0) (cb := 0) (len := names.length) (parts := parts) css (by decide) (by decide) (by decide)
    (vk_rd (by obtain ⟨a', c', e, h, _⟩ := own_rd HOW.out; cases e; exact h) (by omega)) hcap HWS.out (Rd.nil _ _ _) ⟨Nat.le_refl _, Nat.zero_le _⟩ (fun _ h => by cases h) (vk_px (by obtain ⟨a', c', e, h, _⟩ := own_parts hl3 HOP.out; cases e; exact h) (by omega)) hcapb
    (fun j hj => by
      obtain ⟨X, hX, hXb⟩ := HPIN.out j hj
      rw [hs2] at hXb
      exact hX.kept hO35.size fun q hq hlt => ⟨⟨by have := hXb q hq; omega, by have := hXb q hq; omega⟩, hO35.block q hlt (by have := hXb q hq; omega)⟩)) (r := w.heap.size + 1 + 1) (fun q hq => ⟨by omega, hq.2⟩) HT3.out (by omega) hgl HFF.out)
  clear hto2 hrow hprow hrf hn3 hn4 hn5 hO35
  go_wp2_with (first | (refine wpList_load_row rfl 28 (.tmp 5) rfl W1.heap.size rfl 28 _ (0, 0) _ HLD.out Tryz.underlying28 rfl (v_info (cs := [.int .i64 5, .int .i64 0, .string { data := #[] }, .slice a names.length ca, .slice none 0 0, .slice b names.length cb]) rfl) ?_) | (refine wpList_store_row rfl 28 (.tmp 4) (.tmp 60) rfl (w.heap.size + 1 + 1) #[.int .i64 5, .int .i64 0, .string { data := #[] }, .slice a names.length ca, .slice none 0 0, .slice b names.length cb] rfl rfl 28 _ HRES.out (v_info (cs := [.int .i64 0, .int .i64 0, .string { data := #[] }, .slice none 0 0, .slice none 0 0, .slice none 0 0]) rfl) rfl (v_one _ _ _ _ _ _ _ _ _ _ _ _) ?_))
  have hgot : (((W3.setCell ⟨W1.heap.size, 3, none⟩ (.slice a names.length ca)).setCell ⟨W1.heap.size, 5, none⟩ (.slice b names.length cb)).setRow (w.heap.size + 1 + 1) #[.int .i64 5, .int .i64 0, .string { data := #[] }, .slice a names.length ca, .slice none 0 0, .slice b names.length cb]).heap[w.heap.size + 1 + 1]? = some (.cells #[.int .i64 5, .int .i64 0, .string { data := #[] }, .slice a names.length ca, .slice none 0 0, .slice b names.length cb] 28 (0, 0)) := setRow_heap ((W3.setCell ⟨W1.heap.size, 3, none⟩ (.slice a names.length ca)).setCell ⟨W1.heap.size, 5, none⟩ (.slice b names.length cb)) _ _ _ _ _ HRES.out
  (try simp only [Exit.inBlock, Exit.then])
  refine bodyPost_ret (results_cell_row (by rfl) _ _ (w.heap.size + 1 + 1) _ _ _ _ (by rfl) hgot Tryz.underlying28 rfl (v_info (cs := [.int .i64 5, .int .i64 0, .string { data := #[] }, .slice a names.length ca, .slice none 0 0, .slice b names.length cb]) rfl)) rfl ?_
  exact HE.out

set_option maxHeartbeats 3200000 in
theorem zread_6 (hF : ∀ j, F j → j < g) (d : Nat) (hd : d ≤ 5) (ids : List Int) (parts : Nat → Vt) (hw8 : ids.length ≤ 12) (hri : idsB ids = true) (hwf : ∀ x ∈ ids, (Lit.int .u64 x).wf = true) (H : ∀ j, j < ids.length → ReadsAt g A c F k (parts j) (d + 1)) (p : Nat) (R : List UInt8) (w : World) (h : Rr w g A c F k p 0) (hk : k.drop p = [6] ++ (enc ids.length ++ (esB ids parts ids.length ++ R))) :
    Calls Tryz.prog 98 #[.pointer (some ⟨g, 0, none⟩), .int .i64 (d : Int)] w (ReadV w g A c F k (p + 1 + ((enc ids.length).length + (esB ids parts ids.length).length)) (.mk 6 0 { data := #[] } [] ids ids.length parts)) := by
  have hgl := h.lt
  have HB := Lib.hid (show Calls Tryz.prog 92 #[.pointer (some ⟨g, 0, none⟩)] (rW g d w) fun e w' => e = .returned (.int .u8 6) ∧ Readto (rW g d w) w' g A c F k (p + 1) 0 from by
    have h1 := rbyte_ok g A c F k p (rW g d w) (h.below (rW_below g d w))
    rw [rbyte_at (x := 6) hk] at h1
    exact h1)
  have HK := Lib.hid (show k.drop (p + 1) = _ from drop_more hk)
  have HFF := Lib.hid hF
  have bd : ¬ (5 : Int) < (d : Int) := by omega
  have bd0 : (0 : Int) ≤ (d : Int) := by omega
  have bd1 : (d : Int) ≤ 5 := by omega
  have R0 := Lib.hid (rW_0 g d w)
  have R1 := Lib.hid (rW_1 g d w)
  have R2 := Lib.hid (rW_2 g d w)
  have RB := Lib.hid (rW_below g d w)
  clear h hk hF
  have HWS := Lib.hid hwf
  have HWD := Lib.hid hri
  have HH := Lib.hid H
  clear hri H hwf
  go_enter Tryz.func98, Tryz.ntmps98
  go_wp2_with fail
  refine HB.out.mono ?_
  rintro e W1 ⟨rfl, hto⟩
  have hs3 : (rW g d w).heap.size = w.heap.size + 1 + 1 + 1 := by simp
  have hsz := hto.only.size
  rw [hs3] at hsz
  have r0 := R0.out.only hto.only (by omega)
  have r1 := R1.out.only hto.only (by omega)
  have r2 := R2.out.only hto.only (by omega)
  have HT1 := Lib.hid (readto_new (hto.after RB.out) (.cells #[.int .i64 6, .int .i64 0, .string { data := #[] }, .slice none 0 0, .slice none 0 0, .slice none 0 0] 28))
  have HR0 := Lib.hid (r0.alloc (.cells #[.int .i64 6, .int .i64 0, .string { data := #[] }, .slice none 0 0, .slice none 0 0, .slice none 0 0] 28))
  have HR1 := Lib.hid (r1.alloc (.cells #[.int .i64 6, .int .i64 0, .string { data := #[] }, .slice none 0 0, .slice none 0 0, .slice none 0 0] 28))
  have HR2 := Lib.hid (r2.alloc (.cells #[.int .i64 6, .int .i64 0, .string { data := #[] }, .slice none 0 0, .slice none 0 0, .slice none 0 0] 28))
  have HN := Lib.hid (Row.new W1 [.int .i64 6, .int .i64 0, .string { data := #[] }, .slice none 0 0, .slice none 0 0, .slice none 0 0] 28)
  have n0 := HN.out.cell (k := 0) rfl
  have c0 := HR0.out.cell (k := 0) rfl
  clear hto r0 r1 r2
  have c1 := HR1.out.cell (k := 0) rfl
  have HC := Lib.hid (eread_any g A c F k (p + 1) ids parts R 135 Tryz.f135 #[.pointer (some ⟨w.heap.size, 0, none⟩), .pointer (some ⟨w.heap.size + 1, 0, none⟩)] _ HT1.out.rr Tryz.func135 (by kernel_rfl) (by rfl) HK.out hw8 HWD.out HWS.out HFF.out
    (fun j hj w' p' R' ho hrr hk' => (readpart_any g A c F k HFF.out (parts j) d (by omega) (HH.out j hj) w.heap.size (w.heap.size + 1) p' R' w' hrr hk' ((HR0.out.only ho (by omega)).cell (k := 0) rfl) ((HR1.out.only ho (by omega)).cell (k := 0) rfl)).mono fun _ _ h => h))
  go_wp2_with fail
  refine HC.out.mono ?_
  rintro e W3 ⟨v, u, css, rfl, hrf⟩
  have hrow := hrf.row
  rw [List.take_length] at hrow
  have hl3 : ∀ j, j < ids.length → (css j).length = 6 := fun j hj => by
    obtain ⟨X, hX, _⟩ := hrf.pin j hj
    exact hX.length
  have hprow := hrf.prow
  have HPIN := Lib.hid hrf.pin
  obtain ⟨a, ca, rfl, _, hcap, _⟩ := own_rd hrow
  obtain ⟨b, cb, rfl, _, hcapb⟩ := own_parts hl3 hprow
  have hto2 := hrf.rd
  have hs2 : (W1.alloc (.cells #[.int .i64 6, .int .i64 0, .string { data := #[] }, .slice none 0 0, .slice none 0 0, .slice none 0 0] 28)).heap.size = W1.heap.size + 1 := by simp
  have hs23 := hto2.only.size
  rw [hs2] at hs23 hrow hprow
  have hn3 := HN.out.only hto2.only (by omega)
  have hn4 : Row (W3.setCell ⟨W1.heap.size, 4, none⟩ (.slice a ids.length ca)) W1.heap.size 28 [.int .i64 6, .int .i64 0, .string { data := #[] }, .slice none 0 0, .slice a ids.length ca, .slice none 0 0] := hn3.set 4 _
  have hn5 : Row ((W3.setCell ⟨W1.heap.size, 4, none⟩ (.slice a ids.length ca)).setCell ⟨W1.heap.size, 5, none⟩ (.slice b ids.length cb)) W1.heap.size 28 [.int .i64 6, .int .i64 0, .string { data := #[] }, .slice none 0 0, .slice a ids.length ca, .slice b ids.length cb] := hn4.set 5 _
  have HLD := Lib.hid hn5
  have HR23 := Lib.hid (HR2.out.only hto2.only (by omega))
  have HT3 := Lib.hid (readto_setc (readto_setc (readto_trans HT1.out hto2) (p := ⟨W1.heap.size, 4, none⟩) (show w.heap.size ≤ W1.heap.size by omega) hgl HFF.out (.slice a ids.length ca)) (p := ⟨W1.heap.size, 5, none⟩) (show w.heap.size ≤ W1.heap.size by omega) hgl HFF.out (.slice b ids.length cb))
  have HOW := Lib.hid (own_set_ (own_set_ hrow (p := ⟨W1.heap.size, 4, none⟩) (show W1.heap.size < _ by omega) (.slice a ids.length ca)) (p := ⟨W1.heap.size, 5, none⟩) (show W1.heap.size < _ by omega) (.slice b ids.length cb))
  have HOP := Lib.hid (own_set_ (own_set_ hprow (p := ⟨W1.heap.size, 4, none⟩) (show W1.heap.size < _ by omega) (.slice a ids.length ca)) (p := ⟨W1.heap.size, 5, none⟩) (show W1.heap.size < _ by omega) (.slice b ids.length cb))
  have n31 := hn3.cell (k := 4) rfl
  have n3f := hn3.free 4
  have n42 := hn4.cell (k := 5) rfl
  have n4f := hn4.free 5
  have hO35 : Only (fun q => q = W1.heap.size) W3 ((W3.setCell ⟨W1.heap.size, 4, none⟩ (.slice a ids.length ca)).setCell ⟨W1.heap.size, 5, none⟩ (.slice b ids.length cb)) := Only.setCell (S := fun q => q = W1.heap.size) (Only.setCell (S := fun q => q = W1.heap.size) (Only.refl _ _) (.inl rfl) _) (.inl rfl) _
  have HRES := Lib.hid (HR23.out.only hO35 (by omega))
  have hsz5 : ((W3.setCell ⟨W1.heap.size, 4, none⟩ (.slice a ids.length ca)).setCell ⟨W1.heap.size, 5, none⟩ (.slice b ids.length cb)).heap.size = W3.heap.size := by simp
  have HE := Lib.hid (readV_end (w0 := w) (VIn.mk (X := fun q => W1.heap.size + 1 ≤ q ∧ q < ((W3.setCell ⟨W1.heap.size, 4, none⟩ (.slice a ids.length ca)).setCell ⟨W1.heap.size, 5, none⟩ (.slice b ids.length cb)).heap.size) (k := 6) (n := 0) (s := { data := #[] }) (names := []) (ids := ids) (a := none) (la := 0) (ca := 0) (len := ids.length) (parts := parts) css (by decide) (by decide) (by decide)
    (Rd.nil _ _ _) ⟨Nat.le_refl _, Nat.zero_le _⟩ (fun _ h => by cases h) (vk_rd (by obtain ⟨a', c', e, h, _⟩ := own_rd HOW.out; cases e; exact h) (by omega)) hcap HWS.out (vk_px (by obtain ⟨a', c', e, h, _⟩ := own_parts hl3 HOP.out; cases e; exact h) (by omega)) hcapb
    (fun j hj => by
      obtain ⟨X, hX, hXb⟩ := HPIN.out j hj
      rw [hs2] at hXb
      exact hX.kept hO35.size fun q hq hlt => ⟨⟨by have := hXb q hq; omega, by have := hXb q hq; omega⟩, hO35.block q hlt (by have := hXb q hq; omega)⟩)) (r := w.heap.size + 1 + 1) (fun q hq => ⟨by omega, hq.2⟩) HT3.out (by omega) hgl HFF.out)
  clear hto2 hrow hprow hrf hn3 hn4 hn5 hO35
  go_wp2_with (first | (refine wpList_load_row rfl 28 (.tmp 5) rfl W1.heap.size rfl 28 _ (0, 0) _ HLD.out Tryz.underlying28 rfl (v_info (cs := [.int .i64 6, .int .i64 0, .string { data := #[] }, .slice none 0 0, .slice a ids.length ca, .slice b ids.length cb]) rfl) ?_) | (refine wpList_store_row rfl 28 (.tmp 4) (.tmp 60) rfl (w.heap.size + 1 + 1) #[.int .i64 6, .int .i64 0, .string { data := #[] }, .slice none 0 0, .slice a ids.length ca, .slice b ids.length cb] rfl rfl 28 _ HRES.out (v_info (cs := [.int .i64 0, .int .i64 0, .string { data := #[] }, .slice none 0 0, .slice none 0 0, .slice none 0 0]) rfl) rfl (v_one _ _ _ _ _ _ _ _ _ _ _ _) ?_))
  have hgot : (((W3.setCell ⟨W1.heap.size, 4, none⟩ (.slice a ids.length ca)).setCell ⟨W1.heap.size, 5, none⟩ (.slice b ids.length cb)).setRow (w.heap.size + 1 + 1) #[.int .i64 6, .int .i64 0, .string { data := #[] }, .slice none 0 0, .slice a ids.length ca, .slice b ids.length cb]).heap[w.heap.size + 1 + 1]? = some (.cells #[.int .i64 6, .int .i64 0, .string { data := #[] }, .slice none 0 0, .slice a ids.length ca, .slice b ids.length cb] 28 (0, 0)) := setRow_heap ((W3.setCell ⟨W1.heap.size, 4, none⟩ (.slice a ids.length ca)).setCell ⟨W1.heap.size, 5, none⟩ (.slice b ids.length cb)) _ _ _ _ _ HRES.out
  (try simp only [Exit.inBlock, Exit.then])
  refine bodyPost_ret (results_cell_row (by rfl) _ _ (w.heap.size + 1 + 1) _ _ _ _ (by rfl) hgot Tryz.underlying28 rfl (v_info (cs := [.int .i64 6, .int .i64 0, .string { data := #[] }, .slice none 0 0, .slice a ids.length ca, .slice b ids.length cb]) rfl)) rfl ?_
  exact HE.out

theorem zread_any (hF : ∀ j, F j → j < g) : ∀ (s : Vt) (d : Nat), s.rightAt d = true → s.inn → ReadsAt g A c F k s d := by
  intro s
  induction s with
  | nul => intro d h; simp [Vt.rightAt, Vt.sound] at h
  | mk kk n x names ids len parts ih =>
    intro d hr hin p R w h hk
    obtain ⟨hnw, hiw, hpin⟩ := hin
    rw [Vt.rightAt_mk, Bool.and_eq_true, Bool.and_eq_true, List.all_eq_true] at hr
    obtain ⟨⟨h5, hh⟩, hp⟩ := hr
    have h5 := of_decide_eq_true h5
    rcases headV_cases hh with ⟨rfl, hn01, hx, hnn, hii, rfl⟩ | ⟨rfl, hx, hnn, hii, rfl⟩ | ⟨rfl, rfl, hs64, hnn, hii, rfl⟩ | ⟨rfl, rfl, hnm, hnn, hii, rfl⟩ | ⟨rfl, rfl, hx, hii, h8, rfl, hri⟩ | ⟨rfl, rfl, hx, hnn, h12, rfl, hid⟩
    · obtain rfl := List.eq_nil_of_length_eq_zero hnn
      obtain rfl := List.eq_nil_of_length_eq_zero hii
      obtain rfl := empty_of_size hx
      rw [vbytes_1] at hk ⊢
      rcases hn01 with rfl | rfl
      · exact zread_10 g A c F k hF d h5 parts p R w h hk
      · exact zread_11 g A c F k hF d h5 parts p R w h hk
    · obtain rfl := List.eq_nil_of_length_eq_zero hnn
      obtain rfl := List.eq_nil_of_length_eq_zero hii
      obtain rfl := empty_of_size hx
      rw [vbytes_2] at hk ⊢
      rw [show p + (([2] : List UInt8) ++ enc (zig n)).length = p + 1 + (enc (zig n)).length by simp only [List.length_append, List.length_cons, List.length_nil]; omega]
      exact zread_2 g A c F k hF d h5 n parts hnw p R w h (by rw [hk, List.append_assoc])
    · obtain rfl := List.eq_nil_of_length_eq_zero hnn
      obtain rfl := List.eq_nil_of_length_eq_zero hii
      rw [vbytes_3] at hk ⊢
      rw [show p + (([3] : List UInt8) ++ wB x).length = p + 1 + ((enc x.size).length + x.size) by unfold wB; simp; omega]
      exact zread_3 g A c F k hF d h5 x parts hs64 p R w h (by rw [hk]; unfold wB; simp only [List.append_assoc])
    · obtain rfl := List.eq_nil_of_length_eq_zero hnn
      obtain rfl := List.eq_nil_of_length_eq_zero hii
      rw [vbytes_4] at hk ⊢
      rw [show p + (([4] : List UInt8) ++ wB x).length = p + 1 + ((enc x.size).length + x.size) by unfold wB; simp; omega]
      exact zread_4 g A c F k hF d h5 x parts hnm p R w h (by rw [hk]; unfold wB; simp only [List.append_assoc])
    · obtain rfl := List.eq_nil_of_length_eq_zero hii
      obtain rfl := empty_of_size hx
      rw [vbytes_5] at hk ⊢
      have hk' : k.drop p = [5] ++ (enc names.length ++ (fsB names parts names.length ++ R)) := by rw [hk]; simp only [fsB, List.append_assoc]
      have e : p + ([5] ++ (enc names.length ++ (List.range names.length).flatMap fun i => wB (nth names i) ++ (parts i).bytes)).length = p + 1 + ((enc names.length).length + (fsB names parts names.length).length) := by unfold fsB; simp only [List.length_append, List.length_cons, List.length_nil]; omega
      rw [e]
      exact zread_5 g A c F k hF d h5 names parts h8 hri (fun j hj => ih j (d + 1) (hp j (List.mem_range.2 hj)) (hpin j hj)) p R w h hk'
    · obtain rfl := List.eq_nil_of_length_eq_zero hnn
      obtain rfl := empty_of_size hx
      rw [vbytes_6] at hk ⊢
      have hk' : k.drop p = [6] ++ (enc ids.length ++ (esB ids parts ids.length ++ R)) := by rw [hk]; simp only [esB, List.append_assoc]
      have e : p + ([6] ++ (enc ids.length ++ (List.range ids.length).flatMap fun i => iB ids i ++ (parts i).bytes)).length = p + 1 + ((enc ids.length).length + (esB ids parts ids.length).length) := by unfold esB; simp only [List.length_append, List.length_cons, List.length_nil]; omega
      rw [e]
      exact zread_6 g A c F k hF d h5 ids parts h12 hid hiw (fun j hj => ih j (d + 1) (hp j (List.mem_range.2 hj)) (hpin j hj)) p R w h hk'
end
end

end Go.Proofs.YtmiadkhfjkaidaaGreatDoor
