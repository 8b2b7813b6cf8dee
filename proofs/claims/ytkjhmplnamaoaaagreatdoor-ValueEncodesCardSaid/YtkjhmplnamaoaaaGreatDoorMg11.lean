/- Whether a value is sound: the document (kinds 1 to 4). Whether a value is sound: the document (kind 5). Whether a value is sound: the document (kind 6). Whether a schema is right: the document. Whether a schema is right: the document, all kinds. The document's Right of values, and Fits. -/
import Derived.Test.YtkjhmplnamaoaaaGreatDoorMg10
import Derived.Test.YtkjhmplnamaoaaaGreatDoorMg6
namespace Go.Proofs.YtkjhmplnamaoaaaGreatDoor
section
set_option maxRecDepth 100000
set_option linter.unusedSimpArgs false
set_option linter.unusedVariables false
open Go.RowKit

theorem sz_nil {s : ByteArray} (h : s.size = 0) : s = ByteArray.empty := by
  apply (toL_nil s).1
  have : s.toList.length = 0 := by rw [ByteArray.toList_eq]; simpa using h
  exact List.length_eq_zero_iff.1 this
/-- The first names rise. -/
def ris (l : List ByteArray) (n : Nat) : Bool := (List.range n).all fun i => nameB (nth l i) && (decide (i = 0) || ltS (nth l (i - 1)) (nth l i))
theorem ris_more (l : List ByteArray) (n : Nat) : ris l (n + 1) = (ris l n && (nameB (nth l n) && (decide (n = 0) || ltS (nth l (n - 1)) (nth l n)))) := by
  unfold ris; rw [List.range_succ, List.all_append]; simp
theorem ris_no {l : List ByteArray} {n m : Nat} (h : ris l n = false) (hm : n ≤ m) : ris l m = false := by
  induction hm with
  | refl => exact h
  | step _ ih => rw [ris_more, ih]; rfl
theorem rise_ris (l : List ByteArray) : riseB l = ris l l.length := rfl
/-- The first numbers are not 0 and differ. -/
def idn (l : List Int) (n : Nat) : Bool := (List.range n).all fun i => decide (l.getD i 0 ≠ 0) && (List.range i).all fun j => decide (l.getD i 0 ≠ l.getD j 0)
theorem idn_more (l : List Int) (n : Nat) : idn l (n + 1) = (idn l n && (decide (l.getD n 0 ≠ 0) && (List.range n).all fun j => decide (l.getD n 0 ≠ l.getD j 0))) := by
  unfold idn; rw [List.range_succ, List.all_append]; simp
theorem idn_no {l : List Int} {n m : Nat} (h : idn l n = false) (hm : n ≤ m) : idn l m = false := by
  induction hm with
  | refl => exact h
  | step _ ih => rw [idn_more, ih]; rfl
theorem ids_idn (l : List Int) : idsB l = idn l l.length := rfl
set_option maxHeartbeats 3200000 in
theorem rs_1 (n : Int) (s : ByteArray) (names : List ByteArray) (ids : List Int) (a b c : Option Addr) (la ca lb cb len cc : Nat) (css : Nat → List Value) (ps : Nat → Bool) (hs : s.size ≤ maxLen) (hss : ∀ x ∈ names, x.size ≤ maxLen) (hla : (la : Int) ≤ 9223372036854775807) (hlb : (lb : Int) ≤ 9223372036854775807) (hlc : (len : Int) ≤ 9223372036854775807) (w : World) (h1 : Strs w a la names) (h2 : Nums w b lb ids) (h3 : Parts w 6 c len css)
    (ih : ∀ j, j < len → ∀ w', Below w.heap.size w w' → Calls Tryz.prog 19 #[.agg (css j).toArray] w' fun e w'' => e = .returned (.bool (ps j)) ∧ Below w'.heap.size w' w'') :
    Calls Tryz.prog 19 #[.agg #[.int .i64 1, .int .i64 n, .string s, .slice a la ca, .slice b lb cb, .slice c len cc]] w fun e w' => e = .returned (.bool (headV 1 n s names ids len && allN ps len)) ∧ Below w.heap.size w w' := by
  have hl := Strs.len h1
  have hl2 := Nums.len h2
  have HB0 := Lib.hid (Row.new w [.int .i64 1, .int .i64 n, .string s, .slice a la ca, .slice b lb cb, .slice c len cc] 26)
  have HW := Lib.hid (Below.alloc1 w (.cells #[.int .i64 1, .int .i64 n, .string s, .slice a la ca, .slice b lb cb, .slice c len cc] 26))
  have H1 := Lib.hid h1
  have H2 := Lib.hid h2
  have H3 := Lib.hid h3
  have IH := Lib.hid ih
  have HSS := Lib.hid hss
  clear h1 h2 h3 ih hss
  by_cases hs0 : s = ByteArray.empty
  rotate_left
  · have gs0 : ¬ s.toList = [] := fun h => hs0 ((toL_nil s).1 h)
    have gs1 : (s.toList == []) = false := beq_eq_false_iff_ne.2 gs0
    have gs2 : (s.toList != []) = true := bne_iff_ne.2 gs0
    have gs4 : ¬ s.size = 0 := fun h => hs0 (sz_nil h)
    have HF := Lib.hid (show (headV 1 n s names ids len && allN ps len) = false by unfold headV; simp [hl, hl2, sz0, gs4])
    clear hl hl2 H1 H2 H3 IH HSS HB0
    go_enter Tryz.func19, Tryz.ntmps19
    go_wp2_with fail
    go_ret
    exact ⟨by rw [HF.out]; rfl, HW.out⟩
  subst hs0
  by_cases hla0 : la = 0
  rotate_left
  · have g1 : (la : Int) > 0 := by omega
    have g2 : (0 : Int) < (la : Int) := by omega
    have g3 : 0 < la := by omega
    have HF := Lib.hid (show (headV 1 n ByteArray.empty names ids len && allN ps len) = false by unfold headV; simp [hl, hl2, sz0, hla0])
    clear hl hl2 H1 H2 H3 IH HSS HB0
    go_enter Tryz.func19, Tryz.ntmps19
    go_wp2_with fail
    go_ret
    exact ⟨by rw [HF.out]; rfl, HW.out⟩
  subst hla0
  by_cases hlb0 : lb = 0
  rotate_left
  · have g1 : (lb : Int) > 0 := by omega
    have g2 : (0 : Int) < (lb : Int) := by omega
    have g3 : 0 < lb := by omega
    have HF := Lib.hid (show (headV 1 n ByteArray.empty names ids len && allN ps len) = false by unfold headV; simp [hl, hl2, sz0, hlb0])
    clear hl hl2 H1 H2 H3 IH HSS HB0
    go_enter Tryz.func19, Tryz.ntmps19
    go_wp2_with fail
    go_ret
    exact ⟨by rw [HF.out]; rfl, HW.out⟩
  subst hlb0
  by_cases hn0 : n = 0
  · subst hn0
    by_cases hn1 : len = 0
    rotate_left
    · have g1 : ((len : Int) != 0) = true := bne_iff_ne.2 (by omega)
      have HF := Lib.hid (show (headV 1 0 ByteArray.empty names ids len && allN ps len) = false by unfold headV; simp [hl, hl2, sz0, hn1])
      clear hl hl2 H1 H2 H3 IH HSS HB0
      go_enter Tryz.func19, Tryz.ntmps19
      go_wp2_with fail
      go_ret
      exact ⟨by rw [HF.out]; rfl, HW.out⟩
    subst hn1
    have HF := Lib.hid (show (headV 1 0 ByteArray.empty names ids 0 && allN ps 0) = true by unfold headV; simp [hl, hl2, sz0, allN])
    clear hl hl2 H1 H2 H3 IH HSS
    go_enter Tryz.func19, Tryz.ntmps19
    go_wp2_with fail
    go_loopw [4] (fun i wr => i = .int .i64 0 ∧ Row wr w.heap.size 26 [.int .i64 1, .int .i64 0, .string ByteArray.empty, .slice a 0 ca, .slice b 0 cb, .slice c 0 cc] ∧ Below w.heap.size w wr) (fun i _ => 0)
    case atStart => exact ⟨rfl, HB0.out, HW.out⟩
    case round =>
      obtain ⟨rfl, hb0, hw⟩ := hrel
      have hc4 := hb0.cell (k := 3) (v := .slice a 0 ca) rfl
      have HB4 := Lib.hid hb0
      have HW4 := Lib.hid hw
      clear hb0 hw
      go_wp2_with fail
      go_loopw [5] (fun i wr => i = .int .i64 0 ∧ Row wr w.heap.size 26 [.int .i64 1, .int .i64 0, .string ByteArray.empty, .slice a 0 ca, .slice b 0 cb, .slice c 0 cc] ∧ Below w.heap.size w wr) (fun i _ => 0)
      case atStart => exact ⟨rfl, HB4.out, HW4.out⟩
      case round =>
        obtain ⟨rfl, hb0, hw⟩ := hrel
        have hc5 := hb0.cell (k := 4) (v := .slice b 0 cb) rfl
        have HB5 := Lib.hid hb0
        have HW5 := Lib.hid hw
        clear hb0 hw
        go_wp2_with fail
        go_loopw [7] (fun i wr => i = .int .i64 0 ∧ Row wr w.heap.size 26 [.int .i64 1, .int .i64 0, .string ByteArray.empty, .slice a 0 ca, .slice b 0 cb, .slice c 0 cc] ∧ Below w.heap.size w wr) (fun i _ => 0)
        case atStart => exact ⟨rfl, HB5.out, HW5.out⟩
        case round =>
          obtain ⟨rfl, hb0, hw⟩ := hrel
          have hc7 := hb0.cell (k := 5) (v := .slice c 0 cc) rfl
          have HB7 := Lib.hid hb0
          have HW7 := Lib.hid hw
          clear hb0 hw
          go_wp2_with fail
          go_ret
          exact ⟨by rw [HF.out]; rfl, HW7.out⟩
  by_cases hn1 : n = 1
  · subst hn1
    by_cases hn1 : len = 0
    rotate_left
    · have g1 : ((len : Int) != 0) = true := bne_iff_ne.2 (by omega)
      have HF := Lib.hid (show (headV 1 1 ByteArray.empty names ids len && allN ps len) = false by unfold headV; simp [hl, hl2, sz0, hn1])
      clear hl hl2 H1 H2 H3 IH HSS HB0
      go_enter Tryz.func19, Tryz.ntmps19
      go_wp2_with fail
      go_ret
      exact ⟨by rw [HF.out]; rfl, HW.out⟩
    subst hn1
    have HF := Lib.hid (show (headV 1 1 ByteArray.empty names ids 0 && allN ps 0) = true by unfold headV; simp [hl, hl2, sz0, allN])
    clear hl hl2 H1 H2 H3 IH HSS
    go_enter Tryz.func19, Tryz.ntmps19
    go_wp2_with fail
    go_loopw [4] (fun i wr => i = .int .i64 0 ∧ Row wr w.heap.size 26 [.int .i64 1, .int .i64 1, .string ByteArray.empty, .slice a 0 ca, .slice b 0 cb, .slice c 0 cc] ∧ Below w.heap.size w wr) (fun i _ => 0)
    case atStart => exact ⟨rfl, HB0.out, HW.out⟩
    case round =>
      obtain ⟨rfl, hb0, hw⟩ := hrel
      have hc4 := hb0.cell (k := 3) (v := .slice a 0 ca) rfl
      have HB4 := Lib.hid hb0
      have HW4 := Lib.hid hw
      clear hb0 hw
      go_wp2_with fail
      go_loopw [5] (fun i wr => i = .int .i64 0 ∧ Row wr w.heap.size 26 [.int .i64 1, .int .i64 1, .string ByteArray.empty, .slice a 0 ca, .slice b 0 cb, .slice c 0 cc] ∧ Below w.heap.size w wr) (fun i _ => 0)
      case atStart => exact ⟨rfl, HB4.out, HW4.out⟩
      case round =>
        obtain ⟨rfl, hb0, hw⟩ := hrel
        have hc5 := hb0.cell (k := 4) (v := .slice b 0 cb) rfl
        have HB5 := Lib.hid hb0
        have HW5 := Lib.hid hw
        clear hb0 hw
        go_wp2_with fail
        go_loopw [7] (fun i wr => i = .int .i64 0 ∧ Row wr w.heap.size 26 [.int .i64 1, .int .i64 1, .string ByteArray.empty, .slice a 0 ca, .slice b 0 cb, .slice c 0 cc] ∧ Below w.heap.size w wr) (fun i _ => 0)
        case atStart => exact ⟨rfl, HB5.out, HW5.out⟩
        case round =>
          obtain ⟨rfl, hb0, hw⟩ := hrel
          have hc7 := hb0.cell (k := 5) (v := .slice c 0 cc) rfl
          have HB7 := Lib.hid hb0
          have HW7 := Lib.hid hw
          clear hb0 hw
          go_wp2_with fail
          go_ret
          exact ⟨by rw [HF.out]; rfl, HW7.out⟩
  have gn : (n != 0) = true := bne_iff_ne.2 hn0
  have gn2 : (n != 1) = true := bne_iff_ne.2 hn1
  have HF := Lib.hid (show (headV 1 n ByteArray.empty names ids len && allN ps len) = false by unfold headV; simp [hl, hl2, sz0, hn0, hn1])
  clear hl hl2 H1 H2 H3 IH HSS HB0
  go_enter Tryz.func19, Tryz.ntmps19
  go_wp2_with fail
  go_ret
  exact ⟨by rw [HF.out]; rfl, HW.out⟩
set_option maxHeartbeats 3200000 in
theorem rs_2 (n : Int) (s : ByteArray) (names : List ByteArray) (ids : List Int) (a b c : Option Addr) (la ca lb cb len cc : Nat) (css : Nat → List Value) (ps : Nat → Bool) (hs : s.size ≤ maxLen) (hss : ∀ x ∈ names, x.size ≤ maxLen) (hla : (la : Int) ≤ 9223372036854775807) (hlb : (lb : Int) ≤ 9223372036854775807) (hlc : (len : Int) ≤ 9223372036854775807) (w : World) (h1 : Strs w a la names) (h2 : Nums w b lb ids) (h3 : Parts w 6 c len css)
    (ih : ∀ j, j < len → ∀ w', Below w.heap.size w w' → Calls Tryz.prog 19 #[.agg (css j).toArray] w' fun e w'' => e = .returned (.bool (ps j)) ∧ Below w'.heap.size w' w'') :
    Calls Tryz.prog 19 #[.agg #[.int .i64 2, .int .i64 n, .string s, .slice a la ca, .slice b lb cb, .slice c len cc]] w fun e w' => e = .returned (.bool (headV 2 n s names ids len && allN ps len)) ∧ Below w.heap.size w w' := by
  have hl := Strs.len h1
  have hl2 := Nums.len h2
  have HB0 := Lib.hid (Row.new w [.int .i64 2, .int .i64 n, .string s, .slice a la ca, .slice b lb cb, .slice c len cc] 26)
  have HW := Lib.hid (Below.alloc1 w (.cells #[.int .i64 2, .int .i64 n, .string s, .slice a la ca, .slice b lb cb, .slice c len cc] 26))
  have H1 := Lib.hid h1
  have H2 := Lib.hid h2
  have H3 := Lib.hid h3
  have IH := Lib.hid ih
  have HSS := Lib.hid hss
  clear h1 h2 h3 ih hss
  by_cases hs0 : s = ByteArray.empty
  rotate_left
  · have gs0 : ¬ s.toList = [] := fun h => hs0 ((toL_nil s).1 h)
    have gs1 : (s.toList == []) = false := beq_eq_false_iff_ne.2 gs0
    have gs2 : (s.toList != []) = true := bne_iff_ne.2 gs0
    have gs4 : ¬ s.size = 0 := fun h => hs0 (sz_nil h)
    have HF := Lib.hid (show (headV 2 n s names ids len && allN ps len) = false by unfold headV; simp [hl, hl2, sz0, gs4])
    clear hl hl2 H1 H2 H3 IH HSS HB0
    go_enter Tryz.func19, Tryz.ntmps19
    go_wp2_with fail
    go_ret
    exact ⟨by rw [HF.out]; rfl, HW.out⟩
  subst hs0
  by_cases hla0 : la = 0
  rotate_left
  · have g1 : (la : Int) > 0 := by omega
    have g2 : (0 : Int) < (la : Int) := by omega
    have g3 : 0 < la := by omega
    have HF := Lib.hid (show (headV 2 n ByteArray.empty names ids len && allN ps len) = false by unfold headV; simp [hl, hl2, sz0, hla0])
    clear hl hl2 H1 H2 H3 IH HSS HB0
    go_enter Tryz.func19, Tryz.ntmps19
    go_wp2_with fail
    go_ret
    exact ⟨by rw [HF.out]; rfl, HW.out⟩
  subst hla0
  by_cases hlb0 : lb = 0
  rotate_left
  · have g1 : (lb : Int) > 0 := by omega
    have g2 : (0 : Int) < (lb : Int) := by omega
    have g3 : 0 < lb := by omega
    have HF := Lib.hid (show (headV 2 n ByteArray.empty names ids len && allN ps len) = false by unfold headV; simp [hl, hl2, sz0, hlb0])
    clear hl hl2 H1 H2 H3 IH HSS HB0
    go_enter Tryz.func19, Tryz.ntmps19
    go_wp2_with fail
    go_ret
    exact ⟨by rw [HF.out]; rfl, HW.out⟩
  subst hlb0
  by_cases hn1 : len = 0
  rotate_left
  · have g1 : ((len : Int) != 0) = true := bne_iff_ne.2 (by omega)
    have HF := Lib.hid (show (headV 2 n ByteArray.empty names ids len && allN ps len) = false by unfold headV; simp [hl, hl2, sz0, hn1])
    clear hl hl2 H1 H2 H3 IH HSS HB0
    go_enter Tryz.func19, Tryz.ntmps19
    go_wp2_with fail
    go_ret
    exact ⟨by rw [HF.out]; rfl, HW.out⟩
  subst hn1
  have HF := Lib.hid (show (headV 2 n ByteArray.empty names ids 0 && allN ps 0) = true by unfold headV; simp [hl, hl2, sz0, allN])
  clear hl hl2 H1 H2 H3 IH HSS
  go_enter Tryz.func19, Tryz.ntmps19
  go_wp2_with fail
  go_loopw [4] (fun i wr => i = .int .i64 0 ∧ Row wr w.heap.size 26 [.int .i64 2, .int .i64 n, .string ByteArray.empty, .slice a 0 ca, .slice b 0 cb, .slice c 0 cc] ∧ Below w.heap.size w wr) (fun i _ => 0)
  case atStart => exact ⟨rfl, HB0.out, HW.out⟩
  case round =>
    obtain ⟨rfl, hb0, hw⟩ := hrel
    have hc4 := hb0.cell (k := 3) (v := .slice a 0 ca) rfl
    have HB4 := Lib.hid hb0
    have HW4 := Lib.hid hw
    clear hb0 hw
    go_wp2_with fail
    go_loopw [5] (fun i wr => i = .int .i64 0 ∧ Row wr w.heap.size 26 [.int .i64 2, .int .i64 n, .string ByteArray.empty, .slice a 0 ca, .slice b 0 cb, .slice c 0 cc] ∧ Below w.heap.size w wr) (fun i _ => 0)
    case atStart => exact ⟨rfl, HB4.out, HW4.out⟩
    case round =>
      obtain ⟨rfl, hb0, hw⟩ := hrel
      have hc5 := hb0.cell (k := 4) (v := .slice b 0 cb) rfl
      have HB5 := Lib.hid hb0
      have HW5 := Lib.hid hw
      clear hb0 hw
      go_wp2_with fail
      go_loopw [7] (fun i wr => i = .int .i64 0 ∧ Row wr w.heap.size 26 [.int .i64 2, .int .i64 n, .string ByteArray.empty, .slice a 0 ca, .slice b 0 cb, .slice c 0 cc] ∧ Below w.heap.size w wr) (fun i _ => 0)
      case atStart => exact ⟨rfl, HB5.out, HW5.out⟩
      case round =>
        obtain ⟨rfl, hb0, hw⟩ := hrel
        have hc7 := hb0.cell (k := 5) (v := .slice c 0 cc) rfl
        have HB7 := Lib.hid hb0
        have HW7 := Lib.hid hw
        clear hb0 hw
        go_wp2_with fail
        go_ret
        exact ⟨by rw [HF.out]; rfl, HW7.out⟩
set_option maxHeartbeats 3200000 in
theorem rs_3 (n : Int) (s : ByteArray) (names : List ByteArray) (ids : List Int) (a b c : Option Addr) (la ca lb cb len cc : Nat) (css : Nat → List Value) (ps : Nat → Bool) (hs : s.size ≤ maxLen) (hss : ∀ x ∈ names, x.size ≤ maxLen) (hla : (la : Int) ≤ 9223372036854775807) (hlb : (lb : Int) ≤ 9223372036854775807) (hlc : (len : Int) ≤ 9223372036854775807) (w : World) (h1 : Strs w a la names) (h2 : Nums w b lb ids) (h3 : Parts w 6 c len css)
    (ih : ∀ j, j < len → ∀ w', Below w.heap.size w w' → Calls Tryz.prog 19 #[.agg (css j).toArray] w' fun e w'' => e = .returned (.bool (ps j)) ∧ Below w'.heap.size w' w'') :
    Calls Tryz.prog 19 #[.agg #[.int .i64 3, .int .i64 n, .string s, .slice a la ca, .slice b lb cb, .slice c len cc]] w fun e w' => e = .returned (.bool (headV 3 n s names ids len && allN ps len)) ∧ Below w.heap.size w w' := by
  have hl := Strs.len h1
  have hl2 := Nums.len h2
  have HB0 := Lib.hid (Row.new w [.int .i64 3, .int .i64 n, .string s, .slice a la ca, .slice b lb cb, .slice c len cc] 26)
  have HW := Lib.hid (Below.alloc1 w (.cells #[.int .i64 3, .int .i64 n, .string s, .slice a la ca, .slice b lb cb, .slice c len cc] 26))
  have H1 := Lib.hid h1
  have H2 := Lib.hid h2
  have H3 := Lib.hid h3
  have IH := Lib.hid ih
  have HSS := Lib.hid hss
  clear h1 h2 h3 ih hss
  by_cases hn0 : n = 0
  rotate_left
  · have gn : (n != 0) = true := bne_iff_ne.2 hn0
    have HF := Lib.hid (show (headV 3 n s names ids len && allN ps len) = false by unfold headV; simp [hl, hl2, sz0, hn0])
    clear hl hl2 H1 H2 H3 IH HSS HB0
    go_enter Tryz.func19, Tryz.ntmps19
    go_wp2_with fail
    go_ret
    exact ⟨by rw [HF.out]; rfl, HW.out⟩
  subst hn0
  by_cases hla0 : la = 0
  rotate_left
  · have g1 : (la : Int) > 0 := by omega
    have g2 : (0 : Int) < (la : Int) := by omega
    have g3 : 0 < la := by omega
    have HF := Lib.hid (show (headV 3 0 s names ids len && allN ps len) = false by unfold headV; simp [hl, hl2, sz0, hla0])
    clear hl hl2 H1 H2 H3 IH HSS HB0
    go_enter Tryz.func19, Tryz.ntmps19
    go_wp2_with fail
    go_ret
    exact ⟨by rw [HF.out]; rfl, HW.out⟩
  subst hla0
  by_cases hlb0 : lb = 0
  rotate_left
  · have g1 : (lb : Int) > 0 := by omega
    have g2 : (0 : Int) < (lb : Int) := by omega
    have g3 : 0 < lb := by omega
    have HF := Lib.hid (show (headV 3 0 s names ids len && allN ps len) = false by unfold headV; simp [hl, hl2, sz0, hlb0])
    clear hl hl2 H1 H2 H3 IH HSS HB0
    go_enter Tryz.func19, Tryz.ntmps19
    go_wp2_with fail
    go_ret
    exact ⟨by rw [HF.out]; rfl, HW.out⟩
  subst hlb0
  by_cases h64 : s.size ≤ 64
  rotate_left
  · have g1 : (s.size : Int) > 64 := by omega
    have g2 : (64 : Int) < (s.size : Int) := by omega
    have g3 : 64 < s.size := by omega
    have HF := Lib.hid (show (headV 3 0 s names ids len && allN ps len) = false by unfold headV; simp [hl, hl2, sz0, h64])
    clear hl hl2 H1 H2 H3 IH HSS HB0
    go_enter Tryz.func19, Tryz.ntmps19
    go_wp2_with fail
    go_ret
    exact ⟨by rw [HF.out]; rfl, HW.out⟩
  have g1 : ¬ (s.size : Int) > 64 := by omega
  have g2 : (s.size : Int) ≤ 64 := by omega
  by_cases hn1 : len = 0
  rotate_left
  · have g1 : ((len : Int) != 0) = true := bne_iff_ne.2 (by omega)
    have HF := Lib.hid (show (headV 3 0 s names ids len && allN ps len) = false by unfold headV; simp [hl, hl2, sz0, hn1])
    clear hl hl2 H1 H2 H3 IH HSS HB0
    go_enter Tryz.func19, Tryz.ntmps19
    go_wp2_with fail
    go_ret
    exact ⟨by rw [HF.out]; rfl, HW.out⟩
  subst hn1
  have HF := Lib.hid (show (headV 3 0 s names ids 0 && allN ps 0) = true by unfold headV; simp [hl, hl2, sz0, allN, h64])
  clear hl hl2 H1 H2 H3 IH HSS
  go_enter Tryz.func19, Tryz.ntmps19
  go_wp2_with fail
  go_loopw [4] (fun i wr => i = .int .i64 0 ∧ Row wr w.heap.size 26 [.int .i64 3, .int .i64 0, .string s, .slice a 0 ca, .slice b 0 cb, .slice c 0 cc] ∧ Below w.heap.size w wr) (fun i _ => 0)
  case atStart => exact ⟨rfl, HB0.out, HW.out⟩
  case round =>
    obtain ⟨rfl, hb0, hw⟩ := hrel
    have hc4 := hb0.cell (k := 3) (v := .slice a 0 ca) rfl
    have HB4 := Lib.hid hb0
    have HW4 := Lib.hid hw
    clear hb0 hw
    go_wp2_with fail
    go_loopw [5] (fun i wr => i = .int .i64 0 ∧ Row wr w.heap.size 26 [.int .i64 3, .int .i64 0, .string s, .slice a 0 ca, .slice b 0 cb, .slice c 0 cc] ∧ Below w.heap.size w wr) (fun i _ => 0)
    case atStart => exact ⟨rfl, HB4.out, HW4.out⟩
    case round =>
      obtain ⟨rfl, hb0, hw⟩ := hrel
      have hc5 := hb0.cell (k := 4) (v := .slice b 0 cb) rfl
      have HB5 := Lib.hid hb0
      have HW5 := Lib.hid hw
      clear hb0 hw
      go_wp2_with fail
      go_loopw [7] (fun i wr => i = .int .i64 0 ∧ Row wr w.heap.size 26 [.int .i64 3, .int .i64 0, .string s, .slice a 0 ca, .slice b 0 cb, .slice c 0 cc] ∧ Below w.heap.size w wr) (fun i _ => 0)
      case atStart => exact ⟨rfl, HB5.out, HW5.out⟩
      case round =>
        obtain ⟨rfl, hb0, hw⟩ := hrel
        have hc7 := hb0.cell (k := 5) (v := .slice c 0 cc) rfl
        have HB7 := Lib.hid hb0
        have HW7 := Lib.hid hw
        clear hb0 hw
        go_wp2_with fail
        go_ret
        exact ⟨by rw [HF.out]; rfl, HW7.out⟩
set_option maxHeartbeats 3200000 in
theorem rs_4 (n : Int) (s : ByteArray) (names : List ByteArray) (ids : List Int) (a b c : Option Addr) (la ca lb cb len cc : Nat) (css : Nat → List Value) (ps : Nat → Bool) (hs : s.size ≤ maxLen) (hss : ∀ x ∈ names, x.size ≤ maxLen) (hla : (la : Int) ≤ 9223372036854775807) (hlb : (lb : Int) ≤ 9223372036854775807) (hlc : (len : Int) ≤ 9223372036854775807) (w : World) (h1 : Strs w a la names) (h2 : Nums w b lb ids) (h3 : Parts w 6 c len css)
    (ih : ∀ j, j < len → ∀ w', Below w.heap.size w w' → Calls Tryz.prog 19 #[.agg (css j).toArray] w' fun e w'' => e = .returned (.bool (ps j)) ∧ Below w'.heap.size w' w'') :
    Calls Tryz.prog 19 #[.agg #[.int .i64 4, .int .i64 n, .string s, .slice a la ca, .slice b lb cb, .slice c len cc]] w fun e w' => e = .returned (.bool (headV 4 n s names ids len && allN ps len)) ∧ Below w.heap.size w w' := by
  have hl := Strs.len h1
  have hl2 := Nums.len h2
  have HB0 := Lib.hid (Row.new w [.int .i64 4, .int .i64 n, .string s, .slice a la ca, .slice b lb cb, .slice c len cc] 26)
  have HW := Lib.hid (Below.alloc1 w (.cells #[.int .i64 4, .int .i64 n, .string s, .slice a la ca, .slice b lb cb, .slice c len cc] 26))
  have H1 := Lib.hid h1
  have H2 := Lib.hid h2
  have H3 := Lib.hid h3
  have IH := Lib.hid ih
  have HSS := Lib.hid hss
  clear h1 h2 h3 ih hss
  by_cases hn0 : n = 0
  rotate_left
  · have gn : (n != 0) = true := bne_iff_ne.2 hn0
    have HF := Lib.hid (show (headV 4 n s names ids len && allN ps len) = false by unfold headV; simp [hl, hl2, sz0, hn0])
    clear hl hl2 H1 H2 H3 IH HSS HB0
    go_enter Tryz.func19, Tryz.ntmps19
    go_wp2_with fail
    go_ret
    exact ⟨by rw [HF.out]; rfl, HW.out⟩
  subst hn0
  by_cases hla0 : la = 0
  rotate_left
  · have g1 : (la : Int) > 0 := by omega
    have g2 : (0 : Int) < (la : Int) := by omega
    have g3 : 0 < la := by omega
    have HF := Lib.hid (show (headV 4 0 s names ids len && allN ps len) = false by unfold headV; simp [hl, hl2, sz0, hla0])
    clear hl hl2 H1 H2 H3 IH HSS HB0
    go_enter Tryz.func19, Tryz.ntmps19
    go_wp2_with fail
    go_ret
    exact ⟨by rw [HF.out]; rfl, HW.out⟩
  subst hla0
  by_cases hlb0 : lb = 0
  rotate_left
  · have g1 : (lb : Int) > 0 := by omega
    have g2 : (0 : Int) < (lb : Int) := by omega
    have g3 : 0 < lb := by omega
    have HF := Lib.hid (show (headV 4 0 s names ids len && allN ps len) = false by unfold headV; simp [hl, hl2, sz0, hlb0])
    clear hl hl2 H1 H2 H3 IH HSS HB0
    go_enter Tryz.func19, Tryz.ntmps19
    go_wp2_with fail
    go_ret
    exact ⟨by rw [HF.out]; rfl, HW.out⟩
  subst hlb0
  have HNA := Lib.hid (fun wx => rname_ref s hs wx)
  obtain ⟨bn, hna⟩ : ∃ b, nameB s = b := ⟨_, rfl⟩
  rw [hna] at HNA
  cases bn
  · have HF := Lib.hid (show (headV 4 0 s names ids len && allN ps len) = false by unfold headV; simp [hl, hl2, sz0, hna])
    clear hna hl hl2 H1 H2 H3 IH HSS HB0
    go_enter Tryz.func19, Tryz.ntmps19
    go_wp2_with fail
    refine (HNA.out _).mono ?_
    rintro e w' ⟨rfl, rfl⟩
    go_wp2_with fail
    go_ret
    exact ⟨by rw [HF.out]; rfl, HW.out⟩
  by_cases hn1 : len = 0
  rotate_left
  · have g1 : ((len : Int) != 0) = true := bne_iff_ne.2 (by omega)
    have HF := Lib.hid (show (headV 4 0 s names ids len && allN ps len) = false by unfold headV; simp [hl, hl2, sz0, hn1])
    clear hna hl hl2 H1 H2 H3 IH HSS HB0
    go_enter Tryz.func19, Tryz.ntmps19
    go_wp2_with fail
    refine (HNA.out _).mono ?_
    rintro e w' ⟨rfl, rfl⟩
    go_wp2_with fail
    go_ret
    exact ⟨by rw [HF.out]; rfl, HW.out⟩
  subst hn1
  have HF := Lib.hid (show (headV 4 0 s names ids 0 && allN ps 0) = true by unfold headV; simp [hl, hl2, sz0, allN, hna])
  clear hna hl hl2 H1 H2 H3 IH HSS
  go_enter Tryz.func19, Tryz.ntmps19
  go_wp2_with fail
  refine (HNA.out _).mono ?_
  rintro e w' ⟨rfl, rfl⟩
  go_wp2_with fail
  go_loopw [4] (fun i wr => i = .int .i64 0 ∧ Row wr w.heap.size 26 [.int .i64 4, .int .i64 0, .string s, .slice a 0 ca, .slice b 0 cb, .slice c 0 cc] ∧ Below w.heap.size w wr) (fun i _ => 0)
  case atStart => exact ⟨rfl, HB0.out, HW.out⟩
  case round =>
    obtain ⟨rfl, hb0, hw⟩ := hrel
    have hc4 := hb0.cell (k := 3) (v := .slice a 0 ca) rfl
    have HB4 := Lib.hid hb0
    have HW4 := Lib.hid hw
    clear hb0 hw
    go_wp2_with fail
    go_loopw [5] (fun i wr => i = .int .i64 0 ∧ Row wr w.heap.size 26 [.int .i64 4, .int .i64 0, .string s, .slice a 0 ca, .slice b 0 cb, .slice c 0 cc] ∧ Below w.heap.size w wr) (fun i _ => 0)
    case atStart => exact ⟨rfl, HB4.out, HW4.out⟩
    case round =>
      obtain ⟨rfl, hb0, hw⟩ := hrel
      have hc5 := hb0.cell (k := 4) (v := .slice b 0 cb) rfl
      have HB5 := Lib.hid hb0
      have HW5 := Lib.hid hw
      clear hb0 hw
      go_wp2_with fail
      go_loopw [7] (fun i wr => i = .int .i64 0 ∧ Row wr w.heap.size 26 [.int .i64 4, .int .i64 0, .string s, .slice a 0 ca, .slice b 0 cb, .slice c 0 cc] ∧ Below w.heap.size w wr) (fun i _ => 0)
      case atStart => exact ⟨rfl, HB5.out, HW5.out⟩
      case round =>
        obtain ⟨rfl, hb0, hw⟩ := hrel
        have hc7 := hb0.cell (k := 5) (v := .slice c 0 cc) rfl
        have HB7 := Lib.hid hb0
        have HW7 := Lib.hid hw
        clear hb0 hw
        go_wp2_with fail
        go_ret
        exact ⟨by rw [HF.out]; rfl, HW7.out⟩

theorem rs_0 (k : Int) (n : Int) (s : ByteArray) (a b c : Option Addr) (la ca lb cb len cc : Nat) (h1 : ¬ k = 1) (h2 : ¬ k = 2) (h3 : ¬ k = 3) (h4 : ¬ k = 4) (h5 : ¬ k = 5) (h6 : ¬ k = 6) (w : World) :
    Calls Tryz.prog 19 #[.agg #[.int .i64 k, .int .i64 n, .string s, .slice a la ca, .slice b lb cb, .slice c len cc]] w fun e w' => e = .returned (.bool false) ∧ Below w.heap.size w w' := by
  have HW := Lib.hid (Below.alloc1 w (.cells #[.int .i64 k, .int .i64 n, .string s, .slice a la ca, .slice b lb cb, .slice c len cc] 26))
  have e1 : (k != 1) = true := bne_iff_ne.2 h1
  have e2 : (k != 2) = true := bne_iff_ne.2 h2
  have e3 : (k != 3) = true := bne_iff_ne.2 h3
  have e4 : (k != 4) = true := bne_iff_ne.2 h4
  have e5 : (k != 5) = true := bne_iff_ne.2 h5
  have e6 : (k != 6) = true := bne_iff_ne.2 h6
  by_cases hk : k < 1
  · go_enter Tryz.func19, Tryz.ntmps19
    go_wp2_with fail
    go_ret
    exact ⟨rfl, HW.out⟩
  · have g1 : k > 6 := by omega
    have g2 : ¬ k ≤ 6 := by omega
    have g3 : (6 : Int) < k := by omega
    go_enter Tryz.func19, Tryz.ntmps19
    go_wp2_with fail
    go_ret
    exact ⟨rfl, HW.out⟩
end

section
set_option maxRecDepth 100000
set_option linter.unusedSimpArgs false
set_option linter.unusedVariables false
open Go.RowKit

theorem gt_r {j : Nat} (h : 0 < (j : Int)) (w : World) : (binOp .gtr 3 (.int .i64 (j : Int)) (.int .i64 0)).run Tryz.prog w = .ok (.bool true) w := by
  have h2 : 0 < j := by omega
  go_simp
theorem gt_n {j : Nat} (h : (j : Int) ≤ 0) (w : World) : (binOp .gtr 3 (.int .i64 (j : Int)) (.int .i64 0)).run Tryz.prog w = .ok (.bool false) w := by
  have h2 : j = 0 := by omega
  subst h2
  rfl
theorem sub_r {j : Nat} (h : 1 ≤ j) (h2 : (j : Int) ≤ 9223372036854775807) (w : World) : (binOp .sub 3 (.int .i64 (j : Int)) (.int .i64 1)).run Tryz.prog w = .ok (.int .i64 ((j - 1 : Nat) : Int)) w := by
  rw [show ((j - 1 : Nat) : Int) = (j : Int) - 1 by omega]
  have hw : IntKind.i64.wrap ((j : Int) - 1) = (j : Int) - 1 := IntWalk.i64_in _ (by omega)
  go_simp
theorem le_eq (u v : ByteArray) : (ltS u v || eqS u v) = !ltS v u := by
  rw [Bool.or_comm]
  cases h : ltS v u
  · cases h2 : (eqS u v || ltS u v)
    · rw [ltS_iff.2 h2] at h; cases h
    · rfl
  · rw [ltS_iff.1 h]; rfl
theorem le_r (u v : ByteArray) {b : Bool} (h : ltS v u = b) (w : World) : (binOp .leq 9 (.string u) (.string v)).run Tryz.prog w = .ok (.bool (!b)) w := by
  have e : (binOp .leq 9 (.string u) (.string v)).run Tryz.prog w = .ok (.bool (ltS u v || eqS u v)) w := rfl
  rw [e, le_eq, h]
set_option maxHeartbeats 3200000 in
theorem rs_5 (n : Int) (s : ByteArray) (names : List ByteArray) (ids : List Int) (a b c : Option Addr) (la ca lb cb len cc : Nat) (css : Nat → List Value) (ps : Nat → Bool) (hs : s.size ≤ maxLen) (hss : ∀ x ∈ names, x.size ≤ maxLen) (hla : (la : Int) ≤ 9223372036854775807) (hlb : (lb : Int) ≤ 9223372036854775807) (hlc : (len : Int) ≤ 9223372036854775807) (w : World) (h1 : Strs w a la names) (h2 : Nums w b lb ids) (h3 : Parts w 6 c len css)
    (ih : ∀ j, j < len → ∀ w', Below w.heap.size w w' → Calls Tryz.prog 19 #[.agg (css j).toArray] w' fun e w'' => e = .returned (.bool (ps j)) ∧ Below w'.heap.size w' w'') :
    Calls Tryz.prog 19 #[.agg #[.int .i64 5, .int .i64 n, .string s, .slice a la ca, .slice b lb cb, .slice c len cc]] w fun e w' => e = .returned (.bool (headV 5 n s names ids len && allN ps len)) ∧ Below w.heap.size w w' := by
  have hl := Strs.len h1
  have hl2 := Nums.len h2
  have HB0 := Lib.hid (Row.new w [.int .i64 5, .int .i64 n, .string s, .slice a la ca, .slice b lb cb, .slice c len cc] 26)
  have HW := Lib.hid (Below.alloc1 w (.cells #[.int .i64 5, .int .i64 n, .string s, .slice a la ca, .slice b lb cb, .slice c len cc] 26))
  have H1 := Lib.hid h1
  have H2 := Lib.hid h2
  have H3 := Lib.hid h3
  have IH := Lib.hid ih
  have HSS := Lib.hid hss
  clear h1 h2 h3 ih hss
  by_cases hn0 : n = 0
  rotate_left
  · have gn : (n != 0) = true := bne_iff_ne.2 hn0
    have HF := Lib.hid (show (headV 5 n s names ids len && allN ps len) = false by unfold headV; simp [hl, hl2, sz0, hn0])
    clear hl hl2 H1 H2 H3 IH HSS HB0
    go_enter Tryz.func19, Tryz.ntmps19
    go_wp2_with fail
    go_ret
    exact ⟨by rw [HF.out]; rfl, HW.out⟩
  subst hn0
  by_cases hs0 : s = ByteArray.empty
  rotate_left
  · have gs0 : ¬ s.toList = [] := fun h => hs0 ((toL_nil s).1 h)
    have gs1 : (s.toList == []) = false := beq_eq_false_iff_ne.2 gs0
    have gs2 : (s.toList != []) = true := bne_iff_ne.2 gs0
    have gs4 : ¬ s.size = 0 := fun h => hs0 (sz_nil h)
    have HF := Lib.hid (show (headV 5 0 s names ids len && allN ps len) = false by unfold headV; simp [hl, hl2, sz0, gs4])
    clear hl hl2 H1 H2 H3 IH HSS HB0
    go_enter Tryz.func19, Tryz.ntmps19
    go_wp2_with fail
    go_ret
    exact ⟨by rw [HF.out]; rfl, HW.out⟩
  subst hs0
  by_cases hlb0 : lb = 0
  rotate_left
  · have g1 : (lb : Int) > 0 := by omega
    have g2 : (0 : Int) < (lb : Int) := by omega
    have g3 : 0 < lb := by omega
    have HF := Lib.hid (show (headV 5 0 ByteArray.empty names ids len && allN ps len) = false by unfold headV; simp [hl, hl2, sz0, hlb0])
    clear hl hl2 H1 H2 H3 IH HSS HB0
    go_enter Tryz.func19, Tryz.ntmps19
    go_wp2_with fail
    go_ret
    exact ⟨by rw [HF.out]; rfl, HW.out⟩
  subst hlb0
  by_cases hm : la ≤ 8
  rotate_left
  · have g1 : (la : Int) > 8 := by omega
    have g2 : (8 : Int) < (la : Int) := by omega
    have HF := Lib.hid (show (headV 5 0 ByteArray.empty names ids len && allN ps len) = false by unfold headV; simp [hl, hl2, sz0, hm])
    clear hl hl2 H1 H2 H3 IH HSS HB0
    go_enter Tryz.func19, Tryz.ntmps19
    go_wp2_with fail
    go_ret
    exact ⟨by rw [HF.out]; rfl, HW.out⟩
  have gm1 : ¬ (la : Int) > 8 := by omega
  have gm2 : (la : Int) ≤ 8 := by omega
  by_cases hll : la = len
  rotate_left
  · have g1 : ((len : Int) != (la : Int)) = true := bne_iff_ne.2 (by omega)
    have hll2 : ¬ len = la := by omega
    have HF := Lib.hid (show (headV 5 0 ByteArray.empty names ids len && allN ps len) = false by unfold headV; simp [hl, hl2, sz0, hll2])
    clear hl hl2 H1 H2 H3 IH HSS HB0
    go_enter Tryz.func19, Tryz.ntmps19
    go_wp2_with fail
    go_ret
    exact ⟨by rw [HF.out]; rfl, HW.out⟩
  subst hll
  have HF0 := Lib.hid (show (headV 5 0 ByteArray.empty names ids la && allN ps la) = (ris names la && allN ps la) by have e := rise_ris names; rw [hl] at e; unfold headV; simp [hl, hl2, sz0, hm, e])
  clear hl hl2 H2
  go_enter Tryz.func19, Tryz.ntmps19
  go_wp2_with fail
  go_loopw [4] (fun i wr => ∃ j : Nat, j ≤ la ∧ i = .int .i64 (j : Int) ∧ ris names j = true ∧ Row wr w.heap.size 26 [.int .i64 5, .int .i64 0, .string ByteArray.empty, .slice a la ca, .slice b 0 cb, .slice c la cc] ∧ Below w.heap.size w wr) (fun i _ => la - (intOf i).toNat)
  case atStart => exact ⟨0, Nat.zero_le _, rfl, rfl, HB0.out, HW.out⟩
  case round =>
    obtain ⟨j, hjn, rfl, hall, hb0, hw⟩ := hrel
    have bj0 : (0 : Int) ≤ (j : Int) := by omega
    have hc3 := hb0.cell (k := 3) (v := .slice a la ca) rfl
    by_cases hj : j < la
    · have hji : (j : Int) < (la : Int) := by omega
      obtain ⟨ad, hade, hcx⟩ := Strs.at_ (H1.out.belowAll hw) hj
      subst hade
      have hmo := ris_more names j
      rw [hall, Bool.true_and] at hmo
      have HNO := Lib.hid (fun h => ris_no (l := names) (n := j + 1) (m := la) h (by omega))
      have HNA := Lib.hid (fun wx (_ : Below wr.heap.size wr wx) => (rname_ref (nth names j) (nth_sz HSS.out j) wx).mono (fun e w' (h : e = .returned (.bool (nameB (nth names j))) ∧ w' = wx) => (⟨h.1, by rw [h.2]; exact Below.refl _ _⟩ : e = .returned (.bool (nameB (nth names j))) ∧ Below wx.heap.size wx w')))
      have HB1 := Lib.hid hb0
      have HW1 := Lib.hid hw
      obtain ⟨x, hx⟩ : ∃ x, nth names j = x := ⟨_, rfl⟩
      rw [hx] at hcx HNA hmo
      obtain ⟨bn, hna⟩ : ∃ b, nameB x = b := ⟨_, rfl⟩
      rw [hna] at HNA hmo
      cases bn
      · rw [Bool.false_and] at hmo
        have HMO := Lib.hid hmo
        clear hmo hall hb0 hw
        go_wp2_with fail
        refine wp_flat_none (aD := ?aDa) (S := fun w' => Below wr.heap.size wr w')
          (vs := [(0, .pointer (some ⟨w.heap.size, 3, none⟩)), (1, .slice (some ad) la ca), (2, .int .i64 (j : Int)), (3, .pointer (some (ad.add (j)))), (4, .string x), (5, .bool false), (6, .bool (!false)), (7, .bool (!false)), (8, undef), (9, undef), (10, undef), (11, undef), (12, undef), (13, undef), (14, undef), (15, undef), (16, undef), (17, undef), (18, undef), (19, undef), (20, undef), (21, undef), (22, undef), (23, undef), (24, .bool true)]) (by kernel_rfl) ((Below.refl _ _).drew) (fun _ _ h k => S_trans h k) ?hDa ?hka ?ha
        case hDa =>
          refine .step (some 126) rfl rfl (by kernel_rfl) (Gives.fieldAt 26 (.tmp 1) 3 rfl _ _ rfl (fun w' => fv_3 _ w')) ?_
          simp only [Act.put, List.setIfInBounds_toArray, List.set_cons_zero, List.set_cons_succ]
          refine .step (some 127) rfl rfl (by kernel_rfl) (Gives.load 22 (.tmp 126) rfl _ _ rfl (fun w' h => ld_strs ((h.cell (lt_of_cell hc3)).trans hc3))) ?_
          simp only [Act.put, List.setIfInBounds_toArray, List.set_cons_zero, List.set_cons_succ]
          refine .step (some 128) rfl rfl (by kernel_rfl) (Gives.move (x := .tmp 4) rfl rfl) ?_
          simp only [Act.put, List.setIfInBounds_toArray, List.set_cons_zero, List.set_cons_succ]
          refine .step (some 129) rfl rfl (by kernel_rfl) (Gives.indexAt 22 (.tmp 127) (.tmp 128) rfl _ _ _ rfl rfl (fun w' => ix_str ad la ca (j) hj w')) ?_
          simp only [Act.put, List.setIfInBounds_toArray, List.set_cons_zero, List.set_cons_succ]
          refine .step (some 130) rfl rfl (by kernel_rfl) (Gives.load 9 (.tmp 129) rfl _ _ rfl (fun w' h => ld_str ((h.cell (lt_of_cell hcx)).trans hcx))) ?_
          simp only [Act.put, List.setIfInBounds_toArray, List.set_cons_zero, List.set_cons_succ]
          refine .step (some 131) rfl rfl (by kernel_rfl) (Gives.call (args := [.string x]) rfl Tryz.func36 (by kernel_rfl) (by kernel_rfl) rfl (fun w' h => HNA.out w' h)) ?_
          simp only [Act.put, List.setIfInBounds_toArray, List.set_cons_zero, List.set_cons_succ]
          refine .step (some 132) rfl rfl (by kernel_rfl) (Gives.unop .not 4 (.tmp 131) rfl (.bool false) (.bool !false) rfl (fun w' => un_not false w')) ?_
          simp only [Act.put, List.setIfInBounds_toArray, List.set_cons_zero, List.set_cons_succ]
          refine .step (some 133) rfl rfl (by kernel_rfl) (Gives.move (x := .tmp 132) rfl rfl) ?_
          simp only [Act.put, List.setIfInBounds_toArray, List.set_cons_zero, List.set_cons_succ]
          refine .stepSkip (some 134) rfl rfl (by kernel_rfl) ?_
          simp only [Act.put, List.setIfInBounds_toArray, List.set_cons_zero, List.set_cons_succ]
          refine .stepSkip (some 135) rfl rfl (by kernel_rfl) ?_
          simp only [Act.put, List.setIfInBounds_toArray, List.set_cons_zero, List.set_cons_succ]
          refine .stepSkip (some 136) rfl rfl (by kernel_rfl) ?_
          simp only [Act.put, List.setIfInBounds_toArray, List.set_cons_zero, List.set_cons_succ]
          refine .stepSkip (some 137) rfl rfl (by kernel_rfl) ?_
          simp only [Act.put, List.setIfInBounds_toArray, List.set_cons_zero, List.set_cons_succ]
          refine .stepSkip (some 138) rfl rfl (by kernel_rfl) ?_
          simp only [Act.put, List.setIfInBounds_toArray, List.set_cons_zero, List.set_cons_succ]
          refine .stepSkip (some 139) rfl rfl (by kernel_rfl) ?_
          simp only [Act.put, List.setIfInBounds_toArray, List.set_cons_zero, List.set_cons_succ]
          refine .stepSkip (some 140) rfl rfl (by kernel_rfl) ?_
          simp only [Act.put, List.setIfInBounds_toArray, List.set_cons_zero, List.set_cons_succ]
          refine .stepSkip (some 141) rfl rfl (by kernel_rfl) ?_
          simp only [Act.put, List.setIfInBounds_toArray, List.set_cons_zero, List.set_cons_succ]
          refine .stepSkip (some 142) rfl rfl (by kernel_rfl) ?_
          simp only [Act.put, List.setIfInBounds_toArray, List.set_cons_zero, List.set_cons_succ]
          refine .stepSkip (some 143) rfl rfl (by kernel_rfl) ?_
          simp only [Act.put, List.setIfInBounds_toArray, List.set_cons_zero, List.set_cons_succ]
          refine .stepSkip (some 144) rfl rfl (by kernel_rfl) ?_
          simp only [Act.put, List.setIfInBounds_toArray, List.set_cons_zero, List.set_cons_succ]
          refine .stepSkip (some 145) rfl rfl (by kernel_rfl) ?_
          simp only [Act.put, List.setIfInBounds_toArray, List.set_cons_zero, List.set_cons_succ]
          refine .stepSkip (some 146) rfl rfl (by kernel_rfl) ?_
          simp only [Act.put, List.setIfInBounds_toArray, List.set_cons_zero, List.set_cons_succ]
          refine .stepSkip (some 147) rfl rfl (by kernel_rfl) ?_
          simp only [Act.put, List.setIfInBounds_toArray, List.set_cons_zero, List.set_cons_succ]
          refine .stepSkip (some 148) rfl rfl (by kernel_rfl) ?_
          simp only [Act.put, List.setIfInBounds_toArray, List.set_cons_zero, List.set_cons_succ]
          refine .stepSkip (some 149) rfl rfl (by kernel_rfl) ?_
          simp only [Act.put, List.setIfInBounds_toArray, List.set_cons_zero, List.set_cons_succ]
          refine .step (some 150) rfl rfl (by kernel_rfl) (Gives.pick (.tmp 133) (.const (.bool true)) (.tmp 149) rfl true (.bool true) rfl rfl) ?_
          simp only [Act.put, List.setIfInBounds_toArray, List.set_cons_zero, List.set_cons_succ]
          exact .nil
        case hka => kernel_rfl
        case ha =>
          intro Wq hb
          have HWQ := Lib.hid (HW1.out.trans (hb.mono HW1.out.size))
          clear hb hc3 hcx
          go_wp2_with fail
          go_ret
          exact ⟨by rw [HF0.out, HNO.out HMO.out]; rfl, HWQ.out⟩
      · rw [Bool.true_and] at hmo
        by_cases hj0 : j = 0
        · rw [decide_eq_true hj0, Bool.true_or] at hmo
          have HPO := Lib.hid (show (j : Int) ≤ 0 by omega)
          clear hj0
          have HMO := Lib.hid hmo
          clear hmo hall hb0 hw
          go_wp2_with fail
          refine wp_flat_none (aD := ?aDb) (S := fun w' => Below wr.heap.size wr w')
            (vs := [(0, .pointer (some ⟨w.heap.size, 3, none⟩)), (1, .slice (some ad) la ca), (2, .int .i64 (j : Int)), (3, .pointer (some (ad.add (j)))), (4, .string x), (5, .bool true), (6, .bool (!true)), (7, .bool (!true)), (8, .int .i64 (j : Int)), (9, .bool false), (10, .bool false), (11, undef), (12, undef), (13, undef), (14, undef), (15, undef), (16, undef), (17, undef), (18, undef), (19, undef), (20, undef), (21, undef), (22, undef), (23, .bool false), (24, .bool false)]) (by kernel_rfl) ((Below.refl _ _).drew) (fun _ _ h k => S_trans h k) ?hDb ?hkb ?hb
          case hDb =>
            refine .step (some 126) rfl rfl (by kernel_rfl) (Gives.fieldAt 26 (.tmp 1) 3 rfl _ _ rfl (fun w' => fv_3 _ w')) ?_
            simp only [Act.put, List.setIfInBounds_toArray, List.set_cons_zero, List.set_cons_succ]
            refine .step (some 127) rfl rfl (by kernel_rfl) (Gives.load 22 (.tmp 126) rfl _ _ rfl (fun w' h => ld_strs ((h.cell (lt_of_cell hc3)).trans hc3))) ?_
            simp only [Act.put, List.setIfInBounds_toArray, List.set_cons_zero, List.set_cons_succ]
            refine .step (some 128) rfl rfl (by kernel_rfl) (Gives.move (x := .tmp 4) rfl rfl) ?_
            simp only [Act.put, List.setIfInBounds_toArray, List.set_cons_zero, List.set_cons_succ]
            refine .step (some 129) rfl rfl (by kernel_rfl) (Gives.indexAt 22 (.tmp 127) (.tmp 128) rfl _ _ _ rfl rfl (fun w' => ix_str ad la ca (j) hj w')) ?_
            simp only [Act.put, List.setIfInBounds_toArray, List.set_cons_zero, List.set_cons_succ]
            refine .step (some 130) rfl rfl (by kernel_rfl) (Gives.load 9 (.tmp 129) rfl _ _ rfl (fun w' h => ld_str ((h.cell (lt_of_cell hcx)).trans hcx))) ?_
            simp only [Act.put, List.setIfInBounds_toArray, List.set_cons_zero, List.set_cons_succ]
            refine .step (some 131) rfl rfl (by kernel_rfl) (Gives.call (args := [.string x]) rfl Tryz.func36 (by kernel_rfl) (by kernel_rfl) rfl (fun w' h => HNA.out w' h)) ?_
            simp only [Act.put, List.setIfInBounds_toArray, List.set_cons_zero, List.set_cons_succ]
            refine .step (some 132) rfl rfl (by kernel_rfl) (Gives.unop .not 4 (.tmp 131) rfl (.bool true) (.bool !true) rfl (fun w' => un_not true w')) ?_
            simp only [Act.put, List.setIfInBounds_toArray, List.set_cons_zero, List.set_cons_succ]
            refine .step (some 133) rfl rfl (by kernel_rfl) (Gives.move (x := .tmp 132) rfl rfl) ?_
            simp only [Act.put, List.setIfInBounds_toArray, List.set_cons_zero, List.set_cons_succ]
            refine .step (some 134) rfl rfl (by kernel_rfl) (Gives.move (x := .tmp 4) rfl rfl) ?_
            simp only [Act.put, List.setIfInBounds_toArray, List.set_cons_zero, List.set_cons_succ]
            refine .step (some 135) rfl rfl (by kernel_rfl) (Gives.binop .gtr 3 3 (.tmp 134) (.const (.int .i64 0)) rfl _ _ _ rfl rfl (fun w' => rfl) (fun w' => gt_n HPO.out w')) ?_
            simp only [Act.put, List.setIfInBounds_toArray, List.set_cons_zero, List.set_cons_succ]
            refine .step (some 136) rfl rfl (by kernel_rfl) (Gives.move (x := .tmp 135) rfl rfl) ?_
            simp only [Act.put, List.setIfInBounds_toArray, List.set_cons_zero, List.set_cons_succ]
            refine .stepSkip (some 137) rfl rfl (by kernel_rfl) ?_
            simp only [Act.put, List.setIfInBounds_toArray, List.set_cons_zero, List.set_cons_succ]
            refine .stepSkip (some 138) rfl rfl (by kernel_rfl) ?_
            simp only [Act.put, List.setIfInBounds_toArray, List.set_cons_zero, List.set_cons_succ]
            refine .stepSkip (some 139) rfl rfl (by kernel_rfl) ?_
            simp only [Act.put, List.setIfInBounds_toArray, List.set_cons_zero, List.set_cons_succ]
            refine .stepSkip (some 140) rfl rfl (by kernel_rfl) ?_
            simp only [Act.put, List.setIfInBounds_toArray, List.set_cons_zero, List.set_cons_succ]
            refine .stepSkip (some 141) rfl rfl (by kernel_rfl) ?_
            simp only [Act.put, List.setIfInBounds_toArray, List.set_cons_zero, List.set_cons_succ]
            refine .stepSkip (some 142) rfl rfl (by kernel_rfl) ?_
            simp only [Act.put, List.setIfInBounds_toArray, List.set_cons_zero, List.set_cons_succ]
            refine .stepSkip (some 143) rfl rfl (by kernel_rfl) ?_
            simp only [Act.put, List.setIfInBounds_toArray, List.set_cons_zero, List.set_cons_succ]
            refine .stepSkip (some 144) rfl rfl (by kernel_rfl) ?_
            simp only [Act.put, List.setIfInBounds_toArray, List.set_cons_zero, List.set_cons_succ]
            refine .stepSkip (some 145) rfl rfl (by kernel_rfl) ?_
            simp only [Act.put, List.setIfInBounds_toArray, List.set_cons_zero, List.set_cons_succ]
            refine .stepSkip (some 146) rfl rfl (by kernel_rfl) ?_
            simp only [Act.put, List.setIfInBounds_toArray, List.set_cons_zero, List.set_cons_succ]
            refine .stepSkip (some 147) rfl rfl (by kernel_rfl) ?_
            simp only [Act.put, List.setIfInBounds_toArray, List.set_cons_zero, List.set_cons_succ]
            refine .stepSkip (some 148) rfl rfl (by kernel_rfl) ?_
            simp only [Act.put, List.setIfInBounds_toArray, List.set_cons_zero, List.set_cons_succ]
            refine .step (some 149) rfl rfl (by kernel_rfl) (Gives.pick (.tmp 136) (.tmp 148) (.const (.bool false)) rfl false (.bool false) rfl rfl) ?_
            simp only [Act.put, List.setIfInBounds_toArray, List.set_cons_zero, List.set_cons_succ]
            refine .step (some 150) rfl rfl (by kernel_rfl) (Gives.pick (.tmp 133) (.const (.bool true)) (.tmp 149) rfl false (.bool false) rfl rfl) ?_
            simp only [Act.put, List.setIfInBounds_toArray, List.set_cons_zero, List.set_cons_succ]
            exact .nil
          case hkb => kernel_rfl
          case hb =>
            intro Wq hb
            have HWQ := Lib.hid (HW1.out.trans (hb.mono HW1.out.size))
            have HBQ := Lib.hid (HB1.out.belowAll hb)
            clear hb hc3 hcx
            go_wp2_with fail
            go_roundw
            case rel => exact ⟨j + 1, by omega, by go_num, HMO.out, HBQ.out, HWQ.out⟩
            case measure => simp [intOf] <;> omega
        have hpos : 0 < (j : Int) := by omega
        rw [decide_eq_false hj0, Bool.false_or] at hmo
        obtain ⟨af, hafe, hcy⟩ := Strs.at_ (H1.out.belowAll hw) (show j - 1 < la by omega)
        cases hafe
        obtain ⟨y, hy⟩ : ∃ y, nth names (j - 1) = y := ⟨_, rfl⟩
        rw [hy] at hcy hmo
        obtain ⟨bl, hle⟩ : ∃ b, ltS y x = b := ⟨_, rfl⟩
        rw [hle] at hmo
        cases bl
        · skip
          have HMO := Lib.hid hmo
          clear hmo hall hb0 hw
          go_wp2_with fail
          refine wp_flat_none (aD := ?aDc) (S := fun w' => Below wr.heap.size wr w')
            (vs := [(0, .pointer (some ⟨w.heap.size, 3, none⟩)), (1, .slice (some ad) la ca), (2, .int .i64 (j : Int)), (3, .pointer (some (ad.add (j)))), (4, .string x), (5, .bool true), (6, .bool (!true)), (7, .bool (!true)), (8, .int .i64 (j : Int)), (9, .bool true), (10, .bool true), (11, .pointer (some ⟨w.heap.size, 3, none⟩)), (12, .slice (some ad) la ca), (13, .int .i64 (j : Int)), (14, .pointer (some (ad.add (j)))), (15, .string x), (16, .pointer (some ⟨w.heap.size, 3, none⟩)), (17, .slice (some ad) la ca), (18, .int .i64 (j : Int)), (19, .int .i64 ((j - 1 : Nat) : Int)), (20, .pointer (some (ad.add (j - 1)))), (21, .string y), (22, .bool (!false)), (23, .bool (!false)), (24, .bool (!false))]) (by kernel_rfl) ((Below.refl _ _).drew) (fun _ _ h k => S_trans h k) ?hDc ?hkc ?hc
          case hDc =>
            refine .step (some 126) rfl rfl (by kernel_rfl) (Gives.fieldAt 26 (.tmp 1) 3 rfl _ _ rfl (fun w' => fv_3 _ w')) ?_
            simp only [Act.put, List.setIfInBounds_toArray, List.set_cons_zero, List.set_cons_succ]
            refine .step (some 127) rfl rfl (by kernel_rfl) (Gives.load 22 (.tmp 126) rfl _ _ rfl (fun w' h => ld_strs ((h.cell (lt_of_cell hc3)).trans hc3))) ?_
            simp only [Act.put, List.setIfInBounds_toArray, List.set_cons_zero, List.set_cons_succ]
            refine .step (some 128) rfl rfl (by kernel_rfl) (Gives.move (x := .tmp 4) rfl rfl) ?_
            simp only [Act.put, List.setIfInBounds_toArray, List.set_cons_zero, List.set_cons_succ]
            refine .step (some 129) rfl rfl (by kernel_rfl) (Gives.indexAt 22 (.tmp 127) (.tmp 128) rfl _ _ _ rfl rfl (fun w' => ix_str ad la ca (j) hj w')) ?_
            simp only [Act.put, List.setIfInBounds_toArray, List.set_cons_zero, List.set_cons_succ]
            refine .step (some 130) rfl rfl (by kernel_rfl) (Gives.load 9 (.tmp 129) rfl _ _ rfl (fun w' h => ld_str ((h.cell (lt_of_cell hcx)).trans hcx))) ?_
            simp only [Act.put, List.setIfInBounds_toArray, List.set_cons_zero, List.set_cons_succ]
            refine .step (some 131) rfl rfl (by kernel_rfl) (Gives.call (args := [.string x]) rfl Tryz.func36 (by kernel_rfl) (by kernel_rfl) rfl (fun w' h => HNA.out w' h)) ?_
            simp only [Act.put, List.setIfInBounds_toArray, List.set_cons_zero, List.set_cons_succ]
            refine .step (some 132) rfl rfl (by kernel_rfl) (Gives.unop .not 4 (.tmp 131) rfl (.bool true) (.bool !true) rfl (fun w' => un_not true w')) ?_
            simp only [Act.put, List.setIfInBounds_toArray, List.set_cons_zero, List.set_cons_succ]
            refine .step (some 133) rfl rfl (by kernel_rfl) (Gives.move (x := .tmp 132) rfl rfl) ?_
            simp only [Act.put, List.setIfInBounds_toArray, List.set_cons_zero, List.set_cons_succ]
            refine .step (some 134) rfl rfl (by kernel_rfl) (Gives.move (x := .tmp 4) rfl rfl) ?_
            simp only [Act.put, List.setIfInBounds_toArray, List.set_cons_zero, List.set_cons_succ]
            refine .step (some 135) rfl rfl (by kernel_rfl) (Gives.binop .gtr 3 3 (.tmp 134) (.const (.int .i64 0)) rfl _ _ _ rfl rfl (fun w' => rfl) (fun w' => gt_r hpos w')) ?_
            simp only [Act.put, List.setIfInBounds_toArray, List.set_cons_zero, List.set_cons_succ]
            refine .step (some 136) rfl rfl (by kernel_rfl) (Gives.move (x := .tmp 135) rfl rfl) ?_
            simp only [Act.put, List.setIfInBounds_toArray, List.set_cons_zero, List.set_cons_succ]
            refine .step (some 137) rfl rfl (by kernel_rfl) (Gives.fieldAt 26 (.tmp 1) 3 rfl _ _ rfl (fun w' => fv_3 _ w')) ?_
            simp only [Act.put, List.setIfInBounds_toArray, List.set_cons_zero, List.set_cons_succ]
            refine .step (some 138) rfl rfl (by kernel_rfl) (Gives.load 22 (.tmp 137) rfl _ _ rfl (fun w' h => ld_strs ((h.cell (lt_of_cell hc3)).trans hc3))) ?_
            simp only [Act.put, List.setIfInBounds_toArray, List.set_cons_zero, List.set_cons_succ]
            refine .step (some 139) rfl rfl (by kernel_rfl) (Gives.move (x := .tmp 4) rfl rfl) ?_
            simp only [Act.put, List.setIfInBounds_toArray, List.set_cons_zero, List.set_cons_succ]
            refine .step (some 140) rfl rfl (by kernel_rfl) (Gives.indexAt 22 (.tmp 138) (.tmp 139) rfl _ _ _ rfl rfl (fun w' => ix_str ad la ca (j) hj w')) ?_
            simp only [Act.put, List.setIfInBounds_toArray, List.set_cons_zero, List.set_cons_succ]
            refine .step (some 141) rfl rfl (by kernel_rfl) (Gives.load 9 (.tmp 140) rfl _ _ rfl (fun w' h => ld_str ((h.cell (lt_of_cell hcx)).trans hcx))) ?_
            simp only [Act.put, List.setIfInBounds_toArray, List.set_cons_zero, List.set_cons_succ]
            refine .step (some 142) rfl rfl (by kernel_rfl) (Gives.fieldAt 26 (.tmp 1) 3 rfl _ _ rfl (fun w' => fv_3 _ w')) ?_
            simp only [Act.put, List.setIfInBounds_toArray, List.set_cons_zero, List.set_cons_succ]
            refine .step (some 143) rfl rfl (by kernel_rfl) (Gives.load 22 (.tmp 142) rfl _ _ rfl (fun w' h => ld_strs ((h.cell (lt_of_cell hc3)).trans hc3))) ?_
            simp only [Act.put, List.setIfInBounds_toArray, List.set_cons_zero, List.set_cons_succ]
            refine .step (some 144) rfl rfl (by kernel_rfl) (Gives.move (x := .tmp 4) rfl rfl) ?_
            simp only [Act.put, List.setIfInBounds_toArray, List.set_cons_zero, List.set_cons_succ]
            refine .step (some 145) rfl rfl (by kernel_rfl) (Gives.binop .sub 3 3 (.tmp 144) (.const (.int .i64 1)) rfl _ _ _ rfl rfl (fun w' => rfl) (fun w' => sub_r (by omega) (by omega) w')) ?_
            simp only [Act.put, List.setIfInBounds_toArray, List.set_cons_zero, List.set_cons_succ]
            refine .step (some 146) rfl rfl (by kernel_rfl) (Gives.indexAt 22 (.tmp 143) (.tmp 145) rfl _ _ _ rfl rfl (fun w' => ix_str ad la ca (j - 1) (by omega) w')) ?_
            simp only [Act.put, List.setIfInBounds_toArray, List.set_cons_zero, List.set_cons_succ]
            refine .step (some 147) rfl rfl (by kernel_rfl) (Gives.load 9 (.tmp 146) rfl _ _ rfl (fun w' h => ld_str ((h.cell (lt_of_cell hcy)).trans hcy))) ?_
            simp only [Act.put, List.setIfInBounds_toArray, List.set_cons_zero, List.set_cons_succ]
            refine .step (some 148) rfl rfl (by kernel_rfl) (Gives.binop .leq 9 9 (.tmp 141) (.tmp 147) rfl (.string x) (.string y) _ rfl rfl (fun w' => rfl) (fun w' => le_r _ _ hle w')) ?_
            simp only [Act.put, List.setIfInBounds_toArray, List.set_cons_zero, List.set_cons_succ]
            refine .step (some 149) rfl rfl (by kernel_rfl) (Gives.pick (.tmp 136) (.tmp 148) (.const (.bool false)) rfl true (.bool (!false)) rfl rfl) ?_
            simp only [Act.put, List.setIfInBounds_toArray, List.set_cons_zero, List.set_cons_succ]
            refine .step (some 150) rfl rfl (by kernel_rfl) (Gives.pick (.tmp 133) (.const (.bool true)) (.tmp 149) rfl false (.bool (!false)) rfl rfl) ?_
            simp only [Act.put, List.setIfInBounds_toArray, List.set_cons_zero, List.set_cons_succ]
            exact .nil
          case hkc => kernel_rfl
          case hc =>
            intro Wq hb
            have HWQ := Lib.hid (HW1.out.trans (hb.mono HW1.out.size))
            clear hb hc3 hcx
            go_wp2_with fail
            go_ret
            exact ⟨by rw [HF0.out, HNO.out HMO.out]; rfl, HWQ.out⟩
        · skip
          have HMO := Lib.hid hmo
          clear hmo hall hb0 hw
          go_wp2_with fail
          refine wp_flat_none (aD := ?aDd) (S := fun w' => Below wr.heap.size wr w')
            (vs := [(0, .pointer (some ⟨w.heap.size, 3, none⟩)), (1, .slice (some ad) la ca), (2, .int .i64 (j : Int)), (3, .pointer (some (ad.add (j)))), (4, .string x), (5, .bool true), (6, .bool (!true)), (7, .bool (!true)), (8, .int .i64 (j : Int)), (9, .bool true), (10, .bool true), (11, .pointer (some ⟨w.heap.size, 3, none⟩)), (12, .slice (some ad) la ca), (13, .int .i64 (j : Int)), (14, .pointer (some (ad.add (j)))), (15, .string x), (16, .pointer (some ⟨w.heap.size, 3, none⟩)), (17, .slice (some ad) la ca), (18, .int .i64 (j : Int)), (19, .int .i64 ((j - 1 : Nat) : Int)), (20, .pointer (some (ad.add (j - 1)))), (21, .string y), (22, .bool (!true)), (23, .bool (!true)), (24, .bool (!true))]) (by kernel_rfl) ((Below.refl _ _).drew) (fun _ _ h k => S_trans h k) ?hDd ?hkd ?hd
          case hDd =>
            refine .step (some 126) rfl rfl (by kernel_rfl) (Gives.fieldAt 26 (.tmp 1) 3 rfl _ _ rfl (fun w' => fv_3 _ w')) ?_
            simp only [Act.put, List.setIfInBounds_toArray, List.set_cons_zero, List.set_cons_succ]
            refine .step (some 127) rfl rfl (by kernel_rfl) (Gives.load 22 (.tmp 126) rfl _ _ rfl (fun w' h => ld_strs ((h.cell (lt_of_cell hc3)).trans hc3))) ?_
            simp only [Act.put, List.setIfInBounds_toArray, List.set_cons_zero, List.set_cons_succ]
            refine .step (some 128) rfl rfl (by kernel_rfl) (Gives.move (x := .tmp 4) rfl rfl) ?_
            simp only [Act.put, List.setIfInBounds_toArray, List.set_cons_zero, List.set_cons_succ]
            refine .step (some 129) rfl rfl (by kernel_rfl) (Gives.indexAt 22 (.tmp 127) (.tmp 128) rfl _ _ _ rfl rfl (fun w' => ix_str ad la ca (j) hj w')) ?_
            simp only [Act.put, List.setIfInBounds_toArray, List.set_cons_zero, List.set_cons_succ]
            refine .step (some 130) rfl rfl (by kernel_rfl) (Gives.load 9 (.tmp 129) rfl _ _ rfl (fun w' h => ld_str ((h.cell (lt_of_cell hcx)).trans hcx))) ?_
            simp only [Act.put, List.setIfInBounds_toArray, List.set_cons_zero, List.set_cons_succ]
            refine .step (some 131) rfl rfl (by kernel_rfl) (Gives.call (args := [.string x]) rfl Tryz.func36 (by kernel_rfl) (by kernel_rfl) rfl (fun w' h => HNA.out w' h)) ?_
            simp only [Act.put, List.setIfInBounds_toArray, List.set_cons_zero, List.set_cons_succ]
            refine .step (some 132) rfl rfl (by kernel_rfl) (Gives.unop .not 4 (.tmp 131) rfl (.bool true) (.bool !true) rfl (fun w' => un_not true w')) ?_
            simp only [Act.put, List.setIfInBounds_toArray, List.set_cons_zero, List.set_cons_succ]
            refine .step (some 133) rfl rfl (by kernel_rfl) (Gives.move (x := .tmp 132) rfl rfl) ?_
            simp only [Act.put, List.setIfInBounds_toArray, List.set_cons_zero, List.set_cons_succ]
            refine .step (some 134) rfl rfl (by kernel_rfl) (Gives.move (x := .tmp 4) rfl rfl) ?_
            simp only [Act.put, List.setIfInBounds_toArray, List.set_cons_zero, List.set_cons_succ]
            refine .step (some 135) rfl rfl (by kernel_rfl) (Gives.binop .gtr 3 3 (.tmp 134) (.const (.int .i64 0)) rfl _ _ _ rfl rfl (fun w' => rfl) (fun w' => gt_r hpos w')) ?_
            simp only [Act.put, List.setIfInBounds_toArray, List.set_cons_zero, List.set_cons_succ]
            refine .step (some 136) rfl rfl (by kernel_rfl) (Gives.move (x := .tmp 135) rfl rfl) ?_
            simp only [Act.put, List.setIfInBounds_toArray, List.set_cons_zero, List.set_cons_succ]
            refine .step (some 137) rfl rfl (by kernel_rfl) (Gives.fieldAt 26 (.tmp 1) 3 rfl _ _ rfl (fun w' => fv_3 _ w')) ?_
            simp only [Act.put, List.setIfInBounds_toArray, List.set_cons_zero, List.set_cons_succ]
            refine .step (some 138) rfl rfl (by kernel_rfl) (Gives.load 22 (.tmp 137) rfl _ _ rfl (fun w' h => ld_strs ((h.cell (lt_of_cell hc3)).trans hc3))) ?_
            simp only [Act.put, List.setIfInBounds_toArray, List.set_cons_zero, List.set_cons_succ]
            refine .step (some 139) rfl rfl (by kernel_rfl) (Gives.move (x := .tmp 4) rfl rfl) ?_
            simp only [Act.put, List.setIfInBounds_toArray, List.set_cons_zero, List.set_cons_succ]
            refine .step (some 140) rfl rfl (by kernel_rfl) (Gives.indexAt 22 (.tmp 138) (.tmp 139) rfl _ _ _ rfl rfl (fun w' => ix_str ad la ca (j) hj w')) ?_
            simp only [Act.put, List.setIfInBounds_toArray, List.set_cons_zero, List.set_cons_succ]
            refine .step (some 141) rfl rfl (by kernel_rfl) (Gives.load 9 (.tmp 140) rfl _ _ rfl (fun w' h => ld_str ((h.cell (lt_of_cell hcx)).trans hcx))) ?_
            simp only [Act.put, List.setIfInBounds_toArray, List.set_cons_zero, List.set_cons_succ]
            refine .step (some 142) rfl rfl (by kernel_rfl) (Gives.fieldAt 26 (.tmp 1) 3 rfl _ _ rfl (fun w' => fv_3 _ w')) ?_
            simp only [Act.put, List.setIfInBounds_toArray, List.set_cons_zero, List.set_cons_succ]
            refine .step (some 143) rfl rfl (by kernel_rfl) (Gives.load 22 (.tmp 142) rfl _ _ rfl (fun w' h => ld_strs ((h.cell (lt_of_cell hc3)).trans hc3))) ?_
            simp only [Act.put, List.setIfInBounds_toArray, List.set_cons_zero, List.set_cons_succ]
            refine .step (some 144) rfl rfl (by kernel_rfl) (Gives.move (x := .tmp 4) rfl rfl) ?_
            simp only [Act.put, List.setIfInBounds_toArray, List.set_cons_zero, List.set_cons_succ]
            refine .step (some 145) rfl rfl (by kernel_rfl) (Gives.binop .sub 3 3 (.tmp 144) (.const (.int .i64 1)) rfl _ _ _ rfl rfl (fun w' => rfl) (fun w' => sub_r (by omega) (by omega) w')) ?_
            simp only [Act.put, List.setIfInBounds_toArray, List.set_cons_zero, List.set_cons_succ]
            refine .step (some 146) rfl rfl (by kernel_rfl) (Gives.indexAt 22 (.tmp 143) (.tmp 145) rfl _ _ _ rfl rfl (fun w' => ix_str ad la ca (j - 1) (by omega) w')) ?_
            simp only [Act.put, List.setIfInBounds_toArray, List.set_cons_zero, List.set_cons_succ]
            refine .step (some 147) rfl rfl (by kernel_rfl) (Gives.load 9 (.tmp 146) rfl _ _ rfl (fun w' h => ld_str ((h.cell (lt_of_cell hcy)).trans hcy))) ?_
            simp only [Act.put, List.setIfInBounds_toArray, List.set_cons_zero, List.set_cons_succ]
            refine .step (some 148) rfl rfl (by kernel_rfl) (Gives.binop .leq 9 9 (.tmp 141) (.tmp 147) rfl (.string x) (.string y) _ rfl rfl (fun w' => rfl) (fun w' => le_r _ _ hle w')) ?_
            simp only [Act.put, List.setIfInBounds_toArray, List.set_cons_zero, List.set_cons_succ]
            refine .step (some 149) rfl rfl (by kernel_rfl) (Gives.pick (.tmp 136) (.tmp 148) (.const (.bool false)) rfl true (.bool (!true)) rfl rfl) ?_
            simp only [Act.put, List.setIfInBounds_toArray, List.set_cons_zero, List.set_cons_succ]
            refine .step (some 150) rfl rfl (by kernel_rfl) (Gives.pick (.tmp 133) (.const (.bool true)) (.tmp 149) rfl false (.bool (!true)) rfl rfl) ?_
            simp only [Act.put, List.setIfInBounds_toArray, List.set_cons_zero, List.set_cons_succ]
            exact .nil
          case hkd => kernel_rfl
          case hd =>
            intro Wq hb
            have HWQ := Lib.hid (HW1.out.trans (hb.mono HW1.out.size))
            have HBQ := Lib.hid (HB1.out.belowAll hb)
            clear hb hc3 hcx
            go_wp2_with fail
            go_roundw
            case rel => exact ⟨j + 1, by omega, by go_num, HMO.out, HBQ.out, HWQ.out⟩
            case measure => simp [intOf] <;> omega
    · obtain rfl : la = j := by omega
      have HA := Lib.hid hall
      have HB4 := Lib.hid hb0
      have HW4 := Lib.hid hw
      clear hall hb0 hw
      have RES := Lib.hid (show (headV 5 0 ByteArray.empty names ids la && allN ps la) = allN ps la by rw [HF0.out, HA.out]; rfl)
      go_wp2_with fail
      go_loopw [5] (fun i wr => i = .int .i64 0 ∧ Row wr w.heap.size 26 [.int .i64 5, .int .i64 0, .string ByteArray.empty, .slice a la ca, .slice b 0 cb, .slice c la cc] ∧ Below w.heap.size w wr) (fun i _ => 0)
      case atStart => exact ⟨rfl, HB4.out, HW4.out⟩
      case round =>
        obtain ⟨rfl, hb0, hw⟩ := hrel
        have hc5 := hb0.cell (k := 4) (v := .slice b 0 cb) rfl
        have HB5 := Lib.hid hb0
        have HW5 := Lib.hid hw
        clear hb0 hw
        go_wp2_with fail
        go_loopw [7] (fun i wr => ∃ j : Nat, j ≤ la ∧ i = .int .i64 (j : Int) ∧ allN ps j = true ∧ Row wr w.heap.size 26 [.int .i64 5, .int .i64 0, .string ByteArray.empty, .slice a la ca, .slice b 0 cb, .slice c la cc] ∧ Below w.heap.size w wr) (fun i _ => la - (intOf i).toNat)
        case atStart => exact ⟨0, Nat.zero_le _, rfl, rfl, HB5.out, HW5.out⟩
        case round =>
          obtain ⟨p, hpn, rfl, hpall, hpb, hpw⟩ := hrel
          have bp0 : (0 : Int) ≤ (p : Int) := by omega
          have hpc := hpb.cell (k := 5) (v := .slice c la cc) rfl
          by_cases hp : p < la
          · have hpi : (p : Int) < (la : Int) := by omega
            obtain ⟨ad, hade, hlen, hcell⟩ := (H3.out.below hpw).at_ hp
            subst hade
            have hm := allN_more ps p
            rw [hpall, Bool.true_and] at hm
            have HM := Lib.hid hm
            have HNO := Lib.hid (fun h => allN_no (f := ps) (n := p + 1) (k := la) h (by omega))
            have HIX := Lib.hid (ix_v ad la cc p hp wr)
            have HC := Lib.hid hcell
            have HL := Lib.hid (v_len hlen)
            have HREC := Lib.hid (IH.out p hp wr hpw)
            have HPB := Lib.hid hpb
            have HPW := Lib.hid hpw
            clear hm hpall hcell hlen hpb hpw
            generalize ps p = bp at *
            cases bp
            · go_wp2_with (first
                | (refine wpList_indexAt rfl 24 (.tmp 188) (.tmp 189) rfl _ _ _ rfl rfl HIX.out ?_)
                | (refine wpList_load_at rfl 26 (.tmp 190) rfl (ad.add (p * 6)) rfl (css p) _ HC.out Tryz.underlying26 rfl HL.out ?_))
              refine HREC.out.mono ?_
              rintro e W1 ⟨rfl, hb⟩
              have HB := Lib.hid hb
              clear hb
              go_wp2_with fail
              go_ret
              exact ⟨by rw [RES.out, HNO.out HM.out]; rfl, HPW.out.trans (HB.out.mono HPW.out.size)⟩
            · go_wp2_with (first
                | (refine wpList_indexAt rfl 24 (.tmp 188) (.tmp 189) rfl _ _ _ rfl rfl HIX.out ?_)
                | (refine wpList_load_at rfl 26 (.tmp 190) rfl (ad.add (p * 6)) rfl (css p) _ HC.out Tryz.underlying26 rfl HL.out ?_))
              refine HREC.out.mono ?_
              rintro e W1 ⟨rfl, hb⟩
              have HB := Lib.hid hb
              clear hb
              go_wp2_with fail
              go_roundw
              case rel => exact ⟨p + 1, by omega, by go_num, HM.out, HPB.out.belowAll HB.out, HPW.out.trans (HB.out.mono HPW.out.size)⟩
              case measure => simp [intOf] <;> omega
          · obtain rfl : la = p := by omega
            have HA := Lib.hid hpall
            have HPW := Lib.hid hpw
            clear hpall hpw
            go_wp2_with fail
            go_ret
            exact ⟨by rw [RES.out, HA.out]; rfl, HPW.out⟩
end

section
set_option maxRecDepth 100000
set_option linter.unusedSimpArgs false
set_option linter.unusedVariables false
open Go.RowKit
set_option maxHeartbeats 3200000 in
theorem rs_6 (n : Int) (s : ByteArray) (names : List ByteArray) (ids : List Int) (a b c : Option Addr) (la ca lb cb len cc : Nat) (css : Nat → List Value) (ps : Nat → Bool) (hs : s.size ≤ maxLen) (hss : ∀ x ∈ names, x.size ≤ maxLen) (hla : (la : Int) ≤ 9223372036854775807) (hlb : (lb : Int) ≤ 9223372036854775807) (hlc : (len : Int) ≤ 9223372036854775807) (w : World) (h1 : Strs w a la names) (h2 : Nums w b lb ids) (h3 : Parts w 6 c len css)
    (ih : ∀ j, j < len → ∀ w', Below w.heap.size w w' → Calls Tryz.prog 19 #[.agg (css j).toArray] w' fun e w'' => e = .returned (.bool (ps j)) ∧ Below w'.heap.size w' w'') :
    Calls Tryz.prog 19 #[.agg #[.int .i64 6, .int .i64 n, .string s, .slice a la ca, .slice b lb cb, .slice c len cc]] w fun e w' => e = .returned (.bool (headV 6 n s names ids len && allN ps len)) ∧ Below w.heap.size w w' := by
  have hl := Strs.len h1
  have hl2 := Nums.len h2
  have HB0 := Lib.hid (Row.new w [.int .i64 6, .int .i64 n, .string s, .slice a la ca, .slice b lb cb, .slice c len cc] 26)
  have HW := Lib.hid (Below.alloc1 w (.cells #[.int .i64 6, .int .i64 n, .string s, .slice a la ca, .slice b lb cb, .slice c len cc] 26))
  have H1 := Lib.hid h1
  have H2 := Lib.hid h2
  have H3 := Lib.hid h3
  have IH := Lib.hid ih
  have HSS := Lib.hid hss
  clear h1 h2 h3 ih hss
  by_cases hn0 : n = 0
  rotate_left
  · have gn : (n != 0) = true := bne_iff_ne.2 hn0
    have HF := Lib.hid (show (headV 6 n s names ids len && allN ps len) = false by unfold headV; simp [hl, hl2, sz0, hn0])
    clear hl hl2 H1 H2 H3 IH HSS HB0
    go_enter Tryz.func19, Tryz.ntmps19
    go_wp2_with fail
    go_ret
    exact ⟨by rw [HF.out]; rfl, HW.out⟩
  subst hn0
  by_cases hs0 : s = ByteArray.empty
  rotate_left
  · have gs0 : ¬ s.toList = [] := fun h => hs0 ((toL_nil s).1 h)
    have gs1 : (s.toList == []) = false := beq_eq_false_iff_ne.2 gs0
    have gs2 : (s.toList != []) = true := bne_iff_ne.2 gs0
    have gs4 : ¬ s.size = 0 := fun h => hs0 (sz_nil h)
    have HF := Lib.hid (show (headV 6 0 s names ids len && allN ps len) = false by unfold headV; simp [hl, hl2, sz0, gs4])
    clear hl hl2 H1 H2 H3 IH HSS HB0
    go_enter Tryz.func19, Tryz.ntmps19
    go_wp2_with fail
    go_ret
    exact ⟨by rw [HF.out]; rfl, HW.out⟩
  subst hs0
  by_cases hla0 : la = 0
  rotate_left
  · have g1 : (la : Int) > 0 := by omega
    have g2 : (0 : Int) < (la : Int) := by omega
    have g3 : 0 < la := by omega
    have HF := Lib.hid (show (headV 6 0 ByteArray.empty names ids len && allN ps len) = false by unfold headV; simp [hl, hl2, sz0, hla0])
    clear hl hl2 H1 H2 H3 IH HSS HB0
    go_enter Tryz.func19, Tryz.ntmps19
    go_wp2_with fail
    go_ret
    exact ⟨by rw [HF.out]; rfl, HW.out⟩
  subst hla0
  by_cases hm : lb ≤ 12
  rotate_left
  · have g1 : (lb : Int) > 12 := by omega
    have g2 : (12 : Int) < (lb : Int) := by omega
    have HF := Lib.hid (show (headV 6 0 ByteArray.empty names ids len && allN ps len) = false by unfold headV; simp [hl, hl2, sz0, hm])
    clear hl hl2 H1 H2 H3 IH HSS HB0
    go_enter Tryz.func19, Tryz.ntmps19
    go_wp2_with fail
    go_ret
    exact ⟨by rw [HF.out]; rfl, HW.out⟩
  have gm1 : ¬ (lb : Int) > 12 := by omega
  have gm2 : (lb : Int) ≤ 12 := by omega
  by_cases hll : lb = len
  rotate_left
  · have g1 : ((len : Int) != (lb : Int)) = true := bne_iff_ne.2 (by omega)
    have hll2 : ¬ len = lb := by omega
    have HF := Lib.hid (show (headV 6 0 ByteArray.empty names ids len && allN ps len) = false by unfold headV; simp [hl, hl2, sz0, hll2])
    clear hl hl2 H1 H2 H3 IH HSS HB0
    go_enter Tryz.func19, Tryz.ntmps19
    go_wp2_with fail
    go_ret
    exact ⟨by rw [HF.out]; rfl, HW.out⟩
  subst hll
  have HF0 := Lib.hid (show (headV 6 0 ByteArray.empty names ids lb && allN ps lb) = (idn ids lb && allN ps lb) by have e := ids_idn ids; rw [hl2] at e; unfold headV; simp [hl, hl2, sz0, hm, e])
  clear hl hl2 H1
  go_enter Tryz.func19, Tryz.ntmps19
  go_wp2_with fail
  go_loopw [4] (fun i wr => i = .int .i64 0 ∧ Row wr w.heap.size 26 [.int .i64 6, .int .i64 0, .string ByteArray.empty, .slice a 0 ca, .slice b lb cb, .slice c lb cc] ∧ Below w.heap.size w wr) (fun i _ => 0)
  case atStart => exact ⟨rfl, HB0.out, HW.out⟩
  case round =>
    obtain ⟨rfl, hb0, hw⟩ := hrel
    have hc4 := hb0.cell (k := 3) (v := .slice a 0 ca) rfl
    have HB4 := Lib.hid hb0
    have HW4 := Lib.hid hw
    clear hb0 hw
    go_wp2_with fail
    go_loopw [5] (fun i wr => ∃ j : Nat, j ≤ lb ∧ i = .int .i64 (j : Int) ∧ idn ids j = true ∧ Row wr w.heap.size 26 [.int .i64 6, .int .i64 0, .string ByteArray.empty, .slice a 0 ca, .slice b lb cb, .slice c lb cc] ∧ Below w.heap.size w wr) (fun i _ => lb - (intOf i).toNat)
    case atStart => exact ⟨0, Nat.zero_le _, rfl, rfl, HB4.out, HW4.out⟩
    case round =>
      obtain ⟨j, hjn, rfl, hall, hb0, hw⟩ := hrel
      have bj0 : (0 : Int) ≤ (j : Int) := by omega
      have hc4 := hb0.cell (k := 4) (v := .slice b lb cb) rfl
      by_cases hj : j < lb
      · have hji : (j : Int) < (lb : Int) := by omega
        have hmo := idn_more ids j
        rw [hall, Bool.true_and] at hmo
        have HMO := Lib.hid hmo
        have HNO := Lib.hid (fun h => idn_no (l := ids) (n := j + 1) (m := lb) h (by omega))
        have HB1 := Lib.hid hb0
        have HW1 := Lib.hid hw
        clear hall hmo hb0 hw
        obtain ⟨x, hx⟩ : ∃ x, ids.getD j 0 = x := ⟨_, rfl⟩
        rw [hx] at HMO
        have HX := Lib.hid hx
        clear hx
        go_wp2_with fail
        go_loopw [6] (fun i wr => ∃ q : Nat, q ≤ j ∧ i = .int .i64 (q : Int) ∧ allN (fun q => decide (x ≠ ids.getD q 0)) q = true ∧ Row wr w.heap.size 26 [.int .i64 6, .int .i64 0, .string ByteArray.empty, .slice a 0 ca, .slice b lb cb, .slice c lb cc] ∧ Below w.heap.size w wr) (fun i _ => j - (intOf i).toNat)
        case atStart => exact ⟨0, Nat.zero_le _, rfl, rfl, HB1.out, HW1.out⟩
        case round =>
          obtain ⟨q, hqn, rfl, hqall, hqb, hqw⟩ := hrel
          have bq0 : (0 : Int) ≤ (q : Int) := by omega
          obtain ⟨af, haf, hc'⟩ := Nums.at_ (H2.out.belowAll hqw) hj
          subst haf
          rw [HX.out] at hc'
          have hq4 := hqb.cell (k := 4) (v := .slice (some af) lb cb) rfl
          by_cases hq : q < j
          · have hqi : (q : Int) < (j : Int) := by omega
            have hqi2 : (q : Int) < (lb : Int) := by omega
            obtain ⟨ae, hae, hd⟩ := Nums.at_ (H2.out.belowAll hqw) (show q < lb by omega)
            cases hae
            have hmi := allN_more (fun q => decide (x ≠ ids.getD q 0)) q
            rw [hqall, Bool.true_and] at hmi
            have HNI := Lib.hid (fun h => allN_no (f := fun q => decide (x ≠ ids.getD q 0)) (n := q + 1) (k := j) h (by omega))
            have HQB := Lib.hid hqb
            have HQW := Lib.hid hqw
            clear hqall hqb hqw
            generalize ids.getD q 0 = y at *
            by_cases he : x = y
            · have heb : (x == y) = true := beq_iff_eq.2 he
              rw [decide_eq_false (show ¬ (x ≠ y) from fun h => h he)] at hmi
              have HMI := Lib.hid hmi
              clear hmi he
              go_wp2_with fail
              go_region
              go_wp2_with fail
              go_ret
              exact ⟨by rw [HF0.out, HNO.out (by rw [HMO.out, show ((List.range j).all fun q => decide (x ≠ ids.getD q 0)) = false from HNI.out HMI.out, Bool.and_false])]; rfl, HQW.out.drew⟩
            · have heb : (x == y) = false := beq_eq_false_iff_ne.2 he
              rw [decide_eq_true (show x ≠ y from he)] at hmi
              have HMI := Lib.hid hmi
              clear hmi
              go_wp2_with fail
              go_region
              go_wp2_with fail
              go_roundw
              case rel => exact ⟨q + 1, by omega, by go_num, HMI.out, HQB.out.belowAll (Below.refl _ _).drew, HQW.out.drew⟩
              case measure => simp [intOf] <;> omega
          · obtain rfl : q = j := by omega
            have HQA := Lib.hid hqall
            have HQB := Lib.hid hqb
            have HQW := Lib.hid hqw
            clear hqall hqb hqw
            by_cases hz : x = 0
            · have heb : (x == 0) = true := beq_iff_eq.2 hz
              have HZ := Lib.hid hz
              clear hz
              go_wp2_with fail
              go_ret
              exact ⟨by rw [HF0.out, HNO.out (by rw [HMO.out, decide_eq_false (show ¬ (x ≠ 0) from fun h => h HZ.out), Bool.false_and])]; rfl, HQW.out⟩
            · have heb : (x == 0) = false := beq_eq_false_iff_ne.2 hz
              have HZ := Lib.hid hz
              clear hz
              go_wp2_with fail
              go_roundw
              case rel => exact ⟨q + 1, by omega, by go_num, by rw [HMO.out, decide_eq_true (show x ≠ 0 from HZ.out), Bool.true_and]; exact HQA.out, HQB.out, HQW.out⟩
              case measure => simp [intOf] <;> omega
      · obtain rfl : lb = j := by omega
        have RES := Lib.hid (show (headV 6 0 ByteArray.empty names ids lb && allN ps lb) = allN ps lb by rw [HF0.out, hall]; rfl)
        have HB4 := Lib.hid hb0
        have HW4 := Lib.hid hw
        clear hall hb0 hw
        go_wp2_with fail
        go_loopw [7] (fun i wr => ∃ j : Nat, j ≤ lb ∧ i = .int .i64 (j : Int) ∧ allN ps j = true ∧ Row wr w.heap.size 26 [.int .i64 6, .int .i64 0, .string ByteArray.empty, .slice a 0 ca, .slice b lb cb, .slice c lb cc] ∧ Below w.heap.size w wr) (fun i _ => lb - (intOf i).toNat)
        case atStart => exact ⟨0, Nat.zero_le _, rfl, rfl, HB4.out, HW4.out⟩
        case round =>
          obtain ⟨p, hpn, rfl, hpall, hpb, hpw⟩ := hrel
          have bp0 : (0 : Int) ≤ (p : Int) := by omega
          have hpc := hpb.cell (k := 5) (v := .slice c lb cc) rfl
          by_cases hp : p < lb
          · have hpi : (p : Int) < (lb : Int) := by omega
            obtain ⟨ad, hade, hlen, hcell⟩ := (H3.out.below hpw).at_ hp
            subst hade
            have hm := allN_more ps p
            rw [hpall, Bool.true_and] at hm
            have HM := Lib.hid hm
            have HNO := Lib.hid (fun h => allN_no (f := ps) (n := p + 1) (k := lb) h (by omega))
            have HIX := Lib.hid (ix_v ad lb cc p hp wr)
            have HC := Lib.hid hcell
            have HL := Lib.hid (v_len hlen)
            have HREC := Lib.hid (IH.out p hp wr hpw)
            have HPB := Lib.hid hpb
            have HPW := Lib.hid hpw
            clear hm hpall hcell hlen hpb hpw
            generalize ps p = bp at *
            cases bp
            · go_wp2_with (first
                | (refine wpList_indexAt rfl 24 (.tmp 188) (.tmp 189) rfl _ _ _ rfl rfl HIX.out ?_)
                | (refine wpList_load_at rfl 26 (.tmp 190) rfl (ad.add (p * 6)) rfl (css p) _ HC.out Tryz.underlying26 rfl HL.out ?_))
              refine HREC.out.mono ?_
              rintro e W1 ⟨rfl, hb⟩
              have HB := Lib.hid hb
              clear hb
              go_wp2_with fail
              go_ret
              exact ⟨by rw [RES.out, HNO.out HM.out]; rfl, HPW.out.trans (HB.out.mono HPW.out.size)⟩
            · go_wp2_with (first
                | (refine wpList_indexAt rfl 24 (.tmp 188) (.tmp 189) rfl _ _ _ rfl rfl HIX.out ?_)
                | (refine wpList_load_at rfl 26 (.tmp 190) rfl (ad.add (p * 6)) rfl (css p) _ HC.out Tryz.underlying26 rfl HL.out ?_))
              refine HREC.out.mono ?_
              rintro e W1 ⟨rfl, hb⟩
              have HB := Lib.hid hb
              clear hb
              go_wp2_with fail
              go_roundw
              case rel => exact ⟨p + 1, by omega, by go_num, HM.out, HPB.out.belowAll HB.out, HPW.out.trans (HB.out.mono HPW.out.size)⟩
              case measure => simp [intOf] <;> omega
          · obtain rfl : lb = p := by omega
            have HA := Lib.hid hpall
            have HPW := Lib.hid hpw
            clear hpall hpw
            go_wp2_with fail
            go_ret
            exact ⟨by rw [RES.out, HA.out]; rfl, HPW.out⟩
end

section
set_option maxRecDepth 100000
set_option linter.unusedSimpArgs false
set_option linter.unusedVariables false
open Go.RowKit

/-- The first words are names, and none is bad beside one before it. -/
def okW (bad : ByteArray → ByteArray → Bool) (l : List ByteArray) (n : Nat) : Bool := (List.range n).all fun i => nameB (nth l i) && allN (fun j => !bad (nth l i) (nth l j)) i
theorem okW_more (bad : ByteArray → ByteArray → Bool) (l : List ByteArray) (n : Nat) : okW bad l (n + 1) = (okW bad l n && (nameB (nth l n) && allN (fun j => !bad (nth l n) (nth l j)) n)) := by
  unfold okW
  rw [List.range_succ, List.all_append]
  simp only [List.all_cons, List.all_nil, Bool.and_true]
theorem okW_no {bad : ByteArray → ByteArray → Bool} {l : List ByteArray} {n m : Nat} (h : okW bad l n = false) (hm : n ≤ m) : okW bad l m = false := by
  unfold okW at *
  rw [← Bool.not_eq_true, List.all_eq_true] at *
  exact fun h' => h fun i hi => h' i (List.mem_range.2 (by have := List.mem_range.1 hi; omega))
theorem ok_4 (l : List ByteArray) : wordsB l = okW (fun x y => eqS x y) l l.length := rfl
theorem ok_5 (l : List ByteArray) : riseB l = okW (fun x y => eqS x y || ltS x y) l l.length := by rw [← pair_rise]; rfl
end

section
set_option maxRecDepth 100000
set_option linter.unusedSimpArgs false
set_option linter.unusedVariables false
open Go.RowKit
theorem St.sound_eq {k : Int} {words : List ByteArray} {len : Nat} {parts : Nat → St} : (St.mk k words len parts).sound = (headS k words len && allN (fun i => (parts i).sound) len) := by rw [St.sound]; rfl
end

section
set_option maxRecDepth 100000
set_option linter.unusedSimpArgs false
set_option linter.unusedVariables false
open Go.RowKit

theorem Vt.sound_eq {k n : Int} {s : ByteArray} {names : List ByteArray} {ids : List Int} {len : Nat} {parts : Nat → Vt} : (Vt.mk k n s names ids len parts).sound = (headV k n s names ids len && allN (fun i => (parts i).sound) len) := by rw [Vt.sound]; rfl
theorem rsound_any : ∀ (v : Vt) (cs : List Value) (w : World), VAt w v cs →
    Calls Tryz.prog 19 #[.agg cs.toArray] w fun e w' => e = .returned (.bool v.sound) ∧ Below w.heap.size w w' := by
  intro v
  induction v with
  | nul => intro cs w h; cases h
  | mk k n s names ids len parts ih =>
    intro cs w h
    cases h with
    | mk css hk hn hs h1 h1c hss h2 h2c hi h3 h3c hp =>
    rename_i a b c la ca lb cb cc
    have hla : (la : Int) ≤ 9223372036854775807 := by have := h1c.1; have := h1c.2; unfold maxLen at this; omega
    have hlb : (lb : Int) ≤ 9223372036854775807 := by have := h2c.1; have := h2c.2; unfold maxLen at this; omega
    have hlc : (len : Int) ≤ 9223372036854775807 := by have := h3c.1; have := h3c.2; unfold maxLen at this; omega
    have hih : ∀ j, j < len → ∀ w', Below w.heap.size w w' → Calls Tryz.prog 19 #[.agg (css j).toArray] w' fun e w'' => e = .returned (.bool ((parts j).sound)) ∧ Below w'.heap.size w' w'' := fun j hj w' hb => ih j (css j) w' ((hp j hj).later hb)
    rw [Vt.sound_eq]
    by_cases c1 : k = 1
    · subst c1; exact rs_1 n s names ids a b c la ca lb cb len cc css _ hs hss hla hlb hlc w h1 h2 h3 hih
    by_cases c2 : k = 2
    · subst c2; exact rs_2 n s names ids a b c la ca lb cb len cc css _ hs hss hla hlb hlc w h1 h2 h3 hih
    by_cases c3 : k = 3
    · subst c3; exact rs_3 n s names ids a b c la ca lb cb len cc css _ hs hss hla hlb hlc w h1 h2 h3 hih
    by_cases c4 : k = 4
    · subst c4; exact rs_4 n s names ids a b c la ca lb cb len cc css _ hs hss hla hlb hlc w h1 h2 h3 hih
    by_cases c5 : k = 5
    · subst c5; exact rs_5 n s names ids a b c la ca lb cb len cc css _ hs hss hla hlb hlc w h1 h2 h3 hih
    by_cases c6 : k = 6
    · subst c6; exact rs_6 n s names ids a b c la ca lb cb len cc css _ hs hss hla hlb hlc w h1 h2 h3 hih
    have h0 := rs_0 k n s a b c la ca lb cb len cc c1 c2 c3 c4 c5 c6 w
    rw [show headV k n s names ids len = false by unfold headV; rw [if_neg c1, if_neg c2, if_neg c3, if_neg c4, if_neg c5, if_neg c6], Bool.false_and]
    exact h0
theorem rright_ref (v : Vt) (cs : List Value) (w : World) (h : VAt w v cs) (hd : v.depth ≤ 1000) :
    Calls Tryz.prog 7 #[.agg cs.toArray] w fun e w' => e = .returned (.bool (v.rightAt 1)) ∧ Below w.heap.size w w' := by
  have hw := Below.alloc1 w (.cells cs.toArray 26)
  have HD := Lib.hid (rdepth_ref v cs _ (h.later hw) hd)
  have HS := Lib.hid (fun wx hx => rsound_any v cs wx (h.later hx))
  have HW := Lib.hid hw
  have HB0 := Lib.hid (Row.new w cs 26)
  have HI := Lib.hid (v_info h.length)
  have HR := Lib.hid (show v.rightAt 1 = (decide (v.depth ≤ 5) && v.sound) by unfold Vt.rightAt; congr 1; rw [decide_eq_decide]; omega)
  clear hw h
  generalize v.depth = d at *
  generalize v.sound = bs at *
  by_cases h5 : d ≤ 5
  · have g5 : (d : Int) ≤ 5 := by omega
    go_enter Tryz.func7, Tryz.ntmps7
    go_wp2_with (refine wpList_load_row rfl 26 (.tmp 1) rfl w.heap.size rfl 26 _ (0, 0) _ HB0.out Tryz.underlying26 rfl HI.out ?_)
    refine HD.out.mono ?_
    rintro e W1 ⟨rfl, hb⟩
    have HW1 := Lib.hid (HW.out.trans (hb.mono HW.out.size))
    have HB1 := Lib.hid (HB0.out.belowAll hb)
    clear hb
    go_wp2_with (refine wpList_load_guarded (by rfl) 26 (.tmp 1) rfl w.heap.size rfl 26 _ HB1.out Tryz.underlying26 rfl HI.out ?_)
    refine (HS.out _ HW1.out).mono ?_
    rintro e W2 ⟨rfl, hb⟩
    have HB := Lib.hid hb
    clear hb
    go_wp2_with fail
    go_ret
    exact ⟨by rw [HR.out, decide_eq_true h5]; rfl, HW1.out.trans (HB.out.mono HW1.out.size)⟩
  · have g5 : ¬ (d : Int) ≤ 5 := by omega
    go_enter Tryz.func7, Tryz.ntmps7
    go_wp2_with (refine wpList_load_row rfl 26 (.tmp 1) rfl w.heap.size rfl 26 _ (0, 0) _ HB0.out Tryz.underlying26 rfl HI.out ?_)
    refine HD.out.mono ?_
    rintro e W1 ⟨rfl, hb⟩
    have HB := Lib.hid hb
    clear hb
    go_wp2_with fail
    go_ret
    exact ⟨by rw [HR.out, decide_eq_false h5]; rfl, HW.out.trans (HB.out.mono HW.out.size)⟩
end

end Go.Proofs.YtkjhmplnamaoaaaGreatDoor
