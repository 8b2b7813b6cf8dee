/- Whether a value is sound: the document (kinds 1 to 4). -/
import Derived.Test.YtmiadkhfjkaidaaGreatDoorMg16
namespace Go.Proofs.YtmiadkhfjkaidaaGreatDoor
section
set_option maxRecDepth 100000
set_option linter.unusedSimpArgs false
set_option linter.unusedVariables false
open Go.RowKit

theorem sz_nil {s : ByteArray} (h : s.size = 0) : s = ByteArray.empty := by
  apply (toL_nil s).1
  have : s.toList.length = 0 := by rw [ByteArray.toList_eq]; simpa using h
  exact List.length_eq_zero_iff.1 this
/-- The first names rise. -/
def ris (l : List ByteArray) (n : Nat) : Bool := (List.range n).all fun i => nameB (nth l i) && (decide (i = 0) || ltS (nth l (i - 1)) (nth l i))
theorem ris_more (l : List ByteArray) (n : Nat) : ris l (n + 1) = (ris l n && (nameB (nth l n) && (decide (n = 0) || ltS (nth l (n - 1)) (nth l n)))) := by
  unfold ris; rw [List.range_succ, List.all_append]; simp
theorem ris_no {l : List ByteArray} {n m : Nat} (h : ris l n = false) (hm : n ≤ m) : ris l m = false := by
  induction hm with
  | refl => exact h
  | step _ ih => rw [ris_more, ih]; rfl
theorem rise_ris (l : List ByteArray) : riseB l = ris l l.length := rfl
/-- The first numbers are not 0 and differ. -/
def idn (l : List Int) (n : Nat) : Bool := (List.range n).all fun i => decide (l.getD i 0 ≠ 0) && (List.range i).all fun j => decide (l.getD i 0 ≠ l.getD j 0)
theorem idn_more (l : List Int) (n : Nat) : idn l (n + 1) = (idn l n && (decide (l.getD n 0 ≠ 0) && (List.range n).all fun j => decide (l.getD n 0 ≠ l.getD j 0))) := by
  unfold idn; rw [List.range_succ, List.all_append]; simp
theorem idn_no {l : List Int} {n m : Nat} (h : idn l n = false) (hm : n ≤ m) : idn l m = false := by
  induction hm with
  | refl => exact h
  | step _ ih => rw [idn_more, ih]; rfl
theorem ids_idn (l : List Int) : idsB l = idn l l.length := rfl
set_option maxHeartbeats 3200000 in
theorem rs_1 (n : Int) (s : ByteArray) (names : List ByteArray) (ids : List Int) (a b c : Option Addr) (la ca lb cb len cc : Nat) (css : Nat → List Value) (ps : Nat → Bool) (hs : s.size ≤ maxLen) (hss : ∀ x ∈ names, x.size ≤ maxLen) (hla : (la : Int) ≤ 9223372036854775807) (hlb : (lb : Int) ≤ 9223372036854775807) (hlc : (len : Int) ≤ 9223372036854775807) (w : World) (h1 : Strs w a la names) (h2 : Nums w b lb ids) (h3 : Parts w 6 c len css)
    (ih : ∀ j, j < len → ∀ w', Below w.heap.size w w' → Calls Tryz.prog 50 #[.agg (css j).toArray] w' fun e w'' => e = .returned (.bool (ps j)) ∧ Below w'.heap.size w' w'') :
    Calls Tryz.prog 50 #[.agg #[.int .i64 1, .int .i64 n, .string s, .slice a la ca, .slice b lb cb, .slice c len cc]] w fun e w' => e = .returned (.bool (headV 1 n s names ids len && allN ps len)) ∧ Below w.heap.size w w' := by
  have hl := Strs.len h1
  have hl2 := Nums.len h2
  have HB0 := Lib.hid (Row.new w [.int .i64 1, .int .i64 n, .string s, .slice a la ca, .slice b lb cb, .slice c len cc] 28)
  have HW := Lib.hid (Below.alloc1 w (.cells #[.int .i64 1, .int .i64 n, .string s, .slice a la ca, .slice b lb cb, .slice c len cc] 28))
  have H1 := Lib.hid h1
  have H2 := Lib.hid h2
  have H3 := Lib.hid h3
  have IH := Lib.hid ih
  have HSS := Lib.hid hss
  clear h1 h2 h3 ih hss
  by_cases hs0 : s = ByteArray.empty
  rotate_left
  · have gs0 : ¬ s.toList = [] := fun h => hs0 ((toL_nil s).1 h)
    have gs1 : (s.toList == []) = false := beq_eq_false_iff_ne.2 gs0
    have gs2 : (s.toList != []) = true := bne_iff_ne.2 gs0
    have gs4 : ¬ s.size = 0 := fun h => hs0 (sz_nil h)
    have HF := Lib.hid (show (headV 1 n s names ids len && allN ps len) = false by unfold headV; simp [hl, hl2, sz0, gs4])
    clear hl hl2 H1 H2 H3 IH HSS HB0
    go_enter Tryz.func50, Tryz.ntmps50
    go_wp2_with fail
    go_ret
    exact ⟨by rw [HF.out]; rfl, HW.out⟩
  subst hs0
  by_cases hla0 : la = 0
  rotate_left
  · have g1 : (la : Int) > 0 := by omega
    have g2 : (0 : Int) < (la : Int) := by omega
    have g3 : 0 < la := by omega
    have HF := Lib.hid (show (headV 1 n ByteArray.empty names ids len && allN ps len) = false by unfold headV; simp [hl, hl2, sz0, hla0])
    clear hl hl2 H1 H2 H3 IH HSS HB0
    go_enter Tryz.func50, Tryz.ntmps50
    go_wp2_with fail
    go_ret
    exact ⟨by rw [HF.out]; rfl, HW.out⟩
  subst hla0
  by_cases hlb0 : lb = 0
  rotate_left
  · have g1 : (lb : Int) > 0 := by omega
    have g2 : (0 : Int) < (lb : Int) := by omega
    have g3 : 0 < lb := by omega
    have HF := Lib.hid (show (headV 1 n ByteArray.empty names ids len && allN ps len) = false by unfold headV; simp [hl, hl2, sz0, hlb0])
    clear hl hl2 H1 H2 H3 IH HSS HB0
    go_enter Tryz.func50, Tryz.ntmps50
    go_wp2_with fail
    go_ret
    exact ⟨by rw [HF.out]; rfl, HW.out⟩
  subst hlb0
  by_cases hn0 : n = 0
  · subst hn0
    by_cases hn1 : len = 0
    rotate_left
    · have g1 : ((len : Int) != 0) = true := bne_iff_ne.2 (by omega)
      have HF := Lib.hid (show (headV 1 0 ByteArray.empty names ids len && allN ps len) = false by unfold headV; simp [hl, hl2, sz0, hn1])
      clear hl hl2 H1 H2 H3 IH HSS HB0
      go_enter Tryz.func50, Tryz.ntmps50
      go_wp2_with fail
      go_ret
      exact ⟨by rw [HF.out]; rfl, HW.out⟩
    subst hn1
    have HF := Lib.hid (show (headV 1 0 ByteArray.empty names ids 0 && allN ps 0) = true by unfold headV; simp [hl, hl2, sz0, allN])
    clear hl hl2 H1 H2 H3 IH HSS
    go_enter Tryz.func50, Tryz.ntmps50
    go_wp2_with fail
    go_loopw [4] (fun i wr => i = .int .i64 0 ∧ Row wr w.heap.size 28 [.int .i64 1, .int .i64 0, .string ByteArray.empty, .slice a 0 ca, .slice b 0 cb, .slice c 0 cc] ∧ Below w.heap.size w wr) (fun i _ => 0)
    case atStart => exact ⟨rfl, HB0.out, HW.out⟩
    case round =>
      obtain ⟨rfl, hb0, hw⟩ := hrel
      have hc4 := hb0.cell (k := 3) (v := .slice a 0 ca) rfl
      have HB4 := Lib.hid hb0
      have HW4 := Lib.hid hw
      clear hb0 hw
      go_wp2_with fail
      go_loopw [5] (fun i wr => i = .int .i64 0 ∧ Row wr w.heap.size 28 [.int .i64 1, .int .i64 0, .string ByteArray.empty, .slice a 0 ca, .slice b 0 cb, .slice c 0 cc] ∧ Below w.heap.size w wr) (fun i _ => 0)
      case atStart => exact ⟨rfl, HB4.out, HW4.out⟩
      case round =>
        obtain ⟨rfl, hb0, hw⟩ := hrel
        have hc5 := hb0.cell (k := 4) (v := .slice b 0 cb) rfl
        have HB5 := Lib.hid hb0
        have HW5 := Lib.hid hw
        clear hb0 hw
        go_wp2_with fail
        go_loopw [7] (fun i wr => i = .int .i64 0 ∧ Row wr w.heap.size 28 [.int .i64 1, .int .i64 0, .string ByteArray.empty, .slice a 0 ca, .slice b 0 cb, .slice c 0 cc] ∧ Below w.heap.size w wr) (fun i _ => 0)
        case atStart => exact ⟨rfl, HB5.out, HW5.out⟩
        case round =>
          obtain ⟨rfl, hb0, hw⟩ := hrel
          have hc7 := hb0.cell (k := 5) (v := .slice c 0 cc) rfl
          have HB7 := Lib.hid hb0
          have HW7 := Lib.hid hw
          clear hb0 hw
          go_wp2_with fail
          go_ret
          exact ⟨by rw [HF.out]; rfl, HW7.out⟩
  by_cases hn1 : n = 1
  · subst hn1
    by_cases hn1 : len = 0
    rotate_left
    · have g1 : ((len : Int) != 0) = true := bne_iff_ne.2 (by omega)
      have HF := Lib.hid (show (headV 1 1 ByteArray.empty names ids len && allN ps len) = false by unfold headV; simp [hl, hl2, sz0, hn1])
      clear hl hl2 H1 H2 H3 IH HSS HB0
      go_enter Tryz.func50, Tryz.ntmps50
      go_wp2_with fail
      go_ret
      exact ⟨by rw [HF.out]; rfl, HW.out⟩
    subst hn1
    have HF := Lib.hid (show (headV 1 1 ByteArray.empty names ids 0 && allN ps 0) = true by unfold headV; simp [hl, hl2, sz0, allN])
    clear hl hl2 H1 H2 H3 IH HSS
    go_enter Tryz.func50, Tryz.ntmps50
    go_wp2_with fail
    go_loopw [4] (fun i wr => i = .int .i64 0 ∧ Row wr w.heap.size 28 [.int .i64 1, .int .i64 1, .string ByteArray.empty, .slice a 0 ca, .slice b 0 cb, .slice c 0 cc] ∧ Below w.heap.size w wr) (fun i _ => 0)
    case atStart => exact ⟨rfl, HB0.out, HW.out⟩
    case round =>
      obtain ⟨rfl, hb0, hw⟩ := hrel
      have hc4 := hb0.cell (k := 3) (v := .slice a 0 ca) rfl
      have HB4 := Lib.hid hb0
      have HW4 := Lib.hid hw
      clear hb0 hw
      go_wp2_with fail
      go_loopw [5] (fun i wr => i = .int .i64 0 ∧ Row wr w.heap.size 28 [.int .i64 1, .int .i64 1, .string ByteArray.empty, .slice a 0 ca, .slice b 0 cb, .slice c 0 cc] ∧ Below w.heap.size w wr) (fun i _ => 0)
      case atStart => exact ⟨rfl, HB4.out, HW4.out⟩
      case round =>
        obtain ⟨rfl, hb0, hw⟩ := hrel
        have hc5 := hb0.cell (k := 4) (v := .slice b 0 cb) rfl
        have HB5 := Lib.hid hb0
        have HW5 := Lib.hid hw
        clear hb0 hw
        go_wp2_with fail
        go_loopw [7] (fun i wr => i = .int .i64 0 ∧ Row wr w.heap.size 28 [.int .i64 1, .int .i64 1, .string ByteArray.empty, .slice a 0 ca, .slice b 0 cb, .slice c 0 cc] ∧ Below w.heap.size w wr) (fun i _ => 0)
        case atStart => exact ⟨rfl, HB5.out, HW5.out⟩
        case round =>
          obtain ⟨rfl, hb0, hw⟩ := hrel
          have hc7 := hb0.cell (k := 5) (v := .slice c 0 cc) rfl
          have HB7 := Lib.hid hb0
          have HW7 := Lib.hid hw
          clear hb0 hw
          go_wp2_with fail
          go_ret
          exact ⟨by rw [HF.out]; rfl, HW7.out⟩
  have gn : (n != 0) = true := bne_iff_ne.2 hn0
  have gn2 : (n != 1) = true := bne_iff_ne.2 hn1
  have HF := Lib.hid (show (headV 1 n ByteArray.empty names ids len && allN ps len) = false by unfold headV; simp [hl, hl2, sz0, hn0, hn1])
  clear hl hl2 H1 H2 H3 IH HSS HB0
  go_enter Tryz.func50, Tryz.ntmps50
  go_wp2_with fail
  go_ret
  exact ⟨by rw [HF.out]; rfl, HW.out⟩
set_option maxHeartbeats 3200000 in
theorem rs_2 (n : Int) (s : ByteArray) (names : List ByteArray) (ids : List Int) (a b c : Option Addr) (la ca lb cb len cc : Nat) (css : Nat → List Value) (ps : Nat → Bool) (hs : s.size ≤ maxLen) (hss : ∀ x ∈ names, x.size ≤ maxLen) (hla : (la : Int) ≤ 9223372036854775807) (hlb : (lb : Int) ≤ 9223372036854775807) (hlc : (len : Int) ≤ 9223372036854775807) (w : World) (h1 : Strs w a la names) (h2 : Nums w b lb ids) (h3 : Parts w 6 c len css)
    (ih : ∀ j, j < len → ∀ w', Below w.heap.size w w' → Calls Tryz.prog 50 #[.agg (css j).toArray] w' fun e w'' => e = .returned (.bool (ps j)) ∧ Below w'.heap.size w' w'') :
    Calls Tryz.prog 50 #[.agg #[.int .i64 2, .int .i64 n, .string s, .slice a la ca, .slice b lb cb, .slice c len cc]] w fun e w' => e = .returned (.bool (headV 2 n s names ids len && allN ps len)) ∧ Below w.heap.size w w' := by
  have hl := Strs.len h1
  have hl2 := Nums.len h2
  have HB0 := Lib.hid (Row.new w [.int .i64 2, .int .i64 n, .string s, .slice a la ca, .slice b lb cb, .slice c len cc] 28)
  have HW := Lib.hid (Below.alloc1 w (.cells #[.int .i64 2, .int .i64 n, .string s, .slice a la ca, .slice b lb cb, .slice c len cc] 28))
  have H1 := Lib.hid h1
  have H2 := Lib.hid h2
  have H3 := Lib.hid h3
  have IH := Lib.hid ih
  have HSS := Lib.hid hss
  clear h1 h2 h3 ih hss
  by_cases hs0 : s = ByteArray.empty
  rotate_left
  · have gs0 : ¬ s.toList = [] := fun h => hs0 ((toL_nil s).1 h)
    have gs1 : (s.toList == []) = false := beq_eq_false_iff_ne.2 gs0
    have gs2 : (s.toList != []) = true := bne_iff_ne.2 gs0
    have gs4 : ¬ s.size = 0 := fun h => hs0 (sz_nil h)
    have HF := Lib.hid (show (headV 2 n s names ids len && allN ps len) = false by unfold headV; simp [hl, hl2, sz0, gs4])
    clear hl hl2 H1 H2 H3 IH HSS HB0
    go_enter Tryz.func50, Tryz.ntmps50
    go_wp2_with fail
    go_ret
    exact ⟨by rw [HF.out]; rfl, HW.out⟩
  subst hs0
  by_cases hla0 : la = 0
  rotate_left
  · have g1 : (la : Int) > 0 := by omega
    have g2 : (0 : Int) < (la : Int) := by omega
    have g3 : 0 < la := by omega
    have HF := Lib.hid (show (headV 2 n ByteArray.empty names ids len && allN ps len) = false by unfold headV; simp [hl, hl2, sz0, hla0])
    clear hl hl2 H1 H2 H3 IH HSS HB0
    go_enter Tryz.func50, Tryz.ntmps50
    go_wp2_with fail
    go_ret
    exact ⟨by rw [HF.out]; rfl, HW.out⟩
  subst hla0
  by_cases hlb0 : lb = 0
  rotate_left
  · have g1 : (lb : Int) > 0 := by omega
    have g2 : (0 : Int) < (lb : Int) := by omega
    have g3 : 0 < lb := by omega
    have HF := Lib.hid (show (headV 2 n ByteArray.empty names ids len && allN ps len) = false by unfold headV; simp [hl, hl2, sz0, hlb0])
    clear hl hl2 H1 H2 H3 IH HSS HB0
    go_enter Tryz.func50, Tryz.ntmps50
    go_wp2_with fail
    go_ret
    exact ⟨by rw [HF.out]; rfl, HW.out⟩
  subst hlb0
  by_cases hn1 : len = 0
  rotate_left
  · have g1 : ((len : Int) != 0) = true := bne_iff_ne.2 (by omega)
    have HF := Lib.hid (show (headV 2 n ByteArray.empty names ids len && allN ps len) = false by unfold headV; simp [hl, hl2, sz0, hn1])
    clear hl hl2 H1 H2 H3 IH HSS HB0
    go_enter Tryz.func50, Tryz.ntmps50
    go_wp2_with fail
    go_ret
    exact ⟨by rw [HF.out]; rfl, HW.out⟩
  subst hn1
  have HF := Lib.hid (show (headV 2 n ByteArray.empty names ids 0 && allN ps 0) = true by unfold headV; simp [hl, hl2, sz0, allN])
  clear hl hl2 H1 H2 H3 IH HSS
  go_enter Tryz.func50, Tryz.ntmps50
  go_wp2_with fail
  go_loopw [4] (fun i wr => i = .int .i64 0 ∧ Row wr w.heap.size 28 [.int .i64 2, .int .i64 n, .string ByteArray.empty, .slice a 0 ca, .slice b 0 cb, .slice c 0 cc] ∧ Below w.heap.size w wr) (fun i _ => 0)
  case atStart => exact ⟨rfl, HB0.out, HW.out⟩
  case round =>
    obtain ⟨rfl, hb0, hw⟩ := hrel
    have hc4 := hb0.cell (k := 3) (v := .slice a 0 ca) rfl
    have HB4 := Lib.hid hb0
    have HW4 := Lib.hid hw
    clear hb0 hw
    go_wp2_with fail
    go_loopw [5] (fun i wr => i = .int .i64 0 ∧ Row wr w.heap.size 28 [.int .i64 2, .int .i64 n, .string ByteArray.empty, .slice a 0 ca, .slice b 0 cb, .slice c 0 cc] ∧ Below w.heap.size w wr) (fun i _ => 0)
    case atStart => exact ⟨rfl, HB4.out, HW4.out⟩
    case round =>
      obtain ⟨rfl, hb0, hw⟩ := hrel
      have hc5 := hb0.cell (k := 4) (v := .slice b 0 cb) rfl
      have HB5 := Lib.hid hb0
      have HW5 := Lib.hid hw
      clear hb0 hw
      go_wp2_with fail
      go_loopw [7] (fun i wr => i = .int .i64 0 ∧ Row wr w.heap.size 28 [.int .i64 2, .int .i64 n, .string ByteArray.empty, .slice a 0 ca, .slice b 0 cb, .slice c 0 cc] ∧ Below w.heap.size w wr) (fun i _ => 0)
      case atStart => exact ⟨rfl, HB5.out, HW5.out⟩
      case round =>
        obtain ⟨rfl, hb0, hw⟩ := hrel
        have hc7 := hb0.cell (k := 5) (v := .slice c 0 cc) rfl
        have HB7 := Lib.hid hb0
        have HW7 := Lib.hid hw
        clear hb0 hw
        go_wp2_with fail
        go_ret
        exact ⟨by rw [HF.out]; rfl, HW7.out⟩
set_option maxHeartbeats 3200000 in
theorem rs_3 (n : Int) (s : ByteArray) (names : List ByteArray) (ids : List Int) (a b c : Option Addr) (la ca lb cb len cc : Nat) (css : Nat → List Value) (ps : Nat → Bool) (hs : s.size ≤ maxLen) (hss : ∀ x ∈ names, x.size ≤ maxLen) (hla : (la : Int) ≤ 9223372036854775807) (hlb : (lb : Int) ≤ 9223372036854775807) (hlc : (len : Int) ≤ 9223372036854775807) (w : World) (h1 : Strs w a la names) (h2 : Nums w b lb ids) (h3 : Parts w 6 c len css)
    (ih : ∀ j, j < len → ∀ w', Below w.heap.size w w' → Calls Tryz.prog 50 #[.agg (css j).toArray] w' fun e w'' => e = .returned (.bool (ps j)) ∧ Below w'.heap.size w' w'') :
    Calls Tryz.prog 50 #[.agg #[.int .i64 3, .int .i64 n, .string s, .slice a la ca, .slice b lb cb, .slice c len cc]] w fun e w' => e = .returned (.bool (headV 3 n s names ids len && allN ps len)) ∧ Below w.heap.size w w' := by
  have hl := Strs.len h1
  have hl2 := Nums.len h2
  have HB0 := Lib.hid (Row.new w [.int .i64 3, .int .i64 n, .string s, .slice a la ca, .slice b lb cb, .slice c len cc] 28)
  have HW := Lib.hid (Below.alloc1 w (.cells #[.int .i64 3, .int .i64 n, .string s, .slice a la ca, .slice b lb cb, .slice c len cc] 28))
  have H1 := Lib.hid h1
  have H2 := Lib.hid h2
  have H3 := Lib.hid h3
  have IH := Lib.hid ih
  have HSS := Lib.hid hss
  clear h1 h2 h3 ih hss
  by_cases hn0 : n = 0
  rotate_left
  · have gn : (n != 0) = true := bne_iff_ne.2 hn0
    have HF := Lib.hid (show (headV 3 n s names ids len && allN ps len) = false by unfold headV; simp [hl, hl2, sz0, hn0])
    clear hl hl2 H1 H2 H3 IH HSS HB0
    go_enter Tryz.func50, Tryz.ntmps50
    go_wp2_with fail
    go_ret
    exact ⟨by rw [HF.out]; rfl, HW.out⟩
  subst hn0
  by_cases hla0 : la = 0
  rotate_left
  · have g1 : (la : Int) > 0 := by omega
    have g2 : (0 : Int) < (la : Int) := by omega
    have g3 : 0 < la := by omega
    have HF := Lib.hid (show (headV 3 0 s names ids len && allN ps len) = false by unfold headV; simp [hl, hl2, sz0, hla0])
    clear hl hl2 H1 H2 H3 IH HSS HB0
    go_enter Tryz.func50, Tryz.ntmps50
    go_wp2_with fail
    go_ret
    exact ⟨by rw [HF.out]; rfl, HW.out⟩
  subst hla0
  by_cases hlb0 : lb = 0
  rotate_left
  · have g1 : (lb : Int) > 0 := by omega
    have g2 : (0 : Int) < (lb : Int) := by omega
    have g3 : 0 < lb := by omega
    have HF := Lib.hid (show (headV 3 0 s names ids len && allN ps len) = false by unfold headV; simp [hl, hl2, sz0, hlb0])
    clear hl hl2 H1 H2 H3 IH HSS HB0
    go_enter Tryz.func50, Tryz.ntmps50
    go_wp2_with fail
    go_ret
    exact ⟨by rw [HF.out]; rfl, HW.out⟩
  subst hlb0
  by_cases h64 : s.size ≤ 64
  rotate_left
  · have g1 : (s.size : Int) > 64 := by omega
    have g2 : (64 : Int) < (s.size : Int) := by omega
    have g3 : 64 < s.size := by omega
    have HF := Lib.hid (show (headV 3 0 s names ids len && allN ps len) = false by unfold headV; simp [hl, hl2, sz0, h64])
    clear hl hl2 H1 H2 H3 IH HSS HB0
    go_enter Tryz.func50, Tryz.ntmps50
    go_wp2_with fail
    go_ret
    exact ⟨by rw [HF.out]; rfl, HW.out⟩
  have g1 : ¬ (s.size : Int) > 64 := by omega
  have g2 : (s.size : Int) ≤ 64 := by omega
  by_cases hn1 : len = 0
  rotate_left
  · have g1 : ((len : Int) != 0) = true := bne_iff_ne.2 (by omega)
    have HF := Lib.hid (show (headV 3 0 s names ids len && allN ps len) = false by unfold headV; simp [hl, hl2, sz0, hn1])
    clear hl hl2 H1 H2 H3 IH HSS HB0
    go_enter Tryz.func50, Tryz.ntmps50
    go_wp2_with fail
    go_ret
    exact ⟨by rw [HF.out]; rfl, HW.out⟩
  subst hn1
  have HF := Lib.hid (show (headV 3 0 s names ids 0 && allN ps 0) = true by unfold headV; simp [hl, hl2, sz0, allN, h64])
  clear hl hl2 H1 H2 H3 IH HSS
  go_enter Tryz.func50, Tryz.ntmps50
  go_wp2_with fail
  go_loopw [4] (fun i wr => i = .int .i64 0 ∧ Row wr w.heap.size 28 [.int .i64 3, .int .i64 0, .string s, .slice a 0 ca, .slice b 0 cb, .slice c 0 cc] ∧ Below w.heap.size w wr) (fun i _ => 0)
  case atStart => exact ⟨rfl, HB0.out, HW.out⟩
  case round =>
    obtain ⟨rfl, hb0, hw⟩ := hrel
    have hc4 := hb0.cell (k := 3) (v := .slice a 0 ca) rfl
    have HB4 := Lib.hid hb0
    have HW4 := Lib.hid hw
    clear hb0 hw
    go_wp2_with fail
    go_loopw [5] (fun i wr => i = .int .i64 0 ∧ Row wr w.heap.size 28 [.int .i64 3, .int .i64 0, .string s, .slice a 0 ca, .slice b 0 cb, .slice c 0 cc] ∧ Below w.heap.size w wr) (fun i _ => 0)
    case atStart => exact ⟨rfl, HB4.out, HW4.out⟩
    case round =>
      obtain ⟨rfl, hb0, hw⟩ := hrel
      have hc5 := hb0.cell (k := 4) (v := .slice b 0 cb) rfl
      have HB5 := Lib.hid hb0
      have HW5 := Lib.hid hw
      clear hb0 hw
      go_wp2_with fail
      go_loopw [7] (fun i wr => i = .int .i64 0 ∧ Row wr w.heap.size 28 [.int .i64 3, .int .i64 0, .string s, .slice a 0 ca, .slice b 0 cb, .slice c 0 cc] ∧ Below w.heap.size w wr) (fun i _ => 0)
      case atStart => exact ⟨rfl, HB5.out, HW5.out⟩
      case round =>
        obtain ⟨rfl, hb0, hw⟩ := hrel
        have hc7 := hb0.cell (k := 5) (v := .slice c 0 cc) rfl
        have HB7 := Lib.hid hb0
        have HW7 := Lib.hid hw
        clear hb0 hw
        go_wp2_with fail
        go_ret
        exact ⟨by rw [HF.out]; rfl, HW7.out⟩
set_option maxHeartbeats 3200000 in
theorem rs_4 (n : Int) (s : ByteArray) (names : List ByteArray) (ids : List Int) (a b c : Option Addr) (la ca lb cb len cc : Nat) (css : Nat → List Value) (ps : Nat → Bool) (hs : s.size ≤ maxLen) (hss : ∀ x ∈ names, x.size ≤ maxLen) (hla : (la : Int) ≤ 9223372036854775807) (hlb : (lb : Int) ≤ 9223372036854775807) (hlc : (len : Int) ≤ 9223372036854775807) (w : World) (h1 : Strs w a la names) (h2 : Nums w b lb ids) (h3 : Parts w 6 c len css)
    (ih : ∀ j, j < len → ∀ w', Below w.heap.size w w' → Calls Tryz.prog 50 #[.agg (css j).toArray] w' fun e w'' => e = .returned (.bool (ps j)) ∧ Below w'.heap.size w' w'') :
    Calls Tryz.prog 50 #[.agg #[.int .i64 4, .int .i64 n, .string s, .slice a la ca, .slice b lb cb, .slice c len cc]] w fun e w' => e = .returned (.bool (headV 4 n s names ids len && allN ps len)) ∧ Below w.heap.size w w' := by
  have hl := Strs.len h1
  have hl2 := Nums.len h2
  have HB0 := Lib.hid (Row.new w [.int .i64 4, .int .i64 n, .string s, .slice a la ca, .slice b lb cb, .slice c len cc] 28)
  have HW := Lib.hid (Below.alloc1 w (.cells #[.int .i64 4, .int .i64 n, .string s, .slice a la ca, .slice b lb cb, .slice c len cc] 28))
  have H1 := Lib.hid h1
  have H2 := Lib.hid h2
  have H3 := Lib.hid h3
  have IH := Lib.hid ih
  have HSS := Lib.hid hss
  clear h1 h2 h3 ih hss
  by_cases hn0 : n = 0
  rotate_left
  · have gn : (n != 0) = true := bne_iff_ne.2 hn0
    have HF := Lib.hid (show (headV 4 n s names ids len && allN ps len) = false by unfold headV; simp [hl, hl2, sz0, hn0])
    clear hl hl2 H1 H2 H3 IH HSS HB0
    go_enter Tryz.func50, Tryz.ntmps50
    go_wp2_with fail
    go_ret
    exact ⟨by rw [HF.out]; rfl, HW.out⟩
  subst hn0
  by_cases hla0 : la = 0
  rotate_left
  · have g1 : (la : Int) > 0 := by omega
    have g2 : (0 : Int) < (la : Int) := by omega
    have g3 : 0 < la := by omega
    have HF := Lib.hid (show (headV 4 0 s names ids len && allN ps len) = false by unfold headV; simp [hl, hl2, sz0, hla0])
    clear hl hl2 H1 H2 H3 IH HSS HB0
    go_enter Tryz.func50, Tryz.ntmps50
    go_wp2_with fail
    go_ret
    exact ⟨by rw [HF.out]; rfl, HW.out⟩
  subst hla0
  by_cases hlb0 : lb = 0
  rotate_left
  · have g1 : (lb : Int) > 0 := by omega
    have g2 : (0 : Int) < (lb : Int) := by omega
    have g3 : 0 < lb := by omega
    have HF := Lib.hid (show (headV 4 0 s names ids len && allN ps len) = false by unfold headV; simp [hl, hl2, sz0, hlb0])
    clear hl hl2 H1 H2 H3 IH HSS HB0
    go_enter Tryz.func50, Tryz.ntmps50
    go_wp2_with fail
    go_ret
    exact ⟨by rw [HF.out]; rfl, HW.out⟩
  subst hlb0
  have HNA := Lib.hid (fun wx => rname_ref s hs wx)
  obtain ⟨bn, hna⟩ : ∃ b, nameB s = b := ⟨_, rfl⟩
  rw [hna] at HNA
  cases bn
  · have HF := Lib.hid (show (headV 4 0 s names ids len && allN ps len) = false by unfold headV; simp [hl, hl2, sz0, hna])
    clear hna hl hl2 H1 H2 H3 IH HSS HB0
    go_enter Tryz.func50, Tryz.ntmps50
    go_wp2_with fail
    refine (HNA.out _).mono ?_
    rintro e w' ⟨rfl, rfl⟩
    go_wp2_with fail
    go_ret
    exact ⟨by rw [HF.out]; rfl, HW.out⟩
  by_cases hn1 : len = 0
  rotate_left
  · have g1 : ((len : Int) != 0) = true := bne_iff_ne.2 (by omega)
    have HF := Lib.hid (show (headV 4 0 s names ids len && allN ps len) = false by unfold headV; simp [hl, hl2, sz0, hn1])
    clear hna hl hl2 H1 H2 H3 IH HSS HB0
    go_enter Tryz.func50, Tryz.ntmps50
    go_wp2_with fail
    refine (HNA.out _).mono ?_
    rintro e w' ⟨rfl, rfl⟩
    go_wp2_with fail
    go_ret
    exact ⟨by rw [HF.out]; rfl, HW.out⟩
  subst hn1
  have HF := Lib.hid (show (headV 4 0 s names ids 0 && allN ps 0) = true by unfold headV; simp [hl, hl2, sz0, allN, hna])
  clear hna hl hl2 H1 H2 H3 IH HSS
  go_enter Tryz.func50, Tryz.ntmps50
  go_wp2_with fail
  refine (HNA.out _).mono ?_
  rintro e w' ⟨rfl, rfl⟩
  go_wp2_with fail
  go_loopw [4] (fun i wr => i = .int .i64 0 ∧ Row wr w.heap.size 28 [.int .i64 4, .int .i64 0, .string s, .slice a 0 ca, .slice b 0 cb, .slice c 0 cc] ∧ Below w.heap.size w wr) (fun i _ => 0)
  case atStart => exact ⟨rfl, HB0.out, HW.out⟩
  case round =>
    obtain ⟨rfl, hb0, hw⟩ := hrel
    have hc4 := hb0.cell (k := 3) (v := .slice a 0 ca) rfl
    have HB4 := Lib.hid hb0
    have HW4 := Lib.hid hw
    clear hb0 hw
    go_wp2_with fail
    go_loopw [5] (fun i wr => i = .int .i64 0 ∧ Row wr w.heap.size 28 [.int .i64 4, .int .i64 0, .string s, .slice a 0 ca, .slice b 0 cb, .slice c 0 cc] ∧ Below w.heap.size w wr) (fun i _ => 0)
    case atStart => exact ⟨rfl, HB4.out, HW4.out⟩
    case round =>
      obtain ⟨rfl, hb0, hw⟩ := hrel
      have hc5 := hb0.cell (k := 4) (v := .slice b 0 cb) rfl
      have HB5 := Lib.hid hb0
      have HW5 := Lib.hid hw
      clear hb0 hw
      go_wp2_with fail
      go_loopw [7] (fun i wr => i = .int .i64 0 ∧ Row wr w.heap.size 28 [.int .i64 4, .int .i64 0, .string s, .slice a 0 ca, .slice b 0 cb, .slice c 0 cc] ∧ Below w.heap.size w wr) (fun i _ => 0)
      case atStart => exact ⟨rfl, HB5.out, HW5.out⟩
      case round =>
        obtain ⟨rfl, hb0, hw⟩ := hrel
        have hc7 := hb0.cell (k := 5) (v := .slice c 0 cc) rfl
        have HB7 := Lib.hid hb0
        have HW7 := Lib.hid hw
        clear hb0 hw
        go_wp2_with fail
        go_ret
        exact ⟨by rw [HF.out]; rfl, HW7.out⟩

theorem rs_0 (k : Int) (n : Int) (s : ByteArray) (a b c : Option Addr) (la ca lb cb len cc : Nat) (h1 : ¬ k = 1) (h2 : ¬ k = 2) (h3 : ¬ k = 3) (h4 : ¬ k = 4) (h5 : ¬ k = 5) (h6 : ¬ k = 6) (w : World) :
    Calls Tryz.prog 50 #[.agg #[.int .i64 k, .int .i64 n, .string s, .slice a la ca, .slice b lb cb, .slice c len cc]] w fun e w' => e = .returned (.bool false) ∧ Below w.heap.size w w' := by
  have HW := Lib.hid (Below.alloc1 w (.cells #[.int .i64 k, .int .i64 n, .string s, .slice a la ca, .slice b lb cb, .slice c len cc] 28))
  have e1 : (k != 1) = true := bne_iff_ne.2 h1
  have e2 : (k != 2) = true := bne_iff_ne.2 h2
  have e3 : (k != 3) = true := bne_iff_ne.2 h3
  have e4 : (k != 4) = true := bne_iff_ne.2 h4
  have e5 : (k != 5) = true := bne_iff_ne.2 h5
  have e6 : (k != 6) = true := bne_iff_ne.2 h6
  by_cases hk : k < 1
  · go_enter Tryz.func50, Tryz.ntmps50
    go_wp2_with fail
    go_ret
    exact ⟨rfl, HW.out⟩
  · have g1 : k > 6 := by omega
    have g2 : ¬ k ≤ 6 := by omega
    have g3 : (6 : Int) < k := by omega
    go_enter Tryz.func50, Tryz.ntmps50
    go_wp2_with fail
    go_ret
    exact ⟨rfl, HW.out⟩
end

end Go.Proofs.YtmiadkhfjkaidaaGreatDoor
