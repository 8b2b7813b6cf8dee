/- Lists of names and of numbers, as the program asks of them: follows, Right; Index, Contains, fresh, elements. A schema's words: has, fresh, choice. -/
import Derived.Test.YtmiadkhfjkaidaaGreatDoorMg6
namespace Go.Proofs.YtmiadkhfjkaidaaGreatDoor
section
set_option maxRecDepth 100000
set_option linter.unusedSimpArgs false
set_option linter.unusedVariables false
open Go.RowKit

abbrev Strs (w : World) (a : Option Addr) (n : Nat) (l : List ByteArray) : Prop := Rd w (fun _ => True) a n (l.map Value.string)
abbrev Nums (w : World) (a : Option Addr) (n : Nat) (l : List Int) : Prop := Rd w (fun _ => True) a n (l.map (Value.int .u64))
theorem Strs.len {w : World} {a : Option Addr} {n : Nat} {l : List ByteArray} (h : Strs w a n l) : l.length = n := by have := h.1; simpa using this
theorem Nums.len {w : World} {a : Option Addr} {n : Nat} {l : List Int} (h : Nums w a n l) : l.length = n := by have := h.1; simpa using this
theorem Strs.at_ {w : World} {a : Option Addr} {n : Nat} {l : List ByteArray} (h : Strs w a n l) {i : Nat} (hi : i < n) : ∃ ad, a = some ad ∧ w.cell? (ad.add i) = some (.string (nth l i)) := by
  obtain ⟨ad, e, _, _, hc⟩ := h.2 (by omega)
  have hl := h.len
  exact ⟨ad, e, hc i _ (by rw [List.getElem?_map, List.getElem?_eq_getElem (by omega)]; unfold nth; rw [List.getD, List.getElem?_eq_getElem (by omega)]; rfl)⟩
theorem Nums.at_ {w : World} {a : Option Addr} {n : Nat} {l : List Int} (h : Nums w a n l) {i : Nat} (hi : i < n) : ∃ ad, a = some ad ∧ w.cell? (ad.add i) = some (.int .u64 (l.getD i 0)) := by
  obtain ⟨ad, e, _, _, hc⟩ := h.2 (by omega)
  have hl := h.len
  exact ⟨ad, e, hc i _ (by rw [List.getElem?_map, List.getElem?_eq_getElem (by omega), List.getD, List.getElem?_eq_getElem (by omega)]; rfl)⟩
theorem Strs.take {w : World} {a : Option Addr} {n : Nat} {l : List ByteArray} (h : Strs w a n l) {i : Nat} (hi : i ≤ n) : Strs w a i (l.take i) := by
  have hl := h.len
  refine ⟨by simp; omega, fun hn => ?_⟩
  obtain ⟨ad, e, h1, h2, hc⟩ := h.2 (by omega)
  refine ⟨ad, e, h1, h2, fun j u hu => hc j u ?_⟩
  rw [List.map_take, List.getElem?_take] at hu
  split at hu
  · exact hu
  · cases hu
theorem Nums.take {w : World} {a : Option Addr} {n : Nat} {l : List Int} (h : Nums w a n l) {i : Nat} (hi : i ≤ n) : Nums w a i (l.take i) := by
  have hl := h.len
  refine ⟨by simp; omega, fun hn => ?_⟩
  obtain ⟨ad, e, h1, h2, hc⟩ := h.2 (by omega)
  refine ⟨ad, e, h1, h2, fun j u hu => hc j u ?_⟩
  rw [List.map_take, List.getElem?_take] at hu
  split at hu
  · exact hu
  · cases hu
theorem nth_take {l : List ByteArray} {i j : Nat} (h : j < i) : nth (l.take i) j = nth l j := by
  unfold nth
  rw [List.getD, List.getD, List.getElem?_take, if_pos h]
theorem getD_take {l : List Int} {i j : Nat} (h : j < i) : (l.take i).getD j 0 = l.getD j 0 := by
  rw [List.getD, List.getD, List.getElem?_take, if_pos h]
theorem nth_sz {l : List ByteArray} (h : ∀ x ∈ l, x.size ≤ maxLen) (i : Nat) : (nth l i).size ≤ maxLen := by
  unfold nth
  rw [List.getD]
  cases hi : l[i]? with
  | none => exact Nat.zero_le _
  | some x => exact h x (List.mem_of_getElem? hi)

/-- Whether a name may stand behind these. -/
def folB (l : List ByteArray) (s : ByteArray) : Bool := nameB s && (decide (l.length = 0) || ltS (nth l (l.length - 1)) s)
theorem follows_any (a : Option Addr) (n cap : Nat) (l : List ByteArray) (s : ByteArray) (hs : s.size ≤ maxLen) (hn : n ≤ 9223372036854775807) (w : World) (h : Strs w a n l) :
    Calls Tryz.prog 174 #[.slice a n cap, .string s] w fun e w' => e = .returned (.bool (folB l s)) ∧ w' = w := by
  have hl := h.len
  obtain ⟨b, hb⟩ : ∃ b, nameB s = b := ⟨_, rfl⟩
  have hna := name_any s hs w
  rw [hb] at hna
  have HNA := Lib.hid hna
  cases b
  · have HF := Lib.hid (show folB l s = false by unfold folB; rw [hb]; rfl)
    clear hna hb h hl
    go_enter Tryz.func174, Tryz.ntmps174
    go_wp2_with fail
    refine HNA.out.mono ?_
    rintro e w' ⟨rfl, rfl⟩
    go_wp2_with fail
    go_ret
    exact ⟨by rw [HF.out]; rfl, rfl⟩
  · cases n with
    | zero =>
      have HF := Lib.hid (show folB l s = true by unfold folB; rw [hb, hl]; rfl)
      clear hna hb h hl
      go_enter Tryz.func174, Tryz.ntmps174
      go_wp2_with fail
      refine HNA.out.mono ?_
      rintro e w' ⟨rfl, rfl⟩
      go_wp2_with fail
      go_ret
      exact ⟨by rw [HF.out]; rfl, rfl⟩
    | succ m =>
      have HF := Lib.hid (show folB l s = ltS (nth l m) s by unfold folB; rw [hb, hl, decide_eq_false (by omega)]; rfl)
      obtain ⟨ad, rfl, hc⟩ := h.at_ (i := m) (by omega)
      have g0 : ((((m + 1 : Nat) : Int)) == 0) = false := beq_eq_false_iff_ne.2 (by omega)
      have g1 : (0 : Int) ≤ (m : Int) := by omega
      have g2 : (m : Int) < ((m + 1 : Nat) : Int) := by omega
      have g3 : (m : Int) < (m : Int) + 1 := by omega
      have g4 : ¬ (m : Int) + 1 = 0 := by omega
      have g5 : ((m : Int) + 1 == 0) = false := beq_eq_false_iff_ne.2 g4
      have g6 : (m : Int) ≤ 9223372036854775806 := by omega
      clear hna hb h hl
      generalize nth l m = x at *
      go_enter Tryz.func174, Tryz.ntmps174
      go_wp2_with fail
      refine HNA.out.mono ?_
      rintro e w' ⟨rfl, rfl⟩
      go_wp2_with fail
      go_ret
      exact ⟨by rw [HF.out]; rfl, rfl⟩

/-- The first ones rise. -/
def riseN (l : List ByteArray) (n : Nat) : Bool := (List.range n).all fun i => nameB (nth l i) && (decide (i = 0) || ltS (nth l (i - 1)) (nth l i))
theorem riseN_more (l : List ByteArray) {n : Nat} (hn : n ≤ l.length) : riseN l (n + 1) = (riseN l n && folB (l.take n) (nth l n)) := by
  unfold riseN folB
  rw [List.range_succ, List.all_append]
  simp only [List.all_cons, List.all_nil, Bool.and_true]
  congr 2
  rw [List.length_take, Nat.min_eq_left hn]
  cases n with
  | zero => rfl
  | succ m => rw [nth_take (by omega)]
theorem riseN_no {l : List ByteArray} {n m : Nat} (h : riseN l n = false) (hm : n ≤ m) : riseN l m = false := by
  unfold riseN at *
  rw [← Bool.not_eq_true, List.all_eq_true] at *
  exact fun h' => h fun i hi => h' i (List.mem_range.2 (by have := List.mem_range.1 hi; omega))
theorem rise_n (l : List ByteArray) : riseB l = riseN l l.length := rfl
def fieldsB (l : List ByteArray) (parts : Nat) : Bool := decide (l.length ≤ 8) && decide (parts = l.length) && riseB l

set_option maxHeartbeats 800000 in
theorem fright_any (a : Option Addr) (n cap : Nat) (l : List ByteArray) (hss : ∀ x ∈ l, x.size ≤ maxLen) (hn : n ≤ cap ∧ cap ≤ maxLen) (p : Nat) (w : World) (h : Strs w a n l) :
    Calls Tryz.prog 161 #[.slice a n cap, .int .i64 (p : Int)] w fun e w' => e = .returned (.bool (fieldsB l p)) ∧ w' = w := by
  have hl := h.len
  by_cases h8 : n ≤ 8
  · have g8 : ¬ (n : Int) > 8 := by omega
    have g8b : (n : Int) ≤ 8 := by omega
    by_cases hp : p = n
    · subst hp
      have hf : fieldsB l p = riseN l p := by unfold fieldsB; rw [hl, decide_eq_true h8, decide_eq_true rfl, rise_n, hl]; rfl
      have HF := Lib.hid hf
      have H := Lib.hid h
      have HL := Lib.hid hl
      have HSS := Lib.hid hss
      have hn1 : p ≤ cap := hn.1
      have hn2 : (cap : Int) ≤ 9223372036854775807 := by have := hn.2; unfold maxLen at this; omega
      clear hf h hl hss
      go_enter Tryz.func161, Tryz.ntmps161
      go_wp2_with fail
      go_loopw [18] (fun i wr => ∃ j : Nat, j ≤ p ∧ i = .int .i64 (j : Int) ∧ riseN l j = true ∧ wr = w) (fun i _ => p - (intOf i).toNat)
      case atStart => exact ⟨0, Nat.zero_le _, rfl, rfl, rfl⟩
      case round =>
        obtain ⟨j, hjn, rfl, hall, rfl⟩ := hrel
        have bj0 : (0 : Int) ≤ (j : Int) := by omega
        by_cases hj : j < p
        · have hji : (j : Int) < (p : Int) := by omega
          have hjc : (j : Int) ≤ (cap : Int) := by omega
          have hm := riseN_more l (n := j) (by rw [HL.out]; omega)
          rw [hall, Bool.true_and] at hm
          have hno := fun h => riseN_no (l := l) (n := j + 1) (m := p) h (by omega)
          have hfo := follows_any a j cap (l.take j) (nth l j) (nth_sz HSS.out j) (by omega) wr (H.out.take (by omega))
          obtain ⟨ad, rfl, hc⟩ := H.out.at_ hj
          rw [← hm] at hfo
          have HNO := Lib.hid hno
          have HFO := Lib.hid hfo
          clear hall hno hfo hm
          generalize nth l j = x at *
          generalize hb : riseN l (j + 1) = b at *
          have HB := Lib.hid hb
          clear hb
          cases b
          · skip
            go_wp2_with fail
            refine HFO.out.mono ?_
            rintro e w' ⟨rfl, rfl⟩
            go_wp2_with fail
            go_ret
            exact ⟨by rw [HF.out, HNO.out trivial]; rfl, rfl⟩
          · skip
            go_wp2_with fail
            refine HFO.out.mono ?_
            rintro e w' ⟨rfl, rfl⟩
            go_wp2_with fail
            go_roundw
            case rel => exact ⟨j + 1, by omega, by go_num, HB.out, by first | rfl | trivial⟩
            case measure => simp [intOf] <;> omega
        · obtain rfl : j = p := by omega
          have HA := Lib.hid hall
          clear hall
          go_wp2_with fail
          go_ret
          exact ⟨by rw [HF.out, HA.out]; rfl, rfl⟩
    · have HF := Lib.hid (show fieldsB l p = false by unfold fieldsB; rw [hl, decide_eq_false hp, Bool.and_false]; rfl)
      have gp : ¬ (n : Int) = (p : Int) := by omega
      have gpb : ((n : Int) == (p : Int)) = false := beq_eq_false_iff_ne.2 gp
      have gpc : ((n : Int) != (p : Int)) = true := bne_iff_ne.2 gp
      clear h hl hss
      go_enter Tryz.func161, Tryz.ntmps161
      go_wp2_with fail
      go_ret
      exact ⟨by rw [HF.out]; rfl, rfl⟩
  · have HF := Lib.hid (show fieldsB l p = false by unfold fieldsB; rw [hl, decide_eq_false h8]; rfl)
    have g8 : (n : Int) > 8 := by omega
    have g8b : ¬ (n : Int) ≤ 8 := by omega
    have g8c : (8 : Int) < (n : Int) := by omega
    clear h hl hss
    go_enter Tryz.func161, Tryz.ntmps161
    go_wp2_with fail
    go_ret
    exact ⟨by rw [HF.out]; rfl, rfl⟩

/-- The first one of so many; -1, if there is none. -/
def IsFirst (p : Nat → Bool) (n : Nat) (r : Int) : Prop := (r = -1 ∧ ∀ j, j < n → p j = false) ∨ ∃ i : Nat, i < n ∧ r = (i : Int) ∧ p i = true ∧ ∀ j, j < i → p j = false
theorem IsFirst.any {p : Nat → Bool} {n : Nat} {r : Int} (h : IsFirst p n r) : decide (0 ≤ r) = (List.range n).any p := by
  rw [Bool.eq_iff_iff, decide_eq_true_eq, List.any_eq_true]
  rcases h with ⟨rfl, h⟩ | ⟨i, hi, rfl, h, _⟩
  · refine ⟨fun h => by omega, fun ⟨j, hj, hp⟩ => ?_⟩
    rw [h j (List.mem_range.1 hj)] at hp
    cases hp
  · exact ⟨fun _ => ⟨i, List.mem_range.2 hi, h⟩, fun _ => by omega⟩
set_option maxHeartbeats 800000 in
theorem index_any (a : Option Addr) (n cap : Nat) (l : List Int) (v : Int) (hn : n ≤ 9223372036854775807) (w : World) (h : Nums w a n l) :
    Calls Tryz.prog 112 #[.slice a n cap, .int .u64 v] w fun e w' => (∃ r, e = .returned (.int .i64 r) ∧ IsFirst (fun j => decide (l.getD j 0 = v)) n r) ∧ w' = w := by
  have H := Lib.hid h
  clear h
  go_enter Tryz.func112, Tryz.ntmps112
  go_wp2_with fail
  go_loopw [8] (fun i wr => ∃ j : Nat, j ≤ n ∧ i = .int .i64 (j : Int) ∧ (∀ i, i < j → decide (l.getD i 0 = v) = false) ∧ wr = w) (fun i _ => n - (intOf i).toNat)
  case atStart => exact ⟨0, Nat.zero_le _, rfl, fun _ h => absurd h (Nat.not_lt_zero _), rfl⟩
  case round =>
    obtain ⟨j, hjn, rfl, hall, rfl⟩ := hrel
    have bj0 : (0 : Int) ≤ (j : Int) := by omega
    by_cases hj : j < n
    · have hji : (j : Int) < (n : Int) := by omega
      obtain ⟨ad, rfl, hc⟩ := H.out.at_ hj
      have HA := Lib.hid hall
      clear hall
      obtain ⟨x, hx⟩ : ∃ x, l.getD j 0 = x := ⟨_, rfl⟩
      rw [hx] at hc
      have HX := Lib.hid hx
      clear hx
      by_cases he : v = x
      · subst he
        go_wp2_with fail
        go_ret
        exact ⟨⟨_, rfl, .inr ⟨j, hj, rfl, by show decide (l.getD j 0 = v) = true; rw [HX.out]; exact decide_eq_true rfl, HA.out⟩⟩, rfl⟩
      · have heb : (v == x) = false := beq_eq_false_iff_ne.2 he
        go_wp2_with fail
        go_roundw
        case rel =>
          refine ⟨j + 1, by omega, by go_num, fun i hi => ?_, by first | rfl | trivial⟩
          by_cases hij : i = j
          · subst hij
            rw [HX.out]
            exact decide_eq_false (fun e => he e.symm)
          · exact HA.out i (by omega)
        case measure => simp [intOf] <;> omega
    · obtain rfl : j = n := by omega
      have HA := Lib.hid hall
      clear hall
      go_wp2_with fail
      go_ret
      exact ⟨⟨_, rfl, .inl ⟨rfl, HA.out⟩⟩, rfl⟩
theorem contains_any (a : Option Addr) (n cap : Nat) (l : List Int) (v : Int) (hn : n ≤ 9223372036854775807) (w : World) (h : Nums w a n l) :
    Calls Tryz.prog 188 #[.slice a n cap, .int .u64 v] w fun e w' => e = .returned (.bool ((List.range n).any fun j => decide (l.getD j 0 = v))) ∧ w' = w := by
  have HI := Lib.hid (index_any a n cap l v hn w h)
  clear h
  go_enter Tryz.func188, Tryz.ntmps188
  go_wp2_with fail
  refine HI.out.mono ?_
  rintro e w' ⟨⟨r, rfl, hr⟩, rfl⟩
  have HR := Lib.hid hr.any
  clear hr
  go_wp2_with fail
  go_ret
  exact ⟨by rw [← HR.out]; rfl, rfl⟩
/-- Whether an element's number may stand behind these. -/
def freshB (l : List Int) (n : Nat) (v : Int) : Bool := decide (v ≠ 0) && (List.range n).all fun j => decide (v ≠ l.getD j 0)
theorem freshB_eq (l : List Int) (n : Nat) (v : Int) : freshB l n v = (decide (v ≠ 0) && !(List.range n).any fun j => decide (l.getD j 0 = v)) := by
  unfold freshB
  congr 1
  rw [Bool.eq_iff_iff, Bool.not_eq_true', ← Bool.not_eq_true, List.any_eq_true, List.all_eq_true]
  constructor
  · rintro h ⟨j, hj, he⟩
    have h1 := h j hj
    rw [decide_eq_true_eq] at h1 he
    exact h1 he.symm
  · intro h j hj
    rw [decide_eq_true_eq]
    exact fun e => h ⟨j, hj, decide_eq_true e.symm⟩
theorem fresh_any (a : Option Addr) (n cap : Nat) (l : List Int) (v : Int) (hn : n ≤ 9223372036854775807) (w : World) (h : Nums w a n l) :
    Calls Tryz.prog 176 #[.slice a n cap, .int .u64 v] w fun e w' => e = .returned (.bool (freshB l n v)) ∧ w' = w := by
  have HC := Lib.hid (contains_any a n cap l v hn w h)
  have HE := Lib.hid (freshB_eq l n v)
  clear h
  by_cases h0 : v = 0
  · subst h0
    go_enter Tryz.func176, Tryz.ntmps176
    go_wp2_with fail
    go_ret
    exact ⟨by rw [HE.out]; rfl, rfl⟩
  · have g0 : (v == 0) = false := beq_eq_false_iff_ne.2 h0
    have g1 : (v != 0) = true := bne_iff_ne.2 h0
    have HE2 := Lib.hid (show freshB l n v = !((List.range n).any fun j => decide (l.getD j 0 = v)) by rw [HE.out, decide_eq_true h0]; rfl)
    clear HE
    generalize ((List.range n).any fun j => decide (l.getD j 0 = v)) = b at *
    cases b
    · go_enter Tryz.func176, Tryz.ntmps176
      go_wp2_with fail
      refine HC.out.mono ?_
      rintro e w' ⟨rfl, rfl⟩
      go_wp2_with fail
      go_ret
      exact ⟨by rw [HE2.out]; rfl, rfl⟩
    · go_enter Tryz.func176, Tryz.ntmps176
      go_wp2_with fail
      refine HC.out.mono ?_
      rintro e w' ⟨rfl, rfl⟩
      go_wp2_with fail
      go_ret
      exact ⟨by rw [HE2.out]; rfl, rfl⟩

theorem fresh_take (l : List Int) (i : Nat) (v : Int) : freshB (l.take i) i v = freshB l i v := by
  unfold freshB
  rw [Bool.eq_iff_iff]
  simp only [Bool.and_eq_true, List.all_eq_true, List.mem_range]
  exact ⟨fun h => ⟨h.1, fun j hj => by have := h.2 j hj; rwa [getD_take hj] at this⟩, fun h => ⟨h.1, fun j hj => by rw [getD_take hj]; exact h.2 j hj⟩⟩
def idsN (l : List Int) (n : Nat) : Bool := (List.range n).all fun i => freshB l i (l.getD i 0)
theorem idsN_more (l : List Int) {n : Nat} (hn : n ≤ l.length) : idsN l (n + 1) = (idsN l n && freshB l n (l.getD n 0)) := by
  unfold idsN
  rw [List.range_succ, List.all_append]
  simp only [List.all_cons, List.all_nil, Bool.and_true]
theorem idsN_no {l : List Int} {n m : Nat} (h : idsN l n = false) (hm : n ≤ m) : idsN l m = false := by
  unfold idsN at *
  rw [← Bool.not_eq_true, List.all_eq_true] at *
  exact fun h' => h fun i hi => h' i (List.mem_range.2 (by have := List.mem_range.1 hi; omega))
theorem ids_n (l : List Int) : idsB l = idsN l l.length := rfl
def elemsB (l : List Int) (parts : Nat) : Bool := decide (l.length ≤ 12) && decide (parts = l.length) && idsB l
set_option maxHeartbeats 800000 in
theorem elements_any (a : Option Addr) (n cap : Nat) (l : List Int) (hn : n ≤ cap ∧ cap ≤ maxLen) (p : Nat) (w : World) (h : Nums w a n l) :
    Calls Tryz.prog 162 #[.slice a n cap, .int .i64 (p : Int)] w fun e w' => e = .returned (.bool (elemsB l p)) ∧ w' = w := by
  have hl := h.len
  by_cases h8 : n ≤ 12
  · have g8 : ¬ (n : Int) > 12 := by omega
    have g8b : (n : Int) ≤ 12 := by omega
    by_cases hp : p = n
    · subst hp
      have hf : elemsB l p = idsN l p := by unfold elemsB; rw [hl, decide_eq_true h8, decide_eq_true rfl, ids_n, hl]; rfl
      have HF := Lib.hid hf
      have H := Lib.hid h
      have HL := Lib.hid hl
      have hn1 : p ≤ cap := hn.1
      have hn2 : (cap : Int) ≤ 9223372036854775807 := by have := hn.2; unfold maxLen at this; omega
      clear hf h hl
      go_enter Tryz.func162, Tryz.ntmps162
      go_wp2_with fail
      go_loopw [18] (fun i wr => ∃ j : Nat, j ≤ p ∧ i = .int .i64 (j : Int) ∧ idsN l j = true ∧ wr = w) (fun i _ => p - (intOf i).toNat)
      case atStart => exact ⟨0, Nat.zero_le _, rfl, rfl, rfl⟩
      case round =>
        obtain ⟨j, hjn, rfl, hall, rfl⟩ := hrel
        have bj0 : (0 : Int) ≤ (j : Int) := by omega
        by_cases hj : j < p
        · have hji : (j : Int) < (p : Int) := by omega
          have hjc : (j : Int) ≤ (cap : Int) := by omega
          have hm := idsN_more l (n := j) (by rw [HL.out]; omega)
          rw [hall, Bool.true_and] at hm
          have hno := fun h => idsN_no (l := l) (n := j + 1) (m := p) h (by omega)
          have hfo := fresh_any a j cap (l.take j) (l.getD j 0) (by omega) wr (H.out.take (by omega))
          obtain ⟨ad, rfl, hc⟩ := H.out.at_ hj
          rw [fresh_take, ← hm] at hfo
          have HNO := Lib.hid hno
          have HFO := Lib.hid hfo
          clear hall hno hfo hm
          generalize l.getD j 0 = x at *
          generalize hb : idsN l (j + 1) = b at *
          have HB := Lib.hid hb
          clear hb
          cases b
          · skip
            go_wp2_with fail
            refine HFO.out.mono ?_
            rintro e w' ⟨rfl, rfl⟩
            go_wp2_with fail
            go_ret
            exact ⟨by rw [HF.out, HNO.out trivial]; rfl, rfl⟩
          · skip
            go_wp2_with fail
            refine HFO.out.mono ?_
            rintro e w' ⟨rfl, rfl⟩
            go_wp2_with fail
            go_roundw
            case rel => exact ⟨j + 1, by omega, by go_num, HB.out, by first | rfl | trivial⟩
            case measure => simp [intOf] <;> omega
        · obtain rfl : j = p := by omega
          have HA := Lib.hid hall
          clear hall
          go_wp2_with fail
          go_ret
          exact ⟨by rw [HF.out, HA.out]; rfl, rfl⟩
    · have HF := Lib.hid (show elemsB l p = false by unfold elemsB; rw [hl, decide_eq_false hp, Bool.and_false]; rfl)
      have gp : ¬ (n : Int) = (p : Int) := by omega
      have gpb : ((n : Int) == (p : Int)) = false := beq_eq_false_iff_ne.2 gp
      have gpc : ((n : Int) != (p : Int)) = true := bne_iff_ne.2 gp
      clear h hl
      go_enter Tryz.func162, Tryz.ntmps162
      go_wp2_with fail
      go_ret
      exact ⟨by rw [HF.out]; rfl, rfl⟩
  · have HF := Lib.hid (show elemsB l p = false by unfold elemsB; rw [hl, decide_eq_false h8]; rfl)
    have g8 : (n : Int) > 12 := by omega
    have g8b : ¬ (n : Int) ≤ 12 := by omega
    have g8c : (12 : Int) < (n : Int) := by omega
    clear h hl
    go_enter Tryz.func162, Tryz.ntmps162
    go_wp2_with fail
    go_ret
    exact ⟨by rw [HF.out]; rfl, rfl⟩
end

section
set_option maxRecDepth 100000
set_option linter.unusedSimpArgs false
set_option linter.unusedVariables false
open Go.RowKit

set_option maxHeartbeats 800000 in
theorem if_has (a : Option Addr) (n cap : Nat) (l : List ByteArray) (q : Value) (p : Nat → Bool) (hn : n ≤ 9223372036854775807) (w : World) (h : Strs w a n l)
    (hf : ∀ j, j < n → ∀ w', Below w.heap.size w w' → Calls Tryz.prog 147 #[.string (nth l j), q] w' fun e w'' => e = .returned (.bool (p j)) ∧ Below w'.heap.size w' w'') :
    Calls Tryz.prog 154 #[.slice a n cap, .func (.func 147) #[] #[q]] w fun e w' => (∃ r, e = .returned (.int .i64 r) ∧ IsFirst p n r) ∧ Below w.heap.size w w' := by
  have H := Lib.hid h
  have HF := Lib.hid hf
  clear h hf
  go_enter Tryz.func154, Tryz.ntmps154
  go_wp2_with fail
  go_loopw [8] (fun i wr => ∃ j : Nat, j ≤ n ∧ i = .int .i64 (j : Int) ∧ (∀ i, i < j → p i = false) ∧ Below w.heap.size w wr) (fun i _ => n - (intOf i).toNat)
  case atStart => exact ⟨0, Nat.zero_le _, rfl, fun _ h => absurd h (Nat.not_lt_zero _), Below.refl _ _⟩
  case round =>
    obtain ⟨j, hjn, rfl, hall, hw⟩ := hrel
    have bj0 : (0 : Int) ≤ (j : Int) := by omega
    by_cases hj : j < n
    · have hji : (j : Int) < (n : Int) := by omega
      obtain ⟨ad, rfl, hc⟩ := Strs.at_ (H.out.belowAll hw) hj
      have HA := Lib.hid hall
      have HW := Lib.hid hw
      have hfj := HF.out j hj wr hw
      obtain ⟨b, hb⟩ : ∃ b, p j = b := ⟨_, rfl⟩
      rw [hb] at hfj
      have HFJ := Lib.hid hfj
      have HB := Lib.hid hb
      clear hall hw hfj hb
      cases b
      · skip
        go_wp2_with fail
        refine HFJ.out.mono ?_
        rintro e W1 ⟨rfl, hbl⟩
        have HBL := Lib.hid hbl
        clear hbl
        go_wp2_with fail
        go_roundw
        case rel =>
          refine ⟨j + 1, by omega, by go_num, fun i hi => ?_, HW.out.trans (HBL.out.mono HW.out.size)⟩
          by_cases hij : i = j
          · subst hij; exact HB.out
          · exact HA.out i (by omega)
        case measure => simp [intOf] <;> omega
      · skip
        go_wp2_with fail
        refine HFJ.out.mono ?_
        rintro e W1 ⟨rfl, hbl⟩
        have HBL := Lib.hid hbl
        clear hbl
        go_wp2_with fail
        go_ret
        exact ⟨⟨_, rfl, .inr ⟨j, hj, rfl, HB.out, HA.out⟩⟩, HW.out.trans (HBL.out.mono HW.out.size)⟩
    · obtain rfl : j = n := by omega
      have HA := Lib.hid hall
      have HW := Lib.hid hw
      clear hall hw
      go_wp2_with fail
      go_ret
      exact ⟨⟨_, rfl, .inl ⟨rfl, HA.out⟩⟩, HW.out⟩
theorem cf_has (a : Option Addr) (n cap : Nat) (l : List ByteArray) (q : Value) (p : Nat → Bool) (hn : n ≤ 9223372036854775807) (w : World) (h : Strs w a n l)
    (hf : ∀ j, j < n → ∀ w', Below w.heap.size w w' → Calls Tryz.prog 147 #[.string (nth l j), q] w' fun e w'' => e = .returned (.bool (p j)) ∧ Below w'.heap.size w' w'') :
    Calls Tryz.prog 146 #[.slice a n cap, .func (.func 147) #[] #[q]] w fun e w' => e = .returned (.bool ((List.range n).any p)) ∧ Below w.heap.size w w' := by
  have HI := Lib.hid (if_has a n cap l q p hn w h hf)
  clear h hf
  go_enter Tryz.func146, Tryz.ntmps146
  go_wp2_with fail
  refine HI.out.mono ?_
  rintro e W1 ⟨⟨r, rfl, hr⟩, hb⟩
  have HR := Lib.hid hr.any
  have HB := Lib.hid hb
  clear hr hb
  go_wp2_with fail
  go_ret
  exact ⟨by rw [← HR.out]; rfl, HB.out⟩

theorem hasc_any (s x : ByteArray) (g : Nat) (w : World) (hg : w.cell? ⟨g, 0, none⟩ = some (.string s)) :
    Calls Tryz.prog 147 #[.string x, .pointer (some ⟨g, 0, none⟩)] w fun e w' => e = .returned (.bool (eqS x s)) ∧ w' = w := by
  go_enter Tryz.func147, Tryz.ntmps147
  go_wp2_with fail
  go_ret
  exact ⟨rfl, rfl⟩
def hasB (l : List ByteArray) (n : Nat) (s : ByteArray) : Bool := (List.range n).any fun j => eqS (nth l j) s
theorem has_any (a : Option Addr) (n cap : Nat) (l : List ByteArray) (s : ByteArray) (hn : n ≤ 9223372036854775807) (w : World) (h : Strs w a n l) :
    Calls Tryz.prog 104 #[.slice a n cap, .string s] w fun e w' => e = .returned (.bool (hasB l n s)) ∧ Below w.heap.size w w' := by
  have hw := Below.alloc1 w (.cells #[.string s] 9)
  have hcell : (w.alloc (.cells #[.string s] 9)).cell? ⟨w.heap.size, 0, none⟩ = some (.string s) := (Row.new w [.string s] 9).cell (k := 0) rfl
  have hlt : w.heap.size < (w.alloc (.cells #[.string s] 9)).heap.size := by simp
  have hcf := cf_has a n cap l (.pointer (some ⟨w.heap.size, 0, none⟩)) (fun j => eqS (nth l j) s) hn _ (h.belowAll hw) (fun j hj w' hb => calls_same (hasc_any s (nth l j) w.heap.size w' ((hb.cell hlt).trans hcell)))
  have HCF := Lib.hid hcf
  have HW := Lib.hid hw
  clear hcf hw hcell hlt h
  go_enter Tryz.func104, Tryz.ntmps104
  go_wp2_with fail
  refine HCF.out.mono ?_
  rintro e W1 ⟨rfl, hb⟩
  have HB := Lib.hid hb
  clear hb
  go_wp2_with fail
  go_ret
  exact ⟨rfl, HW.out.trans (HB.out.mono HW.out.size)⟩
/-- Whether a word may stand behind these. -/
def newB (l : List ByteArray) (n : Nat) (s : ByteArray) : Bool := nameB s && (List.range n).all fun j => !eqS s (nth l j)
theorem eqS_comm (a b : ByteArray) : eqS a b = eqS b a := by unfold eqS; rw [Bool.eq_iff_iff, beq_iff_eq, beq_iff_eq]; exact eq_comm
theorem newB_eq (l : List ByteArray) (n : Nat) (s : ByteArray) : newB l n s = (nameB s && !hasB l n s) := by
  unfold newB hasB
  congr 1
  rw [Bool.eq_iff_iff, Bool.not_eq_true', ← Bool.not_eq_true, List.any_eq_true, List.all_eq_true]
  constructor
  · rintro h ⟨j, hj, he⟩
    have h1 := h j hj
    rw [eqS_comm, he] at h1
    cases h1
  · intro h j hj
    rw [Bool.not_eq_true', ← Bool.not_eq_true, eqS_comm]
    exact fun e => h ⟨j, hj, e⟩
theorem sfresh_any (a : Option Addr) (n cap : Nat) (l : List ByteArray) (s : ByteArray) (hs : s.size ≤ maxLen) (hn : n ≤ 9223372036854775807) (w : World) (h : Strs w a n l) :
    Calls Tryz.prog 191 #[.slice a n cap, .string s] w fun e w' => e = .returned (.bool (newB l n s)) ∧ Below w.heap.size w w' := by
  have hna := vname_any s hs w
  have hnb := newB_eq l n s
  obtain ⟨b, hb⟩ : ∃ b, nameB s = b := ⟨_, rfl⟩
  rw [hb] at hna hnb
  have HNA := Lib.hid hna
  have HH := Lib.hid (has_any a n cap l s hn w h)
  have HNB := Lib.hid hnb
  clear hna hb h hnb
  cases b
  · go_enter Tryz.func191, Tryz.ntmps191
    go_wp2_with fail
    refine HNA.out.mono ?_
    rintro e w' ⟨rfl, rfl⟩
    go_wp2_with fail
    go_ret
    exact ⟨by rw [HNB.out]; rfl, Below.refl _ _⟩
  · generalize hasB l n s = c at *
    cases c
    · go_enter Tryz.func191, Tryz.ntmps191
      go_wp2_with fail
      refine HNA.out.mono ?_
      rintro e w' ⟨rfl, rfl⟩
      go_wp2_with fail
      refine HH.out.mono ?_
      rintro e w' ⟨rfl, hb⟩
      have HB := Lib.hid hb
      clear hb
      go_wp2_with fail
      go_ret
      exact ⟨by rw [HNB.out]; rfl, HB.out⟩
    · go_enter Tryz.func191, Tryz.ntmps191
      go_wp2_with fail
      refine HNA.out.mono ?_
      rintro e w' ⟨rfl, rfl⟩
      go_wp2_with fail
      refine HH.out.mono ?_
      rintro e w' ⟨rfl, hb⟩
      have HB := Lib.hid hb
      clear hb
      go_wp2_with fail
      go_ret
      exact ⟨by rw [HNB.out]; rfl, HB.out⟩
theorem newB_take (l : List ByteArray) (i : Nat) (v : ByteArray) : newB (l.take i) i v = newB l i v := by
  unfold newB
  rw [Bool.eq_iff_iff]
  simp only [Bool.and_eq_true, List.all_eq_true, List.mem_range]
  exact ⟨fun h => ⟨h.1, fun j hj => by have := h.2 j hj; rwa [nth_take hj] at this⟩, fun h => ⟨h.1, fun j hj => by rw [nth_take hj]; exact h.2 j hj⟩⟩
def wordsN (l : List ByteArray) (n : Nat) : Bool := (List.range n).all fun i => newB l i (nth l i)
theorem wordsN_more (l : List ByteArray) {n : Nat} : wordsN l (n + 1) = (wordsN l n && newB l n (nth l n)) := by
  unfold wordsN
  rw [List.range_succ, List.all_append]
  simp only [List.all_cons, List.all_nil, Bool.and_true]
theorem wordsN_no {l : List ByteArray} {n m : Nat} (h : wordsN l n = false) (hm : n ≤ m) : wordsN l m = false := by
  unfold wordsN at *
  rw [← Bool.not_eq_true, List.all_eq_true] at *
  exact fun h' => h fun i hi => h' i (List.mem_range.2 (by have := List.mem_range.1 hi; omega))
theorem words_n (l : List ByteArray) : wordsB l = wordsN l l.length := rfl
def choiceB (l : List ByteArray) : Bool := decide (1 ≤ l.length) && decide (l.length ≤ 8) && wordsB l

set_option maxHeartbeats 800000 in
theorem choice_any (a : Option Addr) (n cap : Nat) (l : List ByteArray) (hss : ∀ x ∈ l, x.size ≤ maxLen) (hn : n ≤ cap ∧ cap ≤ maxLen) (w : World) (h : Strs w a n l) :
    Calls Tryz.prog 178 #[.slice a n cap] w fun e w' => e = .returned (.bool (choiceB l)) ∧ Below w.heap.size w w' := by
  have hl := h.len
  by_cases h1 : 1 ≤ n
  · have g1 : ((n : Int) == 0) = false := beq_eq_false_iff_ne.2 (by omega)
    have g1b : ¬ (n : Int) = 0 := by omega
    by_cases h8 : n ≤ 8
    · have g8 : ¬ (n : Int) > 8 := by omega
      have g8b : (n : Int) ≤ 8 := by omega
      have hf : choiceB l = wordsN l n := by unfold choiceB; rw [hl, decide_eq_true h8, decide_eq_true h1, words_n, hl]; rfl
      have HF := Lib.hid hf
      have H := Lib.hid h
      have HSS := Lib.hid hss
      have hn1 : n ≤ cap := hn.1
      have hn2 : (cap : Int) ≤ 9223372036854775807 := by have := hn.2; unfold maxLen at this; omega
      clear hf h hl hss hn
      go_enter Tryz.func178, Tryz.ntmps178
      go_wp2_with fail
      go_loopw [15] (fun i wr => ∃ j : Nat, j ≤ n ∧ i = .int .i64 (j : Int) ∧ wordsN l j = true ∧ Below w.heap.size w wr) (fun i _ => n - (intOf i).toNat)
      case atStart => exact ⟨0, Nat.zero_le _, rfl, rfl, Below.refl _ _⟩
      case round =>
        obtain ⟨j, hjn, rfl, hall, hw⟩ := hrel
        have bj0 : (0 : Int) ≤ (j : Int) := by omega
        by_cases hj : j < n
        · have hji : (j : Int) < (n : Int) := by omega
          have hjc : (j : Int) ≤ (cap : Int) := by omega
          have hm := wordsN_more l (n := j)
          rw [hall, Bool.true_and] at hm
          have hno := fun h => wordsN_no (l := l) (n := j + 1) (m := n) h (by omega)
          have hr := H.out.belowAll hw
          have hfo := sfresh_any a j cap (l.take j) (nth l j) (nth_sz HSS.out j) (by omega) wr (Strs.take hr (by omega))
          obtain ⟨ad, rfl, hc⟩ := Strs.at_ hr hj
          rw [newB_take, ← hm] at hfo
          have HNO := Lib.hid hno
          have HFO := Lib.hid hfo
          have HW := Lib.hid hw
          clear hall hno hfo hm hr hw
          generalize nth l j = x at *
          generalize hb : wordsN l (j + 1) = b at *
          have HB := Lib.hid hb
          clear hb
          cases b
          · skip
            go_wp2_with fail
            refine HFO.out.mono ?_
            rintro e w' ⟨rfl, hbl⟩
            have HBL := Lib.hid hbl
            clear hbl
            go_wp2_with fail
            go_ret
            exact ⟨by rw [HF.out, HNO.out trivial]; rfl, HW.out.trans (HBL.out.mono HW.out.size)⟩
          · skip
            go_wp2_with fail
            refine HFO.out.mono ?_
            rintro e w' ⟨rfl, hbl⟩
            have HBL := Lib.hid hbl
            clear hbl
            go_wp2_with fail
            go_roundw
            case rel => exact ⟨j + 1, by omega, by go_num, HB.out, HW.out.trans (HBL.out.mono HW.out.size)⟩
            case measure => simp [intOf] <;> omega
        · obtain rfl : j = n := by omega
          have HA := Lib.hid hall
          have HW := Lib.hid hw
          clear hall hw
          go_wp2_with fail
          go_ret
          exact ⟨by rw [HF.out, HA.out]; rfl, HW.out⟩
    · have HF := Lib.hid (show choiceB l = false by unfold choiceB; rw [hl, decide_eq_false h8, Bool.and_false]; rfl)
      have g8 : (n : Int) > 8 := by omega
      have g8b : ¬ (n : Int) ≤ 8 := by omega
      have g8c : (8 : Int) < (n : Int) := by omega
      clear h hl hss
      go_enter Tryz.func178, Tryz.ntmps178
      go_wp2_with fail
      go_ret
      exact ⟨by rw [HF.out]; rfl, Below.refl _ _⟩
  · have HF := Lib.hid (show choiceB l = false by unfold choiceB; rw [hl, decide_eq_false h1]; rfl)
    obtain rfl : n = 0 := by omega
    clear h hl hss
    go_enter Tryz.func178, Tryz.ntmps178
    go_wp2_with fail
    go_ret
    exact ⟨by rw [HF.out]; rfl, Below.refl _ _⟩
end

end Go.Proofs.YtmiadkhfjkaidaaGreatDoor
