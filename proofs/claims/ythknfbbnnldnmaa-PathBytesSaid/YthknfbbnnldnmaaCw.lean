/- The walk of PathBytes. -/
import Derived.Test.YthknfbbnnldnmaaCf
import Derived.Test.YthknfbbnnldnmaaEnd
import Derived.Test.YthknfbbnnldnmaaEq
namespace Go.Proofs.Ythknfbbnnldnmaa
set_option maxRecDepth 100000
set_option linter.unusedSimpArgs false
set_option linter.unusedVariables false
open Go.RowKit

theorem wr_new (w : World) : Wr (w.alloc (.cells #[.slice none 0 0] 27)) ⟨w.heap.size, 0, none⟩ (.slice none 0 0) [] :=
  ⟨(Row.new w [.slice none 0 0] 27).cell (k := 0) rfl, (Row.new w [.slice none 0 0] 27).free 0, World.ownsRow_nil _ _ _ _, by simp [Value.ownBlock]⟩
theorem eqP_self (l : List Stp) : eqP l l = true := eqP_yes rfl fun j _ => by unfold eqSt; rw [eqS_self, beq_self_eq_true]; rfl
/-- The law's begin: what path.Write leaves, right or not. -/
theorem pwrite_either (b : Option Addr) (n c : Nat) (l : List Stp) (w : World) (hS : Sts w b n l) (hok : ∀ x ∈ l, StOk x) (hn : n ≤ 9223372036854775807) :
    Calls Try.prog 6 #[.pointer (some ⟨w.heap.size, 0, none⟩), .slice b n c] (w.alloc (.cells #[.slice none 0 0] 27)) fun e w' => e = .returned (.tuple #[]) ∧ ∃ v', Wr w' ⟨w.heap.size, 0, none⟩ v' (if rightP l then pBytes l else []) ∧ Below w.heap.size w w' ∧ ∀ j, v'.ownBlock = some j → w.heap.size ≤ j := by
  cases hr : rightP l
  · refine (pwrite_not ⟨w.heap.size, 0, none⟩ _ [] b n c l _ (hS.below (below_new w _)) hok hn hr (wr_new w)).mono ?_
    rintro e w' ⟨rfl, h1, h2⟩
    exact ⟨rfl, _, h1, below_then h2, fun j hj => by simp [Value.ownBlock] at hj⟩
  · refine (pwrite_any w ⟨w.heap.size, 0, none⟩ (.slice none 0 0) [] b n c l _ hS hok hr (below_new w _) (wr_new w) (Nat.le_refl _) (fun j hj => by simp [Value.ownBlock] at hj) (by simp)).mono ?_
    rintro e w' ⟨rfl, v', h1, h2, h3⟩
    exact ⟨rfl, v', by simpa using h1, h2, h3⟩

set_option maxHeartbeats 3200000 in
theorem path_walk (a b : Option Addr) (n c m d : Nat) (l k : List Stp) (w : World) (ha : Sts w a n l) (hb : Sts w b m k) (oka : ∀ x ∈ l, StOk x) (okb : ∀ x ∈ k, StOk x) (hn : n ≤ c ∧ c ≤ maxLen) (hm : m ≤ d ∧ d ≤ maxLen) :
    Calls Try.prog 3 #[.slice a n c, .slice b m d] w fun e w' => e = .returned (.bool true) ∧ Below w.heap.size w w' := by
  have hn1 := hn.1
  have hm1 := hm.1
  have hn2 : (c : Int) ≤ 9223372036854775807 := by have := hn.2; unfold maxLen at this; omega
  have hm2 : (d : Int) ≤ 9223372036854775807 := by have := hm.2; unfold maxLen at this; omega
  have hgp := pgreat_any a n c l w ha oka (by omega)
  have hgq := pgreat_any b m d k w hb okb (by omega)
  have HAW := Lib.hid (pawake_any)
  cases hg : greatP l
  · rw [hg] at hgp
    cases hgk : greatP k
    · rw [hgk] at hgq
      cases hr : rightP l
      · by_cases hnm : n ≤ m
        · obtain ⟨bv, hbv⟩ : ∃ bv, eqP l (k.take n) = bv := ⟨_, rfl⟩
          cases bv
          · skip
            have HBG := Lib.hid (show ∀ w' : World, Below w.heap.size w w' → Calls Try.prog 8 #[.slice a n c, .slice b m d] w' fun e w'' => e = .returned (.bool false) ∧ Below w'.heap.size w' w'' from fun w' h => by
              have := begins_any a b n m c d l k w' (ha.below h) (hb.below h) (by omega) ⟨by omega, by omega⟩
              rw [decide_eq_true hnm, Bool.true_and, hbv] at this
              exact this)
            have HSM := Lib.hid (show ∀ w' : World, Below w.heap.size w w' → Calls Try.prog 7 #[.slice a n c, .slice b n d] w' fun e w'' => e = .returned (.bool false) ∧ Below w'.heap.size w' w'' from fun w' h => by
              have := psame_ref a b n n c d l (k.take n) w' (ha.below h) ((hb.below h).take hnm) (by omega) (by omega)
              rw [hbv] at this
              exact this)
            have HGP := Lib.hid hgp
            have HGQ := Lib.hid hgq
            have HWR := Lib.hid (pwrite_either a n c l w ha oka (by omega))
            have HA := Lib.hid ha
            have HB := Lib.hid hb
            have HOA := Lib.hid oka
            have HRR := Lib.hid (fun (w' : World) (h : Below w.heap.size w w') => pright_ref a n c l (by omega) w' (ha.below h) oka)
            rw [hr] at HWR HRR
            clear hgp hgq ha hb oka okb hg hgk hn hm hr hbv
            have g1 : (n : Int) ≤ (m : Int) := by omega
            have g2 : (n : Int) ≤ (d : Int) := by omega
            have g3 : (0 : Int) ≤ (n : Int) := by omega
            have g4 : min (n : Int) (m : Int) = n := by omega
            go_enter Try.func3, Try.ntmps3
            go_wp2_with fail
            refine HGP.out.mono ?_
            rintro e W1 ⟨rfl, rfl⟩
            go_wp2_with fail
            refine HGQ.out.mono ?_
            rintro e W2 ⟨rfl, rfl⟩
            go_wp2_with fail
            refine HWR.out.mono ?_
            rintro e W3 ⟨rfl, vw, hwr, hbw, hvw⟩
            have HW3 := Lib.hid hwr
            have HB3 := Lib.hid hbw
            have HV3 := Lib.hid hvw
            clear hwr hbw hvw
            go_wp2_with fail
            refine (HSM.out _ HB3.out).mono ?_
            rintro e W4 ⟨rfl, hb⟩
            have HW4 := Lib.hid (HW3.out.below hb)
            have HB4 := Lib.hid (HB3.out.trans (hb.mono HB3.out.size))
            clear hb
            go_wp2_with fail
            refine (HBG.out _ HB4.out).mono ?_
            rintro e W5 ⟨rfl, hb⟩
            have HW5 := Lib.hid (HW4.out.below hb)
            have HB5 := Lib.hid (HB4.out.trans (hb.mono HB4.out.size))
            clear hb
            go_wp2_with fail
            refine (HRR.out _ HB5.out).mono ?_
            rintro e W6 ⟨rfl, hb⟩
            have HW6 := Lib.hid (HW5.out.below hb)
            have HB6 := Lib.hid (HB5.out.trans (hb.mono HB5.out.size))
            clear hb
            go_wp2_with fail
            refine (out_any _ vw [] W6 (by simpa using HW6.out) (by simp)).mono ?_
            rintro e W7 ⟨v7, rfl, ho, hb⟩
            obtain ⟨A7, c7, rfl⟩ := own_slice ho
            have HB7 := Lib.hid (HB6.out.trans (hb.mono HB6.out.size))
            clear ho hb
            go_wp2_with fail
            refine (HAW.out _).mono ?_
            rintro e W8 ⟨rfl, hb⟩
            have HB8 := Lib.hid (HB7.out.trans (hb.mono HB7.out.size))
            clear hb
            go_wp2_with fail
            go_ret
            exact ⟨rfl, HB8.out⟩
          · skip
            have HBG := Lib.hid (show ∀ w' : World, Below w.heap.size w w' → Calls Try.prog 8 #[.slice a n c, .slice b m d] w' fun e w'' => e = .returned (.bool true) ∧ Below w'.heap.size w' w'' from fun w' h => by
              have := begins_any a b n m c d l k w' (ha.below h) (hb.below h) (by omega) ⟨by omega, by omega⟩
              rw [decide_eq_true hnm, Bool.true_and, hbv] at this
              exact this)
            have HSM := Lib.hid (show ∀ w' : World, Below w.heap.size w w' → Calls Try.prog 7 #[.slice a n c, .slice b n d] w' fun e w'' => e = .returned (.bool true) ∧ Below w'.heap.size w' w'' from fun w' h => by
              have := psame_ref a b n n c d l (k.take n) w' (ha.below h) ((hb.below h).take hnm) (by omega) (by omega)
              rw [hbv] at this
              exact this)
            have HGP := Lib.hid hgp
            have HGQ := Lib.hid hgq
            have HWR := Lib.hid (pwrite_either a n c l w ha oka (by omega))
            have HA := Lib.hid ha
            have HB := Lib.hid hb
            have HOA := Lib.hid oka
            have HRR := Lib.hid (fun (w' : World) (h : Below w.heap.size w w') => pright_ref a n c l (by omega) w' (ha.below h) oka)
            rw [hr] at HWR HRR
            clear hgp hgq ha hb oka okb hg hgk hn hm hr hbv
            have g1 : (n : Int) ≤ (m : Int) := by omega
            have g2 : (n : Int) ≤ (d : Int) := by omega
            have g3 : (0 : Int) ≤ (n : Int) := by omega
            have g4 : min (n : Int) (m : Int) = n := by omega
            go_enter Try.func3, Try.ntmps3
            go_wp2_with fail
            refine HGP.out.mono ?_
            rintro e W1 ⟨rfl, rfl⟩
            go_wp2_with fail
            refine HGQ.out.mono ?_
            rintro e W2 ⟨rfl, rfl⟩
            go_wp2_with fail
            refine HWR.out.mono ?_
            rintro e W3 ⟨rfl, vw, hwr, hbw, hvw⟩
            have HW3 := Lib.hid hwr
            have HB3 := Lib.hid hbw
            have HV3 := Lib.hid hvw
            clear hwr hbw hvw
            go_wp2_with fail
            refine (HSM.out _ HB3.out).mono ?_
            rintro e W4 ⟨rfl, hb⟩
            have HW4 := Lib.hid (HW3.out.below hb)
            have HB4 := Lib.hid (HB3.out.trans (hb.mono HB3.out.size))
            clear hb
            go_wp2_with fail
            refine (HBG.out _ HB4.out).mono ?_
            rintro e W5 ⟨rfl, hb⟩
            have HW5 := Lib.hid (HW4.out.below hb)
            have HB5 := Lib.hid (HB4.out.trans (hb.mono HB4.out.size))
            clear hb
            go_wp2_with fail
            refine (HRR.out _ HB5.out).mono ?_
            rintro e W6 ⟨rfl, hb⟩
            have HW6 := Lib.hid (HW5.out.below hb)
            have HB6 := Lib.hid (HB5.out.trans (hb.mono HB5.out.size))
            clear hb
            go_wp2_with fail
            refine (out_any _ vw [] W6 (by simpa using HW6.out) (by simp)).mono ?_
            rintro e W7 ⟨v7, rfl, ho, hb⟩
            obtain ⟨A7, c7, rfl⟩ := own_slice ho
            have HB7 := Lib.hid (HB6.out.trans (hb.mono HB6.out.size))
            clear ho hb
            go_wp2_with fail
            refine (HAW.out _).mono ?_
            rintro e W8 ⟨rfl, hb⟩
            have HB8 := Lib.hid (HB7.out.trans (hb.mono HB7.out.size))
            clear hb
            go_wp2_with fail
            go_ret
            exact ⟨rfl, HB8.out⟩
        · skip
          have HBG := Lib.hid (show ∀ w' : World, Below w.heap.size w w' → Calls Try.prog 8 #[.slice a n c, .slice b m d] w' fun e w'' => e = .returned (.bool false) ∧ Below w'.heap.size w' w'' from fun w' h => by
            have := begins_any a b n m c d l k w' (ha.below h) (hb.below h) (by omega) ⟨by omega, by omega⟩
            rw [decide_eq_false hnm, Bool.false_and] at this
            exact this)
          have HGP := Lib.hid hgp
          have HGQ := Lib.hid hgq
          have HWR := Lib.hid (pwrite_either a n c l w ha oka (by omega))
          have HA := Lib.hid ha
          have HB := Lib.hid hb
          have HOA := Lib.hid oka
          have HRR := Lib.hid (fun (w' : World) (h : Below w.heap.size w w') => pright_ref a n c l (by omega) w' (ha.below h) oka)
          rw [hr] at HWR HRR
          clear hgp hgq ha hb oka okb hg hgk hn hm hr
          have g1 : ¬ (n : Int) ≤ (m : Int) := by omega
          go_enter Try.func3, Try.ntmps3
          go_wp2_with fail
          refine HGP.out.mono ?_
          rintro e W1 ⟨rfl, rfl⟩
          go_wp2_with fail
          refine HGQ.out.mono ?_
          rintro e W2 ⟨rfl, rfl⟩
          go_wp2_with fail
          refine HWR.out.mono ?_
          rintro e W3 ⟨rfl, vw, hwr, hbw, hvw⟩
          have HW3 := Lib.hid hwr
          have HB3 := Lib.hid hbw
          have HV3 := Lib.hid hvw
          clear hwr hbw hvw
          go_wp2_with fail
          have HW4 := HW3
          have HB4 := HB3
          refine (HBG.out _ HB4.out).mono ?_
          rintro e W5 ⟨rfl, hb⟩
          have HW5 := Lib.hid (HW4.out.below hb)
          have HB5 := Lib.hid (HB4.out.trans (hb.mono HB4.out.size))
          clear hb
          go_wp2_with fail
          refine (HRR.out _ HB5.out).mono ?_
          rintro e W6 ⟨rfl, hb⟩
          have HW6 := Lib.hid (HW5.out.below hb)
          have HB6 := Lib.hid (HB5.out.trans (hb.mono HB5.out.size))
          clear hb
          go_wp2_with fail
          refine (out_any _ vw [] W6 (by simpa using HW6.out) (by simp)).mono ?_
          rintro e W7 ⟨v7, rfl, ho, hb⟩
          obtain ⟨A7, c7, rfl⟩ := own_slice ho
          have HB7 := Lib.hid (HB6.out.trans (hb.mono HB6.out.size))
          clear ho hb
          go_wp2_with fail
          refine (HAW.out _).mono ?_
          rintro e W8 ⟨rfl, hb⟩
          have HB8 := Lib.hid (HB7.out.trans (hb.mono HB7.out.size))
          clear hb
          go_wp2_with fail
          go_ret
          exact ⟨rfl, HB8.out⟩
      · by_cases hnm : n ≤ m
        · obtain ⟨bv, hbv⟩ : ∃ bv, eqP l (k.take n) = bv := ⟨_, rfl⟩
          cases bv
          · skip
            have HBG := Lib.hid (show ∀ w' : World, Below w.heap.size w w' → Calls Try.prog 8 #[.slice a n c, .slice b m d] w' fun e w'' => e = .returned (.bool false) ∧ Below w'.heap.size w' w'' from fun w' h => by
              have := begins_any a b n m c d l k w' (ha.below h) (hb.below h) (by omega) ⟨by omega, by omega⟩
              rw [decide_eq_true hnm, Bool.true_and, hbv] at this
              exact this)
            have HSM := Lib.hid (show ∀ w' : World, Below w.heap.size w w' → Calls Try.prog 7 #[.slice a n c, .slice b n d] w' fun e w'' => e = .returned (.bool false) ∧ Below w'.heap.size w' w'' from fun w' h => by
              have := psame_ref a b n n c d l (k.take n) w' (ha.below h) ((hb.below h).take hnm) (by omega) (by omega)
              rw [hbv] at this
              exact this)
            have HGP := Lib.hid hgp
            have HGQ := Lib.hid hgq
            have HWR := Lib.hid (pwrite_either a n c l w ha oka (by omega))
            have HA := Lib.hid ha
            have HB := Lib.hid hb
            have HOA := Lib.hid oka
            have HRR := Lib.hid (fun (w' : World) (h : Below w.heap.size w w') => pright_ref a n c l (by omega) w' (ha.below h) oka)
            rw [hr] at HWR HRR
            have HPB := Lib.hid (fun (w' : World) (h : Below w.heap.size w w') => pbytes_ref a n c l w' (ha.below h) oka hr)
            have HPS := Lib.hid (fun (w' : World) (h : Below w.heap.size w w') (A : Option Addr) (cc : Nat) (hs : Sts w' A l.length l) => psame_ref A a l.length n cc c l l w' hs (ha.below h) (by have := (right_of hr).1; omega) (by omega))
            rw [eqP_self] at HPS
            have HPR := Lib.hid (fun (g : Nat) (A : Option Addr) (cc : Nat) (F : Nat → Prop) (w' : World) (h : Rr w' g A cc F (pBytes l) 0 0) (hF : ∀ j, F j → j < g) => pread_any g A cc F (pBytes l) [] 0 l w' h (by simp) hr oka hF)
            have HLE := Lib.hid (pB_len hr oka l.length (Nat.le_refl _))
            have HL8 := Lib.hid ((right_of hr).1)
            clear hgp hgq ha hb oka okb hg hgk hn hm hr hbv
            have g1 : (n : Int) ≤ (m : Int) := by omega
            have g2 : (n : Int) ≤ (d : Int) := by omega
            have g3 : (0 : Int) ≤ (n : Int) := by omega
            have g4 : min (n : Int) (m : Int) = n := by omega
            go_enter Try.func3, Try.ntmps3
            go_wp2_with fail
            refine HGP.out.mono ?_
            rintro e W1 ⟨rfl, rfl⟩
            go_wp2_with fail
            refine HGQ.out.mono ?_
            rintro e W2 ⟨rfl, rfl⟩
            go_wp2_with fail
            refine HWR.out.mono ?_
            rintro e W3 ⟨rfl, vw, hwr, hbw, hvw⟩
            have HW3 := Lib.hid hwr
            have HB3 := Lib.hid hbw
            have HV3 := Lib.hid hvw
            clear hwr hbw hvw
            go_wp2_with fail
            refine (HSM.out _ HB3.out).mono ?_
            rintro e W4 ⟨rfl, hb⟩
            have HW4 := Lib.hid (HW3.out.below hb)
            have HB4 := Lib.hid (HB3.out.trans (hb.mono HB3.out.size))
            clear hb
            go_wp2_with fail
            refine (HBG.out _ HB4.out).mono ?_
            rintro e W5 ⟨rfl, hb⟩
            have HW5 := Lib.hid (HW4.out.below hb)
            have HB5 := Lib.hid (HB4.out.trans (hb.mono HB4.out.size))
            clear hb
            go_wp2_with fail
            refine (HRR.out _ HB5.out).mono ?_
            rintro e W6 ⟨rfl, hb⟩
            have HW6 := Lib.hid (HW5.out.below hb)
            have HB6 := Lib.hid (HB5.out.trans (hb.mono HB5.out.size))
            clear hb
            go_wp2_with fail
            have hpl : (pBytes l).length ≤ 1000 := by have h1 := HLE.out; have h2 := HL8.out; have h3 : (pBytes l).length = (pB l l.length).length := rfl; omega
            refine (out_any _ vw (pBytes l) W6 (by simpa using HW6.out) (by omega)).mono ?_
            rintro e W7 ⟨v7, rfl, ho, hb⟩
            obtain ⟨np, hnp⟩ : ∃ np, (pBytes l).length = np := ⟨_, rfl⟩
            rw [hnp] at ho hpl
            obtain ⟨A7, c7, rfl⟩ := own_slice ho
            have HO7 := Lib.hid (Rd.of_own ho)
            have HW7 := Lib.hid (HW6.out.below hb)
            have HB7 := Lib.hid (HB6.out.trans (hb.mono HB6.out.size))
            have HNP := Lib.hid hnp
            clear ho hb hnp
            go_wp2_with fail
            refine (new_any A7 np c7 (pBytes l) _ W7 HO7.out (by omega)).mono ?_
            rintro e W8 ⟨g, A8, c8, rfl, hrr, hgl, hb⟩
            have hlb := HB7.out.size
            have hRD := HPR.out g A8 c8 _ W8 hrr (fun j hj => hj.2)
            have hgW : W2.heap.size ≤ g := Nat.le_trans hlb hgl
            have HW8 := Lib.hid (HW7.out.below hb)
            have HB8 := Lib.hid (HB7.out.trans (hb.mono HB7.out.size))
            have HRD := Lib.hid hRD
            have HGL := Lib.hid hgl
            have hgn := HW7.out.lt
            have HVL := Lib.hid HW7.out.rowlt
            clear hrr hb hRD
            go_wp2_with fail
            refine HRD.out.mono ?_
            rintro e W9 ⟨v9, rfl, ho, hto⟩
            obtain ⟨A9, c9, rfl⟩ := own_sl ho
            have HS9 := Lib.hid (sts_own ho)
            have HT9 := Lib.hid hto
            have HW9 := Lib.hid (HW8.out.only hto.only (fun e => by have h1 : W2.heap.size = g := e; have h2 : W2.heap.size < W7.heap.size := hgn; omega) (fun j hj e => by have h1 := HVL.out j hj; have h2 : j = g := e; omega))
            have HB9 := Lib.hid (HB8.out.trans (hto.only.below HB8.out.size (fun j hj => by have h2 : j = g := hj; omega)))
            clear ho hto
            go_wp2_with fail
            refine (out_any _ vw (pBytes l) W9 (by simpa using HW9.out) (by have := HNP.out; omega)).mono ?_
            rintro e W10 ⟨v10, rfl, ho, hb⟩
            rw [HNP.out] at ho
            obtain ⟨A10, c10, rfl⟩ := own_slice ho
            have HO10 := Lib.hid ho
            have HS10 := Lib.hid (HS9.out.below hb)
            have HT10 := Lib.hid (HT9.out.rr.below hb)
            have HB10 := Lib.hid (HB9.out.trans (hb.mono HB9.out.size))
            clear ho hb
            go_wp2_with fail
            refine (HPB.out W10 HB10.out).mono ?_
            rintro e W11 ⟨v11, rfl, ho, hb⟩
            rw [HNP.out] at ho
            obtain ⟨A11, c11, rfl⟩ := own_slice ho
            have HO11 := Lib.hid (Rd.of_own ho)
            have HO10' := Lib.hid (Rd.of_own (own_below HO10.out hb))
            have HS11 := Lib.hid (HS10.out.below hb)
            have HT11 := Lib.hid (HT10.out.below hb)
            have HB11 := Lib.hid (HB10.out.trans (hb.mono HB10.out.size))
            clear ho hb
            go_wp2_with fail
            have hbb := bytes_any A10 A11 np np c10 c11 (pBytes l) (pBytes l) _ _ W11 (by unfold maxLen; omega) HO10'.out HO11.out
            rw [decide_eq_true rfl] at hbb
            have HBB := Lib.hid hbb
            clear hbb
            refine HBB.out.mono ?_
            rintro e W12 ⟨rfl, q, rfl⟩
            have HS12 := Lib.hid (HS11.out.drewN q)
            have HT12 := Lib.hid (HT11.out.drewN q)
            have HB12 := Lib.hid (below_drewN HB11.out q)
            go_wp2_with fail
            refine (HPS.out _ HB12.out A9 c9 HS12.out).mono ?_
            rintro e W13 ⟨rfl, hb⟩
            have ht := HT12.out.below hb
            rw [Nat.zero_add] at ht
            have HEN := Lib.hid (end_ok g A8 c8 _ (pBytes l) W13 ht)
            have HB13 := Lib.hid (HB12.out.trans (hb.mono HB12.out.size))
            clear hb ht
            go_wp2_with fail
            refine HEN.out.mono ?_
            rintro e W14 ⟨rfl, q2, rfl⟩
            have HB14 := Lib.hid (below_drewN HB13.out q2)
            go_wp2_with fail
            refine (HAW.out _).mono ?_
            rintro e W15 ⟨rfl, hb⟩
            have HB15 := Lib.hid (HB14.out.trans (hb.mono HB14.out.size))
            clear hb
            go_wp2_with fail
            go_ret
            exact ⟨rfl, HB15.out⟩
          · skip
            have HBG := Lib.hid (show ∀ w' : World, Below w.heap.size w w' → Calls Try.prog 8 #[.slice a n c, .slice b m d] w' fun e w'' => e = .returned (.bool true) ∧ Below w'.heap.size w' w'' from fun w' h => by
              have := begins_any a b n m c d l k w' (ha.below h) (hb.below h) (by omega) ⟨by omega, by omega⟩
              rw [decide_eq_true hnm, Bool.true_and, hbv] at this
              exact this)
            have HSM := Lib.hid (show ∀ w' : World, Below w.heap.size w w' → Calls Try.prog 7 #[.slice a n c, .slice b n d] w' fun e w'' => e = .returned (.bool true) ∧ Below w'.heap.size w' w'' from fun w' h => by
              have := psame_ref a b n n c d l (k.take n) w' (ha.below h) ((hb.below h).take hnm) (by omega) (by omega)
              rw [hbv] at this
              exact this)
            have HGP := Lib.hid hgp
            have HGQ := Lib.hid hgq
            have HWR := Lib.hid (pwrite_either a n c l w ha oka (by omega))
            have HA := Lib.hid ha
            have HB := Lib.hid hb
            have HOA := Lib.hid oka
            have HRR := Lib.hid (fun (w' : World) (h : Below w.heap.size w w') => pright_ref a n c l (by omega) w' (ha.below h) oka)
            rw [hr] at HWR HRR
            have HPB := Lib.hid (fun (w' : World) (h : Below w.heap.size w w') => pbytes_ref a n c l w' (ha.below h) oka hr)
            have HPS := Lib.hid (fun (w' : World) (h : Below w.heap.size w w') (A : Option Addr) (cc : Nat) (hs : Sts w' A l.length l) => psame_ref A a l.length n cc c l l w' hs (ha.below h) (by have := (right_of hr).1; omega) (by omega))
            rw [eqP_self] at HPS
            have HPR := Lib.hid (fun (g : Nat) (A : Option Addr) (cc : Nat) (F : Nat → Prop) (w' : World) (h : Rr w' g A cc F (pBytes l) 0 0) (hF : ∀ j, F j → j < g) => pread_any g A cc F (pBytes l) [] 0 l w' h (by simp) hr oka hF)
            have HLE := Lib.hid (pB_len hr oka l.length (Nat.le_refl _))
            have HL8 := Lib.hid ((right_of hr).1)
            clear hgp hgq ha hb oka okb hg hgk hn hm hr hbv
            have g1 : (n : Int) ≤ (m : Int) := by omega
            have g2 : (n : Int) ≤ (d : Int) := by omega
            have g3 : (0 : Int) ≤ (n : Int) := by omega
            have g4 : min (n : Int) (m : Int) = n := by omega
            go_enter Try.func3, Try.ntmps3
            go_wp2_with fail
            refine HGP.out.mono ?_
            rintro e W1 ⟨rfl, rfl⟩
            go_wp2_with fail
            refine HGQ.out.mono ?_
            rintro e W2 ⟨rfl, rfl⟩
            go_wp2_with fail
            refine HWR.out.mono ?_
            rintro e W3 ⟨rfl, vw, hwr, hbw, hvw⟩
            have HW3 := Lib.hid hwr
            have HB3 := Lib.hid hbw
            have HV3 := Lib.hid hvw
            clear hwr hbw hvw
            go_wp2_with fail
            refine (HSM.out _ HB3.out).mono ?_
            rintro e W4 ⟨rfl, hb⟩
            have HW4 := Lib.hid (HW3.out.below hb)
            have HB4 := Lib.hid (HB3.out.trans (hb.mono HB3.out.size))
            clear hb
            go_wp2_with fail
            refine (HBG.out _ HB4.out).mono ?_
            rintro e W5 ⟨rfl, hb⟩
            have HW5 := Lib.hid (HW4.out.below hb)
            have HB5 := Lib.hid (HB4.out.trans (hb.mono HB4.out.size))
            clear hb
            go_wp2_with fail
            refine (HRR.out _ HB5.out).mono ?_
            rintro e W6 ⟨rfl, hb⟩
            have HW6 := Lib.hid (HW5.out.below hb)
            have HB6 := Lib.hid (HB5.out.trans (hb.mono HB5.out.size))
            clear hb
            go_wp2_with fail
            have hpl : (pBytes l).length ≤ 1000 := by have h1 := HLE.out; have h2 := HL8.out; have h3 : (pBytes l).length = (pB l l.length).length := rfl; omega
            refine (out_any _ vw (pBytes l) W6 (by simpa using HW6.out) (by omega)).mono ?_
            rintro e W7 ⟨v7, rfl, ho, hb⟩
            obtain ⟨np, hnp⟩ : ∃ np, (pBytes l).length = np := ⟨_, rfl⟩
            rw [hnp] at ho hpl
            obtain ⟨A7, c7, rfl⟩ := own_slice ho
            have HO7 := Lib.hid (Rd.of_own ho)
            have HW7 := Lib.hid (HW6.out.below hb)
            have HB7 := Lib.hid (HB6.out.trans (hb.mono HB6.out.size))
            have HNP := Lib.hid hnp
            clear ho hb hnp
            go_wp2_with fail
            refine (new_any A7 np c7 (pBytes l) _ W7 HO7.out (by omega)).mono ?_
            rintro e W8 ⟨g, A8, c8, rfl, hrr, hgl, hb⟩
            have hlb := HB7.out.size
            have hRD := HPR.out g A8 c8 _ W8 hrr (fun j hj => hj.2)
            have hgW : W2.heap.size ≤ g := Nat.le_trans hlb hgl
            have HW8 := Lib.hid (HW7.out.below hb)
            have HB8 := Lib.hid (HB7.out.trans (hb.mono HB7.out.size))
            have HRD := Lib.hid hRD
            have HGL := Lib.hid hgl
            have hgn := HW7.out.lt
            have HVL := Lib.hid HW7.out.rowlt
            clear hrr hb hRD
            go_wp2_with fail
            refine HRD.out.mono ?_
            rintro e W9 ⟨v9, rfl, ho, hto⟩
            obtain ⟨A9, c9, rfl⟩ := own_sl ho
            have HS9 := Lib.hid (sts_own ho)
            have HT9 := Lib.hid hto
            have HW9 := Lib.hid (HW8.out.only hto.only (fun e => by have h1 : W2.heap.size = g := e; have h2 : W2.heap.size < W7.heap.size := hgn; omega) (fun j hj e => by have h1 := HVL.out j hj; have h2 : j = g := e; omega))
            have HB9 := Lib.hid (HB8.out.trans (hto.only.below HB8.out.size (fun j hj => by have h2 : j = g := hj; omega)))
            clear ho hto
            go_wp2_with fail
            refine (out_any _ vw (pBytes l) W9 (by simpa using HW9.out) (by have := HNP.out; omega)).mono ?_
            rintro e W10 ⟨v10, rfl, ho, hb⟩
            rw [HNP.out] at ho
            obtain ⟨A10, c10, rfl⟩ := own_slice ho
            have HO10 := Lib.hid ho
            have HS10 := Lib.hid (HS9.out.below hb)
            have HT10 := Lib.hid (HT9.out.rr.below hb)
            have HB10 := Lib.hid (HB9.out.trans (hb.mono HB9.out.size))
            clear ho hb
            go_wp2_with fail
            refine (HPB.out W10 HB10.out).mono ?_
            rintro e W11 ⟨v11, rfl, ho, hb⟩
            rw [HNP.out] at ho
            obtain ⟨A11, c11, rfl⟩ := own_slice ho
            have HO11 := Lib.hid (Rd.of_own ho)
            have HO10' := Lib.hid (Rd.of_own (own_below HO10.out hb))
            have HS11 := Lib.hid (HS10.out.below hb)
            have HT11 := Lib.hid (HT10.out.below hb)
            have HB11 := Lib.hid (HB10.out.trans (hb.mono HB10.out.size))
            clear ho hb
            go_wp2_with fail
            have hbb := bytes_any A10 A11 np np c10 c11 (pBytes l) (pBytes l) _ _ W11 (by unfold maxLen; omega) HO10'.out HO11.out
            rw [decide_eq_true rfl] at hbb
            have HBB := Lib.hid hbb
            clear hbb
            refine HBB.out.mono ?_
            rintro e W12 ⟨rfl, q, rfl⟩
            have HS12 := Lib.hid (HS11.out.drewN q)
            have HT12 := Lib.hid (HT11.out.drewN q)
            have HB12 := Lib.hid (below_drewN HB11.out q)
            go_wp2_with fail
            refine (HPS.out _ HB12.out A9 c9 HS12.out).mono ?_
            rintro e W13 ⟨rfl, hb⟩
            have ht := HT12.out.below hb
            rw [Nat.zero_add] at ht
            have HEN := Lib.hid (end_ok g A8 c8 _ (pBytes l) W13 ht)
            have HB13 := Lib.hid (HB12.out.trans (hb.mono HB12.out.size))
            clear hb ht
            go_wp2_with fail
            refine HEN.out.mono ?_
            rintro e W14 ⟨rfl, q2, rfl⟩
            have HB14 := Lib.hid (below_drewN HB13.out q2)
            go_wp2_with fail
            refine (HAW.out _).mono ?_
            rintro e W15 ⟨rfl, hb⟩
            have HB15 := Lib.hid (HB14.out.trans (hb.mono HB14.out.size))
            clear hb
            go_wp2_with fail
            go_ret
            exact ⟨rfl, HB15.out⟩
        · skip
          have HBG := Lib.hid (show ∀ w' : World, Below w.heap.size w w' → Calls Try.prog 8 #[.slice a n c, .slice b m d] w' fun e w'' => e = .returned (.bool false) ∧ Below w'.heap.size w' w'' from fun w' h => by
            have := begins_any a b n m c d l k w' (ha.below h) (hb.below h) (by omega) ⟨by omega, by omega⟩
            rw [decide_eq_false hnm, Bool.false_and] at this
            exact this)
          have HGP := Lib.hid hgp
          have HGQ := Lib.hid hgq
          have HWR := Lib.hid (pwrite_either a n c l w ha oka (by omega))
          have HA := Lib.hid ha
          have HB := Lib.hid hb
          have HOA := Lib.hid oka
          have HRR := Lib.hid (fun (w' : World) (h : Below w.heap.size w w') => pright_ref a n c l (by omega) w' (ha.below h) oka)
          rw [hr] at HWR HRR
          have HPB := Lib.hid (fun (w' : World) (h : Below w.heap.size w w') => pbytes_ref a n c l w' (ha.below h) oka hr)
          have HPS := Lib.hid (fun (w' : World) (h : Below w.heap.size w w') (A : Option Addr) (cc : Nat) (hs : Sts w' A l.length l) => psame_ref A a l.length n cc c l l w' hs (ha.below h) (by have := (right_of hr).1; omega) (by omega))
          rw [eqP_self] at HPS
          have HPR := Lib.hid (fun (g : Nat) (A : Option Addr) (cc : Nat) (F : Nat → Prop) (w' : World) (h : Rr w' g A cc F (pBytes l) 0 0) (hF : ∀ j, F j → j < g) => pread_any g A cc F (pBytes l) [] 0 l w' h (by simp) hr oka hF)
          have HLE := Lib.hid (pB_len hr oka l.length (Nat.le_refl _))
          have HL8 := Lib.hid ((right_of hr).1)
          clear hgp hgq ha hb oka okb hg hgk hn hm hr
          have g1 : ¬ (n : Int) ≤ (m : Int) := by omega
          go_enter Try.func3, Try.ntmps3
          go_wp2_with fail
          refine HGP.out.mono ?_
          rintro e W1 ⟨rfl, rfl⟩
          go_wp2_with fail
          refine HGQ.out.mono ?_
          rintro e W2 ⟨rfl, rfl⟩
          go_wp2_with fail
          refine HWR.out.mono ?_
          rintro e W3 ⟨rfl, vw, hwr, hbw, hvw⟩
          have HW3 := Lib.hid hwr
          have HB3 := Lib.hid hbw
          have HV3 := Lib.hid hvw
          clear hwr hbw hvw
          go_wp2_with fail
          have HW4 := HW3
          have HB4 := HB3
          refine (HBG.out _ HB4.out).mono ?_
          rintro e W5 ⟨rfl, hb⟩
          have HW5 := Lib.hid (HW4.out.below hb)
          have HB5 := Lib.hid (HB4.out.trans (hb.mono HB4.out.size))
          clear hb
          go_wp2_with fail
          refine (HRR.out _ HB5.out).mono ?_
          rintro e W6 ⟨rfl, hb⟩
          have HW6 := Lib.hid (HW5.out.below hb)
          have HB6 := Lib.hid (HB5.out.trans (hb.mono HB5.out.size))
          clear hb
          go_wp2_with fail
          have hpl : (pBytes l).length ≤ 1000 := by have h1 := HLE.out; have h2 := HL8.out; have h3 : (pBytes l).length = (pB l l.length).length := rfl; omega
          refine (out_any _ vw (pBytes l) W6 (by simpa using HW6.out) (by omega)).mono ?_
          rintro e W7 ⟨v7, rfl, ho, hb⟩
          obtain ⟨np, hnp⟩ : ∃ np, (pBytes l).length = np := ⟨_, rfl⟩
          rw [hnp] at ho hpl
          obtain ⟨A7, c7, rfl⟩ := own_slice ho
          have HO7 := Lib.hid (Rd.of_own ho)
          have HW7 := Lib.hid (HW6.out.below hb)
          have HB7 := Lib.hid (HB6.out.trans (hb.mono HB6.out.size))
          have HNP := Lib.hid hnp
          clear ho hb hnp
          go_wp2_with fail
          refine (new_any A7 np c7 (pBytes l) _ W7 HO7.out (by omega)).mono ?_
          rintro e W8 ⟨g, A8, c8, rfl, hrr, hgl, hb⟩
          have hlb := HB7.out.size
          have hRD := HPR.out g A8 c8 _ W8 hrr (fun j hj => hj.2)
          have hgW : W2.heap.size ≤ g := Nat.le_trans hlb hgl
          have HW8 := Lib.hid (HW7.out.below hb)
          have HB8 := Lib.hid (HB7.out.trans (hb.mono HB7.out.size))
          have HRD := Lib.hid hRD
          have HGL := Lib.hid hgl
          have hgn := HW7.out.lt
          have HVL := Lib.hid HW7.out.rowlt
          clear hrr hb hRD
          go_wp2_with fail
          refine HRD.out.mono ?_
          rintro e W9 ⟨v9, rfl, ho, hto⟩
          obtain ⟨A9, c9, rfl⟩ := own_sl ho
          have HS9 := Lib.hid (sts_own ho)
          have HT9 := Lib.hid hto
          have HW9 := Lib.hid (HW8.out.only hto.only (fun e => by have h1 : W2.heap.size = g := e; have h2 : W2.heap.size < W7.heap.size := hgn; omega) (fun j hj e => by have h1 := HVL.out j hj; have h2 : j = g := e; omega))
          have HB9 := Lib.hid (HB8.out.trans (hto.only.below HB8.out.size (fun j hj => by have h2 : j = g := hj; omega)))
          clear ho hto
          go_wp2_with fail
          refine (out_any _ vw (pBytes l) W9 (by simpa using HW9.out) (by have := HNP.out; omega)).mono ?_
          rintro e W10 ⟨v10, rfl, ho, hb⟩
          rw [HNP.out] at ho
          obtain ⟨A10, c10, rfl⟩ := own_slice ho
          have HO10 := Lib.hid ho
          have HS10 := Lib.hid (HS9.out.below hb)
          have HT10 := Lib.hid (HT9.out.rr.below hb)
          have HB10 := Lib.hid (HB9.out.trans (hb.mono HB9.out.size))
          clear ho hb
          go_wp2_with fail
          refine (HPB.out W10 HB10.out).mono ?_
          rintro e W11 ⟨v11, rfl, ho, hb⟩
          rw [HNP.out] at ho
          obtain ⟨A11, c11, rfl⟩ := own_slice ho
          have HO11 := Lib.hid (Rd.of_own ho)
          have HO10' := Lib.hid (Rd.of_own (own_below HO10.out hb))
          have HS11 := Lib.hid (HS10.out.below hb)
          have HT11 := Lib.hid (HT10.out.below hb)
          have HB11 := Lib.hid (HB10.out.trans (hb.mono HB10.out.size))
          clear ho hb
          go_wp2_with fail
          have hbb := bytes_any A10 A11 np np c10 c11 (pBytes l) (pBytes l) _ _ W11 (by unfold maxLen; omega) HO10'.out HO11.out
          rw [decide_eq_true rfl] at hbb
          have HBB := Lib.hid hbb
          clear hbb
          refine HBB.out.mono ?_
          rintro e W12 ⟨rfl, q, rfl⟩
          have HS12 := Lib.hid (HS11.out.drewN q)
          have HT12 := Lib.hid (HT11.out.drewN q)
          have HB12 := Lib.hid (below_drewN HB11.out q)
          go_wp2_with fail
          refine (HPS.out _ HB12.out A9 c9 HS12.out).mono ?_
          rintro e W13 ⟨rfl, hb⟩
          have ht := HT12.out.below hb
          rw [Nat.zero_add] at ht
          have HEN := Lib.hid (end_ok g A8 c8 _ (pBytes l) W13 ht)
          have HB13 := Lib.hid (HB12.out.trans (hb.mono HB12.out.size))
          clear hb ht
          go_wp2_with fail
          refine HEN.out.mono ?_
          rintro e W14 ⟨rfl, q2, rfl⟩
          have HB14 := Lib.hid (below_drewN HB13.out q2)
          go_wp2_with fail
          refine (HAW.out _).mono ?_
          rintro e W15 ⟨rfl, hb⟩
          have HB15 := Lib.hid (HB14.out.trans (hb.mono HB14.out.size))
          clear hb
          go_wp2_with fail
          go_ret
          exact ⟨rfl, HB15.out⟩
    · rw [hgk] at hgq
      have HGP := Lib.hid hgp
      have HGQ := Lib.hid hgq
      clear hgp hgq ha hb oka okb hg hgk hn hm
      go_enter Try.func3, Try.ntmps3
      go_wp2_with fail
      refine HGP.out.mono ?_
      rintro e W1 ⟨rfl, rfl⟩
      go_wp2_with fail
      refine HGQ.out.mono ?_
      rintro e W2 ⟨rfl, rfl⟩
      go_wp2_with fail
      refine (HAW.out _).mono ?_
      rintro e W3 ⟨rfl, hb⟩
      have HB := Lib.hid hb
      clear hb
      go_wp2_with fail
      go_ret
      exact ⟨rfl, HB.out⟩
  · rw [hg] at hgp
    have HGP := Lib.hid hgp
    clear hgp hgq ha hb oka okb hg hn hm
    go_enter Try.func3, Try.ntmps3
    go_wp2_with fail
    refine HGP.out.mono ?_
    rintro e W1 ⟨rfl, rfl⟩
    go_wp2_with fail
    refine (HAW.out _).mono ?_
    rintro e W2 ⟨rfl, hb⟩
    have HB := Lib.hid hb
    clear hb
    go_wp2_with fail
    go_ret
    exact ⟨rfl, HB.out⟩

end Go.Proofs.Ythknfbbnnldnmaa
