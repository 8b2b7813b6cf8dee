/- A path's bytes: as the program writes them, as the document says them; for any right path. -/
import Derived.Test.YthknfbbnnldnmaaSg
import Derived.Test.YthknfbbnnldnmaaTextW
import Derived.Test.YthknfbbnnldnmaaRef
namespace Go.Proofs.Ythknfbbnnldnmaa
set_option maxRecDepth 100000
set_option linter.unusedSimpArgs false
set_option linter.unusedVariables false
open Go.RowKit

def stBytes (x : Stp) : List UInt8 := (enc x.s.size ++ x.s.data.toList) ++ (if x.s.size = 0 then enc x.id.toNat else [])
/-- The bytes of how many steps there are, and of the first ones. -/
def pB (l : List Stp) (j : Nat) : List UInt8 := enc l.length ++ (l.take j).flatMap stBytes
def pBytes (l : List Stp) : List UInt8 := pB l l.length
theorem pB_zero (l : List Stp) : pB l 0 = enc l.length := by simp [pB]
theorem pB_more {l : List Stp} {j : Nat} (hj : j < l.length) : pB l (j + 1) = pB l j ++ stBytes (stp l j) := by
  unfold pB
  rw [List.take_add_one, stp_get hj, List.flatMap_append, List.append_assoc]
  simp
theorem stBytes_named {x : Stp} (h : x.s.size ≠ 0) : stBytes x = enc x.s.size ++ x.s.data.toList := by unfold stBytes; rw [if_neg h, List.append_nil]
theorem enc_empty : enc ByteArray.empty.size ++ ByteArray.empty.data.toList = [0] := by
  have h : enc ByteArray.empty.size = [0] := by rw [show ByteArray.empty.size = 0 from rfl, enc_small (by omega)]; rfl
  rw [h]; rfl
theorem stBytes_numbered (i : Int) : stBytes ⟨ByteArray.empty, i⟩ = [0] ++ enc i.toNat := by
  have h : enc ByteArray.empty.size = [0] := by rw [show ByteArray.empty.size = 0 from rfl, enc_small (by omega)]; rfl
  show (enc ByteArray.empty.size ++ ByteArray.empty.data.toList) ++ (if ByteArray.empty.size = 0 then enc i.toNat else []) = _
  rw [h, if_pos (show ByteArray.empty.size = 0 from rfl)]
  rfl
theorem stBytes_len {x : Stp} (h : x.s.size ≤ 12) (h1 : x.id < 18446744073709551616) : (stBytes x).length ≤ 32 := by
  have h2 := enc_length_le (n := x.s.size) (by omega)
  have h3 := enc_length_le (n := x.id.toNat) (by omega)
  have h4 : x.s.data.toList.length = x.s.size := by simp
  unfold stBytes
  split <;> simp only [List.length_append, List.length_nil] <;> omega
theorem right_of {l : List Stp} (h : rightP l = true) : l.length ≤ 8 ∧ ∀ j, j < l.length → stB (stp l j) = true := by
  unfold rightP at h
  rw [Bool.and_eq_true, List.all_eq_true] at h
  exact ⟨of_decide_eq_true h.1, fun j hj => h.2 j (List.mem_range.2 hj)⟩
theorem stB_size {x : Stp} (h : stB x = true) : x.s.size ≤ 12 := by
  unfold stB at h
  rw [Bool.or_eq_true, Bool.and_eq_true, Bool.and_eq_true] at h
  rcases h with h | h
  · exact (name_size h.1).2
  · have := of_decide_eq_true h.1
    omega
theorem pB_len {l : List Stp} (h : rightP l = true) (hok : ∀ x ∈ l, StOk x) : ∀ j, j ≤ l.length → (pB l j).length ≤ 10 + 32 * j
  | 0, _ => by
    rw [pB_zero]
    have := enc_length_le (n := l.length) (by have := (right_of h).1; omega)
    omega
  | j + 1, hj => by
    have ih := pB_len h hok j (by omega)
    have hs := stBytes_len (stB_size ((right_of h).2 j (by omega))) (ok_get hok (by omega)).hi
    rw [pB_more (by omega), List.length_append]
    omega

theorem below_wrote {W w w' : World} {a : Addr} {v v' : Value} {l : List UInt8} (h : Wrote w w' a v v' l) (hW : Below W.heap.size W w) (ha : W.heap.size ≤ a.block) (hv : ∀ j, v.ownBlock = some j → W.heap.size ≤ j) :
    Below W.heap.size W w' ∧ ∀ j, v'.ownBlock = some j → W.heap.size ≤ j :=
  ⟨hW.trans (h.only.below hW.size (fun k hk => hk.elim (fun e => e ▸ ha) (hv k))), fun j hj => (h.rows j hj).elim (hv j) (fun hk => Nat.le_trans hW.size hk)⟩

set_option maxHeartbeats 800000 in
theorem pwrite_not (a : Addr) (v : Value) (k0 : List UInt8) (b : Option Addr) (n c : Nat) (l : List Stp) (w : World) (hS : Sts w b n l) (hok : ∀ x ∈ l, StOk x) (hn : n ≤ 9223372036854775807) (hr : rightP l = false) (hw : Wr w a v k0) :
    Calls Try.prog 6 #[.pointer (some a), .slice b n c] w fun e w' => e = .returned (.tuple #[]) ∧ Wr w' a v k0 ∧ Below w.heap.size w w' := by
  have hp := pright_any b n c l hn w hS hok
  rw [hr] at hp
  have HP := Lib.hid hp
  have HW := Lib.hid hw
  clear hp hw hS hok hr
  go_enter Try.func6, Try.ntmps6
  go_wp2_with fail
  refine HP.out.mono ?_
  rintro e W1 ⟨rfl, hb⟩
  have HB := Lib.hid hb
  clear hb
  go_wp2_with fail
  (try simp only [Exit.inBlock, Exit.then])
  refine bodyPost_ret (results_none rfl _ _ _) rfl ?_
  exact ⟨rfl, HW.out.below HB.out, HB.out⟩

set_option maxHeartbeats 1600000 in
theorem pwrite_any (W : World) (a : Addr) (v : Value) (k0 : List UInt8) (b : Option Addr) (n c : Nat) (l : List Stp) (w : World) (hS : Sts W b n l) (hok : ∀ x ∈ l, StOk x) (hr : rightP l = true) (hWw : Below W.heap.size W w) (hw : Wr w a v k0)
    (ha : W.heap.size ≤ a.block) (hv : ∀ j, v.ownBlock = some j → W.heap.size ≤ j) (hlen : k0.length + 300 ≤ 140737488355328) :
    Calls Try.prog 6 #[.pointer (some a), .slice b n c] w fun e w' => e = .returned (.tuple #[]) ∧ ∃ v', Wr w' a v' (k0 ++ pBytes l) ∧ Below W.heap.size W w' ∧ ∀ j, v'.ownBlock = some j → W.heap.size ≤ j := by
  have hl := hS.1
  obtain ⟨h8, hst⟩ := right_of hr
  have hp := pright_any b n c l (by omega) w (hS.keep (fun ad _ hl => hWw.block _ hl) hWw.size) hok
  rw [hr] at hp
  have HP := Lib.hid hp
  have HW := Lib.hid hw
  have HWW := Lib.hid hWw
  have HS := Lib.hid hS
  have HOK := Lib.hid hok
  have HST := Lib.hid hst
  have HL := Lib.hid hl
  have HPL := Lib.hid (pB_len hr hok)
  have HV := Lib.hid hv
  have HA := Lib.hid ha
  have hn8 : (n : Int) ≤ 8 := by omega
  have hn8n : n ≤ 8 := by omega
  clear hp hw hWw hS hok hst hr hv ha h8 hl
  go_enter Try.func6, Try.ntmps6
  go_wp2_with fail
  refine HP.out.mono ?_
  rintro e W1 ⟨rfl, hb⟩
  have HB := Lib.hid hb
  clear hb
  go_wp2_with fail
  refine (number_any a v k0 n W1 (HW.out.below HB.out) (by omega) (by omega)).mono ?_
  rintro e W2 ⟨rfl, v2, hw2⟩
  have hb2 := below_wrote (hw2.after HB.out) HWW.out HA.out HV.out
  have HW2 := Lib.hid hw2.wr
  have HB2 := Lib.hid hb2.1
  have HV2 := Lib.hid hb2.2
  clear hw2 hb2
  go_wp2_with fail
  go_loopw [5, 16] (fun _ i wr => ∃ (j : Nat) (v' : Value), j ≤ n ∧ i = .int .i64 (j : Int) ∧ Wr wr a v' (k0 ++ pB l j) ∧ Below W.heap.size W wr ∧ ∀ k, v'.ownBlock = some k → W.heap.size ≤ k) (fun _ i _ => n - (intOf i).toNat)
  case atStart => exact ⟨0, v2, Nat.zero_le _, rfl, by rw [pB_zero, HL.out]; exact HW2.out, HB2.out, HV2.out⟩
  case round =>
    obtain ⟨j, v3, hjn, rfl, hwr, hbw, hvr⟩ := hrel
    have bj0 : (0 : Int) ≤ (j : Int) := by omega
    have HWR := Lib.hid hwr
    have HBW := Lib.hid hbw
    have HVR := Lib.hid hvr
    clear hwr hbw hvr
    by_cases hj : j < n
    · have hji : (j : Int) < (n : Int) := by omega
      obtain ⟨ad, rfl, hc0, hc1⟩ := (HS.out.keep (fun ad _ hl => HBW.out.block _ hl) HBW.out.size).at_ hj
      have HLD := Lib.hid (ld_st hc0 hc1)
      have hok := ok_get HOK.out (i := j) (by rw [HL.out]; exact hj)
      have hst := HST.out j (by rw [HL.out]; exact hj)
      have HMO := Lib.hid (pB_more (l := l) (j := j) (by rw [HL.out]; exact hj))
      have hpl := HPL.out j (by rw [HL.out]; omega)
      have hs12 := stB_size hst
      clear hc0 hc1 hst
      generalize stp l j = x at *
      obtain ⟨s, i⟩ := x
      have hs12 : s.size ≤ 12 := hs12
      have hi0 : 0 ≤ i := hok.lo
      have hi1 : i < 18446744073709551616 := hok.hi
      clear hok
      have hlk : (k0 ++ pB l j).length + s.size + 10 ≤ 140737488355328 := by rw [List.length_append]; omega
      go_wp2_with (refine wpList_loadr rfl 42 (.tmp 18) rfl _ _ rfl HLD.out ?_)
      refine (puttext_any a v3 (k0 ++ pB l j) s _ (HWR.out.below (below_new _ _)) hlk).mono ?_
      rintro e W3 ⟨rfl, v4, hw4⟩
      have hg0 : W3.cell? ⟨wr.heap.size, 0, none⟩ = some (.string s) := by
        refine (hw4.only.cell ?_ (show wr.heap.size < _ by simp)).trans ((Row.new wr [.string s, .int .u64 i] 42).cell (k := 0) rfl)
        rintro (h | h)
        · have h1 := HWR.out.lt; have h2 : wr.heap.size = a.block := h; omega
        · have h1 := HWR.out.rowlt _ h; exact Nat.lt_irrefl _ h1
      have hg1 : W3.cell? ⟨wr.heap.size, 1, none⟩ = some (.int .u64 i) := by
        refine (hw4.only.cell ?_ (show wr.heap.size < _ by simp)).trans ((Row.new wr [.string s, .int .u64 i] 42).cell (k := 1) rfl)
        rintro (h | h)
        · have h1 := HWR.out.lt; have h2 : wr.heap.size = a.block := h; omega
        · have h1 := HWR.out.rowlt _ h; exact Nat.lt_irrefl _ h1
      have hb4 := below_wrote (hw4.after (below_new wr _)) HBW.out HA.out HVR.out
      have HW4 := Lib.hid hw4
      have HB4 := Lib.hid hb4.1
      have HV4 := Lib.hid hb4.2
      clear hw4 hb4
      by_cases h0 : s.size = 0
      · obtain rfl := empty_of h0
        obtain ⟨m, rfl⟩ := Int.eq_ofNat_of_zero_le hi0
        go_wp2_with fail
        refine (number_any a v4 _ m W3 HW4.out.wr (by omega) (by rw [enc_empty]; simp only [List.length_append, List.length_cons, List.length_nil] at hlk ⊢; omega)).mono ?_
        rintro e W4 ⟨rfl, v5, hw5⟩
        have hb5 := below_wrote hw5 HB4.out HA.out HV4.out
        have HW5 := Lib.hid hw5.wr
        have HB5 := Lib.hid hb5.1
        have HV5 := Lib.hid hb5.2
        clear hw5 hb5
        go_wp2_with fail
        go_roundw
        case rel =>
          refine ⟨j + 1, v5, by omega, by go_num, ?_, HB5.out, HV5.out⟩
          rw [HMO.out, stBytes_numbered, ← List.append_assoc, ← List.append_assoc]
          have hw5 := HW5.out
          rw [enc_empty] at hw5
          exact hw5
        case measure => simp [intOf] <;> omega
      · have hne := toList_ne h0
        have hne2 := isEmpty_ne h0
        have hne3 : (s.toList == []) = false := beq_eq_false_iff_ne.2 hne
        go_wp2_with fail
        go_roundw
        case rel =>
          refine ⟨j + 1, v4, by omega, by go_num, ?_, HB4.out, HV4.out⟩
          rw [HMO.out, stBytes_named h0, ← List.append_assoc]
          exact HW4.out.wr
        case measure => simp [intOf] <;> omega
    · obtain rfl : j = n := by omega
      go_wp2_with fail
      go_end0
      refine ⟨rfl, v3, ?_, HBW.out, HVR.out⟩
      have := HWR.out
      unfold pBytes
      rw [HL.out]
      exact this


set_option maxHeartbeats 1600000 in
theorem pbytes_ref (b : Option Addr) (n c : Nat) (l : List Stp) (w : World) (hS : Sts w b n l) (hok : ∀ x ∈ l, StOk x) (hr : rightP l = true) :
    Calls Try.prog 14 #[.slice b n c] w fun e w' => ∃ v, e = .returned v ∧ w'.ownsRow w.heap.size 5 1 v (pBytes l).length (Bs (pBytes l)) ∧ Below w.heap.size w w' := by
  have hl := hS.1
  obtain ⟨h8, hst⟩ := right_of hr
  obtain ⟨i0, hi, hz0, hz1, hz2⟩ := info_parts u8_info
  have HS := Lib.hid hS
  have HOK := Lib.hid hok
  have HST := Lib.hid hst
  have HL := Lib.hid hl
  have HPL := Lib.hid (pB_len hr hok)
  have hn8 : (n : Int) ≤ 8 := by omega
  have hn8n : n ≤ 8 := by omega
  clear hS hok hst hr h8 hl
  go_enter Try.func14, Try.ntmps14
  go_wp2_with fail
  go_loopw [3, 4] (fun o i wr => ∃ j : Nat, j ≤ n ∧ i = .int .i64 (j : Int) ∧ wr.ownsRow w.heap.size 5 1 o (pB l j).length (Bs (pB l j)) ∧ Below w.heap.size w wr) (fun _ i _ => n - (intOf i).toNat)
  case atStart =>
    refine ⟨0, Nat.zero_le _, rfl, ?_, below_new _ _⟩
    rw [pB_zero, HL.out, enc_small (by omega)]
    refine own_lit w [UInt8.ofNat n] _ ?_ 1 rfl (by unfold maxLen; omega)
    exact low_last (by omega)
  case round =>
    obtain ⟨j, hjn, rfl, hown, hbw⟩ := hrel
    obtain ⟨A, cp, rfl⟩ := own_slice hown
    have bj0 : (0 : Int) ≤ (j : Int) := by omega
    have HO := Lib.hid hown
    have HBW := Lib.hid hbw
    clear hown hbw
    by_cases hj : j < n
    · have hji : (j : Int) < (n : Int) := by omega
      obtain ⟨ad, rfl, hc0, hc1⟩ := (HS.out.below HBW.out).at_ hj
      have hadl : ad.block < w.heap.size := by
        obtain ⟨ad', e, hl', _⟩ := HS.out.2 (by omega)
        injection e with e
        rw [e]; exact hl'
      have HK0 := Lib.hid (fun (w' : World) (h : Below w.heap.size w w') => (h.cell (p := ad.add (j * 2)) (by rw [add_block]; exact hadl)).trans ((HBW.out.cell (p := ad.add (j * 2)) (by rw [add_block]; exact hadl)).symm.trans hc0))
      have HK1 := Lib.hid (fun (w' : World) (h : Below w.heap.size w w') => (h.cell (p := ⟨(ad.add (j * 2)).block, (ad.add (j * 2)).off + 1, none⟩) (by show (ad.add (j * 2)).block < _; rw [add_block]; exact hadl)).trans ((HBW.out.cell (p := ⟨(ad.add (j * 2)).block, (ad.add (j * 2)).off + 1, none⟩) (by show (ad.add (j * 2)).block < _; rw [add_block]; exact hadl)).symm.trans hc1))
      clear hadl
      have hok := ok_get HOK.out (i := j) (by rw [HL.out]; exact hj)
      have hst := HST.out j (by rw [HL.out]; exact hj)
      have HMO := Lib.hid (pB_more (l := l) (j := j) (by rw [HL.out]; exact hj))
      have hpl := HPL.out j (by rw [HL.out]; omega)
      have hs12 := stB_size hst
      clear hst
      generalize stp l j = x at *
      obtain ⟨s, i⟩ := x
      have hs12 : s.size ≤ 12 := hs12
      have hi0 : 0 ≤ i := hok.lo
      have hi1 : i < 18446744073709551616 := hok.hi
      have hsl : s.data.toList.length = s.size := by simp
      have hel := enc_length_le (n := s.size) (by omega)
      clear hok
      obtain ⟨cc, w1, hrun, hrd, hbel, _⟩ := of_text s wr
      have HRD := Lib.hid hrd
      have HBE := Lib.hid hbel
      clear hrd hbel
      go_wp2_with fail
      refine (refbytes_any _ _ cc s.data.toList _ w1 HRD.out (by omega)).mono ?_
      rintro e W3 ⟨v3, rfl, hown3, hb3⟩
      rw [hsl] at hown3
      have hk3 : (enc s.size ++ s.data.toList).length ≤ 22 := by simp only [List.length_append]; omega
      have HMO2 := Lib.hid (show pB l (j + 1) = (pB l j ++ (enc s.size ++ s.data.toList)) ++ (if s.size = 0 then enc i.toNat else []) by rw [HMO.out]; simp only [stBytes, List.append_assoc])
      generalize enc s.size ++ s.data.toList = k3 at *
      obtain ⟨n3, hn3⟩ : ∃ n3, k3.length = n3 := ⟨_, rfl⟩
      rw [hn3] at hown3 hk3
      obtain ⟨A3, c3, rfl⟩ := own_slice hown3
      have HO3 := Lib.hid hown3
      have HB3 := Lib.hid (HBE.out.trans (hb3.mono HBE.out.size))
      have HN3 := Lib.hid hn3
      clear hown3 hb3 hn3
      generalize hnp : (pB l j).length = np at *
      have HNP := Lib.hid hnp
      clear hnp
      go_wp2_with (at_builtin; refine wpList_append_rd _ rfl (.tmp 15) (.tmp 22) 25 rfl w.heap.size 5 i0 (.int .u8 0) 1 Try.underlying25 hi hz0 hz1 hz2 rfl (.slice A np cp) np (Bs (pB l j)) rfl (own_below HO.out HB3.out) _ A3 n3 c3 (Bs k3) rfl (Rd.of_own HO3.out) (Bs_one _) ?c1 ?c2 ?c3 ?_)
      case c1 => unfold maxLen; omega
      case c2 => omega
      case c3 => exact Nat.le_trans HBW.out.size HB3.out.size
      intro v4 W4 hown4 hg4 hat4
      rw [← Bs_append] at hown4
      have hb4 : Below w.heap.size w W4 := (HBW.out.trans (HB3.out.mono HBW.out.size)).grown hg4 (Nat.le_trans HBW.out.size HB3.out.size) (fun k hk => (HO.out.lt k hk).1)
      have hc40 := HK0.out W4 hb4
      have hc41 := HK1.out W4 hb4
      have HO4 := Lib.hid hown4
      have HB4 := Lib.hid hb4
      clear hown4 hg4 hat4 hb4
      by_cases h0 : s.size = 0
      · obtain rfl := empty_of h0
        obtain ⟨m, rfl⟩ := Int.eq_ofNat_of_zero_le hi0
        have hm : m < 18446744073709551616 := by omega
        rw [if_pos h0, show (m : Int).toNat = m from by omega] at HMO2
        have hem := enc_length_le hm
        go_wp2_with fail
        refine (refnum_any m m W4 (Nat.le_refl _) hm).mono ?_
        rintro e W5 ⟨v5, rfl, hown5, hb5⟩
        generalize enc m = k5 at *
        obtain ⟨n5, hn5⟩ : ∃ n5, k5.length = n5 := ⟨_, rfl⟩
        rw [hn5] at hown5 hem
        obtain ⟨A5, c5, rfl⟩ := own_slice hown5
        have HO5 := Lib.hid hown5
        have HB5 := Lib.hid hb5
        have HN5 := Lib.hid hn5
        clear hown5 hb5 hn5
        go_wp2_with (at_builtin; refine wpList_append_rd _ rfl (.tmp 30) (.tmp 36) 25 rfl w.heap.size 5 i0 (.int .u8 0) 1 Try.underlying25 hi hz0 hz1 hz2 rfl v4 (np + n3) (Bs (pB l j ++ k3)) rfl (own_below HO4.out HB5.out) _ A5 n5 c5 (Bs k5) rfl (Rd.of_own HO5.out) (Bs_one _) ?c1 ?c2 ?c3 ?_)
        case c1 => unfold maxLen; omega
        case c2 => omega
        case c3 => exact Nat.le_trans HB4.out.size HB5.out.size
        intro v6 W6 hown6 hg6 hat6
        rw [← Bs_append] at hown6
        have hb6 : Below w.heap.size w W6 := (HB4.out.trans (HB5.out.mono HB4.out.size)).grown hg6 (Nat.le_trans HB4.out.size HB5.out.size) (fun k hk => (HO4.out.lt k hk).1)
        have HO6 := Lib.hid hown6
        have HB6 := Lib.hid hb6
        clear hown6 hg6 hat6 hb6
        go_wp2_with fail
        go_roundw
        case rel =>
          refine ⟨j + 1, by omega, by go_num, ?_, HB6.out⟩
          have h := HO6.out
          rw [HMO2.out]
          simp only [List.length_append, HNP.out, HN3.out, HN5.out]
          exact h
        case measure => simp [intOf] <;> omega
      · have hne := toList_ne h0
        have hne2 := isEmpty_ne h0
        have hne3 : (s.toList == []) = false := beq_eq_false_iff_ne.2 hne
        rw [if_neg h0, List.append_nil] at HMO2
        go_wp2_with fail
        go_roundw
        case rel =>
          refine ⟨j + 1, by omega, by go_num, ?_, HB4.out⟩
          have h := HO4.out
          rw [HMO2.out]
          simp only [List.length_append, HNP.out, HN3.out]
          exact h
        case measure => simp [intOf] <;> omega
    · obtain rfl : j = n := by omega
      go_wp2_with fail
      go_ret
      refine ⟨_, rfl, ?_, HBW.out⟩
      have := HO.out
      unfold pBytes
      rw [HL.out]
      exact this

end Go.Proofs.Ythknfbbnnldnmaa
