/- A path's bytes: as the program writes them, as the document says them; for any right path. The number that bytes begin with is found as the mathematics of Num says; for any bytes. A reader of fields in memory, and what reading a number makes of it; for any bytes up to 2^47. -/
import Derived.Test.YtmiadkhfjkaidaaGreatDoorMg7
import Derived.Test.YtmiadkhfjkaidaaGreatDoorMg8
namespace Go.Proofs.YtmiadkhfjkaidaaGreatDoor
section
set_option maxRecDepth 100000
set_option linter.unusedSimpArgs false
set_option linter.unusedVariables false
open Go.RowKit

def stBytes (x : Stp) : List UInt8 := (enc x.s.size ++ x.s.data.toList) ++ (if x.s.size = 0 then enc x.id.toNat else [])
/-- The bytes of how many steps there are, and of the first ones. -/
def pB (l : List Stp) (j : Nat) : List UInt8 := enc l.length ++ (l.take j).flatMap stBytes
def pBytes (l : List Stp) : List UInt8 := pB l l.length
theorem pB_zero (l : List Stp) : pB l 0 = enc l.length := by simp [pB]
theorem pB_more {l : List Stp} {j : Nat} (hj : j < l.length) : pB l (j + 1) = pB l j ++ stBytes (stp l j) := by
  unfold pB
  rw [List.take_add_one, stp_get hj, List.flatMap_append, List.append_assoc]
  simp
theorem stBytes_named {x : Stp} (h : x.s.size ≠ 0) : stBytes x = enc x.s.size ++ x.s.data.toList := by unfold stBytes; rw [if_neg h, List.append_nil]
theorem enc_empty : enc ByteArray.empty.size ++ ByteArray.empty.data.toList = [0] := by
  have h : enc ByteArray.empty.size = [0] := by rw [show ByteArray.empty.size = 0 from rfl, enc_small (by omega)]; rfl
  rw [h]; rfl
theorem stBytes_numbered (i : Int) : stBytes ⟨ByteArray.empty, i⟩ = [0] ++ enc i.toNat := by
  have h : enc ByteArray.empty.size = [0] := by rw [show ByteArray.empty.size = 0 from rfl, enc_small (by omega)]; rfl
  show (enc ByteArray.empty.size ++ ByteArray.empty.data.toList) ++ (if ByteArray.empty.size = 0 then enc i.toNat else []) = _
  rw [h, if_pos (show ByteArray.empty.size = 0 from rfl)]
  rfl
theorem stBytes_len {x : Stp} (h : x.s.size ≤ 12) (h1 : x.id < 18446744073709551616) : (stBytes x).length ≤ 32 := by
  have h2 := enc_length_le (n := x.s.size) (by omega)
  have h3 := enc_length_le (n := x.id.toNat) (by omega)
  have h4 : x.s.data.toList.length = x.s.size := by simp
  unfold stBytes
  split <;> simp only [List.length_append, List.length_nil] <;> omega
theorem right_of {l : List Stp} (h : rightP l = true) : l.length ≤ 8 ∧ ∀ j, j < l.length → stB (stp l j) = true := by
  unfold rightP at h
  rw [Bool.and_eq_true, List.all_eq_true] at h
  exact ⟨of_decide_eq_true h.1, fun j hj => h.2 j (List.mem_range.2 hj)⟩
theorem stB_size {x : Stp} (h : stB x = true) : x.s.size ≤ 12 := by
  unfold stB at h
  rw [Bool.or_eq_true, Bool.and_eq_true, Bool.and_eq_true] at h
  rcases h with h | h
  · exact (name_size h.1).2
  · have := of_decide_eq_true h.1
    omega
theorem pB_len {l : List Stp} (h : rightP l = true) (hok : ∀ x ∈ l, StOk x) : ∀ j, j ≤ l.length → (pB l j).length ≤ 10 + 32 * j
  | 0, _ => by
    rw [pB_zero]
    have := enc_length_le (n := l.length) (by have := (right_of h).1; omega)
    omega
  | j + 1, hj => by
    have ih := pB_len h hok j (by omega)
    have hs := stBytes_len (stB_size ((right_of h).2 j (by omega))) (ok_get hok (by omega)).hi
    rw [pB_more (by omega), List.length_append]
    omega

theorem below_wrote {W w w' : World} {a : Addr} {v v' : Value} {l : List UInt8} (h : Wrote w w' a v v' l) (hW : Below W.heap.size W w) (ha : W.heap.size ≤ a.block) (hv : ∀ j, v.ownBlock = some j → W.heap.size ≤ j) :
    Below W.heap.size W w' ∧ ∀ j, v'.ownBlock = some j → W.heap.size ≤ j :=
  ⟨hW.trans (h.only.below hW.size (fun k hk => hk.elim (fun e => e ▸ ha) (hv k))), fun j hj => (h.rows j hj).elim (hv j) (fun hk => Nat.le_trans hW.size hk)⟩

set_option maxHeartbeats 800000 in
theorem pwrite_not (a : Addr) (v : Value) (k0 : List UInt8) (b : Option Addr) (n c : Nat) (l : List Stp) (w : World) (hS : Sts w b n l) (hok : ∀ x ∈ l, StOk x) (hn : n ≤ 9223372036854775807) (hr : rightP l = false) (hw : Wr w a v k0) :
    Calls Tryz.prog 43 #[.pointer (some a), .slice b n c] w fun e w' => e = .returned (.tuple #[]) ∧ Wr w' a v k0 ∧ Below w.heap.size w w' := by
  have hp := pright_any b n c l hn w hS hok
  rw [hr] at hp
  have HP := Lib.hid hp
  have HW := Lib.hid hw
  clear hp hw hS hok hr
  go_enter Tryz.func43, Tryz.ntmps43
  go_wp2_with fail
  refine HP.out.mono ?_
  rintro e W1 ⟨rfl, hb⟩
  have HB := Lib.hid hb
  clear hb
  go_wp2_with fail
  (try simp only [Exit.inBlock, Exit.then])
  refine bodyPost_ret (results_none rfl _ _ _) rfl ?_
  exact ⟨rfl, HW.out.below HB.out, HB.out⟩

set_option maxHeartbeats 1600000 in
theorem pwrite_any (W : World) (a : Addr) (v : Value) (k0 : List UInt8) (b : Option Addr) (n c : Nat) (l : List Stp) (w : World) (hS : Sts W b n l) (hok : ∀ x ∈ l, StOk x) (hr : rightP l = true) (hWw : Below W.heap.size W w) (hw : Wr w a v k0)
    (ha : W.heap.size ≤ a.block) (hv : ∀ j, v.ownBlock = some j → W.heap.size ≤ j) (hlen : k0.length + 300 ≤ 140737488355328) :
    Calls Tryz.prog 43 #[.pointer (some a), .slice b n c] w fun e w' => e = .returned (.tuple #[]) ∧ ∃ v', Wr w' a v' (k0 ++ pBytes l) ∧ Below W.heap.size W w' ∧ ∀ j, v'.ownBlock = some j → W.heap.size ≤ j := by
  have hl := hS.1
  obtain ⟨h8, hst⟩ := right_of hr
  have hp := pright_any b n c l (by omega) w (hS.keep (fun ad _ hl => hWw.block _ hl) hWw.size) hok
  rw [hr] at hp
  have HP := Lib.hid hp
  have HW := Lib.hid hw
  have HWW := Lib.hid hWw
  have HS := Lib.hid hS
  have HOK := Lib.hid hok
  have HST := Lib.hid hst
  have HL := Lib.hid hl
  have HPL := Lib.hid (pB_len hr hok)
  have HV := Lib.hid hv
  have HA := Lib.hid ha
  have hn8 : (n : Int) ≤ 8 := by omega
  have hn8n : n ≤ 8 := by omega
  clear hp hw hWw hS hok hst hr hv ha h8 hl
  go_enter Tryz.func43, Tryz.ntmps43
  go_wp2_with fail
  refine HP.out.mono ?_
  rintro e W1 ⟨rfl, hb⟩
  have HB := Lib.hid hb
  clear hb
  go_wp2_with fail
  refine (number_any a v k0 n W1 (HW.out.below HB.out) (by omega) (by omega)).mono ?_
  rintro e W2 ⟨rfl, v2, hw2⟩
  have hb2 := below_wrote (hw2.after HB.out) HWW.out HA.out HV.out
  have HW2 := Lib.hid hw2.wr
  have HB2 := Lib.hid hb2.1
  have HV2 := Lib.hid hb2.2
  clear hw2 hb2
  go_wp2_with fail
  go_loopw [5, 16] (fun _ i wr => ∃ (j : Nat) (v' : Value), j ≤ n ∧ i = .int .i64 (j : Int) ∧ Wr wr a v' (k0 ++ pB l j) ∧ Below W.heap.size W wr ∧ ∀ k, v'.ownBlock = some k → W.heap.size ≤ k) (fun _ i _ => n - (intOf i).toNat)
  case atStart => exact ⟨0, v2, Nat.zero_le _, rfl, by rw [pB_zero, HL.out]; exact HW2.out, HB2.out, HV2.out⟩
  case round =>
    obtain ⟨j, v3, hjn, rfl, hwr, hbw, hvr⟩ := hrel
    have bj0 : (0 : Int) ≤ (j : Int) := by omega
    have HWR := Lib.hid hwr
    have HBW := Lib.hid hbw
    have HVR := Lib.hid hvr
    clear hwr hbw hvr
    by_cases hj : j < n
    · have hji : (j : Int) < (n : Int) := by omega
      obtain ⟨ad, rfl, hc0, hc1⟩ := (HS.out.keep (fun ad _ hl => HBW.out.block _ hl) HBW.out.size).at_ hj
      have HLD := Lib.hid (ld_st hc0 hc1)
      have hok := ok_get HOK.out (i := j) (by rw [HL.out]; exact hj)
      have hst := HST.out j (by rw [HL.out]; exact hj)
      have HMO := Lib.hid (pB_more (l := l) (j := j) (by rw [HL.out]; exact hj))
      have hpl := HPL.out j (by rw [HL.out]; omega)
      have hs12 := stB_size hst
      clear hc0 hc1 hst
      generalize stp l j = x at *
      obtain ⟨s, i⟩ := x
      have hs12 : s.size ≤ 12 := hs12
      have hi0 : 0 ≤ i := hok.lo
      have hi1 : i < 18446744073709551616 := hok.hi
      clear hok
      have hlk : (k0 ++ pB l j).length + s.size + 10 ≤ 140737488355328 := by rw [List.length_append]; omega
      go_wp2_with (refine wpList_loadr rfl 67 (.tmp 18) rfl _ _ rfl HLD.out ?_)
      refine (puttext_any a v3 (k0 ++ pB l j) s _ (HWR.out.below (below_new _ _)) hlk).mono ?_
      rintro e W3 ⟨rfl, v4, hw4⟩
      have hg0 : W3.cell? ⟨wr.heap.size, 0, none⟩ = some (.string s) := by
        refine (hw4.only.cell ?_ (show wr.heap.size < _ by simp)).trans ((Row.new wr [.string s, .int .u64 i] 67).cell (k := 0) rfl)
        rintro (h | h)
        · have h1 := HWR.out.lt; have h2 : wr.heap.size = a.block := h; omega
        · have h1 := HWR.out.rowlt _ h; exact Nat.lt_irrefl _ h1
      have hg1 : W3.cell? ⟨wr.heap.size, 1, none⟩ = some (.int .u64 i) := by
        refine (hw4.only.cell ?_ (show wr.heap.size < _ by simp)).trans ((Row.new wr [.string s, .int .u64 i] 67).cell (k := 1) rfl)
        rintro (h | h)
        · have h1 := HWR.out.lt; have h2 : wr.heap.size = a.block := h; omega
        · have h1 := HWR.out.rowlt _ h; exact Nat.lt_irrefl _ h1
      have hb4 := below_wrote (hw4.after (below_new wr _)) HBW.out HA.out HVR.out
      have HW4 := Lib.hid hw4
      have HB4 := Lib.hid hb4.1
      have HV4 := Lib.hid hb4.2
      clear hw4 hb4
      by_cases h0 : s.size = 0
      · obtain rfl := empty_of h0
        obtain ⟨m, rfl⟩ := Int.eq_ofNat_of_zero_le hi0
        go_wp2_with fail
        refine (number_any a v4 _ m W3 HW4.out.wr (by omega) (by rw [enc_empty]; simp only [List.length_append, List.length_cons, List.length_nil] at hlk ⊢; omega)).mono ?_
        rintro e W4 ⟨rfl, v5, hw5⟩
        have hb5 := below_wrote hw5 HB4.out HA.out HV4.out
        have HW5 := Lib.hid hw5.wr
        have HB5 := Lib.hid hb5.1
        have HV5 := Lib.hid hb5.2
        clear hw5 hb5
        go_wp2_with fail
        go_roundw
        case rel =>
          refine ⟨j + 1, v5, by omega, by go_num, ?_, HB5.out, HV5.out⟩
          rw [HMO.out, stBytes_numbered, ← List.append_assoc, ← List.append_assoc]
          have hw5 := HW5.out
          rw [enc_empty] at hw5
          exact hw5
        case measure => simp [intOf] <;> omega
      · have hne := toList_ne h0
        have hne2 := isEmpty_ne h0
        have hne3 : (s.toList == []) = false := beq_eq_false_iff_ne.2 hne
        go_wp2_with fail
        go_roundw
        case rel =>
          refine ⟨j + 1, v4, by omega, by go_num, ?_, HB4.out, HV4.out⟩
          rw [HMO.out, stBytes_named h0, ← List.append_assoc]
          exact HW4.out.wr
        case measure => simp [intOf] <;> omega
    · obtain rfl : j = n := by omega
      go_wp2_with fail
      go_end0
      refine ⟨rfl, v3, ?_, HBW.out, HVR.out⟩
      have := HWR.out
      unfold pBytes
      rw [HL.out]
      exact this


set_option maxHeartbeats 1600000 in
theorem pbytes_ref (b : Option Addr) (n c : Nat) (l : List Stp) (w : World) (hS : Sts w b n l) (hok : ∀ x ∈ l, StOk x) (hr : rightP l = true) :
    Calls Tryz.prog 24 #[.slice b n c] w fun e w' => ∃ v, e = .returned v ∧ w'.ownsRow w.heap.size 5 1 v (pBytes l).length (Bs (pBytes l)) ∧ Below w.heap.size w w' := by
  have hl := hS.1
  obtain ⟨h8, hst⟩ := right_of hr
  obtain ⟨i0, hi, hz0, hz1, hz2⟩ := info_parts u8_info
  have HS := Lib.hid hS
  have HOK := Lib.hid hok
  have HST := Lib.hid hst
  have HL := Lib.hid hl
  have HPL := Lib.hid (pB_len hr hok)
  have hn8 : (n : Int) ≤ 8 := by omega
  have hn8n : n ≤ 8 := by omega
  clear hS hok hst hr h8 hl
  go_enter Tryz.func24, Tryz.ntmps24
  go_wp2_with fail
  go_loopw [3, 4] (fun o i wr => ∃ j : Nat, j ≤ n ∧ i = .int .i64 (j : Int) ∧ wr.ownsRow w.heap.size 5 1 o (pB l j).length (Bs (pB l j)) ∧ Below w.heap.size w wr) (fun _ i _ => n - (intOf i).toNat)
  case atStart =>
    refine ⟨0, Nat.zero_le _, rfl, ?_, below_new _ _⟩
    rw [pB_zero, HL.out, enc_small (by omega)]
    refine own_lit w [UInt8.ofNat n] _ ?_ 1 rfl (by unfold maxLen; omega)
    exact low_last (by omega)
  case round =>
    obtain ⟨j, hjn, rfl, hown, hbw⟩ := hrel
    obtain ⟨A, cp, rfl⟩ := own_slice hown
    have bj0 : (0 : Int) ≤ (j : Int) := by omega
    have HO := Lib.hid hown
    have HBW := Lib.hid hbw
    clear hown hbw
    by_cases hj : j < n
    · have hji : (j : Int) < (n : Int) := by omega
      obtain ⟨ad, rfl, hc0, hc1⟩ := (HS.out.below HBW.out).at_ hj
      have hadl : ad.block < w.heap.size := by
        obtain ⟨ad', e, hl', _⟩ := HS.out.2 (by omega)
        injection e with e
        rw [e]; exact hl'
      have HK0 := Lib.hid (fun (w' : World) (h : Below w.heap.size w w') => (h.cell (p := ad.add (j * 2)) (by rw [add_block]; exact hadl)).trans ((HBW.out.cell (p := ad.add (j * 2)) (by rw [add_block]; exact hadl)).symm.trans hc0))
      have HK1 := Lib.hid (fun (w' : World) (h : Below w.heap.size w w') => (h.cell (p := ⟨(ad.add (j * 2)).block, (ad.add (j * 2)).off + 1, none⟩) (by show (ad.add (j * 2)).block < _; rw [add_block]; exact hadl)).trans ((HBW.out.cell (p := ⟨(ad.add (j * 2)).block, (ad.add (j * 2)).off + 1, none⟩) (by show (ad.add (j * 2)).block < _; rw [add_block]; exact hadl)).symm.trans hc1))
      clear hadl
      have hok := ok_get HOK.out (i := j) (by rw [HL.out]; exact hj)
      have hst := HST.out j (by rw [HL.out]; exact hj)
      have HMO := Lib.hid (pB_more (l := l) (j := j) (by rw [HL.out]; exact hj))
      have hpl := HPL.out j (by rw [HL.out]; omega)
      have hs12 := stB_size hst
      clear hst
      generalize stp l j = x at *
      obtain ⟨s, i⟩ := x
      have hs12 : s.size ≤ 12 := hs12
      have hi0 : 0 ≤ i := hok.lo
      have hi1 : i < 18446744073709551616 := hok.hi
      have hsl : s.data.toList.length = s.size := by simp
      have hel := enc_length_le (n := s.size) (by omega)
      clear hok
      obtain ⟨cc, w1, hrun, hrd, hbel, _⟩ := of_text s wr
      have HRD := Lib.hid hrd
      have HBE := Lib.hid hbel
      clear hrd hbel
      go_wp2_with fail
      refine (refbytes_any _ _ cc s.data.toList _ w1 HRD.out (by omega)).mono ?_
      rintro e W3 ⟨v3, rfl, hown3, hb3⟩
      rw [hsl] at hown3
      have hk3 : (enc s.size ++ s.data.toList).length ≤ 22 := by simp only [List.length_append]; omega
      have HMO2 := Lib.hid (show pB l (j + 1) = (pB l j ++ (enc s.size ++ s.data.toList)) ++ (if s.size = 0 then enc i.toNat else []) by rw [HMO.out]; simp only [stBytes, List.append_assoc])
      generalize enc s.size ++ s.data.toList = k3 at *
      obtain ⟨n3, hn3⟩ : ∃ n3, k3.length = n3 := ⟨_, rfl⟩
      rw [hn3] at hown3 hk3
      obtain ⟨A3, c3, rfl⟩ := own_slice hown3
      have HO3 := Lib.hid hown3
      have HB3 := Lib.hid (HBE.out.trans (hb3.mono HBE.out.size))
      have HN3 := Lib.hid hn3
      clear hown3 hb3 hn3
      generalize hnp : (pB l j).length = np at *
      have HNP := Lib.hid hnp
      clear hnp
      go_wp2_with (at_builtin; refine wpList_append_rd _ rfl (.tmp 15) (.tmp 22) 33 rfl w.heap.size 5 i0 (.int .u8 0) 1 Tryz.underlying33 hi hz0 hz1 hz2 rfl (.slice A np cp) np (Bs (pB l j)) rfl (own_below HO.out HB3.out) _ A3 n3 c3 (Bs k3) rfl (Rd.of_own HO3.out) (Bs_one _) ?c1 ?c2 ?c3 ?_)
      case c1 => unfold maxLen; omega
      case c2 => omega
      case c3 => exact Nat.le_trans HBW.out.size HB3.out.size
      intro v4 W4 hown4 hg4 hat4
      rw [← Bs_append] at hown4
      have hb4 : Below w.heap.size w W4 := (HBW.out.trans (HB3.out.mono HBW.out.size)).grown hg4 (Nat.le_trans HBW.out.size HB3.out.size) (fun k hk => (HO.out.lt k hk).1)
      have hc40 := HK0.out W4 hb4
      have hc41 := HK1.out W4 hb4
      have HO4 := Lib.hid hown4
      have HB4 := Lib.hid hb4
      clear hown4 hg4 hat4 hb4
      by_cases h0 : s.size = 0
      · obtain rfl := empty_of h0
        obtain ⟨m, rfl⟩ := Int.eq_ofNat_of_zero_le hi0
        have hm : m < 18446744073709551616 := by omega
        rw [if_pos h0, show (m : Int).toNat = m from by omega] at HMO2
        have hem := enc_length_le hm
        go_wp2_with fail
        refine (refnum_any m m W4 (Nat.le_refl _) hm).mono ?_
        rintro e W5 ⟨v5, rfl, hown5, hb5⟩
        generalize enc m = k5 at *
        obtain ⟨n5, hn5⟩ : ∃ n5, k5.length = n5 := ⟨_, rfl⟩
        rw [hn5] at hown5 hem
        obtain ⟨A5, c5, rfl⟩ := own_slice hown5
        have HO5 := Lib.hid hown5
        have HB5 := Lib.hid hb5
        have HN5 := Lib.hid hn5
        clear hown5 hb5 hn5
        go_wp2_with (at_builtin; refine wpList_append_rd _ rfl (.tmp 30) (.tmp 36) 33 rfl w.heap.size 5 i0 (.int .u8 0) 1 Tryz.underlying33 hi hz0 hz1 hz2 rfl v4 (np + n3) (Bs (pB l j ++ k3)) rfl (own_below HO4.out HB5.out) _ A5 n5 c5 (Bs k5) rfl (Rd.of_own HO5.out) (Bs_one _) ?c1 ?c2 ?c3 ?_)
        case c1 => unfold maxLen; omega
        case c2 => omega
        case c3 => exact Nat.le_trans HB4.out.size HB5.out.size
        intro v6 W6 hown6 hg6 hat6
        rw [← Bs_append] at hown6
        have hb6 : Below w.heap.size w W6 := (HB4.out.trans (HB5.out.mono HB4.out.size)).grown hg6 (Nat.le_trans HB4.out.size HB5.out.size) (fun k hk => (HO4.out.lt k hk).1)
        have HO6 := Lib.hid hown6
        have HB6 := Lib.hid hb6
        clear hown6 hg6 hat6 hb6
        go_wp2_with fail
        go_roundw
        case rel =>
          refine ⟨j + 1, by omega, by go_num, ?_, HB6.out⟩
          have h := HO6.out
          rw [HMO2.out]
          simp only [List.length_append, HNP.out, HN3.out, HN5.out]
          exact h
        case measure => simp [intOf] <;> omega
      · have hne := toList_ne h0
        have hne2 := isEmpty_ne h0
        have hne3 : (s.toList == []) = false := beq_eq_false_iff_ne.2 hne
        rw [if_neg h0, List.append_nil] at HMO2
        go_wp2_with fail
        go_roundw
        case rel =>
          refine ⟨j + 1, by omega, by go_num, ?_, HB4.out⟩
          have h := HO4.out
          rw [HMO2.out]
          simp only [List.length_append, HNP.out, HN3.out]
          exact h
        case measure => simp [intOf] <;> omega
    · obtain rfl : j = n := by omega
      go_wp2_with fail
      go_ret
      refine ⟨_, rfl, ?_, HBW.out⟩
      have := HO.out
      unfold pBytes
      rw [HL.out]
      exact this
end

section
open Go.RowKit

theorem or_digit {k : List UInt8} {j : Nat} {x : UInt8} (hx : k[j]? = some x) (hj : j ≤ 9) (h9 : j = 9 → x.toNat ≤ 1) :
    bits .or .u64 ((dig (k.take j) : Nat) : Int) (IntKind.u64.wrap (IntKind.u64.wrap (bits .and .u8 ((x.toNat : Nat) : Int) 127) * 2 ^ (7 * j))) = ((dig (k.take j) + x.toNat % 128 * 128 ^ j : Nat) : Int) := by
  have hl := len_take hx
  have hd := dig_lt (k.take j)
  have hxl : x.toNat < 256 := x.toNat_lt
  have hp : (128 : Nat) ^ j = 2 ^ (7 * j) := by rw [Nat.pow_mul]
  rw [hl, hp] at hd
  have h1 := u8_and_nat x.toNat 127 hxl (by omega)
  rw [show ((127 : Nat) : Int) = 127 from rfl, nat_mask7] at h1
  rw [h1, IntKind.wrap_u64, IntKind.wrap_u64]
  have h2 : (((x.toNat % 128 : Nat) : Int) % 18446744073709551616) = ((x.toNat % 128 : Nat) : Int) := by omega
  have h3 : ((x.toNat % 128 : Nat) : Int) * 2 ^ (7 * j) = ((x.toNat % 128 * 2 ^ (7 * j) : Nat) : Int) := by push_cast; rfl
  have h4 : x.toNat % 128 * 2 ^ (7 * j) < 9223372036854775809 := by
    by_cases e : j = 9
    · have := h9 e
      have h5 : x.toNat % 128 * 2 ^ (7 * j) ≤ 1 * 2 ^ (7 * j) := Nat.mul_le_mul_right _ (by omega)
      rw [e] at h5 ⊢
      omega
    · have h5 : x.toNat % 128 * 2 ^ (7 * j) ≤ 127 * 2 ^ (7 * 8) := Nat.mul_le_mul (by omega) (Nat.pow_le_pow_right (by omega) (by omega))
      omega
  have h6 : dig (k.take j) < 18446744073709551616 := by
    have h5 : 2 ^ (7 * j) ≤ 2 ^ (7 * 9) := Nat.pow_le_pow_right (by omega) (by omega)
    omega
  rw [h2, h3]
  have h7 : ((x.toNat % 128 * 2 ^ (7 * j) : Nat) : Int) % 18446744073709551616 = ((x.toNat % 128 * 2 ^ (7 * j) : Nat) : Int) := by omega
  rw [h7, u64_or_nat _ _ h6 (by omega), Nat.or_comm, nat_join (7 * j) _ _ (Nat.mul_mod_left _ _) hd, hp, Nat.add_comm]

theorem and128 : ∀ x, x < 256 → x &&& 128 = if x < 128 then 0 else 128 := by decide +kernel
theorem top_bit (x : UInt8) : bits .and .u8 ((x.toNat : Nat) : Int) 128 = ((if x.toNat < 128 then 0 else 128 : Nat) : Int) := by
  have hxl : x.toNat < 256 := x.toNat_lt
  have h1 := u8_and_nat x.toNat 128 hxl (by omega)
  rw [show ((128 : Nat) : Int) = 128 from rfl] at h1
  rw [h1, and128 _ hxl]
theorem top_off {x : UInt8} (h : x.toNat < 128) : (bits .and .u8 ((x.toNat : Nat) : Int) 128 != 0) = false := by rw [top_bit, if_pos h]; rfl
theorem top_on {x : UInt8} (h : ¬ x.toNat < 128) : (bits .and .u8 ((x.toNat : Nat) : Int) 128 != 0) = true := by rw [top_bit, if_neg h]; rfl

/-- What split comes to. -/
def SplitOf (k : List UInt8) (w : World) (e : Ending) (w' : World) : Prop :=
  e = .returned (.tuple #[.int .u64 ((dec k).getD (0, 0)).1, .int .i64 ((dec k).getD (0, 0)).2]) ∧ w = w'
theorem split_none {k : List UInt8} {w : World} (h : dec k = none) : SplitOf k w (.returned (.tuple #[.int .u64 0, .int .i64 0])) w := by unfold SplitOf; rw [h]; exact ⟨rfl, rfl⟩
theorem split_some {k : List UInt8} {w : World} {j m : Nat} {y : Int} (h : dec k = some (m, j + 1)) (hy : y = m) : SplitOf k w (.returned (.tuple #[.int .u64 y, .int .i64 ((j : Int) + 1)])) w := by unfold SplitOf; rw [h, hy]; exact ⟨rfl, rfl⟩

set_option maxHeartbeats 1000000 in
theorem split_any (A : Option Addr) (n c : Nat) (k : List UInt8) (F : Nat → Prop) (w : World) (hr : Rd w F A n (Bs k)) (_hn : n ≤ 140737488355328) :
    Calls Tryz.prog 166 #[.slice A n c] w (SplitOf k w) := by
  have HK := Lib.hid hr.len
  have HR := Lib.hid hr
  clear hr
  go_enter Tryz.func166, Tryz.ntmps166
  go_wp2_with fail
  go_loop [2, 8] (fun s i => ∃ j : Nat, j ≤ n ∧ j ≤ 9 ∧ i = .int .i64 j ∧ s = .int .u64 (dig (k.take j)) ∧ ∀ d ∈ k.take j, ¬ d.toNat < 128) (fun _ i => n - (intOf i).toNat)
  case atStart => exact ⟨0, Nat.zero_le _, by omega, rfl, rfl, by simp⟩
  case round =>
    obtain ⟨j, hj, hj9, rfl, rfl, hall⟩ := hrel
    have HALL := Lib.hid hall
    clear hall
    by_cases hlt : j < n
    · obtain ⟨a0, x, rfl, hab, hx, hca⟩ := HR.out.byte hlt
      have HX := Lib.hid hx
      clear hx
      have hxl : x.toNat < 256 := x.toNat_lt
      by_cases h9 : j = 9
      · have q9 : (((j : Nat) : Int) == 9) = true := beq_iff_eq.2 (by omega)
        have H9 := Lib.hid h9
        clear h9
        by_cases hx1 : 1 < x.toNat
        · have qx : (1 : Int) < x.toNat := by omega
          go_wp2_with fail
          go_ret2
          exact split_none (dec_stop HALL.out HX.out H9.out hx1)
        · have qx : ¬ (1 : Int) < x.toNat := by omega
          have qt := top_off (x := x) (by omega)
          by_cases hx0 : x.toNat = 0
          · have q0 : (((x.toNat : Nat) : Int) == 0) = true := beq_iff_eq.2 (by omega)
            have hj0 : 0 < (j : Int) := by have := H9.out; omega
            have H0 := Lib.hid hx0
            clear hx0
            go_wp2_with fail
            go_ret2
            exact split_none (dec_zero HALL.out HX.out (by have := H9.out; omega) H0.out)
          · have q0 : (((x.toNat : Nat) : Int) == 0) = false := beq_eq_false_iff_ne.2 (by omega)
            go_wp2_with fail
            go_ret2
            exact split_some (dec_val HALL.out HX.out hj9 (fun _ => by omega) (by omega) (fun h => absurd h hx0)) (or_digit HX.out hj9 (fun _ => by omega))
      · have q9 : (((j : Nat) : Int) == 9) = false := beq_eq_false_iff_ne.2 (by omega)
        by_cases hc : x.toNat < 128
        · have qt := top_off hc
          by_cases hx0 : x.toNat = 0
          · have q0 : (((x.toNat : Nat) : Int) == 0) = true := beq_iff_eq.2 (by omega)
            have H0 := Lib.hid hx0
            clear hx0
            by_cases hj0 : 0 < j
            · have hj0' : 0 < (j : Int) := by omega
              go_wp2_with fail
              go_ret2
              exact split_none (dec_zero HALL.out HX.out hj0 H0.out)
            · have hj0' : ¬ 0 < (j : Int) := by omega
              go_wp2_with fail
              go_ret2
              exact split_some (dec_val HALL.out HX.out hj9 (fun e => absurd e h9) hc (fun _ => by omega)) (or_digit HX.out hj9 (fun e => absurd e h9))
          · have q0 : (((x.toNat : Nat) : Int) == 0) = false := beq_eq_false_iff_ne.2 (by omega)
            go_wp2_with fail
            go_ret2
            exact split_some (dec_val HALL.out HX.out hj9 (fun e => absurd e h9) hc (fun h => absurd h hx0)) (or_digit HX.out hj9 (fun e => absurd e h9))
        · have qt := top_on hc
          go_wp2_with fail
          go_round
          case rel => exact ⟨j + 1, by omega, by omega, by go_num, by rw [or_digit HX.out hj9 (fun e => absurd e h9), dig_succ HX.out], take_all_succ HALL.out HX.out hc⟩
          case measure => simp [intOf]; omega
    · have e : k.take j = k := List.take_of_length_le (by rw [HK.out]; omega)
      have HE := Lib.hid e
      clear e
      go_wp2_with fail
      go_ret2
      exact split_none (dec_end (by have := HALL.out; rwa [HE.out] at this))
end

section
open Go.RowKit

theorem rcells : Tryz.prog.cellsOf 145 = 3 := by kernel_rfl

/-- A reader in block g: its bytes k, its place p, the number of what broke it. -/
structure Rr (w : World) (g : Nat) (A : Option Addr) (c : Nat) (F : Nat → Prop) (k : List UInt8) (p : Nat) (code : Int) : Prop where
  blk : w.heap[g]? = some (.cells #[.slice A k.length c, .int .i64 p, .int .i64 code] 145 (0, 0))
  rd : Rd w F A k.length (Bs k)
  cap : k.length ≤ c
  top : c ≤ maxLen
  small : k.length ≤ 140737488355328
  le : p ≤ k.length
  far : ¬ F g

section
variable {w w' : World} {g : Nat} {A : Option Addr} {c : Nat} {F : Nat → Prop} {k : List UInt8} {p : Nat} {code : Int}
theorem Rr.c0 (h : Rr w g A c F k p code) : w.cell? ⟨g, 0, none⟩ = some (.slice A k.length c) := by rw [cell_of_row w g 0 _ _ _ h.blk]; rfl
theorem Rr.c1 (h : Rr w g A c F k p code) : w.cell? ⟨g, 1, none⟩ = some (.int .i64 p) := by rw [cell_of_row w g 1 _ _ _ h.blk]; rfl
theorem Rr.c2 (h : Rr w g A c F k p code) : w.cell? ⟨g, 2, none⟩ = some (.int .i64 code) := by rw [cell_of_row w g 2 _ _ _ h.blk]; rfl
theorem Rr.f (h : Rr w g A c F k p code) (i : Nat) : w.frozen? ⟨g, i, none⟩ = false := frozen_of_row w g i _ _ h.blk
theorem Rr.lt (h : Rr w g A c F k p code) : g < w.heap.size := lt_of_cell h.c0
theorem Rr.only {S : Nat → Prop} (h : Rr w g A c F k p code) (ho : Only S w w') (hg : ¬ S g) (hF : ∀ j, F j → ¬ S j) : Rr w' g A c F k p code :=
  ⟨(ho.block g h.lt hg).trans h.blk, h.rd.only ho hF, h.cap, h.top, h.small, h.le, h.far⟩
theorem Rr.below (h : Rr w g A c F k p code) (ho : Below w.heap.size w w') : Rr w' g A c F k p code :=
  h.only (Only.of_below ho (fun _ => False)) (fun h => h) (fun _ _ h => h)
theorem Rr.drewN (h : Rr w g A c F k p code) (n : Nat) : Rr (w.drewN n) g A c F k p code := ⟨h.blk, h.rd, h.cap, h.top, h.small, h.le, h.far⟩
theorem Rr.set (h : Rr w g A c F k p code) (i : Nat) (u : Value) : Rd (w.setCell ⟨g, i, none⟩ u) F A k.length (Bs k) :=
  h.rd.only (S := fun j => j = g) ((Only.refl (fun j => j = g) w).setCell (p := ⟨g, i, none⟩) (.inl rfl) u) fun j hj e => by subst e; exact h.far hj
theorem Rr.move (h : Rr w g A c F k p code) {q : Nat} (hq : q ≤ k.length) : Rr (w.setCell ⟨g, 1, none⟩ (.int .i64 q)) g A c F k q code :=
  ⟨by rw [heap_setCell_same w g 1 _ _ _ h.blk]; rfl, h.set _ _, h.cap, h.top, h.small, hq, h.far⟩
theorem Rr.break_ (h : Rr w g A c F k p code) (d : Int) : Rr (w.setCell ⟨g, 2, none⟩ (.int .i64 d)) g A c F k p d :=
  ⟨by rw [heap_setCell_same w g 2 _ _ _ h.blk]; rfl, h.set _ _, h.cap, h.top, h.small, h.le, h.far⟩
/-- What is left of a reader's bytes, as a slice. -/
theorem Rr.left (h : Rr w g A c F k p code) : Rd w F (if c = p then A else A.map (·.add p)) (k.length - p) (Bs (k.drop p)) := by
  refine ⟨by simp [Bs], fun hn => ?_⟩
  obtain ⟨ad, e, hF, hb, hc⟩ := h.rd.2 (by omega)
  have hcp : ¬ c = p := by have := h.cap; omega
  refine ⟨ad.add p, by rw [if_neg hcp, e]; rfl, by rw [add_block]; exact hF, by rw [add_block]; exact hb, fun j u hu => ?_⟩
  rw [add_add]
  refine hc _ u ?_
  rw [← hu]
  simp [Bs]
end

/-- What a reader has become: its place and its number. -/
structure Readto (w w' : World) (g : Nat) (A : Option Addr) (c : Nat) (F : Nat → Prop) (k : List UInt8) (p : Nat) (code : Int) : Prop where
  rr : Rr w' g A c F k p code
  only : Only (fun j => j = g) w w'

/-- What reading a number comes to: the number, the place, what broke it. -/
def rnum (k : List UInt8) (p most : Nat) : Nat × Nat × Int :=
  match dec (k.drop p) with
  | none => (0, p, 2)
  | some (n, s) => if most < n then (0, p, 15) else (n, p + s, 0)

set_option maxHeartbeats 400000 in
theorem num1_none (A : Option Addr) (n c : Nat) (k : List UInt8) (F : Nat → Prop) (q : Addr) (w : World) (hr : Rd w F A n (Bs k)) (hn : n ≤ 140737488355328) (hd : dec k = none) :
    Calls Tryz.prog 165 #[.slice A n c, .pointer (some q)] w fun e w' => e = .returned (.tuple #[.int .u64 0, .int .i64 0, .int .i64 2]) ∧ w' = w := by
  have HD := Lib.hid hd
  clear hd
  go_enter Tryz.func165, Tryz.ntmps165
  go_wp2_with fail
  refine (split_any A n c k F _ hr hn).mono ?_
  rintro e w' ⟨rfl, rfl⟩
  rw [HD.out]
  go_wp2_with fail
  go_ret3
  exact ⟨rfl, rfl⟩

set_option maxHeartbeats 400000 in
theorem num1_over (A : Option Addr) (n c : Nat) (k : List UInt8) (F : Nat → Prop) (q : Addr) (most m s : Nat) (w : World) (hr : Rd w F A n (Bs k)) (hn : n ≤ 140737488355328) (hq : w.cell? q = some (.int .u64 most)) (hd : dec k = some (m, s)) (hm : most < m) :
    Calls Tryz.prog 165 #[.slice A n c, .pointer (some q)] w fun e w' => e = .returned (.tuple #[.int .u64 0, .int .i64 0, .int .i64 15]) ∧ w' = w := by
  have hs := (enc_dec hd).2.2.1
  have HD := Lib.hid hd
  clear hd
  have h1 : (((s : Nat) : Int) == 0) = false := beq_eq_false_iff_ne.2 (by omega)
  have h2 : (most : Int) < m := by omega
  go_enter Tryz.func165, Tryz.ntmps165
  go_wp2_with fail
  refine (split_any A n c k F _ hr hn).mono ?_
  rintro e w' ⟨rfl, rfl⟩
  rw [HD.out]
  go_wp2_with fail
  go_ret3
  exact ⟨rfl, rfl⟩

set_option maxHeartbeats 400000 in
theorem num1_ok (A : Option Addr) (n c : Nat) (k : List UInt8) (F : Nat → Prop) (q : Addr) (most m s : Nat) (w : World) (hr : Rd w F A n (Bs k)) (hn : n ≤ 140737488355328) (hq : w.cell? q = some (.int .u64 most)) (hd : dec k = some (m, s)) (hm : ¬ most < m) :
    Calls Tryz.prog 165 #[.slice A n c, .pointer (some q)] w fun e w' => e = .returned (.tuple #[.int .u64 m, .int .i64 s, .int .i64 0]) ∧ w' = w := by
  have hs := (enc_dec hd).2.2.1
  have HD := Lib.hid hd
  clear hd
  have h1 : (((s : Nat) : Int) == 0) = false := beq_eq_false_iff_ne.2 (by omega)
  have h2 : ¬ (most : Int) < m := by omega
  go_enter Tryz.func165, Tryz.ntmps165
  go_wp2_with fail
  refine (split_any A n c k F _ hr hn).mono ?_
  rintro e w' ⟨rfl, rfl⟩
  rw [HD.out]
  go_wp2_with fail
  go_ret3
  exact ⟨rfl, rfl⟩

set_option maxHeartbeats 400000 in
/-- (*Reader).Fail at a reader that is whole. -/
theorem fail_any (g : Nat) (A : Option Addr) (c : Nat) (F : Nat → Prop) (k : List UInt8) (p : Nat) (d : Int) (w : World) (h : Rr w g A c F k p 0) :
    Calls Tryz.prog 93 #[.pointer (some ⟨g, 0, none⟩), .int .i64 d] w fun e w' => e = .returned (.tuple #[]) ∧ w' = w.setCell ⟨g, 2, none⟩ (.int .i64 d) := by
  have h2 := h.c2
  have f2 := h.f 2
  clear h
  go_enter Tryz.func93, Tryz.ntmps93
  go_wp2_with fail
  go_end0
  exact ⟨rfl, rfl⟩

set_option maxHeartbeats 400000 in
/-- (*Reader).Fail at a reader that is broken. -/
theorem fail_not (g : Nat) (A : Option Addr) (c : Nat) (F : Nat → Prop) (k : List UInt8) (p : Nat) (code d : Int) (w : World) (h : Rr w g A c F k p code) (hc : code ≠ 0) :
    Calls Tryz.prog 93 #[.pointer (some ⟨g, 0, none⟩), .int .i64 d] w fun e w' => e = .returned (.tuple #[]) ∧ w' = w := by
  have h2 := h.c2
  have f2 := h.f 2
  have q2 : (code == 0) = false := beq_eq_false_iff_ne.2 hc
  clear h hc
  go_enter Tryz.func93, Tryz.ntmps93
  go_wp2_with fail
  go_end0
  exact ⟨rfl, rfl⟩

set_option maxHeartbeats 400000 in
theorem number_broken (g : Nat) (A : Option Addr) (c : Nat) (F : Nat → Prop) (k : List UInt8) (p : Nat) (code : Int) (f : Value) (w : World) (h : Rr w g A c F k p code) (hc : code ≠ 0) :
    Calls Tryz.prog 164 #[.pointer (some ⟨g, 0, none⟩), f] w fun e w' => e = .returned (.int .u64 0) ∧ w = w' := by
  have h2 := h.c2
  have q2 : (code != 0) = true := by rw [bne_iff_ne]; exact hc
  clear h hc
  go_enter Tryz.func164, Tryz.ntmps164
  go_wp2_with fail
  go_ret
  exact ⟨rfl, rfl⟩

/-- The two forms of the address of what is left. -/
theorem Rr.left_cases {w : World} {g : Nat} {A : Option Addr} {c : Nat} {F : Nat → Prop} {k : List UInt8} {p : Nat} {code : Int} (h : Rr w g A c F k p code) :
    (c = p ∧ Rd w F A (k.length - p) (Bs (k.drop p))) ∨ (¬ c = p ∧ Rd w F (Option.map (fun x => x.add p) A) (k.length - p) (Bs (k.drop p))) := by
  have hl := h.left
  by_cases hc : c = p
  · rw [if_pos hc] at hl; exact .inl ⟨hc, hl⟩
  · rw [if_neg hc] at hl; exact .inr ⟨hc, hl⟩

/-- The reader behind a field that took s bytes. -/
theorem Rr.took {w : World} {g : Nat} {A : Option Addr} {c : Nat} {F : Nat → Prop} {k : List UInt8} {p : Nat} (h : Rr w g A c F k p 0) (q : Nat) {s : Nat} (hs : p + s ≤ k.length) {y : Int} (hy : y = ((p + s : Nat) : Int)) :
    Readto w ((w.drewN q).setCell ⟨g, 1, none⟩ (.int .i64 y)) g A c F k (p + s) 0 := by
  subst hy
  exact ⟨(h.drewN q).move hs, ((Only.refl (fun j => j = g) w).drewN q).setCell (p := ⟨g, 1, none⟩) (.inl rfl) _⟩
theorem Rr.fell {w : World} {g : Nat} {A : Option Addr} {c : Nat} {F : Nat → Prop} {k : List UInt8} {p : Nat} (h : Rr w g A c F k p 0) (q : Nat) (d : Int) :
    Readto w ((w.drewN q).setCell ⟨g, 2, none⟩ (.int .i64 d)) g A c F k p d :=
  ⟨(h.drewN q).break_ d, ((Only.refl (fun j => j = g) w).drewN q).setCell (p := ⟨g, 2, none⟩) (.inl rfl) _⟩

theorem num1_cases (A : Option Addr) (n c : Nat) (k : List UInt8) (F : Nat → Prop) (q : Addr) (most : Nat) (w : World) (hr : Rd w F A n (Bs k)) (hn : n ≤ 140737488355328) (hq : w.cell? q = some (.int .u64 most)) :
    ∃ m s : Nat, ∃ d : Int, (∀ i, Calls Tryz.prog 165 #[.slice A n c, .pointer (some q)] (w.drewN i) fun e w' => e = .returned (.tuple #[.int .u64 m, .int .i64 s, .int .i64 d]) ∧ w' = w.drewN i) ∧ (d = 0 ∧ s ≤ k.length ∧ (∀ p l, k = l.drop p → rnum l p most = (m, p + s, 0)) ∨ ((d != 0) = true ∧ (∀ p l, k = l.drop p → rnum l p most = (0, p, d)))) := by
  cases hd : dec k with
  | none => exact ⟨0, 0, 2, fun i => num1_none A n c k F q _ hr hn hd, .inr ⟨rfl, fun p l e => by unfold rnum; rw [← e, hd]⟩⟩
  | some r =>
    obtain ⟨m, s⟩ := r
    by_cases hm : most < m
    · exact ⟨0, 0, 15, fun i => num1_over A n c k F q most m s _ hr hn hq hd hm, .inr ⟨rfl, fun p l e => by unfold rnum; rw [← e, hd]; simp [hm]⟩⟩
    · exact ⟨m, s, 0, fun i => num1_ok A n c k F q most m s _ hr hn hq hd hm, .inl ⟨rfl, (enc_dec hd).2.1, fun p l e => by unfold rnum; rw [← e, hd]; simp [hm]⟩⟩

set_option maxHeartbeats 800000 in
theorem number_read (g : Nat) (A : Option Addr) (c : Nat) (F : Nat → Prop) (k : List UInt8) (p : Nat) (q : Addr) (most : Nat) (w : World) (h : Rr w g A c F k p 0) (hq : w.cell? q = some (.int .u64 most)) :
    Calls Tryz.prog 164 #[.pointer (some ⟨g, 0, none⟩), .func (.func 165) #[] #[.pointer (some q)]] w fun e w' => e = .returned (.int .u64 (rnum k p most).1) ∧ Readto w w' g A c F k (rnum k p most).2.1 (rnum k p most).2.2 := by
  have h0 := h.c0
  have h1 := h.c1
  have h2 := h.c2
  have hcap := h.cap
  have htop := h.top
  have hle := h.le
  unfold maxLen at htop
  have hsm := h.small
  have hsl : k.length - p ≤ 140737488355328 := by omega
  have f1 := h.f 1
  have f2 := h.f 2
  have hkd : (k.drop p).length = k.length - p := List.length_drop
  rcases h.left_cases with ⟨hcp, hl⟩ | ⟨hcp, hl⟩
  · obtain ⟨m, s, d, hcall, hres⟩ := num1_cases _ _ 0 _ F q most w hl hsl hq
    have H := Lib.hid h
    have HKD := Lib.hid hkd
    clear h hkd hl
    rcases hres with ⟨rfl, hs, hres⟩ | ⟨hd, hres⟩
    · rw [HKD.out] at hs
      have HE := Lib.hid (hres p k rfl)
      have HC := Lib.hid hcall
      clear hres hcall hq
      have hps : p + s ≤ 140737488355328 := by omega
      go_enter Tryz.func164, Tryz.ntmps164
      go_wp2_with fail
      go_quiet ((go_at_call 165; exact Calls.quiet_of_same (HC.out _)))
      go_wp2_with fail
      go_ret
      rw [HE.out]
      exact ⟨rfl, H.out.took _ (by omega) (by omega)⟩
    · have HE := Lib.hid (hres p k rfl)
      have HC := Lib.hid hcall
      clear hres hcall hq
      go_enter Tryz.func164, Tryz.ntmps164
      go_wp2_with fail
      go_quiet ((go_at_call 165; exact Calls.quiet_of_same (HC.out _)))
      go_wp2_with fail
      refine (fail_any g A c F k p d _ (H.out.drewN _)).mono ?_
      rintro e w' ⟨rfl, rfl⟩
      go_wp2_with fail
      go_ret
      rw [HE.out]
      exact ⟨rfl, H.out.fell _ _⟩
  · obtain ⟨m, s, d, hcall, hres⟩ := num1_cases _ _ (c - p) _ F q most w hl hsl hq
    have H := Lib.hid h
    have HKD := Lib.hid hkd
    clear h hkd hl
    rcases hres with ⟨rfl, hs, hres⟩ | ⟨hd, hres⟩
    · rw [HKD.out] at hs
      have HE := Lib.hid (hres p k rfl)
      have HC := Lib.hid hcall
      clear hres hcall hq
      have hps : p + s ≤ 140737488355328 := by omega
      go_enter Tryz.func164, Tryz.ntmps164
      go_wp2_with fail
      go_quiet ((go_at_call 165; exact Calls.quiet_of_same (HC.out _)))
      go_wp2_with fail
      go_ret
      rw [HE.out]
      exact ⟨rfl, H.out.took _ (by omega) (by omega)⟩
    · have HE := Lib.hid (hres p k rfl)
      have HC := Lib.hid hcall
      clear hres hcall hq
      go_enter Tryz.func164, Tryz.ntmps164
      go_wp2_with fail
      go_quiet ((go_at_call 165; exact Calls.quiet_of_same (HC.out _)))
      go_wp2_with fail
      refine (fail_any g A c F k p d _ (H.out.drewN _)).mono ?_
      rintro e w' ⟨rfl, rfl⟩
      go_wp2_with fail
      go_ret
      rw [HE.out]
      exact ⟨rfl, H.out.fell _ _⟩
end

end Go.Proofs.YtmiadkhfjkaidaaGreatDoor
