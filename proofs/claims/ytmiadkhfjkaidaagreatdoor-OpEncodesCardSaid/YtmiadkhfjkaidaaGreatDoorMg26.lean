/- An operation's bytes: written, encoded. An operation read. -/
import Derived.Test.YtmiadkhfjkaidaaGreatDoorMg25
import Derived.Test.YtmiadkhfjkaidaaGreatDoorMg9
import Derived.Test.YtmiadkhfjkaidaaGreatDoorMg21
namespace Go.Proofs.YtmiadkhfjkaidaaGreatDoor
section
set_option maxRecDepth 100000
set_option linter.unusedSimpArgs false
set_option linter.unusedVariables false
open Go.RowKit

set_option maxHeartbeats 1600000 in
theorem pwrote_any (W : World) (a : Addr) (v : Value) (k0 : List UInt8) (b : Option Addr) (n c : Nat) (l : List Stp) (w : World) (hS : Sts W b n l) (hok : ∀ x ∈ l, StOk x) (hr : rightP l = true) (hWw : Below W.heap.size W w) (hw : Wr w a v k0)
    (ha : W.heap.size ≤ a.block) (hv : ∀ j, v.ownBlock = some j → W.heap.size ≤ j) (hlen : k0.length + 300 ≤ 140737488355328) :
    Calls Tryz.prog 43 #[.pointer (some a), .slice b n c] w fun e w' => e = .returned (.tuple #[]) ∧ ∃ v', Wrote w w' a v v' (k0 ++ pBytes l) := by
  have hl := hS.1
  obtain ⟨h8, hst⟩ := right_of hr
  have hp := pright_any b n c l (by omega) w (hS.keep (fun ad _ hl => hWw.block _ hl) hWw.size) hok
  rw [hr] at hp
  have HP := Lib.hid hp
  have HW := Lib.hid hw
  have HWW := Lib.hid hWw
  have HS := Lib.hid hS
  have HOK := Lib.hid hok
  have HST := Lib.hid hst
  have HL := Lib.hid hl
  have HPL := Lib.hid (pB_len hr hok)
  have HV := Lib.hid hv
  have HA := Lib.hid ha
  have hn8 : (n : Int) ≤ 8 := by omega
  have hn8n : n ≤ 8 := by omega
  clear hp hw hWw hS hok hst hr hv ha h8 hl
  go_enter Tryz.func43, Tryz.ntmps43
  go_wp2_with fail
  refine HP.out.mono ?_
  rintro e W1 ⟨rfl, hb⟩
  have HB := Lib.hid hb
  clear hb
  go_wp2_with fail
  refine (number_any a v k0 n W1 (HW.out.below HB.out) (by omega) (by omega)).mono ?_
  rintro e W2 ⟨rfl, v2, hw2⟩
  have hb2 := below_wrote (hw2.after HB.out) HWW.out HA.out HV.out
  have HX2 := Lib.hid (hw2.after HB.out)
  have HW2 := Lib.hid hw2.wr
  have HB2 := Lib.hid hb2.1
  have HV2 := Lib.hid hb2.2
  clear hw2 hb2
  go_wp2_with fail
  go_loopw [5, 16] (fun _ i wr => ∃ (j : Nat) (v' : Value), j ≤ n ∧ i = .int .i64 (j : Int) ∧ Wrote w wr a v v' (k0 ++ pB l j) ∧ Below W.heap.size W wr ∧ ∀ k, v'.ownBlock = some k → W.heap.size ≤ k) (fun _ i _ => n - (intOf i).toNat)
  case atStart => exact ⟨0, v2, Nat.zero_le _, rfl, by rw [pB_zero, HL.out]; exact HX2.out, HB2.out, HV2.out⟩
  case round =>
    obtain ⟨j, v3, hjn, rfl, hwr, hbw, hvr⟩ := hrel
    have bj0 : (0 : Int) ≤ (j : Int) := by omega
    have HWT := Lib.hid hwr
    have HWR := Lib.hid hwr.wr
    have HBW := Lib.hid hbw
    have HVR := Lib.hid hvr
    clear hwr hbw hvr
    by_cases hj : j < n
    · have hji : (j : Int) < (n : Int) := by omega
      obtain ⟨ad, rfl, hc0, hc1⟩ := (HS.out.keep (fun ad _ hl => HBW.out.block _ hl) HBW.out.size).at_ hj
      have HLD := Lib.hid (ld_st hc0 hc1)
      have hok := ok_get HOK.out (i := j) (by rw [HL.out]; exact hj)
      have hst := HST.out j (by rw [HL.out]; exact hj)
      have HMO := Lib.hid (pB_more (l := l) (j := j) (by rw [HL.out]; exact hj))
      have hpl := HPL.out j (by rw [HL.out]; omega)
      have hs12 := stB_size hst
      clear hc0 hc1 hst
      generalize stp l j = x at *
      obtain ⟨s, i⟩ := x
      have hs12 : s.size ≤ 12 := hs12
      have hi0 : 0 ≤ i := hok.lo
      have hi1 : i < 18446744073709551616 := hok.hi
      clear hok
      have hlk : (k0 ++ pB l j).length + s.size + 10 ≤ 140737488355328 := by rw [List.length_append]; omega
      go_wp2_with (refine wpList_loadr rfl 67 (.tmp 18) rfl _ _ rfl HLD.out ?_)
      refine (puttext_any a v3 (k0 ++ pB l j) s _ (HWR.out.below (below_new _ _)) hlk).mono ?_
      rintro e W3 ⟨rfl, v4, hw4⟩
      have hg0 : W3.cell? ⟨wr.heap.size, 0, none⟩ = some (.string s) := by
        refine (hw4.only.cell ?_ (show wr.heap.size < _ by simp)).trans ((Row.new wr [.string s, .int .u64 i] 67).cell (k := 0) rfl)
        rintro (h | h)
        · have h1 := HWR.out.lt; have h2 : wr.heap.size = a.block := h; omega
        · have h1 := HWR.out.rowlt _ h; exact Nat.lt_irrefl _ h1
      have hg1 : W3.cell? ⟨wr.heap.size, 1, none⟩ = some (.int .u64 i) := by
        refine (hw4.only.cell ?_ (show wr.heap.size < _ by simp)).trans ((Row.new wr [.string s, .int .u64 i] 67).cell (k := 1) rfl)
        rintro (h | h)
        · have h1 := HWR.out.lt; have h2 : wr.heap.size = a.block := h; omega
        · have h1 := HWR.out.rowlt _ h; exact Nat.lt_irrefl _ h1
      have hb4 := below_wrote (hw4.after (below_new wr _)) HBW.out HA.out HVR.out
      have HW4 := Lib.hid hw4
      have HB4 := Lib.hid hb4.1
      have HV4 := Lib.hid hb4.2
      clear hw4 hb4
      by_cases h0 : s.size = 0
      · obtain rfl := empty_of h0
        obtain ⟨m, rfl⟩ := Int.eq_ofNat_of_zero_le hi0
        go_wp2_with fail
        refine (number_any a v4 _ m W3 HW4.out.wr (by omega) (by rw [enc_empty]; simp only [List.length_append, List.length_cons, List.length_nil] at hlk ⊢; omega)).mono ?_
        rintro e W4 ⟨rfl, v5, hw5⟩
        have hb5 := below_wrote hw5 HB4.out HA.out HV4.out
        have HW5 := Lib.hid ((HWT.out.trans (HW4.out.after (below_new wr _))).trans hw5)
        have HB5 := Lib.hid hb5.1
        have HV5 := Lib.hid hb5.2
        clear hw5 hb5
        go_wp2_with fail
        go_roundw
        case rel =>
          refine ⟨j + 1, v5, by omega, by go_num, ?_, HB5.out, HV5.out⟩
          rw [HMO.out, stBytes_numbered, ← List.append_assoc, ← List.append_assoc]
          have hw5 := HW5.out
          rw [enc_empty] at hw5
          exact hw5
        case measure => simp [intOf] <;> omega
      · have hne := toList_ne h0
        have hne2 := isEmpty_ne h0
        have hne3 : (s.toList == []) = false := beq_eq_false_iff_ne.2 hne
        go_wp2_with fail
        go_roundw
        case rel =>
          refine ⟨j + 1, v4, by omega, by go_num, ?_, HB4.out, HV4.out⟩
          rw [HMO.out, stBytes_named h0, ← List.append_assoc]
          exact HWT.out.trans (HW4.out.after (below_new wr _))
        case measure => simp [intOf] <;> omega
    · obtain rfl : j = n := by omega
      go_wp2_with fail
      go_end0
      refine ⟨rfl, v3, ?_⟩
      have := HWT.out
      unfold pBytes
      rw [HL.out]
      exact this

/-- The writer of op.write, beside the operation's own row. -/
structure OW (W : World) (g : Nat) (L : List Value) (w : World) (a : Addr) (v : Value) (k : List UInt8) : Prop where
  wp : WP W w a v k
  row : Row w g 30 L
  ne : g ≠ a.block
  nv : v.ownBlock ≠ some g
theorem OW.wrote {W w w' : World} {g : Nat} {L : List Value} {a : Addr} {v v' : Value} {k k' : List UInt8} (h : OW W g L w a v k) (ha : W.heap.size ≤ a.block) (hw : Wrote w w' a v v' k') : OW W g L w' a v' k' := by
  refine ⟨h.wp.wrote ha hw, h.row.only hw.only ?_, h.ne, fun e => ?_⟩
  · rintro (e | e)
    · exact h.ne e
    · exact h.nv e
  · rcases hw.rows _ e with e1 | e1
    · exact h.nv e1
    · have := h.row.lt; omega
theorem OW.later {W w w' : World} {g : Nat} {L : List Value} {a : Addr} {v : Value} {k : List UInt8} (h : OW W g L w a v k) (hb : Below w.heap.size w w') : OW W g L w' a v k :=
  ⟨h.wp.later hb, h.row.belowAll hb, h.ne, h.nv⟩
theorem OW.start {W w : World} {L : List Value} {a : Addr} {v : Value} {k : List UInt8} (h : WP W w a v k) : OW W w.heap.size L (w.alloc (.cells L.toArray 30)) a v k :=
  ⟨h.later (below_newO w _), Row.new w L 30, fun e => by have := h.wr.lt; omega, fun e => Nat.lt_irrefl _ (h.wr.rowlt _ e)⟩
/-- An operation's bytes. -/
def oTail (k id af : Int) (v : Vt) : List UInt8 := if k = 1 then v.bytes else if k = 2 then enc id.toNat ++ (enc af.toNat ++ v.bytes) else if k = 3 then enc id.toNat else enc id.toNat ++ enc af.toNat
def oBytes (k : Int) (l : List Stp) (id af : Int) (v : Vt) : List UInt8 := UInt8.ofNat k.toNat :: (pBytes l ++ oTail k id af v)
theorem rightO_cases {k : Int} {l : List Stp} {id af : Int} {v : Vt} (h : rightO k l id af v = true) : rightP l = true ∧
    ((k = 1 ∧ id = 0 ∧ af = 0 ∧ v.rightAt 1 = true) ∨ (k = 2 ∧ id ≠ 0 ∧ id ≠ af ∧ v.rightAt 1 = true) ∨ (k = 3 ∧ af = 0 ∧ id ≠ 0 ∧ isZ v = true) ∨ (k = 4 ∧ id ≠ 0 ∧ id ≠ af ∧ isZ v = true)) := by
  unfold rightO at h
  rw [Bool.and_eq_true] at h
  refine ⟨h.1, ?_⟩
  obtain ⟨_, h⟩ := h
  by_cases k1 : k = 1
  · rw [if_pos k1] at h
    simp only [Bool.and_eq_true, beq_iff_eq] at h
    exact .inl ⟨k1, h.1.1, h.1.2, h.2⟩
  rw [if_neg k1] at h
  by_cases k2 : k = 2
  · rw [if_pos k2] at h
    simp only [Bool.and_eq_true, bne_iff_ne] at h
    exact .inr (.inl ⟨k2, h.1.1, h.1.2, h.2⟩)
  rw [if_neg k2] at h
  by_cases k3 : k = 3
  · rw [if_pos k3] at h
    simp only [Bool.and_eq_true, bne_iff_ne, beq_iff_eq] at h
    exact .inr (.inr (.inl ⟨k3, h.1, h.2.1.1, h.2.2⟩))
  rw [if_neg k3] at h
  by_cases k4 : k = 4
  · rw [if_pos k4] at h
    simp only [Bool.and_eq_true, bne_iff_ne] at h
    exact .inr (.inr (.inr ⟨k4, h.1.1, h.1.2, h.2⟩))
  rw [if_neg k4] at h
  cases h
/-- What op.write leaves: with an error where the value alone is too long. -/
def OWd (W : World) (a : Addr) (k0 bs : List UInt8) (long : Prop) (e : Ending) (w' : World) : Prop :=
  ∃ v' k', WP W w' a v' k' ∧ k'.length ≤ k0.length + 5000 ∧ (long → e = .returned (.iface 50 (.int .i64 3))) ∧ (¬ long → e = .returned .nilIface ∧ k' = k0 ++ bs)

set_option maxHeartbeats 6400000 in
theorem owrite_1 (p : Option Addr) (n c : Nat) (l : List Stp)  (vk vn : Int) (vs : ByteArray) (va : Option Addr) (vla vca : Nat) (vb : Option Addr) (vlb vcb : Nat) (vc : Option Addr) (vlc vcc : Nat) (v : Vt) (W w : World) (a : Addr) (wv : Value) (k0 : List UInt8) (hS : Sts W p n l) (hok : ∀ x ∈ l, StOk x) (hr : rightP l = true) (hv : v.rightAt 1 = true) (hV : VAt W v (vC vk vn vs va vla vca vb vlb vcb vc vlc vcc)) (hw : WP W w a wv k0) (ha : W.heap.size ≤ a.block) (hk0 : k0.length ≤ 10000) :
    Calls Tryz.prog 17 #[.pointer (some a), .agg (oC 1 p n c 0 0 vk vn vs va vla vca vb vlb vcb vc vlc vcc).toArray] w (OWd W a k0 (1 :: (pBytes l ++ v.bytes)) (4096 < v.bytes.length)) := by
  have HO := Lib.hid (OW.start (L := oC 1 p n c 0 0 vk vn vs va vla vca vb vlb vcb vc vlc vcc) hw)
  have c0 := HO.out.row.cell (k := 0) rfl
  have c1 := HO.out.row.cell (k := 1) rfl
  have HPL := Lib.hid (pB_len hr hok l.length (Nat.le_refl _))
  have h8 := (right_of hr).1
  have HLL := Lib.hid (show (pBytes l).length ≤ 300 by unfold pBytes; have := pB_len hr hok l.length (Nat.le_refl _); omega)
  have HA := Lib.hid ha
  have HPW := Lib.hid (fun (wx : World) (vx : Value) (kx : List UInt8) (hx : WP W wx a vx kx) (hl : kx.length + 300 ≤ 140737488355328) => pwrote_any W a vx kx p n c l wx hS hok hr hx.be hx.wr ha hx.own hl)
  have HVE := Lib.hid (fun (wx : World) (hx : Below W.heap.size W wx) => vencode_any v (vC vk vn vs va vla vca vb vlb vcb vc vlc vcc) wx (hV.later hx))
  have HVR := Lib.hid hv
  clear hS hok hr hw ha hV hv
  generalize pBytes l = pb at *
  go_enter Tryz.func17, Tryz.ntmps17
  go_wp2_with fail
  refine (byte_any a wv k0 1 _ HO.out.wp.wr (by omega)).mono ?_
  rintro e W1 ⟨rfl, v1, hw1⟩
  have HO1 := Lib.hid (HO.out.wrote HA.out hw1)
  clear hw1 c0 c1
  have c1 := HO1.out.row.cell (k := 1) rfl
  go_wp2_with fail
  refine (HPW.out _ v1 (k0 ++ [1]) HO1.out.wp (by simp; omega)).mono ?_
  rintro e W2 ⟨rfl, v2, hw2⟩
  have HO2 := Lib.hid (HO1.out.wrote HA.out hw2)
  clear hw2 c1
  have c0 := HO2.out.row.cell (k := 0) rfl
  have c4 := HO2.out.row.cell (k := 4) rfl
  have c5 := HO2.out.row.cell (k := 5) rfl
  have c6 := HO2.out.row.cell (k := 6) rfl
  have c7 := HO2.out.row.cell (k := 7) rfl
  have c8 := HO2.out.row.cell (k := 8) rfl
  have c9 := HO2.out.row.cell (k := 9) rfl
  go_wp2_with fail
  refine (HVE.out _ HO2.out.wp.be).mono ?_
  rintro e W3 ⟨henc, hb⟩
  have HO3 := Lib.hid (HO2.out.later hb)
  clear hb c0 c4 c5 c6 c7 c8 c9
  unfold Enc at henc
  rw [if_pos HVR.out] at henc
  by_cases h4 : v.bytes.length ≤ 4096
  · rw [if_pos h4] at henc
    obtain ⟨a3, c3, rfl, hown⟩ := henc
    have HW := Lib.hid hown
    clear hown
    go_wp2_with fail
    refine (raw_any a v2 ((k0 ++ [1]) ++ pb) a3 v.bytes.length c3 v.bytes _ _ HO3.out.wp.wr (Rd.of_own HW.out) (by have := HLL.out; simp; omega)).mono ?_
    rintro e W4 ⟨rfl, v4, hw4⟩
    have HO4 := Lib.hid (HO3.out.wrote HA.out hw4)
    clear hw4
    go_wp2_with fail
    go_ret
    exact ⟨_, _, HO4.out.wp, by have := HLL.out; simp; omega, fun h => absurd h (by omega), fun _ => ⟨rfl, by simp⟩⟩
  · rw [if_neg h4] at henc
    subst henc
    go_wp2_with fail
    refine (raw_any a v2 ((k0 ++ [1]) ++ pb) none 0 0 [] (fun _ => True) _ HO3.out.wp.wr (Rd.nil _ _ _) (by have := HLL.out; simp; omega)).mono ?_
    rintro e W4 ⟨rfl, v4, hw4⟩
    have HO4 := Lib.hid (HO3.out.wrote HA.out hw4)
    clear hw4
    go_wp2_with fail
    go_ret
    exact ⟨_, _, HO4.out.wp, by have := HLL.out; simp; omega, fun _ => rfl, fun h => absurd (show 4096 < v.bytes.length by omega) h⟩

set_option maxHeartbeats 6400000 in
theorem owrite_2 (p : Option Addr) (n c : Nat) (l : List Stp) (id af : Nat) (hi0 : id < 18446744073709551616) (hf0 : af < 18446744073709551616) (vk vn : Int) (vs : ByteArray) (va : Option Addr) (vla vca : Nat) (vb : Option Addr) (vlb vcb : Nat) (vc : Option Addr) (vlc vcc : Nat) (v : Vt) (W w : World) (a : Addr) (wv : Value) (k0 : List UInt8) (hS : Sts W p n l) (hok : ∀ x ∈ l, StOk x) (hr : rightP l = true) (hv : v.rightAt 1 = true) (hV : VAt W v (vC vk vn vs va vla vca vb vlb vcb vc vlc vcc)) (hw : WP W w a wv k0) (ha : W.heap.size ≤ a.block) (hk0 : k0.length ≤ 10000) :
    Calls Tryz.prog 17 #[.pointer (some a), .agg (oC 2 p n c (id : Int) (af : Int) vk vn vs va vla vca vb vlb vcb vc vlc vcc).toArray] w (OWd W a k0 (2 :: (pBytes l ++ (enc id ++ (enc af ++ v.bytes)))) (4096 < v.bytes.length)) := by
  have HO := Lib.hid (OW.start (L := oC 2 p n c (id : Int) (af : Int) vk vn vs va vla vca vb vlb vcb vc vlc vcc) hw)
  have c0 := HO.out.row.cell (k := 0) rfl
  have c1 := HO.out.row.cell (k := 1) rfl
  have HPL := Lib.hid (pB_len hr hok l.length (Nat.le_refl _))
  have h8 := (right_of hr).1
  have HLL := Lib.hid (show (pBytes l).length ≤ 300 by unfold pBytes; have := pB_len hr hok l.length (Nat.le_refl _); omega)
  have HA := Lib.hid ha
  have HPW := Lib.hid (fun (wx : World) (vx : Value) (kx : List UInt8) (hx : WP W wx a vx kx) (hl : kx.length + 300 ≤ 140737488355328) => pwrote_any W a vx kx p n c l wx hS hok hr hx.be hx.wr ha hx.own hl)
  have HVE := Lib.hid (fun (wx : World) (hx : Below W.heap.size W wx) => vencode_any v (vC vk vn vs va vla vca vb vlb vcb vc vlc vcc) wx (hV.later hx))
  have HVR := Lib.hid hv
  clear hS hok hr hw ha hV hv
  generalize pBytes l = pb at *
  go_enter Tryz.func17, Tryz.ntmps17
  go_wp2_with fail
  refine (byte_any a wv k0 2 _ HO.out.wp.wr (by omega)).mono ?_
  rintro e W1 ⟨rfl, v1, hw1⟩
  have HO1 := Lib.hid (HO.out.wrote HA.out hw1)
  clear hw1 c0 c1
  have c1 := HO1.out.row.cell (k := 1) rfl
  go_wp2_with fail
  refine (HPW.out _ v1 (k0 ++ [2]) HO1.out.wp (by simp; omega)).mono ?_
  rintro e W2 ⟨rfl, v2, hw2⟩
  have HO2 := Lib.hid (HO1.out.wrote HA.out hw2)
  clear hw2 c1
  have c0 := HO2.out.row.cell (k := 0) rfl
  have c2 := HO2.out.row.cell (k := 2) rfl
  go_wp2_with fail
  refine (number_any a v2 ((k0 ++ [2]) ++ pb) id _ HO2.out.wp.wr (by assumption) (by have := HLL.out; simp; omega)).mono ?_
  rintro e W3 ⟨rfl, v3, hw3⟩
  have HO3 := Lib.hid (HO2.out.wrote HA.out hw3)
  clear hw3 c0 c2
  have c3 := HO3.out.row.cell (k := 3) rfl
  go_wp2_with fail
  refine (number_any a v3 (((k0 ++ [2]) ++ pb) ++ enc id) af _ HO3.out.wp.wr (by assumption) (by have := HLL.out; have := enc_length_le hi0; simp; omega)).mono ?_
  rintro e W4 ⟨rfl, v4, hw4⟩
  have HO4 := Lib.hid (HO3.out.wrote HA.out hw4)
  clear hw4 c3
  have c4 := HO4.out.row.cell (k := 4) rfl
  have c5 := HO4.out.row.cell (k := 5) rfl
  have c6 := HO4.out.row.cell (k := 6) rfl
  have c7 := HO4.out.row.cell (k := 7) rfl
  have c8 := HO4.out.row.cell (k := 8) rfl
  have c9 := HO4.out.row.cell (k := 9) rfl
  go_wp2_with fail
  refine (HVE.out _ HO4.out.wp.be).mono ?_
  rintro e W5 ⟨henc, hb⟩
  have HO5 := Lib.hid (HO4.out.later hb)
  clear hb c4 c5 c6 c7 c8 c9
  unfold Enc at henc
  rw [if_pos HVR.out] at henc
  by_cases h4 : v.bytes.length ≤ 4096
  · rw [if_pos h4] at henc
    obtain ⟨a3, c3, rfl, hown⟩ := henc
    have HW := Lib.hid hown
    clear hown
    go_wp2_with fail
    refine (raw_any a v4 ((((k0 ++ [2]) ++ pb) ++ enc id) ++ enc af) a3 v.bytes.length c3 v.bytes _ _ HO5.out.wp.wr (Rd.of_own HW.out) (by have := HLL.out; have := enc_length_le hi0; have := enc_length_le hf0; simp; omega)).mono ?_
    rintro e W6 ⟨rfl, v6, hw6⟩
    have HO6 := Lib.hid (HO5.out.wrote HA.out hw6)
    clear hw6
    go_wp2_with fail
    go_ret
    exact ⟨_, _, HO6.out.wp, by have := HLL.out; have := enc_length_le hi0; have := enc_length_le hf0; simp; omega, fun h => absurd h (by omega), fun _ => ⟨rfl, by simp⟩⟩
  · rw [if_neg h4] at henc
    subst henc
    go_wp2_with fail
    refine (raw_any a v4 ((((k0 ++ [2]) ++ pb) ++ enc id) ++ enc af) none 0 0 [] (fun _ => True) _ HO5.out.wp.wr (Rd.nil _ _ _) (by have := HLL.out; have := enc_length_le hi0; have := enc_length_le hf0; simp; omega)).mono ?_
    rintro e W6 ⟨rfl, v6, hw6⟩
    have HO6 := Lib.hid (HO5.out.wrote HA.out hw6)
    clear hw6
    go_wp2_with fail
    go_ret
    exact ⟨_, _, HO6.out.wp, by have := HLL.out; have := enc_length_le hi0; have := enc_length_le hf0; simp; omega, fun _ => rfl, fun h => absurd (show 4096 < v.bytes.length by omega) h⟩

set_option maxHeartbeats 6400000 in
theorem owrite_3 (p : Option Addr) (n c : Nat) (l : List Stp) (id : Nat) (hi0 : id < 18446744073709551616) (vk vn : Int) (vs : ByteArray) (va : Option Addr) (vla vca : Nat) (vb : Option Addr) (vlb vcb : Nat) (vc : Option Addr) (vlc vcc : Nat) (v : Vt) (W w : World) (a : Addr) (wv : Value) (k0 : List UInt8) (hS : Sts W p n l) (hok : ∀ x ∈ l, StOk x) (hr : rightP l = true) (hw : WP W w a wv k0) (ha : W.heap.size ≤ a.block) (hk0 : k0.length ≤ 10000) :
    Calls Tryz.prog 17 #[.pointer (some a), .agg (oC 3 p n c (id : Int) 0 vk vn vs va vla vca vb vlb vcb vc vlc vcc).toArray] w (OWd W a k0 (3 :: (pBytes l ++ enc id)) False) := by
  have HO := Lib.hid (OW.start (L := oC 3 p n c (id : Int) 0 vk vn vs va vla vca vb vlb vcb vc vlc vcc) hw)
  have c0 := HO.out.row.cell (k := 0) rfl
  have c1 := HO.out.row.cell (k := 1) rfl
  have HPL := Lib.hid (pB_len hr hok l.length (Nat.le_refl _))
  have h8 := (right_of hr).1
  have HLL := Lib.hid (show (pBytes l).length ≤ 300 by unfold pBytes; have := pB_len hr hok l.length (Nat.le_refl _); omega)
  have HA := Lib.hid ha
  have HPW := Lib.hid (fun (wx : World) (vx : Value) (kx : List UInt8) (hx : WP W wx a vx kx) (hl : kx.length + 300 ≤ 140737488355328) => pwrote_any W a vx kx p n c l wx hS hok hr hx.be hx.wr ha hx.own hl)
  clear hS hok hr hw ha
  generalize pBytes l = pb at *
  go_enter Tryz.func17, Tryz.ntmps17
  go_wp2_with fail
  refine (byte_any a wv k0 3 _ HO.out.wp.wr (by omega)).mono ?_
  rintro e W1 ⟨rfl, v1, hw1⟩
  have HO1 := Lib.hid (HO.out.wrote HA.out hw1)
  clear hw1 c0 c1
  have c1 := HO1.out.row.cell (k := 1) rfl
  go_wp2_with fail
  refine (HPW.out _ v1 (k0 ++ [3]) HO1.out.wp (by simp; omega)).mono ?_
  rintro e W2 ⟨rfl, v2, hw2⟩
  have HO2 := Lib.hid (HO1.out.wrote HA.out hw2)
  clear hw2 c1
  have c0 := HO2.out.row.cell (k := 0) rfl
  have c2 := HO2.out.row.cell (k := 2) rfl
  go_wp2_with fail
  refine (number_any a v2 ((k0 ++ [3]) ++ pb) id _ HO2.out.wp.wr (by assumption) (by have := HLL.out; simp; omega)).mono ?_
  rintro e W3 ⟨rfl, v3, hw3⟩
  have HO3 := Lib.hid (HO2.out.wrote HA.out hw3)
  clear hw3 c0 c2
  go_wp2_with fail
  go_ret
  exact ⟨_, _, HO3.out.wp, by have := HLL.out; have := enc_length_le hi0; simp; omega, fun h => h.elim, fun _ => ⟨rfl, by simp⟩⟩

set_option maxHeartbeats 6400000 in
theorem owrite_4 (p : Option Addr) (n c : Nat) (l : List Stp) (id af : Nat) (hi0 : id < 18446744073709551616) (hf0 : af < 18446744073709551616) (vk vn : Int) (vs : ByteArray) (va : Option Addr) (vla vca : Nat) (vb : Option Addr) (vlb vcb : Nat) (vc : Option Addr) (vlc vcc : Nat) (v : Vt) (W w : World) (a : Addr) (wv : Value) (k0 : List UInt8) (hS : Sts W p n l) (hok : ∀ x ∈ l, StOk x) (hr : rightP l = true) (hw : WP W w a wv k0) (ha : W.heap.size ≤ a.block) (hk0 : k0.length ≤ 10000) :
    Calls Tryz.prog 17 #[.pointer (some a), .agg (oC 4 p n c (id : Int) (af : Int) vk vn vs va vla vca vb vlb vcb vc vlc vcc).toArray] w (OWd W a k0 (4 :: (pBytes l ++ (enc id ++ enc af))) False) := by
  have HO := Lib.hid (OW.start (L := oC 4 p n c (id : Int) (af : Int) vk vn vs va vla vca vb vlb vcb vc vlc vcc) hw)
  have c0 := HO.out.row.cell (k := 0) rfl
  have c1 := HO.out.row.cell (k := 1) rfl
  have HPL := Lib.hid (pB_len hr hok l.length (Nat.le_refl _))
  have h8 := (right_of hr).1
  have HLL := Lib.hid (show (pBytes l).length ≤ 300 by unfold pBytes; have := pB_len hr hok l.length (Nat.le_refl _); omega)
  have HA := Lib.hid ha
  have HPW := Lib.hid (fun (wx : World) (vx : Value) (kx : List UInt8) (hx : WP W wx a vx kx) (hl : kx.length + 300 ≤ 140737488355328) => pwrote_any W a vx kx p n c l wx hS hok hr hx.be hx.wr ha hx.own hl)
  clear hS hok hr hw ha
  generalize pBytes l = pb at *
  go_enter Tryz.func17, Tryz.ntmps17
  go_wp2_with fail
  refine (byte_any a wv k0 4 _ HO.out.wp.wr (by omega)).mono ?_
  rintro e W1 ⟨rfl, v1, hw1⟩
  have HO1 := Lib.hid (HO.out.wrote HA.out hw1)
  clear hw1 c0 c1
  have c1 := HO1.out.row.cell (k := 1) rfl
  go_wp2_with fail
  refine (HPW.out _ v1 (k0 ++ [4]) HO1.out.wp (by simp; omega)).mono ?_
  rintro e W2 ⟨rfl, v2, hw2⟩
  have HO2 := Lib.hid (HO1.out.wrote HA.out hw2)
  clear hw2 c1
  have c0 := HO2.out.row.cell (k := 0) rfl
  have c2 := HO2.out.row.cell (k := 2) rfl
  go_wp2_with fail
  refine (number_any a v2 ((k0 ++ [4]) ++ pb) id _ HO2.out.wp.wr (by assumption) (by have := HLL.out; simp; omega)).mono ?_
  rintro e W3 ⟨rfl, v3, hw3⟩
  have HO3 := Lib.hid (HO2.out.wrote HA.out hw3)
  clear hw3 c0 c2
  have c3 := HO3.out.row.cell (k := 3) rfl
  go_wp2_with fail
  refine (number_any a v3 (((k0 ++ [4]) ++ pb) ++ enc id) af _ HO3.out.wp.wr (by assumption) (by have := HLL.out; have := enc_length_le hi0; simp; omega)).mono ?_
  rintro e W4 ⟨rfl, v4, hw4⟩
  have HO4 := Lib.hid (HO3.out.wrote HA.out hw4)
  clear hw4 c3
  go_wp2_with fail
  go_ret
  exact ⟨_, _, HO4.out.wp, by have := HLL.out; have := enc_length_le hi0; have := enc_length_le hf0; simp; omega, fun h => h.elim, fun _ => ⟨rfl, by simp⟩⟩
end

section
set_option maxRecDepth 100000
set_option linter.unusedSimpArgs false
set_option linter.unusedVariables false
open Go.RowKit

theorem own_sliceO {w : World} {B s n : Nat} {T : TypeId} {v : Value} {l : List Value} (h : w.ownsRow B T s v n l) : ∃ a c, v = .slice a n c := by
  rcases h.2 with ⟨hv, h0⟩ | ⟨g, cap, cur, hv, _⟩
  · exact ⟨none, 0, by subst h0; exact hv⟩
  · exact ⟨_, _, hv⟩
theorem readto_thenO {w w1 w2 : World} {g : Nat} {A : Option Addr} {c : Nat} {F : Nat → Prop} {k : List UInt8} {q r : Nat} (h : Readto w w1 g A c F k q 0) (h2 : Readto w1 w2 g A c F k r 0) : Readto w w2 g A c F k r 0 :=
  ⟨h2.rr, h.only.trans h2.only fun _ _ e => e⟩
theorem readto_rowO {w w1 : World} {g : Nat} {A : Option Addr} {c : Nat} {F : Nat → Prop} {k : List UInt8} {q : Nat} (h : Readto w w1 g A c F k q 0) {r : Nat} (hr : w.heap.size ≤ r) (hg : g < w.heap.size) (hF : ∀ j, F j → j < g) (cs : Array Value) : Readto w (w1.setRow r cs) g A c F k q 0 := by
  have hO : Only (fun j => j = r) w1 (w1.setRow r cs) := only_setRow w1 r cs
  exact ⟨h.rr.only hO (by omega) (fun j hj e => by have := hF j hj; omega), h.only.trans hO fun j hj e => by omega⟩
abbrev oZ : List Value := [.int .i64 0, .slice none 0 0, .int .u64 0, .int .u64 0, .int .i64 0, .int .i64 0, .string ⟨#[]⟩, .slice none 0 0, .slice none 0 0, .slice none 0 0]
theorem oZ_info : (Tryz.prog.info? 30).map (·.size) = some oZ.toArray.size := by kernel_rfl
abbrev o3 (a : Option Addr) (n c : Nat) (i : Int) : List Value := [.int .i64 3, .slice a n c, .int .u64 i, .int .u64 0, .int .i64 0, .int .i64 0, .string ⟨#[]⟩, .slice none 0 0, .slice none 0 0, .slice none 0 0]

set_option maxHeartbeats 3200000 in
theorem oread_3 (g : Nat) (A : Option Addr) (c : Nat) (F : Nat → Prop) (k : List UInt8) (p : Nat) (l : List Stp) (i : Nat) (R : List UInt8) (w : World) (h : Rr w g A c F k p 0) (hk : k.drop p = 3 :: (pBytes l ++ (enc i ++ R))) (hr : rightP l = true) (hok : ∀ x ∈ l, StOk x) (hi : i < 18446744073709551616) (hi0 : (i : Int) ≠ 0) (hF : ∀ j, F j → j < g) :
    Calls Tryz.prog 28 #[.pointer (some ⟨g, 0, none⟩)] w fun e w' => ∃ a c', e = .returned (.agg (o3 a l.length c' i).toArray) ∧ w'.ownsRow (w.heap.size + 1) 67 2 (.slice a l.length c') l.length (stc l) ∧ Readto w w' g A c F k (p + 1 + (pBytes l).length + (enc i).length) 0 := by
  have hgl := h.lt
  have hk1 : k.drop (p + 1) = pBytes l ++ (enc i ++ R) := drop_more (b := [3]) hk
  have hk2 : k.drop (p + 1 + (pBytes l).length) = enc i ++ R := drop_more hk1
  have HKD := Lib.hid (kind4_any g A c F k p 3 _ _ (h.below (below_new w (.cells oZ.toArray 30))) hk (by decide))
  have R0 := Lib.hid (Row.new w oZ 30)
  have HPR := Lib.hid (fun (wx : World) (hx : Rr wx g A c F k (p + 1) 0) => pread_any g A c F k (enc i ++ R) (p + 1) l wx hx hk1 hr hok hF)
  have HID := Lib.hid (fun (wx : World) (hx : Rr wx g A c F k (p + 1 + (pBytes l).length) 0) => oid_any g A c F k (p + 1 + (pBytes l).length) i R wx hx hk2 hi hi0)
  have HFF := Lib.hid hF
  clear h hk hk1 hk2 hr hok hF
  generalize hlen : l.length = n at *
  clear hlen
  go_enter Tryz.func28, Tryz.ntmps28
  go_wp2_with fail
  refine HKD.out.mono ?_
  rintro e W1 ⟨rfl, hto⟩
  have HT1 := Lib.hid (readto_from hto)
  have R1 := Lib.hid (R0.out.only hto.only (show ¬ w.heap.size = g by omega))
  have hs1 : w.heap.size + 1 ≤ W1.heap.size := by have := hto.only.size; simpa using this
  clear hto
  go_wp2_with fail
  refine (HPR.out _ HT1.out.rr).mono ?_
  rintro e W2 ⟨v, rfl, hown, hto⟩
  obtain ⟨a, c', rfl⟩ := own_sliceO hown
  have HO2 := Lib.hid hown
  have HT2 := Lib.hid (readto_thenO HT1.out hto)
  have R2 := Lib.hid (R1.out.only hto.only (show ¬ w.heap.size = g by omega))
  have hs2 := hto.only.size
  clear hto hown
  have R3 := Lib.hid (R2.out.alloc (.cells (o3 a n c' 0).toArray 30))
  have HN := Lib.hid (Row.new W2 (o3 a n c' 0) 30)
  have HT3 := Lib.hid (readto_new HT2.out (.cells (o3 a n c' 0).toArray 30))
  have c0 := HN.out.cell (k := 0) rfl
  go_wp2_with fail
  refine (HID.out _ HT3.out.rr).mono ?_
  rintro e W4 ⟨rfl, hto⟩
  have n4 := HN.out.only hto.only (show ¬ W2.heap.size = g by omega)
  have c2 := n4.cell (k := 2) rfl
  have f2 := n4.free 2
  have HN5 := Lib.hid (show Row (W4.setCell ⟨W2.heap.size, 2, none⟩ (.int .u64 (i : Int))) W2.heap.size 30 (o3 a n c' i) from n4.set 2 _)
  have HT5 := Lib.hid (readto_setc (readto_thenO HT3.out hto) (p := ⟨W2.heap.size, 2, none⟩) (show w.heap.size ≤ W2.heap.size by omega) hgl HFF.out (.int .u64 (i : Int)))
  have R5 := Lib.hid ((R3.out.only hto.only (show ¬ w.heap.size = g by omega)).setCell (p := ⟨W2.heap.size, 2, none⟩) (show w.heap.size ≠ W2.heap.size by omega) (.int .u64 (i : Int)))
  have hO5 : Only (fun j => j = g ∨ j = W2.heap.size) W2 (W4.setCell ⟨W2.heap.size, 2, none⟩ (.int .u64 (i : Int))) := (((Only.refl (fun j => j = g ∨ j = W2.heap.size) W2).alloc _).trans hto.only fun _ _ e => .inl e).setCell (.inl (.inr rfl)) _
  have HO5 := Lib.hid (own_only HO2.out hO5 fun j hj e => by have := HO2.out.lt j hj; omega)
  have HER := Lib.hid (err_none g A c F k _ _ HT5.out.rr)
  clear hto n4 hO5 c0
  go_wp2_with fail
  refine HER.out.mono ?_
  rintro e W6 ⟨rfl, rfl⟩
  go_wp2_with (first | (refine wpList_load_row rfl 30 (.tmp 3) rfl W2.heap.size rfl 30 _ (0, 0) _ HN5.out Tryz.underlying30 rfl oZ_info ?_) | (refine wpList_store_row rfl 30 (.tmp 2) (.tmp 43) rfl w.heap.size (o3 a n c' i).toArray rfl rfl 30 _ R5.out oZ_info rfl (by simp [Value.oneCell']) ?_))
  have hgot := setRow_heap (W4.setCell ⟨W2.heap.size, 2, none⟩ (.int .u64 (i : Int))) w.heap.size _ (o3 a n c' i).toArray _ _ R5.out
  (try simp only [Exit.inBlock, Exit.then])
  refine bodyPost_ret (results_cell_row (by rfl) _ _ w.heap.size _ _ _ _ (by rfl) hgot Tryz.underlying30 rfl oZ_info) rfl ?_
  refine ⟨a, c', rfl, ?_, readto_rowO HT5.out (Nat.le_refl _) hgl HFF.out _⟩
  have hw := own_only HO5.out (only_setRow (W4.setCell ⟨W2.heap.size, 2, none⟩ (.int .u64 (i : Int))) w.heap.size (o3 a n c' i).toArray) fun j hj e => by have := HO2.out.lt j hj; have e2 : j = w.heap.size := e; omega
  exact own_base hw hs1

abbrev o4 (a : Option Addr) (n c : Nat) (i f : Int) : List Value := [.int .i64 4, .slice a n c, .int .u64 i, .int .u64 f, .int .i64 0, .int .i64 0, .string ⟨#[]⟩, .slice none 0 0, .slice none 0 0, .slice none 0 0]
set_option maxHeartbeats 3200000 in
theorem oread_4 (g : Nat) (A : Option Addr) (c : Nat) (F : Nat → Prop) (k : List UInt8) (p : Nat) (l : List Stp) (i f : Nat) (R : List UInt8) (w : World) (h : Rr w g A c F k p 0) (hk : k.drop p = 4 :: (pBytes l ++ (enc i ++ (enc f ++ R)))) (hr : rightP l = true) (hok : ∀ x ∈ l, StOk x) (hi : i < 18446744073709551616) (hf : f < 18446744073709551616) (hi0 : (i : Int) ≠ 0) (hfi : (f : Int) ≠ i) (hF : ∀ j, F j → j < g) :
    Calls Tryz.prog 28 #[.pointer (some ⟨g, 0, none⟩)] w fun e w' => ∃ a c', e = .returned (.agg (o4 a l.length c' i f).toArray) ∧ w'.ownsRow (w.heap.size + 1) 67 2 (.slice a l.length c') l.length (stc l) ∧ Readto w w' g A c F k (p + 1 + (pBytes l).length + (enc i).length + (enc f).length) 0 := by
  have hgl := h.lt
  have hk1 : k.drop (p + 1) = pBytes l ++ (enc i ++ (enc f ++ R)) := drop_more (b := [4]) hk
  have hk2 : k.drop (p + 1 + (pBytes l).length) = enc i ++ (enc f ++ R) := drop_more hk1
  have HKD := Lib.hid (kind4_any g A c F k p 4 _ _ (h.below (below_new w (.cells oZ.toArray 30))) hk (by decide))
  have R0 := Lib.hid (Row.new w oZ 30)
  have HPR := Lib.hid (fun (wx : World) (hx : Rr wx g A c F k (p + 1) 0) => pread_any g A c F k (enc i ++ (enc f ++ R)) (p + 1) l wx hx hk1 hr hok hF)
  have HID := Lib.hid (fun (wx : World) (hx : Rr wx g A c F k (p + 1 + (pBytes l).length) 0) => onums_any g A c F k (p + 1 + (pBytes l).length) i f R wx hx hk2 hi hf hi0 hfi hF)
  have HFF := Lib.hid hF
  clear h hk hk1 hk2 hr hok hF
  generalize hlen : l.length = n at *
  clear hlen
  go_enter Tryz.func28, Tryz.ntmps28
  go_wp2_with fail
  refine HKD.out.mono ?_
  rintro e W1 ⟨rfl, hto⟩
  have HT1 := Lib.hid (readto_from hto)
  have R1 := Lib.hid (R0.out.only hto.only (show ¬ w.heap.size = g by omega))
  have hs1 : w.heap.size + 1 ≤ W1.heap.size := by have := hto.only.size; simpa using this
  clear hto
  go_wp2_with fail
  refine (HPR.out _ HT1.out.rr).mono ?_
  rintro e W2 ⟨v, rfl, hown, hto⟩
  obtain ⟨a, c', rfl⟩ := own_sliceO hown
  have HO2 := Lib.hid hown
  have HT2 := Lib.hid (readto_thenO HT1.out hto)
  have R2 := Lib.hid (R1.out.only hto.only (show ¬ w.heap.size = g by omega))
  have hs2 := hto.only.size
  clear hto hown
  have R3 := Lib.hid (R2.out.alloc (.cells (o4 a n c' 0 0).toArray 30))
  have HN := Lib.hid (Row.new W2 (o4 a n c' 0 0) 30)
  have HT3 := Lib.hid (readto_new HT2.out (.cells (o4 a n c' 0 0).toArray 30))
  have c0 := HN.out.cell (k := 0) rfl
  go_wp2_with fail
  refine (HID.out _ HT3.out.rr).mono ?_
  rintro e W4 ⟨rfl, hto⟩
  have n4 := HN.out.only hto.only (show ¬ W2.heap.size = g by omega)
  have c2 := n4.cell (k := 2) rfl
  have f2 := n4.free 2
  have n5 := n4.set 2 (.int .u64 (i : Int))
  have d3 := n5.cell (k := 3) rfl
  have e3 := n5.free 3
  have HN5 := Lib.hid (show Row ((W4.setCell ⟨W2.heap.size, 2, none⟩ (.int .u64 (i : Int))).setCell ⟨W2.heap.size, 3, none⟩ (.int .u64 (f : Int))) W2.heap.size 30 (o4 a n c' i f) from n5.set 3 _)
  have HT5 := Lib.hid (readto_setc (readto_setc (readto_thenO HT3.out hto) (p := ⟨W2.heap.size, 2, none⟩) (show w.heap.size ≤ W2.heap.size by omega) hgl HFF.out (.int .u64 (i : Int))) (p := ⟨W2.heap.size, 3, none⟩) (show w.heap.size ≤ W2.heap.size by omega) hgl HFF.out (.int .u64 (f : Int)))
  have R5 := Lib.hid (((R3.out.only hto.only (show ¬ w.heap.size = g by omega)).setCell (p := ⟨W2.heap.size, 2, none⟩) (show w.heap.size ≠ W2.heap.size by omega) (.int .u64 (i : Int))).setCell (p := ⟨W2.heap.size, 3, none⟩) (show w.heap.size ≠ W2.heap.size by omega) (.int .u64 (f : Int)))
  have hO5 : Only (fun j => j = g ∨ j = W2.heap.size) W2 ((W4.setCell ⟨W2.heap.size, 2, none⟩ (.int .u64 (i : Int))).setCell ⟨W2.heap.size, 3, none⟩ (.int .u64 (f : Int))) := ((((Only.refl (fun j => j = g ∨ j = W2.heap.size) W2).alloc _).trans hto.only fun _ _ e => .inl e).setCell (.inl (.inr rfl)) _).setCell (.inl (.inr rfl)) _
  have HO5 := Lib.hid (own_only HO2.out hO5 fun j hj e => by have := HO2.out.lt j hj; omega)
  have HER := Lib.hid (err_none g A c F k _ _ HT5.out.rr)
  clear hto n4 n5 hO5 c0
  go_wp2_with fail
  refine HER.out.mono ?_
  rintro e W6 ⟨rfl, rfl⟩
  go_wp2_with (first | (refine wpList_load_row rfl 30 (.tmp 3) rfl W2.heap.size rfl 30 _ (0, 0) _ HN5.out Tryz.underlying30 rfl oZ_info ?_) | (refine wpList_store_row rfl 30 (.tmp 2) (.tmp 43) rfl w.heap.size (o4 a n c' i f).toArray rfl rfl 30 _ R5.out oZ_info rfl (by simp [Value.oneCell']) ?_))
  have hgot := setRow_heap ((W4.setCell ⟨W2.heap.size, 2, none⟩ (.int .u64 (i : Int))).setCell ⟨W2.heap.size, 3, none⟩ (.int .u64 (f : Int))) w.heap.size _ (o4 a n c' i f).toArray _ _ R5.out
  (try simp only [Exit.inBlock, Exit.then])
  refine bodyPost_ret (results_cell_row (by rfl) _ _ w.heap.size _ _ _ _ (by rfl) hgot Tryz.underlying30 rfl oZ_info) rfl ?_
  refine ⟨a, c', rfl, ?_, readto_rowO HT5.out (Nat.le_refl _) hgl HFF.out _⟩
  have hw := own_only HO5.out (only_setRow ((W4.setCell ⟨W2.heap.size, 2, none⟩ (.int .u64 (i : Int))).setCell ⟨W2.heap.size, 3, none⟩ (.int .u64 (f : Int))) w.heap.size (o4 a n c' i f).toArray) fun j hj e => by have := HO2.out.lt j hj; have e2 : j = w.heap.size := e; omega
  exact own_base hw hs1
end

end Go.Proofs.YtmiadkhfjkaidaaGreatDoor
