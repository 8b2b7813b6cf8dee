/- A value's bytes, as a list; how many there may be. What writing a right schema leaves; for any right schema. Names of a record read where they follow. A region that draws its order, with operations that make memory: what only reads may be taken first, as long as nothing late has come; over any program. What reading lists wants: strings in a box, a function made, rows of the call's own. -/
import Derived.Test.YtmiadkhfjkaidaaGreatDoorMg16
import Derived.Test.YtmiadkhfjkaidaaGreatDoorMg8
import Derived.Test.YtmiadkhfjkaidaaGreatDoorMg2
import Derived.OpenShut
import Derived.Test.YtmiadkhfjkaidaaGreatDoorMg9
import Derived.Test.YtmiadkhfjkaidaaGreatDoorMg13
import Derived.Test.YtmiadkhfjkaidaaGreatDoorMg11
import Derived.Test.YtmiadkhfjkaidaaGreatDoorMg12
import Derived.Test.YtmiadkhfjkaidaaGreatDoorMg5
import Derived.OrdersHeld
import Derived.Deep.RegionHeld
import Derived.Maps.AppendAt
import Derived.Great.BuildSlice
namespace Go.Proofs.YtmiadkhfjkaidaaGreatDoor
section
set_option maxRecDepth 100000

def iB (l : List Int) (i : Nat) : List UInt8 := enc (l.getD i 0).toNat
def Vt.bytes : Vt → List UInt8
  | .nul => []
  | .mk k n s names ids _ parts => UInt8.ofNat k.toNat :: (if k = 1 then [UInt8.ofNat n.toNat] else if k = 2 then enc (zig n) else if k = 3 then wB s else if k = 4 then wB s
    else if k = 5 then enc names.length ++ (List.range names.length).flatMap (fun i => wB (nth names i) ++ (parts i).bytes)
    else if k = 6 then enc ids.length ++ (List.range ids.length).flatMap (fun i => iB ids i ++ (parts i).bytes) else [])
/-- Its numbers lie within their kinds. -/
def Vt.inn : Vt → Prop
  | .nul => True
  | .mk _ n _ _ ids len parts => (Lit.int .i64 n).wf = true ∧ (∀ x ∈ ids, (Lit.int .u64 x).wf = true) ∧ ∀ i, i < len → (parts i).inn
theorem VAt.inn {w : World} : ∀ {v : Vt} {cs : List Value}, VAt w v cs → v.inn := by
  intro v cs h
  induction h with
  | mk css hk hn hs h1 h1c hss h2 h2c hi h3 h3c _ ih => exact ⟨hn, hi, ih⟩
theorem wf_i64_le {n : Int} (h : (Lit.int .i64 n).wf = true) : -9223372036854775808 ≤ n ∧ n ≤ 9223372036854775807 := bounds_i64 h
theorem wf_u64_lt {n : Int} (h : (Lit.int .u64 n).wf = true) : 0 ≤ n ∧ n < 18446744073709551616 := by
  have := bounds_u64 h
  omega
def vbnd : Nat → Nat
  | 0 => 0
  | n + 1 => 1000 + 12 * vbnd n
theorem vbnd_mono : ∀ {n m : Nat}, n ≤ m → vbnd n ≤ vbnd m
  | 0, _, _ => Nat.zero_le _
  | n + 1, 0, h => absurd h (by omega)
  | n + 1, m + 1, h => by
    have := vbnd_mono (n := n) (m := m) (by omega)
    unfold vbnd
    omega
theorem vbnd_all {n : Nat} (h : n ≤ 6) : vbnd n ≤ 400000000 := Nat.le_trans (vbnd_mono h) (by decide)
theorem headV_cases {k n : Int} {s : ByteArray} {names : List ByteArray} {ids : List Int} {len : Nat} (h : headV k n s names ids len = true) :
    (k = 1 ∧ (n = 0 ∨ n = 1) ∧ s.size = 0 ∧ names.length = 0 ∧ ids.length = 0 ∧ len = 0) ∨ (k = 2 ∧ s.size = 0 ∧ names.length = 0 ∧ ids.length = 0 ∧ len = 0) ∨
    (k = 3 ∧ n = 0 ∧ s.size ≤ 64 ∧ names.length = 0 ∧ ids.length = 0 ∧ len = 0) ∨ (k = 4 ∧ n = 0 ∧ nameB s = true ∧ names.length = 0 ∧ ids.length = 0 ∧ len = 0) ∨
    (k = 5 ∧ n = 0 ∧ s.size = 0 ∧ ids.length = 0 ∧ names.length ≤ 8 ∧ len = names.length ∧ riseB names = true) ∨
    (k = 6 ∧ n = 0 ∧ s.size = 0 ∧ names.length = 0 ∧ ids.length ≤ 12 ∧ len = ids.length ∧ idsB ids = true) := by
  unfold headV at h
  by_cases h1 : k = 1
  · rw [if_pos h1] at h
    simp only [Bool.and_eq_true, decide_eq_true_eq] at h
    exact .inl ⟨h1, h.1.1.1.1, h.1.1.1.2, h.1.1.2, h.1.2, h.2⟩
  rw [if_neg h1] at h
  by_cases h2 : k = 2
  · rw [if_pos h2] at h
    simp only [Bool.and_eq_true, decide_eq_true_eq] at h
    exact .inr (.inl ⟨h2, h.1.1.1, h.1.1.2, h.1.2, h.2⟩)
  rw [if_neg h2] at h
  by_cases h3 : k = 3
  · rw [if_pos h3] at h
    simp only [Bool.and_eq_true, decide_eq_true_eq] at h
    exact .inr (.inr (.inl ⟨h3, h.1.1.1.1, h.1.1.1.2, h.1.1.2, h.1.2, h.2⟩))
  rw [if_neg h3] at h
  by_cases h4 : k = 4
  · rw [if_pos h4] at h
    simp only [Bool.and_eq_true, decide_eq_true_eq] at h
    exact .inr (.inr (.inr (.inl ⟨h4, h.1.1.1.1, h.1.1.1.2, h.1.1.2, h.1.2, h.2⟩)))
  rw [if_neg h4] at h
  by_cases h5 : k = 5
  · rw [if_pos h5] at h
    simp only [Bool.and_eq_true, decide_eq_true_eq] at h
    exact .inr (.inr (.inr (.inr (.inl ⟨h5, h.1.1.1.1.1, h.1.1.1.1.2, h.1.1.1.2, h.1.1.2, h.1.2, h.2⟩))))
  rw [if_neg h5] at h
  by_cases h6 : k = 6
  · rw [if_pos h6] at h
    simp only [Bool.and_eq_true, decide_eq_true_eq] at h
    exact .inr (.inr (.inr (.inr (.inr ⟨h6, h.1.1.1.1.1, h.1.1.1.1.2, h.1.1.1.2, h.1.1.2, h.1.2, h.2⟩))))
  rw [if_neg h6] at h
  cases h
theorem riseB_size {l : List ByteArray} (h : riseB l = true) {i : Nat} (hi : i < l.length) : (nth l i).size ≤ 64 := by
  have := nameB_sz (riseB_name h hi)
  omega
theorem iB_len {ids : List Int} (hi : ∀ x ∈ ids, (Lit.int .u64 x).wf = true) {i : Nat} (h : i < ids.length) : (iB ids i).length ≤ 10 := by
  unfold iB
  have hm : ids.getD i 0 = ids[i] := by simp [h]
  have := wf_u64_lt (hi _ (List.getElem_mem h))
  exact enc_length_le (by rw [hm]; omega)
theorem vbytes_1 {n : Int} {s : ByteArray} {names : List ByteArray} {ids : List Int} {len : Nat} {parts : Nat → Vt} : (Vt.mk 1 n s names ids len parts).bytes = [1, UInt8.ofNat n.toNat] := rfl
theorem vbytes_2 {n : Int} {s : ByteArray} {names : List ByteArray} {ids : List Int} {len : Nat} {parts : Nat → Vt} : (Vt.mk 2 n s names ids len parts).bytes = [2] ++ enc (zig n) := by
  unfold Vt.bytes
  rw [if_neg (by decide), if_pos rfl]
  rfl
theorem vbytes_3 {n : Int} {s : ByteArray} {names : List ByteArray} {ids : List Int} {len : Nat} {parts : Nat → Vt} : (Vt.mk 3 n s names ids len parts).bytes = [3] ++ wB s := by
  unfold Vt.bytes
  rw [if_neg (by decide), if_neg (by decide), if_pos rfl]
  rfl
theorem vbytes_4 {n : Int} {s : ByteArray} {names : List ByteArray} {ids : List Int} {len : Nat} {parts : Nat → Vt} : (Vt.mk 4 n s names ids len parts).bytes = [4] ++ wB s := by
  unfold Vt.bytes
  rw [if_neg (by decide), if_neg (by decide), if_neg (by decide), if_pos rfl]
  rfl
theorem vbytes_5 {n : Int} {s : ByteArray} {names : List ByteArray} {ids : List Int} {len : Nat} {parts : Nat → Vt} : (Vt.mk 5 n s names ids len parts).bytes = [5] ++ (enc names.length ++ (List.range names.length).flatMap (fun i => wB (nth names i) ++ (parts i).bytes)) := by
  conv => lhs; unfold Vt.bytes
  rw [if_neg (by decide), if_neg (by decide), if_neg (by decide), if_neg (by decide), if_pos rfl]
  rfl
theorem vbytes_6 {n : Int} {s : ByteArray} {names : List ByteArray} {ids : List Int} {len : Nat} {parts : Nat → Vt} : (Vt.mk 6 n s names ids len parts).bytes = [6] ++ (enc ids.length ++ (List.range ids.length).flatMap (fun i => iB ids i ++ (parts i).bytes)) := by
  conv => lhs; unfold Vt.bytes
  rw [if_neg (by decide), if_neg (by decide), if_neg (by decide), if_neg (by decide), if_neg (by decide), if_pos rfl]
  rfl
theorem Vt.bytes_len : ∀ (v : Vt) (d : Nat), v.rightAt d = true → v.inn → v.bytes.length ≤ vbnd (6 - d) := by
  intro v
  induction v with
  | nul => intro d h _; simp [Vt.bytes]
  | mk k n s names ids len parts ih =>
    intro d h hin
    obtain ⟨hn, hi, hp2⟩ := hin
    rw [Vt.rightAt_mk, Bool.and_eq_true, Bool.and_eq_true, List.all_eq_true] at h
    obtain ⟨⟨h5, hh⟩, hp⟩ := h
    have h5 := of_decide_eq_true h5
    have e1 : 6 - d = (5 - d) + 1 := by omega
    have e2 : 6 - (d + 1) = 5 - d := by omega
    rw [e1, vbnd]
    have hpp : ∀ i, i < len → (parts i).bytes.length ≤ vbnd (5 - d) := fun i hi => by
      have := ih i (d + 1) (hp i (List.mem_range.2 hi)) (hp2 i hi)
      rwa [e2] at this
    rcases headV_cases hh with ⟨rfl, _⟩ | ⟨rfl, _⟩ | ⟨rfl, _, hs, _⟩ | ⟨rfl, _, hs, _⟩ | ⟨rfl, _, _, _, h8, rfl, hr⟩ | ⟨rfl, _, _, _, h12, rfl, hr⟩
    · rw [vbytes_1]
      simp only [List.length_cons, List.length_nil]
      omega
    · rw [vbytes_2, List.length_append]
      have := wf_i64_le hn
      have h1 := enc_length_le (n := zig n) (zig_lt this.1 this.2)
      simp only [List.length_cons, List.length_nil]
      omega
    · rw [vbytes_3, List.length_append]
      have := wB_len hs
      simp only [List.length_cons, List.length_nil]
      omega
    · rw [vbytes_4, List.length_append]
      have := wB_len (s := s) (by have := nameB_sz hs; omega)
      simp only [List.length_cons, List.length_nil]
      omega
    · rw [vbytes_5]
      have h1 := enc_length_le (n := names.length) (by omega)
      have h2 := flat_blen (f := fun i => wB (nth names i) ++ (parts i).bytes) (b := 74 + vbnd (5 - d)) (n := names.length) (fun i hi => by
        rw [List.length_append]
        have h3 := wB_len (s := nth names i) (by have := nameB_sz (riseB_name hr hi); omega)
        have h4 := hpp i hi
        omega)
      have h4 : names.length * (74 + vbnd (5 - d)) ≤ 8 * (74 + vbnd (5 - d)) := Nat.mul_le_mul_right _ h8
      simp only [List.length_cons, List.length_append, List.length_nil]
      omega
    · rw [vbytes_6]
      have h1 := enc_length_le (n := ids.length) (by omega)
      have h2 := flat_blen (f := fun i => iB ids i ++ (parts i).bytes) (b := 10 + vbnd (5 - d)) (n := ids.length) (fun i hi' => by
        rw [List.length_append]
        have h3 := iB_len hi hi'
        have h4 := hpp i hi'
        omega)
      have h4 : ids.length * (10 + vbnd (5 - d)) ≤ 12 * (10 + vbnd (5 - d)) := Nat.mul_le_mul_right _ h12
      simp only [List.length_cons, List.length_append, List.length_nil]
      omega
end

section
set_option maxRecDepth 100000
set_option linter.unusedSimpArgs false
set_option linter.unusedVariables false
open Go.RowKit

/-- A writer of the call's own. -/
structure WP (W w : World) (a : Addr) (v : Value) (k : List UInt8) : Prop where
  wr : Wr w a v k
  be : Below W.heap.size W w
  own : ∀ j, v.ownBlock = some j → W.heap.size ≤ j
theorem WP.wrote {W w w' : World} {a : Addr} {v v' : Value} {k l : List UInt8} (h : WP W w a v k) (ha : W.heap.size ≤ a.block) (hw : Wrote w w' a v v' l) : WP W w' a v' l :=
  have h2 := below_wrote hw h.be ha h.own
  ⟨hw.wr, h2.1, h2.2⟩
theorem WP.later {W w w' : World} {a : Addr} {v : Value} {k : List UInt8} (h : WP W w a v k) (hb : Below w.heap.size w w') : WP W w' a v k :=
  ⟨h.wr.below hb, h.be.trans (hb.mono h.be.size), h.own⟩
theorem wrote_from {w w' : World} {a : Addr} {v v' : Value} {l : List UInt8} {o : Obj} (h : Wrote (w.alloc o) w' a v v' l) : Wrote w w' a v v' l :=
  ⟨h.wr, (Only.of_below (below_new w o) _).trans h.only fun _ _ h => h, h.near.imp id fun ⟨g, h1, h2⟩ => ⟨g, h1, by simp at h2; omega⟩⟩

set_option maxHeartbeats 1600000 in
theorem fwrite_any (W : World) (a : Addr) (sA pA : Option Addr) (n cA cB : Nat) (words : List ByteArray) (css : Nat → List Value) (parts : Nat → Vt) (B : Nat) (w : World) (v : Value) (k0 : List UInt8)
    (hs : Strs W sA n words) (hss : ∀ i, i < n → (nth words i).size ≤ 64) (hn8 : n ≤ 8) (hp : Parts W 6 pA n css)
    (HW : ∀ i, i < n → ∀ (w' : World) (v' : Value) (k : List UInt8), WP W w' a v' k → k.length + B + 100 ≤ 140737488355328 → Calls Tryz.prog 87 #[.pointer (some a), .agg (css i).toArray] w' fun e w'' => e = .returned (.tuple #[]) ∧ ∃ v'', Wrote w' w'' a v' v'' (k ++ (parts i).bytes))
    (HL : ∀ i, i < n → (parts i).bytes.length ≤ B) (ha : W.heap.size ≤ a.block) (hw : WP W w a v k0) (hlen : k0.length + 10 + 8 * (74 + B) + 100 ≤ 140737488355328) :
    Calls Tryz.prog 126 #[.pointer (some a), .slice sA n cA, .slice pA n cB, .func (.func 87) #[] #[]] w fun e w' => e = .returned (.tuple #[]) ∧ ∃ v', Wrote w w' a v v' (k0 ++ (enc n ++ (List.range n).flatMap fun i => wB (nth words i) ++ (parts i).bytes)) := by
  have HS := Lib.hid hs
  have HSS := Lib.hid hss
  have HP := Lib.hid hp
  have HWW := Lib.hid HW
  have HLL := Lib.hid HL
  have HA := Lib.hid ha
  have HW0 := Lib.hid hw
  have hen := enc_length_le (n := n) (by omega)
  have hn8i : (n : Int) ≤ 8 := by omega
  clear hs hss hp HW HL ha hw
  go_enter Tryz.func126, Tryz.ntmps126
  go_wp2_with fail
  refine (number_any a v k0 n w HW0.out.wr (by omega) (by omega)).mono ?_
  rintro e W1 ⟨rfl, v1, hw1⟩
  have HX1 := Lib.hid hw1
  clear hw1
  go_wp2_with fail
  go_loopw [8, 9, 17] (fun _ _ i wr => ∃ (j : Nat) (v' : Value), j ≤ n ∧ i = .int .i64 (j : Int) ∧ Wrote w wr a v v' (k0 ++ enc n ++ (List.range j).flatMap fun i => wB (nth words i) ++ (parts i).bytes)) (fun _ _ i _ => n - (intOf i).toNat)
  case atStart => exact ⟨0, v1, Nat.zero_le _, rfl, by simpa using HX1.out⟩
  case round =>
    obtain ⟨j, v2, hjn, rfl, hwr⟩ := hrel
    have hwp := HW0.out.wrote HA.out hwr
    have bj0 : (0 : Int) ≤ (j : Int) := by omega
    by_cases hj : j < n
    · have hji : (j : Int) < (n : Int) := by omega
      obtain ⟨ad, rfl, hc0⟩ := Strs.at_ (HS.out.belowAll hwp.be) hj
      have hfl := flat_blen (f := fun i => wB (nth words i) ++ (parts i).bytes) (b := 74 + B) (n := j) (fun i hi => by
        rw [List.length_append]
        have h3 := wB_len (HSS.out i (by omega))
        have h4 := HLL.out i (by omega)
        omega)
      have hj8 : j * (74 + B) ≤ 7 * (74 + B) := Nat.mul_le_mul_right _ (by omega)
      have hsz := HSS.out j hj
      have HMO := Lib.hid (flat_bmore (fun i => wB (nth words i) ++ (parts i).bytes) j)
      have hkl : (k0 ++ enc n ++ (List.range j).flatMap fun i => wB (nth words i) ++ (parts i).bytes).length + B + 74 + 100 ≤ 140737488355328 := by
        simp only [List.length_append] at hfl ⊢
        omega
      generalize hkj : (k0 ++ enc n ++ (List.range j).flatMap fun i => wB (nth words i) ++ (parts i).bytes) = kj at *
      have HKJ := Lib.hid hkj
      have HWP := Lib.hid hwp
      have HWR := Lib.hid hwr
      have hwl := wB_len hsz
      obtain ⟨x, hx⟩ : ∃ x, nth words j = x := ⟨_, rfl⟩
      have HX := Lib.hid hx
      rw [hx] at hc0 hsz hwl
      clear hfl hj8 hwp hwr hkj hx
      go_wp2_with fail
      refine (puttext_any a v2 kj x wr HWP.out.wr (by omega)).mono ?_
      rintro e W2 ⟨rfl, v3, hw3⟩
      have hwp3 := HWP.out.wrote HA.out hw3
      have HW3 := Lib.hid (HWR.out.trans hw3)
      obtain ⟨pd, rfl, hpb, hcell⟩ := (HP.out.below hwp3.be) (by omega)
      obtain ⟨hl3, hcc⟩ := hcell j hj
      have HCC := Lib.hid hcc
      have HL3 := Lib.hid (v_len hl3)
      have HCALL := Lib.hid (HWW.out j hj W2 v3 (kj ++ (enc x.size ++ x.data.toList)) hwp3 (by rw [List.length_append]; unfold wB at hwl; omega))
      clear hw3 hwp3 hcell hcc hl3 hpb
      go_wp2_with (refine wpList_load_at rfl 28 (.tmp 29) rfl (pd.add (j * 6)) rfl (css j) _ (fun q u hu => by rw [add_add]; exact HCC.out q u hu) Tryz.underlying28 rfl HL3.out ?_)
      refine HCALL.out.mono ?_
      rintro e W3 ⟨rfl, v4, hwp4⟩
      have HW4 := Lib.hid (HW3.out.trans hwp4)
      clear hwp4
      go_wp2_with fail
      go_roundw
      case rel =>
        refine ⟨j + 1, v4, by omega, by go_num, ?_⟩
        rw [HMO.out, HX.out, ← List.append_assoc, HKJ.out]
        have h := HW4.out
        unfold wB
        rw [← List.append_assoc]
        exact h
      case measure => simp [intOf] <;> omega
    · obtain rfl : j = n := by omega
      have HWP := Lib.hid hwr
      clear hwp hwr
      go_wp2_with fail
      go_end0
      exact ⟨rfl, v2, by have := HWP.out; rwa [List.append_assoc] at this⟩
end

section
set_option maxRecDepth 100000
set_option linter.unusedSimpArgs false
set_option linter.unusedVariables false
open Go.RowKit

theorem readto_then {g : Nat} {A : Option Addr} {c : Nat} {F : Nat → Prop} {k : List UInt8} {p : Nat} {d : Int} {w w' w'' : World} (h : Readto w w' g A c F k p d) (hb : Below w'.heap.size w' w'') : Readto w w'' g A c F k p d :=
  ⟨h.rr.below hb, h.only.trans (Only.of_below hb _) fun _ _ h => h⟩
theorem fwc_any (q : Addr) (a : Option Addr) (n cap : Nat) (l : List ByteArray) (s : ByteArray) (hs : s.size ≤ maxLen) (hn : n ≤ 9223372036854775807) (hf : folB l s = true) (w : World) (hq : w.cell? q = some (.slice a n cap)) (h : Strs w a n l) :
    Calls Tryz.prog 173 #[.string s, .pointer (some q)] w fun e w' => e = .returned (.bool true) ∧ Below w.heap.size w w' := by
  have hr := follows_any a n cap l s hs hn w h
  rw [hf] at hr
  have HR := Lib.hid hr
  clear hr h hs hn hf
  go_enter Tryz.func173, Tryz.ntmps173
  go_wp2_with fail
  refine HR.out.mono ?_
  rintro e W1 ⟨rfl, hb⟩
  have HB := Lib.hid hb
  clear hb
  go_wp2_with fail
  go_ret
  exact ⟨rfl, by rw [HB.out]; exact Below.refl _ _⟩
section
variable (g : Nat) (A : Option Addr) (c : Nat) (F : Nat → Prop) (k : List UInt8) (p : Nat)
theorem fasked_any (q : Addr) (a : Option Addr) (n cap : Nat) (l : List ByteArray) (s : ByteArray) (R : List UInt8) (w : World) (h : Rr w g A c F k p 0) (hk : k.drop p = enc s.size ++ (s.data.toList ++ R)) (hs : s.size ≤ 64)
    (hn : n ≤ 9223372036854775807) (hf : folB l s = true) (hq : w.cell? q = some (.slice a n cap)) (hqg : q.block ≠ g) (hl : Rd w (fun j => j ≠ g) a n (l.map .string)) :
    Calls Tryz.prog 167 #[.pointer (some ⟨g, 0, none⟩), .func (.func 168) #[] #[], .func (.func 173) #[] #[.pointer (some q)]] w fun e w' => e = .returned (.string s) ∧ Readto w w' g A c F k (p + ((enc s.size).length + s.size)) 0 := by
  have HR := Lib.hid (sread_any g A c F k p s R w h hk hs)
  have HA := Lib.hid (show ∀ w1 : World, Only (fun j => j = g) w w1 → Calls Tryz.prog 173 #[.string s, .pointer (some q)] w1 fun e w' => e = .returned (.bool true) ∧ Below w1.heap.size w1 w' from
    fun w1 ho => fwc_any q a n cap l s (by unfold maxLen; omega) hn hf w1 ((ho.cell hqg (lt_of_cell hq)).trans hq) ((hl.only ho fun _ h => h).mono fun _ _ _ => trivial))
  clear h hk hf hq hl
  go_enter Tryz.func167, Tryz.ntmps167
  go_wp2_with fail
  refine HR.out.mono ?_
  rintro e W1 ⟨rfl, hto⟩
  have HT := Lib.hid hto
  clear hto
  go_wp2_with fail
  refine (HA.out _ HT.out.only).mono ?_
  rintro e W2 ⟨rfl, hb⟩
  have HB := Lib.hid hb
  clear hb
  go_wp2_with fail
  go_ret
  exact ⟨rfl, readto_then HT.out HB.out⟩
theorem fword_any (q : Addr) (a : Option Addr) (n cap : Nat) (l : List ByteArray) (s : ByteArray) (R : List UInt8) (w : World) (h : Rr w g A c F k p 0) (hk : k.drop p = enc s.size ++ (s.data.toList ++ R)) (hs : s.size ≤ 64)
    (hn : n ≤ 9223372036854775807) (hf : folB l s = true) (hq : w.cell? q = some (.slice a n cap)) (hqg : q.block ≠ g) (hl : Rd w (fun j => j ≠ g) a n (l.map .string)) :
    Calls Tryz.prog 130 #[.pointer (some ⟨g, 0, none⟩), .func (.func 173) #[] #[.pointer (some q)]] w fun e w' => e = .returned (.string s) ∧ Readto w w' g A c F k (p + ((enc s.size).length + s.size)) 0 := by
  have HA := Lib.hid (fasked_any g A c F k p q a n cap l s R w h hk hs hn hf hq hqg hl)
  clear h hk hf hq hl
  go_enter Tryz.func130, Tryz.ntmps130
  go_wp2_with fail
  refine HA.out.mono ?_
  rintro e W1 ⟨rfl, hto⟩
  have HT := Lib.hid hto
  clear hto
  go_wp2_with fail
  go_ret
  exact ⟨rfl, HT.out⟩
end
end

section
open Go.RowKit

section
variable {P : Program} {ops : Array Oper} {Q : Exit → Act → World → Prop} {md : Region.Mode} {S : World → Prop} {T : List Nat}

/-- None of these has come. -/
def early (T : List Nat) (l : Array Bool) : Bool := T.all fun t => !l.getD t false
/-- What has come has come behind what it waits for. -/
def closedB (md : Region.Mode) (ops : Array Oper) (l : Array Bool) : Bool :=
  (List.range ops.size).all fun j => !l.getD j false || match ops[j]? with
    | some o => o.after.all fun e => !Region.binds md e || l.getD e.on false
    | none => true
/-- Number t comes behind number i. -/
def behind (md : Region.Mode) (ops : Array Oper) (i : Nat) : Nat → Nat → Bool
  | 0, _ => false
  | n + 1, t => match ops[t]? with
    | some o => o.after.any fun e => Region.binds md e && (e.on == i || behind md ops i n e.on)
    | none => false
def Closed (md : Region.Mode) (ops : Array Oper) (l : Array Bool) : Prop :=
  ∀ j o, ops[j]? = some o → l.getD j false = true → ∀ e ∈ o.after, Region.binds md e = true → l.getD e.on false = true
theorem closed_of {l : Array Bool} (h : closedB md ops l = true) : Closed md ops l := fun j o ho hl e he hb => by
  unfold closedB at h
  have h1 := List.all_eq_true.1 h j (List.mem_range.2 (Array.getElem?_eq_some_iff.1 ho).1)
  rw [hl, ho] at h1
  simp only [Bool.not_true, Bool.false_or] at h1
  have h2 := Array.all_eq_true'.1 h1 e he
  rw [hb] at h2
  simpa using h2
theorem Closed.behind_ {l : Array Bool} (h : Closed md ops l) {i : Nat} : ∀ {n t : Nat}, behind md ops i n t = true → l.getD t false = true → l.getD i false = true := by
  intro n
  induction n with
  | zero => intro t hb; cases hb
  | succ n ih =>
    intro t hb ht
    unfold behind at hb
    split at hb
    · rename_i o ho
      obtain ⟨e, he, h1⟩ := Array.any_eq_true'.1 hb
      rw [Bool.and_eq_true, Bool.or_eq_true] at h1
      have h2 := h t o ho ht e he h1.1
      rcases h1.2 with h3 | h3
      · rw [beq_iff_eq] at h3; rwa [h3] at h2
      · exact ih h3 h2
    · cases hb
theorem getF_set_ne {l : Array Bool} {i k : Nat} (h : i ≠ k) : (l.setIfInBounds i true).getD k false = l.getD k false := by
  rw [Array.getD_eq_getD_getElem?, Array.getD_eq_getD_getElem?, Array.getElem?_setIfInBounds, if_neg h]
theorem getF_mono {l : Array Bool} {i k : Nat} (h : l.getD k false = true) : (l.setIfInBounds i true).getD k false = true := by
  by_cases e : i = k
  · subst e
    rw [Array.getD_eq_getD_getElem?] at *
    rw [Array.getElem?_setIfInBounds, if_pos rfl]
    by_cases h2 : i < l.size
    · rw [if_pos h2]; rfl
    · rw [Array.getElem?_eq_none (by omega)] at h; cases h
  · rw [getF_set_ne e]; exact h
theorem Closed.set {l : Array Bool} (h : Closed md ops l) {j : Nat} (hj : j ∈ Region.ready md ops l) : Closed md ops (l.setIfInBounds j true) := fun k o ho hl e he hb => by
  obtain ⟨_, oj, hoj, hall⟩ := mem_ready.1 hj
  by_cases hk : j = k
  · subst hk
    rw [hoj] at ho; cases ho
    exact getF_mono (hall e he hb)
  · rw [getF_set_ne hk] at hl
    exact getF_mono (h k o ho hl e he hb)

/-- Whatever order is picked from here on, and S holds behind each operation as long as none of T has come. -/
def wpAnyT (P : Program) (md : Region.Mode) (ops : Array Oper) (Q : Exit → Act → World → Prop) (S : World → Prop) (T : List Nat) : Nat → Array Bool → Act → World → Prop
  | 0, listed, a, w => Region.ready md ops listed = [] ∧ Q .normal a w
  | fuel + 1, listed, a, w =>
    (Region.ready md ops listed = [] → Q .normal a w) ∧
    ∀ i ∈ Region.ready md ops listed, wpOp P ops Q i (fun a' w' => (early T (listed.setIfInBounds i true) = true → S w') ∧ wpAnyT P md ops Q S T fuel (listed.setIfInBounds i true) a' w') a w
theorem wpAny_of_T : ∀ (fuel : Nat) (listed : Array Bool) (a : Act) (w : World), wpAnyT P md ops Q S T fuel listed a w → wpAny P md ops Q fuel listed a w
  | 0, _, _, _, h => h
  | fuel + 1, _, _, _, h => ⟨h.1, fun i hi => wpOp_mono (fun a' w' h' => wpAny_of_T fuel _ a' w' h'.2) (h.2 i hi)⟩
theorem early_set {l : Array Bool} {i : Nat} (hi : T.contains i = false) : early T (l.setIfInBounds i true) = early T l := by
  unfold early
  rw [Bool.eq_iff_iff, List.all_eq_true, List.all_eq_true]
  have hne : ∀ t ∈ T, i ≠ t := fun t ht e => by
    subst e
    rw [List.contains_iff_mem.2 ht] at hi
    cases hi
  exact ⟨fun h t ht => by have := h t ht; rwa [getF_set_ne (hne t ht)] at this, fun h t ht => by rw [getF_set_ne (hne t ht)]; exact h t ht⟩
theorem early_of {l : Array Bool} (h : Closed md ops l) {i n : Nat} (hw : (T.all fun t => behind md ops i n t) = true) (hi : l.getD i false = false) : early T l = true := by
  unfold early
  rw [List.all_eq_true] at *
  intro t ht
  rw [Bool.not_eq_true', ← Bool.not_eq_true]
  intro hl
  rw [h.behind_ (hw t ht) hl] at hi
  cases hi

theorem wpAnyT_first {i n : Nat} {oi : Oper} {v : Value} (hi : ops[i]? = some oi) (hsel : ∀ (j : Nat) (o : Oper) cs b, ops[j]? = some o → o.op ≠ .select cs b)
    (hQ : ∀ c a w, Q (.panic c) (a.put oi.dst v) w → Q (.panic c) a w) (hT : T.contains i = false) (hw : (T.all fun t => behind md ops i n t) = true) :
    ∀ (fuel : Nat) (listed : Array Bool) (a : Act) (w : World),
      (∀ j oj, ops[j]? = some oj → j ≠ i → listed.getD j true = false → (∀ e ∈ oj.after, Region.binds md e = true → e.on ≠ i) → oi.apart ops oj = true) →
      i ∈ Region.ready md ops listed → Closed md ops listed → YieldsIf P ops S oi v a → S w →
      wpAnyT P md ops Q S T fuel (listed.setIfInBounds i true) (a.put oi.dst v) w → wpAnyT P md ops Q S T (fuel + 1) listed a w := by
  intro fuel
  induction fuel with
  | zero =>
    intro listed a w _ hr _ hy hS H
    refine ⟨fun h => (by rw [h] at hr; cases hr), fun j hj => ?_⟩
    by_cases hji : j = i
    · subst hji; exact hy.wpOp hi hS ⟨fun _ => hS, H⟩
    · have := ready_mono hj hji
      rw [H.1] at this
      cases this
  | succ fuel ih =>
    intro listed a w hfree hr hcl hy hS H
    refine ⟨fun h => (by rw [h] at hr; cases hr), fun j hj => ?_⟩
    by_cases hji : j = i
    · subst hji; exact hy.wpOp hi hS ⟨fun _ => hS, H⟩
    · have h1 := H.2 j (ready_mono hj hji)
      obtain ⟨hjun, oj, hoj, hall⟩ := mem_ready.1 hj
      have hiun : listed.getD i false = false := by
        have h0 := (mem_ready.1 hr).1
        rw [Array.getD_eq_getD_getElem?] at *
        cases hx : listed[i]? with
        | none => rfl
        | some b => rw [hx] at h0; exact h0
      have hnot : ∀ e ∈ oj.after, Region.binds md e = true → e.on ≠ i := fun e he hb heq => by
        have h1 := hall e he hb
        rw [heq, hiun] at h1
        cases h1
      have h2 := wpOp_putIf hoj (hfree j oj hoj hji hjun hnot) (fun cs b => hsel i oi cs b hi) (fun cs b => hsel j oj cs b hoj) hQ hy h1
      have hfree' : ∀ k ok, ops[k]? = some ok → k ≠ i → (listed.setIfInBounds j true).getD k true = false →
          (∀ e ∈ ok.after, Region.binds md e = true → e.on ≠ i) → oi.apart ops ok = true := fun k ok hk hki hun hno => by
        refine hfree k ok hk hki ?_ hno
        by_cases hjk : j = k
        · subst hjk; exact hjun
        · rw [getD_set_ne true hjk] at hun; exact hun
      have hcl' := hcl.set hj
      have hea : early T (listed.setIfInBounds j true) = true := early_of hcl' hw (by rw [getF_set_ne hji]; exact hiun)
      refine wpOp_mono (fun a' w' h3 => ?_) h2
      have hS' : S w' := h3.2.1 (by rw [Array.setIfInBounds_comm _ _ (Ne.symm hji), early_set hT]; exact hea)
      refine ⟨fun _ => hS', ih (listed.setIfInBounds j true) a' w' hfree' (ready_mono hr (Ne.symm hji)) hcl' h3.1 hS' ?_⟩
      rw [Array.setIfInBounds_comm _ _ hji]
      exact h3.2.2
/-- An operation that only reads: taken first. -/
def takeB (md : Region.Mode) (ops : Array Oper) (T : List Nat) (listed : Array Bool) (i : Nat) : Bool :=
  Region.noSelect ops && Region.free md ops listed i && (Region.ready md ops listed).contains i && closedB md ops listed && !T.contains i && (T.all fun t => behind md ops i ops.size t)
theorem takeT (i : Nat) (d : Option Tmp) {oi : Oper} {v : Value} {fuel : Nat} {listed : Array Bool} {a : Act} {w : World} (hi : ops[i]? = some oi) (hd : oi.dst = d) (hb : takeB md ops T listed i = true) (hwa : Region.wanted oi (yielded ops a.tmps) = true)
    (hQ : ∀ c a w, Q (.panic c) (a.put oi.dst v) w → Q (.panic c) a w) (hy : ∀ w, S w → (execOp a.eval oi).run P w = .ok (.value v) w) (hS : S w)
    (h : wpAnyT P md ops Q S T fuel (listed.setIfInBounds i true) (a.put d v) w) : wpAnyT P md ops Q S T (fuel + 1) listed a w := by
  unfold takeB at hb
  simp only [Bool.and_eq_true, Bool.not_eq_true'] at hb
  obtain ⟨⟨⟨⟨⟨h1, h2⟩, h3⟩, h4⟩, h5⟩, h6⟩ := hb
  subst hd
  exact wpAnyT_first hi (Region.noSelect_spec h1) hQ h5 h6 fuel listed a w (Region.free_spec hi h2) (by simpa using h3) (closed_of h4) (.inl ⟨hwa, hy⟩) hS h
theorem skipT (i : Nat) (d : Option Tmp) {oi : Oper} {fuel : Nat} {listed : Array Bool} {a : Act} {w : World} (hi : ops[i]? = some oi) (hd : oi.dst = d) (hb : takeB md ops T listed i = true) (hwa : Region.wanted oi (yielded ops a.tmps) = false)
    (hQ : ∀ c a w, Q (.panic c) (a.put oi.dst undef) w → Q (.panic c) a w) (hS : S w)
    (h : wpAnyT P md ops Q S T fuel (listed.setIfInBounds i true) (a.put d undef) w) : wpAnyT P md ops Q S T (fuel + 1) listed a w := by
  unfold takeB at hb
  simp only [Bool.and_eq_true, Bool.not_eq_true'] at hb
  obtain ⟨⟨⟨⟨⟨h1, h2⟩, h3⟩, h4⟩, h5⟩, h6⟩ := hb
  subst hd
  exact wpAnyT_first hi (Region.noSelect_spec h1) hQ h5 h6 fuel listed a w (Region.free_spec hi h2) (by simpa using h3) (closed_of h4) (.inr ⟨hwa, rfl⟩) hS h
/-- The one operation that may come up now. -/
theorem oneT (i : Nat) {o : Oper} {fuel : Nat} {listed : Array Bool} {a : Act} {w : World} (hr : (Region.ready md ops listed == [i]) = true) (ho : ops[i]? = some o) (hwa : Region.wanted o (yielded ops a.tmps) = true)
    (h : ∀ K : Act → World → Prop, Shut (∀ a' w', (early T (listed.setIfInBounds i true) = true → S w') → wpAnyT P md ops Q S T fuel (listed.setIfInBounds i true) a' w' → K a' w') → o.wp P a w K Q) : wpAnyT P md ops Q S T (fuel + 1) listed a w := by
  rw [beq_iff_eq] at hr
  refine ⟨fun h0 => (by rw [hr] at h0; cases h0), fun j hj => ?_⟩
  rw [hr] at hj
  obtain rfl : j = i := by simpa using hj
  unfold wpOp
  simp only [ho, hwa, if_true]
  exact .inl (h _ (fun a' w' hS hW => ⟨hS, hW⟩))
theorem doneT {listed : Array Bool} {a : Act} {w : World} (hr : (Region.ready md ops listed == []) = true) (h : Q .normal a w) : ∀ fuel, wpAnyT P md ops Q S T fuel listed a w
  | 0 => ⟨beq_iff_eq.1 hr, h⟩
  | _ + 1 => ⟨fun _ => h, by rw [beq_iff_eq.1 hr]; simp⟩
theorem startT (S : World → Prop) (T : List Nat) {id : Nat} {a : Act} {w : World} (hm : P.follows .mixedOrders = true)
    (h : wpAnyT P .any ops Q S T ops.size (Array.replicate ops.size false) a w.drew) : (Code.region id ops true).wp P Q a w :=
  wp_region_any hm (wpAny_of_T _ _ _ _ h)
end

/-! What only reads. -/
def Reads (P : Program) (S : World → Prop) (o : Oper) (v : Value) (a : Act) : Prop := ∀ w, S w → (execOp a.eval o).run P w = .ok (.value v) w
section
variable {P : Program} {S : World → Prop} {o : Oper} {a : Act}
theorem Reads.move {x : Operand} {v : Value} (ho : o.op = .move x) (hx : a.eval x = v) : Reads P S o v a := fun w _ => by unfold execOp; simp only [ho, hx, Sem.run_pure]
theorem Reads.fieldAt (T : TypeId) (x : Operand) (n : Nat) (ho : o.op = .fieldAddr T x n) (u r : Value) (hx : a.eval x = u) (hi : ∀ w, (Instr.fieldAt T u n).run P w = .ok r w) : Reads P S o r a := fun w _ => by
  unfold execOp
  simp only [ho, Sem.run_bind, Sem.run_pure, Result.andThen_ok, hx, hi]
theorem Reads.indexAt (T : TypeId) (x y : Operand) (ho : o.op = .indexAddr T x y) (u v r : Value) (hx : a.eval x = u) (hy : a.eval y = v) (hi : ∀ w, (Instr.indexAt T u v).run P w = .ok r w) : Reads P S o r a := fun w _ => by
  unfold execOp
  simp only [ho, Sem.run_bind, Sem.run_pure, Result.andThen_ok, hx, hy, hi]
theorem Reads.load (T : TypeId) (x : Operand) (ho : o.op = .load T x) (u r : Value) (hx : a.eval x = u) (hi : ∀ w, S w → (Instr.loadAt T u).run P w = .ok r w) : Reads P S o r a := fun w hS => by
  unfold execOp
  simp only [ho, Sem.run_bind, Sem.run_pure, Result.andThen_ok, hx, hi w hS]
theorem Reads.binop (op : BinOp) (T T2 : TypeId) (x y : Operand) (ho : o.op = .binOp op T x y T2) (u v r : Value) (hx : a.eval x = u) (hy : a.eval y = v)
    (hg : ∀ w, (eqGuard op T x y u v).run P w = .ok () w) (hb : ∀ w, (binOp op T u v).run P w = .ok r w) : Reads P S o r a := fun w _ => by
  unfold execOp
  simp only [ho, Sem.run_bind, Sem.run_pure, Result.andThen_ok, hx, hy, hg, hb]
theorem Reads.unop (op : UnOp) (T : TypeId) (x : Operand) (ho : o.op = .unOp op T x) (u r : Value) (hx : a.eval x = u) (hi : ∀ w, (Op.unary op u).run P w = .ok r w) : Reads P S o r a := fun w _ => by
  unfold execOp
  simp only [ho, Sem.run_bind, Sem.run_pure, Result.andThen_ok, hx, hi]
theorem Reads.pick (c x y : Operand) (ho : o.op = .pick c x y) (b : Bool) (v : Value) (hc : a.eval c = .bool b) (hv : (if b then a.eval x else a.eval y) = v) : Reads P S o v a := fun w _ => by
  unfold execOp
  simp only [ho, Sem.run_bind, Sem.run_pure, Result.andThen_ok, hc, asBool]
  cases b <;> simp_all
end

/-! What makes memory. -/
section
variable {P : Program} {o : Oper} {a : Act} {w : World} {K : Act → World → Prop} {Q : Exit → Act → World → Prop}
theorem wp_run {v : Value} {w' : World} (hr : (execOp a.eval o).run P w = .ok (.value v) w') (h : K (a.put o.dst v) w') : o.wp P a w K Q := by
  unfold Oper.wp
  rw [hr]
  exact h
theorem wp_unit {w' : World} (hr : (execOp a.eval o).run P w = .ok .skip w') (h : K (a.put o.dst undef) w') : o.wp P a w K Q := by
  unfold Oper.wp
  rw [hr]
  exact h
/-- A slice of one element, made. -/
theorem wp_slice1 (t e : TypeId) (x : Operand) (ho : o.op = .buildSlice t 1 #[(0, x)]) (u : Value) (hx : a.eval x = u) (cs : Array Value)
    (hr : ∀ w : World, (Instr.buildSlice t 1 #[(0, u)]).run P w = .ok (.slice (some ⟨w.heap.size, 0, none⟩) 1 1) (w.alloc (.cells cs e))) (h : K (a.put o.dst (.slice (some ⟨w.heap.size, 0, none⟩) 1 1)) (w.alloc (.cells cs e))) : o.wp P a w K Q := by
  refine wp_run ?_ h
  unfold execOp
  simp only [ho, Sem.run_bind, List.map_toArray, List.map_cons, List.map_nil, hx, hr, Result.andThen_ok, Sem.run_pure]
theorem wp_append_at (s x : Operand) (t : TypeId) (ho : o.op = .call { callee := .builtin .append, args := #[s, x], argTypes := #[t, t] })
    (base : Nat) (e : TypeId) (i : TypeInfo) (z : Value) (size bytes : Nat) (ht : P.underlying t = some (.slice e)) (hi : P.info? e = some i) (hz : i.zero = some z)
    (hsize : i.size = size) (hby : i.bytes = bytes) (hzs : z.cells.size = size) (hsz : 0 < size)
    (v : Value) (n : Nat) (xs : List Value) (hs : a.eval s = v) (hown : w.ownsRow base e size v n xs)
    (ad : Addr) (m c : Nat) (news : List Value) (hx : a.eval x = .slice (some ad) m c) (hl : news.length = m * size) (hnews : ∀ j u, news[j]? = some u → w.cell? (ad.add j) = some u) (h1 : ∀ u ∈ news, u.oneCell' = true)
    (h63 : n + m ≤ maxLen) (hbytes : (n + m) * bytes ≤ 140737488355328) (hbase : base ≤ w.heap.size)
    (h : ∀ v' w', w'.ownsRow base e size v' (n + m) (xs ++ news) → w.grownBy w' v.ownBlock → (v'.ownBlock = v.ownBlock ∨ v'.ownBlock = some w.heap.size) → K (a.put o.dst v') w') : o.wp P a w K Q := by
  obtain ⟨v', w', hr, h2, h3, h4, h5⟩ := run_append_own_at (P := P) w base t o.type e i z size bytes ht hi hz hsize hby hzs hsz v n xs hown ad m c news hl hnews h1 h63 hbytes hbase
  refine wp_run ?_ (h v' w' h2 h3 h5)
  unfold execOp
  simp only [ho, resolve, invoke, builtin, Sem.run_bind, Sem.run_pure, Result.andThen_ok, List.map_toArray, List.map_cons, List.map_nil, hs, hx, hr]
/-- A call, met by its contract. -/
theorem wp_call_any {f : FuncId} {fn : Func} {xs : List Operand} {ts : Array TypeId} {args : List Value} {R : Ending → World → Prop} (ho : o.op = .call { callee := .value (.func f), args := xs.toArray, argTypes := ts })
    (hf : P.funcs[f]? = some fn) (hn : (fn.name == "runtime.NumGoroutine") = false) (hb : fn.body.isNone = false) (hargs : xs.map a.eval = args)
    (hc : Calls P f args.toArray w R) (hK : ∀ e w', R e w' → ∃ v, e = .returned v ∧ K (a.put o.dst v) w') : o.wp P a w K Q := by
  have hrun : (execOp a.eval o).run P w = .ok (.enter f args.toArray) w := by
    have hn' : ¬ fn.name = "runtime.NumGoroutine" := by simpa using hn
    have hb' : ¬ fn.body = none := fun e => by rw [e] at hb; cases hb
    unfold execOp
    simp [ho, resolve, Act.eval, Deferred.ofValue, invoke, callFunc, hf, hn', hb', ← hargs]
  unfold Oper.wp
  rw [hrun]
  refine Calls.mono hc fun e w' hR => ?_
  obtain ⟨v, rfl, h⟩ := hK e w' hR
  exact h
/-- A call of a function that is a value. -/
theorem wpList_call_fn {ops : Array Oper} {rest : List Oper} (hgd : o.guard = none) {x : Operand} {xs : List Operand} {ts : Array TypeId} (ho : o.op = .call { callee := .value x, args := xs.toArray, argTypes := ts }) {f : FuncId} {fn : Func} {cap : Array Value}
    (hx : a.eval x = .func (.func f) #[] cap) (hf : P.funcs[f]? = some fn) (hn : (fn.name == "runtime.NumGoroutine") = false) (hb : fn.body.isNone = false) {args : List Value} (hargs : xs.map a.eval = args) {R : Ending → World → Prop}
    (hc : Calls P f (args.toArray ++ cap) w R) (hK : ∀ e w', R e w' → ∃ v, e = .returned v ∧ wpList P ops Q rest (a.put o.dst v) w') : wpList P ops Q (o :: rest) a w := by
  refine wpList_plain hgd fun K hKK => ?_
  have hrun : (execOp a.eval o).run P w = .ok (.enter f (args.toArray ++ cap)) w := by
    have hn' : ¬ fn.name = "runtime.NumGoroutine" := by simpa using hn
    have hb' : ¬ fn.body = none := fun e => by rw [e] at hb; cases hb
    unfold execOp
    simp [ho, resolve, hx, Deferred.ofValue, invoke, callFunc, hf, hn', hb', ← hargs]
  unfold Oper.wp
  rw [hrun]
  refine Calls.mono hc fun e w' hR => ?_
  obtain ⟨v, rfl, h⟩ := hK e w' hR
  exact hKK _ _ h
/-- One cell, stored. -/
theorem wp_store_cell (t : TypeId) (x y : Operand) (ho : o.op = .store t x y) (p : Addr) (hx : a.eval x = .pointer (some p)) (v : Value) (hy : a.eval y = v) (hr : (Instr.storeAt t (.pointer (some p)) v).run P w = .ok () (w.setCell p v))
    (h : K (a.put o.dst undef) (w.setCell p v)) : o.wp P a w K Q := by
  unfold Oper.wp execOp
  simp only [ho, hx, hy, Sem.run_bind, hr, Result.andThen_ok, Sem.run_pure]
  exact h
end
end

section
set_option maxRecDepth 100000
set_option linter.unusedSimpArgs false
set_option linter.unusedVariables false
open Go.RowKit

theorem late_ok_ {b : Bool} {p : Prop} (h : (b == false) = true) : b = true → p := fun e => by rw [e] at h; cases h
theorem str_info_ : (Tryz.prog.info? 9).map (fun i => (i.zero, i.size, i.bytes)) = some (some (.string ByteArray.empty), 1, 16) := by kernel_rfl
theorem mk_str_ (x : ByteArray) (w : World) : (Instr.buildSlice 24 1 #[(0, .string x)]).run Tryz.prog w = .ok (.slice (some ⟨w.heap.size, 0, none⟩) 1 1) (w.alloc (.cells #[.string x] 9)) := by
  go_simp
theorem ld_strs_ {p : Addr} {v : Value} {w : World} (hc : w.cell? p = some v) {a : Option Addr} {n c : Nat} (hv : v = .slice a n c) : (Instr.loadAt 24 (.pointer (some p))).run Tryz.prog w = .ok v w := by
  subst hv
  go_simp
theorem st_strs_ {p : Addr} {old v : Value} {w : World} (hc : w.cell? p = some old) (hf : w.frozen? p = false) {a : Option Addr} {n c : Nat} (hv : v = .slice a n c) : (Instr.storeAt 24 (.pointer (some p)) v).run Tryz.prog w = .ok () (w.setCell p v) := by
  subst hv
  go_simp
theorem own_set_ {w : World} {B : Nat} {T : TypeId} {s : Nat} {v : Value} {n : Nat} {xs : List Value} (h : w.ownsRow B T s v n xs) {p : Addr} (hp : p.block < B) (u : Value) : (w.setCell p u).ownsRow B T s v n xs := by
  refine ⟨h.1, ?_⟩
  rcases h.2 with hn | ⟨g, cap, cur, rfl, hb, hg, rest⟩
  · exact .inl hn
  · exact .inr ⟨g, cap, cur, rfl, hb, (Below.heap_setCell _ _ _ _ (by omega)).trans hg, rest⟩
theorem Reads.makeFunc {P : Program} {S : World → Prop} {o : Oper} {a : Act} (f : FuncId) (x : Operand) (ho : o.op = .makeFunc (.func f) #[] #[x]) (u : Value) (hx : a.eval x = u) (hi : ∀ w, (Instr.makeFunc (.func f) #[] #[u]).run P w = .ok (.func (.func f) #[] #[u]) w) : Reads P S o (.func (.func f) #[] #[u]) a := fun w _ => by
  unfold execOp
  simp only [ho, hx, List.map_toArray, List.map_cons, List.map_nil, Sem.run_bind, hi, Sem.run_pure, Result.andThen_ok]
theorem mk_func_ (f : FuncId) (p : Option Addr) (w : World) : (Instr.makeFunc (.func f) #[] #[.pointer p]).run Tryz.prog w = .ok (.func (.func f) #[] #[.pointer p]) w := by
  go_simp
theorem strs_more (l : List ByteArray) {j : Nat} (hj : j < l.length) : (l.take (j + 1)).map Value.string = (l.take j).map Value.string ++ [Value.string (nth l j)] := by
  rw [List.take_add_one, List.map_append]
  unfold nth
  simp [hj]
theorem readto_from {g : Nat} {A : Option Addr} {c : Nat} {F : Nat → Prop} {k : List UInt8} {p : Nat} {d : Int} {w w' : World} {o : Obj} (h : Readto (w.alloc o) w' g A c F k p d) : Readto w w' g A c F k p d :=
  ⟨h.rr, (Only.of_below (below_new w o) _).trans h.only fun _ _ h => h⟩
end

end Go.Proofs.YtmiadkhfjkaidaaGreatDoor
