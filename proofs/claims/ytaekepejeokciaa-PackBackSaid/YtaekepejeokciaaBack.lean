/- For any fields: the law PackBack returns true, and nothing that was there is changed. -/
import Derived.Test.YtaekepejeokciaaBackM
namespace Go.Proofs.Ytaekepejeokciaa
open Go.RowKit

structure BInv (B : Nat) (w wr : World) (l : List Fd) (j : Nat) (v : Value) : Prop where
  wri : Wr wr ⟨B, 0, none⟩ v (wout l j)
  below : Below B w wr
  lo : ∀ k, v.ownBlock = some k → B < k

theorem BInv.step {B : Nat} {w wr w2 : World} {l : List Fd} {j : Nat} {v v' : Value} {f : Fd} (h : BInv B w wr l j v) (hf : l[j]? = some f) (hB : B < wr.heap.size)
    (hw : Wrote wr w2 ⟨B, 0, none⟩ v v' (wout l j ++ fenc f)) : BInv B w w2 l (j + 1) v' := by
  refine ⟨by rw [wout_succ hf]; exact hw.wr, h.below.trans (hw.only.below (by omega) fun k hk => ?_), fun k hk => ?_⟩
  · rcases hk with hk | hk
    · exact Nat.le_of_eq hk.symm
    · exact Nat.le_of_lt (h.lo k hk)
  · rcases hw.rows k hk with h1 | h1
    · exact h.lo k h1
    · omega

theorem back_below {B g : Nat} {w wr w' : World} {o : Obj} (h : Below B w wr) (ho : Only (fun j => j = g) (wr.alloc o).drew w') (hg : B ≤ g) (hB : B ≤ wr.heap.size) : Below B w w' := by
  have hs := h.size
  refine ⟨ho.os.trans h.os, ho.tape.trans h.tape, ho.output.trans h.output, ?_, fun k hk => ?_⟩
  · have := ho.size; simp at this; omega
  · exact ((ho.block k (by simp; omega) (by omega)).trans (Below.heap_alloc wr o k (by omega))).trans (h.block k hk)
theorem back_rd {B g n : Nat} {wr w' : World} {o : Obj} {A : Option Addr} {xs : List Value} (h : Rd wr (fun j => j < B) A n xs) (ho : Only (fun j => j = g) (wr.alloc o).drew w') (hg : B ≤ g) : Rd w' (fun j => j < B) A n xs := by
  refine h.keep (by have := ho.size; simp at this; omega) fun k hk hkw => ?_
  exact (ho.block k (by simp; omega) (by omega)).trans (Below.heap_alloc wr o k hkw)

theorem box_at (w : World) (cs : Array Value) (t : TypeId) (i : Nat) : (w.alloc (.cells cs t)).drew.cell? ⟨w.heap.size, i, none⟩ = cs[i]? := by
  show (w.alloc (.cells cs t)).cell? _ = _
  simp

set_option maxRecDepth 100000 in
set_option maxHeartbeats 4000000 in
theorem packback_small (a : Option Addr) (n c : Nat) (l : List Fd) (w : World) (h : Fds w (fun j => j < w.heap.size) a n l) (hn : n ≤ 140737488351232) (ht : tot l ≤ 400) :
    Calls Try.prog 4 #[.slice a n c] w fun e w' => e = .returned (.bool true) ∧ Below w.heap.size w w' := by
  have hd : decide (400 < tot l) = false := by simp; omega
  have hln : l.length ≤ 400 := by unfold tot at ht; omega
  have hwl : ∀ j, (wout l j).length ≤ 4400 := fun j => by
    have h1 := wout_le (l := l) (fun f hf => by
      obtain ⟨i, hi⟩ := List.mem_iff_getElem?.1 hf
      obtain ⟨ad, A, c, _, hx⟩ := h.2 i f hi
      exact hx.n1) (fun f hf => by
      obtain ⟨i, hi⟩ := List.mem_iff_getElem?.1 hf
      obtain ⟨ad, A, c, _, hx⟩ := h.2 i f hi
      have := hx.cap; have := hx.top; omega) j
    have h2 := part_le l j
    omega
  have HD := Lib.hid hd
  have HL := Lib.hid h.1
  have H := Lib.hid h
  have HWL := Lib.hid hwl
  clear h hd hwl
  go_enter Try.func4, Try.ntmps4
  go_wp2_with fail
  refine (great_any a n c l _ _ H.out hn).mono ?_
  rintro e w' ⟨rfl, rfl⟩
  rw [HD.out]
  go_wp2_with fail
  go_loopw [4] (fun i wr => ∃ (j : Nat) (v : Value), j ≤ n ∧ i = .int .i64 j ∧ BInv w.heap.size w wr l j v) (fun i _ => n - (intOf i).toNat)
  case atStart =>
    refine ⟨0, .slice none 0 0, Nat.zero_le _, rfl, Wr.new w, (Below.refl _ _).alloc (Nat.le_refl _) _, ?_⟩; intro k hk; simp [Value.ownBlock] at hk
  case round =>
    obtain ⟨j, v, hj, rfl, hinv⟩ := hrel
    have HI := Lib.hid hinv
    clear hinv
    by_cases hlt : j < n
    · obtain ⟨f, ad, A, c', hf, rfl, hfd⟩ := H.out.at_ hlt
      have hj' : (wout l j).length ≤ 4400 := HWL.out j
      have hx := (hfd.below HI.out.below).cells
      obtain ⟨k0, k1, k2, k3⟩ := hx
      have HF := Lib.hid hf
      have hb : f.b.length ≤ 400 := by
        have h1 := part_succ hf
        have h2 := part_le l (j + 1)
        omega
      have hn1 := hfd.n1
      have HR := Lib.hid ((hfd.below HI.out.below).rd)
      have HV := Lib.hid (fun k (hk : v.ownBlock = some k) => Nat.le_of_lt (HI.out.lo k hk))
      have HBS := Lib.hid HI.out.wri.lt
      clear hf hfd
      go_wp2_with fail
      refine (writes_any ⟨w.heap.size, 0, none⟩ v (wout l j) f A c' w.heap.size _ HI.out.wri (by omega) hn1 HR.out (Nat.le_refl _) HV.out).mono ?_
      rintro e w2 ⟨A2, c2, v2, rfl, hrd, hwr⟩
      have HSTEP := Lib.hid (HI.out.step HF.out HBS.out hwr)
      clear hrd hwr
      go_wp2_with fail
      go_roundw
      case rel => exact ⟨j + 1, v2, by omega, by go_num, HSTEP.out⟩
      case measure => simp [intOf]; omega
    · have hjn : j = l.length := by rw [HL.out]; omega
      have hK : (wout l l.length).length ≤ 4400 := HWL.out _
      have hI2 := HI.out
      rw [hjn] at hI2
      have HI2 := Lib.hid hI2
      have HBS := Lib.hid HI.out.wri.lt
      clear hjn hI2
      go_wp2_with fail
      refine (out_any ⟨w.heap.size, 0, none⟩ v (wout l l.length) _ HI2.out.wri (by omega)).mono ?_
      rintro e w5 ⟨v5, rfl, hown, hb5⟩
      obtain ⟨A5, c5, rfl⟩ := own_slice hown
      have HO := Lib.hid hown
      have h5 : Below w.heap.size w w5 := HI.out.below.trans (hb5.mono (Nat.le_of_lt HBS.out))
      have H5 := Lib.hid h5
      clear hown hb5 h5
      go_wp2_with fail
      refine (new_any A5 _ c5 (wout l l.length) _ _ (Rd.of_own HO.out) (by omega)).mono ?_
      rintro e w6 ⟨g, A6, c6, rfl, hrr, hg, hb6⟩
      have hBg : w.heap.size ≤ g := Nat.le_trans H5.out.size hg
      have h6 : Below w.heap.size w w6 := H5.out.trans (hb6.mono H5.out.size)
      have HRR := Lib.hid hrr
      have H6 := Lib.hid h6
      clear hrr h6 hb6 hg
      go_wp2_with fail
      go_loopw [6] (fun i wr => ∃ (j : Nat), j ≤ n ∧ i = .int .i64 j ∧ Rr wr g A6 c6 (fun j => w5.heap.size ≤ j ∧ j < g) (wout l l.length) (wout l j).length 0 ∧ Below w.heap.size w wr) (fun i _ => n - (intOf i).toNat)
      case atStart => exact ⟨0, Nat.zero_le _, rfl, HRR.out, H6.out⟩
      case round =>
        obtain ⟨j2, hj2, rfl, hrr2, hbl2⟩ := hrel
        have HR2 := Lib.hid hrr2
        have HB2 := Lib.hid hbl2
        clear hrr2 hbl2
        by_cases hlt2 : j2 < n
        · obtain ⟨f, ad, A, c', hf, rfl, hfd⟩ := H.out.at_ hlt2
          obtain ⟨post, hpost⟩ := wout_split hf
          have hwl2 := wout_succ hf
          have hfe := (show fenc f = fenc f from rfl)
          have hx := (hfd.below HB2.out).cells
          obtain ⟨k0, k1, k2, k3⟩ := hx
          have hb : f.b.length ≤ 400 := by
            have h1 := part_succ hf
            have h2 := part_le l (j2 + 1)
            omega
          have hn1 := hfd.n1
          have HRD := Lib.hid ((hfd.below HB2.out).rd)
          have HP := Lib.hid hpost
          have HW2 := Lib.hid hwl2
          have hgl := HR2.out.lt
          clear hf hfd hpost hwl2 hfe
          unfold fenc at HP HW2
          have HRA := Lib.hid (HR2.out.below ((Below.refl wr.heap.size wr).alloc (Nat.le_refl _) (.cells #[.int .i64 f.kind, .int .u64 f.n, .slice A f.b.length c', .int .i64 f.most] 32)))
          by_cases h0 : f.kind = 0
          · skip
            have q0 : (f.kind == 0) = true := beq_iff_eq.2 h0
            rw [if_pos h0] at HP HW2
            have hcall : ∀ w9, Rr w9 g A6 c6 (fun j => w5.heap.size ≤ j ∧ j < g) (wout l l.length) (wout l j2).length 0 → Calls Try.prog 12 #[.pointer (some ⟨g, 0, none⟩)] w9 fun e w' => e = .returned (.int .u8 ((UInt8.ofNat (f.n % 256)).toNat : Int)) ∧ Readto w9 w' g A6 c6 (fun j => w5.heap.size ≤ j ∧ j < g) (wout l l.length) (wout l (j2 + 1)).length 0 := fun w9 h9 => by
              have h10 := rbyte_ok g A6 c6 _ (wout l l.length) (wout l j2).length w9 h9
              rw [back_byte HP.out rfl] at h10
              rw [HW2.out, List.length_append]
              exact h10
            have hq : (((UInt8.ofNat (f.n % 256)).toNat : Int) == (f.n : Int) % 256) = true := beq_iff_eq.2 (by rw [toNat_low (by omega)]; omega)
            have HCALL := Lib.hid hcall
            clear hcall h0
            go_wp2_with fail
            go_region_held3 (fun w' => w'.cell? ⟨wr.heap.size, 1, none⟩ = some (.int .u64 f.n)) (go_keep)
              (first | (go_at_call 12; refine (HCALL.out _ (HRA.out.drewN 1)).mono ?_; rintro e w7 ⟨rfl, hto⟩; have hs7 := (hto.only.cell (a := ⟨wr.heap.size, 1, none⟩) (fun h => by have h' : wr.heap.size = g := h; omega) (by simp)).trans (box_at wr _ _ 1); simp at hs7; have HTO := Lib.hid hto; clear hto))
            go_wp2_with fail
            refine (err_none g A6 c6 _ (wout l l.length) (wout l (j2 + 1)).length _ HTO.out.rr).mono ?_
            rintro e w10 ⟨rfl, rfl⟩
            go_wp2_with fail
            go_roundw
            case rel => exact ⟨j2 + 1, by omega, by go_num, HTO.out.rr, back_below HB2.out HTO.out.only hBg HB2.out.size⟩
            case measure => simp [intOf]; omega
          by_cases h1 : f.kind = 1
          · skip
            have q0 : (f.kind == 0) = false := beq_eq_false_iff_ne.2 h0
            have q1 : (f.kind == 1) = true := beq_iff_eq.2 h1
            rw [if_neg h0, if_pos h1] at HP HW2
            have hcall : ∀ w9, Rr w9 g A6 c6 (fun j => w5.heap.size ≤ j ∧ j < g) (wout l l.length) (wout l j2).length 0 → Calls Try.prog 13 #[.pointer (some ⟨g, 0, none⟩), .int .u64 (f.n : Int)] w9 fun e w' => e = .returned (.int .u64 (f.n : Int)) ∧ Readto w9 w' g A6 c6 (fun j => w5.heap.size ≤ j ∧ j < g) (wout l l.length) (wout l (j2 + 1)).length 0 := fun w9 h9 => by
              have h10 := rnumber_ok g A6 c6 _ (wout l l.length) (wout l j2).length f.n w9 h9
              rw [back_num f.n (Nat.le_refl _) hn1 HP.out rfl] at h10
              rw [HW2.out, List.length_append]
              exact h10
            have HCALL := Lib.hid hcall
            clear hcall h0 h1
            go_wp2_with fail
            go_region_held3 (fun w' => w'.cell? ⟨wr.heap.size, 1, none⟩ = some (.int .u64 f.n)) (go_keep)
              (first | (go_at_call 13; refine (HCALL.out _ (HRA.out.drewN 1)).mono ?_; rintro e w7 ⟨rfl, hto⟩; have hs7 := (hto.only.cell (a := ⟨wr.heap.size, 1, none⟩) (fun h => by have h' : wr.heap.size = g := h; omega) (by simp)).trans (box_at wr _ _ 1); simp at hs7; have HTO := Lib.hid hto; clear hto))
            go_wp2_with fail
            refine (err_none g A6 c6 _ (wout l l.length) (wout l (j2 + 1)).length _ HTO.out.rr).mono ?_
            rintro e w10 ⟨rfl, rfl⟩
            go_wp2_with fail
            go_roundw
            case rel => exact ⟨j2 + 1, by omega, by go_num, HTO.out.rr, back_below HB2.out HTO.out.only hBg HB2.out.size⟩
            case measure => simp [intOf]; omega
          by_cases h2 : f.kind = 2
          · skip
            have q0 : (f.kind == 0) = false := beq_eq_false_iff_ne.2 h0
            have q1 : (f.kind == 1) = false := beq_eq_false_iff_ne.2 h1
            have q2 : (f.kind == 2) = true := beq_iff_eq.2 h2
            rw [if_neg h0, if_neg h1, if_pos h2] at HP HW2
            have hcall : ∀ w9, Rr w9 g A6 c6 (fun j => w5.heap.size ≤ j ∧ j < g) (wout l l.length) (wout l j2).length 0 → Calls Try.prog 14 #[.pointer (some ⟨g, 0, none⟩)] w9 fun e w' => e = .returned (.int .i64 (sgn f.n)) ∧ Readto w9 w' g A6 c6 (fun j => w5.heap.size ≤ j ∧ j < g) (wout l l.length) (wout l (j2 + 1)).length 0 := fun w9 h9 => by
              have h10 := rint_any g A6 c6 _ (wout l l.length) (wout l j2).length w9 h9
              rw [back_int (sgn_range hn1).1 (sgn_range hn1).2 HP.out rfl] at h10
              rw [HW2.out, List.length_append]
              exact h10
            have hq : (sgn f.n == wrap64 (f.n : Int)) = true := beq_iff_eq.2 (wrap_sgn hn1).symm
            have HCALL := Lib.hid hcall
            clear hcall h0 h1 h2
            go_wp2_with fail
            go_region_held3 (fun w' => w'.cell? ⟨wr.heap.size, 1, none⟩ = some (.int .u64 f.n)) (go_keep)
              (first | (go_at_call 14; refine (HCALL.out _ (HRA.out.drewN 1)).mono ?_; rintro e w7 ⟨rfl, hto⟩; have hs7 := (hto.only.cell (a := ⟨wr.heap.size, 1, none⟩) (fun h => by have h' : wr.heap.size = g := h; omega) (by simp)).trans (box_at wr _ _ 1); simp at hs7; have HTO := Lib.hid hto; clear hto))
            go_wp2_with fail
            refine (err_none g A6 c6 _ (wout l l.length) (wout l (j2 + 1)).length _ HTO.out.rr).mono ?_
            rintro e w10 ⟨rfl, rfl⟩
            go_wp2_with fail
            go_roundw
            case rel => exact ⟨j2 + 1, by omega, by go_num, HTO.out.rr, back_below HB2.out HTO.out.only hBg HB2.out.size⟩
            case measure => simp [intOf]; omega
          by_cases h3 : f.kind = 3
          · skip
            have q0 : (f.kind == 0) = false := beq_eq_false_iff_ne.2 h0
            have q1 : (f.kind == 1) = false := beq_eq_false_iff_ne.2 h1
            have q2 : (f.kind == 2) = false := beq_eq_false_iff_ne.2 h2
            have q3 : (f.kind == 3) = true := beq_iff_eq.2 h3
            rw [if_neg h0, if_neg h1, if_neg h2, if_pos h3] at HP HW2
            have hcall : ∀ w9, Rr w9 g A6 c6 (fun j => w5.heap.size ≤ j ∧ j < g) (wout l l.length) (wout l j2).length 0 → Calls Try.prog 15 #[.pointer (some ⟨g, 0, none⟩)] w9 fun e w' => e = .returned (.bool (f.n % 2 == 1)) ∧ Readto w9 w' g A6 c6 (fun j => w5.heap.size ≤ j ∧ j < g) (wout l l.length) (wout l (j2 + 1)).length 0 := fun w9 h9 => by
              have h10 := rbool_ok g A6 c6 _ (wout l l.length) (wout l j2).length w9 h9
              rw [back_bool HP.out rfl] at h10
              rw [HW2.out, List.length_append]
              exact h10
            have hq : ((((f.n : Int) % 2) == 1)) = (f.n % 2 == 1) := by rw [Bool.eq_iff_iff]; simp only [beq_iff_eq]; omega
            have HCALL := Lib.hid hcall
            clear hcall h0 h1 h2 h3
            go_wp2_with fail
            go_region_held3 (fun w' => w'.cell? ⟨wr.heap.size, 1, none⟩ = some (.int .u64 f.n)) (go_keep)
              (first | (go_at_call 15; refine (HCALL.out _ (HRA.out.drewN 1)).mono ?_; rintro e w7 ⟨rfl, hto⟩; have hs7 := (hto.only.cell (a := ⟨wr.heap.size, 1, none⟩) (fun h => by have h' : wr.heap.size = g := h; omega) (by simp)).trans (box_at wr _ _ 1); simp at hs7; have HTO := Lib.hid hto; clear hto))
            go_wp2_with fail
            refine (err_none g A6 c6 _ (wout l l.length) (wout l (j2 + 1)).length _ HTO.out.rr).mono ?_
            rintro e w10 ⟨rfl, rfl⟩
            go_wp2_with fail
            go_roundw
            case rel => exact ⟨j2 + 1, by omega, by go_num, HTO.out.rr, back_below HB2.out HTO.out.only hBg HB2.out.size⟩
            case measure => simp [intOf]; omega
          by_cases h4 : f.kind = 4
          · skip
            have q0 : (f.kind == 0) = false := beq_eq_false_iff_ne.2 h0
            have q1 : (f.kind == 1) = false := beq_eq_false_iff_ne.2 h1
            have q2 : (f.kind == 2) = false := beq_eq_false_iff_ne.2 h2
            have q3 : (f.kind == 3) = false := beq_eq_false_iff_ne.2 h3
            have q4 : (f.kind == 4) = true := beq_iff_eq.2 h4
            rw [if_neg h0, if_neg h1, if_neg h2, if_neg h3, if_pos h4] at HP HW2
            have hcall : ∀ w9, Rr w9 g A6 c6 (fun j => w5.heap.size ≤ j ∧ j < g) (wout l l.length) (wout l j2).length 0 → Calls Try.prog 16 #[.pointer (some ⟨g, 0, none⟩), .int .i64 (f.b.length : Int)] w9 (DidRead w9 g A6 c6 (fun j => w5.heap.size ≤ j ∧ j < g) (wout l l.length) (f.b, (wout l (j2 + 1)).length, 0)) := fun w9 h9 => by
              have h10 := rbytes_any g A6 c6 _ (wout l l.length) (wout l j2).length (f.b.length : Int) w9 h9 (by omega)
              rw [back_bytes (by omega) HP.out rfl] at h10
              rw [HW2.out, List.length_append]
              exact h10
            have HCALL := Lib.hid hcall
            clear hcall h0 h1 h2 h3 h4
            go_wp2_with fail
            go_region_held3 (fun w' => w'.cell? ⟨wr.heap.size, 2, none⟩ = some (.slice A f.b.length c')) (go_keep)
              (first
                | (go_at_call 16; refine (HCALL.out _ (HRA.out.drewN 1)).mono ?_; rintro e w7 ⟨A7, c7, rfl, ho7, hto⟩; have hs7 := (hto.only.cell (a := ⟨wr.heap.size, 2, none⟩) (fun h => by have h' : wr.heap.size = g := h; omega) (by simp)).trans (box_at wr _ _ 2); simp at hs7; have HTO := Lib.hid hto; have HO7 := Lib.hid ho7; have HRD7 := Lib.hid (back_rd HRD.out hto.only hBg); clear hto ho7)
                | (go_at_call 9; refine (bytes_any A7 A _ _ c7 c' f.b f.b _ _ w7 (by unfold maxLen; omega) (Rd.of_own HO7.out) HRD7.out).mono ?_; rintro e w8 ⟨rfl, q8, rfl⟩; rw [decide_eq_true rfl]))
            go_wp2_with fail
            refine (err_none g A6 c6 _ (wout l l.length) (wout l (j2 + 1)).length _ (HTO.out.rr.drewN q8)).mono ?_
            rintro e w10 ⟨rfl, rfl⟩
            go_wp2_with fail
            go_roundw
            case rel => exact ⟨j2 + 1, by omega, by go_num, HTO.out.rr.drewN q8, below_drewN (back_below HB2.out HTO.out.only hBg HB2.out.size) q8⟩
            case measure => simp [intOf]; omega
          by_cases h5 : f.kind = 5
          · skip
            have q0 : (f.kind == 0) = false := beq_eq_false_iff_ne.2 h0
            have q1 : (f.kind == 1) = false := beq_eq_false_iff_ne.2 h1
            have q2 : (f.kind == 2) = false := beq_eq_false_iff_ne.2 h2
            have q3 : (f.kind == 3) = false := beq_eq_false_iff_ne.2 h3
            have q4 : (f.kind == 4) = false := beq_eq_false_iff_ne.2 h4
            have q5 : (f.kind == 5) = true := beq_iff_eq.2 h5
            rw [if_neg h0, if_neg h1, if_neg h2, if_neg h3, if_neg h4, if_pos h5] at HP HW2
            have hcall : ∀ w9, Rr w9 g A6 c6 (fun j => w5.heap.size ≤ j ∧ j < g) (wout l l.length) (wout l j2).length 0 → Calls Try.prog 17 #[.pointer (some ⟨g, 0, none⟩), .int .i64 (f.b.length : Int)] w9 fun e w' => e = .returned (.string ⟨f.b.toArray⟩) ∧ Readto w9 w' g A6 c6 (fun j => w5.heap.size ≤ j ∧ j < g) (wout l l.length) (wout l (j2 + 1)).length 0 := fun w9 h9 => by
              have h10 := rtext_any g A6 c6 _ (wout l l.length) (wout l j2).length (f.b.length : Int) w9 h9 (by omega)
              rw [back_bytes (by omega) HP.out rfl] at h10
              rw [HW2.out, List.length_append]
              exact h10
            have hconv := fun w' h => to_text A f.b.length c' f.b (fun j => j < w.heap.size) w' h
            have hrda := HRD.out.belowAll ((Below.refl wr.heap.size wr).alloc (Nat.le_refl _) (.cells #[.int .i64 f.kind, .int .u64 f.n, .slice A f.b.length c', .int .i64 f.most] 32))
            have hrdd : Rd (wr.alloc (.cells #[.int .i64 f.kind, .int .u64 f.n, .slice A f.b.length c', .int .i64 f.most] 32)).drew (fun j => j < w.heap.size) A f.b.length (Bs f.b) := hrda
            have HCALL := Lib.hid hcall
            clear hcall hrda h0 h1 h2 h3 h4 h5
            go_wp2_with fail
            go_region_held3 (fun w' => w'.cell? ⟨wr.heap.size, 2, none⟩ = some (.slice A f.b.length c') ∧ Rd w' (fun j => j < w.heap.size) A f.b.length (Bs f.b)) (go_keep)
              (first | (go_at_call 17; refine (HCALL.out _ (HRA.out.drewN 1)).mono ?_; rintro e w7 ⟨rfl, hto⟩; have hs7 := (hto.only.cell (a := ⟨wr.heap.size, 2, none⟩) (fun h => by have h' : wr.heap.size = g := h; omega) (by simp)).trans (box_at wr _ _ 2); simp at hs7; have HTO := Lib.hid hto; have hrd7 := back_rd HRD.out hto.only hBg; clear hto))
            go_wp2_with fail
            refine (err_none g A6 c6 _ (wout l l.length) (wout l (j2 + 1)).length _ HTO.out.rr).mono ?_
            rintro e w10 ⟨rfl, rfl⟩
            go_wp2_with fail
            go_roundw
            case rel => exact ⟨j2 + 1, by omega, by go_num, HTO.out.rr, back_below HB2.out HTO.out.only hBg HB2.out.size⟩
            case measure => simp [intOf]; omega
          · skip
            have q0 : (f.kind == 0) = false := beq_eq_false_iff_ne.2 h0
            have q1 : (f.kind == 1) = false := beq_eq_false_iff_ne.2 h1
            have q2 : (f.kind == 2) = false := beq_eq_false_iff_ne.2 h2
            have q3 : (f.kind == 3) = false := beq_eq_false_iff_ne.2 h3
            have q4 : (f.kind == 4) = false := beq_eq_false_iff_ne.2 h4
            have q5 : (f.kind == 5) = false := beq_eq_false_iff_ne.2 h5
            rw [if_neg h0, if_neg h1, if_neg h2, if_neg h3, if_neg h4, if_neg h5] at HP HW2
            have hcall : ∀ w9, Rr w9 g A6 c6 (fun j => w5.heap.size ≤ j ∧ j < g) (wout l l.length) (wout l j2).length 0 → Calls Try.prog 18 #[.pointer (some ⟨g, 0, none⟩), .int .i64 (f.b.length : Int)] w9 (DidRead w9 g A6 c6 (fun j => w5.heap.size ≤ j ∧ j < g) (wout l l.length) (f.b, (wout l (j2 + 1)).length, 0)) := fun w9 h9 => by
              have h10 := rraw_any g A6 c6 _ (wout l l.length) (wout l j2).length (f.b.length : Int) w9 h9
              rw [back_raw HP.out rfl] at h10
              rw [HW2.out, List.length_append]
              exact h10
            have HCALL := Lib.hid hcall
            clear hcall h0 h1 h2 h3 h4 h5
            go_wp2_with fail
            go_region_held3 (fun w' => w'.cell? ⟨wr.heap.size, 2, none⟩ = some (.slice A f.b.length c')) (go_keep)
              (first
                | (go_at_call 18; refine (HCALL.out _ (HRA.out.drewN 1)).mono ?_; rintro e w7 ⟨A7, c7, rfl, ho7, hto⟩; have hs7 := (hto.only.cell (a := ⟨wr.heap.size, 2, none⟩) (fun h => by have h' : wr.heap.size = g := h; omega) (by simp)).trans (box_at wr _ _ 2); simp at hs7; have HTO := Lib.hid hto; have HO7 := Lib.hid ho7; have HRD7 := Lib.hid (back_rd HRD.out hto.only hBg); clear hto ho7)
                | (go_at_call 9; refine (bytes_any A7 A _ _ c7 c' f.b f.b _ _ w7 (by unfold maxLen; omega) (Rd.of_own HO7.out) HRD7.out).mono ?_; rintro e w8 ⟨rfl, q8, rfl⟩; rw [decide_eq_true rfl]))
            go_wp2_with fail
            refine (err_none g A6 c6 _ (wout l l.length) (wout l (j2 + 1)).length _ (HTO.out.rr.drewN q8)).mono ?_
            rintro e w10 ⟨rfl, rfl⟩
            go_wp2_with fail
            go_roundw
            case rel => exact ⟨j2 + 1, by omega, by go_num, HTO.out.rr.drewN q8, below_drewN (back_below HB2.out HTO.out.only hBg HB2.out.size) q8⟩
            case measure => simp [intOf]; omega
        · have hjn2 : j2 = l.length := by rw [HL.out]; omega
          have hr3 := HR2.out
          rw [hjn2] at hr3
          have HR3 := Lib.hid hr3
          clear hr3 hjn2
          go_wp2_with fail
          refine (end_ok g A6 c6 _ (wout l l.length) _ HR3.out).mono ?_
          rintro e w7 ⟨rfl, q7, rfl⟩
          go_wp2_with fail
          refine (awake_any _).mono ?_
          rintro e w8 ⟨rfl, hb8⟩
          go_wp2_with fail
          go_ret
          exact ⟨rfl, (below_drewN HB2.out q7).trans (hb8.mono HB2.out.size)⟩

set_option maxHeartbeats 400000 in
theorem packback_great (a : Option Addr) (n c : Nat) (l : List Fd) (w : World) (h : Fds w (fun j => j < w.heap.size) a n l) (hn : n ≤ 140737488351232) (ht : 400 < tot l) :
    Calls Try.prog 4 #[.slice a n c] w fun e w' => e = .returned (.bool true) ∧ Below w.heap.size w w' := by
  have HD := Lib.hid (decide_eq_true ht)
  have H := Lib.hid h
  clear h ht
  go_enter Try.func4, Try.ntmps4
  go_wp2_with fail
  refine (great_any a n c l _ _ H.out hn).mono ?_
  rintro e w' ⟨rfl, rfl⟩
  rw [HD.out]
  go_wp2_with fail
  refine (awake_any _).mono ?_
  rintro e w' ⟨rfl, hb⟩
  go_wp2_with fail
  go_ret
  exact ⟨rfl, hb⟩

end Go.Proofs.Ytaekepejeokciaa
