/- SHA-256 of bytes in parts. -/
import Derived.Test.YtcdfbcpcgkcojaaDoorSum
namespace Go.Proofs.YtcdfbcpcgkcojaaDoor
set_option maxRecDepth 100000
open Go.RowKit

/-- Slices of bytes as they lie: each one's header, its bytes. -/
def Parts (w : World) (F : Nat → Prop) (vs : List Value) (ps : List (List Nat)) : Prop :=
  vs.length = ps.length ∧ ∀ (j : Nat) (p : List Nat), ps[j]? = some p → (∀ x ∈ p, x < 256) ∧ ∃ a n c, vs[j]? = some (.slice a n c) ∧ Rd w F a n (p.map fun x => .int .u8 ((x : Nat) : Int))
theorem Parts.keep {w w' : World} {F : Nat → Prop} {vs : List Value} {ps : List (List Nat)} (h : Parts w F vs ps) (hs : w.heap.size ≤ w'.heap.size) (hk : ∀ k, F k → k < w.heap.size → w'.heap[k]? = w.heap[k]?) : Parts w' F vs ps :=
  ⟨h.1, fun j p hj => by
    obtain ⟨hx, a, n, c, hv, hr⟩ := h.2 j p hj
    exact ⟨hx, a, n, c, hv, hr.keep hs hk⟩⟩
theorem Parts.nil (w : World) (F : Nat → Prop) : Parts w F [] [] := ⟨rfl, fun j p h => by simp at h⟩
/-- All bytes, one part behind the other, as far as so many parts go. -/
def upto (ps : List (List Nat)) (k : Nat) : List Nat := (ps.take k).flatten
theorem upto_succ (ps : List (List Nat)) {k : Nat} {p : List Nat} (h : ps[k]? = some p) : upto ps (k + 1) = upto ps k ++ p := by
  unfold upto
  rw [List.take_add_one, h, Option.toList_some, List.flatten_append]
  simp
theorem upto_all (ps : List (List Nat)) : upto ps ps.length = ps.flatten := by unfold upto; rw [List.take_length]
theorem upto_le (ps : List (List Nat)) (k : Nat) : (upto ps k).length ≤ ps.flatten.length := by
  unfold upto
  have h : ps.flatten.length = (ps.take k).flatten.length + (ps.drop k).flatten.length := by
    rw [← List.length_append, ← List.flatten_append, List.take_append_drop]
  omega
theorem upto_lt {ps : List (List Nat)} (h : ∀ p ∈ ps, ∀ x ∈ p, x < 256) (k : Nat) : ∀ x ∈ upto ps k, x < 256 := by
  intro x hx
  obtain ⟨p, hp, hx⟩ := List.mem_flatten.1 hx
  exact h p (List.mem_of_mem_take hp) x hx
theorem Parts.all {w : World} {F : Nat → Prop} {vs : List Value} {ps : List (List Nat)} (h : Parts w F vs ps) : ∀ p ∈ ps, ∀ x ∈ p, x < 256 := by
  intro p hp
  obtain ⟨j, hj⟩ := List.getElem?_of_mem hp
  exact (h.2 j p hj).1
theorem Only.ks {S : Nat → Prop} {w w' : World} (h : Only S w w') (hs : ¬ S 2) (hk : Ks32 w) : Ks32 w' := hk.keep (h.block 2 hk.lt hs)

set_option maxHeartbeats 800000 in
theorem sum256 (ps : List (List Nat)) (vs : List Value) (A : Option Addr) (m cap : Nat) (w : World) (hk : Ks32 w) (hs : Ss32 w) (hr : Rd w (fun _ => True) A m vs) (hp : Parts w (· < w.heap.size) vs ps) (hm : m < 4611686018427387904) (hn : ps.flatten.length < 1152921504606846976) :
    Calls Tryd.prog 9 #[.slice A m cap] w fun e w' => e = .returned (.agg (dig32 (fed32 beg32 ps.flatten)).toArray) ∧ Below w.heap.size w w' := by
  have hl : ps.length = m := by rw [← hp.1]; exact hr.1
  have HK := Lib.hid hk
  have HS := Lib.hid hs
  have HR := Lib.hid hr
  have HP := Lib.hid hp
  have HN := Lib.hid hn
  have HL := Lib.hid hl
  have hb0 : Below w.heap.size w (w.alloc (.cells #[Value.int .u8 0, Value.int .u8 0, Value.int .u8 0, Value.int .u8 0, Value.int .u8 0, Value.int .u8 0, Value.int .u8 0, Value.int .u8 0, Value.int .u8 0, Value.int .u8 0, Value.int .u8 0, Value.int .u8 0, Value.int .u8 0, Value.int .u8 0, Value.int .u8 0, Value.int .u8 0, Value.int .u8 0, Value.int .u8 0, Value.int .u8 0, Value.int .u8 0, Value.int .u8 0, Value.int .u8 0, Value.int .u8 0, Value.int .u8 0, Value.int .u8 0, Value.int .u8 0, Value.int .u8 0, Value.int .u8 0, Value.int .u8 0, Value.int .u8 0, Value.int .u8 0, Value.int .u8 0] 24)) := (Below.refl _ _).alloc (Nat.le_refl _) _
  have hres : Row (w.alloc (.cells #[Value.int .u8 0, Value.int .u8 0, Value.int .u8 0, Value.int .u8 0, Value.int .u8 0, Value.int .u8 0, Value.int .u8 0, Value.int .u8 0, Value.int .u8 0, Value.int .u8 0, Value.int .u8 0, Value.int .u8 0, Value.int .u8 0, Value.int .u8 0, Value.int .u8 0, Value.int .u8 0, Value.int .u8 0, Value.int .u8 0, Value.int .u8 0, Value.int .u8 0, Value.int .u8 0, Value.int .u8 0, Value.int .u8 0, Value.int .u8 0, Value.int .u8 0, Value.int .u8 0, Value.int .u8 0, Value.int .u8 0, Value.int .u8 0, Value.int .u8 0, Value.int .u8 0, Value.int .u8 0] 24)) w.heap.size 24 (List.replicate 32 (.int .u8 0)) := heap_alloc_new _ _
  have hs1 : Ss32 (w.alloc (.cells #[Value.int .u8 0, Value.int .u8 0, Value.int .u8 0, Value.int .u8 0, Value.int .u8 0, Value.int .u8 0, Value.int .u8 0, Value.int .u8 0, Value.int .u8 0, Value.int .u8 0, Value.int .u8 0, Value.int .u8 0, Value.int .u8 0, Value.int .u8 0, Value.int .u8 0, Value.int .u8 0, Value.int .u8 0, Value.int .u8 0, Value.int .u8 0, Value.int .u8 0, Value.int .u8 0, Value.int .u8 0, Value.int .u8 0, Value.int .u8 0, Value.int .u8 0, Value.int .u8 0, Value.int .u8 0, Value.int .u8 0, Value.int .u8 0, Value.int .u8 0, Value.int .u8 0, Value.int .u8 0] 24)) := hs.keep (Below.heap_alloc _ _ _ hs.lt)
  have hk1 : Ks32 (w.alloc (.cells #[Value.int .u8 0, Value.int .u8 0, Value.int .u8 0, Value.int .u8 0, Value.int .u8 0, Value.int .u8 0, Value.int .u8 0, Value.int .u8 0, Value.int .u8 0, Value.int .u8 0, Value.int .u8 0, Value.int .u8 0, Value.int .u8 0, Value.int .u8 0, Value.int .u8 0, Value.int .u8 0, Value.int .u8 0, Value.int .u8 0, Value.int .u8 0, Value.int .u8 0, Value.int .u8 0, Value.int .u8 0, Value.int .u8 0, Value.int .u8 0, Value.int .u8 0, Value.int .u8 0, Value.int .u8 0, Value.int .u8 0, Value.int .u8 0, Value.int .u8 0, Value.int .u8 0, Value.int .u8 0] 24)) := hk.below hb0 hk.lt
  have hz1 : (w.alloc (.cells #[Value.int .u8 0, Value.int .u8 0, Value.int .u8 0, Value.int .u8 0, Value.int .u8 0, Value.int .u8 0, Value.int .u8 0, Value.int .u8 0, Value.int .u8 0, Value.int .u8 0, Value.int .u8 0, Value.int .u8 0, Value.int .u8 0, Value.int .u8 0, Value.int .u8 0, Value.int .u8 0, Value.int .u8 0, Value.int .u8 0, Value.int .u8 0, Value.int .u8 0, Value.int .u8 0, Value.int .u8 0, Value.int .u8 0, Value.int .u8 0, Value.int .u8 0, Value.int .u8 0, Value.int .u8 0, Value.int .u8 0, Value.int .u8 0, Value.int .u8 0, Value.int .u8 0, Value.int .u8 0] 24)).heap.size = w.heap.size + 1 := by simp
  have HB0 := Lib.hid hb0
  have HRES := Lib.hid hres
  have HS1 := Lib.hid hs1
  have HK1 := Lib.hid hk1
  have HZ1 := Lib.hid hz1
  clear hk hs hr hp hn hl hb0 hres hs1 hk1 hz1
  go_enter Tryd.func9, Tryd.ntmps9
  go_wp2_with fail
  generalize hW : w.alloc (.cells #[Value.int .u8 0, Value.int .u8 0, Value.int .u8 0, Value.int .u8 0, Value.int .u8 0, Value.int .u8 0, Value.int .u8 0, Value.int .u8 0, Value.int .u8 0, Value.int .u8 0, Value.int .u8 0, Value.int .u8 0, Value.int .u8 0, Value.int .u8 0, Value.int .u8 0, Value.int .u8 0, Value.int .u8 0, Value.int .u8 0, Value.int .u8 0, Value.int .u8 0, Value.int .u8 0, Value.int .u8 0, Value.int .u8 0, Value.int .u8 0, Value.int .u8 0, Value.int .u8 0, Value.int .u8 0, Value.int .u8 0, Value.int .u8 0, Value.int .u8 0, Value.int .u8 0, Value.int .u8 0] 24) = W at *
  clear hW
  refine (new_any W HS1.out).mono ?_
  rintro e w1 ⟨g, rfl, ht1, hg1, hb1⟩
  have hgw : w.heap.size + 1 ≤ g := by rw [← HZ1.out]; exact hg1
  have hb01 : Below w.heap.size w w1 := HB0.out.trans (hb1.mono (by rw [HZ1.out]; omega))
  have hres1 : Row w1 w.heap.size 24 (List.replicate 32 (.int .u8 0)) := (hb1.block _ (by rw [HZ1.out]; omega)).trans HRES.out
  have hk2 : Ks32 w1 := HK1.out.below hb1 HK1.out.lt
  have hp1 : Parts w1 (· < w.heap.size) vs ps := HP.out.keep hb01.size (fun k _ hl => hb01.block k hl)
  have HT1 := Lib.hid ht1
  have HGW := Lib.hid hgw
  have HB01 := Lib.hid hb01
  have HRES1 := Lib.hid hres1
  have HK2 := Lib.hid hk2
  have HP1 := Lib.hid hp1
  have hgl := ht1.lt
  have HGL := Lib.hid hgl
  clear ht1 hg1 hgw hb01 hres1 hk2 hp1 hb1 hgl
  go_wp2_with fail
  go_loopw [9] (fun i wr => ∃ k : Nat, k ≤ m ∧ i = .int .i64 k ∧ Tb32 wr g 69 (fed32 beg32 (upto ps k)).1.list (fed32 beg32 (upto ps k)).2.1 ((fed32 beg32 (upto ps k)).2.2 : Int) ∧ Only (· = g) w1 wr) (fun i _ => m - (intOf i).toNat)
  case atStart => exact ⟨0, Nat.zero_le _, rfl, HT1.out, Only.refl _ _⟩
  case round =>
    obtain ⟨k, hkm, rfl, hat, hon⟩ := hrel
    by_cases hlt : k < m
    · have hkp : k < ps.length := by rw [HL.out]; exact hlt
      obtain ⟨hx, a, n, c, hv, hrd⟩ := HP1.out.2 k ps[k] (List.getElem?_eq_getElem hkp)
      have hup := upto_succ ps (List.getElem?_eq_getElem hkp)
      have hle := upto_le ps (k + 1)
      obtain ⟨ad, e, _, hB, hC⟩ := HR.out.2 (by omega)
      have hc := hC k _ hv
      have hsz : (fed32 beg32 (upto ps k)).2.2 = (upto ps k).length := by rw [fed32_size]; show 0 + _ = _; omega
      have hgd : Gd32 (fed32 beg32 (upto ps k)) := beg32_good.fed (upto_lt HP1.out.all k)
      have hlen : (upto ps (k + 1)).length = (upto ps k).length + ps[k].length := by rw [hup, List.length_append]
      have hfe : fed32 beg32 (upto ps (k + 1)) = fed32 (fed32 beg32 (upto ps k)) ps[k] := by rw [hup, fed32_append]
      have hbound : (fed32 beg32 (upto ps k)).2.2 + ps[k].length < 4611686018427387904 := by have := HN.out; omega
      have hg2 : g ≠ 2 := fun e2 => by have := HGW.out; have := HK.out.lt; omega
      have hks : Ks32 wr := hon.ks (fun e2 => hg2 e2.symm) HK2.out
      generalize fed32 beg32 (upto ps k) = u at *
      generalize ps[k] = p at *
      have hrd2 : Rd wr (fun k => k ≠ g) a n (p.map fun x => .int .u8 ((x : Nat) : Int)) :=
        (hrd.keep hon.size (fun k hF hl => hon.block k hl (fun e2 => by have := HGW.out; have e3 : k = g := e2; omega))).mono (fun k _ hF => by have := HGW.out; omega)
      have hwr := write32 u p a n c 69 g wr hx hgd hks hat hbound hg2 hrd2
      have HWR := Lib.hid hwr
      have HFE := Lib.hid hfe
      have HON := Lib.hid hon
      subst e
      have hbg : ad.block ≠ g := by have := HGW.out; omega
      · have hc2 := (hon.cell (a := ad.add k) (by rw [add_block]; exact hbg) (by rw [add_block]; have := HB01.out.size; omega)).trans ((HB01.out.cell (p := ad.add k) (by rw [add_block]; exact hB)).trans hc)
        clear hbg hx hv hrd hup hle hC hc hsz hgd hlen hfe hbound hks hrd2 hwr hon hat hB hg2
        go_wp2_with fail
        refine HWR.out.mono ?_
        rintro e w4 ⟨rfl, h4, o4⟩
        have H4 := Lib.hid h4
        have O4 := Lib.hid o4
        clear h4 o4 hc2
        go_wp2_with fail
        go_roundw
        case rel =>
          refine ⟨k + 1, by omega, by go_num, ?_, HON.out.trans O4.out (fun _ _ h => h)⟩
          rw [HFE.out]
          exact H4.out
        case measure => simp [intOf]; omega
    · obtain rfl : k = m := by omega
      have hal : upto ps k = ps.flatten := by rw [← HL.out]; exact upto_all ps
      rw [hal] at hat
      have hsz : (fed32 beg32 ps.flatten).2.2 = ps.flatten.length := by rw [fed32_size]; show 0 + _ = _; omega
      have hgd : Gd32 (fed32 beg32 ps.flatten) := by rw [← upto_all]; exact beg32_good.fed (upto_lt HP1.out.all _)
      have hg2 : g ≠ 2 := fun e2 => by have := HGW.out; have := HK.out.lt; omega
      have hsm := sumSome (fed32 beg32 ps.flatten) 69 g wr hgd (hon.ks (fun e2 => hg2 e2.symm) HK2.out) hat (by rw [hsz]; exact HN.out)
      have hresr : Row wr w.heap.size 24 (List.replicate 32 (.int .u8 0)) := HRES1.out.only hon (fun e2 => by have := HGW.out; have e3 : w.heap.size = g := e2; omega)
      have hbr : Below w.heap.size w wr := HB01.out.trans (hon.below HB01.out.size (fun k e2 => by have := HGW.out; have e3 : k = g := e2; omega))
      have HSM := Lib.hid hsm
      have HRR := Lib.hid hresr
      have HBR := Lib.hid hbr
      clear hal hat hon hsz hgd hg2 hsm hresr hbr
      go_wp2_with fail
      refine HSM.out.mono ?_
      rintro e w5 ⟨rfl, hb5⟩
      generalize hfin : fed32 beg32 ps.flatten = fin at *
      have HFIN := Lib.hid hfin
      clear hfin
      have hres5 : w5.heap[w.heap.size]? = some (.cells (List.replicate 32 (Value.int .u8 0)).toArray 24 (0, 0)) := (hb5.block _ (HRR.out.lt)).trans HRR.out
      have hbw5 : Below w.heap.size w w5 := HBR.out.trans (hb5.mono HBR.out.size)
      have hS4 : (Tryd.prog.info? 24).map (·.size) = some (dig32 fin).toArray.size := by rw [List.size_toArray, dig32_len]; kernel_rfl
      have hO4 : (List.replicate 32 (Value.int .u8 0)).toArray.size = (dig32 fin).toArray.size := by rw [List.size_toArray, List.size_toArray, dig32_len, List.length_replicate]
      have HRES5 := Lib.hid hres5
      have HBW5 := Lib.hid hbw5
      have HS4 := Lib.hid hS4
      have HO4 := Lib.hid hO4
      clear hres5 hbw5 hS4 hO4 hb5
      go_wp2_with (refine wpList_store_row rfl 24 (.tmp 2) (.tmp 18) rfl w.heap.size _ rfl rfl 24 _ HRES5.out HS4.out HO4.out (dig32_one fin) ?_)
      have hgot := setRow_heap w5 w.heap.size _ (dig32 fin).toArray _ _ HRES5.out
      refine bodyPost_ret (results_cell_row (by rfl) _ _ w.heap.size _ _ _ _ (by rfl) hgot (by rfl) rfl HS4.out) rfl ?_
      exact ⟨by rw [HFIN.out], below_setRow HBW5.out (Nat.le_refl _) _⟩

end Go.Proofs.YtcdfbcpcgkcojaaDoor
