/- The sums of as many bytes of a kind: the law's own walk. -/
import Derived.Test.YtcdfbcpcgkcojaaDoorBoth
import Derived.Test.YtcdfbcpcgkcojaaDoorLaid
import Derived.Laws.OwnMore
namespace Go.Proofs.YtcdfbcpcgkcojaaDoor
set_option maxRecDepth 100000
open Go.RowKit

/-- So many bytes of a kind, the others 0. -/
def part (c m k : Nat) : List Value := Ny (List.replicate k c ++ List.replicate (m - k) 0)
theorem part_len {c m k : Nat} (h : k ≤ m) : (part c m k).length = m := by
  unfold part
  rw [Ny_len, List.length_append, List.length_replicate, List.length_replicate]
  omega
theorem part_set {c m k : Nat} (h : k < m) : (part c m k).set k (.int .u8 ((c : Nat) : Int)) = part c m (k + 1) := by
  unfold part
  have e : m - k = (m - (k + 1)) + 1 := by omega
  rw [e, List.replicate_succ, Ny_append, List.set_append_right _ _ (by rw [Ny_len, List.length_replicate]; exact Nat.le_refl _), Ny_len, List.length_replicate, Nat.sub_self]
  rw [List.replicate_succ', List.append_assoc, Ny_append]
  rfl
theorem part_all (c m : Nat) : part c m m = Ny (List.replicate m c) := by
  unfold part
  rw [Nat.sub_self]
  simp
theorem part_none (c m : Nat) : part c m 0 = List.replicate m (.int .u8 0) := by
  unfold part Ny
  simp

theorem u8_inf : ((Tryd.prog.info? 5).map fun i => (i.zero, i.size, i.bytes)) = some (some (.int .u8 0), 1, 1) := by kernel_rfl

set_option maxHeartbeats 1600000 in
theorem long_law (c n : Nat) (w : World) (hk : Ks32 w) (hs : Ss32 w) (hc : c < 256) (hn : n < 65536) :
    Calls Tryd.prog 6 #[.int .u8 (c : Int), .int .u16 (n : Int)] w fun e w' => e = .returned (.bool true) ∧ Below w.heap.size w w' := by
  obtain ⟨i0, hi, hz0, hz1, hz2⟩ := info_parts u8_inf
  have hmod : (n : Int) % 3000 = ((n % 3000 : Nat) : Int) := by omega
  have hm : n % 3000 ≤ 3000 := by omega
  have hx : ∀ x ∈ List.replicate (n % 3000) c, x < 256 := fun x h => by rw [List.eq_of_mem_replicate h]; exact hc
  have hlx : (List.replicate (n % 3000) c).length = n % 3000 := List.length_replicate
  generalize n % 3000 = m at *
  have he32 := eql32 (fed32 beg32 (List.replicate m c))
  have he64 := eql64 (fed64 beg64 (List.replicate m c))
  have HE32 := Lib.hid he32
  have HE64 := Lib.hid he64
  have HK := Lib.hid hk
  have HS := Lib.hid hs
  have HI := Lib.hid hi
  have HZ0 := Lib.hid hz0
  have HZ1 := Lib.hid hz1
  have HZ2 := Lib.hid hz2
  have HMOD := Lib.hid hmod
  have HX := Lib.hid hx
  have HLX := Lib.hid hlx
  clear hk hs hi hz0 hz1 hz2 hmod he32 he64 hx hlx
  go_enter Tryd.func6, Tryd.ntmps6
  go_wp2_with (at_make; refine wpList_make_full _ rfl _ _ 22 rfl w.heap.size 5 i0 (.int .u8 0) 1 Tryd.underlying22 HI.out HZ0.out HZ1.out _ _ _ _ m rfl rfl ?b0 ?b5 ?b1 ?b2 ?b3 ?_)
  case b0 => exact HMOD.out
  case b5 => exact HMOD.out
  case b1 => rw [HZ2.out]; omega
  case b2 => unfold maxLen; omega
  case b3 => omega
  intro w1 hown hgrow
  have hb1 : Below w.heap.size w w1 := (Below.refl _ _).grown hgrow (Nat.le_refl _) (fun k h => by cases h)
  have hown1 : w1.ownsRow w.heap.size 5 1 (.slice (some ⟨w.heap.size, 0, none⟩) m m) m (part c m 0) := by
    rw [part_none]
    have e : (madeCells #[Value.int .u8 0] m).toList = List.replicate m (.int .u8 0) := toList_madeCells_one _ _
    rw [← e]
    exact hown
  have HOWN := Lib.hid hown1
  have HB1 := Lib.hid hb1
  clear hown hgrow hb1 hown1
  go_wp2_with fail
  go_loopw [6] (fun i wr => ∃ k : Nat, k ≤ m ∧ i = .int .i64 k ∧ wr.ownsRow w.heap.size 5 1 (.slice (some ⟨w.heap.size, 0, none⟩) m m) m (part c m k) ∧ Below w.heap.size w wr) (fun i _ => m - (intOf i).toNat)
  case atStart => exact ⟨0, Nat.zero_le _, rfl, HOWN.out, HB1.out⟩
  case round =>
    obtain ⟨k, hkm, rfl, hown, hbe⟩ := hrel
    by_cases hlt : k < m
    · have hcell : wr.cell? ⟨w.heap.size, k, none⟩ = some (.int .u8 ((if k < k then c else 0 : Nat) : Int)) := by
        rw [hown.cellAt k (by omega), if_neg (by omega)]
        unfold part
        rw [Ny_append, List.getElem?_append_right (by rw [Ny_len, List.length_replicate]; exact Nat.le_refl _), Ny_len, List.length_replicate, Nat.sub_self, Ny_get, List.getElem?_replicate, if_pos (by omega)]
        rfl
      rw [if_neg (Nat.lt_irrefl k)] at hcell
      have hfree := hown.frozenAt k
      have hst := hown.stored k (.int .u8 (c : Int))
      rw [part_set hlt] at hst
      have hb2 : Below w.heap.size w (wr.setCell ⟨w.heap.size, k, none⟩ (.int .u8 (c : Int))) := hbe.setCell (Nat.le_refl _) _
      have HST := Lib.hid hst
      have HB2 := Lib.hid hb2
      clear hown hbe hst hb2
      go_wp2_with fail
      go_roundw
      case rel => exact ⟨k + 1, by omega, by go_num, HST.out.1, HB2.out⟩
      case measure => simp [intOf]; omega
    · obtain rfl : k = m := by omega
      rw [part_all] at hown
      have hrd := Rd.of_own hown
      have HBE := Lib.hid hbe
      have HR := Lib.hid hrd
      clear hown hbe hrd
      go_wp2_with fail
      refine (one256 (List.replicate k c) (some ⟨w.heap.size, 0, none⟩) k k _ wr (HK.out.below HBE.out HK.out.lt) (HS.out.below HBE.out HS.out.lt) HX.out HR.out (by omega)).mono ?_
      rintro e wa ⟨rfl, hba⟩
      have hr1 := HR.out.belowAll hba
      have HR1 := Lib.hid hr1
      have hb0a := HBE.out.trans (hba.mono HBE.out.size)
      have HBA := Lib.hid hb0a
      clear hba hr1 hb0a
      go_wp2_with fail
      refine (doc32 (List.replicate k c) (some ⟨w.heap.size, 0, none⟩) k k _ wa HX.out HR1.out (by omega)).mono ?_
      rintro e wb ⟨rfl, hbb⟩
      have hb0b := HBA.out.trans (hbb.mono HBA.out.size)
      have HBB := Lib.hid hb0b
      have hr2 := HR1.out.belowAll hbb
      have HR2 := Lib.hid hr2
      clear hbb hb0b hr2
      generalize dig32 (fed32 beg32 (List.replicate k c)) = D at *
      go_wp2_with (refine wpList_binop _ .eql 24 24 (.tmp 23) (.tmp 25) rfl (by rfl) (.agg D.toArray) (.agg D.toArray) (.bool true) rfl rfl (grd32 _ _ _ _ _ _) (HE32.out _) ?_)
      refine (one512 (List.replicate k c) (some ⟨w.heap.size, 0, none⟩) k k _ wb (HK.out.great.below HBB.out HK.out.lt) (HS.out.great.below HBB.out HS.out.lt) HX.out HR2.out (by omega)).mono ?_
      rintro e wc ⟨rfl, hbc⟩
      have hb0c := HBB.out.trans (hbc.mono HBB.out.size)
      have HBC := Lib.hid hb0c
      have hr3 := HR2.out.belowAll hbc
      have HR3 := Lib.hid hr3
      clear hbc hb0c hr3
      go_wp2_with fail
      refine (doc64 (List.replicate k c) (some ⟨w.heap.size, 0, none⟩) k k _ wc HX.out HR3.out (by omega)).mono ?_
      rintro e wd ⟨rfl, hbd⟩
      have hb0d := HBC.out.trans (hbd.mono HBC.out.size)
      have HBD := Lib.hid hb0d
      clear hbd hb0d
      generalize dig64 (fed64 beg64 (List.replicate k c)) = E at *
      go_wp2_with (refine wpList_binop _ .eql 27 27 (.tmp 30) (.tmp 32) rfl (by rfl) (.agg E.toArray) (.agg E.toArray) (.bool true) rfl rfl (grd64 _ _ _ _ _ _) (HE64.out _) ?_)
      refine (awake_any wd (HK.out.below HBD.out HK.out.lt) (HS.out.below HBD.out HS.out.lt)).mono ?_
      rintro e we ⟨rfl, hbe⟩
      have hb0e := HBD.out.trans (hbe.mono HBD.out.size)
      have HBE5 := Lib.hid hb0e
      clear hbe hb0e
      go_wp2_with fail
      go_ret
      exact ⟨rfl, HBE5.out⟩
end Go.Proofs.YtcdfbcpcgkcojaaDoor
