/- Bytes as digits and back; any text's bytes, or that it is none: the law's own walk. -/
import Derived.Test.YtcdfbcpcgkcojaaDoorParse
import Derived.Test.YtcdfbcpcgkcojaaDoorRHex
import Derived.Test.YtcdfbcpcgkcojaaDoorAwk
import Derived.Test.YtcdfbcpcgkcojaaDoorAsE
import Derived.Test.YtcdfbcpcgkcojaaDoorEq
namespace Go.Proofs.YtcdfbcpcgkcojaaDoor
set_option maxRecDepth 100000
open Go.RowKit

theorem hexs_get : ∀ (xs : List Nat) (i : Nat) (x : Nat), xs[i]? = some x → (hexs xs)[2 * i]? = some (dgt (x / 16)) ∧ (hexs xs)[2 * i + 1]? = some (dgt (x % 16))
  | [], i, x, h => by simp at h
  | c :: l, 0, x, h => by
    obtain rfl : c = x := by simpa using h
    exact ⟨rfl, rfl⟩
  | c :: l, i + 1, x, h => by
    have := hexs_get l i x (by simpa using h)
    have e : hexs (c :: l) = dgt (c / 16) :: dgt (c % 16) :: hexs l := rfl
    rw [e, show 2 * (i + 1) = 2 * i + 1 + 1 by omega]
    exact this
theorem dval_dgt : ∀ i, i < 16 → dval (dgt i).toNat = i := by decide +kernel
theorem dgt_dval : ∀ c, c < 256 → 0 ≤ dval c → dgt (dval c).toNat = UInt8.ofNat c := by decide +kernel
theorem sat_hexs {xs : List Nat} (hx : ∀ x ∈ xs, x < 256) {i x : Nat} (h : xs[i]? = some x) : dval (sat ⟨(hexs xs).toArray⟩ (2 * i)) = ((x / 16 : Nat) : Int) ∧ dval (sat ⟨(hexs xs).toArray⟩ (2 * i + 1)) = ((x % 16 : Nat) : Int) := by
  have h256 : x < 256 := hx x (List.mem_of_getElem? h)
  obtain ⟨h1, h2⟩ := hexs_get xs i x h
  unfold sat
  rw [List.getD, List.getD]
  simp only [h1, h2, Option.getD_some]
  exact ⟨dval_dgt _ (by omega), dval_dgt _ (by omega)⟩
theorem hexs_good {xs : List Nat} (hx : ∀ x ∈ xs, x < 256) : goods ⟨(hexs xs).toArray⟩ xs.length := by
  intro j hj
  have hi : j / 2 < xs.length := by omega
  obtain ⟨h1, h2⟩ := sat_hexs hx (List.getElem?_eq_getElem hi)
  by_cases e : j % 2 = 0
  · rw [show j = 2 * (j / 2) by omega, h1]; omega
  · rw [show j = 2 * (j / 2) + 1 by omega, h2]; omega
theorem hexs_back {xs : List Nat} (hx : ∀ x ∈ xs, x < 256) : Tabs .u8 (pbv ⟨(hexs xs).toArray⟩) xs.length = xs.map fun x => .int .u8 ((x : Nat) : Int) := by
  refine List.ext_getElem? fun i => ?_
  by_cases hi : i < xs.length
  · obtain ⟨h1, h2⟩ := sat_hexs hx (List.getElem?_eq_getElem hi)
    rw [Tabs_get _ _ _ hi, List.getElem?_map, List.getElem?_eq_getElem hi]
    unfold pbv
    rw [h1, h2, Int.toNat_natCast, Int.toNat_natCast]
    simp only [Option.map_some, Option.some.injEq, Value.int.injEq, true_and]
    omega
  · rw [List.getElem?_eq_none (by rw [Tabs_length]; omega), List.getElem?_eq_none (by simp; omega)]
/-- The bytes that a text's pairs tell. -/
def pbs (s : ByteArray) (m : Nat) : List Nat := (List.range m).map (pbv s)
theorem pbs_lt {s : ByteArray} {m : Nat} : ∀ x ∈ pbs s m, x < 256 := by
  intro x hx
  simp only [pbs, List.mem_map] at hx
  obtain ⟨i, _, rfl⟩ := hx
  have h1 := dval_hi (sat s (2 * i))
  have h2 := dval_hi (sat s (2 * i + 1))
  unfold pbv
  omega
theorem pbs_cells (s : ByteArray) (m : Nat) : Tabs .u8 (pbv s) m = (pbs s m).map fun x => .int .u8 ((x : Nat) : Int) := by simp [Tabs, pbs]
theorem hexs_pbs {s : ByteArray} {m : Nat} (hg : goods s m) (hs : s.size = 2 * m) : (⟨(hexs (pbs s m)).toArray⟩ : ByteArray) = s := by
  have hsl : s.data.toList.length = 2 * m := by have : s.data.size = 2 * m := hs; simpa using this
  have hpl : (pbs s m).length = m := by simp [pbs]
  have key : hexs (pbs s m) = s.data.toList := by
    refine List.ext_getElem? fun j => ?_
    by_cases hj : j < 2 * m
    · have hi : j / 2 < m := by omega
      have hp : (pbs s m)[j / 2]? = some (pbv s (j / 2)) := by simp [pbs, hi]
      obtain ⟨h1, h2⟩ := hexs_get _ _ _ hp
      have hsat : ∀ k, k < 2 * m → s.data.toList[k]? = some (UInt8.ofNat (sat s k)) := fun k hk => by
        have hk2 : k < s.data.toList.length := by omega
        unfold sat
        rw [List.getD, List.getElem?_eq_getElem hk2]
        simp
      have g1 := hg (2 * (j / 2)) (by omega)
      have g2 := hg (2 * (j / 2) + 1) (by omega)
      have u1 := dval_hi (sat s (2 * (j / 2)))
      have u2 := dval_hi (sat s (2 * (j / 2) + 1))
      have e1 : pbv s (j / 2) / 16 = (dval (sat s (2 * (j / 2)))).toNat := by unfold pbv; omega
      have e2 : pbv s (j / 2) % 16 = (dval (sat s (2 * (j / 2) + 1))).toNat := by unfold pbv; omega
      by_cases e : j % 2 = 0
      · rw [e1, dgt_dval _ (sat_lt _ _) g1] at h1
        rw [show j = 2 * (j / 2) by omega, h1, hsat _ (by omega)]
      · rw [e2, dgt_dval _ (sat_lt _ _) g2] at h2
        rw [show j = 2 * (j / 2) + 1 by omega, h2, hsat _ (by omega)]
    · rw [List.getElem?_eq_none (by rw [hexs_length, hpl]; omega), List.getElem?_eq_none (by omega)]
  rw [key]

set_option maxHeartbeats 400000 in
theorem hex_awake (a : Option Addr) (n cap : Nat) (s : ByteArray) (w : World) (hk : Ks32 w) (hs : Ss32 w) (h : 300 < n ∨ 300 < s.size) :
    Calls Tryd.prog 7 #[.slice a n cap, .string s] w fun e w' => e = .returned (.bool true) ∧ Below w.heap.size w w' := by
  have HK := Lib.hid hk
  have HS := Lib.hid hs
  clear hk hs
  by_cases h1 : 300 < n
  · have b1 : (300 : Int) < (n : Int) := by omega
    go_enter Tryd.func7, Tryd.ntmps7
    go_wp2_with fail
    refine (awake_any w HK.out HS.out).mono ?_
    rintro e w1 ⟨rfl, hb⟩
    have HB := Lib.hid hb
    clear hb
    go_wp2_with fail
    go_ret
    exact ⟨rfl, HB.out⟩
  · have b1 : (n : Int) ≤ 300 := by omega
    have b2 : (300 : Int) < (s.size : Int) := by omega
    go_enter Tryd.func7, Tryd.ntmps7
    go_wp2_with fail
    refine (awake_any w HK.out HS.out).mono ?_
    rintro e w1 ⟨rfl, hb⟩
    have HB := Lib.hid hb
    clear hb
    go_wp2_with fail
    go_ret
    exact ⟨rfl, HB.out⟩

end Go.Proofs.YtcdfbcpcgkcojaaDoor
