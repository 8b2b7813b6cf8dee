/- The bytes of digits. -/
import Derived.Test.YtcdfbcpcgkcojaaDoorRowz
import Derived.Test.YtcdfbcpcgkcojaaDoorHex
import Derived.Lib.Bytealg
import Derived.Deep.QuietTactic
import Derived.BigQuiet
import Derived.Deep.CutRange
import Derived.Deep.CutBlock
import Derived.Deep.LoopGhost
import Derived.Deep.OwnRows
import Derived.Deep.RegionWith
import Derived.Laws.OwnMore
namespace Go.Proofs.YtcdfbcpcgkcojaaDoor
set_option maxRecDepth 100000
open Go.RowKit

theorem slite_any (s : ByteArray) (c : Int) (w : World) :
    Calls Tryd.prog 48 #[.string s, .int .u8 c] w fun e w' => e = .returned (.int .i64 (Lib.indexByte s.data.toList c.toNat.toUInt8)) ∧ w' = w := by
  go_enter Tryd.func48, Tryd.ntmps48
  go_wp2
  rw [run_callFunc_extern Tryd.func64 (by kernel_rfl) (by kernel_rfl) (by kernel_rfl) (e := Extern.BytealgIndexByte.indexByte) (by kernel_rfl), Lib.run_indexByteString]
  simp only [Result.andThen]
  rw [Oper.upon_value]
  go_wp2
  go_ret
  exact ⟨rfl, rfl⟩
theorem sindex_any (s : ByteArray) (c : Int) (w : World) :
    Calls Tryd.prog 33 #[.string s, .int .u8 c] w fun e w' => e = .returned (.int .i64 (Lib.indexByte s.data.toList c.toNat.toUInt8)) ∧ w' = w := by
  go_enter Tryd.func33, Tryd.ntmps33
  go_wp2_with fail
  refine (slite_any _ _ _).mono ?_
  rintro e w' ⟨rfl, rfl⟩
  go_wp2_with fail
  go_ret
  exact ⟨rfl, rfl⟩

/-- What a digit tells; -1, if it is none. -/
def dval (c : Nat) : Int := if 48 ≤ c ∧ c ≤ 57 then (c : Int) - 48 else if 97 ≤ c ∧ c ≤ 102 then (c : Int) - 87 else -1
theorem dval_eq : ∀ c, c < 256 → Lib.indexByte [48, 49, 50, 51, 52, 53, 54, 55, 56, 57, 97, 98, 99, 100, 101, 102] c.toUInt8 = dval c := by decide +kernel
theorem dval_lo (c : Nat) : -1 ≤ dval c := by unfold dval; split <;> (try split) <;> omega
theorem dval_hi (c : Nat) : dval c < 16 := by unfold dval; split <;> (try split) <;> omega
theorem dig_any (c : Nat) (hc : c < 256) (w : World) : Calls Tryd.prog 33 #[.string { data := #[48, 49, 50, 51, 52, 53, 54, 55, 56, 57, 97, 98, 99, 100, 101, 102] }, .int .u8 (c : Int)] w fun e w' => e = .returned (.int .i64 (dval c)) ∧ w' = w := by
  have h := sindex_any ⟨#[48, 49, 50, 51, 52, 53, 54, 55, 56, 57, 97, 98, 99, 100, 101, 102]⟩ (c : Int) w
  rw [show Lib.indexByte (ByteArray.mk #[48, 49, 50, 51, 52, 53, 54, 55, 56, 57, 97, 98, 99, 100, 101, 102]).data.toList (c : Int).toNat.toUInt8 = dval c from dval_eq c hc] at h
  exact h
theorem dor (h l : Nat) (hh : h < 16) (hl : l < 16) : bits .or .i64 ((h : Int) * 16) (l : Int) % 256 = ((16 * h + l : Nat) : Int) := by
  have : ∀ h : Fin 16, ∀ l : Fin 16, bits .or .i64 ((h.val : Int) * 16) (l.val : Int) % 256 = ((16 * h.val + l.val : Nat) : Int) := by decide +kernel
  exact this ⟨h, hh⟩ ⟨l, hl⟩

/-- A byte of a text; two digits as a byte; whether a text is digits, as far as so many pairs go. -/
def sat (s : ByteArray) (i : Nat) : Nat := (s.data.toList.getD i 0).toNat
theorem sat_lt (s : ByteArray) (i : Nat) : sat s i < 256 := UInt8.toNat_lt _
def pbv (s : ByteArray) (i : Nat) : Nat := 16 * (dval (sat s (2 * i))).toNat + (dval (sat s (2 * i + 1))).toNat
def goods (s : ByteArray) (k : Nat) : Prop := ∀ i, i < 2 * k → 0 ≤ dval (sat s i)

theorem sat_run (s : ByteArray) (i : Nat) (hi : i < s.size) (w : World) : (Instr.index 9 (.string s) (.int .i64 (i : Int))).run Tryd.prog w = .ok (.int .u8 ((sat s i : Nat) : Int)) w := by
  rw [run_index_string w 9 s .i64 (i : Int) Tryd.underlying9]
  simp [sat, hi]
  rfl
theorem goods_succ {s : ByteArray} {k : Nat} (h : goods s k) (h1 : 0 ≤ dval (sat s (2 * k))) (h2 : 0 ≤ dval (sat s (2 * k + 1))) : goods s (k + 1) := by
  intro i hi
  by_cases e1 : i = 2 * k
  · subst e1; exact h1
  · by_cases e2 : i = 2 * k + 1
    · subst e2; exact h2
    · exact h i (by omega)

set_option maxHeartbeats 400000 in
theorem parse_odd (s : ByteArray) (w : World) (hs : s.size < 1099511627776) (ho : s.size % 2 = 1) :
    Calls Tryd.prog 18 #[.string s] w fun e w' => e = .returned (.tuple #[.slice none 0 0, .iface 73 (.int .i64 2)]) ∧ w' = w := by
  have h1 : ((s.size : Int) % 2 != 0) = true := by rw [bne_iff_ne]; omega
  go_enter Tryd.func18, Tryd.ntmps18
  go_wp2_with fail
  go_ret2
  exact ⟨rfl, rfl⟩

/-- What Parse tells of a text of so many pairs. -/
def Parsed (s : ByteArray) (m : Nat) (w : World) (e : Ending) (w' : World) : Prop :=
  (goods s m ∧ e = .returned (.tuple #[.slice (some ⟨w.heap.size, 0, none⟩) m m, .nilIface]) ∧ Row w' w.heap.size 5 (Tabs .u8 (pbv s) m) ∧ Below w.heap.size w w') ∨
      (¬ goods s m ∧ e = .returned (.tuple #[.slice none 0 0, .iface 73 (.int .i64 2)]) ∧ Below w.heap.size w w')

set_option maxHeartbeats 1600000 in
theorem parse_even (s : ByteArray) (w : World) (hs : s.size < 1099511627776) (m : Nat) (ho : s.size = 2 * m) :
    Calls Tryd.prog 18 #[.string s] w (Parsed s m w) := by
  have h1 : ((s.size : Int) % 2 != 0) = false := by rw [bne_eq_false_iff_eq]; omega
  have h2 : (s.size : Int) / 2 = (m : Int) := by omega
  have HO := Lib.hid ho
  clear ho
  have hmk := run_make_row' (P := Tryd.prog) 22 5 (.int .u8 0) 1 Tryd.underlying22 u8_info rfl .i64 .i64 m (by have := HO.out; omega) (by have := HO.out; omega) w
  go_enter Tryd.func18, Tryd.ntmps18
  go_wp2_with fail
  have hrow0 : Row (w.alloc (.cells (madeCells #[Value.int .u8 0] m) 5)) w.heap.size 5 (Tab .u8 (pbv s) m 0) := by
    have h := heap_alloc_new w (.cells (madeCells #[Value.int .u8 0] m) 5)
    unfold Row
    rw [h, Tab_zero, ← toList_madeCells_one]
  have HROW0 := Lib.hid hrow0
  clear hrow0 hmk
  go_loopw [19] (fun i wr => ∃ k : Nat, k ≤ m ∧ i = .int .i64 k ∧ goods s k ∧ Row wr w.heap.size 5 (Tab .u8 (pbv s) m k) ∧ Below w.heap.size w wr) (fun i _ => m - (intOf i).toNat)
  case atStart => exact ⟨0, Nat.zero_le _, rfl, fun i hi => absurd hi (by omega), HROW0.out, (Below.refl _ _).alloc (Nat.le_refl _) _⟩
  case round =>
    obtain ⟨k, hkm, rfl, hgd, hrow, hbe⟩ := hrel
    by_cases hlt : k < m
    · have hi1 : ∀ w' : World, (Instr.index 9 (.string s) (.int .i64 (2 * (k : Int)))).run Tryd.prog w' = .ok (.int .u8 ((sat s (2 * k) : Nat) : Int)) w' := fun w' => by
        have := sat_run s (2 * k) (by rw [HO.out]; omega) w'
        rwa [Int.natCast_mul] at this
      have hi2 : ∀ w' : World, (Instr.index 9 (.string s) (.int .i64 (2 * (k : Int) + 1))).run Tryd.prog w' = .ok (.int .u8 ((sat s (2 * k + 1) : Nat) : Int)) w' := fun w' => by
        have := sat_run s (2 * k + 1) (by rw [HO.out]; omega) w'
        rwa [Int.natCast_add, Int.natCast_mul] at this
      have hc1 := dig_any (sat s (2 * k)) (sat_lt _ _)
      have hc2 := dig_any (sat s (2 * k + 1)) (sat_lt _ _)
      have l1 := dval_lo (sat s (2 * k))
      have l2 := dval_lo (sat s (2 * k + 1))
      have u1 := dval_hi (sat s (2 * k))
      have u2 := dval_hi (sat s (2 * k + 1))
      have hsucc := goods_succ (s := s) (k := k) hgd
      have hnot : ∀ i, i < 2 * m → ¬ 0 ≤ dval (sat s i) → ¬ goods s m := fun i hi h hg => h (hg i hi)
      have hn1 := hnot (2 * k) (by omega)
      have hn2 := hnot (2 * k + 1) (by omega)
      have hset := Tab_set .u8 (pbv s) m hlt
      have hpb : pbv s k = 16 * (dval (sat s (2 * k))).toNat + (dval (sat s (2 * k + 1))).toNat := rfl
      have s1 : IntKind.i64.wrap (2 * (k : Int)) = 2 * (k : Int) := IntWalk.i64_in _ (by omega)
      have s3 : IntKind.i64.wrap (2 * (k : Int) + 1) = 2 * (k : Int) + 1 := IntWalk.i64_in _ (by omega)
      generalize sat s (2 * k) = x at *
      generalize sat s (2 * k + 1) = y at *
      generalize dval x = hx at *
      generalize dval y = hy at *
      have kc := hrow.cell (k := k) (Tab_get _ _ _ _ hlt)
      have kf := hrow.free k
      have st := fun v => hrow.set k v
      have HSUCC := Lib.hid hsucc
      have HN1 := Lib.hid hn1
      have HN2 := Lib.hid hn2
      have HSET := Lib.hid hset
      have HPB := Lib.hid hpb
      have HBE := Lib.hid hbe
      have ST := Lib.hid st
      have HC1 := Lib.hid hc1
      have HC2 := Lib.hid hc2
      clear hsucc hnot hn1 hn2 hset hpb hbe st hrow hgd hc1 hc2
      by_cases g1 : 0 ≤ hx
      · obtain ⟨a, rfl⟩ := Int.eq_ofNat_of_zero_le g1
        have b1 : decide ((a : Int) < 0) = false := by simp
        by_cases g2 : 0 ≤ hy
        · obtain ⟨b, rfl⟩ := Int.eq_ofNat_of_zero_le g2
          have b2 : decide ((b : Int) < 0) = false := by simp
          go_upto_region 7 with fail
          go_quiet (first
            | (go_at_call_of 33 (Value.int IntKind.u8 (x : Int)); exact Calls.quiet_of_same (HC1.out _))
            | (go_at_call_of 33 (Value.int IntKind.u8 (y : Int)); exact Calls.quiet_of_same (HC2.out _)))
          go_wp2_with fail
          go_roundw
          case rel =>
            rw [dor a b (by omega) (by omega)]
            refine ⟨k + 1, by omega, by go_num, HSUCC.out g1 g2, ?_, (below_drewN HBE.out _).setCell (Nat.le_refl _) _⟩
            have h := ST.out (.int .u8 ((16 * a + b : Nat) : Int))
            rw [show 16 * a + b = pbv s k by rw [HPB.out]; omega, HSET.out] at h
            rw [show 16 * a + b = pbv s k by rw [HPB.out]; omega]
            exact h
          case measure => simp [intOf]; omega
        · have b2 : decide (hy < 0) = true := by simp; omega
          have hN := HN2.out g2
          have HNN := Lib.hid hN
          clear hN
          go_upto_region 7 with fail
          go_quiet (first
            | (go_at_call_of 33 (Value.int IntKind.u8 (x : Int)); exact Calls.quiet_of_same (HC1.out _))
            | (go_at_call_of 33 (Value.int IntKind.u8 (y : Int)); exact Calls.quiet_of_same (HC2.out _)))
          go_wp2_with fail
          go_ret2
          exact .inr ⟨HNN.out, rfl, below_drewN HBE.out _⟩
      · have b1 : decide (hx < 0) = true := by simp; omega
        have hN := HN1.out g1
        have HNN := Lib.hid hN
        clear hN
        go_upto_region 7 with fail
        go_quiet (first
          | (go_at_call_of 33 (Value.int IntKind.u8 (x : Int)); exact Calls.quiet_of_same (HC1.out _))
          | (go_at_call_of 33 (Value.int IntKind.u8 (y : Int)); exact Calls.quiet_of_same (HC2.out _)))
        go_wp2_with fail
        go_ret2
        exact .inr ⟨HNN.out, rfl, below_drewN HBE.out _⟩
    · obtain rfl : k = m := by omega
      have HROW := Lib.hid hrow
      have HBE := Lib.hid hbe
      have HGD := Lib.hid hgd
      clear hrow hbe hgd
      go_wp2_with fail
      go_ret2
      exact .inl ⟨HGD.out, rfl, by rw [← Tab_done]; exact HROW.out, HBE.out⟩

end Go.Proofs.YtcdfbcpcgkcojaaDoor
