/- Words as bytes, the highest one first. -/
import Derived.Test.YtcdfbcpcgkcojaaDoorEnd64
import Derived.Test.YtcdfbcpcgkcojaaDoorRowz
import Derived.RegionTactic
namespace Go.Proofs.YtcdfbcpcgkcojaaDoor
set_option maxRecDepth 100000
open Go.RowKit

/-- A byte of words. -/
def sby64 (l : List Nat) (i : Nat) : Nat := l.getD (i / 8) 0 / 2 ^ (8 * (8 - 1 - i % 8)) % 256
theorem sby64_eq (l : List Nat) (i : Nat) : ((l.getD (i / 8) 0 : Nat) : Int) / 2 ^ (8 * (7 - i % 8)) % 256 = ((sby64 l i : Nat) : Int) := by
  unfold sby64
  generalize l.getD (i / 8) 0 = x
  rw [show 8 - 1 - i % 8 = 7 - i % 8 from rfl]
  have e : (x : Int) / 2 ^ (8 * (7 - i % 8)) = ((x / 2 ^ (8 * (7 - i % 8)) : Nat) : Int) := by push_cast; rfl
  rw [e]
  generalize x / 2 ^ (8 * (7 - i % 8)) = y
  omega

set_option maxHeartbeats 800000 in
theorem spread64 (l : List Nat) (hl : l.length = 8) (hm : ∀ x ∈ l, x < 18446744073709551616) (g : Nat) (T : TypeId) (cap : Nat) (w : World) (hr : Row w g T (List.replicate 64 (.int .u8 0))) :
    Calls Tryd.prog 26 #[.agg (Us64 l).toArray, .slice (some ⟨g, 0, none⟩) 64 cap] w fun e w' => e = .returned (.tuple #[]) ∧ Row w' g T (Tabs .u8 (sby64 l) 64) ∧ Only (· = g) w w' := by
  have hgl := hr.lt
  have hbx : Row (w.alloc (.cells (Us64 l).toArray 55)) w.heap.size 55 (Us64 l) := Row.new _ _ _
  have hr0 : Row (w.alloc (.cells (Us64 l).toArray 55)) g T (Tab .u8 (sby64 l) 64 0) := by rw [Tab_zero]; exact hr.alloc _
  have HL := Lib.hid hl
  have HM := Lib.hid hm
  have HG := Lib.hid hgl
  have HBX := Lib.hid hbx
  have HR := Lib.hid hr0
  clear hl hm hr hgl hbx hr0
  go_enter Tryd.func26, Tryd.ntmps26
  go_wp2_with fail
  refine (bytes64 _).mono ?_
  rintro e w1 ⟨rfl, rfl⟩
  go_wp2_with fail
  go_loopw [9] (fun i wr => ∃ k : Nat, k ≤ 64 ∧ i = .int .i64 k ∧ Row wr g T (Tab .u8 (sby64 l) 64 k) ∧ Row wr w.heap.size 55 (Us64 l) ∧ Only (· = g) w wr) (fun i _ => 64 - (intOf i).toNat)
  case atStart => exact ⟨0, by decide, rfl, HR.out, HBX.out, (Only.refl _ _).alloc _⟩
  case round =>
    obtain ⟨k, hk, rfl, hrow, hbx, hon⟩ := hrel
    by_cases hlt : k < 64
    · have hd : k / 8 < 8 := by omega
      have c1 : wr.cell? ⟨w.heap.size, k / 8, none⟩ = some (.int .u64 ((l.getD (k / 8) 0 : Nat) : Int)) := hbx.cell (by rw [Us64_get, List.getD, List.getElem?_eq_getElem (by rw [HL.out]; exact hd)]; rfl)
      have c2 := hrow.cell (k := k) (Tab_get _ _ _ _ hlt)
      have f2 := hrow.free k
      have st := fun v => hrow.set k v
      have hset := Tab_set .u8 (sby64 l) 64 hlt
      have b1 : (0 : Int) ≤ (k : Int) / 8 := by omega
      have b2 : (k : Int) / 8 < 8 := by omega
      have b3 : (0 : Int) ≤ (k : Int) % 8 := by omega
      have b4 : (k : Int) % 8 < 8 := by omega
      have b5 : (k : Int) < 64 := by omega
      have b6 : (0 : Int) ≤ (k : Int) := by omega
      have d1 : ((k : Int) / 8).toNat = k / 8 := by omega
      have d2 : (8 * ((8 : Int) - 1 - (k : Int) % 8)).toNat = 8 * (8 - 1 - k % 8) := by omega
      have d3 : IntKind.i64.wrap (8 * ((8 : Int) - 1 - (k : Int) % 8)) = 8 * ((8 : Int) - 1 - (k : Int) % 8) := IntWalk.i64_in _ (by omega)
      have hv := sby64_eq l k
      generalize l.getD (k / 8) 0 = x at *
      have HV := Lib.hid hv
      clear hv
      have ST := Lib.hid st
      have HSET := Lib.hid hset
      have HON := Lib.hid hon
      have HBX2 := Lib.hid hbx
      clear st hset hon hbx hrow
      go_upto_region 5 with fail
      go_region
      go_wp2_with fail
      go_roundw
      case rel =>
        rw [HV.out]
        refine ⟨k + 1, by omega, by go_num, ?_, ?_, (HON.out.setCell (.inl rfl) _).drew⟩
        · have := ST.out (.int .u8 ((sby64 l k : Nat) : Int))
          rw [HSET.out] at this
          exact this
        · exact HBX2.out.setCell (fun e => by have := HG.out; have e' : w.heap.size = g := e; omega) _
      case measure => simp [intOf]; omega
    · obtain rfl : k = 64 := by omega
      have HROW := Lib.hid hrow
      have HON := Lib.hid hon
      clear hrow hon hbx
      go_wp2_with fail
      go_end0
      exact ⟨rfl, by rw [← Tab_done]; exact HROW.out, HON.out⟩

end Go.Proofs.YtcdfbcpcgkcojaaDoor
