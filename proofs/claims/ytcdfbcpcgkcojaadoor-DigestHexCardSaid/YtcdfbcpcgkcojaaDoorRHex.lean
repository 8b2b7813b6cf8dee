/- The document's digits of bytes. -/
import Derived.Test.YtcdfbcpcgkcojaaDoorHex
import Derived.Test.YtcdfbcpcgkcojaaDoorRowz
import Derived.Deep.QuietTactic
import Derived.BigQuiet
import Derived.Deep.CutRange
import Derived.Deep.CutBlock
import Derived.RegionTactic
namespace Go.Proofs.YtcdfbcpcgkcojaaDoor
set_option maxRecDepth 100000
open Go.RowKit

theorem dgt_cut : ∀ i, i < 16 → ∀ w : World, (Instr.slice 9 (.string { data := #[48, 49, 50, 51, 52, 53, 54, 55, 56, 57, 97, 98, 99, 100, 101, 102] }) (some (.int .i64 ((i : Nat) : Int))) (some (.int .i64 (((i : Nat) : Int) + 1))) none).run Tryd.prog w = .ok (.string ⟨#[dgt i]⟩) w
  | 0, _, _ => by kernel_rfl
  | 1, _, _ => by kernel_rfl
  | 2, _, _ => by kernel_rfl
  | 3, _, _ => by kernel_rfl
  | 4, _, _ => by kernel_rfl
  | 5, _, _ => by kernel_rfl
  | 6, _, _ => by kernel_rfl
  | 7, _, _ => by kernel_rfl
  | 8, _, _ => by kernel_rfl
  | 9, _, _ => by kernel_rfl
  | 10, _, _ => by kernel_rfl
  | 11, _, _ => by kernel_rfl
  | 12, _, _ => by kernel_rfl
  | 13, _, _ => by kernel_rfl
  | 14, _, _ => by kernel_rfl
  | 15, _, _ => by kernel_rfl
  | _ + 16, h, _ => by omega
set_option maxHeartbeats 800000 in
theorem rhex_any (xs : List Nat) (a : Option Addr) (n cap : Nat) (F : Nat → Prop) (w : World) (hx : ∀ x ∈ xs, x < 256) (hn : n ≤ 35184372088832) (hr : Rd w F a n (xs.map fun x => .int .u8 ((x : Nat) : Int))) :
    Calls Tryd.prog 19 #[.slice a n cap] w fun e w' => e = .returned (.string ⟨(hexs xs).toArray⟩) ∧ Below w.heap.size w w' := by
  have hl : xs.length = n := by have := hr.1; simpa using this
  have HX := Lib.hid hx
  have HR := Lib.hid hr
  have HL := Lib.hid hl
  clear hx hr hl
  go_enter Tryd.func19, Tryd.ntmps19
  go_wp2_with fail
  go_loopw [4, 5] (fun s i wr => ∃ k q : Nat, k ≤ n ∧ i = .int .i64 k ∧ s = .string ⟨(hexs (xs.take k)).toArray⟩ ∧ wr = w.drewN q) (fun _ i _ => n - (intOf i).toNat)
  case atStart => exact ⟨0, 0, Nat.zero_le _, rfl, rfl, rfl⟩
  case round =>
    obtain ⟨k, q, hkn, rfl, rfl, rfl⟩ := hrel
    by_cases hlt : k < n
    · obtain ⟨ad, e, hF, hB, hC⟩ := HR.out.2 (by omega)
      have hlen : k < xs.length := by rw [HL.out]; exact hlt
      have hc := hC k (.int .u8 ((xs.getD k 0 : Nat) : Int)) (by rw [List.getElem?_map, List.getD, List.getElem?_eq_getElem hlen]; rfl)
      have h256 : xs.getD k 0 < 256 := by rw [List.getD, List.getElem?_eq_getElem hlen]; exact HX.out _ (List.getElem_mem _)
      have hup : hexs (xs.take (k + 1)) = hexs (xs.take k) ++ [dgt (xs.getD k 0 / 16), dgt (xs.getD k 0 % 16)] := by
        rw [← hexs_snoc, List.take_add_one, List.getD, List.getElem?_eq_getElem hlen]; rfl
      generalize xs.getD k 0 = x at *
      generalize hS : hexs (xs.take k) = S at *
      have HSL := Lib.hid hS
      clear hS
      have hd1 : ∀ w' : World, (Instr.slice 9 (.string { data := #[48, 49, 50, 51, 52, 53, 54, 55, 56, 57, 97, 98, 99, 100, 101, 102] }) (some (.int .i64 ((x : Int) / 16))) (some (.int .i64 ((x : Int) / 16 + 1))) none).run Tryd.prog w' = .ok (.string ⟨#[dgt (x / 16)]⟩) w' := fun w' => by
        have := dgt_cut (x / 16) (by omega) w'
        rwa [Int.natCast_ediv] at this
      have hd2 : ∀ w' : World, (Instr.slice 9 (.string { data := #[48, 49, 50, 51, 52, 53, 54, 55, 56, 57, 97, 98, 99, 100, 101, 102] }) (some (.int .i64 ((x : Int) % 16))) (some (.int .i64 ((x : Int) % 16 + 1))) none).run Tryd.prog w' = .ok (.string ⟨#[dgt (x % 16)]⟩) w' := fun w' => by
        have := dgt_cut (x % 16) (by omega) w'
        rwa [Int.natCast_emod] at this
      have s1 : IntKind.i64.wrap ((x : Int) / 16) = (x : Int) / 16 := IntWalk.i64_in _ (by omega)
      have s2 : IntKind.i64.wrap ((x : Int) / 16 + 1) = (x : Int) / 16 + 1 := IntWalk.i64_in _ (by omega)
      have s3 : Int.tmod (x : Int) 16 = (x : Int) % 16 := by rw [Int.tmod_eq_emod_of_nonneg (by omega)]
      have s5 : IntKind.i64.wrap ((x : Int) % 16) = (x : Int) % 16 := IntWalk.i64_in _ (by omega)
      have s4 : IntKind.i64.wrap ((x : Int) % 16 + 1) = (x : Int) % 16 + 1 := IntWalk.i64_in _ (by omega)
      have hsz : S.length ≤ 70368744177664 := by rw [← HSL.out, hexs_length, List.length_take]; omega
      generalize dgt (x / 16) = p1 at *
      generalize dgt (x % 16) = p2 at *
      have ha1 : ∀ w' : World, (Op.stringOp .add ⟨S.toArray⟩ ⟨#[p1]⟩).run Tryd.prog w' = .ok (.string ⟨(S ++ [p1]).toArray⟩) w' := fun w' => by
        rw [run_string_add_sum w' _ _ (by simp [ByteArray.size]; omega)]
        congr 2
        first | done | (apply ByteArray.ext; simp [ByteArray.data_append])
      have ha2 : ∀ w' : World, (Op.stringOp .add ⟨(S ++ [p1]).toArray⟩ ⟨#[p2]⟩).run Tryd.prog w' = .ok (.string ⟨(S ++ [p1, p2]).toArray⟩) w' := fun w' => by
        rw [run_string_add_sum w' _ _ (by simp [ByteArray.size]; omega)]
        congr 2
        first | done | (apply ByteArray.ext; simp [ByteArray.data_append])
      have hn1 : ∃ R, R = S ++ [p1] := ⟨_, rfl⟩
      obtain ⟨R1, hR1⟩ := hn1
      obtain ⟨R2, hR2⟩ : ∃ R, R = S ++ [p1, p2] := ⟨_, rfl⟩
      rw [← hR1] at ha1 ha2
      rw [← hR2] at ha2 hup
      clear hR1 hR2
      have HUP := Lib.hid hup
      subst e
      clear hup hC hF hB hlen
      go_upto_region 7 with fail
      go_quiet (fail)
      go_wp2_with fail
      clear s1 s2 s3 s4 s5 hd1 hd2 ha1 ha2
      go_roundw
      case rel => exact ⟨k + 1, _, by omega, by go_num, by rw [HUP.out], rfl⟩
      case measure => simp [intOf]; omega
    · obtain rfl : k = n := by omega
      have hal : xs.take k = xs := List.take_of_length_le (by rw [HL.out]; exact Nat.le_refl _)
      rw [hal]
      clear hal
      go_wp2_with fail
      go_ret
      exact ⟨rfl, below_drewN (Below.refl _ _) _⟩

end Go.Proofs.YtcdfbcpcgkcojaaDoor
