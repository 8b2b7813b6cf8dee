/- Whether fields are more than is asked of; for any fields that came in. -/
import Derived.Test.YtaekepejeokciaaDoorFields
namespace Go.Proofs.YtaekepejeokciaaDoor
set_option maxRecDepth 100000
open Go.RowKit

/-- How much fields are. -/
def tot (l : List Fd) : Nat := l.length + (l.map fun f => f.b.length).sum
/-- .. and how much the first of them. -/
def part (l : List Fd) (j : Nat) : Nat := l.length + ((l.take j).map fun f => f.b.length).sum
theorem part_succ {l : List Fd} {j : Nat} {f : Fd} (h : l[j]? = some f) : part l (j + 1) = part l j + f.b.length := by
  unfold part
  rw [List.take_add_one, h]
  simp [Nat.add_assoc]
theorem part_all {l : List Fd} {j : Nat} (h : l.length ≤ j) : part l j = tot l := by unfold part tot; rw [List.take_of_length_le h]
theorem sum_take_le : ∀ (l : List Nat) (j : Nat), (l.take j).sum ≤ l.sum
  | [], j => by simp
  | x :: l, 0 => by simp
  | x :: l, j + 1 => by have := sum_take_le l j; simp; omega
theorem part_le (l : List Fd) (j : Nat) : part l j ≤ tot l := by
  unfold part tot
  have := sum_take_le (l.map fun f => f.b.length) j
  rw [List.map_take]
  omega

/-- Bytes' length in a field, and its cell. -/
theorem Fds.at_ {w : World} {F : Nat → Prop} {a : Option Addr} {n : Nat} {l : List Fd} (h : Fds w F a n l) {j : Nat} (hj : j < n) : ∃ f ad A c, l[j]? = some f ∧ a = some ad ∧ FdAt w F (ad.add (j * 4)) f A c := by
  have hl : j < l.length := by rw [h.1]; exact hj
  obtain ⟨ad, A, c, e, hf⟩ := h.2 j l[j] (List.getElem?_eq_getElem hl)
  exact ⟨_, ad, A, c, List.getElem?_eq_getElem hl, e, hf⟩

set_option maxHeartbeats 400000 in
theorem great_any (a : Option Addr) (n c : Nat) (l : List Fd) (F : Nat → Prop) (w : World) (h : Fds w F a n l) (hn : n ≤ 140737488351232) :
    Calls Tryd.prog 24 #[.slice a n c] w fun e w' => e = .returned (.bool (decide (400 < tot l))) ∧ w = w' := by
  have HL := Lib.hid h.1
  have H := Lib.hid h
  clear h
  go_enter Tryd.func24, Tryd.ntmps24
  go_wp2_with fail
  go_loop [3, 4] (fun s i => ∃ j m : Nat, j ≤ n ∧ i = .int .i64 j ∧ s = .int .i64 m ∧ part l j = m ∧ m ≤ 281474976710656) (fun _ i => n - (intOf i).toNat)
  case atStart => exact ⟨0, n, Nat.zero_le _, rfl, rfl, by unfold part; rw [HL.out]; simp, by omega⟩
  case round =>
    obtain ⟨j, m, hj, rfl, rfl, hp, hm⟩ := hrel
    have HP := Lib.hid hp
    clear hp
    by_cases hlt : j < n
    · obtain ⟨f, ad, A, c', hf, rfl, hfd⟩ := H.out.at_ hlt
      have HF := Lib.hid hf
      have k2 : w.cell? ⟨(ad.add (j * 4)).block, (ad.add (j * 4)).off + 2, none⟩ = some (.slice A f.b.length c') := hfd.c2
      have hb : f.b.length ≤ 140737488351232 := by have := hfd.cap; have := hfd.top; omega
      clear hf hfd
      by_cases hg : m ≤ 400
      · have hg' : (m : Int) ≤ 400 := by omega
        go_wp2_with fail
        go_round
        case rel => exact ⟨j + 1, m + f.b.length, by omega, by go_num, by go_num, by rw [part_succ HF.out, HP.out], by omega⟩
        case measure => simp [intOf]; omega
      · have hg' : ¬ (m : Int) ≤ 400 := by omega
        have hg2 : (400 : Int) < m := by omega
        have ht : decide (400 < tot l) = true := by have := part_le l j; have := HP.out; simp; omega
        have HT := Lib.hid ht
        clear ht
        go_wp2_with fail
        go_ret
        exact ⟨by rw [HT.out]; rfl, rfl⟩
    · have ht : tot l = m := by rw [← HP.out]; exact (part_all (by rw [HL.out]; omega)).symm
      have HT := Lib.hid ht
      clear ht
      by_cases hg : 400 < m
      · have hg' : (400 : Int) < m := by omega
        have ht : decide (400 < tot l) = true := by have := HT.out; simp; omega
        have HT2 := Lib.hid ht
        clear ht
        go_wp2_with fail
        go_ret
        exact ⟨by rw [HT2.out]; rfl, rfl⟩
      · have hg' : ¬ (400 : Int) < m := by omega
        have ht : decide (400 < tot l) = false := by have := HT.out; simp; omega
        have HT2 := Lib.hid ht
        clear ht
        go_wp2_with fail
        go_ret
        exact ⟨by rw [HT2.out]; rfl, rfl⟩

end Go.Proofs.YtaekepejeokciaaDoor
