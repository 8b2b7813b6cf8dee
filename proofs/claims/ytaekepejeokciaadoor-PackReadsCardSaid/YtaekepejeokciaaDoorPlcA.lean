/- Rows of numbers held against each other; for rows that are the same. -/
import Derived.Test.YtaekepejeokciaaDoorErrJ
import Derived.Test.YtaekepejeokciaaDoorEq
namespace Go.Proofs.YtaekepejeokciaaDoor
set_option maxRecDepth 100000
open Go.RowKit

/-- Numbers as cells. -/
def Is (l : List Int) : List Value := l.map fun c => .int .i64 c
theorem Is_length (l : List Int) : (Is l).length = l.length := by simp [Is]
theorem Is_append (l m : List Int) : Is (l ++ m) = Is l ++ Is m := by simp [Is]
theorem Is_get (l : List Int) (k : Nat) : (Is l)[k]? = l[k]?.map fun c => .int .i64 c := by simp [Is]
theorem Is_one (l : List Int) : ∀ u ∈ Is l, u.oneCell' = true := by
  intro u hu
  simp only [Is, List.mem_map] at hu
  obtain ⟨c, _, rfl⟩ := hu
  rfl
theorem Rd.num {w : World} {F : Nat → Prop} {a : Option Addr} {n k : Nat} {l : List Int} (h : Rd w F a n (Is l)) (hk : k < n) :
    ∃ ad c, a = some ad ∧ ad.block < w.heap.size ∧ l[k]? = some c ∧ w.cell? (ad.add k) = some (.int .i64 c) := by
  obtain ⟨ad, u, e, hb, hu, hc⟩ := h.at_ hk
  rw [Is_get] at hu
  cases hl : l[k]? with
  | none => rw [hl] at hu; cases hu
  | some c => rw [hl] at hu; cases hu; exact ⟨ad, c, e, hb, rfl, hc⟩
theorem Rd.leni {w : World} {F : Nat → Prop} {a : Option Addr} {n : Nat} {l : List Int} (h : Rd w F a n (Is l)) : l.length = n := by have := h.1; rwa [Is_length] at this

set_option maxHeartbeats 800000 in
theorem ints_same (a b : Option Addr) (n m c d : Nat) (l : List Int) (F G : Nat → Prop) (w : World) (hn : n ≤ 9223372036854775807) (ha : Rd w F a n (Is l)) (hb : Rd w G b m (Is l)) :
    Calls Tryd.prog 11 #[.slice a n c, .slice b m d] w fun e w' => e = .returned (.bool true) ∧ ∃ q, w' = w.drewN q := by
  obtain rfl : n = m := ha.leni.symm.trans hb.leni
  have HA := Lib.hid ha
  have HB := Lib.hid hb
  clear ha hb
  go_enter Tryd.func11, Tryd.ntmps11
  go_wp2
  go_loopw [5] (fun i wr => ∃ k q : Nat, k ≤ n ∧ i = .int .i64 k ∧ wr = w.drewN q) (fun i _ => n - (intOf i).toNat)
  case atStart => exact ⟨0, 0, Nat.zero_le _, rfl, rfl⟩
  case round =>
    obtain ⟨k, q, hk, rfl, rfl⟩ := hrel
    by_cases hlt : k < n
    · obtain ⟨a0, x, rfl, hab, hx, hca⟩ := HA.out.num hlt
      obtain ⟨b0, y, rfl, hbb, hy, hcb⟩ := HB.out.num hlt
      obtain rfl : x = y := Option.some.inj (hx.symm.trans hy)
      clear hx hy
      have h1 : (x != x) = false := by simp
      go_wp2
      go_quiet (fail)
      go_wp2
      go_roundw
      case rel => exact ⟨k + 1, _, by omega, by go_num, rfl⟩
      case measure => simp [intOf]; omega
    · have he : ¬ (k : Int) < n := by omega
      go_wp2
      go_ret
      exact ⟨rfl, q, rfl⟩

theorem Ch.top {w : World} {ps : List Int} {c : Int} {lim : Nat} {v : Value} (h : Ch w ps c lim v) : Ch w ps c w.heap.size v := by
  cases ps with
  | nil => exact h
  | cons p ps =>
    obtain ⟨b, v', e, _, hb, r⟩ := h
    exact ⟨b, v', e, (Array.getElem?_eq_some_iff.1 hb).1, hb, r⟩
theorem Ch.only {S : Nat → Prop} {w w' : World} (ho : Only S w w') : ∀ {ps : List Int} {c : Int} {lim : Nat} {v : Value}, Ch w ps c lim v → (∀ k, k < lim → ¬ S k) → Ch w' ps c lim v
  | [], _, _, _, h, _ => h
  | p :: ps, c, lim, v, h, hS => by
    obtain ⟨b, v', rfl, hl, hb, hr⟩ := h
    exact ⟨b, v', rfl, hl, (ho.block b (Array.getElem?_eq_some_iff.1 hb).1 (hS b hl)).trans hb, Ch.only ho hr fun k hk => hS k (Nat.lt_trans hk hl)⟩

end Go.Proofs.YtaekepejeokciaaDoor
