/- Arrays of integers as rows of cells: over any program. -/
import Derived.Test.YtklbcpaoccdmeaaDoorRowz
import Derived.Test.YtklbcpaoccdmeaaDoorNumb
namespace Go.Proofs.YtklbcpaoccdmeaaDoor
open Go.RowKit

/-- A number of eight words; its cells. -/
def wds (N : Nat) : List Nat := [wd N 0, wd N 1, wd N 2, wd N 3, wd N 4, wd N 5, wd N 6, wd N 7]
def Nm (N : Nat) : List Value := (wds N).map fun x => .int .u64 ((x : Nat) : Int)
theorem Nm_length (N : Nat) : (Nm N).length = 8 := rfl
theorem Nm_size (N : Nat) : (Nm N).toArray.size = 8 := rfl
theorem Nm_get (N : Nat) {k : Nat} (hk : k < 8) : (Nm N)[k]? = some (.int .u64 ((wd N k : Nat) : Int)) :=
  match k, hk with
  | 0, _ => rfl
  | 1, _ => rfl
  | 2, _ => rfl
  | 3, _ => rfl
  | 4, _ => rfl
  | 5, _ => rfl
  | 6, _ => rfl
  | 7, _ => rfl
  | _ + 8, h => by omega
theorem Nm_ext {l : List Value} (N : Nat) (hl : l.length = 8) (h : ∀ k, k < 8 → l[k]? = some (.int .u64 ((wd N k : Nat) : Int))) : l = Nm N := by
  refine List.ext_getElem? fun k => ?_
  by_cases hk : k < 8
  · rw [h k hk, Nm_get N hk]
  · rw [List.getElem?_eq_none (by omega), List.getElem?_eq_none (by rw [Nm_length]; omega)]
theorem Nm_one (N : Nat) : (Nm N).toArray.all (·.oneCell') = true := by
  rw [List.all_toArray, List.all_eq_true]
  intro v hv
  simp only [Nm, List.mem_map] at hv
  obtain ⟨i, _, rfl⟩ := hv
  rfl
theorem Nm_zero : Nm 0 = [.int .u64 0, .int .u64 0, .int .u64 0, .int .u64 0, .int .u64 0, .int .u64 0, .int .u64 0, .int .u64 0] := by
  have : ∀ k, wd 0 k = 0 := fun k => by unfold wd; rw [Nat.zero_div]
  simp [Nm, wds, this]
theorem Nm_set (V : Nat) {k x : Nat} (hk : k < 8) (hx : x < 18446744073709551616) : (Nm V).set k (.int .u64 ((x : Nat) : Int)) = Nm (putw V k x) := by
  refine Nm_ext _ (by rw [List.length_set, Nm_length]) fun j hj => ?_
  rw [wd_putw _ _ _ _ hx, List.getElem?_set]
  by_cases h : j = k
  · subst h; rw [if_pos rfl, if_pos rfl, if_pos (by rw [Nm_length]; exact hj)]
  · rw [if_neg (fun e => h e.symm), if_neg h, Nm_get V hj]

/-- A number's first bytes; their cells. -/
def By (N n : Nat) : List Value := Tabs .u8 (byt N) n
theorem By_length (N n : Nat) : (By N n).length = n := Tabs_length ..
theorem By_get (N n : Nat) {k : Nat} (hk : k < n) : (By N n)[k]? = some (.int .u8 ((byt N k : Nat) : Int)) := Tabs_get _ _ _ hk
theorem By_one (N n : Nat) : (By N n).toArray.all (·.oneCell') = true := Tabs_one ..
theorem By_ext {l : List Value} (N n : Nat) (hl : l.length = n) (h : ∀ k, k < n → l[k]? = some (.int .u8 ((byt N k : Nat) : Int))) : l = By N n := by
  refine List.ext_getElem? fun k => ?_
  by_cases hk : k < n
  · rw [h k hk, By_get N n hk]
  · rw [List.getElem?_eq_none (by omega), List.getElem?_eq_none (by rw [By_length]; omega)]

/-- The first bytes of a number, as a number. -/
theorem mod_byte (N k : Nat) : N % 256 ^ (k + 1) = N % 256 ^ k + byt N k * 256 ^ k := by
  rw [Nat.pow_succ, Nat.mod_mul, Nat.mul_comm (256 ^ k)]
  unfold byt
  rw [← pow256]

/-- A number's lowest words; the highest ones 0. -/
theorem wd_mod (N k j : Nat) : wd (N % M64 k) j = if j < k then wd N j else 0 := by
  by_cases h : j < k
  · rw [if_pos h]
    have e := Nat.mod_add_div N (M64 k)
    conv => rhs; rw [← e, Nat.mul_comm]
    rw [wd_add_high _ _ _ _ h]
  · rw [if_neg h]
    exact wd_of_lt' (Nat.mod_lt _ (M64_pos k)) (by omega)
/-- One word more of a number. -/
theorem Nm_next (S : Nat) {k : Nat} (hk : k < 8) : (Nm (S % M64 k)).set k (.int .u64 ((wd S k : Nat) : Int)) = Nm (S % M64 (k + 1)) := by
  refine Nm_ext _ (by rw [List.length_set, Nm_length]) fun j hj => ?_
  rw [wd_mod, List.getElem?_set]
  by_cases h : j = k
  · subst h; rw [if_pos rfl, if_pos (by rw [Nm_length]; exact hj), if_pos (by omega)]
  · rw [if_neg (fun e => h e.symm), Nm_get _ hj, wd_mod]
    by_cases h2 : j < k
    · rw [if_pos h2, if_pos (by omega)]
    · rw [if_neg h2, if_neg (by omega)]
theorem Nm_whole (N : Nat) : Nm (N % M64 8) = Nm N := by
  refine Nm_ext _ rfl fun k hk => ?_
  rw [Nm_get _ hk, wd_mod, if_pos hk]

end Go.Proofs.YtklbcpaoccdmeaaDoor
