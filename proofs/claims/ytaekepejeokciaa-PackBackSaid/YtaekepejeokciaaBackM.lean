/- What was written is read: field by field, as plain mathematics. -/
import Derived.Test.YtaekepejeokciaaReadM
import Derived.Test.YtaekepejeokciaaWrites
namespace Go.Proofs.Ytaekepejeokciaa

theorem cut_drop {pre x post : List UInt8} : ((pre ++ x) ++ post).drop pre.length = x ++ post := by
  rw [List.append_assoc, List.drop_left]

section
variable {K pre post : List UInt8} {p : Nat}
theorem back_byte {c : UInt8} (hK : K = (pre ++ [c]) ++ post) (hp : p = pre.length) : rbyte K p = (c, p + [c].length, 0) := by
  subst hK hp
  unfold rbyte
  have : ((pre ++ [c]) ++ post)[pre.length]? = some c := by simp
  rw [this]
  rfl
theorem back_num {n : Nat} (most : Nat) (hm : n ≤ most) (hn : n < 18446744073709551616) (hK : K = (pre ++ enc n) ++ post) (hp : p = pre.length) : rnum K p most = (n, p + (enc n).length, 0) := by
  subst hK hp
  unfold rnum
  rw [cut_drop, dec_enc hn]
  simp only [if_neg (show ¬ most < n by omega)]
theorem back_int {n : Int} (h1 : -9223372036854775808 ≤ n) (h2 : n ≤ 9223372036854775807) (hK : K = (pre ++ enc (zig n)) ++ post) (hp : p = pre.length) : rint K p = (n, p + (enc (zig n)).length, 0) := by
  have hz := zig_lt h1 h2
  unfold rint
  rw [back_num 18446744073709551615 (by omega) hz hK hp, unzig_zig]
theorem back_bool {b : Bool} (hK : K = (pre ++ [bb b]) ++ post) (hp : p = pre.length) : rbool K p = (b, p + [bb b].length, 0) := by
  subst hK hp
  unfold rbool
  have : ((pre ++ [bb b]) ++ post)[pre.length]? = some (bb b) := by simp
  rw [this]
  cases b <;> rfl
theorem back_bytes {b : List UInt8} (hb : b.length < 18446744073709551616) (hK : K = (pre ++ (enc b.length ++ b)) ++ post) (hp : p = pre.length) : rbytes K p (b.length : Int) = (b, p + (enc b.length ++ b).length, 0) := by
  subst hK hp
  unfold rbytes
  rw [cut_drop, List.append_assoc, dec_enc hb]
  have h1 : ¬ (max (b.length : Int) 0).toNat < b.length := by omega
  have h2 : ¬ (enc b.length ++ (b ++ post)).length - (enc b.length).length < b.length := by simp
  simp only [if_neg h1, if_neg h2]
  rw [List.drop_left, List.take_left, List.length_append]
theorem back_raw {b : List UInt8} (hK : K = (pre ++ b) ++ post) (hp : p = pre.length) : rraw K p (b.length : Int) = (b, p + b.length, 0) := by
  subst hK hp
  unfold rraw
  rw [cut_drop]
  have h1 : ¬ ((b ++ post).length : Int) < b.length := by simp; omega
  rw [if_neg h1, Int.toNat_natCast, List.take_left]
end

/-- A field stands where it was written. -/
theorem wout_split {l : List Fd} {j : Nat} {f : Fd} (h : l[j]? = some f) : ∃ post, wout l l.length = (wout l j ++ fenc f) ++ post := by
  refine ⟨(l.drop (j + 1)).flatMap fenc, ?_⟩
  rw [← wout_succ h]
  unfold wout
  rw [← List.flatMap_append, List.take_length]
  congr 1
  exact (List.take_append_drop _ _).symm

end Go.Proofs.Ytaekepejeokciaa
