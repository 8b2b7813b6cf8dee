/- A block, as the document reckons it. -/
import Derived.Test.YtcdfbcpcgkcojaaDoorBlkM64
import Derived.Test.YtcdfbcpcgkcojaaDoorHex
import Derived.Deep.LoopGhost
import Derived.Deep.CutRange
import Derived.Deep.CutBlock
namespace Go.Proofs.YtcdfbcpcgkcojaaDoor
set_option maxRecDepth 100000
open Go.RowKit

theorem Vs64_get (l : List Nat) (k : Nat) : (Vs64 l)[k]? = l[k]?.map fun x => .int .u64 ((x : Nat) : Int) := by simp [Vs64]
theorem Vs64_len (l : List Nat) : (Vs64 l).length = l.length := by simp [Vs64]
theorem Vs64_one (l : List Nat) : ∀ u ∈ Vs64 l, u.oneCell' = true := by
  intro u hu
  simp only [Vs64, List.mem_map] at hu
  obtain ⟨c, _, rfl⟩ := hu
  rfl
theorem Vs64_append (l m : List Nat) : Vs64 (l ++ m) = Vs64 l ++ Vs64 m := by simp [Vs64]
theorem rg64 {w : World} {b : Nat} {l : List Nat} (h : w.rangeAt b 0 (Vs64 l)) {k : Nat} (hk : k < l.length) : w.cell? ⟨b, k, none⟩ = some (.int .u64 ((l.getD k 0 : Nat) : Int)) := by
  have := h k (.int .u64 ((l.getD k 0 : Nat) : Int)) (by rw [Vs64_get, List.getD, List.getElem?_eq_getElem hk]; rfl)
  rwa [Nat.zero_add] at this
theorem range64_below {w w' : World} {b o : Nat} {cs : List Value} (h : w.rangeAt b o cs) {B : Nat} (hb : Below B w w') (hB : b < B) : w'.rangeAt b o cs := fun j v hv => (hb.cell (p := ⟨b, o + j, none⟩) hB).trans (h j v hv)
theorem rowmid64 {w : World} {g : Nat} {T : TypeId} {l : List Value} (h : Row w g T l) (o : Nat) {cs : List Value} (e : (l.drop o).take cs.length = cs) : w.rangeAt g o cs := by
  intro j v hv
  have hj : j < cs.length := (List.getElem?_eq_some_iff.1 hv).1
  refine h.cell ?_
  rw [← hv]
  conv => rhs; rw [← e]
  rw [List.getElem?_take, if_pos hj, List.getElem?_drop]
theorem u64_info64 : (Tryd.prog.info? 51).map (fun i => (i.zero, i.size, i.bytes)) = some (some (.int .u64 0), 1, 8) := by kernel_rfl
theorem Below.lt_of64 {w w' : World} (h : Below w.heap.size w w') {a : Addr} {v : Value} (_ : w.cell? a = some v) : ∀ (b : Addr) (u : Value), w.cell? b = some u → w'.cell? b = some u := fun b _ hu => (h.cell (p := b) (lt_of_cell hu)).trans hu
theorem t3Info64 : (Tryd.prog.info? 50).map (·.size) = some 3 := by kernel_rfl
theorem andsum64 (a b c d : Nat) : bits .and .u64 (IntKind.u64.wrap (IntKind.u64.wrap (IntKind.u64.wrap ((a : Int) + b) + c) + d)) 18446744073709551615 = (((a + b + c + d) % 18446744073709551616 : Nat) : Int) := by
  rw [← Int.natCast_add, wrap64_nat, ← Int.natCast_add, wrap64_nat, ← Int.natCast_add, wrap64_nat, show (18446744073709551615 : Int) = ((18446744073709551615 : Nat) : Int) from rfl, u64_and_nat _ _ (Nat.mod_lt _ (by decide)) (by decide)]
  rw [show (18446744073709551615 : Nat) = 2 ^ 64 - 1 from rfl, Nat.and_two_pow_sub_one_eq_mod]
  congr 1
  show _ % 18446744073709551616 = _
  omega
theorem rch64 {e f g : Nat} (he : e < 18446744073709551616) (hf : f < 18446744073709551616) (hg : g < 18446744073709551616) : bits .xor .u64 (bits .and .u64 (e : Int) (f : Int)) (bits .and .u64 (bits .xor .u64 18446744073709551615 (e : Int)) (g : Int)) = ((ch64 e f g : Nat) : Int) := by
  have x1 : bits .xor .u64 18446744073709551615 (e : Int) = ((18446744073709551616 - (e + 1) : Nat) : Int) := by
    rw [show (18446744073709551615 : Int) = ((18446744073709551615 : Nat) : Int) from rfl, u64_xor_nat _ _ (by decide) (by omega)]
    congr 1
    exact xor_ones64 he
  rw [x1, u64_and_nat _ _ (by omega) (by omega), u64_and_nat _ _ (by omega) (by omega), u64_xor_nat _ _ (Nat.lt_of_le_of_lt Nat.and_le_left (by omega)) (Nat.lt_of_le_of_lt Nat.and_le_left (by omega))]
  rfl
theorem rmaj64 {a b c : Nat} (ha : a < 18446744073709551616) (hb : b < 18446744073709551616) (hc : c < 18446744073709551616) : bits .xor .u64 (bits .xor .u64 (bits .and .u64 (a : Int) (b : Int)) (bits .and .u64 (a : Int) (c : Int))) (bits .and .u64 (b : Int) (c : Int)) = ((maj64 a b c : Nat) : Int) := by
  rw [u64_and_nat _ _ (by omega) (by omega), u64_and_nat _ _ (by omega) (by omega), u64_and_nat _ _ (by omega) (by omega), u64_xor_nat _ _ (Nat.lt_of_le_of_lt Nat.and_le_left (by omega)) (Nat.lt_of_le_of_lt Nat.and_le_left (by omega)), u64_xor_nat _ _ (Nat.xor_lt_two_pow (n := 64) (Nat.lt_of_le_of_lt Nat.and_le_left (by omega)) (Nat.lt_of_le_of_lt Nat.and_le_left (by omega))) (Nat.lt_of_le_of_lt Nat.and_le_left (by omega))]
  rfl
/-- The two sums of a round, not cut down yet. -/
def rt64 (h s c k x : Nat) : Nat := (h + s + c + k + x) % 18446744073709551616
theorem rts64 (h s c k x : Nat) : IntKind.u64.wrap (IntKind.u64.wrap (IntKind.u64.wrap (IntKind.u64.wrap ((h : Int) + s) + c) + k) + x) = ((rt64 h s c k x : Nat) : Int) := by
  rw [← Int.natCast_add, wrap64_nat, ← Int.natCast_add, wrap64_nat, ← Int.natCast_add, wrap64_nat, ← Int.natCast_add, wrap64_nat]
  congr 1
  unfold rt64
  omega
def ru64 (s c : Nat) : Nat := (s + c) % 18446744073709551616
theorem rus64 (s c : Nat) : IntKind.u64.wrap ((s : Int) + c) = ((ru64 s c : Nat) : Int) := by rw [← Int.natCast_add, wrap64_nat]; rfl
theorem cut64 (a b : Nat) : bits .and .u64 (IntKind.u64.wrap ((a : Int) + b)) 18446744073709551615 = (((a + b) % 18446744073709551616 : Nat) : Int) := by
  rw [← Int.natCast_add, wrap64_nat, show (18446744073709551615 : Int) = ((18446744073709551615 : Nat) : Int) from rfl, u64_and_nat _ _ (Nat.mod_lt _ (by decide)) (by decide), show (18446744073709551615 : Nat) = 2 ^ 64 - 1 from rfl, Nat.and_two_pow_sub_one_eq_mod]
  congr 1
  show _ % 18446744073709551616 = _
  omega
theorem rndeq64 (S : S8x64) (k x : Nat) : rnd64 S k x = ⟨(rt64 S.h (big3 64 S.e 14 18 41) (ch64 S.e S.f S.g) k x + ru64 (big3 64 S.a 28 34 39) (maj64 S.a S.b S.c)) % 18446744073709551616, S.a, S.b, S.c, (S.d + rt64 S.h (big3 64 S.e 14 18 41) (ch64 S.e S.f S.g) k x) % 18446744073709551616, S.e, S.f, S.g⟩ := by
  unfold rnd64 t64 ma64 rt64 ru64
  generalize big3 64 S.e 14 18 41 = z1
  generalize ch64 S.e S.f S.g = z2
  generalize big3 64 S.a 28 34 39 = z3
  generalize maj64 S.a S.b S.c = z4
  congr 1 <;> omega
theorem sumget64 (a1 a2 a3 a4 a5 a6 a7 a8 b1 b2 b3 b4 b5 b6 b7 b8 : Nat) (f : Nat → Nat → Nat) (j : Nat) (hj : j < 8) : [f a1 b1, f a2 b2, f a3 b3, f a4 b4, f a5 b5, f a6 b6, f a7 b7, f a8 b8].getD j 0 = f ([a1, a2, a3, a4, a5, a6, a7, a8].getD j 0) ([b1, b2, b3, b4, b5, b6, b7, b8].getD j 0) :=
  match j, hj with
  | 0, _ => rfl
  | 1, _ => rfl
  | 2, _ => rfl
  | 3, _ => rfl
  | 4, _ => rfl
  | 5, _ => rfl
  | 6, _ => rfl
  | 7, _ => rfl
  | _ + 8, h => by omega
theorem mxget64 (s : S8x64) (b : List Nat) {j : Nat} (hj : j < 8) : (mxs64 s b).list.getD j 0 = (s.list.getD j 0 + (gone64 s b 80).list.getD j 0) % 18446744073709551616 := by
  unfold mxs64
  generalize gone64 s b 80 = t
  obtain ⟨t1, t2, t3, t4, t5, t6, t7, t8⟩ := t
  obtain ⟨s1, s2, s3, s4, s5, s6, s7, s8⟩ := s
  exact sumget64 s1 s2 s3 s4 s5 s6 s7 s8 t1 t2 t3 t4 t5 t6 t7 t8 (fun x y => (x + y) % 18446744073709551616) j hj
theorem xorbyte64 (x c : Nat) (hx : x < 72057594037927936) (hc : c < 256) : bits .or .u64 (IntKind.u64.wrap ((x : Int) * 256)) (c : Int) = ((x * 256 + c : Nat) : Int) := by
  rw [show (x : Int) * 256 = ((x * 256 : Nat) : Int) by omega, wrap64_nat, Nat.mod_eq_of_lt (by omega), u64_or_nat _ _ (by omega) (by omega), show x * 256 = 2 ^ 8 * x by omega, ← Nat.two_pow_add_eq_or_of_lt (i := 8) (by omega : c < 2 ^ 8)]

end Go.Proofs.YtcdfbcpcgkcojaaDoor
