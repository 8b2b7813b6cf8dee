/- Points: the arithmetic that a decoded point's bytes, and the document's example, want. The document's example of points: the base, twice. law06's awake; the statement CurveDecodes: the walk. -/
import Derived.Test.YthpbipebpaeagaaDoorFnJ
import Derived.Test.YthpbipebpaeagaaDoorRo
import Derived.Test.YthpbipebpaeagaaDoorRq
namespace Go.Proofs.YthpbipebpaeagaaDoor
section
set_option maxRecDepth 100000
set_option linter.unusedSimpArgs false
set_option linter.unusedVariables false
open Go.RowKit

theorem inv_1 : nu (invL (smL 1)) = 1 := by
  rw [nu_invP, nu_smL (by decide), Nat.one_pow]
  decide
theorem mul_inv_1 (x : Lm) : nu (mulL x (invL (smL 1))) = nu x := by rw [nu_mulP, inv_1, Nat.mul_one, nu_mod]
/-- Bytes that tell a point are the point's bytes. -/
theorem dec_back {N : Nat} (hN : N < 256 ^ 32) (h : decOk N = true) : ptN (decPt N) = N := by
  have hd := h
  unfold decOk at hd
  rw [Bool.and_eq_true, Bool.and_eq_true] at hd
  obtain ⟨h1, h2, h3⟩ := hd
  have hM : N % 57896044618658097711785492504343953926634992332820282019728792003956564819968 < pp := of_decide_eq_true h2
  have hy : nu (ofB (N % 57896044618658097711785492504343953926634992332820282019728792003956564819968)) = N % 57896044618658097711785492504343953926634992332820282019728792003956564819968 := by
    rw [nu_ofB, Nat.mod_mod]
    exact Nat.mod_eq_of_lt hM
  have hyk := ofB_ok (N % 57896044618658097711785492504343953926634992332820282019728792003956564819968)
  unfold decPt
  rw [h, if_pos rfl]
  generalize ofB (N % 57896044618658097711785492504343953926634992332820282019728792003956564819968) = y at *
  have hxk := rootL_ok (frU_ok hyk) (frV_ok hyk)
  have hev := rootL_even (frU_ok hyk) (frV_ok hyk)
  generalize rootL (frU y) (frV y) = x at *
  unfold ptN atP
  show nu (mulL y (invL (smL 1))) + (if nu (mulL (if N / _ % 2 = 1 then negL x else x) (invL (smL 1))) % 2 = 1 then _ else 0) = N
  rw [mul_inv_1, mul_inv_1, hy]
  have hN2 : N / 57896044618658097711785492504343953926634992332820282019728792003956564819968 < 2 := by
    refine (Nat.div_lt_iff_lt_mul (by decide)).2 ?_
    exact Nat.lt_of_lt_of_le hN (by decide)
  have hdm := Nat.mod_add_div N 57896044618658097711785492504343953926634992332820282019728792003956564819968
  have hp2 : pp % 2 = 1 := by decide
  by_cases ho : N / 57896044618658097711785492504343953926634992332820282019728792003956564819968 % 2 = 1
  · rw [if_pos ho, nu_negP hxk]
    rw [decide_eq_true ho, Bool.true_and, Bool.not_eq_true', decide_eq_false_iff_not] at h3
    have hl := nu_pp x
    have h4 : (pp - nu x) % pp = pp - nu x := Nat.mod_eq_of_lt (by omega)
    rw [h4, if_pos (by omega)]
    omega
  · rw [if_neg ho, if_neg (by omega)]
    omega
theorem same_ze : sameB ze1 ze1 = true := by
  unfold sameB
  rw [decide_eq_true rfl, decide_eq_true rfl]
  rfl

/-- Numbers modulo p, as a ring. -/
instance : NeZero pp := ⟨by decide⟩
def fp (x : Lm) : Fin pp := ⟨nu x, nu_pp x⟩
theorem fp_ext {x y : Lm} : fp x = fp y ↔ nu x = nu y := ⟨fun h => congrArg Fin.val h, fun h => Fin.ext h⟩
theorem fp_mul (x y : Lm) : fp (mulL x y) = fp x * fp y := Fin.ext (by rw [Fin.val_mul]; exact nu_mulP x y)
theorem fp_add (x y : Lm) : fp (addL x y) = fp x + fp y := Fin.ext (by rw [Fin.val_add]; exact nu_addP x y)
theorem fp_sub (x : Lm) {y : Lm} (hy : y.ok) : fp (subL x y) = fp x - fp y := Fin.ext (by
  rw [Fin.sub_def]
  show nu (subL x y) = (pp - nu y + nu x) % pp
  rw [nu_subP x hy, Nat.add_comm])
theorem fp_neg {x : Lm} (hx : x.ok) : fp (negL x) = -fp x := Fin.ext (by
  show nu (negL x) = (pp - nu x) % pp
  exact nu_negP hx)
theorem fp_sm (n : Nat) (h : n < 4294967296) : (fp (smL n)).val = n := nu_smL h
theorem fp_0 : fp (smL 0) = 0 := Fin.ext (by rw [fp_sm 0 (by decide)]; rfl)
theorem fp_1 : fp (smL 1) = 1 := Fin.ext (by rw [fp_sm 1 (by decide)]; decide)
theorem fp_dom {a b : Fin pp} (h : a * b = 0) : a = 0 ∨ b = 0 := by
  have h1 : a.val * b.val % pp = 0 := by
    have := congrArg Fin.val h
    rwa [Fin.val_mul] at this
  rcases pp_prime.mul h1 with h2 | h2
  · left; exact Fin.ext (by rw [Nat.mod_eq_of_lt a.isLt] at h2; exact h2)
  · right; exact Fin.ext (by rw [Nat.mod_eq_of_lt b.isLt] at h2; exact h2)
end

section
set_option maxRecDepth 100000
set_option linter.unusedSimpArgs false
set_option linter.unusedVariables false
open Go.RowKit

theorem ad_x {p q : Pm} (hp : p.ok) (hq : q.ok) : fp (adP p q).x = (fp (plA p q) - fp (miA p q)) * (fp (onA p q) - fp (moA p q)) := by
  show fp (mulL (subL (plA p q) (miA p q)) (subL (onA p q) (moA p q))) = _
  rw [fp_mul, fp_sub _ (miA_ok hp hq), fp_sub _ (moA_ok hp hq)]
theorem ad_y {p q : Pm} (hp : p.ok) (hq : q.ok) : fp (adP p q).y = (fp (plA p q) + fp (miA p q)) * (fp (onA p q) + fp (moA p q)) := by
  show fp (mulL (addL (plA p q) (miA p q)) (addL (onA p q) (moA p q))) = _
  rw [fp_mul, fp_add, fp_add]
theorem ad_z {p q : Pm} (hp : p.ok) (hq : q.ok) : fp (adP p q).z = (fp (onA p q) + fp (moA p q)) * (fp (onA p q) - fp (moA p q)) := by
  show fp (mulL (addL (onA p q) (moA p q)) (subL (onA p q) (moA p q))) = _
  rw [fp_mul, fp_add, fp_sub _ (moA_ok hp hq)]
theorem ad_t {p q : Pm} (hp : p.ok) (hq : q.ok) : fp (adP p q).t = (fp (plA p q) - fp (miA p q)) * (fp (plA p q) + fp (miA p q)) := by
  show fp (mulL (subL (plA p q) (miA p q)) (addL (plA p q) (miA p q))) = _
  rw [fp_mul, fp_add, fp_sub _ (miA_ok hp hq)]
theorem pl_f (p q : Pm) : fp (plA p q) = (fp p.y + fp p.x) * (fp q.y + fp q.x) := by unfold plA; rw [fp_mul, fp_add, fp_add]
theorem mi_f {p q : Pm} (hp : p.ok) (hq : q.ok) : fp (miA p q) = (fp p.y - fp p.x) * (fp q.y - fp q.x) := by unfold miA; rw [fp_mul, fp_sub _ hp.x, fp_sub _ hq.x]
theorem on_f (p q : Pm) : fp (onA p q) = fp p.z * fp q.z + fp p.z * fp q.z := by unfold onA; rw [fp_add, fp_mul]
theorem mo_f (p q : Pm) : fp (moA p q) = fp p.t * fp q.t * fp dL + fp p.t * fp q.t * fp dL := by unfold moA; rw [fp_add, fp_mul, fp_mul]
theorem un_f {p : Pm} (hp : p.ok) : fp (unD p) = fp p.y * fp p.y - fp p.x * fp p.x := by unfold unD; rw [fp_sub _ (mulL_ok hp.x hp.x), fp_mul, fp_mul]
theorem do_x {p : Pm} (hp : p.ok) : fp (doP p).x = (fp p.x * fp p.y + fp p.x * fp p.y) * (fp p.z * fp p.z + fp p.z * fp p.z - fp (unD p)) := by
  show fp (mulL (addL (mulL p.x p.y) (mulL p.x p.y)) (subL (addL (mulL p.z p.z) (mulL p.z p.z)) (unD p))) = _
  rw [fp_mul, fp_add, fp_mul, fp_sub _ (unD_ok hp), fp_add, fp_mul]
theorem do_y {p : Pm} (hp : p.ok) : fp (doP p).y = (fp p.y * fp p.y + fp p.x * fp p.x) * fp (unD p) := by
  show fp (mulL (addL (mulL p.y p.y) (mulL p.x p.x)) (unD p)) = _
  rw [fp_mul, fp_add, fp_mul, fp_mul]
theorem do_z {p : Pm} (hp : p.ok) : fp (doP p).z = fp (unD p) * (fp p.z * fp p.z + fp p.z * fp p.z - fp (unD p)) := by
  show fp (mulL (unD p) (subL (addL (mulL p.z p.z) (mulL p.z p.z)) (unD p))) = _
  rw [fp_mul, fp_sub _ (unD_ok hp), fp_add, fp_mul]
theorem do_t {p : Pm} (hp : p.ok) : fp (doP p).t = (fp p.x * fp p.y + fp p.x * fp p.y) * (fp p.y * fp p.y + fp p.x * fp p.x) := by
  show fp (mulL (addL (mulL p.x p.y) (mulL p.x p.y)) (addL (mulL p.y p.y) (mulL p.x p.x))) = _
  rw [fp_mul, fp_add, fp_add, fp_mul, fp_mul, fp_mul]

/-- A form of the neutral point. -/
structure Zl (p : Pm) : Prop where
  x : fp p.x = 0
  t : fp p.t = 0
  yz : fp p.y = fp p.z
  z : fp p.z ≠ 0
theorem two_ne : (2 : Fin pp) ≠ 0 := by decide
theorem sq_ne {a : Fin pp} (h : a ≠ 0) : a * a ≠ 0 := fun e => by rcases fp_dom e with e | e <;> exact h e
theorem mul_ne {a b : Fin pp} (h : a ≠ 0) (k : b ≠ 0) : a * b ≠ 0 := fun e => by
  rcases fp_dom e with e | e
  · exact h e
  · exact k e
theorem ze_x : fp ze1.x = 0 := fp_0
theorem ze_y : fp ze1.y = 1 := fp_1
theorem ze_z : fp ze1.z = 1 := fp_1
theorem ze_t : fp ze1.t = 0 := by
  show fp (mulL (smL 0) (smL 1)) = 0
  rw [fp_mul, fp_0, fp_1]
  rfl
theorem zl_ze : Zl ze1 := ⟨ze_x, ze_t, by rw [ze_y, ze_z], by rw [ze_z]; decide⟩
theorem zl_do {p : Pm} (hp : p.ok) (h : Zl p) : Zl (doP p) := by
  obtain ⟨h1, h2, h3, h4⟩ := h
  have hu := un_f hp
  rw [h1, h3] at hu
  have e4 : fp (doP p).z = fp p.z * fp p.z * (fp p.z * fp p.z) := by rw [do_z hp, hu]; grind
  refine ⟨by rw [do_x hp, h1]; grind, by rw [do_t hp, h1]; grind, ?_, ?_⟩
  · rw [e4, do_y hp, hu, h1, h3]; grind
  · rw [e4]; exact mul_ne (sq_ne h4) (sq_ne h4)
theorem zl_ad {p : Pm} (hp : p.ok) (h : Zl p) : Zl (adP p ze1) := by
  obtain ⟨h1, h2, h3, h4⟩ := h
  have hpl := pl_f p ze1
  have hmi := mi_f hp ze1_ok
  have hon := on_f p ze1
  have hmo := mo_f p ze1
  rw [h1, h3, ze_x, ze_y] at hpl hmi
  rw [ze_z] at hon
  rw [h2, ze_t] at hmo
  have e4 : fp (adP p ze1).z = (2 * fp p.z) * (2 * fp p.z) := by rw [ad_z hp ze1_ok, hon, hmo]; grind
  refine ⟨by rw [ad_x hp ze1_ok, hpl, hmi]; grind, by rw [ad_t hp ze1_ok, hpl, hmi]; grind, ?_, ?_⟩
  · rw [e4, ad_y hp ze1_ok, hpl, hmi, hon, hmo]; grind
  · rw [e4]; exact sq_ne (mul_ne two_ne h4)
theorem zl_do4 {p : Pm} (hp : p.ok) (h : Zl p) : Zl (do4 p) :=
  zl_do (doP_ok (doP_ok (doP_ok hp))) (zl_do (doP_ok (doP_ok hp)) (zl_do (doP_ok hp) (zl_do hp h)))
theorem dig_0 {m : Nat} (hm : 1 ≤ m) : digP (2, baP) m = ze1 := by
  unfold digP
  have h : 2 / 2 ^ (4 * m) % 16 = 0 := by
    rw [Nat.div_eq_of_lt]
    calc 2 < 2 ^ 4 := by decide
      _ ≤ 2 ^ (4 * m) := Nat.pow_le_pow_right (by decide) (by omega)
  show tabP baP (2 / 2 ^ (4 * m) % 16) = ze1
  rw [h]
  rfl
theorem l_ok : ∀ s ∈ [((2, baP) : Shr)], s.2.ok := fun s hs => by rw [List.mem_singleton.1 hs]; exact baP_ok
theorem tog_zl : ∀ k, k ≤ 63 → Zl (togU [(2, baP)] k) := by
  intro k
  induction k with
  | zero => intro _; rw [togU]; exact zl_ze
  | succ k ih =>
    intro hk
    have h := ih (by omega)
    rw [togU, addS_cons, addS_nil, dig_0 (by omega)]
    exact zl_ad (do4_ok (togU_ok _ l_ok k)) (zl_do4 (togU_ok _ l_ok k) h)
theorem mu_2 : ∃ z, z.ok ∧ Zl z ∧ muP baP 2 = adP z (adP (adP ze1 baP) baP) := by
  refine ⟨do4 (togU [(2, baP)] 63), do4_ok (togU_ok _ l_ok 63), zl_do4 (togU_ok _ l_ok 63) (tog_zl 63 (Nat.le_refl _)), ?_⟩
  have h2 : digP (2, baP) (63 - 63) = adP (adP ze1 baP) baP := rfl
  unfold muP togP
  rw [togU, addS_cons, addS_nil, h2]
theorem ba_x : fp baP.x = ⟨bxN, by decide⟩ := Fin.ext (by
  show nu (ofB bxN) = bxN
  rw [nu_ofB]
  decide)
theorem ba_y : fp baP.y = ⟨byN, by decide⟩ := Fin.ext (by
  show nu (ofB byN) = byN
  rw [nu_ofB]
  decide)
theorem d_f : fp dL = ⟨dN, by decide⟩ := Fin.ext (by
  show nu (ofB dN) = dN
  rw [nu_ofB]
  decide)
theorem ba_z : fp baP.z = 1 := fp_1
theorem ba_t : fp baP.t = fp baP.x * fp baP.y := by
  show fp (mulL (ofB bxN) (ofB byN)) = _
  rw [fp_mul]
  rfl
/-- The base lies on the curve. -/
theorem ba_curve : fp baP.y * fp baP.y - fp baP.x * fp baP.x = 1 + fp dL * (fp baP.x * fp baP.x) * (fp baP.y * fp baP.y) := by
  rw [ba_x, ba_y, d_f]
  decide +kernel
theorem txl (x y d : Fin pp) : ((2 * 2 * y + 2 * 2 * x) * (y + x) - (2 * 2 * y - 2 * 2 * x) * (y - x)) * (2 * 2 * 1 + 2 * 2 * 1 - (2 * 2 * x * y * (x * y) * d + 2 * 2 * x * y * (x * y) * d)) = (2 * 2 * 2 * 2 * 2 * 2 * 2) * (x * y) * (1 - d * (x * x) * (y * y)) := by grind
theorem tyl (x y d : Fin pp) : ((2 * 2 * y + 2 * 2 * x) * (y + x) + (2 * 2 * y - 2 * 2 * x) * (y - x)) * (2 * 2 * 1 + 2 * 2 * 1 + (2 * 2 * x * y * (x * y) * d + 2 * 2 * x * y * (x * y) * d)) = (2 * 2 * 2 * 2 * 2 * 2) * (x * x + y * y) * (1 + d * (x * x) * (y * y)) := by grind
theorem tzl (x y d : Fin pp) : (2 * 2 * 1 + 2 * 2 * 1 + (2 * 2 * x * y * (x * y) * d + 2 * 2 * x * y * (x * y) * d)) * (2 * 2 * 1 + 2 * 2 * 1 - (2 * 2 * x * y * (x * y) * d + 2 * 2 * x * y * (x * y) * d)) = (2 * 2 * 2 * 2 * 2 * 2) * ((1 + d * (x * x) * (y * y)) * (1 - d * (x * x) * (y * y))) := by grind
theorem twice : sameB (muP baP 2) (doP baP) = true := by
  obtain ⟨z, hz, hzl, he⟩ := mu_2
  obtain ⟨h1, h2, h3, h4⟩ := hzl
  rw [he]
  have hB := baP_ok
  have hS := adP_ok ze1_ok hB
  have hT := adP_ok hS hB
  have hc := ba_curve
  have sx := ad_x ze1_ok hB
  have sy := ad_y ze1_ok hB
  have sz := ad_z ze1_ok hB
  have st := ad_t ze1_ok hB
  rw [pl_f, mi_f ze1_ok hB] at sx sy st
  rw [on_f, mo_f] at sx sy sz
  have tx := ad_x hS hB
  have ty := ad_y hS hB
  have tz := ad_z hS hB
  rw [pl_f, mi_f hS hB] at tx ty
  rw [on_f, mo_f] at tx ty tz
  have ux := ad_x hz hT
  have uy := ad_y hz hT
  have uz := ad_z hz hT
  rw [pl_f, mi_f hz hT] at ux uy
  rw [on_f, mo_f] at ux uy uz
  have dx := do_x hB
  have dy := do_y hB
  have dz := do_z hB
  rw [un_f hB] at dx dy dz
  rw [ba_z] at sx sy sz tx ty tz dx dz
  rw [ba_t] at sx sy sz tx ty tz
  rw [ze_x, ze_y] at sx sy st
  rw [ze_z, ze_t] at sx sy sz
  rw [h1, h3] at ux uy
  rw [h2] at ux uy uz
  unfold sameB
  rw [Bool.and_eq_true]
  generalize adP z (adP (adP ze1 baP) baP) = U at *
  generalize adP (adP ze1 baP) baP = T at *
  generalize adP ze1 baP = Q at *
  generalize doP baP = D at *
  generalize baP = B at *
  generalize fp B.x = x at *
  generalize fp B.y = y at *
  generalize fp dL = d at *
  have hsx : fp Q.x = (2 * 2) * x := by rw [sx]; grind
  have hsy : fp Q.y = (2 * 2) * y := by rw [sy]; grind
  have hsz : fp Q.z = 2 * 2 := by rw [sz]; grind
  have hst : fp Q.t = (2 * 2) * x * y := by rw [st]; grind
  rw [hsx, hsy, hsz, hst] at tx ty
  rw [hsz, hst] at tz
  have e1 : y * y - x * x = 1 + d * (x * x) * (y * y) := hc
  generalize he2 : d * (x * x) * (y * y) = e at *
  have htx : fp T.x = (2 * 2 * 2 * 2 * 2 * 2 * 2) * (x * y) * (1 - e) := by rw [tx, ← he2]; exact txl _ _ _
  have hty : fp T.y = (2 * 2 * 2 * 2 * 2 * 2) * (x * x + y * y) * (1 + e) := by rw [ty, ← he2]; exact tyl _ _ _
  have htz : fp T.z = (2 * 2 * 2 * 2 * 2 * 2) * ((1 + e) * (1 - e)) := by rw [tz, ← he2]; exact tzl _ _ _
  have hux : fp U.x = (2 * 2) * (fp z.z * fp z.z) * (fp T.x * fp T.z) := by rw [ux]; grind
  have huy : fp U.y = (2 * 2) * (fp z.z * fp z.z) * (fp T.y * fp T.z) := by rw [uy]; grind
  have huz : fp U.z = (2 * 2) * (fp z.z * fp z.z) * (fp T.z * fp T.z) := by rw [uz]; grind
  rw [e1] at dx dy dz
  have hdx : fp D.x = 2 * (x * y) * (1 - e) := by rw [dx]; grind
  have hdy : fp D.y = (x * x + y * y) * (1 + e) := by rw [dy]; grind
  have hdz : fp D.z = (1 + e) * (1 - e) := by rw [dz]; grind
  constructor
  · refine decide_eq_true (fp_ext.1 ?_)
    rw [fp_mul, fp_mul, hux, huz, hdx, hdz, htx, htz]
    grind
  · refine decide_eq_true (fp_ext.1 ?_)
    rw [fp_mul, fp_mul, huy, huz, hdy, hdz, hty, htz]
    grind
theorem ba_first : byt (ptN baP) 0 = 88 := by
  have hx : nu (mulL baP.x (invL baP.z)) = bxN := by
    show nu (mulL (ofB bxN) (invL (smL 1))) = _
    rw [mul_inv_1, nu_ofB]
    decide
  have hy : nu (mulL baP.y (invL baP.z)) = byN := by
    show nu (mulL (ofB byN) (invL (smL 1))) = _
    rw [mul_inv_1, nu_ofB]
    decide
  unfold ptN
  rw [hx, hy, if_neg (by decide)]
  decide
theorem ba_not : sameB baP ze1 = false := by
  unfold sameB
  have h : decide (nu (mulL baP.x ze1.z) = nu (mulL ze1.x baP.z)) = false := decide_eq_false fun e => by
    have h1 := fp_ext.2 e
    rw [fp_mul, fp_mul, ze_z, ze_x, ba_x] at h1
    exact absurd h1 (by decide)
  rw [h]
  rfl
end

section
set_option maxRecDepth 100000
set_option linter.unusedSimpArgs false
set_option linter.unusedVariables false
open Go.RowKit

theorem sa_is {p q : Pm} (hp : p.ok) (hk : q.ok) {b : Bool} (h : sameB p q = b) (w : World) (hq : Gc w) :
    Calls Tryd.prog 44 #[.agg (PL p).toArray, .agg (PL q).toArray] w fun e w' => e = .returned (.bool b) ∧ Below w.heap.size w w' := by
  rw [← h]
  exact sa_any hp hk w hq
theorem by_two (w : World) : (Instr.build 22 #[(0, .int .u8 2)]).run Tryd.prog w = .ok (.agg (By 2 32).toArray) w := run_build w 22 _ _ (by kernel_rfl)
theorem g88 (w : World) : (eqGuard .eql 5 (.tmp 12) (.const (.int .u8 88)) (.int .u8 ((byt (ptN baP) 0 : Nat) : Int)) (.int .u8 88)).run Tryd.prog w = .ok () w := by
  rw [ba_first]
  kernel_rfl
theorem e88 (w : World) : (binOp .eql 5 (.int .u8 ((byt (ptN baP) 0 : Nat) : Int)) (.int .u8 88)).run Tryd.prog w = .ok (.bool true) w := by
  rw [ba_first]
  kernel_rfl

set_option maxHeartbeats 3200000 in
theorem awake6  (w : World) (hq : Gc w) :
    Calls Tryd.prog 46 #[] w fun e w' => e = .returned (.bool true) ∧ Below w.heap.size w w' := by
  have hw := Below.refl w.heap.size w
  go_enter Tryd.func46, Tryd.ntmps46
  go_wp2_with fail
  refine (ba_any _ hq).mono ?_
  rintro e W1 ⟨rfl, hb⟩
  replace hw := hw.trans (hb.mono hw.size)
  clear hb
  have new_1 := Row.new W1 (PL zeP) 58
  have h1 := new_1.setRow (PL baP)
  have ge_1 := hw.size
  replace hw := below_setRow (g := W1.heap.size) (hw.alloc hw.size (.cells (PL zeP).toArray 58)) hw.size (PL baP).toArray
  have NEW := Lib.hid new_1
  clear new_1 
  go_wp2_with (first
    | (refine wpList_store_row rfl 58 (.tmp 1) (.tmp 2) rfl W1.heap.size _ rfl rfl 58 _ NEW.out (pl_info _) (PL_sz _ _) (PL_one _) ?_))
  clear NEW
  rw [z20]
  generalize (W1.alloc (.cells (PL zeP).toArray 58)).setRow W1.heap.size (PL baP).toArray = V1 at *
  generalize W1.heap.size = g1 at *
  refine wp_flat_none (aD := ?aD2) (S := fun w' => Below V1.heap.size V1 w')
    (vs := [(0, .agg (PL baP).toArray), (1, .agg (By 2 32).toArray), (2, .agg (PL (muP baP 2)).toArray), (3, .agg (PL baP).toArray), (4, .agg (PL (doP baP)).toArray), (5, .bool true), (6, .bool true), (7, .agg (PL baP).toArray), (8, .agg (By (ptN baP) 32).toArray), (9, .int .u8 ((byt (ptN baP) 0 : Nat) : Int)), (10, .bool true), (11, .bool true), (12, .bool true), (13, .agg (PL baP).toArray), (14, .agg (PL ze1).toArray), (15, .bool false), (16, .bool true), (17, .bool true), (18, .bool true)]) (by kernel_rfl) ((Below.refl _ _).drew) (fun _ _ h k => S_trans h k) ?hD2 ?hk2 ?h2
  case hD2 =>
    refine .step (some 3) rfl rfl (by kernel_rfl) (Gives.load_row 58 (.tmp 1) rfl (g1) rfl 58 _ (fun w' h => h1.belowAll h) Tryd.underlying58 rfl (pl_info _)) ?_
    simp only [Act.put, List.setIfInBounds_toArray, List.set_cons_zero, List.set_cons_succ]
    refine .step (some 4) rfl rfl (by kernel_rfl) (Gives.build1 22 (.const (.int .u8 2)) rfl (.int .u8 2) _ rfl (fun w' => by_two w')) ?_
    simp only [Act.put, List.setIfInBounds_toArray, List.set_cons_zero, List.set_cons_succ]
    refine .step (some 5) rfl rfl (by kernel_rfl) (Gives.call (args := [.agg (PL baP).toArray, .agg (By 2 32).toArray]) rfl Tryd.func56 (by kernel_rfl) (by kernel_rfl) rfl (fun w' h => mu_any baP_ok 2 w' ((hq.belowAll hw).belowAll h))) ?_
    simp only [Act.put, List.setIfInBounds_toArray, List.set_cons_zero, List.set_cons_succ]
    refine .step (some 6) rfl rfl (by kernel_rfl) (Gives.load_row 58 (.tmp 1) rfl (g1) rfl 58 _ (fun w' h => h1.belowAll h) Tryd.underlying58 rfl (pl_info _)) ?_
    simp only [Act.put, List.setIfInBounds_toArray, List.set_cons_zero, List.set_cons_succ]
    refine .step (some 7) rfl rfl (by kernel_rfl) (Gives.call (args := [.agg (PL baP).toArray]) rfl Tryd.func55 (by kernel_rfl) (by kernel_rfl) rfl (fun w' h => do_any baP_ok w' ((hq.belowAll hw).belowAll h))) ?_
    simp only [Act.put, List.setIfInBounds_toArray, List.set_cons_zero, List.set_cons_succ]
    refine .step (some 8) rfl rfl (by kernel_rfl) (Gives.call (args := [.agg (PL (muP baP 2)).toArray, .agg (PL (doP baP)).toArray]) rfl Tryd.func44 (by kernel_rfl) (by kernel_rfl) rfl (fun w' h => sa_is (muP_ok baP_ok 2) (doP_ok baP_ok) twice w' ((hq.belowAll hw).belowAll h))) ?_
    simp only [Act.put, List.setIfInBounds_toArray, List.set_cons_zero, List.set_cons_succ]
    refine .step (some 9) rfl rfl (by kernel_rfl) (Gives.move (x := (.tmp 8)) rfl rfl) ?_
    simp only [Act.put, List.setIfInBounds_toArray, List.set_cons_zero, List.set_cons_succ]
    refine .step (some 10) rfl rfl (by kernel_rfl) (Gives.load_row 58 (.tmp 1) rfl (g1) rfl 58 _ (fun w' h => h1.belowAll h) Tryd.underlying58 rfl (pl_info _)) ?_
    simp only [Act.put, List.setIfInBounds_toArray, List.set_cons_zero, List.set_cons_succ]
    refine .step (some 11) rfl rfl (by kernel_rfl) (Gives.call (args := [.agg (PL baP).toArray]) rfl Tryd.func47 (by kernel_rfl) (by kernel_rfl) rfl (fun w' h => by_any baP_ok w' ((hq.belowAll hw).belowAll h))) ?_
    simp only [Act.put, List.setIfInBounds_toArray, List.set_cons_zero, List.set_cons_succ]
    refine .step (some 12) rfl rfl (by kernel_rfl) (Gives.index 22 (.tmp 11) (.const (.int .i64 0)) rfl _ _ _ rfl rfl (fun w' => by_index (ptN baP) (k := 0) (by decide) w')) ?_
    simp only [Act.put, List.setIfInBounds_toArray, List.set_cons_zero, List.set_cons_succ]
    refine .step (some 13) rfl rfl (by kernel_rfl) (Gives.binop .eql 5 5 (.tmp 12) (.const (.int .u8 88)) rfl _ _ _ rfl rfl (fun w' => g88 w') (fun w' => e88 w')) ?_
    simp only [Act.put, List.setIfInBounds_toArray, List.set_cons_zero, List.set_cons_succ]
    refine .step (some 14) rfl rfl (by kernel_rfl) (Gives.pick (.tmp 9) (.tmp 13) (.const (.bool false)) rfl true (.bool true) rfl rfl) ?_
    simp only [Act.put, List.setIfInBounds_toArray, List.set_cons_zero, List.set_cons_succ]
    refine .step (some 15) rfl rfl (by kernel_rfl) (Gives.move (x := (.tmp 14)) rfl rfl) ?_
    simp only [Act.put, List.setIfInBounds_toArray, List.set_cons_zero, List.set_cons_succ]
    refine .step (some 16) rfl rfl (by kernel_rfl) (Gives.load_row 58 (.tmp 1) rfl (g1) rfl 58 _ (fun w' h => h1.belowAll h) Tryd.underlying58 rfl (pl_info _)) ?_
    simp only [Act.put, List.setIfInBounds_toArray, List.set_cons_zero, List.set_cons_succ]
    refine .step (some 17) rfl rfl (by kernel_rfl) (Gives.call (args := []) rfl Tryd.func45 (by kernel_rfl) (by kernel_rfl) rfl (fun w' h => ze_any w' ((hq.belowAll hw).belowAll h))) ?_
    simp only [Act.put, List.setIfInBounds_toArray, List.set_cons_zero, List.set_cons_succ]
    refine .step (some 18) rfl rfl (by kernel_rfl) (Gives.call (args := [.agg (PL baP).toArray, .agg (PL ze1).toArray]) rfl Tryd.func44 (by kernel_rfl) (by kernel_rfl) rfl (fun w' h => sa_is baP_ok ze1_ok ba_not w' ((hq.belowAll hw).belowAll h))) ?_
    simp only [Act.put, List.setIfInBounds_toArray, List.set_cons_zero, List.set_cons_succ]
    refine .step (some 19) rfl rfl (by kernel_rfl) (Gives.unop .not 4 (.tmp 18) rfl (.bool false) (.bool true) rfl (fun w' => rfl)) ?_
    simp only [Act.put, List.setIfInBounds_toArray, List.set_cons_zero, List.set_cons_succ]
    refine .step (some 20) rfl rfl (by kernel_rfl) (Gives.pick (.tmp 15) (.tmp 19) (.const (.bool false)) rfl true (.bool true) rfl rfl) ?_
    simp only [Act.put, List.setIfInBounds_toArray, List.set_cons_zero, List.set_cons_succ]
    refine .step (some 0) rfl rfl (by kernel_rfl) (Gives.assign (x := (.tmp 20)) rfl rfl) ?_
    simp only [Act.put, List.setIfInBounds_toArray, List.set_cons_zero, List.set_cons_succ]
    exact .nil
  case hk2 => kernel_rfl
  case h2 =>
  intro W2 hb
  replace h1 := h1.belowAll hb
  replace hw := hw.trans (hb.mono hw.size)
  clear hb
  go_wp2_with fail
  go_ret
  exact ⟨rfl, hw⟩

theorem decPt_ok (N : Nat) : (decPt N).ok := by
  unfold decPt
  split
  · refine atP_ok ?_ (ofB_ok _)
    split
    · exact negL_ok _
    · exact rootL_ok (frU_ok (ofB_ok _)) (frV_ok (ofB_ok _))
  · exact ze1_ok

set_option maxHeartbeats 6400000 in
theorem decodes_law (N : Nat) (hN : N < 256 ^ 32) (w : World) (hq : Gx w) :
    Calls Tryd.prog 9 #[.agg (By N 32).toArray] w fun e w' => e = .returned (.bool true) ∧ Below w.heap.size w w' := by
  have hde := fun wx hq => de_any N wx hq
  have hdr := fun wx => dr_ref N wx
  have hP : (decPt N).ok := decPt_ok N
  have hback : decOk N = true → ptN (decPt N) = N := dec_back hN
  have hzero : decOk N = false → decPt N = ze1 := fun h => by unfold decPt; rw [h]; rfl
  generalize decOk N = ok at *
  generalize decPt N = P at *
  have HDE := Lib.hid hde
  have HDR := Lib.hid hdr
  have HBACK := Lib.hid hback
  have HZERO := Lib.hid hzero
  have hl0 := Row.new w (By N 32) 22
  have hb0 := hl0
  have hw := Below.alloc1 w (.cells (By N 32).toArray 22)
  have HL0 := Lib.hid hl0
  clear hde hdr hback hzero hl0
  go_enter Tryd.func9, Tryd.ntmps9
  go_wp2_with (refine wpList_load_row rfl 22 (.tmp 1) rfl w.heap.size rfl 22 _ (0, 0) _ HL0.out Tryd.underlying22 rfl (by_info _) ?_)
  clear HL0
  refine (HDE.out _ (hq.belowAll hw)).mono ?_
  rintro e W1 ⟨rfl, hb⟩
  replace hb0 := hb0.belowAll hb
  replace hw := hw.trans (hb.mono hw.size)
  clear hb
  have l0 := hb0.lt
  have e3 := Row.new W1 (PL zeP) 58
  have h3 := e3.setRow (PL P)
  replace hb0 := (hb0.alloc (.cells (PL zeP).toArray 58)).setRowOther (k := W1.heap.size) (by omega) (PL P).toArray
  have hsz := hw.size
  replace hw := below_setRow (g := W1.heap.size) (hw.alloc hw.size (.cells (PL zeP).toArray 58)) hw.size (PL P).toArray
  have E3 := Lib.hid e3
  have HB := Lib.hid hb0
  clear e3 l0
  go_wp2_with (first
    | (refine wpList_store_row rfl 58 (.tmp 3) (.tmp 10) rfl W1.heap.size _ rfl rfl 58 _ E3.out (pl_info _) (PL_sz _ _) (PL_one _) ?_)
    | (refine wpList_load_row rfl 22 (.tmp 1) rfl w.heap.size rfl 22 _ (0, 0) _ HB.out Tryd.underlying22 rfl (by_info _) ?_))
  clear E3 HB
  rw [z20]
  generalize (W1.alloc (.cells (PL zeP).toArray 58)).setRow W1.heap.size (PL P).toArray = V1 at *
  generalize W1.heap.size = g3 at *
  refine (HDR.out _).mono ?_
  rintro e W2 ⟨⟨r, rfl⟩, hb⟩
  replace hb0 := hb0.belowAll hb
  replace h3 := h3.belowAll hb
  replace hw := hw.trans (hb.mono hw.size)
  clear hb
  have l0 := hb0.lt
  have l3 := h3.lt
  have e5 : Row (W2.alloc (.cells #[.int .u32 0, .int .u32 0, .int .u32 0, .int .u32 0, .int .u32 0, .int .u32 0, .int .u32 0, .int .u32 0, .int .u32 0, .int .u32 0, .int .u32 0, .int .u32 0, .int .u32 0, .int .u32 0, .int .u32 0, .int .u32 0, .int .u32 0, .int .u32 0, .int .u32 0, .int .u32 0, .int .u32 0, .int .u32 0, .int .u32 0, .int .u32 0] 62)) W2.heap.size 62 (RL zeR) := by
    rw [RL_zero]
    exact Row.new W2 _ _
  replace hb0 := (hb0.alloc (.cells #[.int .u32 0, .int .u32 0, .int .u32 0, .int .u32 0, .int .u32 0, .int .u32 0, .int .u32 0, .int .u32 0, .int .u32 0, .int .u32 0, .int .u32 0, .int .u32 0, .int .u32 0, .int .u32 0, .int .u32 0, .int .u32 0, .int .u32 0, .int .u32 0, .int .u32 0, .int .u32 0, .int .u32 0, .int .u32 0, .int .u32 0, .int .u32 0] 62)).setRowOther (k := W2.heap.size) (by omega) (RL r).toArray
  replace h3 := (h3.alloc (.cells #[.int .u32 0, .int .u32 0, .int .u32 0, .int .u32 0, .int .u32 0, .int .u32 0, .int .u32 0, .int .u32 0, .int .u32 0, .int .u32 0, .int .u32 0, .int .u32 0, .int .u32 0, .int .u32 0, .int .u32 0, .int .u32 0, .int .u32 0, .int .u32 0, .int .u32 0, .int .u32 0, .int .u32 0, .int .u32 0, .int .u32 0, .int .u32 0] 62)).setRowOther (k := W2.heap.size) (by omega) (RL r).toArray
  replace hw := below_setRow (g := W2.heap.size) (hw.alloc hw.size (.cells #[.int .u32 0, .int .u32 0, .int .u32 0, .int .u32 0, .int .u32 0, .int .u32 0, .int .u32 0, .int .u32 0, .int .u32 0, .int .u32 0, .int .u32 0, .int .u32 0, .int .u32 0, .int .u32 0, .int .u32 0, .int .u32 0, .int .u32 0, .int .u32 0, .int .u32 0, .int .u32 0, .int .u32 0, .int .u32 0, .int .u32 0, .int .u32 0] 62)) hw.size (RL r).toArray
  have E5 := Lib.hid e5
  clear e5 l0 l3
  cases ok
  · have hze := HZERO.out rfl
    rw [hze] at h3
    go_wp2_with (refine wpList_store_row rfl 62 (.tmp 5) (.tmp 15) rfl W2.heap.size _ rfl rfl 62 _ E5.out (rl_info _) (RL_sz _ _) (RL_one _) ?_)
    clear E5
    generalize (W2.alloc (.cells #[.int .u32 0, .int .u32 0, .int .u32 0, .int .u32 0, .int .u32 0, .int .u32 0, .int .u32 0, .int .u32 0, .int .u32 0, .int .u32 0, .int .u32 0, .int .u32 0, .int .u32 0, .int .u32 0, .int .u32 0, .int .u32 0, .int .u32 0, .int .u32 0, .int .u32 0, .int .u32 0, .int .u32 0, .int .u32 0, .int .u32 0, .int .u32 0] 62)).setRow W2.heap.size (RL r).toArray = V2 at *
    refine wp_flat_none (aD := ?aDf1) (S := fun w' => Below V2.heap.size V2 w')
      (vs := [(0, .agg (PL ze1).toArray), (1, .agg (PL ze1).toArray), (2, .bool true), (3, .bool true), (4, .bool true), (5, .bool true), (6, .bool true)]) (by kernel_rfl) ((Below.refl _ _).drew) (fun _ _ h k => S_trans h k) ?hDf1 ?hkf1 ?hf1
    case hDf1 =>
      refine .step (some 22) rfl rfl (by kernel_rfl) (Gives.load_row 58 (.tmp 3) rfl (g3) rfl 58 _ (fun w' h => h3.belowAll h) Tryd.underlying58 rfl (pl_info _)) ?_
      simp only [Act.put, List.setIfInBounds_toArray, List.set_cons_zero, List.set_cons_succ]
      refine .step (some 23) rfl rfl (by kernel_rfl) (Gives.call (args := []) rfl Tryd.func45 (by kernel_rfl) (by kernel_rfl) rfl (fun w' h => ze_any w' ((hq.belowAll hw).belowAll h))) ?_
      simp only [Act.put, List.setIfInBounds_toArray, List.set_cons_zero, List.set_cons_succ]
      refine .step (some 24) rfl rfl (by kernel_rfl) (Gives.call (args := [.agg (PL ze1).toArray, .agg (PL ze1).toArray]) rfl Tryd.func44 (by kernel_rfl) (by kernel_rfl) rfl (fun w' h => sa_is ze1_ok ze1_ok same_ze w' ((hq.belowAll hw).belowAll h))) ?_
      simp only [Act.put, List.setIfInBounds_toArray, List.set_cons_zero, List.set_cons_succ]
      refine .step (some 25) rfl rfl (by kernel_rfl) (Gives.move (x := (.tmp 24)) rfl rfl) ?_
      simp only [Act.put, List.setIfInBounds_toArray, List.set_cons_zero, List.set_cons_succ]
      refine .step (some 26) rfl rfl (by kernel_rfl) (Gives.call (args := []) rfl Tryd.func46 (by kernel_rfl) (by kernel_rfl) rfl (fun w' h => awake6 w' ((hq.belowAll hw).belowAll h))) ?_
      simp only [Act.put, List.setIfInBounds_toArray, List.set_cons_zero, List.set_cons_succ]
      refine .step (some 27) rfl rfl (by kernel_rfl) (Gives.pick (.tmp 25) (.tmp 26) (.const (.bool false)) rfl true (.bool true) rfl rfl) ?_
      simp only [Act.put, List.setIfInBounds_toArray, List.set_cons_zero, List.set_cons_succ]
      refine .step (some 2) rfl rfl (by kernel_rfl) (Gives.assign (x := (.tmp 27)) rfl rfl) ?_
      simp only [Act.put, List.setIfInBounds_toArray, List.set_cons_zero, List.set_cons_succ]
      exact .nil
    case hkf1 => kernel_rfl
    case hf1 =>
    intro Wf1 hb
    replace hb0 := hb0.belowAll hb
    replace h3 := h3.belowAll hb
    replace hw := hw.trans (hb.mono hw.size)
    clear hb
    go_wp2_with fail
    go_ret
    exact ⟨rfl, hw⟩
  · have hback := HBACK.out rfl
    go_wp2_with (refine wpList_store_row rfl 62 (.tmp 5) (.tmp 15) rfl W2.heap.size _ rfl rfl 62 _ E5.out (rl_info _) (RL_sz _ _) (RL_one _) ?_)
    clear E5
    generalize (W2.alloc (.cells #[.int .u32 0, .int .u32 0, .int .u32 0, .int .u32 0, .int .u32 0, .int .u32 0, .int .u32 0, .int .u32 0, .int .u32 0, .int .u32 0, .int .u32 0, .int .u32 0, .int .u32 0, .int .u32 0, .int .u32 0, .int .u32 0, .int .u32 0, .int .u32 0, .int .u32 0, .int .u32 0, .int .u32 0, .int .u32 0, .int .u32 0, .int .u32 0] 62)).setRow W2.heap.size (RL r).toArray = V2 at *
    refine wp_flat_none (aD := ?aDt1) (S := fun w' => Below V2.heap.size V2 w')
      (vs := [(0, .agg (PL P).toArray), (1, .agg (By (ptN P) 32).toArray), (2, .agg (By N 32).toArray), (3, .bool true), (4, .bool true), (5, .bool true), (6, .bool true), (7, .bool true)]) (by kernel_rfl) ((Below.refl _ _).drew) (fun _ _ h k => S_trans h k) ?hDt1 ?hkt1 ?ht1
    case hDt1 =>
      refine .step (some 28) rfl rfl (by kernel_rfl) (Gives.load_row 58 (.tmp 3) rfl (g3) rfl 58 _ (fun w' h => h3.belowAll h) Tryd.underlying58 rfl (pl_info _)) ?_
      simp only [Act.put, List.setIfInBounds_toArray, List.set_cons_zero, List.set_cons_succ]
      refine .step (some 29) rfl rfl (by kernel_rfl) (Gives.call (args := [.agg (PL P).toArray]) rfl Tryd.func47 (by kernel_rfl) (by kernel_rfl) rfl (fun w' h => by_any hP w' ((hq.belowAll hw).belowAll h))) ?_
      simp only [Act.put, List.setIfInBounds_toArray, List.set_cons_zero, List.set_cons_succ]
      refine .step (some 30) rfl rfl (by kernel_rfl) (Gives.load_row 22 (.tmp 1) rfl (w.heap.size) rfl 22 _ (fun w' h => hb0.belowAll h) Tryd.underlying22 rfl (by_info _)) ?_
      simp only [Act.put, List.setIfInBounds_toArray, List.set_cons_zero, List.set_cons_succ]
      refine .step (some 31) rfl rfl (by kernel_rfl) (Gives.binop .eql 22 22 (.tmp 29) (.tmp 30) rfl (.agg (By (ptN P) 32).toArray) (.agg (By N 32).toArray) _ rfl rfl (fun w' => bgrd _ _ _ _ _ w') (fun w' => beq_same hback w')) ?_
      simp only [Act.put, List.setIfInBounds_toArray, List.set_cons_zero, List.set_cons_succ]
      refine .step (some 32) rfl rfl (by kernel_rfl) (Gives.move (x := (.tmp 31)) rfl rfl) ?_
      simp only [Act.put, List.setIfInBounds_toArray, List.set_cons_zero, List.set_cons_succ]
      refine .step (some 33) rfl rfl (by kernel_rfl) (Gives.call (args := []) rfl Tryd.func46 (by kernel_rfl) (by kernel_rfl) rfl (fun w' h => awake6 w' ((hq.belowAll hw).belowAll h))) ?_
      simp only [Act.put, List.setIfInBounds_toArray, List.set_cons_zero, List.set_cons_succ]
      refine .step (some 34) rfl rfl (by kernel_rfl) (Gives.pick (.tmp 32) (.tmp 33) (.const (.bool false)) rfl true (.bool true) rfl rfl) ?_
      simp only [Act.put, List.setIfInBounds_toArray, List.set_cons_zero, List.set_cons_succ]
      refine .step (some 2) rfl rfl (by kernel_rfl) (Gives.assign (x := (.tmp 34)) rfl rfl) ?_
      simp only [Act.put, List.setIfInBounds_toArray, List.set_cons_zero, List.set_cons_succ]
      exact .nil
    case hkt1 => kernel_rfl
    case ht1 =>
    intro Wt1 hb
    replace hb0 := hb0.belowAll hb
    replace h3 := h3.belowAll hb
    replace hw := hw.trans (hb.mono hw.size)
    clear hb
    go_wp2_with fail
    go_ret
    exact ⟨rfl, hw⟩
end

end Go.Proofs.YthpbipebpaeagaaDoor
