/- cur/Rq, cur/DcF -/
import Derived.Test.YtmfibncllbgeoaaDoorSE
import Derived.Test.YtmfibncllbgeoaaDoorSI
import Derived.Test.YtmfibncllbgeoaaDoorSJ
import Derived.Test.YtmfibncllbgeoaaDoorSF
import Derived.Test.YtmfibncllbgeoaaDoorSH
import Derived.Test.YtmfibncllbgeoaaDoorSC
namespace Go.Proofs.YtmfibncllbgeoaaDoor
section
set_option maxRecDepth 100000
set_option linter.unusedSimpArgs false
set_option linter.unusedVariables false
open Go.RowKit
/-- A point of the document, its coordinates told by the program's numbers. -/
structure Rp where
  x : Lm
  y : Lm
  z : Lm
end
section
section
set_option maxRecDepth 100000
set_option linter.unusedSimpArgs false
set_option linter.unusedVariables false
open Go.RowKit
theorem inv_1 : nu (invL (smL 1)) = 1 := by
  rw [nu_invP, nu_smL (by decide), Nat.one_pow]
  decide
theorem mul_inv_1 (x : Lm) : nu (mulL x (invL (smL 1))) = nu x := by rw [nu_mulP, inv_1, Nat.mul_one, nu_mod]
/-- Bytes that tell a point are the point's bytes. -/
theorem dec_back {N : Nat} (hN : N < 256 ^ 32) (h : decOk N = true) : ptN (decPt N) = N := by
  have hd := h
  unfold decOk at hd
  rw [Bool.and_eq_true, Bool.and_eq_true] at hd
  obtain ⟨h1, h2, h3⟩ := hd
  have hM : N % 57896044618658097711785492504343953926634992332820282019728792003956564819968 < pp := of_decide_eq_true h2
  have hy : nu (ofB (N % 57896044618658097711785492504343953926634992332820282019728792003956564819968)) = N % 57896044618658097711785492504343953926634992332820282019728792003956564819968 := by
    rw [nu_ofB, Nat.mod_mod]
    exact Nat.mod_eq_of_lt hM
  have hyk := ofB_ok (N % 57896044618658097711785492504343953926634992332820282019728792003956564819968)
  unfold decPt
  rw [h, if_pos rfl]
  generalize ofB (N % 57896044618658097711785492504343953926634992332820282019728792003956564819968) = y at *
  have hxk := rootL_ok (frU_ok hyk) (frV_ok hyk)
  have hev := rootL_even (frU_ok hyk) (frV_ok hyk)
  generalize rootL (frU y) (frV y) = x at *
  unfold ptN atP
  show nu (mulL y (invL (smL 1))) + (if nu (mulL (if N / _ % 2 = 1 then negL x else x) (invL (smL 1))) % 2 = 1 then _ else 0) = N
  rw [mul_inv_1, mul_inv_1, hy]
  have hN2 : N / 57896044618658097711785492504343953926634992332820282019728792003956564819968 < 2 := by
    refine (Nat.div_lt_iff_lt_mul (by decide)).2 ?_
    exact Nat.lt_of_lt_of_le hN (by decide)
  have hdm := Nat.mod_add_div N 57896044618658097711785492504343953926634992332820282019728792003956564819968
  have hp2 : pp % 2 = 1 := by decide
  by_cases ho : N / 57896044618658097711785492504343953926634992332820282019728792003956564819968 % 2 = 1
  · rw [if_pos ho, nu_negP hxk]
    rw [decide_eq_true ho, Bool.true_and, Bool.not_eq_true', decide_eq_false_iff_not] at h3
    have hl := nu_pp x
    have h4 : (pp - nu x) % pp = pp - nu x := Nat.mod_eq_of_lt (by omega)
    rw [h4, if_pos (by omega)]
    omega
  · rw [if_neg ho, if_neg (by omega)]
    omega
/-- Numbers modulo p, as a ring. -/
instance : NeZero pp := ⟨by decide⟩
def fp (x : Lm) : Fin pp := ⟨nu x, nu_pp x⟩
theorem fp_ext {x y : Lm} : fp x = fp y ↔ nu x = nu y := ⟨fun h => congrArg Fin.val h, fun h => Fin.ext h⟩
theorem fp_mul (x y : Lm) : fp (mulL x y) = fp x * fp y := Fin.ext (by rw [Fin.val_mul]; exact nu_mulP x y)
theorem fp_add (x y : Lm) : fp (addL x y) = fp x + fp y := Fin.ext (by rw [Fin.val_add]; exact nu_addP x y)
theorem fp_sub (x : Lm) {y : Lm} (hy : y.ok) : fp (subL x y) = fp x - fp y := Fin.ext (by
  rw [Fin.sub_def]
  show nu (subL x y) = (pp - nu y + nu x) % pp
  rw [nu_subP x hy, Nat.add_comm])
theorem fp_neg {x : Lm} (hx : x.ok) : fp (negL x) = -fp x := Fin.ext (by
  show nu (negL x) = (pp - nu x) % pp
  exact nu_negP hx)
theorem fp_sm (n : Nat) (h : n < 4294967296) : (fp (smL n)).val = n := nu_smL h
theorem fp_0 : fp (smL 0) = 0 := Fin.ext (by rw [fp_sm 0 (by decide)]; rfl)
theorem fp_1 : fp (smL 1) = 1 := Fin.ext (by rw [fp_sm 1 (by decide)]; decide)
theorem fp_dom {a b : Fin pp} (h : a * b = 0) : a = 0 ∨ b = 0 := by
  have h1 : a.val * b.val % pp = 0 := by
    have := congrArg Fin.val h
    rwa [Fin.val_mul] at this
  rcases pp_prime.mul h1 with h2 | h2
  · left; exact Fin.ext (by rw [Nat.mod_eq_of_lt a.isLt] at h2; exact h2)
  · right; exact Fin.ext (by rw [Nat.mod_eq_of_lt b.isLt] at h2; exact h2)
end
section
set_option maxRecDepth 100000
set_option linter.unusedSimpArgs false
set_option linter.unusedVariables false
open Go.RowKit
theorem ad_x {p q : Pm} (hp : p.ok) (hq : q.ok) : fp (adP p q).x = (fp (plA p q) - fp (miA p q)) * (fp (onA p q) - fp (moA p q)) := by
  show fp (mulL (subL (plA p q) (miA p q)) (subL (onA p q) (moA p q))) = _
  rw [fp_mul, fp_sub _ (miA_ok hp hq), fp_sub _ (moA_ok hp hq)]
theorem ad_y {p q : Pm} (hp : p.ok) (hq : q.ok) : fp (adP p q).y = (fp (plA p q) + fp (miA p q)) * (fp (onA p q) + fp (moA p q)) := by
  show fp (mulL (addL (plA p q) (miA p q)) (addL (onA p q) (moA p q))) = _
  rw [fp_mul, fp_add, fp_add]
theorem ad_z {p q : Pm} (hp : p.ok) (hq : q.ok) : fp (adP p q).z = (fp (onA p q) + fp (moA p q)) * (fp (onA p q) - fp (moA p q)) := by
  show fp (mulL (addL (onA p q) (moA p q)) (subL (onA p q) (moA p q))) = _
  rw [fp_mul, fp_add, fp_sub _ (moA_ok hp hq)]
theorem ad_t {p q : Pm} (hp : p.ok) (hq : q.ok) : fp (adP p q).t = (fp (plA p q) - fp (miA p q)) * (fp (plA p q) + fp (miA p q)) := by
  show fp (mulL (subL (plA p q) (miA p q)) (addL (plA p q) (miA p q))) = _
  rw [fp_mul, fp_add, fp_sub _ (miA_ok hp hq)]
theorem pl_f (p q : Pm) : fp (plA p q) = (fp p.y + fp p.x) * (fp q.y + fp q.x) := by unfold plA; rw [fp_mul, fp_add, fp_add]
theorem mi_f {p q : Pm} (hp : p.ok) (hq : q.ok) : fp (miA p q) = (fp p.y - fp p.x) * (fp q.y - fp q.x) := by unfold miA; rw [fp_mul, fp_sub _ hp.x, fp_sub _ hq.x]
theorem on_f (p q : Pm) : fp (onA p q) = fp p.z * fp q.z + fp p.z * fp q.z := by unfold onA; rw [fp_add, fp_mul]
theorem mo_f (p q : Pm) : fp (moA p q) = fp p.t * fp q.t * fp dL + fp p.t * fp q.t * fp dL := by unfold moA; rw [fp_add, fp_mul, fp_mul]
theorem un_f {p : Pm} (hp : p.ok) : fp (unD p) = fp p.y * fp p.y - fp p.x * fp p.x := by unfold unD; rw [fp_sub _ (mulL_ok hp.x hp.x), fp_mul, fp_mul]
theorem do_x {p : Pm} (hp : p.ok) : fp (doP p).x = (fp p.x * fp p.y + fp p.x * fp p.y) * (fp p.z * fp p.z + fp p.z * fp p.z - fp (unD p)) := by
  show fp (mulL (addL (mulL p.x p.y) (mulL p.x p.y)) (subL (addL (mulL p.z p.z) (mulL p.z p.z)) (unD p))) = _
  rw [fp_mul, fp_add, fp_mul, fp_sub _ (unD_ok hp), fp_add, fp_mul]
theorem do_y {p : Pm} (hp : p.ok) : fp (doP p).y = (fp p.y * fp p.y + fp p.x * fp p.x) * fp (unD p) := by
  show fp (mulL (addL (mulL p.y p.y) (mulL p.x p.x)) (unD p)) = _
  rw [fp_mul, fp_add, fp_mul, fp_mul]
theorem do_z {p : Pm} (hp : p.ok) : fp (doP p).z = fp (unD p) * (fp p.z * fp p.z + fp p.z * fp p.z - fp (unD p)) := by
  show fp (mulL (unD p) (subL (addL (mulL p.z p.z) (mulL p.z p.z)) (unD p))) = _
  rw [fp_mul, fp_sub _ (unD_ok hp), fp_add, fp_mul]
theorem do_t {p : Pm} (hp : p.ok) : fp (doP p).t = (fp p.x * fp p.y + fp p.x * fp p.y) * (fp p.y * fp p.y + fp p.x * fp p.x) := by
  show fp (mulL (addL (mulL p.x p.y) (mulL p.x p.y)) (addL (mulL p.y p.y) (mulL p.x p.x))) = _
  rw [fp_mul, fp_add, fp_add, fp_mul, fp_mul, fp_mul]
/-- A form of the neutral point. -/
structure Zl (p : Pm) : Prop where
  x : fp p.x = 0
  t : fp p.t = 0
  yz : fp p.y = fp p.z
  z : fp p.z ≠ 0
theorem two_ne : (2 : Fin pp) ≠ 0 := by decide
theorem sq_ne {a : Fin pp} (h : a ≠ 0) : a * a ≠ 0 := fun e => by rcases fp_dom e with e | e <;> exact h e
theorem mul_ne {a b : Fin pp} (h : a ≠ 0) (k : b ≠ 0) : a * b ≠ 0 := fun e => by
  rcases fp_dom e with e | e
  · exact h e
  · exact k e
theorem ze_x : fp ze1.x = 0 := fp_0
theorem ze_y : fp ze1.y = 1 := fp_1
theorem ze_z : fp ze1.z = 1 := fp_1
theorem ze_t : fp ze1.t = 0 := by
  show fp (mulL (smL 0) (smL 1)) = 0
  rw [fp_mul, fp_0, fp_1]
  rfl
theorem zl_ze : Zl ze1 := ⟨ze_x, ze_t, by rw [ze_y, ze_z], by rw [ze_z]; decide⟩
theorem zl_do {p : Pm} (hp : p.ok) (h : Zl p) : Zl (doP p) := by
  obtain ⟨h1, h2, h3, h4⟩ := h
  have hu := un_f hp
  rw [h1, h3] at hu
  have e4 : fp (doP p).z = fp p.z * fp p.z * (fp p.z * fp p.z) := by rw [do_z hp, hu]; grind
  refine ⟨by rw [do_x hp, h1]; grind, by rw [do_t hp, h1]; grind, ?_, ?_⟩
  · rw [e4, do_y hp, hu, h1, h3]; grind
  · rw [e4]; exact mul_ne (sq_ne h4) (sq_ne h4)
theorem zl_ad {p : Pm} (hp : p.ok) (h : Zl p) : Zl (adP p ze1) := by
  obtain ⟨h1, h2, h3, h4⟩ := h
  have hpl := pl_f p ze1
  have hmi := mi_f hp ze1_ok
  have hon := on_f p ze1
  have hmo := mo_f p ze1
  rw [h1, h3, ze_x, ze_y] at hpl hmi
  rw [ze_z] at hon
  rw [h2, ze_t] at hmo
  have e4 : fp (adP p ze1).z = (2 * fp p.z) * (2 * fp p.z) := by rw [ad_z hp ze1_ok, hon, hmo]; grind
  refine ⟨by rw [ad_x hp ze1_ok, hpl, hmi]; grind, by rw [ad_t hp ze1_ok, hpl, hmi]; grind, ?_, ?_⟩
  · rw [e4, ad_y hp ze1_ok, hpl, hmi, hon, hmo]; grind
  · rw [e4]; exact sq_ne (mul_ne two_ne h4)
theorem zl_do4 {p : Pm} (hp : p.ok) (h : Zl p) : Zl (do4 p) :=
  zl_do (doP_ok (doP_ok (doP_ok hp))) (zl_do (doP_ok (doP_ok hp)) (zl_do (doP_ok hp) (zl_do hp h)))
theorem dig_0 {m : Nat} (hm : 1 ≤ m) : digP (2, baP) m = ze1 := by
  unfold digP
  have h : 2 / 2 ^ (4 * m) % 16 = 0 := by
    rw [Nat.div_eq_of_lt]
    calc 2 < 2 ^ 4 := by decide
      _ ≤ 2 ^ (4 * m) := Nat.pow_le_pow_right (by decide) (by omega)
  show tabP baP (2 / 2 ^ (4 * m) % 16) = ze1
  rw [h]
  rfl
theorem l_ok : ∀ s ∈ [((2, baP) : Shr)], s.2.ok := fun s hs => by rw [List.mem_singleton.1 hs]; exact baP_ok
theorem tog_zl : ∀ k, k ≤ 63 → Zl (togU [(2, baP)] k) := by
  intro k
  induction k with
  | zero => intro _; rw [togU]; exact zl_ze
  | succ k ih =>
    intro hk
    have h := ih (by omega)
    rw [togU, addS_cons, addS_nil, dig_0 (by omega)]
    exact zl_ad (do4_ok (togU_ok _ l_ok k)) (zl_do4 (togU_ok _ l_ok k) h)
theorem mu_2 : ∃ z, z.ok ∧ Zl z ∧ muP baP 2 = adP z (adP (adP ze1 baP) baP) := by
  refine ⟨do4 (togU [(2, baP)] 63), do4_ok (togU_ok _ l_ok 63), zl_do4 (togU_ok _ l_ok 63) (tog_zl 63 (Nat.le_refl _)), ?_⟩
  have h2 : digP (2, baP) (63 - 63) = adP (adP ze1 baP) baP := rfl
  unfold muP togP
  rw [togU, addS_cons, addS_nil, h2]
theorem ba_x : fp baP.x = ⟨bxN, by decide⟩ := Fin.ext (by
  show nu (ofB bxN) = bxN
  rw [nu_ofB]
  decide)
theorem ba_y : fp baP.y = ⟨byN, by decide⟩ := Fin.ext (by
  show nu (ofB byN) = byN
  rw [nu_ofB]
  decide)
theorem d_f : fp dL = ⟨dN, by decide⟩ := Fin.ext (by
  show nu (ofB dN) = dN
  rw [nu_ofB]
  decide)
theorem ba_z : fp baP.z = 1 := fp_1
theorem ba_t : fp baP.t = fp baP.x * fp baP.y := by
  show fp (mulL (ofB bxN) (ofB byN)) = _
  rw [fp_mul]
  rfl
/-- The base lies on the curve. -/
theorem ba_curve : fp baP.y * fp baP.y - fp baP.x * fp baP.x = 1 + fp dL * (fp baP.x * fp baP.x) * (fp baP.y * fp baP.y) := by
  rw [ba_x, ba_y, d_f]
  decide +kernel
theorem txl (x y d : Fin pp) : ((2 * 2 * y + 2 * 2 * x) * (y + x) - (2 * 2 * y - 2 * 2 * x) * (y - x)) * (2 * 2 * 1 + 2 * 2 * 1 - (2 * 2 * x * y * (x * y) * d + 2 * 2 * x * y * (x * y) * d)) = (2 * 2 * 2 * 2 * 2 * 2 * 2) * (x * y) * (1 - d * (x * x) * (y * y)) := by grind
theorem tyl (x y d : Fin pp) : ((2 * 2 * y + 2 * 2 * x) * (y + x) + (2 * 2 * y - 2 * 2 * x) * (y - x)) * (2 * 2 * 1 + 2 * 2 * 1 + (2 * 2 * x * y * (x * y) * d + 2 * 2 * x * y * (x * y) * d)) = (2 * 2 * 2 * 2 * 2 * 2) * (x * x + y * y) * (1 + d * (x * x) * (y * y)) := by grind
theorem tzl (x y d : Fin pp) : (2 * 2 * 1 + 2 * 2 * 1 + (2 * 2 * x * y * (x * y) * d + 2 * 2 * x * y * (x * y) * d)) * (2 * 2 * 1 + 2 * 2 * 1 - (2 * 2 * x * y * (x * y) * d + 2 * 2 * x * y * (x * y) * d)) = (2 * 2 * 2 * 2 * 2 * 2) * ((1 + d * (x * x) * (y * y)) * (1 - d * (x * x) * (y * y))) := by grind
theorem twice : sameB (muP baP 2) (doP baP) = true := by
  obtain ⟨z, hz, hzl, he⟩ := mu_2
  obtain ⟨h1, h2, h3, h4⟩ := hzl
  rw [he]
  have hB := baP_ok
  have hS := adP_ok ze1_ok hB
  have hT := adP_ok hS hB
  have hc := ba_curve
  have sx := ad_x ze1_ok hB
  have sy := ad_y ze1_ok hB
  have sz := ad_z ze1_ok hB
  have st := ad_t ze1_ok hB
  rw [pl_f, mi_f ze1_ok hB] at sx sy st
  rw [on_f, mo_f] at sx sy sz
  have tx := ad_x hS hB
  have ty := ad_y hS hB
  have tz := ad_z hS hB
  rw [pl_f, mi_f hS hB] at tx ty
  rw [on_f, mo_f] at tx ty tz
  have ux := ad_x hz hT
  have uy := ad_y hz hT
  have uz := ad_z hz hT
  rw [pl_f, mi_f hz hT] at ux uy
  rw [on_f, mo_f] at ux uy uz
  have dx := do_x hB
  have dy := do_y hB
  have dz := do_z hB
  rw [un_f hB] at dx dy dz
  rw [ba_z] at sx sy sz tx ty tz dx dz
  rw [ba_t] at sx sy sz tx ty tz
  rw [ze_x, ze_y] at sx sy st
  rw [ze_z, ze_t] at sx sy sz
  rw [h1, h3] at ux uy
  rw [h2] at ux uy uz
  unfold sameB
  rw [Bool.and_eq_true]
  generalize adP z (adP (adP ze1 baP) baP) = U at *
  generalize adP (adP ze1 baP) baP = T at *
  generalize adP ze1 baP = Q at *
  generalize doP baP = D at *
  generalize baP = B at *
  generalize fp B.x = x at *
  generalize fp B.y = y at *
  generalize fp dL = d at *
  have hsx : fp Q.x = (2 * 2) * x := by rw [sx]; grind
  have hsy : fp Q.y = (2 * 2) * y := by rw [sy]; grind
  have hsz : fp Q.z = 2 * 2 := by rw [sz]; grind
  have hst : fp Q.t = (2 * 2) * x * y := by rw [st]; grind
  rw [hsx, hsy, hsz, hst] at tx ty
  rw [hsz, hst] at tz
  have e1 : y * y - x * x = 1 + d * (x * x) * (y * y) := hc
  generalize he2 : d * (x * x) * (y * y) = e at *
  have htx : fp T.x = (2 * 2 * 2 * 2 * 2 * 2 * 2) * (x * y) * (1 - e) := by rw [tx, ← he2]; exact txl _ _ _
  have hty : fp T.y = (2 * 2 * 2 * 2 * 2 * 2) * (x * x + y * y) * (1 + e) := by rw [ty, ← he2]; exact tyl _ _ _
  have htz : fp T.z = (2 * 2 * 2 * 2 * 2 * 2) * ((1 + e) * (1 - e)) := by rw [tz, ← he2]; exact tzl _ _ _
  have hux : fp U.x = (2 * 2) * (fp z.z * fp z.z) * (fp T.x * fp T.z) := by rw [ux]; grind
  have huy : fp U.y = (2 * 2) * (fp z.z * fp z.z) * (fp T.y * fp T.z) := by rw [uy]; grind
  have huz : fp U.z = (2 * 2) * (fp z.z * fp z.z) * (fp T.z * fp T.z) := by rw [uz]; grind
  rw [e1] at dx dy dz
  have hdx : fp D.x = 2 * (x * y) * (1 - e) := by rw [dx]; grind
  have hdy : fp D.y = (x * x + y * y) * (1 + e) := by rw [dy]; grind
  have hdz : fp D.z = (1 + e) * (1 - e) := by rw [dz]; grind
  constructor
  · refine decide_eq_true (fp_ext.1 ?_)
    rw [fp_mul, fp_mul, hux, huz, hdx, hdz, htx, htz]
    grind
  · refine decide_eq_true (fp_ext.1 ?_)
    rw [fp_mul, fp_mul, huy, huz, hdy, hdz, hty, htz]
    grind
end
section
set_option maxRecDepth 100000
set_option linter.unusedSimpArgs false
set_option linter.unusedVariables false
open Go.RowKit
theorem decPt_ok (N : Nat) : (decPt N).ok := by
  unfold decPt
  split
  · refine atP_ok ?_ (ofB_ok _)
    split
    · exact negL_ok _
    · exact rootL_ok (frU_ok (ofB_ok _)) (frV_ok (ofB_ok _))
  · exact ze1_ok
end
end
end Go.Proofs.YtmfibncllbgeoaaDoor
