import Derived.Test.YtnpjecdodhkplaaGreatDoorSL
namespace Go.Proofs.YtnpjecdodhkplaaGreatDoor
set_option maxRecDepth 100000
open Go.RowKit
theorem sm_O : ∀ n, sm n O2 = O2
 | 0 => rfl
 | n + 1 => by
  show adA (sm n O2) O2 = O2
  rw [ad_zero, sm_O n]
theorem sm_opp {P : A2} (h : On P) (k : Nat) : adA (sm k (ngA P)) (sm k P) = O2 := by
 rw [← sm_ad (on_ng h) h, ad_comm, ad_ng h, sm_O]
theorem sm_mod (m : Nat) : sm (m % qN) bA = sm m bA := by
 have e : sm (qN * (m / qN) + m % qN) bA = sm m bA := by rw [Nat.div_add_mod]
 rw [← e, sm_add on_bA, Nat.mul_comm, sm_mul on_bA, sm_q, sm_O, zero_ad]
theorem sig_back (n r k : Nat) : adA (sm k (ngA (sm n bA))) (sm ((k * n + r) % qN) bA) = sm r bA := by
 have hn := on_sm on_bA n
 rw [sm_mod, sm_add on_bA, sm_mul on_bA, ← ad_assoc (on_sm (on_ng hn) k) (on_sm hn k) (on_sm on_bA r), sm_opp hn, zero_ad]
def runM (M : Nat) : Nat → Nat
 | 0 => cdN 0 1 1
 | k + 1 => frc (runM M k) fun s => frc (opn s dbN) fun t => if M / 2 ^ (255 - k) % 2 = 1 then opn t adN else t
theorem runM_is {M : Nat} (hM : M < 2 ^ 256) : ∀ k, k ≤ 256 → I4 (runM M k) (sm (M / 2 ^ (256 - k)) bA)
 | 0, _ => by
  rw [show M / 2 ^ (256 - 0) = 0 from Nat.div_eq_of_lt hM]
  exact ⟨0, 1, 1, rfl, by decide, by decide, by decide, by decide, by decide, on_O⟩
 | k + 1, hk => by
  have ih := runM_is hM k (by omega)
  have e1 : 256 - (k + 1) = 255 - k := by omega
  have e2 : 256 - k = (255 - k) + 1 := by omega
  rw [e2] at ih
  rw [e1, bit_up, sm_add on_bA, sm_two on_bA]
  generalize sm (M / 2 ^ (255 - k + 1)) bA = A at *
  obtain ⟨x, y, z, hs, hx, hy, h3⟩ := ih
  obtain ⟨x', y', z', hs', hx', hy', h3'⟩ := i_db h3
  show I4 (frc (runM M k) fun s => frc (opn s dbN) fun t => if M / 2 ^ (255 - k) % 2 = 1 then opn t adN else t) _
  rw [frc_eq, frc_eq, hs, opn_cd hx hy, hs']
  have hb : M / 2 ^ (255 - k) % 2 = 0 ∨ M / 2 ^ (255 - k) % 2 = 1 := by
   have := Nat.mod_lt (M / 2 ^ (255 - k)) (by decide : 0 < 2)
   omega
  rcases hb with hb | hb
  ·rw [hb, if_neg (by decide)]
   show I4 _ (adA (adA A A) O2)
   rw [ad_zero]
   exact ⟨x', y', z', rfl, hx', hy', h3'⟩
  ·rw [hb, if_pos rfl, opn_cd hx' hy', sm_one]
   exact i_ad h3'
theorem told_of {M x y z zi : Nat} (hM : M < 2 ^ 256) (hr : runM M 256 = cdN x y z) (hx : x < BB) (hy : y < BB) (hz : z * zi % pp = 1) :
  told (sm M bA) = y * zi % pp + (if x * zi % pp % 2 = 1 then 57896044618658097711785492504343953926634992332820282019728792003956564819968 else 0) := by
 obtain ⟨x', y', z', hs, hx', hy', _, h1, h2, _⟩ := runM_is hM 256 (Nat.le_refl _)
 rw [show 256 - 256 = 0 from rfl, Nat.pow_zero, Nat.div_one] at h1 h2
 have a0 : ∀ {x y z : Nat}, x < BB → y < BB → cdN x y z % BB = x ∧ cdN x y z / BB % BB = y ∧ cdN x y z / BB / BB = z := by
  intro x y z hx hy
  have e2 : cdN x y z / BB = y + BB * z := by unfold cdN; rw [Nat.add_mul_div_left _ _ (by decide), Nat.div_eq_of_lt hx, Nat.zero_add]
  refine ⟨by unfold cdN; rw [Nat.add_mul_mod_self_left, Nat.mod_eq_of_lt hx], ?_, ?_⟩
  ·rw [e2, Nat.add_mul_mod_self_left, Nat.mod_eq_of_lt hy]
  ·rw [e2, Nat.add_mul_div_left _ _ (by decide), Nat.div_eq_of_lt hy, Nat.zero_add]
 rw [hr] at hs
 obtain ⟨b1, b2, b3⟩ := a0 hx hy
 obtain ⟨c1, c2, c3⟩ := a0 (z := z') hx' hy'
 rw [hs] at b1 b2 b3
 obtain rfl := b1.symm.trans c1
 obtain rfl := b2.symm.trans c2
 obtain rfl := b3.symm.trans c3
 have hi : fN z * fN zi = 1 := by
  rw [← fN_mul]
  refine Fin.ext ?_
  show z * zi % pp = _
  rw [hz]
  decide
 have p1 : (sm M bA).1 = fN (x * zi) := by rw [fN_mul, h1]; grind
 have p2 : (sm M bA).2 = fN (y * zi) := by rw [fN_mul, h2]; grind
 unfold told
 rw [p1, p2]
 rfl
end Go.Proofs.YtnpjecdodhkplaaGreatDoor
