/- The document's digits: Mul. -/
import Derived.Test.YtklbcpaoccdmeaaDoorRfE
import Derived.Laws.BitsAllLaws
import Derived.Deep.CutRange
import Derived.Deep.CutBlock
import Derived.RegionTactic
import Derived.Lib.Hide
import Derived.IntWalk
namespace Go.Proofs.YtklbcpaoccdmeaaDoor
set_option maxRecDepth 100000
open Go.RowKit

set_option linter.unusedSimpArgs false
/-- One digit put into a number. -/
theorem lev_set : ∀ (l : List Nat) (p x : Nat), p < l.length → lev (l.set p x) + l.getD p 0 * 256 ^ p = lev l + x * 256 ^ p
  | [], p, x, h => absurd h (by simp)
  | c :: l, 0, x, _ => by
    show (x + 256 * lev l) + c * 256 ^ 0 = (c + 256 * lev l) + x * 256 ^ 0
    rw [Nat.pow_zero]
    omega
  | c :: l, p + 1, x, h => by
    have ih := lev_set l p x (by simpa using h)
    show (c + 256 * lev (l.set p x)) + l.getD p 0 * 256 ^ (p + 1) = (c + 256 * lev l) + x * 256 ^ (p + 1)
    rw [Nat.pow_succ, ← Nat.mul_assoc, ← Nat.mul_assoc]
    omega
theorem put_digit {V L p x : Nat} (hV : V < 256 ^ L) (hp : p < L) (hx : x < 256) :
    ∃ V', V' < 256 ^ L ∧ V' + byt V p * 256 ^ p = V + x * 256 ^ p ∧ (Tabs .i64 (byt V) L).set p (.int .i64 (x : Int)) = Tabs .i64 (byt V') L := by
  have hlen : ((List.range L).map (byt V)).length = L := by simp
  have hlt : ∀ c ∈ ((List.range L).map (byt V)).set p x, c < 256 := by
    intro c hc
    rcases List.mem_or_eq_of_mem_set hc with h | h
    · obtain ⟨i, _, rfl⟩ := List.mem_map.1 h
      exact byt_lt V i
    · rw [h]; exact hx
  have hs := lev_set ((List.range L).map (byt V)) p x (by rw [hlen]; exact hp)
  rw [lev_byts, Nat.mod_eq_of_lt hV] at hs
  have hg : ((List.range L).map (byt V)).getD p 0 = byt V p := by simp [List.getD, hp]
  rw [hg] at hs
  refine ⟨lev (((List.range L).map (byt V)).set p x), ?_, hs, ?_⟩
  · have := lev_lt hlt
    rwa [List.length_set, hlen] at this
  · refine List.ext_getElem? fun j => ?_
    by_cases hj : j < L
    · rw [Tabs_get _ _ _ hj, byt_lev _ hlt j (by rw [List.length_set, hlen]; exact hj), List.getElem?_set, Tabs_length, Tabs_get _ _ _ hj]
      by_cases e : p = j
      · subst e
        simp [List.getD, hp]
      · rw [if_neg e]
        simp [List.getD, hj, List.getElem?_set, e]
    · rw [List.getElem?_eq_none (by rw [List.length_set, Tabs_length]; omega), List.getElem?_eq_none (by rw [Tabs_length]; omega)]
/-- One digit of a product. -/
theorem mulb_inner {A B V V' k j c s d y : Nat} (hi : V + c * 256 ^ (k + j) = A % 256 ^ k * B + byt A k * (B % 256 ^ j) * 256 ^ k) (hV' : V' + y * 256 ^ (k + j) = V + s * 256 ^ (k + j))
    (hst : s + d * 256 = y + byt A k * byt B j + c) : V' + d * 256 ^ (k + (j + 1)) = A % 256 ^ k * B + byt A k * (B % 256 ^ (j + 1)) * 256 ^ k := by
  have e : 256 ^ (k + (j + 1)) = 256 * 256 ^ (k + j) := by rw [← Nat.add_assoc, Nat.pow_succ, Nat.mul_comm]
  have e2 : 256 ^ (k + j) = 256 ^ j * 256 ^ k := by rw [Nat.pow_add, Nat.mul_comm]
  have h2 := congrArg (· * 256 ^ (k + j)) hst
  simp only [Nat.add_mul] at h2
  have e5 : byt A k * (B % 256 ^ j + 256 ^ j * byt B j) * 256 ^ k = byt A k * (B % 256 ^ j) * 256 ^ k + byt A k * byt B j * 256 ^ (k + j) := by
    rw [e2]
    exact mid_step (byt A k) (B % 256 ^ j) (256 ^ j) (byt B j) (256 ^ k)
  rw [mod_byt, e5, e]
  have e4 : d * (256 * 256 ^ (k + j)) = d * 256 * 256 ^ (k + j) := by rw [Nat.mul_assoc]
  rw [e4]
  generalize byt A k * byt B j * 256 ^ (k + j) = Z at *
  generalize byt A k * (B % 256 ^ j) * 256 ^ k = Y at *
  generalize A % 256 ^ k * B = X at *
  generalize d * 256 * 256 ^ (k + j) = P at *
  generalize s * 256 ^ (k + j) = Q at *
  generalize y * 256 ^ (k + j) = R at *
  generalize c * 256 ^ (k + j) = U at *
  omega
theorem mulb_all {A B k m : Nat} (hB : B < 256 ^ m) {j : Nat} (hj : m ≤ j) : A % 256 ^ k * B + byt A k * (B % 256 ^ j) * 256 ^ k = A % 256 ^ (k + 1) * B := by
  rw [Nat.mod_eq_of_lt (Nat.lt_of_lt_of_le hB (pow_le256 hj)), mod_byt, Nat.add_mul]
  congr 1
  rw [Nat.mul_comm (byt A k * B), Nat.mul_assoc]
theorem mulb_lt {A B k m : Nat} (hB : B < 256 ^ m) : A % 256 ^ k * B < 256 ^ (k + m) := by
  rw [Nat.pow_add]
  have h := Nat.mod_lt A (p256 k)
  calc A % 256 ^ k * B ≤ A % 256 ^ k * 256 ^ m := Nat.mul_le_mul_left _ (Nat.le_of_lt hB)
    _ < 256 ^ k * 256 ^ m := (Nat.mul_lt_mul_right (p256 m)).2 h
theorem mulb_end {A B V k m d : Nat} (hB : B < 256 ^ m) (h : V + d * 256 ^ (k + (m + 1)) = A % 256 ^ k * B + byt A k * (B % 256 ^ (m + 1)) * 256 ^ k) : d = 0 := by
  rw [mulb_all hB (Nat.le_succ m)] at h
  have h1 := mulb_lt (A := A) (k := k + 1) hB
  rw [← h, show k + 1 + m = k + (m + 1) by omega] at h1
  rcases Nat.eq_zero_or_pos d with h0 | h0
  · exact h0
  · have := Nat.mul_le_mul_right (256 ^ (k + (m + 1))) h0
    omega

set_option maxHeartbeats 6400000 in
theorem mul_doc (A n B m ga : Nat) (hA : A < 256 ^ n) (hB : B < 256 ^ m) (hn : n ≤ 200) (hm : m ≤ 200) (h0 : 1 ≤ m) (b : Option Addr) (ca cb : Nat) (G : Nat → Prop) (w : World) (hca : ∀ k, k < n → w.cell? ⟨ga, k, none⟩ = some (.int .i64 ((byt A k : Nat) : Int))) (hgal : ga < w.heap.size) (hrb : Rd w G b m (Tabs .i64 (byt B) m)) :
    Calls Tryd.prog 29 #[.slice (some ⟨ga, 0, none⟩) n ca, .slice b m cb] w fun e w' => ∃ v, e = .returned v ∧ A * B < 256 ^ (n + m) ∧ w'.ownsRow w.heap.size 3 1 v (n + m) (Tabs .i64 (byt (A * B)) (n + m)) ∧ Below w.heap.size w w' := by
  obtain ⟨i0, hi, hz0, hz1, hz2⟩ := info_parts int_inf
  have hAB : A * B < 256 ^ (n + m) := by
    have := mulb_lt (A := A) (k := n) hB
    rwa [Nat.mod_eq_of_lt hA] at this
  have hAn : A % 256 ^ n * B = A * B := by rw [Nat.mod_eq_of_lt hA]
  have hLM : ((n : Int) + (m : Int)) = ((n + m : Nat) : Int) := by omega
  have HCA := Lib.hid hca
  have HGA := Lib.hid hgal
  have HRB := Lib.hid hrb
  have HB := Lib.hid hB
  have HAB := Lib.hid hAB
  have HAN := Lib.hid hAn
  have HLM := Lib.hid hLM
  have HI := Lib.hid hi
  have HZ0 := Lib.hid hz0
  have HZ1 := Lib.hid hz1
  have HZ2 := Lib.hid hz2
  clear hca hgal hrb hA hB hAB hAn hLM hi hz0 hz1 hz2
  go_enter Tryd.func29, Tryd.ntmps29
  go_wp2_with (at_make; refine wpList_make_full _ rfl _ _ 42 rfl w.heap.size 3 i0 (.int .i64 0) 1 Tryd.underlying42 HI.out HZ0.out HZ1.out _ _ _ _ (n + m) rfl rfl ?b0 ?b5 ?b1 ?b2 ?b3 ?_)
  case b0 => exact HLM.out
  case b5 => exact HLM.out
  case b1 => rw [HZ2.out]; omega
  case b2 => unfold maxLen; omega
  case b3 => omega
  intro w1 hown hgrow
  have hb1 : Below w.heap.size w w1 := (Below.refl _ _).grown hgrow (Nat.le_refl _) (fun k h => by cases h)
  have hown1 : w1.ownsRow w.heap.size 3 1 (.slice (some ⟨w.heap.size, 0, none⟩) (n + m) (n + m)) (n + m) (Tabs .i64 (byt 0) (n + m)) := by
    have e : (madeCells #[Value.int .i64 0] (n + m)).toList = Tabs .i64 (byt 0) (n + m) := by
      rw [toList_madeCells_one]
      refine List.ext_getElem? fun i => ?_
      by_cases hi : i < n + m
      · rw [List.getElem?_replicate, if_pos hi, Tabs_get _ _ _ hi]
        have : byt 0 i = 0 := by unfold byt; rw [Nat.zero_div]
        rw [this]; rfl
      · rw [List.getElem?_eq_none (by rw [List.length_replicate]; omega), List.getElem?_eq_none (by rw [Tabs_length]; omega)]
    rw [← e]
    simpa using hown
  have HOWN1 := Lib.hid hown1
  have HB1 := Lib.hid hb1
  clear hown hgrow hb1 hown1
  go_wp2_with fail
  go_loopw [6] (fun i wr => ∃ k : Nat, k ≤ n ∧ i = .int .i64 k ∧ wr.ownsRow w.heap.size 3 1 (.slice (some ⟨w.heap.size, 0, none⟩) (n + m) (n + m)) (n + m) (Tabs .i64 (byt (A % 256 ^ k * B)) (n + m)) ∧ Below w.heap.size w wr) (fun i _ => n - (intOf i).toNat)
  case atStart => exact ⟨0, Nat.zero_le _, rfl, by rw [Nat.pow_zero, Nat.mod_one, Nat.zero_mul]; exact HOWN1.out, HB1.out⟩
  case round =>
    obtain ⟨k, hkn, rfl, hown, hbe⟩ := hrel
    by_cases hk : k < n
    · have bk0 : (0 : Int) ≤ (k : Int) := by omega
      have bk1 : (k : Int) < (n : Int) := by omega
      have HOWN := Lib.hid hown
      have HBE := Lib.hid hbe
      clear hown hbe
      go_wp2_with fail
      obtain ⟨wo, rfl⟩ : ∃ wo, wo = wr := ⟨_, rfl⟩
      go_loopw [7, 8] (fun o i wr => ∃ j c V : Nat, j ≤ m + 1 ∧ i = .int .i64 j ∧ o = .int .i64 (c : Int) ∧ c < 256 ∧ (j = m + 1 → c = 0) ∧ V < 256 ^ (n + m) ∧ V + c * 256 ^ (k + j) = A % 256 ^ k * B + byt A k * (B % 256 ^ j) * 256 ^ k ∧ wr.ownsRow w.heap.size 3 1 (.slice (some ⟨w.heap.size, 0, none⟩) (n + m) (n + m)) (n + m) (Tabs .i64 (byt V) (n + m)) ∧ Below w.heap.size w wr) (fun _ i _ => m + 1 - (intOf i).toNat)
      case atStart =>
        refine ⟨0, 0, A % 256 ^ k * B, Nat.zero_le _, rfl, rfl, by decide, fun _ => rfl, Nat.lt_of_lt_of_le (mulb_lt HB.out) (pow_le256 (by omega)), ?_, HOWN.out, HBE.out⟩
        rw [Nat.pow_zero, Nat.mod_one]
        simp
      case round =>
        obtain ⟨j, c, V, hjm, rfl, rfl, hc, hc0, hV, hi, hown, hbe⟩ := hrel
        by_cases hgo : j < m ∨ (j = m ∧ 0 < c)
        · have hjm2 : j < m + 1 := by omega
          have hkj : k + j < n + m := by omega
          have hcell := hown.cellAt (k + j) (by omega)
          rw [Tabs_get .i64 (byt V) (n + m) hkj] at hcell
          have hcela := (hbe.cell (p := ⟨ga, k, none⟩) HGA.out).trans (HCA.out k hk)
          have hrbk := HRB.out.belowAll hbe
          have lx := byt_lt A k
          have ly := byt_lt B j
          have lv := byt_lt V (k + j)
          have hprod : byt A k * byt B j ≤ 255 * 255 := Nat.mul_le_mul (by omega) (by omega)
          obtain ⟨s, hs⟩ : ∃ s, s = (byt V (k + j) + byt A k * byt B j + c) % 256 := ⟨_, rfl⟩
          obtain ⟨d, hd⟩ : ∃ d, d = (byt V (k + j) + byt A k * byt B j + c) / 256 := ⟨_, rfl⟩
          have hsd : s + d * 256 = byt V (k + j) + byt A k * byt B j + c := by omega
          have hs256 : s < 256 := by omega
          have hd256 : d < 256 := by omega
          obtain ⟨V', hV', hput, hset⟩ := put_digit hV hkj hs256
          have hnew := mulb_inner hi hput hsd
          have hend : j + 1 = m + 1 → d = 0 := fun e => by
            obtain rfl : j = m := by omega
            exact mulb_end HB.out hnew
          have hat := fun W => at_pos B m HB.out b cb G j W (by omega) (by omega)
          have hgl : w.heap.size < wr.heap.size := lt_of_cell (a := ⟨w.heap.size, k + j, none⟩) hcell
          have hpr : ((byt A k : Nat) : Int) * ((byt B j : Nat) : Int) = ((byt A k * byt B j : Nat) : Int) := by simp
          have HPR := Lib.hid hpr
          generalize byt V (k + j) = y at *
          generalize byt A k * byt B j = pr at *
          generalize byt A k = x at *
          generalize byt B j = z at *
          have hmul : IntKind.i64.wrap ((x : Int) * (z : Int)) = (pr : Int) := by rw [HPR.out]; exact IntWalk.i64_in _ (by omega)
          have w1 : IntKind.i64.wrap ((k : Int) + (j : Int)) = (k : Int) + (j : Int) := IntWalk.i64_in _ (by omega)
          have w2 : IntKind.i64.wrap ((y : Int) + (pr : Int)) = (y : Int) + (pr : Int) := IntWalk.i64_in _ (by omega)
          have w3 : IntKind.i64.wrap ((y : Int) + (pr : Int) + (c : Int)) = (y : Int) + (pr : Int) + (c : Int) := IntWalk.i64_in _ (by omega)
          have w4 : (0 : Int) ≤ (k : Int) + (j : Int) := by omega
          have w5 : ((k : Int) + (j : Int)).toNat = k + j := by omega
          have w6 : (k : Int) + (j : Int) < (n : Int) + (m : Int) := by omega
          have hsm : ((y : Int) + (pr : Int) + (c : Int)) % 256 = (s : Int) := by omega
          have hsdv : ((y : Int) + (pr : Int) + (c : Int)) / 256 = (d : Int) := by omega
          have bj0 : (0 : Int) ≤ (j : Int) := by omega
          have bj1 : (j : Int) ≤ (m : Int) := by omega
          have HCELL := Lib.hid hcell
          have HCELA := Lib.hid hcela
          have HRBK := Lib.hid hrbk
          have HAT := Lib.hid hat
          have HSET := Lib.hid hset
          have HNEW := Lib.hid hnew
          have HEND := Lib.hid hend
          have HOWNK := Lib.hid hown
          have HBEK := Lib.hid hbe
          have HGL := Lib.hid hgl
          have HV' := Lib.hid hV'
          have HSM := Lib.hid hsm
          have HSDV := Lib.hid hsdv
          clear hcell hcela hrbk hat hset hnew hend hown hbe hgl hV' hsm hsdv hput hsd hs hd hi hV hpr hc0
          by_cases h1 : j < m
          · clear hgo
            go_upto_region 9 with fail
            have hgal := Nat.lt_of_lt_of_le HGA.out HBEK.out.size
            have HGAL := Lib.hid hgal
            clear hgal
            refine wp_region_any (by kernel_rfl) ?_
            change wpAny _ _ _ _ _ _ _ (World.drew _)
            refine wpAny_of_held (S := (fun w' : World => Below wr.heap.size wr w')) _ _ _ _ ?_
            have hHeld := ((Below.refl wr.heap.size wr).drew)
            refine wpAnyH_take (i := 0) (v := ?_) rfl (by kernel_rfl) (by kernel_rfl) (by kernel_rfl) (fun _ _ _ h => h) (Or.inl ⟨by rfl, ?_⟩) hHeld ?_
            rotate_left
            · (intro w' hSw; go_simp; try (with_reducible rfl))
            change wpAnyH _ _ _ _ _ _ _ (Act.put _ (some 32) _) _
            simp only [Act.put, List.setIfInBounds_toArray, List.set_cons_zero, List.set_cons_succ]
            refine wpAnyH_take (i := 1) (v := ?_) rfl (by kernel_rfl) (by kernel_rfl) (by kernel_rfl) (fun _ _ _ h => h) (Or.inl ⟨by rfl, ?_⟩) hHeld ?_
            rotate_left
            · (intro w' hSw; go_simp; try (with_reducible rfl))
            change wpAnyH _ _ _ _ _ _ _ (Act.put _ (some 33) _) _
            simp only [Act.put, List.setIfInBounds_toArray, List.set_cons_zero, List.set_cons_succ]
            refine wpAnyH_take (i := 2) (v := ?_) rfl (by kernel_rfl) (by kernel_rfl) (by kernel_rfl) (fun _ _ _ h => h) (Or.inl ⟨by rfl, ?_⟩) hHeld ?_
            rotate_left
            · (intro w' hSw; go_simp; try (with_reducible rfl))
            change wpAnyH _ _ _ _ _ _ _ (Act.put _ (some 34) _) _
            simp only [Act.put, List.setIfInBounds_toArray, List.set_cons_zero, List.set_cons_succ]
            refine wpAnyH_take (i := 6) (v := ?_) rfl (by kernel_rfl) (by kernel_rfl) (by kernel_rfl) (fun _ _ _ h => h) (Or.inl ⟨by rfl, ?_⟩) hHeld ?_
            rotate_left
            · (intro w' hSw; go_simp; try (with_reducible rfl))
            change wpAnyH _ _ _ _ _ _ _ (Act.put _ (some 38) _) _
            simp only [Act.put, List.setIfInBounds_toArray, List.set_cons_zero, List.set_cons_succ]
            refine wpAnyH_take (i := 7) (v := ?_) rfl (by kernel_rfl) (by kernel_rfl) (by kernel_rfl) (fun _ _ _ h => h) (Or.inl ⟨by rfl, ?_⟩) hHeld ?_
            rotate_left
            · (intro w' hSw; go_simp; try (with_reducible rfl))
            change wpAnyH _ _ _ _ _ _ _ (Act.put _ (some 39) _) _
            simp only [Act.put, List.setIfInBounds_toArray, List.set_cons_zero, List.set_cons_succ]
            refine wpAnyH_take (i := 10) (v := ?_) rfl (by kernel_rfl) (by kernel_rfl) (by kernel_rfl) (fun _ _ _ h => h) (Or.inl ⟨by rfl, ?_⟩) hHeld ?_
            rotate_left
            · (intro w' hSw; go_simp; try (with_reducible rfl))
            change wpAnyH _ _ _ _ _ _ _ (Act.put _ (some 42) _) _
            simp only [Act.put, List.setIfInBounds_toArray, List.set_cons_zero, List.set_cons_succ]
            refine wpAnyH_take (i := 11) (v := ?_) rfl (by kernel_rfl) (by kernel_rfl) (by kernel_rfl) (fun _ _ _ h => h) (Or.inl ⟨by rfl, ?_⟩) hHeld ?_
            rotate_left
            · (intro w' hSw; go_simp; try (with_reducible rfl))
            change wpAnyH _ _ _ _ _ _ _ (Act.put _ (some 43) _) _
            simp only [Act.put, List.setIfInBounds_toArray, List.set_cons_zero, List.set_cons_succ]
            refine wpAnyH_take (i := 15) (v := ?_) rfl (by kernel_rfl) (by kernel_rfl) (by kernel_rfl) (fun _ _ _ h => h) (Or.inl ⟨by rfl, ?_⟩) hHeld ?_
            rotate_left
            · (intro w' hSw; go_simp; try (with_reducible rfl))
            change wpAnyH _ _ _ _ _ _ _ (Act.put _ (some 47) _) _
            simp only [Act.put, List.setIfInBounds_toArray, List.set_cons_zero, List.set_cons_succ]
            refine wpAnyH_take (i := 3) (v := ?_) rfl (by kernel_rfl) (by kernel_rfl) (by kernel_rfl) (fun _ _ _ h => h) (Or.inl ⟨by rfl, ?_⟩) hHeld ?_
            rotate_left
            · (intro w' hSw; go_simp; try (with_reducible rfl))
            change wpAnyH _ _ _ _ _ _ _ (Act.put _ (some 35) _) _
            simp only [Act.put, List.setIfInBounds_toArray, List.set_cons_zero, List.set_cons_succ]
            refine wpAnyH_take (i := 8) (v := ?_) rfl (by kernel_rfl) (by kernel_rfl) (by kernel_rfl) (fun _ _ _ h => h) (Or.inl ⟨by rfl, ?_⟩) hHeld ?_
            rotate_left
            · (intro w' hSw; go_simp; try (with_reducible rfl))
            change wpAnyH _ _ _ _ _ _ _ (Act.put _ (some 40) _) _
            simp only [Act.put, List.setIfInBounds_toArray, List.set_cons_zero, List.set_cons_succ]
            refine wpAnyH_take (i := 4) (v := ?_) rfl (by kernel_rfl) (by kernel_rfl) (by kernel_rfl) (fun _ _ _ h => h) (Or.inl ⟨by rfl, ?_⟩) hHeld ?_
            rotate_left
            · (intro w' hSw; go_simp; try (with_reducible rfl))
            change wpAnyH _ _ _ _ _ _ _ (Act.put _ (some 36) _) _
            simp only [Act.put, List.setIfInBounds_toArray, List.set_cons_zero, List.set_cons_succ]
            refine wpAnyH_take (i := 9) (v := ?_) rfl (by kernel_rfl) (by kernel_rfl) (by kernel_rfl) (fun _ _ _ h => h) (Or.inl ⟨by rfl, ?_⟩) hHeld ?_
            rotate_left
            · (intro w' hSw; have c0 := (hSw.cell (p := ⟨ga, k, none⟩) HGAL.out).trans HCELA.out; go_simp; try (with_reducible rfl))
            change wpAnyH _ _ _ _ _ _ _ (Act.put _ (some 41) _) _
            simp only [Act.put, List.setIfInBounds_toArray, List.set_cons_zero, List.set_cons_succ]
            refine wpAnyH_take (i := 5) (v := ?_) rfl (by kernel_rfl) (by kernel_rfl) (by kernel_rfl) (fun _ _ _ h => h) (Or.inl ⟨by rfl, ?_⟩) hHeld ?_
            rotate_left
            · (intro w' hSw; have c0 := (hSw.cell (p := ⟨w.heap.size, k + j, none⟩) HGL.out).trans HCELL.out; go_simp; try (with_reducible rfl))
            change wpAnyH _ _ _ _ _ _ _ (Act.put _ (some 37) _) _
            simp only [Act.put, List.setIfInBounds_toArray, List.set_cons_zero, List.set_cons_succ]
            refine wpAnyH_ready (rs := [12]) (by kernel_rfl) (by simp) ?_
            refine AllReadyH.cons rfl (fun K hK => ?_) AllReadyH.nil
            rw [if_pos (by kernel_rfl)]
            go_simp
            refine (HAT.out _ (HRBK.out.belowAll hHeld)).mono ?_
            rintro e w6 ⟨rfl, rfl⟩
            refine hK.out _ _ hHeld (fun hHeld => ?_)
            clear hK K
            refine wpAnyH_take (i := 13) (v := ?_) rfl (by kernel_rfl) (by kernel_rfl) (by kernel_rfl) (fun _ _ _ h => h) (Or.inl ⟨by rfl, ?_⟩) hHeld ?_
            rotate_left
            · (intro w' hSw; go_simp; try (with_reducible rfl))
            change wpAnyH _ _ _ _ _ _ _ (Act.put _ (some 45) _) _
            simp only [Act.put, List.setIfInBounds_toArray, List.set_cons_zero, List.set_cons_succ]
            refine wpAnyH_take (i := 14) (v := ?_) rfl (by kernel_rfl) (by kernel_rfl) (by kernel_rfl) (fun _ _ _ h => h) (Or.inl ⟨by rfl, ?_⟩) hHeld ?_
            rotate_left
            · (intro w' hSw; go_simp; try (with_reducible rfl))
            change wpAnyH _ _ _ _ _ _ _ (Act.put _ (some 46) _) _
            simp only [Act.put, List.setIfInBounds_toArray, List.set_cons_zero, List.set_cons_succ]
            refine wpAnyH_take (i := 16) (v := ?_) rfl (by kernel_rfl) (by kernel_rfl) (by kernel_rfl) (fun _ _ _ h => h) (Or.inl ⟨by rfl, ?_⟩) hHeld ?_
            rotate_left
            · (intro w' hSw; go_simp; try (with_reducible rfl))
            change wpAnyH _ _ _ _ _ _ _ (Act.put _ (some 48) _) _
            simp only [Act.put, List.setIfInBounds_toArray, List.set_cons_zero, List.set_cons_succ]
            refine wpAnyH_take (i := 17) (v := ?_) rfl (by kernel_rfl) (by kernel_rfl) (by kernel_rfl) (fun _ _ _ h => h) (Or.inl ⟨by rfl, ?_⟩) hHeld ?_
            rotate_left
            · (intro w' hSw; go_simp; try (with_reducible rfl))
            change wpAnyH _ _ _ _ _ _ _ (Act.put _ (some 9) _) _
            simp only [Act.put, List.setIfInBounds_toArray, List.set_cons_zero, List.set_cons_succ]
            refine wpAnyH_done (by kernel_rfl) ?_ _
            have hown6 := own_below HOWNK.out hHeld
            have hbe6 := HBEK.out.trans (hHeld.mono HBEK.out.size)
            have hc6 := (hHeld.cell (p := ⟨w.heap.size, k + j, none⟩) HGL.out).trans HCELL.out
            have hf6 := hown6.frozenAt (k + j)
            have hst6 := (hown6.stored (k + j) (.int .i64 (s : Int))).1
            rw [HSET.out] at hst6
            have hbs6 := hbe6.setCell (p := ⟨w.heap.size, k + j, none⟩) (Nat.le_refl _) (.int .i64 (s : Int))
            have HST6 := Lib.hid hst6
            have HBS6 := Lib.hid hbs6
            have hsm := HSM.out
            clear hown6 hbe6 hst6 hbs6 hHeld hmul w1 w2 w3 w4 w5
            go_wp2_with fail
            go_roundw
            case rel => exact ⟨j + 1, d, V', by omega, by go_num, by rw [HSDV.out], hd256, HEND.out, HV'.out, HNEW.out, HST6.out, HBS6.out⟩
            case measure => simp [intOf] <;> omega
          · have hc0 : 0 < c := by omega
            have hc0i : (0 : Int) < (c : Int) := by omega
            have h1i : (m : Int) ≤ (j : Int) := by omega
            clear hgo
            go_upto_region 9 with fail
            have hgal := Nat.lt_of_lt_of_le HGA.out HBEK.out.size
            have HGAL := Lib.hid hgal
            clear hgal
            refine wp_region_any (by kernel_rfl) ?_
            change wpAny _ _ _ _ _ _ _ (World.drew _)
            refine wpAny_of_held (S := (fun w' : World => Below wr.heap.size wr w')) _ _ _ _ ?_
            have hHeld := ((Below.refl wr.heap.size wr).drew)
            refine wpAnyH_take (i := 0) (v := ?_) rfl (by kernel_rfl) (by kernel_rfl) (by kernel_rfl) (fun _ _ _ h => h) (Or.inl ⟨by rfl, ?_⟩) hHeld ?_
            rotate_left
            · (intro w' hSw; go_simp; try (with_reducible rfl))
            change wpAnyH _ _ _ _ _ _ _ (Act.put _ (some 32) _) _
            simp only [Act.put, List.setIfInBounds_toArray, List.set_cons_zero, List.set_cons_succ]
            refine wpAnyH_take (i := 1) (v := ?_) rfl (by kernel_rfl) (by kernel_rfl) (by kernel_rfl) (fun _ _ _ h => h) (Or.inl ⟨by rfl, ?_⟩) hHeld ?_
            rotate_left
            · (intro w' hSw; go_simp; try (with_reducible rfl))
            change wpAnyH _ _ _ _ _ _ _ (Act.put _ (some 33) _) _
            simp only [Act.put, List.setIfInBounds_toArray, List.set_cons_zero, List.set_cons_succ]
            refine wpAnyH_take (i := 2) (v := ?_) rfl (by kernel_rfl) (by kernel_rfl) (by kernel_rfl) (fun _ _ _ h => h) (Or.inl ⟨by rfl, ?_⟩) hHeld ?_
            rotate_left
            · (intro w' hSw; go_simp; try (with_reducible rfl))
            change wpAnyH _ _ _ _ _ _ _ (Act.put _ (some 34) _) _
            simp only [Act.put, List.setIfInBounds_toArray, List.set_cons_zero, List.set_cons_succ]
            refine wpAnyH_take (i := 6) (v := ?_) rfl (by kernel_rfl) (by kernel_rfl) (by kernel_rfl) (fun _ _ _ h => h) (Or.inl ⟨by rfl, ?_⟩) hHeld ?_
            rotate_left
            · (intro w' hSw; go_simp; try (with_reducible rfl))
            change wpAnyH _ _ _ _ _ _ _ (Act.put _ (some 38) _) _
            simp only [Act.put, List.setIfInBounds_toArray, List.set_cons_zero, List.set_cons_succ]
            refine wpAnyH_take (i := 7) (v := ?_) rfl (by kernel_rfl) (by kernel_rfl) (by kernel_rfl) (fun _ _ _ h => h) (Or.inl ⟨by rfl, ?_⟩) hHeld ?_
            rotate_left
            · (intro w' hSw; go_simp; try (with_reducible rfl))
            change wpAnyH _ _ _ _ _ _ _ (Act.put _ (some 39) _) _
            simp only [Act.put, List.setIfInBounds_toArray, List.set_cons_zero, List.set_cons_succ]
            refine wpAnyH_take (i := 10) (v := ?_) rfl (by kernel_rfl) (by kernel_rfl) (by kernel_rfl) (fun _ _ _ h => h) (Or.inl ⟨by rfl, ?_⟩) hHeld ?_
            rotate_left
            · (intro w' hSw; go_simp; try (with_reducible rfl))
            change wpAnyH _ _ _ _ _ _ _ (Act.put _ (some 42) _) _
            simp only [Act.put, List.setIfInBounds_toArray, List.set_cons_zero, List.set_cons_succ]
            refine wpAnyH_take (i := 11) (v := ?_) rfl (by kernel_rfl) (by kernel_rfl) (by kernel_rfl) (fun _ _ _ h => h) (Or.inl ⟨by rfl, ?_⟩) hHeld ?_
            rotate_left
            · (intro w' hSw; go_simp; try (with_reducible rfl))
            change wpAnyH _ _ _ _ _ _ _ (Act.put _ (some 43) _) _
            simp only [Act.put, List.setIfInBounds_toArray, List.set_cons_zero, List.set_cons_succ]
            refine wpAnyH_take (i := 15) (v := ?_) rfl (by kernel_rfl) (by kernel_rfl) (by kernel_rfl) (fun _ _ _ h => h) (Or.inl ⟨by rfl, ?_⟩) hHeld ?_
            rotate_left
            · (intro w' hSw; go_simp; try (with_reducible rfl))
            change wpAnyH _ _ _ _ _ _ _ (Act.put _ (some 47) _) _
            simp only [Act.put, List.setIfInBounds_toArray, List.set_cons_zero, List.set_cons_succ]
            refine wpAnyH_take (i := 3) (v := ?_) rfl (by kernel_rfl) (by kernel_rfl) (by kernel_rfl) (fun _ _ _ h => h) (Or.inl ⟨by rfl, ?_⟩) hHeld ?_
            rotate_left
            · (intro w' hSw; go_simp; try (with_reducible rfl))
            change wpAnyH _ _ _ _ _ _ _ (Act.put _ (some 35) _) _
            simp only [Act.put, List.setIfInBounds_toArray, List.set_cons_zero, List.set_cons_succ]
            refine wpAnyH_take (i := 8) (v := ?_) rfl (by kernel_rfl) (by kernel_rfl) (by kernel_rfl) (fun _ _ _ h => h) (Or.inl ⟨by rfl, ?_⟩) hHeld ?_
            rotate_left
            · (intro w' hSw; go_simp; try (with_reducible rfl))
            change wpAnyH _ _ _ _ _ _ _ (Act.put _ (some 40) _) _
            simp only [Act.put, List.setIfInBounds_toArray, List.set_cons_zero, List.set_cons_succ]
            refine wpAnyH_take (i := 4) (v := ?_) rfl (by kernel_rfl) (by kernel_rfl) (by kernel_rfl) (fun _ _ _ h => h) (Or.inl ⟨by rfl, ?_⟩) hHeld ?_
            rotate_left
            · (intro w' hSw; go_simp; try (with_reducible rfl))
            change wpAnyH _ _ _ _ _ _ _ (Act.put _ (some 36) _) _
            simp only [Act.put, List.setIfInBounds_toArray, List.set_cons_zero, List.set_cons_succ]
            refine wpAnyH_take (i := 9) (v := ?_) rfl (by kernel_rfl) (by kernel_rfl) (by kernel_rfl) (fun _ _ _ h => h) (Or.inl ⟨by rfl, ?_⟩) hHeld ?_
            rotate_left
            · (intro w' hSw; have c0 := (hSw.cell (p := ⟨ga, k, none⟩) HGAL.out).trans HCELA.out; go_simp; try (with_reducible rfl))
            change wpAnyH _ _ _ _ _ _ _ (Act.put _ (some 41) _) _
            simp only [Act.put, List.setIfInBounds_toArray, List.set_cons_zero, List.set_cons_succ]
            refine wpAnyH_take (i := 5) (v := ?_) rfl (by kernel_rfl) (by kernel_rfl) (by kernel_rfl) (fun _ _ _ h => h) (Or.inl ⟨by rfl, ?_⟩) hHeld ?_
            rotate_left
            · (intro w' hSw; have c0 := (hSw.cell (p := ⟨w.heap.size, k + j, none⟩) HGL.out).trans HCELL.out; go_simp; try (with_reducible rfl))
            change wpAnyH _ _ _ _ _ _ _ (Act.put _ (some 37) _) _
            simp only [Act.put, List.setIfInBounds_toArray, List.set_cons_zero, List.set_cons_succ]
            refine wpAnyH_ready (rs := [12]) (by kernel_rfl) (by simp) ?_
            refine AllReadyH.cons rfl (fun K hK => ?_) AllReadyH.nil
            rw [if_pos (by kernel_rfl)]
            go_simp
            refine (HAT.out _ (HRBK.out.belowAll hHeld)).mono ?_
            rintro e w6 ⟨rfl, rfl⟩
            refine hK.out _ _ hHeld (fun hHeld => ?_)
            clear hK K
            refine wpAnyH_take (i := 13) (v := ?_) rfl (by kernel_rfl) (by kernel_rfl) (by kernel_rfl) (fun _ _ _ h => h) (Or.inl ⟨by rfl, ?_⟩) hHeld ?_
            rotate_left
            · (intro w' hSw; go_simp; try (with_reducible rfl))
            change wpAnyH _ _ _ _ _ _ _ (Act.put _ (some 45) _) _
            simp only [Act.put, List.setIfInBounds_toArray, List.set_cons_zero, List.set_cons_succ]
            refine wpAnyH_take (i := 14) (v := ?_) rfl (by kernel_rfl) (by kernel_rfl) (by kernel_rfl) (fun _ _ _ h => h) (Or.inl ⟨by rfl, ?_⟩) hHeld ?_
            rotate_left
            · (intro w' hSw; go_simp; try (with_reducible rfl))
            change wpAnyH _ _ _ _ _ _ _ (Act.put _ (some 46) _) _
            simp only [Act.put, List.setIfInBounds_toArray, List.set_cons_zero, List.set_cons_succ]
            refine wpAnyH_take (i := 16) (v := ?_) rfl (by kernel_rfl) (by kernel_rfl) (by kernel_rfl) (fun _ _ _ h => h) (Or.inl ⟨by rfl, ?_⟩) hHeld ?_
            rotate_left
            · (intro w' hSw; go_simp; try (with_reducible rfl))
            change wpAnyH _ _ _ _ _ _ _ (Act.put _ (some 48) _) _
            simp only [Act.put, List.setIfInBounds_toArray, List.set_cons_zero, List.set_cons_succ]
            refine wpAnyH_take (i := 17) (v := ?_) rfl (by kernel_rfl) (by kernel_rfl) (by kernel_rfl) (fun _ _ _ h => h) (Or.inl ⟨by rfl, ?_⟩) hHeld ?_
            rotate_left
            · (intro w' hSw; go_simp; try (with_reducible rfl))
            change wpAnyH _ _ _ _ _ _ _ (Act.put _ (some 9) _) _
            simp only [Act.put, List.setIfInBounds_toArray, List.set_cons_zero, List.set_cons_succ]
            refine wpAnyH_done (by kernel_rfl) ?_ _
            have hown6 := own_below HOWNK.out hHeld
            have hbe6 := HBEK.out.trans (hHeld.mono HBEK.out.size)
            have hc6 := (hHeld.cell (p := ⟨w.heap.size, k + j, none⟩) HGL.out).trans HCELL.out
            have hf6 := hown6.frozenAt (k + j)
            have hst6 := (hown6.stored (k + j) (.int .i64 (s : Int))).1
            rw [HSET.out] at hst6
            have hbs6 := hbe6.setCell (p := ⟨w.heap.size, k + j, none⟩) (Nat.le_refl _) (.int .i64 (s : Int))
            have HST6 := Lib.hid hst6
            have HBS6 := Lib.hid hbs6
            have hsm := HSM.out
            clear hown6 hbe6 hst6 hbs6 hHeld hmul w1 w2 w3 w4 w5
            go_wp2_with fail
            go_roundw
            case rel => exact ⟨j + 1, d, V', by omega, by go_num, by rw [HSDV.out], hd256, HEND.out, HV'.out, HNEW.out, HST6.out, HBS6.out⟩
            case measure => simp [intOf] <;> omega
        · have hjm2 : m ≤ j := by omega
          have hc00 : c = 0 := by
            by_cases e : j = m
            · omega
            · exact hc0 (by omega)
          rw [hc00, Nat.zero_mul, Nat.add_zero, mulb_all HB.out hjm2] at hi
          rw [hi] at hown
          have h1i : (m : Int) ≤ (j : Int) := by omega
          have HOWN4 := Lib.hid hown
          have HBE4 := Lib.hid hbe
          rw [hc00]
          clear hgo hi hown hbe hc0 hc00 hV hc
          go_wp2_with fail
          go_roundw
          case rel => exact ⟨k + 1, by omega, by go_num, HOWN4.out, HBE4.out⟩
          case measure => simp [intOf] <;> omega
    · obtain rfl : k = n := by omega
      rw [HAN.out] at hown
      have HOWN := Lib.hid hown
      have HBE := Lib.hid hbe
      clear hown hbe
      go_wp2_with fail
      go_ret
      exact ⟨_, rfl, HAB.out, HOWN.out, HBE.out⟩

end Go.Proofs.YtklbcpaoccdmeaaDoor
