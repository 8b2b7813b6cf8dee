/- The law on bytes that begin with a number: whatever bytes come, the call returns true, and nothing that was there is changed. -/
import Derived.Test.YtaekepejeokciaaAwake
import Derived.ProofKit
import Derived.OpenShut
import Derived.ShutString
import Derived.ChangeOld
namespace Go.Proofs.Ytaekepejeokciaa
open Go.RowKit

/-- A slice of bytes that came in: nil, or a row of cap cells. -/
def IsRow (k : IntKind) (w : World) (a : Option Addr) (len cap : Nat) (zs : List Int) : Prop :=
  (a = none ∧ len = 0 ∧ cap = 0 ∧ zs = []) ∨
  ∃ x, a = some x ∧ len ≤ cap ∧ cap ≤ maxLen ∧ zs.length = cap ∧ (∀ i, i < zs.length → w.cell? (x.add i) = some (.int k (zs.getD i 0))) ∧ ∀ n ∈ zs, (Lit.int k n).wf = true

theorem u8_range {n : Int} (h : (Lit.int .u8 n).wf = true) : 0 ≤ n ∧ n ≤ 255 := by
  have := bounds_u8 h
  omega

theorem row_rd {w : World} {a : Option Addr} {len cap : Nat} {zs : List Int} (h : IsRow .u8 w a len cap zs) :
    ∃ k : List UInt8, Rd w (fun j => j < w.heap.size) a len (Bs k) ∧ len ≤ cap ∧ cap ≤ maxLen := by
  rcases h with ⟨rfl, rfl, rfl, rfl⟩ | ⟨x, rfl, h1, h2, h3, h4, h5⟩
  · exact ⟨[], Rd.nil _ _ _, Nat.le_refl _, by unfold maxLen; omega⟩
  · refine ⟨(zs.take len).map fun n => UInt8.ofNat n.toNat, ⟨by simp [Bs]; omega, fun hn => ?_⟩, h1, h2⟩
    have hb : x.block < w.heap.size := by
      have := h4 0 (by omega)
      have := lt_of_cell this
      rwa [add_block] at this
    refine ⟨x, rfl, hb, hb, fun j u hu => ?_⟩
    have hj : j < len := by
      have := (List.getElem?_eq_some_iff.1 hu).1
      simp [Bs] at this
      omega
    have hz : zs[j]? = some (zs.getD j 0) := by rw [List.getD, List.getElem?_eq_getElem (by omega)]; rfl
    rw [h4 j (by omega), ← hu]
    have hr := u8_range (h5 _ (List.mem_of_getElem? hz))
    rw [Bs_get, List.getElem?_map, List.getElem?_take, if_pos hj, hz]
    simp only [Option.map_some]
    rw [toNat_low (by omega)]
    congr 2
    omega

/-- A reader of whole bytes, asked for a number of 64 bits: what it comes to, and what its bytes then are. -/
theorem rnum_all {k : List UInt8} {p q : Nat} {n : Nat} (h : rnum k p 18446744073709551615 = (n, q, 0)) : n < 18446744073709551616 ∧ p ≤ q ∧ q ≤ k.length + p ∧ (k.drop p).take (q - p) = enc n := by
  unfold rnum at h
  cases hd : dec (k.drop p) with
  | none => rw [hd] at h; simp at h
  | some r =>
    obtain ⟨m, s⟩ := r
    rw [hd] at h
    have hr := enc_dec hd
    by_cases hm : 18446744073709551615 < m
    · omega
    · simp only [if_neg hm] at h
      injection h with h1 h2
      injection h2 with h2 h3
      subst h1 h2
      have hl : (k.drop p).length ≤ k.length := by simp
      refine ⟨hr.1, by omega, by omega, ?_⟩
      rw [Nat.add_sub_cancel_left]
      exact hr.2.2.2

set_option maxHeartbeats 400000 in
theorem sole_long (a : Option Addr) (n c : Nat) (w : World) (hn : 40 < n) :
    Calls Try.prog 5 #[.slice a n c] w fun e w' => e = .returned (.bool true) ∧ Below w.heap.size w w' := by
  have q : (40 : Int) < n := by omega
  go_enter Try.func5, Try.ntmps5
  go_wp2_with fail
  refine (awake_any _).mono ?_
  rintro e w' ⟨rfl, hb⟩
  go_wp2_with fail
  go_ret
  exact ⟨rfl, hb⟩

set_option maxHeartbeats 400000 in
theorem sole_short (a : Option Addr) (n c : Nat) (k : List UInt8) (w : World) (hn : n ≤ 40) (hr : Rd w (fun j => j < w.heap.size) a n (Bs k)) :
    Calls Try.prog 5 #[.slice a n c] w fun e w' => e = .returned (.bool true) ∧ Below w.heap.size w w' := by
  have q : ¬ (40 : Int) < n := by omega
  have HR := Lib.hid hr
  have HK := Lib.hid hr.len
  clear hr
  go_enter Try.func5, Try.ntmps5
  go_wp2_with fail
  refine (new_any a n c k _ _ HR.out (by omega)).mono ?_
  rintro e w1 ⟨g, A, cr, rfl, hrr, hg, hb1⟩
  have HRR := Lib.hid hrr
  clear hrr
  go_wp2_with fail
  refine (rnumber_ok g A cr _ k 0 18446744073709551615 _ HRR.out).mono ?_
  rintro e w2 ⟨rfl, hto⟩
  have ho2 : Below w.heap.size w w2 := hb1.trans (hto.only.below hb1.size fun j h => by omega)
  generalize hx : rnum k 0 18446744073709551615 = x at *
  obtain ⟨m, p, d⟩ := x
  have HX := Lib.hid hx
  have HTO := Lib.hid hto
  clear hx hto
  by_cases hd : d = 0
  · subst hd
    by_cases hp : p = k.length
    · subst hp
      have hq := rnum_all HX.out
      have he : k = enc m := by
        have h := hq.2.2.2
        simp at h
        exact h
      have hm := hq.1
      have HE := Lib.hid he
      clear he hq
      go_wp2_with fail
      refine (end_ok g A cr _ k _ HTO.out.rr).mono ?_
      rintro e w3 ⟨rfl, q3, rfl⟩
      go_wp2_with fail
      refine (number_any _ (.slice none 0 0) [] m _ (Wr.new _) hm (by simp)).mono ?_
      rintro e w4 ⟨rfl, v4, hw4⟩
      have HW4 := Lib.hid hw4
      clear hw4
      go_wp2_with fail
      refine (out_any _ v4 ([] ++ enc m) _ HW4.out.wr (by have := enc_length_le hm; simp; omega)).mono ?_
      rintro e w5 ⟨v5, rfl, hown, hb5⟩
      obtain ⟨A5, c5, rfl⟩ := own_slice hown
      have HO := Lib.hid hown
      have ho4 : Below w.heap.size w w4 := ((below_drewN ho2 q3).alloc ho2.size _).trans (HW4.out.only.below (by simp; have := ho2.size; omega) fun j h => by
        rcases h with h | h
        · simp at h; have := ho2.size; omega
        · simp [Value.ownBlock] at h)
      have ho5 : Below w.heap.size w w5 := ho4.trans (hb5.mono ho4.size)
      clear hown
      go_wp2_with fail
      refine (bytes_any A5 a _ n c5 c ([] ++ enc m) k _ _ _ (by have := enc_length_le hm; unfold maxLen; simp; omega) (Rd.of_own HO.out) (HR.out.below ho5 fun _ _ h => h)).mono ?_
      rintro e w6 ⟨rfl, q6, rfl⟩
      have hdec : decide (([] : List UInt8) ++ enc m = k) = true := by rw [List.nil_append, ← HE.out]; simp
      rw [hdec]
      go_wp2_with fail
      refine (awake_any _).mono ?_
      rintro e w' ⟨rfl, hb⟩
      go_wp2_with fail
      go_ret
      exact ⟨rfl, (below_drewN ho5 q6).trans (hb.mono ho5.size)⟩
    · have hlt : p < k.length := by
        have h1 : p ≤ k.length := HTO.out.rr.le
        omega
      go_wp2_with fail
      refine (end_left g A cr _ k p _ HTO.out.rr hlt).mono ?_
      rintro e w3 ⟨v, rfl, ⟨b, rfl, hbk⟩, hb3⟩
      go_wp2_with fail
      refine (awake_any _).mono ?_
      rintro e w' ⟨rfl, hb⟩
      go_wp2_with fail
      go_ret
      have h3 := ho2.trans (hb3.mono ho2.size)
      exact ⟨rfl, h3.trans (hb.mono h3.size)⟩
  · go_wp2_with fail
    refine (end_broken g A cr _ k p d _ HTO.out.rr hd).mono ?_
    rintro e w3 ⟨v, rfl, ⟨b, rfl, hbk⟩, hb3⟩
    go_wp2_with fail
    refine (awake_any _).mono ?_
    rintro e w' ⟨rfl, hb⟩
    go_wp2_with fail
    go_ret
    have h3 := ho2.trans (hb3.mono ho2.size)
    exact ⟨rfl, h3.trans (hb.mono h3.size)⟩

end Go.Proofs.Ytaekepejeokciaa
