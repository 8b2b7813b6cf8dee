/- What a reader's methods for bytes, raw bytes, texts and signed numbers come to, whatever its bytes are. -/
import Derived.Test.YthknfbbnnldnmaaReadT
namespace Go.Proofs.Ythknfbbnnldnmaa
set_option maxRecDepth 100000
open Go.RowKit

/-- What a reader's call for bytes leaves: they lie in a row of their own; the reader stands where r says. -/
def DidRead (w : World) (g : Nat) (A : Option Addr) (c : Nat) (F : Nat → Prop) (k : List UInt8) (r : List UInt8 × Nat × Int) (e : Ending) (w' : World) : Prop :=
  ∃ A1 c1, e = .returned (.slice A1 r.1.length c1) ∧ w'.ownsRow w.heap.size 5 1 (.slice A1 r.1.length c1) r.1.length (Bs r.1) ∧ Readto w w' g A c F k r.2.1 r.2.2

section
variable {w w1 w' : World} {g : Nat} {A : Option Addr} {c : Nat} {F : Nat → Prop} {k x : List UInt8} {p : Nat} {d : Int} {e : Ending}
theorem Readto.after (h : Readto w1 w' g A c F k p d) (hb : Below w.heap.size w w1) : Readto w w' g A c F k p d :=
  ⟨h.rr, (Only.of_below hb _).trans h.only fun _ _ h => h⟩
theorem did_took {r : List UInt8 × Nat × Int} (h : Took w1 g A c F k x p e w') (hb : Below w.heap.size w w1) (hr : r = (x, p, 0)) : DidRead w g A c F k r e w' := by
  obtain ⟨A1, c1, rfl, ho, hto⟩ := h
  subst hr
  exact ⟨A1, c1, rfl, own_base ho hb.size, hto.after hb⟩
theorem did_err {r : List UInt8 × Nat × Int} (h : Readto w1 w' g A c F k p d) (hb : Below w.heap.size w w1) (hr : r = ([], p, d)) : DidRead w g A c F k r (.returned (.slice none 0 0)) w' := by
  subst hr
  exact ⟨none, 0, rfl, World.ownsRow_nil _ _ _ _, h.after hb⟩
end

set_option maxHeartbeats 400000 in
theorem rbytes_any (g : Nat) (A : Option Addr) (c : Nat) (F : Nat → Prop) (k : List UInt8) (p : Nat) (most : Int) (w : World) (h : Rr w g A c F k p 0) (hm : most ≤ 9223372036854775807) :
    Calls Try.prog 79 #[.pointer (some ⟨g, 0, none⟩), .int .i64 most] w (DidRead w g A c F k (rbytes k p most)) := by
  have hb : Below w.heap.size w (w.alloc (.cells #[.int .i64 most] 3)) := (Below.refl _ _).alloc (Nat.le_refl _) _
  have hr1 := h.below hb
  have hq : (w.alloc (.cells #[.int .i64 most] 3)).cell? ⟨w.heap.size, 0, none⟩ = some (.int .i64 most) := by simp
  have hsm := h.small
  have hsl : k.length - p ≤ 140737488355328 := by omega
  have H1 := Lib.hid hr1
  have HQ := Lib.hid hq
  clear h hr1 hq
  cases hd : dec (k.drop p) with
  | none =>
    have he : rbytes k p most = ([], p, 2) := by unfold rbytes; rw [hd]
    have HE := Lib.hid he
    have HD := Lib.hid hd
    clear he hd
    go_enter Try.func79, Try.ntmps79
    go_wp2_with fail
    refine (fS_err g A c F k p _ 2 _ H1.out rfl fun X C i hl => bytes1_none X _ C _ F _ _ hl hsl HD.out).mono ?_
    rintro e w' ⟨rfl, hto⟩
    have HT := Lib.hid hto
    clear hto
    go_wp2_with fail
    go_ret
    exact did_err HT.out hb HE.out
  | some r =>
    obtain ⟨m, s⟩ := r
    have hdl := (enc_dec hd).2.1
    have hkl : (k.drop p).length = k.length - p := List.length_drop
    by_cases hmm : (max most 0).toNat < m
    · have he : rbytes k p most = ([], p, 3) := by unfold rbytes; rw [hd]; simp only [if_pos hmm]
      have HE := Lib.hid he
      have HD := Lib.hid hd
      clear he hd
      go_enter Try.func79, Try.ntmps79
      go_wp2_with fail
      refine (fS_err g A c F k p _ 3 _ H1.out rfl fun X C i hl => bytes1_over X _ C _ F _ most m s _ hl hsl HQ.out hm HD.out hmm).mono ?_
      rintro e w' ⟨rfl, hto⟩
      have HT := Lib.hid hto
      clear hto
      go_wp2_with fail
      go_ret
      exact did_err HT.out hb HE.out
    · by_cases hll : (k.drop p).length - s < m
      · have he : rbytes k p most = ([], p, 2) := by unfold rbytes; rw [hd]; simp only [if_neg hmm, if_pos hll]
        have HE := Lib.hid he
        have HD := Lib.hid hd
        clear he hd
        go_enter Try.func79, Try.ntmps79
        go_wp2_with fail
        refine (fS_err g A c F k p _ 2 _ H1.out rfl fun X C i hl => bytes1_short X _ C _ F _ most m s _ hl hsl HQ.out hm HD.out hmm hll).mono ?_
        rintro e w' ⟨rfl, hto⟩
        have HT := Lib.hid hto
        clear hto
        go_wp2_with fail
        go_ret
        exact did_err HT.out hb HE.out
      · have he : rbytes k p most = (((k.drop p).drop s).take m, p + (s + m), 0) := by unfold rbytes; rw [hd]; simp only [if_neg hmm, if_neg hll]
        have hple := H1.out.le
        have HE := Lib.hid he
        have HD := Lib.hid hd
        clear he hd
        go_enter Try.func79, Try.ntmps79
        go_wp2_with fail
        refine (fS_ok g A c F k p _ (((k.drop p).drop s).take m) (s + m) _ H1.out (by omega) fun X C hl h1 h2 => bytes1_ok X _ C _ F _ most m s _ hl hsl h1 h2 HQ.out hm HD.out hmm hll).mono ?_
        rintro e w' ⟨A1, c1, rfl, ho, hto⟩
        have HT := Lib.hid hto
        have HO := Lib.hid ho
        clear hto ho
        generalize hx : ((k.drop p).drop s).take m = x at *
        have HX := Lib.hid hx
        clear hx
        go_wp2_with fail
        go_ret
        exact did_took ⟨A1, c1, rfl, HO.out, HT.out⟩ hb HE.out

set_option maxHeartbeats 400000 in
theorem fbytes_broken (g : Nat) (A : Option Addr) (c : Nat) (F : Nat → Prop) (k : List UInt8) (p : Nat) (code : Int) (f : Value) (w : World) (h : Rr w g A c F k p code) (hc : code ≠ 0) :
    Calls Try.prog 88 #[.pointer (some ⟨g, 0, none⟩), f] w fun e w' => e = .returned (.slice none 0 0) ∧ w = w' := by
  have h2 := h.c2
  have q2 : (code != 0) = true := by rw [bne_iff_ne]; exact hc
  clear h hc
  go_enter Try.func88, Try.ntmps88
  go_wp2_with fail
  go_ret
  exact ⟨rfl, rfl⟩

set_option maxHeartbeats 400000 in
theorem rbytes_broken (g : Nat) (A : Option Addr) (c : Nat) (F : Nat → Prop) (k : List UInt8) (p : Nat) (code : Int) (n : Int) (w : World) (h : Rr w g A c F k p code) (hc : code ≠ 0) :
    Calls Try.prog 79 #[.pointer (some ⟨g, 0, none⟩), .int .i64 n] w fun e w' => e = .returned (.slice none 0 0) ∧ Below w.heap.size w w' := by
  have hr1 := h.below ((Below.refl w.heap.size w).alloc (Nat.le_refl _) (.cells #[.int .i64 n] 3))
  have H1 := Lib.hid hr1
  clear h hr1
  go_enter Try.func79, Try.ntmps79
  go_wp2_with fail
  refine (fbytes_broken g A c F k p code _ _ H1.out hc).mono ?_
  rintro e w' ⟨rfl, rfl⟩
  go_wp2_with fail
  go_ret
  exact ⟨rfl, (Below.refl _ _).alloc (Nat.le_refl _) _⟩

set_option maxHeartbeats 400000 in
theorem rtext_any (g : Nat) (A : Option Addr) (c : Nat) (F : Nat → Prop) (k : List UInt8) (p : Nat) (most : Int) (w : World) (h : Rr w g A c F k p 0) (hm : most ≤ 9223372036854775807) :
    Calls Try.prog 66 #[.pointer (some ⟨g, 0, none⟩), .int .i64 most] w fun e w' => e = .returned (.string ⟨(rbytes k p most).1.toArray⟩) ∧ Readto w w' g A c F k (rbytes k p most).2.1 (rbytes k p most).2.2 := by
  have H := Lib.hid h
  clear h
  go_enter Try.func66, Try.ntmps66
  go_wp2_with fail
  refine (rbytes_any g A c F k p most _ H.out hm).mono ?_
  rintro e w' ⟨A1, c1, rfl, ho, hto⟩
  have HT := Lib.hid hto
  have HO := Lib.hid ho
  clear hto ho
  generalize hx : rbytes k p most = x at *
  have HX := Lib.hid hx
  clear hx
  have hconv := to_text A1 x.1.length c1 x.1 _ w' (Rd.of_own HO.out)
  go_wp2_with fail
  go_ret
  rw [HX.out]
  exact ⟨rfl, HT.out⟩

set_option maxHeartbeats 400000 in
theorem rtext_broken (g : Nat) (A : Option Addr) (c : Nat) (F : Nat → Prop) (k : List UInt8) (p : Nat) (code : Int) (most : Int) (w : World) (h : Rr w g A c F k p code) (hc : code ≠ 0) :
    Calls Try.prog 66 #[.pointer (some ⟨g, 0, none⟩), .int .i64 most] w fun e w' => e = .returned (.string ⟨#[]⟩) ∧ Below w.heap.size w w' := by
  have H := Lib.hid h
  clear h
  go_enter Try.func66, Try.ntmps66
  go_wp2_with fail
  refine (rbytes_broken g A c F k p code most _ H.out hc).mono ?_
  rintro e w' ⟨rfl, hb⟩
  have hconv := to_text none 0 0 [] (fun _ => True) w' (Rd.nil _ _ _)
  go_wp2_with fail
  go_ret
  exact ⟨rfl, hb⟩

/-- The signed number for which one stands. -/
def unzig (n : Nat) : Int := if n % 2 = 1 then -((n / 2 : Nat) : Int) - 1 else ((n / 2 : Nat) : Int)
theorem unzig_zig (n : Int) : unzig (zig n) = n := by unfold unzig zig; split <;> split <;> omega

theorem and_one64 {n : Nat} (h : n < 18446744073709551616) : bits .and .u64 (n : Int) 1 = ((n % 2 : Nat) : Int) := by
  have h1 := u64_and_nat n 1 h (by omega)
  rw [nat_mask1] at h1
  exact h1
theorem unfold_odd {n : Nat} (h : n < 18446744073709551616) (h2 : n % 2 = 1) : wrap64 (bits .xor .u64 IntKind.u64.max ((n : Int) / 2)) = unzig n := by
  rw [show ((n : Int) / 2) = ((n / 2 : Nat) : Int) from by omega, not64 (by omega)]
  unfold unzig wrap64
  rw [if_pos h2]
  omega

/-- What reading a signed number comes to. -/
def rint (k : List UInt8) (p : Nat) : Int × Nat × Int := (unzig (rnum k p 18446744073709551615).1, (rnum k p 18446744073709551615).2)

theorem rnum_lt (k : List UInt8) (p most : Nat) : (rnum k p most).1 < 18446744073709551616 := by
  unfold rnum
  cases hd : dec (k.drop p) with
  | none => show 0 < _; omega
  | some r =>
    obtain ⟨m, s⟩ := r
    have := (enc_dec hd).1
    simp only []
    split
    · show 0 < _; omega
    · exact this

end Go.Proofs.Ythknfbbnnldnmaa
