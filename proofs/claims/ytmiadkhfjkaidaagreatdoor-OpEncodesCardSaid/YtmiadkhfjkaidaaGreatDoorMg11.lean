/- What a reader's methods for bytes, raw bytes, texts and signed numbers come to, whatever its bytes are. A path's bytes read again: Count, Word, Number of what fits; a step; the path; for any right path's bytes. -/
import Derived.Test.YtmiadkhfjkaidaaGreatDoorMg10
import Derived.Test.YtmiadkhfjkaidaaGreatDoorMg9
namespace Go.Proofs.YtmiadkhfjkaidaaGreatDoor
section
set_option maxRecDepth 100000
open Go.RowKit

/-- What a reader's call for bytes leaves: they lie in a row of their own; the reader stands where r says. -/
def DidRead (w : World) (g : Nat) (A : Option Addr) (c : Nat) (F : Nat → Prop) (k : List UInt8) (r : List UInt8 × Nat × Int) (e : Ending) (w' : World) : Prop :=
  ∃ A1 c1, e = .returned (.slice A1 r.1.length c1) ∧ w'.ownsRow w.heap.size 5 1 (.slice A1 r.1.length c1) r.1.length (Bs r.1) ∧ Readto w w' g A c F k r.2.1 r.2.2

section
variable {w w1 w' : World} {g : Nat} {A : Option Addr} {c : Nat} {F : Nat → Prop} {k x : List UInt8} {p : Nat} {d : Int} {e : Ending}
theorem Readto.after (h : Readto w1 w' g A c F k p d) (hb : Below w.heap.size w w1) : Readto w w' g A c F k p d :=
  ⟨h.rr, (Only.of_below hb _).trans h.only fun _ _ h => h⟩
theorem did_took {r : List UInt8 × Nat × Int} (h : Took w1 g A c F k x p e w') (hb : Below w.heap.size w w1) (hr : r = (x, p, 0)) : DidRead w g A c F k r e w' := by
  obtain ⟨A1, c1, rfl, ho, hto⟩ := h
  subst hr
  exact ⟨A1, c1, rfl, own_base ho hb.size, hto.after hb⟩
theorem did_err {r : List UInt8 × Nat × Int} (h : Readto w1 w' g A c F k p d) (hb : Below w.heap.size w w1) (hr : r = ([], p, d)) : DidRead w g A c F k r (.returned (.slice none 0 0)) w' := by
  subst hr
  exact ⟨none, 0, rfl, World.ownsRow_nil _ _ _ _, h.after hb⟩
end

set_option maxHeartbeats 400000 in
theorem rbytes_any (g : Nat) (A : Option Addr) (c : Nat) (F : Nat → Prop) (k : List UInt8) (p : Nat) (most : Int) (w : World) (h : Rr w g A c F k p 0) (hm : most ≤ 9223372036854775807) :
    Calls Tryz.prog 172 #[.pointer (some ⟨g, 0, none⟩), .int .i64 most] w (DidRead w g A c F k (rbytes k p most)) := by
  have hb : Below w.heap.size w (w.alloc (.cells #[.int .i64 most] 3)) := (Below.refl _ _).alloc (Nat.le_refl _) _
  have hr1 := h.below hb
  have hq : (w.alloc (.cells #[.int .i64 most] 3)).cell? ⟨w.heap.size, 0, none⟩ = some (.int .i64 most) := by simp
  have hsm := h.small
  have hsl : k.length - p ≤ 140737488355328 := by omega
  have H1 := Lib.hid hr1
  have HQ := Lib.hid hq
  clear h hr1 hq
  cases hd : dec (k.drop p) with
  | none =>
    have he : rbytes k p most = ([], p, 2) := by unfold rbytes; rw [hd]
    have HE := Lib.hid he
    have HD := Lib.hid hd
    clear he hd
    go_enter Tryz.func172, Tryz.ntmps172
    go_wp2_with fail
    refine (fS_err g A c F k p _ 2 _ H1.out rfl fun X C i hl => bytes1_none X _ C _ F _ _ hl hsl HD.out).mono ?_
    rintro e w' ⟨rfl, hto⟩
    have HT := Lib.hid hto
    clear hto
    go_wp2_with fail
    go_ret
    exact did_err HT.out hb HE.out
  | some r =>
    obtain ⟨m, s⟩ := r
    have hdl := (enc_dec hd).2.1
    have hkl : (k.drop p).length = k.length - p := List.length_drop
    by_cases hmm : (max most 0).toNat < m
    · have he : rbytes k p most = ([], p, 3) := by unfold rbytes; rw [hd]; simp only [if_pos hmm]
      have HE := Lib.hid he
      have HD := Lib.hid hd
      clear he hd
      go_enter Tryz.func172, Tryz.ntmps172
      go_wp2_with fail
      refine (fS_err g A c F k p _ 3 _ H1.out rfl fun X C i hl => bytes1_over X _ C _ F _ most m s _ hl hsl HQ.out hm HD.out hmm).mono ?_
      rintro e w' ⟨rfl, hto⟩
      have HT := Lib.hid hto
      clear hto
      go_wp2_with fail
      go_ret
      exact did_err HT.out hb HE.out
    · by_cases hll : (k.drop p).length - s < m
      · have he : rbytes k p most = ([], p, 2) := by unfold rbytes; rw [hd]; simp only [if_neg hmm, if_pos hll]
        have HE := Lib.hid he
        have HD := Lib.hid hd
        clear he hd
        go_enter Tryz.func172, Tryz.ntmps172
        go_wp2_with fail
        refine (fS_err g A c F k p _ 2 _ H1.out rfl fun X C i hl => bytes1_short X _ C _ F _ most m s _ hl hsl HQ.out hm HD.out hmm hll).mono ?_
        rintro e w' ⟨rfl, hto⟩
        have HT := Lib.hid hto
        clear hto
        go_wp2_with fail
        go_ret
        exact did_err HT.out hb HE.out
      · have he : rbytes k p most = (((k.drop p).drop s).take m, p + (s + m), 0) := by unfold rbytes; rw [hd]; simp only [if_neg hmm, if_neg hll]
        have hple := H1.out.le
        have HE := Lib.hid he
        have HD := Lib.hid hd
        clear he hd
        go_enter Tryz.func172, Tryz.ntmps172
        go_wp2_with fail
        refine (fS_ok g A c F k p _ (((k.drop p).drop s).take m) (s + m) _ H1.out (by omega) fun X C hl h1 h2 => bytes1_ok X _ C _ F _ most m s _ hl hsl h1 h2 HQ.out hm HD.out hmm hll).mono ?_
        rintro e w' ⟨A1, c1, rfl, ho, hto⟩
        have HT := Lib.hid hto
        have HO := Lib.hid ho
        clear hto ho
        generalize hx : ((k.drop p).drop s).take m = x at *
        have HX := Lib.hid hx
        clear hx
        go_wp2_with fail
        go_ret
        exact did_took ⟨A1, c1, rfl, HO.out, HT.out⟩ hb HE.out

set_option maxHeartbeats 400000 in
theorem fbytes_broken (g : Nat) (A : Option Addr) (c : Nat) (F : Nat → Prop) (k : List UInt8) (p : Nat) (code : Int) (f : Value) (w : World) (h : Rr w g A c F k p code) (hc : code ≠ 0) :
    Calls Tryz.prog 186 #[.pointer (some ⟨g, 0, none⟩), f] w fun e w' => e = .returned (.slice none 0 0) ∧ w = w' := by
  have h2 := h.c2
  have q2 : (code != 0) = true := by rw [bne_iff_ne]; exact hc
  clear h hc
  go_enter Tryz.func186, Tryz.ntmps186
  go_wp2_with fail
  go_ret
  exact ⟨rfl, rfl⟩

set_option maxHeartbeats 400000 in
theorem rbytes_broken (g : Nat) (A : Option Addr) (c : Nat) (F : Nat → Prop) (k : List UInt8) (p : Nat) (code : Int) (n : Int) (w : World) (h : Rr w g A c F k p code) (hc : code ≠ 0) :
    Calls Tryz.prog 172 #[.pointer (some ⟨g, 0, none⟩), .int .i64 n] w fun e w' => e = .returned (.slice none 0 0) ∧ Below w.heap.size w w' := by
  have hr1 := h.below ((Below.refl w.heap.size w).alloc (Nat.le_refl _) (.cells #[.int .i64 n] 3))
  have H1 := Lib.hid hr1
  clear h hr1
  go_enter Tryz.func172, Tryz.ntmps172
  go_wp2_with fail
  refine (fbytes_broken g A c F k p code _ _ H1.out hc).mono ?_
  rintro e w' ⟨rfl, rfl⟩
  go_wp2_with fail
  go_ret
  exact ⟨rfl, (Below.refl _ _).alloc (Nat.le_refl _) _⟩

set_option maxHeartbeats 400000 in
theorem rtext_any (g : Nat) (A : Option Addr) (c : Nat) (F : Nat → Prop) (k : List UInt8) (p : Nat) (most : Int) (w : World) (h : Rr w g A c F k p 0) (hm : most ≤ 9223372036854775807) :
    Calls Tryz.prog 138 #[.pointer (some ⟨g, 0, none⟩), .int .i64 most] w fun e w' => e = .returned (.string ⟨(rbytes k p most).1.toArray⟩) ∧ Readto w w' g A c F k (rbytes k p most).2.1 (rbytes k p most).2.2 := by
  have H := Lib.hid h
  clear h
  go_enter Tryz.func138, Tryz.ntmps138
  go_wp2_with fail
  refine (rbytes_any g A c F k p most _ H.out hm).mono ?_
  rintro e w' ⟨A1, c1, rfl, ho, hto⟩
  have HT := Lib.hid hto
  have HO := Lib.hid ho
  clear hto ho
  generalize hx : rbytes k p most = x at *
  have HX := Lib.hid hx
  clear hx
  have hconv := to_text A1 x.1.length c1 x.1 _ w' (Rd.of_own HO.out)
  go_wp2_with fail
  go_ret
  rw [HX.out]
  exact ⟨rfl, HT.out⟩

set_option maxHeartbeats 400000 in
theorem rtext_broken (g : Nat) (A : Option Addr) (c : Nat) (F : Nat → Prop) (k : List UInt8) (p : Nat) (code : Int) (most : Int) (w : World) (h : Rr w g A c F k p code) (hc : code ≠ 0) :
    Calls Tryz.prog 138 #[.pointer (some ⟨g, 0, none⟩), .int .i64 most] w fun e w' => e = .returned (.string ⟨#[]⟩) ∧ Below w.heap.size w w' := by
  have H := Lib.hid h
  clear h
  go_enter Tryz.func138, Tryz.ntmps138
  go_wp2_with fail
  refine (rbytes_broken g A c F k p code most _ H.out hc).mono ?_
  rintro e w' ⟨rfl, hb⟩
  have hconv := to_text none 0 0 [] (fun _ => True) w' (Rd.nil _ _ _)
  go_wp2_with fail
  go_ret
  exact ⟨rfl, hb⟩

/-- The signed number for which one stands. -/
def unzig (n : Nat) : Int := if n % 2 = 1 then -((n / 2 : Nat) : Int) - 1 else ((n / 2 : Nat) : Int)
theorem unzig_zig (n : Int) : unzig (zig n) = n := by unfold unzig zig; split <;> split <;> omega

theorem and_one64 {n : Nat} (h : n < 18446744073709551616) : bits .and .u64 (n : Int) 1 = ((n % 2 : Nat) : Int) := by
  have h1 := u64_and_nat n 1 h (by omega)
  rw [nat_mask1] at h1
  exact h1
theorem unfold_odd {n : Nat} (h : n < 18446744073709551616) (h2 : n % 2 = 1) : wrap64 (bits .xor .u64 IntKind.u64.max ((n : Int) / 2)) = unzig n := by
  rw [show ((n : Int) / 2) = ((n / 2 : Nat) : Int) from by omega, not64 (by omega)]
  unfold unzig wrap64
  rw [if_pos h2]
  omega

set_option maxHeartbeats 400000 in
theorem unfold_any (n : Nat) (w : World) (h : n < 18446744073709551616) :
    Calls Tryz.prog 171 #[.int .u64 n] w fun e w' => e = .returned (.int .i64 (unzig n)) ∧ w = w' := by
  by_cases h2 : n % 2 = 1
  · have q : (bits .and .u64 (n : Int) 1 == 1) = true := by rw [and_one64 h, h2]; rfl
    have HU := Lib.hid (unfold_odd h h2)
    go_enter Tryz.func171, Tryz.ntmps171
    go_wp2_with fail
    go_ret
    exact ⟨by rw [← HU.out]; rfl, rfl⟩
  · have q : (bits .and .u64 (n : Int) 1 == 1) = false := by rw [and_one64 h]; exact beq_eq_false_iff_ne.2 (by omega)
    have hu : ((n : Int) / 2) = unzig n := by unfold unzig; rw [if_neg h2]; omega
    have HU := Lib.hid hu
    clear hu
    go_enter Tryz.func171, Tryz.ntmps171
    go_wp2_with fail
    go_ret
    exact ⟨by rw [← HU.out]; rfl, rfl⟩

/-- What reading a signed number comes to. -/
def rint (k : List UInt8) (p : Nat) : Int × Nat × Int := (unzig (rnum k p 18446744073709551615).1, (rnum k p 18446744073709551615).2)

theorem rnum_lt (k : List UInt8) (p most : Nat) : (rnum k p most).1 < 18446744073709551616 := by
  unfold rnum
  cases hd : dec (k.drop p) with
  | none => show 0 < _; omega
  | some r =>
    obtain ⟨m, s⟩ := r
    have := (enc_dec hd).1
    simp only []
    split
    · show 0 < _; omega
    · exact this

set_option maxHeartbeats 400000 in
theorem rint_any (g : Nat) (A : Option Addr) (c : Nat) (F : Nat → Prop) (k : List UInt8) (p : Nat) (w : World) (h : Rr w g A c F k p 0) :
    Calls Tryz.prog 137 #[.pointer (some ⟨g, 0, none⟩)] w fun e w' => e = .returned (.int .i64 (rint k p).1) ∧ Readto w w' g A c F k (rint k p).2.1 (rint k p).2.2 := by
  have H := Lib.hid h
  clear h
  have hlt := rnum_lt k p 18446744073709551615
  have hre : rint k p = (unzig (rnum k p 18446744073709551615).1, (rnum k p 18446744073709551615).2) := rfl
  have HRE := Lib.hid hre
  clear hre
  go_enter Tryz.func137, Tryz.ntmps137
  go_wp2_with fail
  refine (rnumber_ok g A c F k p 18446744073709551615 _ H.out).mono ?_
  rintro e w' ⟨rfl, hto⟩
  have HT := Lib.hid hto
  clear hto
  go_wp2_with fail
  refine (unfold_any _ _ hlt).mono ?_
  rintro e w'' ⟨rfl, rfl⟩
  go_wp2_with fail
  go_ret
  rw [HRE.out]
  exact ⟨rfl, HT.out⟩

set_option maxHeartbeats 400000 in
theorem rint_broken (g : Nat) (A : Option Addr) (c : Nat) (F : Nat → Prop) (k : List UInt8) (p : Nat) (code : Int) (w : World) (h : Rr w g A c F k p code) (hc : code ≠ 0) :
    Calls Tryz.prog 137 #[.pointer (some ⟨g, 0, none⟩)] w fun e w' => e = .returned (.int .i64 0) ∧ Below w.heap.size w w' := by
  have H := Lib.hid h
  clear h
  go_enter Tryz.func137, Tryz.ntmps137
  go_wp2_with fail
  refine (rnumber_broken g A c F k p code _ _ H.out hc).mono ?_
  rintro e w' ⟨rfl, hb⟩
  go_wp2_with fail
  refine (unfold_any 0 _ (by omega)).mono ?_
  rintro e w'' ⟨rfl, rfl⟩
  go_wp2_with fail
  go_ret
  exact ⟨rfl, hb⟩
end

section
set_option maxRecDepth 100000
set_option linter.unusedSimpArgs false
set_option linter.unusedVariables false
open Go.RowKit

theorem rnum_at {k R : List UInt8} {p n most : Nat} (h : k.drop p = enc n ++ R) (hn : n < 18446744073709551616) (hm : n ≤ most) : rnum k p most = (n, p + (enc n).length, 0) := by
  unfold rnum
  rw [h, dec_enc hn]
  simp only
  rw [if_neg (by omega)]
theorem rbytes_at {k b R : List UInt8} {p : Nat} {most : Int} (h : k.drop p = enc b.length ++ (b ++ R)) (hm : (b.length : Int) ≤ most) (hb : b.length < 18446744073709551616) : rbytes k p most = (b, p + ((enc b.length).length + b.length), 0) := by
  unfold rbytes
  rw [h, dec_enc hb]
  simp only
  rw [if_neg (by omega), if_neg (by simp only [List.length_append]; omega), List.drop_left, List.take_left]
theorem bytes_text (s : ByteArray) : (⟨s.data.toList.toArray⟩ : ByteArray) = s := by
  obtain ⟨d⟩ := s
  simp
theorem drop_more {k b R : List UInt8} {p : Nat} (h : k.drop p = b ++ R) : k.drop (p + b.length) = R := by
  rw [← List.drop_drop, h, List.drop_left]

theorem wordc_any (s : ByteArray) (hs : s.size ≤ maxLen) (hg : s.size = 0 ∨ nameB s = true) (w : World) :
    Calls Tryz.prog 131 #[.string s] w fun e w' => e = .returned (.bool true) ∧ w' = w := by
  by_cases h0 : s.size = 0
  · obtain rfl := empty_of h0
    clear hg h0 hs
    go_enter Tryz.func131, Tryz.ntmps131
    go_wp2_with fail
    go_ret
    exact ⟨rfl, rfl⟩
  · have hnm := vname_any s hs
    rw [hg.resolve_left h0] at hnm
    have HN := Lib.hid hnm
    have hne := toList_ne h0
    have hne2 := isEmpty_ne h0
    have hne3 : (s.toList == []) = false := beq_eq_false_iff_ne.2 hne
    clear hg h0 hs hnm
    go_enter Tryz.func131, Tryz.ntmps131
    go_wp2_with fail
    refine (HN.out _).mono ?_
    rintro e W1 ⟨rfl, rfl⟩
    go_wp2_with fail
    go_ret
    exact ⟨rfl, rfl⟩
theorem numc_any (i : Int) (hi : i ≠ 0) (w : World) :
    Calls Tryz.prog 132 #[.int .u64 i] w fun e w' => e = .returned (.bool true) ∧ w' = w := by
  have h2 : (i != 0) = true := bne_iff_ne.2 hi
  go_enter Tryz.func132, Tryz.ntmps132
  go_wp2_with fail
  go_ret
  exact ⟨by first | rfl | (rw [h2]; rfl), rfl⟩
section
variable (g : Nat) (A : Option Addr) (c : Nat) (F : Nat → Prop) (k : List UInt8) (p : Nat)
theorem count_any (n : Nat) (R : List UInt8) (w : World) (h : Rr w g A c F k p 0) (hk : k.drop p = enc n ++ R) (hn : n ≤ 8) :
    Calls Tryz.prog 94 #[.pointer (some ⟨g, 0, none⟩), .int .i64 8] w fun e w' => e = .returned (.int .i64 n) ∧ Readto w w' g A c F k (p + (enc n).length) 0 := by
  have hr := rnumber_ok g A c F k p 18446744073709551615 w h
  rw [rnum_at hk (by omega) (by omega)] at hr
  have HR := Lib.hid hr
  have hn8 : (n : Int) ≤ 8 := by omega
  clear h hk hr
  go_enter Tryz.func94, Tryz.ntmps94
  go_wp2_with fail
  refine HR.out.mono ?_
  rintro e W1 ⟨rfl, hto⟩
  have HT := Lib.hid hto
  clear hto
  go_wp2_with fail
  go_ret
  exact ⟨by first | rfl | (simp), HT.out⟩
theorem sread_any (s : ByteArray) (R : List UInt8) (w : World) (h : Rr w g A c F k p 0) (hk : k.drop p = enc s.size ++ (s.data.toList ++ R)) (hs : s.size ≤ 64) :
    Calls Tryz.prog 168 #[.pointer (some ⟨g, 0, none⟩)] w fun e w' => e = .returned (.string s) ∧ Readto w w' g A c F k (p + ((enc s.size).length + s.size)) 0 := by
  have hsl : s.data.toList.length = s.size := by simp
  have hr := rtext_any g A c F k p 64 w h (by omega)
  rw [rbytes_at (b := s.data.toList) (R := R) (by rw [hsl]; exact hk) (by omega) (by omega), hsl, bytes_text] at hr
  have HR := Lib.hid hr
  clear h hk hr
  go_enter Tryz.func168, Tryz.ntmps168
  go_wp2_with fail
  refine HR.out.mono ?_
  rintro e W1 ⟨rfl, hto⟩
  have HT := Lib.hid hto
  clear hto
  go_wp2_with fail
  go_ret
  exact ⟨rfl, HT.out⟩
theorem sasked_any (s : ByteArray) (R : List UInt8) (w : World) (h : Rr w g A c F k p 0) (hk : k.drop p = enc s.size ++ (s.data.toList ++ R)) (hs : s.size ≤ 64) (hg : s.size = 0 ∨ nameB s = true) :
    Calls Tryz.prog 167 #[.pointer (some ⟨g, 0, none⟩), .func (.func 168) #[] #[], .func (.func 131) #[] #[]] w fun e w' => e = .returned (.string s) ∧ Readto w w' g A c F k (p + ((enc s.size).length + s.size)) 0 := by
  have HW := Lib.hid (sread_any g A c F k p s R w h hk hs)
  have HC := Lib.hid (wordc_any s (by unfold maxLen; omega) hg)
  clear h hk
  go_enter Tryz.func167, Tryz.ntmps167
  go_wp2_with fail
  refine HW.out.mono ?_
  rintro e W1 ⟨rfl, hto⟩
  have HT := Lib.hid hto
  clear hto
  go_wp2_with fail
  refine (HC.out _).mono ?_
  rintro e W2 ⟨rfl, rfl⟩
  go_wp2_with fail
  go_ret
  exact ⟨rfl, HT.out⟩
theorem word_any (s : ByteArray) (R : List UInt8) (w : World) (h : Rr w g A c F k p 0) (hk : k.drop p = enc s.size ++ (s.data.toList ++ R)) (hs : s.size ≤ 64) (hg : s.size = 0 ∨ nameB s = true) :
    Calls Tryz.prog 130 #[.pointer (some ⟨g, 0, none⟩), .func (.func 131) #[] #[]] w fun e w' => e = .returned (.string s) ∧ Readto w w' g A c F k (p + ((enc s.size).length + s.size)) 0 := by
  have HA := Lib.hid (sasked_any g A c F k p s R w h hk hs hg)
  clear h hk
  go_enter Tryz.func130, Tryz.ntmps130
  go_wp2_with fail
  refine HA.out.mono ?_
  rintro e W1 ⟨rfl, hto⟩
  have HT := Lib.hid hto
  clear hto
  go_wp2_with fail
  go_ret
  exact ⟨rfl, HT.out⟩
theorem nread_any (n : Nat) (R : List UInt8) (w : World) (h : Rr w g A c F k p 0) (hk : k.drop p = enc n ++ R) (hn : n < 18446744073709551616) :
    Calls Tryz.prog 134 #[.pointer (some ⟨g, 0, none⟩)] w fun e w' => e = .returned (.int .u64 n) ∧ Readto w w' g A c F k (p + (enc n).length) 0 := by
  have hr := rnumber_ok g A c F k p 18446744073709551615 w h
  rw [rnum_at hk hn (by omega)] at hr
  have HR := Lib.hid hr
  clear h hk hr
  go_enter Tryz.func134, Tryz.ntmps134
  go_wp2_with fail
  refine HR.out.mono ?_
  rintro e W1 ⟨rfl, hto⟩
  have HT := Lib.hid hto
  clear hto
  go_wp2_with fail
  go_ret
  exact ⟨rfl, HT.out⟩
theorem nasked_any (n : Nat) (R : List UInt8) (w : World) (h : Rr w g A c F k p 0) (hk : k.drop p = enc n ++ R) (hn : n < 18446744073709551616) (h0 : (n : Int) ≠ 0) :
    Calls Tryz.prog 133 #[.pointer (some ⟨g, 0, none⟩), .func (.func 134) #[] #[], .func (.func 132) #[] #[]] w fun e w' => e = .returned (.int .u64 n) ∧ Readto w w' g A c F k (p + (enc n).length) 0 := by
  have HW := Lib.hid (nread_any g A c F k p n R w h hk hn)
  have HC := Lib.hid (numc_any n h0)
  clear h hk
  go_enter Tryz.func133, Tryz.ntmps133
  go_wp2_with fail
  refine HW.out.mono ?_
  rintro e W1 ⟨rfl, hto⟩
  have HT := Lib.hid hto
  clear hto
  go_wp2_with fail
  refine (HC.out _).mono ?_
  rintro e W2 ⟨rfl, rfl⟩
  go_wp2_with fail
  go_ret
  exact ⟨rfl, HT.out⟩
theorem snum_any (n : Nat) (R : List UInt8) (w : World) (h : Rr w g A c F k p 0) (hk : k.drop p = enc n ++ R) (hn : n < 18446744073709551616) (h0 : (n : Int) ≠ 0) :
    Calls Tryz.prog 96 #[.pointer (some ⟨g, 0, none⟩), .func (.func 132) #[] #[]] w fun e w' => e = .returned (.int .u64 n) ∧ Readto w w' g A c F k (p + (enc n).length) 0 := by
  have HA := Lib.hid (nasked_any g A c F k p n R w h hk hn h0)
  clear h hk
  go_enter Tryz.func96, Tryz.ntmps96
  go_wp2_with fail
  refine HA.out.mono ?_
  rintro e W1 ⟨rfl, hto⟩
  have HT := Lib.hid hto
  clear hto
  go_wp2_with fail
  go_ret
  exact ⟨rfl, HT.out⟩

theorem stp_info : (Tryz.prog.info? 67).map (·.size) = some 2 := by kernel_rfl
theorem readto_trans {g : Nat} {A : Option Addr} {c : Nat} {F : Nat → Prop} {k : List UInt8} {p q : Nat} {d d' : Int} {w w' w'' : World} (h : Readto w w' g A c F k p d) (h' : Readto w' w'' g A c F k q d') : Readto w w'' g A c F k q d' :=
  ⟨h'.rr, h.only.trans h'.only fun _ _ h => h⟩
/-- A new block of the call's own is filled: the reader stands as it did. -/
theorem only_setRow (w : World) (b : Nat) (cs : Array Value) : Only (fun j => j = b) w (w.setRow b cs) :=
  ⟨rfl, rfl, rfl, by simp [World.setRow], fun k _ hn => setRow_other w b k cs (fun e => hn e)⟩
theorem readto_set {g : Nat} {A : Option Addr} {c : Nat} {F : Nat → Prop} {k : List UInt8} {p : Nat} {d : Int} {w w' : World} {o : Obj} {cs : Array Value} (h : Readto (w.alloc o) w' g A c F k p d) (hg : g < w.heap.size) (hF : ∀ j, F j → j < g) : Readto w (w'.setRow w.heap.size cs) g A c F k p d := by
  refine ⟨h.rr.only (only_setRow w' _ cs) (by omega) (fun j hj e => by have h1 := hF j hj; have h2 : j = w.heap.size := e; omega), ?_⟩
  have h1 : Only (fun j => j = g) w w' := (Only.of_below (below_new w o) _).trans h.only fun _ _ h => h
  exact h1.trans (only_setRow w' _ cs) fun j hj e => by have h2 : j = w.heap.size := e; omega
theorem st_one (s : ByteArray) (i : Int) : (#[Value.string s, Value.int .u64 i].all fun x => x.oneCell') = true := by simp [Value.oneCell']
theorem stB_cases {x : Stp} (h : stB x = true) : (x.s.size ≠ 0 ∧ nameB x.s = true ∧ x.id = 0) ∨ (x.s = ByteArray.empty ∧ x.id ≠ 0) := by
  unfold stB at h
  rw [Bool.or_eq_true, Bool.and_eq_true, Bool.and_eq_true] at h
  rcases h with ⟨h1, h2⟩ | ⟨h1, h2⟩
  · exact .inl ⟨(name_size h1).1, h1, eq_of_beq h2⟩
  · exact .inr ⟨empty_of (of_decide_eq_true h1), bne_iff_ne.1 h2⟩

set_option maxHeartbeats 800000 in
theorem rstep_any (x : Stp) (R : List UInt8) (w : World) (h : Rr w g A c F k p 0) (hk : k.drop p = stBytes x ++ R) (hx : stB x = true) (hok : StOk x) (hF : ∀ j, F j → j < g) :
    Calls Tryz.prog 95 #[.pointer (some ⟨g, 0, none⟩)] w fun e w' => e = .returned (.agg #[.string x.s, .int .u64 x.id]) ∧ Readto w w' g A c F k (p + (stBytes x).length) 0 := by
  have hgl := h.lt
  have h1 := h.below (below_new w (.cells #[.string ByteArray.empty, .int .u64 0] 67))
  have hlen := stBytes_len (stB_size hx) hok.hi
  rcases stB_cases hx with ⟨hs0, hnm, hid⟩ | ⟨hs0, hid⟩
  · obtain ⟨s, i⟩ := x
    obtain rfl : i = 0 := hid
    have hs0 : s.size ≠ 0 := hs0
    have hnm : nameB s = true := hnm
    have h12 := (name_size hnm).2
    rw [stBytes_named hs0] at hk ⊢
    have hk' : k.drop p = enc s.size ++ (s.data.toList ++ R) := by rw [hk]; simp
    have HW := Lib.hid (word_any g A c F k p s R _ h1 hk' (by omega) (.inr hnm))
    have hne := toList_ne hs0
    have hne2 := isEmpty_ne hs0
    have hne3 : (s.toList == []) = false := beq_eq_false_iff_ne.2 hne
    have hne4 : (s.toList != []) = true := bne_iff_ne.2 hne
    have hsl : (enc s.size ++ s.data.toList).length = (enc s.size).length + s.size := by simp
    have HSL := Lib.hid hsl
    clear h h1 hk hk' hx hok hnm hsl hlen
    go_enter Tryz.func95, Tryz.ntmps95
    go_wp2_with fail
    refine HW.out.mono ?_
    rintro e W1 ⟨rfl, hto⟩
    have hrow : Row W1 w.heap.size 67 [.string ByteArray.empty, .int .u64 0] := (Row.new w _ _).only hto.only (by omega)
    have HT := Lib.hid hto
    have HROW := Lib.hid hrow
    clear hto hrow
    go_wp2_with (refine wpList_store_row rfl 67 (.tmp 2) (.tmp 9) rfl w.heap.size #[.string s, .int .u64 0] rfl rfl 67 _ HROW.out stp_info rfl (st_one _ _) ?_)
    have hgot : (W1.setRow w.heap.size #[.string s, .int .u64 0]).heap[w.heap.size]? = some (.cells #[.string s, .int .u64 0] 67 (0, 0)) := setRow_heap W1 w.heap.size _ _ _ _ HROW.out
    have hne5 : w.heap.size ≠ g := by omega
    (try simp only [Exit.inBlock, Exit.then])
    refine bodyPost_ret (results_cell_row (by rfl) _ _ w.heap.size _ _ _ _ (by rfl) hgot Tryz.underlying67 rfl stp_info) rfl ?_
    refine ⟨rfl, ?_⟩
    rw [HSL.out]
    exact readto_set HT.out hgl hF
  · obtain ⟨s, i⟩ := x
    obtain rfl : s = ByteArray.empty := hs0
    have hid : i ≠ 0 := hid
    have hi0 : 0 ≤ i := hok.lo
    have hi1 : i < 18446744073709551616 := hok.hi
    obtain ⟨m, rfl⟩ := Int.eq_ofNat_of_zero_le hi0
    rw [stBytes_numbered, show ((m : Int)).toNat = m from by omega] at hk ⊢
    have hk' : k.drop p = enc ByteArray.empty.size ++ (ByteArray.empty.data.toList ++ (enc m ++ R)) := by rw [← List.append_assoc, enc_empty, hk]; simp
    have hw := word_any g A c F k p ByteArray.empty (enc m ++ R) _ h1 hk' (by decide) (.inl rfl)
    rw [show (enc ByteArray.empty.size).length + ByteArray.empty.size = 1 from by rw [show ByteArray.empty.size = 0 from rfl, enc_small (by omega)]; rfl] at hw
    have hk2 : k.drop (p + 1) = enc m ++ R := by
      have := drop_more (b := [0]) (R := enc m ++ R) (k := k) (p := p) (by rw [hk]; simp)
      exact this
    have HW := Lib.hid hw
    have HSL := Lib.hid (show ([0] ++ enc m).length = 1 + (enc m).length by simp; omega)
    have HK2 := Lib.hid hk2
    have hm : m < 18446744073709551616 := by omega
    clear h h1 hk hk' hk2 hx hok hlen hw
    go_enter Tryz.func95, Tryz.ntmps95
    go_wp2_with fail
    refine HW.out.mono ?_
    rintro e W1 ⟨rfl, hto⟩
    have hrow : Row W1 w.heap.size 67 [.string ByteArray.empty, .int .u64 0] := (Row.new w _ _).only hto.only (by omega)
    have HN := Lib.hid (snum_any g A c F k (p + 1) m R W1 hto.rr HK2.out hm hid)
    have HT := Lib.hid hto
    have HROW := Lib.hid hrow
    clear hto hrow
    go_wp2_with fail
    refine HN.out.mono ?_
    rintro e W2 ⟨rfl, hto⟩
    have hrow2 : Row W2 w.heap.size 67 [.string ByteArray.empty, .int .u64 0] := HROW.out.only hto.only (by omega)
    have HT2 := Lib.hid (readto_trans HT.out hto)
    have HROW2 := Lib.hid hrow2
    clear hto hrow2
    go_wp2_with (refine wpList_store_row rfl 67 (.tmp 2) (.tmp 12) rfl w.heap.size #[.string ByteArray.empty, .int .u64 (m : Int)] rfl rfl 67 _ HROW2.out stp_info rfl (st_one _ _) ?_)
    have hgot : (W2.setRow w.heap.size #[.string ByteArray.empty, .int .u64 (m : Int)]).heap[w.heap.size]? = some (.cells #[.string ByteArray.empty, .int .u64 (m : Int)] 67 (0, 0)) := setRow_heap W2 w.heap.size _ _ _ _ HROW2.out
    (try simp only [Exit.inBlock, Exit.then])
    refine bodyPost_ret (results_cell_row (by rfl) _ _ w.heap.size _ _ _ _ (by rfl) hgot Tryz.underlying67 rfl stp_info) rfl ?_
    refine ⟨rfl, ?_⟩
    rw [show p + ((enc m).length + 1) = p + 1 + (enc m).length by omega]
    exact readto_set HT2.out hgl hF
end

def stc (l : List Stp) : List Value := l.flatMap fun x => [.string x.s, .int .u64 x.id]
theorem stc_more {l : List Stp} {j : Nat} (hj : j < l.length) : stc (l.take (j + 1)) = stc (l.take j) ++ [.string (stp l j).s, .int .u64 (stp l j).id] := by
  unfold stc
  rw [List.take_add_one, stp_get hj, List.flatMap_append]
  simp
theorem stc_get : ∀ (l : List Stp) (i : Nat) (x : Stp), l[i]? = some x → (stc l)[i * 2]? = some (.string x.s) ∧ (stc l)[i * 2 + 1]? = some (.int .u64 x.id)
  | [], i, x, h => by simp at h
  | y :: l, 0, x, h => by
    simp at h
    subst h
    exact ⟨rfl, rfl⟩
  | y :: l, i + 1, x, h => by
    have ih := stc_get l i x (by simpa using h)
    have e1 : (i + 1) * 2 = i * 2 + 2 := by omega
    rw [e1]
    exact ih
theorem stc_length (l : List Stp) : (stc l).length = l.length * 2 := by
  induction l with
  | nil => rfl
  | cons x l ih => show (stc l).length + 2 = _; rw [ih, List.length_cons]; omega
theorem pB_split {l : List Stp} {j : Nat} (hj : j < l.length) : pBytes l = pB l j ++ (stBytes (stp l j) ++ (l.drop (j + 1)).flatMap stBytes) := by
  unfold pBytes pB
  rw [List.take_length, List.append_assoc]
  congr 1
  rw [← List.flatMap_cons, ← List.flatMap_append]
  congr 1
  conv => lhs; rw [← List.take_append_drop j l]
  congr 1
  rw [List.drop_eq_getElem_cons hj]
  congr 1
  unfold stp
  rw [List.getD, List.getElem?_eq_getElem hj]
  rfl
theorem sts_own {w : World} {b : Nat} {A : Option Addr} {c : Nat} {l : List Stp} (h : w.ownsRow b 67 2 (.slice A l.length c) l.length (stc l)) : Sts w A l.length l := by
  refine ⟨rfl, fun hn => ?_⟩
  rcases h.2 with ⟨hv, h0⟩ | ⟨g, cap, cur, hv, _, hg, hnc, _, hs, ht⟩
  · omega
  · injection hv with h1 h2 h3
    refine ⟨⟨g, 0, none⟩, h1, (Array.getElem?_eq_some_iff.1 hg).1, fun i x hx => ?_⟩
    obtain ⟨e0, e1⟩ := stc_get l i x hx
    have hi := (List.getElem?_eq_some_iff.1 hx).1
    have ea : ∀ j, (⟨g, 0, none⟩ : Addr).add j = ⟨g, j, none⟩ := fun j => by unfold Addr.add; split <;> simp_all
    have hc : ∀ j u, (stc l)[j]? = some u → w.cell? ⟨g, j, none⟩ = some u := fun j u hu => by
      rw [cell_of_row w g j _ _ _ hg, ← Array.getElem?_toList]
      rw [← ht, List.getElem?_take] at hu
      split at hu
      · exact hu
      · cases hu
    rw [add_add, ea, ea]
    exact ⟨hc _ _ e0, hc _ _ e1⟩
theorem only_grown {w w' : World} {row : Option Nat} (h : w.grownBy w' row) : Only (fun j => row = some j) w w' :=
  ⟨h.os, h.tape, h.output, h.size, fun k hk hn => h.block k hk (fun e => hn e.symm)⟩
theorem readto_grown {g : Nat} {A : Option Addr} {c : Nat} {F : Nat → Prop} {k : List UInt8} {p : Nat} {d : Int} {w w' w'' : World} {row : Option Nat} (h : Readto w w' g A c F k p d) (hg : g < w.heap.size) (hF : ∀ j, F j → j < g) (hw : w'.grownBy w'' row) (hr : ∀ k, row = some k → w.heap.size ≤ k) : Readto w w'' g A c F k p d := by
  refine ⟨h.rr.only (only_grown hw) (fun e => by have := hr _ e; omega) (fun j hj e => by have h1 := hF j hj; have h2 := hr _ e; omega), ?_⟩
  exact h.only.trans (only_grown hw) fun j hj e => by have h2 := hr _ e; omega
theorem readto_new {g : Nat} {A : Option Addr} {c : Nat} {F : Nat → Prop} {k : List UInt8} {p : Nat} {d : Int} {w w' : World} (h : Readto w w' g A c F k p d) (o : Obj) : Readto w (w'.alloc o) g A c F k p d :=
  ⟨h.rr.below (below_new w' o), h.only.alloc o⟩
theorem st_info3 : (Tryz.prog.info? 67).map (fun i => (i.zero, i.size, i.bytes)) = some (some (.agg #[.string ByteArray.empty, .int .u64 0]), 2, 24) := by kernel_rfl

set_option maxHeartbeats 1600000 in
theorem pread_any (g : Nat) (A : Option Addr) (c : Nat) (F : Nat → Prop) (k R : List UInt8) (p : Nat) (l : List Stp) (w : World) (h : Rr w g A c F k p 0) (hk : k.drop p = pBytes l ++ R) (hr : rightP l = true) (hok : ∀ x ∈ l, StOk x) (hF : ∀ j, F j → j < g) :
    Calls Tryz.prog 60 #[.pointer (some ⟨g, 0, none⟩)] w fun e w' => ∃ v, e = .returned v ∧ w'.ownsRow w.heap.size 67 2 v l.length (stc l) ∧ Readto w w' g A c F k (p + (pBytes l).length) 0 := by
  obtain ⟨h8, hst⟩ := right_of hr
  obtain ⟨i0, hi, hz0, hz1, hz2⟩ := info_parts st_info3
  have hgl := h.lt
  have HCT := Lib.hid (count_any g A c F k p l.length ((l.take l.length).flatMap stBytes ++ R) w h (by rw [hk]; unfold pBytes pB; rw [List.append_assoc]) h8)
  have HK := Lib.hid hk
  have HST := Lib.hid hst
  have HOK := Lib.hid hok
  have HP0 := Lib.hid (pB_zero l)
  have hn8 : (l.length : Int) ≤ 8 := by omega
  obtain ⟨n, hn⟩ : ∃ n, l.length = n := ⟨_, rfl⟩
  rw [hn] at HCT hn8 h8 HP0 ⊢
  have HN := Lib.hid hn
  clear h hk hr hst hok hn
  go_enter Tryz.func60, Tryz.ntmps60
  go_wp2_with fail
  refine HCT.out.mono ?_
  rintro e W1 ⟨rfl, hto⟩
  have HT := Lib.hid hto
  clear hto
  go_wp2_with fail
  go_loopw [3, 6] (fun v i wr => ∃ j : Nat, j ≤ n ∧ i = .int .i64 (j : Int) ∧ wr.ownsRow w.heap.size 67 2 v j (stc (l.take j)) ∧ Readto w wr g A c F k (p + (pB l j).length) 0) (fun _ i _ => n - (intOf i).toNat)
  case atStart => exact ⟨0, Nat.zero_le _, rfl, World.ownsRow_nil _ _ _ _, by rw [HP0.out]; exact HT.out⟩
  case round =>
    obtain ⟨j, hjn, rfl, hown, hto⟩ := hrel
    have bj0 : (0 : Int) ≤ (j : Int) := by omega
    by_cases hj : j < n
    · have hji : (j : Int) < (n : Int) := by omega
      have hjl : j < l.length := by rw [HN.out]; exact hj
      have hkd : k.drop (p + (pB l j).length) = stBytes (stp l j) ++ ((l.drop (j + 1)).flatMap stBytes ++ R) := by
        refine drop_more ?_
        rw [HK.out, pB_split hjl]
        simp only [List.append_assoc]
      have HS := Lib.hid (rstep_any g A c F k _ (stp l j) _ wr hto.rr hkd (HST.out j hjl) (ok_get HOK.out hjl) hF)
      have HMO := Lib.hid (pB_more hjl)
      have HSM := Lib.hid (stc_more hjl)
      have HO := Lib.hid hown
      have HTO := Lib.hid hto
      have hsz : w.heap.size ≤ wr.heap.size := hto.only.size
      clear hkd hjl hown hto
      generalize stp l j = x at *
      obtain ⟨s, i⟩ := x
      go_wp2_with fail
      refine HS.out.mono ?_
      rintro e W2 ⟨rfl, hto2⟩
      have ho2 := own_only HO.out hto2.only (fun k hk e => by have h1 := (HO.out.lt k hk).1; have h2 : k = g := e; omega)
      have HO2 := Lib.hid (ho2.alloc (.cells #[.string s, .int .u64 i] 67))
      have HT2 := Lib.hid (readto_new (readto_trans HTO.out hto2) (.cells #[.string s, .int .u64 i] 67))
      have hsz2 : w.heap.size ≤ W2.heap.size := Nat.le_trans hsz hto2.only.size
      have HRN := Lib.hid (Row.new W2 [.string s, .int .u64 i] 67)
      clear hto2 ho2
      go_wp2_with (at_builtin; refine wpList_append_own_at _ rfl (.tmp 8) (.tmp 11) 22 rfl w.heap.size 67 i0 (.agg #[.string ByteArray.empty, .int .u64 0]) 2 24 Tryz.underlying22 hi hz0 hz1 hz2 rfl (by omega) _ j (stc (l.take j)) rfl HO2.out ⟨W2.heap.size, 0, none⟩ 1 1 [.string s, .int .u64 i] rfl rfl ?cn ?co ?c1 ?c2 ?c3 ?_)
      case cn =>
        intro j u hu
        have ea : (⟨W2.heap.size, 0, none⟩ : Addr).add j = ⟨W2.heap.size, j, none⟩ := by unfold Addr.add; split <;> simp_all
        rw [ea]
        exact HRN.out.cell hu
      case co => intro u hu; simp at hu; rcases hu with rfl | rfl <;> rfl
      case c1 => unfold maxLen; omega
      case c2 => omega
      case c3 => simp; omega
      intro v3 W3 hown3 hg3 _ _
      have HT3 := Lib.hid (readto_grown HT2.out hgl hF hg3 (fun k hk => (HO2.out.lt k hk).1))
      have HO3 := Lib.hid hown3
      clear hown3 hg3
      go_wp2_with fail
      go_roundw
      case rel =>
        refine ⟨j + 1, by omega, by go_num, by rw [HSM.out]; exact HO3.out, ?_⟩
        rw [HMO.out, List.length_append, ← Nat.add_assoc]
        exact HT3.out
      case measure => simp [intOf] <;> omega
    · obtain rfl : j = n := by omega
      have HER := Lib.hid (err_none g A c F k _ wr hto.rr)
      rw [← HN.out, List.take_length] at hown
      have HO := Lib.hid hown
      have HTO := Lib.hid (show Readto w wr g A c F k (p + (pBytes l).length) 0 by unfold pBytes; rw [HN.out]; exact hto)
      clear hown hto
      go_wp2_with fail
      refine HER.out.mono ?_
      rintro e W2 ⟨rfl, rfl⟩
      go_wp2_with fail
      go_ret
      refine ⟨_, rfl, ?_, HTO.out⟩
      have := HO.out
      rw [HN.out] at this
      exact this
end

end Go.Proofs.YtmiadkhfjkaidaaGreatDoor
