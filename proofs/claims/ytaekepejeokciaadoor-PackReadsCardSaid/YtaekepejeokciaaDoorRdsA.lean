/- Both readers side by side: what each makes of a field, broken or whole; for any bytes up to 1000. -/
import Derived.Test.YtaekepejeokciaaDoorMrD
import Derived.Test.YtaekepejeokciaaDoorFields
namespace Go.Proofs.YtaekepejeokciaaDoor
set_option maxRecDepth 100000
open Go.RowKit

/-- Both readers over the same bytes, in the same place, broken alike. -/
structure Two (w : World) (g1 g2 B : Nat) (A1 A2 : Option Addr) (c1 c2 : Nat) (k : List UInt8) (p : Nat) (code : Int) : Prop where
  rr : Rr w g1 A1 c1 (fun j => B ≤ j ∧ j < g1) k p code
  mr : Mr w g2 A2 c2 (fun j => j < B) k p code (fz code p)
  lt : g1 < g2
  lo : B ≤ g1

section
variable {w w' : World} {g1 g2 B : Nat} {A1 A2 : Option Addr} {c1 c2 : Nat} {k : List UInt8} {p p' : Nat} {code code' : Int}
theorem Two.below (h : Two w g1 g2 B A1 A2 c1 c2 k p code) (hb : Below w.heap.size w w') : Two w' g1 g2 B A1 A2 c1 c2 k p code := ⟨h.rr.below hb, h.mr.below hb, h.lt, h.lo⟩
theorem Two.drewN (h : Two w g1 g2 B A1 A2 c1 c2 k p code) (q : Nat) : Two (w.drewN q) g1 g2 B A1 A2 c1 c2 k p code := ⟨h.rr.drewN q, h.mr.drewN q, h.lt, h.lo⟩

/-- The one reader has gone on, the other one not yet. -/
structure Half (w : World) (g1 g2 B : Nat) (A1 A2 : Option Addr) (c1 c2 : Nat) (k : List UInt8) (p p' : Nat) (code code' : Int) : Prop where
  rr : Rr w g1 A1 c1 (fun j => B ≤ j ∧ j < g1) k p' code'
  mr : Mr w g2 A2 c2 (fun j => j < B) k p code (fz code p)
  lt : g1 < g2
  lo : B ≤ g1
theorem Two.half (h : Two w g1 g2 B A1 A2 c1 c2 k p code) (hr : Readto w w' g1 A1 c1 (fun j => B ≤ j ∧ j < g1) k p' code') : Half w' g1 g2 B A1 A2 c1 c2 k p p' code code' :=
  ⟨hr.rr, h.mr.only hr.only (by have := h.lt; show ¬ g2 = g1; omega) (fun j hj => by have := h.lo; show ¬ j = g1; omega), h.lt, h.lo⟩
theorem Half.two (h : Half w g1 g2 B A1 A2 c1 c2 k p p' code code') (hm : Mto w w' g2 A2 c2 (fun j => j < B) k p' code' (fz code' p')) : Two w' g1 g2 B A1 A2 c1 c2 k p' code' :=
  ⟨h.rr.only hm.only (by have := h.lt; show ¬ g1 = g2; omega) (fun j hj => by have := h.lt; show ¬ j = g2; omega), hm.mr, h.lt, h.lo⟩
theorem Half.drewN (h : Half w g1 g2 B A1 A2 c1 c2 k p p' code code') (q : Nat) : Half (w.drewN q) g1 g2 B A1 A2 c1 c2 k p p' code code' := ⟨h.rr.drewN q, h.mr.drewN q, h.lt, h.lo⟩
end

/-- What a field comes to, for a reader that may be broken. -/
def nbyte (k : List UInt8) (p : Nat) (code : Int) : UInt8 × Nat × Int := if code = 0 then rbyte k p else (0, p, code)
def nnum (k : List UInt8) (p : Nat) (code : Int) (most : Nat) : Nat × Nat × Int := if code = 0 then rnum k p most else (0, p, code)
def nint (k : List UInt8) (p : Nat) (code : Int) : Int × Nat × Int := if code = 0 then rint k p else (0, p, code)
def nbool (k : List UInt8) (p : Nat) (code : Int) : Bool × Nat × Int := if code = 0 then rbool k p else (false, p, code)
def nbytes_ (k : List UInt8) (p : Nat) (code : Int) (most : Int) : List UInt8 × Nat × Int := if code = 0 then rbytes k p most else ([], p, code)
def nraw_ (k : List UInt8) (p : Nat) (code : Int) (n : Int) : List UInt8 × Nat × Int := if code = 0 then rraw k p n else ([], p, code)

theorem broken_to {w w' : World} {g : Nat} {A : Option Addr} {c : Nat} {F : Nat → Prop} {k : List UInt8} {p : Nat} {code : Int} (h : Rr w g A c F k p code) (hb : Below w.heap.size w w') : Readto w w' g A c F k p code :=
  ⟨h.below hb, Only.of_below hb _⟩
theorem mbroken_to {w : World} {g : Nat} {A : Option Addr} {c : Nat} {F : Nat → Prop} {k : List UInt8} {p : Nat} {code fa : Int} (h : Mr w g A c F k p code fa) : Mto w w g A c F k p code fa := ⟨h, Only.refl _ _⟩

section
variable (g : Nat) (A : Option Addr) (c : Nat) (F : Nat → Prop) (k : List UInt8) (p : Nat) (code : Int) (w : World)

theorem ubyte (h : Rr w g A c F k p code) : Calls Tryd.prog 34 #[.pointer (some ⟨g, 0, none⟩)] w fun e w' => e = .returned (.int .u8 (nbyte k p code).1.toNat) ∧ Readto w w' g A c F k (nbyte k p code).2.1 (nbyte k p code).2.2 := by
  by_cases h0 : code = 0
  · subst h0; exact rbyte_ok g A c F k p w h
  · unfold nbyte; rw [if_neg h0]; exact (rbyte_broken g A c F k p code w h h0).mono fun e w' ⟨he, hb⟩ => ⟨he, broken_to h hb⟩
theorem unum (most : Nat) (h : Rr w g A c F k p code) : Calls Tryd.prog 35 #[.pointer (some ⟨g, 0, none⟩), .int .u64 most] w fun e w' => e = .returned (.int .u64 (nnum k p code most).1) ∧ Readto w w' g A c F k (nnum k p code most).2.1 (nnum k p code most).2.2 := by
  by_cases h0 : code = 0
  · subst h0; exact rnumber_ok g A c F k p most w h
  · unfold nnum; rw [if_neg h0]; exact (rnumber_broken g A c F k p code most w h h0).mono fun e w' ⟨he, hb⟩ => ⟨he, broken_to h hb⟩
theorem uint (h : Rr w g A c F k p code) : Calls Tryd.prog 36 #[.pointer (some ⟨g, 0, none⟩)] w fun e w' => e = .returned (.int .i64 (nint k p code).1) ∧ Readto w w' g A c F k (nint k p code).2.1 (nint k p code).2.2 := by
  by_cases h0 : code = 0
  · subst h0; exact rint_any g A c F k p w h
  · unfold nint; rw [if_neg h0]; exact (rint_broken g A c F k p code w h h0).mono fun e w' ⟨he, hb⟩ => ⟨he, broken_to h hb⟩
theorem ubool (h : Rr w g A c F k p code) : Calls Tryd.prog 37 #[.pointer (some ⟨g, 0, none⟩)] w fun e w' => e = .returned (.bool (nbool k p code).1) ∧ Readto w w' g A c F k (nbool k p code).2.1 (nbool k p code).2.2 := by
  by_cases h0 : code = 0
  · subst h0; exact rbool_ok g A c F k p w h
  · unfold nbool; rw [if_neg h0]; exact (rbool_broken g A c F k p code w h h0).mono fun e w' ⟨he, hb⟩ => ⟨he, broken_to h hb⟩
theorem ubytes (most : Int) (hm : most ≤ 9223372036854775807) (h : Rr w g A c F k p code) : Calls Tryd.prog 38 #[.pointer (some ⟨g, 0, none⟩), .int .i64 most] w (DidRead w g A c F k (nbytes_ k p code most)) := by
  by_cases h0 : code = 0
  · subst h0; exact rbytes_any g A c F k p most w h hm
  · unfold nbytes_; rw [if_neg h0]; exact (rbytes_broken g A c F k p code most w h h0).mono fun e w' ⟨he, hb⟩ => ⟨none, 0, he, World.ownsRow_nil _ _ _ _, broken_to h hb⟩
theorem utext (most : Int) (hm : most ≤ 9223372036854775807) (h : Rr w g A c F k p code) : Calls Tryd.prog 39 #[.pointer (some ⟨g, 0, none⟩), .int .i64 most] w fun e w' => e = .returned (.string ⟨(nbytes_ k p code most).1.toArray⟩) ∧ Readto w w' g A c F k (nbytes_ k p code most).2.1 (nbytes_ k p code most).2.2 := by
  by_cases h0 : code = 0
  · subst h0; exact rtext_any g A c F k p most w h hm
  · unfold nbytes_; rw [if_neg h0]; exact (rtext_broken g A c F k p code most w h h0).mono fun e w' ⟨he, hb⟩ => ⟨he, broken_to h hb⟩
theorem uraw (n : Int) (h : Rr w g A c F k p code) : Calls Tryd.prog 40 #[.pointer (some ⟨g, 0, none⟩), .int .i64 n] w (DidRead w g A c F k (nraw_ k p code n)) := by
  by_cases h0 : code = 0
  · subst h0; exact rraw_any g A c F k p n w h
  · unfold nraw_; rw [if_neg h0]; exact (rraw_broken g A c F k p code n w h h0).mono fun e w' ⟨he, hb⟩ => ⟨none, 0, he, World.ownsRow_nil _ _ _ _, broken_to h hb⟩
theorem ufail (d : Int) (h : Rr w g A c F k p code) : Calls Tryd.prog 33 #[.pointer (some ⟨g, 0, none⟩), .int .i64 d] w fun e w' => e = .returned (.tuple #[]) ∧ Readto w w' g A c F k p (if code = 0 then d else code) := by
  by_cases h0 : code = 0
  · subst h0; exact (fail_any g A c F k p d w h).mono fun e w' ⟨he, hw⟩ => ⟨he, by rw [hw, if_pos rfl]; exact ⟨h.break_ d, (Only.refl (fun j => j = g) w).setCell (p := ⟨g, 2, none⟩) (.inl rfl) _⟩⟩
  · rw [if_neg h0]; exact (fail_not g A c F k p code d w h h0).mono fun e w' ⟨he, hw⟩ => ⟨he, by rw [hw]; exact ⟨h, Only.refl _ _⟩⟩

theorem vbyte (h : Mr w g A c F k p code (fz code p)) : Calls Tryd.prog 63 #[.pointer (some ⟨g, 0, none⟩)] w fun e w' => e = .returned (.int .u8 (nbyte k p code).1.toNat) ∧ Mto w w' g A c F k (nbyte k p code).2.1 (nbyte k p code).2.2 (fz (nbyte k p code).2.2 (nbyte k p code).2.1) := by
  by_cases h0 : code = 0
  · subst h0; exact mbyte_ok g A c F k p w h
  · unfold nbyte; rw [if_neg h0]; exact (mbyte_broken g A c F k p w code _ h h0).mono fun e w' ⟨he, hw⟩ => ⟨he, by rw [hw]; exact mbroken_to h⟩
theorem vnum (most : Nat) (h : Mr w g A c F k p code (fz code p)) : Calls Tryd.prog 64 #[.pointer (some ⟨g, 0, none⟩), .int .u64 most] w fun e w' => e = .returned (.int .u64 (nnum k p code most).1) ∧ Mto w w' g A c F k (nnum k p code most).2.1 (nnum k p code most).2.2 (fz (nnum k p code most).2.2 (nnum k p code most).2.1) := by
  by_cases h0 : code = 0
  · subst h0; exact mnumber_ok g A c F k p w most h
  · unfold nnum; rw [if_neg h0]; exact (mnumber_broken g A c F k p w most code _ h h0).mono fun e w' ⟨he, hw⟩ => ⟨he, by rw [hw]; exact mbroken_to h⟩
theorem vint (h : Mr w g A c F k p code (fz code p)) : Calls Tryd.prog 65 #[.pointer (some ⟨g, 0, none⟩)] w fun e w' => e = .returned (.int .i64 (nint k p code).1) ∧ Mto w w' g A c F k (nint k p code).2.1 (nint k p code).2.2 (fz (nint k p code).2.2 (nint k p code).2.1) := by
  by_cases h0 : code = 0
  · subst h0; exact mint_ok g A c F k p w h
  · unfold nint; rw [if_neg h0]; exact (mint_broken g A c F k p w code _ h h0).mono fun e w' ⟨he, hw⟩ => ⟨he, by rw [hw]; exact mbroken_to h⟩
theorem vbool (h : Mr w g A c F k p code (fz code p)) : Calls Tryd.prog 66 #[.pointer (some ⟨g, 0, none⟩)] w fun e w' => e = .returned (.bool (nbool k p code).1) ∧ Mto w w' g A c F k (nbool k p code).2.1 (nbool k p code).2.2 (fz (nbool k p code).2.2 (nbool k p code).2.1) := by
  by_cases h0 : code = 0
  · subst h0; exact mbool_ok g A c F k p w h
  · unfold nbool; rw [if_neg h0]; exact (mbool_broken g A c F k p w code _ h h0).mono fun e w' ⟨he, hw⟩ => ⟨he, by rw [hw]; exact mbroken_to h⟩
theorem vbytes (most : Int) (hm : most ≤ 9223372036854775807) (h : Mr w g A c F k p code (fz code p)) : Calls Tryd.prog 67 #[.pointer (some ⟨g, 0, none⟩), .int .i64 most] w (MDid w g A c F k (nbytes_ k p code most)) := by
  by_cases h0 : code = 0
  · subst h0; exact mbytes_ok g A c F k p w most hm h
  · unfold nbytes_; rw [if_neg h0]; exact (mbytes_broken g A c F k p w most code _ h h0).mono fun e w' ⟨he, hw⟩ => ⟨none, 0, he, World.ownsRow_nil _ _ _ _, by rw [hw]; exact mbroken_to h⟩
theorem vraw (n : Int) (h : Mr w g A c F k p code (fz code p)) : Calls Tryd.prog 69 #[.pointer (some ⟨g, 0, none⟩), .int .i64 n] w (MDid w g A c F k (nraw_ k p code n)) := by
  by_cases h0 : code = 0
  · subst h0; exact mraw_ok g A c F k p w n h
  · unfold nraw_; rw [if_neg h0]; exact (mraw_broken g A c F k p w n code _ h h0).mono fun e w' ⟨he, hw⟩ => ⟨none, 0, he, World.ownsRow_nil _ _ _ _, by rw [hw]; exact mbroken_to h⟩
theorem vfail (d : Int) (h : Mr w g A c F k p code (fz code p)) : Calls Tryd.prog 68 #[.pointer (some ⟨g, 0, none⟩), .int .i64 d] w fun e w' => e = .returned (.tuple #[]) ∧ Mto w w' g A c F k p (if code = 0 then d else code) (fz (if code = 0 then d else code) p) := by
  by_cases h0 : code = 0
  · subst h0; rw [if_pos rfl]; exact mfail_any g A c F k p d w h
  · rw [if_neg h0]; exact (mfail_not g A c F k p code _ d w h h0).mono fun e w' ⟨he, hw⟩ => ⟨he, by rw [hw]; exact mbroken_to h⟩
end

end Go.Proofs.YtaekepejeokciaaDoor
