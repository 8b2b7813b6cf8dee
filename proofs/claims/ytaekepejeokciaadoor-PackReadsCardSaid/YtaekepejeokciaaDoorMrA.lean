/- The document's reader in memory: what is left, how it fails, how it takes bytes; for any bytes up to 1000. -/
import Derived.Test.YtaekepejeokciaaDoorReadM
import Derived.Test.YtaekepejeokciaaDoorMadeA
namespace Go.Proofs.YtaekepejeokciaaDoor
set_option maxRecDepth 100000
open Go.RowKit

/-- The document's reader in block g: its bytes k, its place p, its number and that number's place. -/
structure Mr (w : World) (g : Nat) (A : Option Addr) (c : Nat) (F : Nat → Prop) (k : List UInt8) (p : Nat) (code fa : Int) : Prop where
  blk : w.heap[g]? = some (.cells #[.slice A k.length c, .int .i64 p, .int .i64 code, .int .i64 fa] 60 (0, 0))
  rd : Rd w F A k.length (Bs k)
  cap : k.length ≤ c
  top : c ≤ maxLen
  small : k.length ≤ 1000
  le : p ≤ k.length
  far : ¬ F g

section
variable {w w' : World} {g : Nat} {A : Option Addr} {c : Nat} {F : Nat → Prop} {k : List UInt8} {p : Nat} {code fa : Int}
theorem Mr.c0 (h : Mr w g A c F k p code fa) : w.cell? ⟨g, 0, none⟩ = some (.slice A k.length c) := by rw [cell_of_row w g 0 _ _ _ h.blk]; rfl
theorem Mr.c1 (h : Mr w g A c F k p code fa) : w.cell? ⟨g, 1, none⟩ = some (.int .i64 p) := by rw [cell_of_row w g 1 _ _ _ h.blk]; rfl
theorem Mr.c2 (h : Mr w g A c F k p code fa) : w.cell? ⟨g, 2, none⟩ = some (.int .i64 code) := by rw [cell_of_row w g 2 _ _ _ h.blk]; rfl
theorem Mr.c3 (h : Mr w g A c F k p code fa) : w.cell? ⟨g, 3, none⟩ = some (.int .i64 fa) := by rw [cell_of_row w g 3 _ _ _ h.blk]; rfl
theorem Mr.f (h : Mr w g A c F k p code fa) (i : Nat) : w.frozen? ⟨g, i, none⟩ = false := frozen_of_row w g i _ _ h.blk
theorem Mr.lt (h : Mr w g A c F k p code fa) : g < w.heap.size := lt_of_cell h.c0
theorem Mr.only {S : Nat → Prop} (h : Mr w g A c F k p code fa) (ho : Only S w w') (hg : ¬ S g) (hF : ∀ j, F j → ¬ S j) : Mr w' g A c F k p code fa :=
  ⟨(ho.block g h.lt hg).trans h.blk, h.rd.only ho hF, h.cap, h.top, h.small, h.le, h.far⟩
theorem Mr.below (h : Mr w g A c F k p code fa) (ho : Below w.heap.size w w') : Mr w' g A c F k p code fa :=
  h.only (Only.of_below ho (fun _ => False)) (fun h => h) (fun _ _ h => h)
theorem Mr.drewN (h : Mr w g A c F k p code fa) (n : Nat) : Mr (w.drewN n) g A c F k p code fa := ⟨h.blk, h.rd, h.cap, h.top, h.small, h.le, h.far⟩
theorem Mr.set (h : Mr w g A c F k p code fa) (i : Nat) (u : Value) : Rd (w.setCell ⟨g, i, none⟩ u) F A k.length (Bs k) :=
  h.rd.only (S := fun j => j = g) ((Only.refl (fun j => j = g) w).setCell (p := ⟨g, i, none⟩) (.inl rfl) u) fun j hj e => by subst e; exact h.far hj
theorem Mr.move (h : Mr w g A c F k p code fa) {q : Nat} (hq : q ≤ k.length) : Mr (w.setCell ⟨g, 1, none⟩ (.int .i64 q)) g A c F k q code fa :=
  ⟨by rw [heap_setCell_same w g 1 _ _ _ h.blk]; rfl, h.set _ _, h.cap, h.top, h.small, hq, h.far⟩
theorem Mr.num (h : Mr w g A c F k p code fa) (d : Int) : Mr (w.setCell ⟨g, 2, none⟩ (.int .i64 d)) g A c F k p d fa :=
  ⟨by rw [heap_setCell_same w g 2 _ _ _ h.blk]; rfl, h.set _ _, h.cap, h.top, h.small, h.le, h.far⟩
theorem Mr.where_ (h : Mr w g A c F k p code fa) (d : Int) : Mr (w.setCell ⟨g, 3, none⟩ (.int .i64 d)) g A c F k p code d :=
  ⟨by rw [heap_setCell_same w g 3 _ _ _ h.blk]; rfl, h.set _ _, h.cap, h.top, h.small, h.le, h.far⟩
theorem Mr.left_cases (h : Mr w g A c F k p code fa) :
    (c = p ∧ Rd w F A (k.length - p) (Bs (k.drop p))) ∨ (¬ c = p ∧ Rd w F (Option.map (fun x => x.add p) A) (k.length - p) (Bs (k.drop p))) := by
  have := h.rd.cut (lo := p) (hi := k.length) h.le (Nat.le_refl _) h.cap
  rwa [List.take_of_length_le (by simp)] at this
end

/-- What the document's reader has become. -/
structure Mto (w w' : World) (g : Nat) (A : Option Addr) (c : Nat) (F : Nat → Prop) (k : List UInt8) (p : Nat) (code fa : Int) : Prop where
  mr : Mr w' g A c F k p code fa
  only : Only (fun j => j = g) w w'
theorem Mto.after {w w1 w' : World} {g : Nat} {A : Option Addr} {c : Nat} {F : Nat → Prop} {k : List UInt8} {p : Nat} {code fa : Int} (h : Mto w1 w' g A c F k p code fa) (hb : Only (fun j => j = g) w w1) : Mto w w' g A c F k p code fa :=
  ⟨h.mr, hb.trans h.only fun _ _ h => h⟩
theorem Mto.then {w w1 w' : World} {g : Nat} {A : Option Addr} {c : Nat} {F : Nat → Prop} {k : List UInt8} {p : Nat} {code fa : Int} (h : Mto w w1 g A c F k p code fa) (hb : Below w1.heap.size w1 w') : Mto w w' g A c F k p code fa :=
  ⟨h.mr.below hb, h.only.trans (Only.of_below hb (fun j => j = g)) fun _ _ h => h⟩

/-- What is left. -/
def Lft (F : Nat → Prop) (k : List UInt8) (p : Nat) (w : World) (e : Ending) (w' : World) : Prop :=
  ∃ X C, e = .returned (.slice X (k.length - p) C) ∧ Rd w F X (k.length - p) (Bs (k.drop p)) ∧ ∃ q, w' = w.drewN q

set_option maxHeartbeats 400000 in
theorem left_any (g : Nat) (A : Option Addr) (c : Nat) (F : Nat → Prop) (k : List UInt8) (p : Nat) (code fa : Int) (w : World) (h : Mr w g A c F k p code fa) :
    Calls Tryd.prog 70 #[.pointer (some ⟨g, 0, none⟩)] w (Lft F k p w) := by
  have h0 := h.c0
  have h1 := h.c1
  have hcap := h.cap
  have htop := h.top
  have hle := h.le
  have hsm := h.small
  unfold maxLen at htop
  rcases h.left_cases with ⟨hcp, hl⟩ | ⟨hcp, hl⟩
  · have HL := Lib.hid hl
    clear h hl
    go_enter Tryd.func70, Tryd.ntmps70
    go_wp2_with fail
    go_quiet (fail)
    go_wp2_with fail
    go_ret
    exact ⟨_, _, rfl, HL.out, _, rfl⟩
  · have HL := Lib.hid hl
    clear h hl
    go_enter Tryd.func70, Tryd.ntmps70
    go_wp2_with fail
    go_quiet (fail)
    go_wp2_with fail
    go_ret
    exact ⟨_, _, rfl, HL.out, _, rfl⟩

/-- The place of a number that isn't there is 0. -/
def fz (code : Int) (p : Nat) : Int := if code = 0 then 0 else p

set_option maxHeartbeats 400000 in
theorem mfail_any (g : Nat) (A : Option Addr) (c : Nat) (F : Nat → Prop) (k : List UInt8) (p : Nat) (d : Int) (w : World) (h : Mr w g A c F k p 0 0) :
    Calls Tryd.prog 68 #[.pointer (some ⟨g, 0, none⟩), .int .i64 d] w fun e w' => e = .returned (.tuple #[]) ∧ Mto w w' g A c F k p d (fz d p) := by
  have h1 := h.c1
  have h2 := h.c2
  have f2 := h.f 2
  have f3 := h.f 3
  have h3 := h.c3
  have H := Lib.hid h
  clear h
  by_cases hd : d = 0
  · subst hd
    go_enter Tryd.func68, Tryd.ntmps68
    go_wp2_with fail
    go_end0
    exact ⟨rfl, H.out, Only.refl _ _⟩
  · have q : (d != 0) = true := by rw [bne_iff_ne]; exact hd
    have hz : fz d p = p := if_neg hd
    have HZ := Lib.hid hz
    clear hd hz
    go_enter Tryd.func68, Tryd.ntmps68
    go_wp2_with fail
    go_end0
    exact ⟨rfl, by rw [HZ.out]; exact (H.out.num d).where_ p, ((Only.refl (fun j => j = g) w).setCell (p := ⟨g, 2, none⟩) (.inl rfl) _).setCell (p := ⟨g, 3, none⟩) (.inl rfl) _⟩

set_option maxHeartbeats 400000 in
theorem mfail_not (g : Nat) (A : Option Addr) (c : Nat) (F : Nat → Prop) (k : List UInt8) (p : Nat) (code fa d : Int) (w : World) (h : Mr w g A c F k p code fa) (hc : code ≠ 0) :
    Calls Tryd.prog 68 #[.pointer (some ⟨g, 0, none⟩), .int .i64 d] w fun e w' => e = .returned (.tuple #[]) ∧ w' = w := by
  have h2 := h.c2
  have q2 : (code == 0) = false := beq_eq_false_iff_ne.2 hc
  clear h hc
  go_enter Tryd.func68, Tryd.ntmps68
  go_wp2_with fail
  go_end0
  exact ⟨rfl, rfl⟩

/-- What is left behind bytes that were taken: they lie in a row of their own. -/
def Mtook (w : World) (g : Nat) (A : Option Addr) (c : Nat) (F : Nat → Prop) (k x : List UInt8) (p : Nat) (e : Ending) (w' : World) : Prop :=
  ∃ A1 c1, e = .returned (.slice A1 x.length c1) ∧ w'.ownsRow w.heap.size 5 1 (.slice A1 x.length c1) x.length (Bs x) ∧ Mto w w' g A c F k p 0 0

end Go.Proofs.YtaekepejeokciaaDoor
