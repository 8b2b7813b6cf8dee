/- What a reader's calls for bytes, raw bytes, texts and signed numbers come to, whatever its bytes are. -/
import Derived.Test.YthknfbbnnldnmaaReadS
import Derived.Deep.RegionHeld3
namespace Go.Proofs.Ythknfbbnnldnmaa
set_option maxRecDepth 100000
open Go.RowKit

set_option maxHeartbeats 800000 in
theorem fS_err (g : Nat) (A : Option Addr) (c : Nat) (F : Nat → Prop) (k : List UInt8) (p : Nat) (q : Addr) (d : Int) (w : World) (h : Rr w g A c F k p 0) (hd : (d != 0) = true)
    (hcall : ∀ X C i, (Rd w F X (k.length - p) (Bs (k.drop p))) → Calls Try.prog 89 #[.slice X (k.length - p) C, .pointer (some q)] (w.drewN i) fun e w' => e = .returned (.tuple #[.slice none 0 0, .int .i64 0, .int .i64 d]) ∧ w' = w.drewN i) :
    Calls Try.prog 88 #[.pointer (some ⟨g, 0, none⟩), .func (.func 89) #[] #[.pointer (some q)]] w fun e w' => e = .returned (.slice none 0 0) ∧ Readto w w' g A c F k p d := by
  have h0 := h.c0
  have h1 := h.c1
  have h2 := h.c2
  have hcap := h.cap
  have htop := h.top
  have hle := h.le
  unfold maxLen at htop
  have f2 := h.f 2
  have HCALL := Lib.hid hcall
  clear hcall
  rcases h.left_cases with ⟨hcp, hl⟩ | ⟨hcp, hl⟩
  · have H := Lib.hid h
    have HC := Lib.hid (fun i => HCALL.out A 0 i hl)
    clear h hl
    go_enter Try.func88, Try.ntmps88
    go_wp2_with fail
    go_quiet ((go_at_call 89; exact Calls.quiet_of_same (HC.out _)))
    go_wp2_with fail
    refine (fail_any g A c F k p d _ (H.out.drewN _)).mono ?_
    rintro e w' ⟨rfl, rfl⟩
    go_wp2_with fail
    go_ret
    exact ⟨rfl, H.out.fell _ _⟩
  · have H := Lib.hid h
    have HC := Lib.hid (fun i => HCALL.out (Option.map (fun x => x.add p) A) (c - p) i hl)
    clear h hl
    go_enter Try.func88, Try.ntmps88
    go_wp2_with fail
    go_quiet ((go_at_call 89; exact Calls.quiet_of_same (HC.out _)))
    go_wp2_with fail
    refine (fail_any g A c F k p d _ (H.out.drewN _)).mono ?_
    rintro e w' ⟨rfl, rfl⟩
    go_wp2_with fail
    go_ret
    exact ⟨rfl, H.out.fell _ _⟩

/-- What a reader leaves behind bytes that it read: they lie in a row of their own. -/
def Took (w : World) (g : Nat) (A : Option Addr) (c : Nat) (F : Nat → Prop) (k x : List UInt8) (p : Nat) (e : Ending) (w' : World) : Prop :=
  ∃ A1 c1, e = .returned (.slice A1 x.length c1) ∧ w'.ownsRow w.heap.size 5 1 (.slice A1 x.length c1) x.length (Bs x) ∧ Readto w w' g A c F k p 0
theorem took_row {w w1 : World} {g : Nat} {A : Option Addr} {c : Nat} {F : Nat → Prop} {k x : List UInt8} {p t : Nat} {A1 : Option Addr} {c1 : Nat} {y : Int} (h : Rr w g A c F k p 0)
    (ho : w1.ownsRow w.heap.size 5 1 (.slice A1 x.length c1) x.length (Bs x)) (hb : Below w.heap.size w.drew w1) (ht : p + t ≤ k.length) (hy : y = ((p + t : Nat) : Int)) :
    Took w g A c F k x (p + t) (.returned (.slice A1 x.length c1)) (w1.setCell ⟨g, 1, none⟩ (.int .i64 y)) := by
  subst hy
  have hb' : Below w.heap.size w w1 := ⟨hb.os, hb.tape, hb.output, hb.size, hb.block⟩
  have h1 := h.below hb'
  have hlt := h.lt
  refine ⟨A1, c1, rfl, ?_, h1.move ht, ((Only.of_below hb' (fun j => j = g))).setCell (p := ⟨g, 1, none⟩) (.inl rfl) _⟩
  refine own_only ho ((Only.refl (fun j => j = g) w1).setCell (p := ⟨g, 1, none⟩) (.inl rfl) _) fun j hj e => ?_
  have := (ho.lt j hj).1
  omega

set_option maxHeartbeats 800000 in
theorem fS_ok (g : Nat) (A : Option Addr) (c : Nat) (F : Nat → Prop) (k : List UInt8) (p : Nat) (q : Addr) (x : List UInt8) (t : Nat) (w : World) (h : Rr w g A c F k p 0) (ht : p + t ≤ k.length)
    (hcall : ∀ X C, (Rd w F X (k.length - p) (Bs (k.drop p))) → k.length - p ≤ C → C ≤ 9223372036854775807 → Calls Try.prog 89 #[.slice X (k.length - p) C, .pointer (some q)] w.drew (Got w.drew x t)) :
    Calls Try.prog 88 #[.pointer (some ⟨g, 0, none⟩), .func (.func 89) #[] #[.pointer (some q)]] w (Took w g A c F k x (p + t)) := by
  have h0 := h.c0
  have h1 := h.c1
  have h2 := h.c2
  have hcap := h.cap
  have htop := h.top
  have hle := h.le
  unfold maxLen at htop
  have hsm := h.small
  have hlt := h.lt
  have HCALL := Lib.hid hcall
  clear hcall
  rcases h.left_cases with ⟨hcp, hl⟩ | ⟨hcp, hl⟩
  · have H := Lib.hid h
    have HC := Lib.hid (HCALL.out A 0 hl (by omega) (by omega))
    clear h hl
    go_enter Try.func88, Try.ntmps88
    go_wp2_with fail
    go_region_held3 (fun w' => w'.cell? ⟨g, 0, none⟩ = some (.slice A k.length c) ∧ w'.cell? ⟨g, 1, none⟩ = some (.int .i64 p)) (go_keep)
      (first | (go_at_call 89; refine (HC.out).mono ?_; rintro e w1 ⟨A1, c1, rfl, hown, hb⟩; have hh0 := (hb.cell (p := ⟨g, 0, none⟩) hlt).trans h0; have hh1 := (hb.cell (p := ⟨g, 1, none⟩) hlt).trans h1; have hf1 := (hb.frozen (p := ⟨g, 1, none⟩) hlt).trans (H.out.f 1); have HO := Lib.hid hown; have HB := Lib.hid hb; clear hown hb))
    go_wp2_with fail
    go_ret
    exact took_row H.out HO.out HB.out ht (by omega)
  · have H := Lib.hid h
    have HC := Lib.hid (HCALL.out (Option.map (fun x => x.add p) A) (c - p) hl (by omega) (by omega))
    clear h hl
    go_enter Try.func88, Try.ntmps88
    go_wp2_with fail
    go_region_held3 (fun w' => w'.cell? ⟨g, 0, none⟩ = some (.slice A k.length c) ∧ w'.cell? ⟨g, 1, none⟩ = some (.int .i64 p)) (go_keep)
      (first | (go_at_call 89; refine (HC.out).mono ?_; rintro e w1 ⟨A1, c1, rfl, hown, hb⟩; have hh0 := (hb.cell (p := ⟨g, 0, none⟩) hlt).trans h0; have hh1 := (hb.cell (p := ⟨g, 1, none⟩) hlt).trans h1; have hf1 := (hb.frozen (p := ⟨g, 1, none⟩) hlt).trans (H.out.f 1); have HO := Lib.hid hown; have HB := Lib.hid hb; clear hown hb))
    go_wp2_with fail
    go_ret
    exact took_row H.out HO.out HB.out ht (by omega)

end Go.Proofs.Ythknfbbnnldnmaa
