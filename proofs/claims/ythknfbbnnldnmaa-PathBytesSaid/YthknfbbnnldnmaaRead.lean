/- A reader of fields in memory, and what reading a number makes of it; for any bytes up to 2^47. -/
import Derived.Test.YthknfbbnnldnmaaSplit
import Derived.Test.YthknfbbnnldnmaaWrite
namespace Go.Proofs.Ythknfbbnnldnmaa
open Go.RowKit

theorem rcells : Try.prog.cellsOf 59 = 3 := by kernel_rfl

/-- A reader in block g: its bytes k, its place p, the number of what broke it. -/
structure Rr (w : World) (g : Nat) (A : Option Addr) (c : Nat) (F : Nat → Prop) (k : List UInt8) (p : Nat) (code : Int) : Prop where
  blk : w.heap[g]? = some (.cells #[.slice A k.length c, .int .i64 p, .int .i64 code] 59 (0, 0))
  rd : Rd w F A k.length (Bs k)
  cap : k.length ≤ c
  top : c ≤ maxLen
  small : k.length ≤ 140737488355328
  le : p ≤ k.length
  far : ¬ F g

section
variable {w w' : World} {g : Nat} {A : Option Addr} {c : Nat} {F : Nat → Prop} {k : List UInt8} {p : Nat} {code : Int}
theorem Rr.c0 (h : Rr w g A c F k p code) : w.cell? ⟨g, 0, none⟩ = some (.slice A k.length c) := by rw [cell_of_row w g 0 _ _ _ h.blk]; rfl
theorem Rr.c1 (h : Rr w g A c F k p code) : w.cell? ⟨g, 1, none⟩ = some (.int .i64 p) := by rw [cell_of_row w g 1 _ _ _ h.blk]; rfl
theorem Rr.c2 (h : Rr w g A c F k p code) : w.cell? ⟨g, 2, none⟩ = some (.int .i64 code) := by rw [cell_of_row w g 2 _ _ _ h.blk]; rfl
theorem Rr.f (h : Rr w g A c F k p code) (i : Nat) : w.frozen? ⟨g, i, none⟩ = false := frozen_of_row w g i _ _ h.blk
theorem Rr.lt (h : Rr w g A c F k p code) : g < w.heap.size := lt_of_cell h.c0
theorem Rr.only {S : Nat → Prop} (h : Rr w g A c F k p code) (ho : Only S w w') (hg : ¬ S g) (hF : ∀ j, F j → ¬ S j) : Rr w' g A c F k p code :=
  ⟨(ho.block g h.lt hg).trans h.blk, h.rd.only ho hF, h.cap, h.top, h.small, h.le, h.far⟩
theorem Rr.below (h : Rr w g A c F k p code) (ho : Below w.heap.size w w') : Rr w' g A c F k p code :=
  h.only (Only.of_below ho (fun _ => False)) (fun h => h) (fun _ _ h => h)
theorem Rr.drewN (h : Rr w g A c F k p code) (n : Nat) : Rr (w.drewN n) g A c F k p code := ⟨h.blk, h.rd, h.cap, h.top, h.small, h.le, h.far⟩
theorem Rr.set (h : Rr w g A c F k p code) (i : Nat) (u : Value) : Rd (w.setCell ⟨g, i, none⟩ u) F A k.length (Bs k) :=
  h.rd.only (S := fun j => j = g) ((Only.refl (fun j => j = g) w).setCell (p := ⟨g, i, none⟩) (.inl rfl) u) fun j hj e => by subst e; exact h.far hj
theorem Rr.move (h : Rr w g A c F k p code) {q : Nat} (hq : q ≤ k.length) : Rr (w.setCell ⟨g, 1, none⟩ (.int .i64 q)) g A c F k q code :=
  ⟨by rw [heap_setCell_same w g 1 _ _ _ h.blk]; rfl, h.set _ _, h.cap, h.top, h.small, hq, h.far⟩
theorem Rr.break_ (h : Rr w g A c F k p code) (d : Int) : Rr (w.setCell ⟨g, 2, none⟩ (.int .i64 d)) g A c F k p d :=
  ⟨by rw [heap_setCell_same w g 2 _ _ _ h.blk]; rfl, h.set _ _, h.cap, h.top, h.small, h.le, h.far⟩
/-- What is left of a reader's bytes, as a slice. -/
theorem Rr.left (h : Rr w g A c F k p code) : Rd w F (if c = p then A else A.map (·.add p)) (k.length - p) (Bs (k.drop p)) := by
  refine ⟨by simp [Bs], fun hn => ?_⟩
  obtain ⟨ad, e, hF, hb, hc⟩ := h.rd.2 (by omega)
  have hcp : ¬ c = p := by have := h.cap; omega
  refine ⟨ad.add p, by rw [if_neg hcp, e]; rfl, by rw [add_block]; exact hF, by rw [add_block]; exact hb, fun j u hu => ?_⟩
  rw [add_add]
  refine hc _ u ?_
  rw [← hu]
  simp [Bs]
end

/-- What a reader has become: its place and its number. -/
structure Readto (w w' : World) (g : Nat) (A : Option Addr) (c : Nat) (F : Nat → Prop) (k : List UInt8) (p : Nat) (code : Int) : Prop where
  rr : Rr w' g A c F k p code
  only : Only (fun j => j = g) w w'

/-- What reading a number comes to: the number, the place, what broke it. -/
def rnum (k : List UInt8) (p most : Nat) : Nat × Nat × Int :=
  match dec (k.drop p) with
  | none => (0, p, 2)
  | some (n, s) => if most < n then (0, p, 15) else (n, p + s, 0)

set_option maxHeartbeats 400000 in
theorem num1_none (A : Option Addr) (n c : Nat) (k : List UInt8) (F : Nat → Prop) (q : Addr) (w : World) (hr : Rd w F A n (Bs k)) (hn : n ≤ 140737488355328) (hd : dec k = none) :
    Calls Try.prog 62 #[.slice A n c, .pointer (some q)] w fun e w' => e = .returned (.tuple #[.int .u64 0, .int .i64 0, .int .i64 2]) ∧ w' = w := by
  have HD := Lib.hid hd
  clear hd
  go_enter Try.func62, Try.ntmps62
  go_wp2_with fail
  refine (split_any A n c k F _ hr hn).mono ?_
  rintro e w' ⟨rfl, rfl⟩
  rw [HD.out]
  go_wp2_with fail
  go_ret3
  exact ⟨rfl, rfl⟩

set_option maxHeartbeats 400000 in
theorem num1_over (A : Option Addr) (n c : Nat) (k : List UInt8) (F : Nat → Prop) (q : Addr) (most m s : Nat) (w : World) (hr : Rd w F A n (Bs k)) (hn : n ≤ 140737488355328) (hq : w.cell? q = some (.int .u64 most)) (hd : dec k = some (m, s)) (hm : most < m) :
    Calls Try.prog 62 #[.slice A n c, .pointer (some q)] w fun e w' => e = .returned (.tuple #[.int .u64 0, .int .i64 0, .int .i64 15]) ∧ w' = w := by
  have hs := (enc_dec hd).2.2.1
  have HD := Lib.hid hd
  clear hd
  have h1 : (((s : Nat) : Int) == 0) = false := beq_eq_false_iff_ne.2 (by omega)
  have h2 : (most : Int) < m := by omega
  go_enter Try.func62, Try.ntmps62
  go_wp2_with fail
  refine (split_any A n c k F _ hr hn).mono ?_
  rintro e w' ⟨rfl, rfl⟩
  rw [HD.out]
  go_wp2_with fail
  go_ret3
  exact ⟨rfl, rfl⟩

set_option maxHeartbeats 400000 in
theorem num1_ok (A : Option Addr) (n c : Nat) (k : List UInt8) (F : Nat → Prop) (q : Addr) (most m s : Nat) (w : World) (hr : Rd w F A n (Bs k)) (hn : n ≤ 140737488355328) (hq : w.cell? q = some (.int .u64 most)) (hd : dec k = some (m, s)) (hm : ¬ most < m) :
    Calls Try.prog 62 #[.slice A n c, .pointer (some q)] w fun e w' => e = .returned (.tuple #[.int .u64 m, .int .i64 s, .int .i64 0]) ∧ w' = w := by
  have hs := (enc_dec hd).2.2.1
  have HD := Lib.hid hd
  clear hd
  have h1 : (((s : Nat) : Int) == 0) = false := beq_eq_false_iff_ne.2 (by omega)
  have h2 : ¬ (most : Int) < m := by omega
  go_enter Try.func62, Try.ntmps62
  go_wp2_with fail
  refine (split_any A n c k F _ hr hn).mono ?_
  rintro e w' ⟨rfl, rfl⟩
  rw [HD.out]
  go_wp2_with fail
  go_ret3
  exact ⟨rfl, rfl⟩

set_option maxHeartbeats 400000 in
/-- (*Reader).Fail at a reader that is whole. -/
theorem fail_any (g : Nat) (A : Option Addr) (c : Nat) (F : Nat → Prop) (k : List UInt8) (p : Nat) (d : Int) (w : World) (h : Rr w g A c F k p 0) :
    Calls Try.prog 43 #[.pointer (some ⟨g, 0, none⟩), .int .i64 d] w fun e w' => e = .returned (.tuple #[]) ∧ w' = w.setCell ⟨g, 2, none⟩ (.int .i64 d) := by
  have h2 := h.c2
  have f2 := h.f 2
  clear h
  go_enter Try.func43, Try.ntmps43
  go_wp2_with fail
  go_end0
  exact ⟨rfl, rfl⟩

set_option maxHeartbeats 400000 in
/-- (*Reader).Fail at a reader that is broken. -/
theorem fail_not (g : Nat) (A : Option Addr) (c : Nat) (F : Nat → Prop) (k : List UInt8) (p : Nat) (code d : Int) (w : World) (h : Rr w g A c F k p code) (hc : code ≠ 0) :
    Calls Try.prog 43 #[.pointer (some ⟨g, 0, none⟩), .int .i64 d] w fun e w' => e = .returned (.tuple #[]) ∧ w' = w := by
  have h2 := h.c2
  have f2 := h.f 2
  have q2 : (code == 0) = false := beq_eq_false_iff_ne.2 hc
  clear h hc
  go_enter Try.func43, Try.ntmps43
  go_wp2_with fail
  go_end0
  exact ⟨rfl, rfl⟩

set_option maxHeartbeats 400000 in
theorem number_broken (g : Nat) (A : Option Addr) (c : Nat) (F : Nat → Prop) (k : List UInt8) (p : Nat) (code : Int) (f : Value) (w : World) (h : Rr w g A c F k p code) (hc : code ≠ 0) :
    Calls Try.prog 61 #[.pointer (some ⟨g, 0, none⟩), f] w fun e w' => e = .returned (.int .u64 0) ∧ w = w' := by
  have h2 := h.c2
  have q2 : (code != 0) = true := by rw [bne_iff_ne]; exact hc
  clear h hc
  go_enter Try.func61, Try.ntmps61
  go_wp2_with fail
  go_ret
  exact ⟨rfl, rfl⟩

/-- The two forms of the address of what is left. -/
theorem Rr.left_cases {w : World} {g : Nat} {A : Option Addr} {c : Nat} {F : Nat → Prop} {k : List UInt8} {p : Nat} {code : Int} (h : Rr w g A c F k p code) :
    (c = p ∧ Rd w F A (k.length - p) (Bs (k.drop p))) ∨ (¬ c = p ∧ Rd w F (Option.map (fun x => x.add p) A) (k.length - p) (Bs (k.drop p))) := by
  have hl := h.left
  by_cases hc : c = p
  · rw [if_pos hc] at hl; exact .inl ⟨hc, hl⟩
  · rw [if_neg hc] at hl; exact .inr ⟨hc, hl⟩

/-- The reader behind a field that took s bytes. -/
theorem Rr.took {w : World} {g : Nat} {A : Option Addr} {c : Nat} {F : Nat → Prop} {k : List UInt8} {p : Nat} (h : Rr w g A c F k p 0) (q : Nat) {s : Nat} (hs : p + s ≤ k.length) {y : Int} (hy : y = ((p + s : Nat) : Int)) :
    Readto w ((w.drewN q).setCell ⟨g, 1, none⟩ (.int .i64 y)) g A c F k (p + s) 0 := by
  subst hy
  exact ⟨(h.drewN q).move hs, ((Only.refl (fun j => j = g) w).drewN q).setCell (p := ⟨g, 1, none⟩) (.inl rfl) _⟩
theorem Rr.fell {w : World} {g : Nat} {A : Option Addr} {c : Nat} {F : Nat → Prop} {k : List UInt8} {p : Nat} (h : Rr w g A c F k p 0) (q : Nat) (d : Int) :
    Readto w ((w.drewN q).setCell ⟨g, 2, none⟩ (.int .i64 d)) g A c F k p d :=
  ⟨(h.drewN q).break_ d, ((Only.refl (fun j => j = g) w).drewN q).setCell (p := ⟨g, 2, none⟩) (.inl rfl) _⟩

theorem num1_cases (A : Option Addr) (n c : Nat) (k : List UInt8) (F : Nat → Prop) (q : Addr) (most : Nat) (w : World) (hr : Rd w F A n (Bs k)) (hn : n ≤ 140737488355328) (hq : w.cell? q = some (.int .u64 most)) :
    ∃ m s : Nat, ∃ d : Int, (∀ i, Calls Try.prog 62 #[.slice A n c, .pointer (some q)] (w.drewN i) fun e w' => e = .returned (.tuple #[.int .u64 m, .int .i64 s, .int .i64 d]) ∧ w' = w.drewN i) ∧ (d = 0 ∧ s ≤ k.length ∧ (∀ p l, k = l.drop p → rnum l p most = (m, p + s, 0)) ∨ ((d != 0) = true ∧ (∀ p l, k = l.drop p → rnum l p most = (0, p, d)))) := by
  cases hd : dec k with
  | none => exact ⟨0, 0, 2, fun i => num1_none A n c k F q _ hr hn hd, .inr ⟨rfl, fun p l e => by unfold rnum; rw [← e, hd]⟩⟩
  | some r =>
    obtain ⟨m, s⟩ := r
    by_cases hm : most < m
    · exact ⟨0, 0, 15, fun i => num1_over A n c k F q most m s _ hr hn hq hd hm, .inr ⟨rfl, fun p l e => by unfold rnum; rw [← e, hd]; simp [hm]⟩⟩
    · exact ⟨m, s, 0, fun i => num1_ok A n c k F q most m s _ hr hn hq hd hm, .inl ⟨rfl, (enc_dec hd).2.1, fun p l e => by unfold rnum; rw [← e, hd]; simp [hm]⟩⟩

set_option maxHeartbeats 800000 in
theorem number_read (g : Nat) (A : Option Addr) (c : Nat) (F : Nat → Prop) (k : List UInt8) (p : Nat) (q : Addr) (most : Nat) (w : World) (h : Rr w g A c F k p 0) (hq : w.cell? q = some (.int .u64 most)) :
    Calls Try.prog 61 #[.pointer (some ⟨g, 0, none⟩), .func (.func 62) #[] #[.pointer (some q)]] w fun e w' => e = .returned (.int .u64 (rnum k p most).1) ∧ Readto w w' g A c F k (rnum k p most).2.1 (rnum k p most).2.2 := by
  have h0 := h.c0
  have h1 := h.c1
  have h2 := h.c2
  have hcap := h.cap
  have htop := h.top
  have hle := h.le
  unfold maxLen at htop
  have hsm := h.small
  have hsl : k.length - p ≤ 140737488355328 := by omega
  have f1 := h.f 1
  have f2 := h.f 2
  have hkd : (k.drop p).length = k.length - p := List.length_drop
  rcases h.left_cases with ⟨hcp, hl⟩ | ⟨hcp, hl⟩
  · obtain ⟨m, s, d, hcall, hres⟩ := num1_cases _ _ 0 _ F q most w hl hsl hq
    have H := Lib.hid h
    have HKD := Lib.hid hkd
    clear h hkd hl
    rcases hres with ⟨rfl, hs, hres⟩ | ⟨hd, hres⟩
    · rw [HKD.out] at hs
      have HE := Lib.hid (hres p k rfl)
      have HC := Lib.hid hcall
      clear hres hcall hq
      have hps : p + s ≤ 140737488355328 := by omega
      go_enter Try.func61, Try.ntmps61
      go_wp2_with fail
      go_quiet ((go_at_call 62; exact Calls.quiet_of_same (HC.out _)))
      go_wp2_with fail
      go_ret
      rw [HE.out]
      exact ⟨rfl, H.out.took _ (by omega) (by omega)⟩
    · have HE := Lib.hid (hres p k rfl)
      have HC := Lib.hid hcall
      clear hres hcall hq
      go_enter Try.func61, Try.ntmps61
      go_wp2_with fail
      go_quiet ((go_at_call 62; exact Calls.quiet_of_same (HC.out _)))
      go_wp2_with fail
      refine (fail_any g A c F k p d _ (H.out.drewN _)).mono ?_
      rintro e w' ⟨rfl, rfl⟩
      go_wp2_with fail
      go_ret
      rw [HE.out]
      exact ⟨rfl, H.out.fell _ _⟩
  · obtain ⟨m, s, d, hcall, hres⟩ := num1_cases _ _ (c - p) _ F q most w hl hsl hq
    have H := Lib.hid h
    have HKD := Lib.hid hkd
    clear h hkd hl
    rcases hres with ⟨rfl, hs, hres⟩ | ⟨hd, hres⟩
    · rw [HKD.out] at hs
      have HE := Lib.hid (hres p k rfl)
      have HC := Lib.hid hcall
      clear hres hcall hq
      have hps : p + s ≤ 140737488355328 := by omega
      go_enter Try.func61, Try.ntmps61
      go_wp2_with fail
      go_quiet ((go_at_call 62; exact Calls.quiet_of_same (HC.out _)))
      go_wp2_with fail
      go_ret
      rw [HE.out]
      exact ⟨rfl, H.out.took _ (by omega) (by omega)⟩
    · have HE := Lib.hid (hres p k rfl)
      have HC := Lib.hid hcall
      clear hres hcall hq
      go_enter Try.func61, Try.ntmps61
      go_wp2_with fail
      go_quiet ((go_at_call 62; exact Calls.quiet_of_same (HC.out _)))
      go_wp2_with fail
      refine (fail_any g A c F k p d _ (H.out.drewN _)).mono ?_
      rintro e w' ⟨rfl, rfl⟩
      go_wp2_with fail
      go_ret
      rw [HE.out]
      exact ⟨rfl, H.out.fell _ _⟩

end Go.Proofs.Ythknfbbnnldnmaa
