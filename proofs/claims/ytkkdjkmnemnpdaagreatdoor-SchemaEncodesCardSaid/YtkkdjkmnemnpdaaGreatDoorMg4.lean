/- A reader of fields in memory, and what reading a number makes of it; for any bytes up to 2^47. What a reader tells of its error and of its end, how one is made, and what a writer tells; for any bytes up to 2^47. What a reader's other calls come to, whatever its bytes are. What reading bytes comes to, whatever the reader's bytes are. What a reader's calls for bytes, raw bytes, texts and signed numbers come to, whatever its bytes are. What a reader's methods for bytes, raw bytes, texts and signed numbers come to, whatever its bytes are. A path's bytes read again: Count, Word, Number of what fits; a step; the path; for any right path's bytes. Words of an enum read where they are fresh. A region that draws its order, with operations that make memory: what only reads may be taken first, as long as nothing late has come; over any program. The words of an enum read. Names of a record read where they follow. Two lists of names, held against each other. Whether a value fits a schema: the program. -/
import Derived.Test.YtkkdjkmnemnpdaaGreatDoorMg3
import Derived.StillTailTactics
import Derived.Deep.RegionHeld3
import Derived.Test.YtkkdjkmnemnpdaaGreatDoorMg2
import Derived.OrdersHeld
import Derived.Deep.RegionHeld
import Derived.Maps.AppendAt
import Derived.Great.BuildSlice
import Derived.Deep.QuietTactic
namespace Go.Proofs.YtkkdjkmnemnpdaaGreatDoor
section
open Go.RowKit

theorem rcells : Tryz.prog.cellsOf 100 = 3 := by kernel_rfl

/-- A reader in block g: its bytes k, its place p, the number of what broke it. -/
structure Rr (w : World) (g : Nat) (A : Option Addr) (c : Nat) (F : Nat → Prop) (k : List UInt8) (p : Nat) (code : Int) : Prop where
  blk : w.heap[g]? = some (.cells #[.slice A k.length c, .int .i64 p, .int .i64 code] 100 (0, 0))
  rd : Rd w F A k.length (Bs k)
  cap : k.length ≤ c
  top : c ≤ maxLen
  small : k.length ≤ 140737488355328
  le : p ≤ k.length
  far : ¬ F g

section
variable {w w' : World} {g : Nat} {A : Option Addr} {c : Nat} {F : Nat → Prop} {k : List UInt8} {p : Nat} {code : Int}
theorem Rr.c0 (h : Rr w g A c F k p code) : w.cell? ⟨g, 0, none⟩ = some (.slice A k.length c) := by rw [cell_of_row w g 0 _ _ _ h.blk]; rfl
theorem Rr.c1 (h : Rr w g A c F k p code) : w.cell? ⟨g, 1, none⟩ = some (.int .i64 p) := by rw [cell_of_row w g 1 _ _ _ h.blk]; rfl
theorem Rr.c2 (h : Rr w g A c F k p code) : w.cell? ⟨g, 2, none⟩ = some (.int .i64 code) := by rw [cell_of_row w g 2 _ _ _ h.blk]; rfl
theorem Rr.f (h : Rr w g A c F k p code) (i : Nat) : w.frozen? ⟨g, i, none⟩ = false := frozen_of_row w g i _ _ h.blk
theorem Rr.lt (h : Rr w g A c F k p code) : g < w.heap.size := lt_of_cell h.c0
theorem Rr.only {S : Nat → Prop} (h : Rr w g A c F k p code) (ho : Only S w w') (hg : ¬ S g) (hF : ∀ j, F j → ¬ S j) : Rr w' g A c F k p code :=
  ⟨(ho.block g h.lt hg).trans h.blk, h.rd.only ho hF, h.cap, h.top, h.small, h.le, h.far⟩
theorem Rr.below (h : Rr w g A c F k p code) (ho : Below w.heap.size w w') : Rr w' g A c F k p code :=
  h.only (Only.of_below ho (fun _ => False)) (fun h => h) (fun _ _ h => h)
theorem Rr.drewN (h : Rr w g A c F k p code) (n : Nat) : Rr (w.drewN n) g A c F k p code := ⟨h.blk, h.rd, h.cap, h.top, h.small, h.le, h.far⟩
theorem Rr.set (h : Rr w g A c F k p code) (i : Nat) (u : Value) : Rd (w.setCell ⟨g, i, none⟩ u) F A k.length (Bs k) :=
  h.rd.only (S := fun j => j = g) ((Only.refl (fun j => j = g) w).setCell (p := ⟨g, i, none⟩) (.inl rfl) u) fun j hj e => by subst e; exact h.far hj
theorem Rr.move (h : Rr w g A c F k p code) {q : Nat} (hq : q ≤ k.length) : Rr (w.setCell ⟨g, 1, none⟩ (.int .i64 q)) g A c F k q code :=
  ⟨by rw [heap_setCell_same w g 1 _ _ _ h.blk]; rfl, h.set _ _, h.cap, h.top, h.small, hq, h.far⟩
theorem Rr.break_ (h : Rr w g A c F k p code) (d : Int) : Rr (w.setCell ⟨g, 2, none⟩ (.int .i64 d)) g A c F k p d :=
  ⟨by rw [heap_setCell_same w g 2 _ _ _ h.blk]; rfl, h.set _ _, h.cap, h.top, h.small, h.le, h.far⟩
/-- What is left of a reader's bytes, as a slice. -/
theorem Rr.left (h : Rr w g A c F k p code) : Rd w F (if c = p then A else A.map (·.add p)) (k.length - p) (Bs (k.drop p)) := by
  refine ⟨by simp [Bs], fun hn => ?_⟩
  obtain ⟨ad, e, hF, hb, hc⟩ := h.rd.2 (by omega)
  have hcp : ¬ c = p := by have := h.cap; omega
  refine ⟨ad.add p, by rw [if_neg hcp, e]; rfl, by rw [add_block]; exact hF, by rw [add_block]; exact hb, fun j u hu => ?_⟩
  rw [add_add]
  refine hc _ u ?_
  rw [← hu]
  simp [Bs]
end

/-- What a reader has become: its place and its number. -/
structure Readto (w w' : World) (g : Nat) (A : Option Addr) (c : Nat) (F : Nat → Prop) (k : List UInt8) (p : Nat) (code : Int) : Prop where
  rr : Rr w' g A c F k p code
  only : Only (fun j => j = g) w w'

/-- What reading a number comes to: the number, the place, what broke it. -/
def rnum (k : List UInt8) (p most : Nat) : Nat × Nat × Int :=
  match dec (k.drop p) with
  | none => (0, p, 2)
  | some (n, s) => if most < n then (0, p, 15) else (n, p + s, 0)

set_option maxHeartbeats 400000 in
theorem num1_none (A : Option Addr) (n c : Nat) (k : List UInt8) (F : Nat → Prop) (q : Addr) (w : World) (hr : Rd w F A n (Bs k)) (hn : n ≤ 140737488355328) (hd : dec k = none) :
    Calls Tryz.prog 76 #[.slice A n c, .pointer (some q)] w fun e w' => e = .returned (.tuple #[.int .u64 0, .int .i64 0, .int .i64 2]) ∧ w' = w := by
  have HD := Lib.hid hd
  clear hd
  go_enter Tryz.func76, Tryz.ntmps76
  go_wp2_with fail
  refine (split_any A n c k F _ hr hn).mono ?_
  rintro e w' ⟨rfl, rfl⟩
  rw [HD.out]
  go_wp2_with fail
  go_ret3
  exact ⟨rfl, rfl⟩

set_option maxHeartbeats 400000 in
theorem num1_over (A : Option Addr) (n c : Nat) (k : List UInt8) (F : Nat → Prop) (q : Addr) (most m s : Nat) (w : World) (hr : Rd w F A n (Bs k)) (hn : n ≤ 140737488355328) (hq : w.cell? q = some (.int .u64 most)) (hd : dec k = some (m, s)) (hm : most < m) :
    Calls Tryz.prog 76 #[.slice A n c, .pointer (some q)] w fun e w' => e = .returned (.tuple #[.int .u64 0, .int .i64 0, .int .i64 15]) ∧ w' = w := by
  have hs := (enc_dec hd).2.2.1
  have HD := Lib.hid hd
  clear hd
  have h1 : (((s : Nat) : Int) == 0) = false := beq_eq_false_iff_ne.2 (by omega)
  have h2 : (most : Int) < m := by omega
  go_enter Tryz.func76, Tryz.ntmps76
  go_wp2_with fail
  refine (split_any A n c k F _ hr hn).mono ?_
  rintro e w' ⟨rfl, rfl⟩
  rw [HD.out]
  go_wp2_with fail
  go_ret3
  exact ⟨rfl, rfl⟩

set_option maxHeartbeats 400000 in
theorem num1_ok (A : Option Addr) (n c : Nat) (k : List UInt8) (F : Nat → Prop) (q : Addr) (most m s : Nat) (w : World) (hr : Rd w F A n (Bs k)) (hn : n ≤ 140737488355328) (hq : w.cell? q = some (.int .u64 most)) (hd : dec k = some (m, s)) (hm : ¬ most < m) :
    Calls Tryz.prog 76 #[.slice A n c, .pointer (some q)] w fun e w' => e = .returned (.tuple #[.int .u64 m, .int .i64 s, .int .i64 0]) ∧ w' = w := by
  have hs := (enc_dec hd).2.2.1
  have HD := Lib.hid hd
  clear hd
  have h1 : (((s : Nat) : Int) == 0) = false := beq_eq_false_iff_ne.2 (by omega)
  have h2 : ¬ (most : Int) < m := by omega
  go_enter Tryz.func76, Tryz.ntmps76
  go_wp2_with fail
  refine (split_any A n c k F _ hr hn).mono ?_
  rintro e w' ⟨rfl, rfl⟩
  rw [HD.out]
  go_wp2_with fail
  go_ret3
  exact ⟨rfl, rfl⟩

set_option maxHeartbeats 400000 in
/-- (*Reader).Fail at a reader that is whole. -/
theorem fail_any (g : Nat) (A : Option Addr) (c : Nat) (F : Nat → Prop) (k : List UInt8) (p : Nat) (d : Int) (w : World) (h : Rr w g A c F k p 0) :
    Calls Tryz.prog 52 #[.pointer (some ⟨g, 0, none⟩), .int .i64 d] w fun e w' => e = .returned (.tuple #[]) ∧ w' = w.setCell ⟨g, 2, none⟩ (.int .i64 d) := by
  have h2 := h.c2
  have f2 := h.f 2
  clear h
  go_enter Tryz.func52, Tryz.ntmps52
  go_wp2_with fail
  go_end0
  exact ⟨rfl, rfl⟩

set_option maxHeartbeats 400000 in
/-- (*Reader).Fail at a reader that is broken. -/
theorem fail_not (g : Nat) (A : Option Addr) (c : Nat) (F : Nat → Prop) (k : List UInt8) (p : Nat) (code d : Int) (w : World) (h : Rr w g A c F k p code) (hc : code ≠ 0) :
    Calls Tryz.prog 52 #[.pointer (some ⟨g, 0, none⟩), .int .i64 d] w fun e w' => e = .returned (.tuple #[]) ∧ w' = w := by
  have h2 := h.c2
  have f2 := h.f 2
  have q2 : (code == 0) = false := beq_eq_false_iff_ne.2 hc
  clear h hc
  go_enter Tryz.func52, Tryz.ntmps52
  go_wp2_with fail
  go_end0
  exact ⟨rfl, rfl⟩

set_option maxHeartbeats 400000 in
theorem number_broken (g : Nat) (A : Option Addr) (c : Nat) (F : Nat → Prop) (k : List UInt8) (p : Nat) (code : Int) (f : Value) (w : World) (h : Rr w g A c F k p code) (hc : code ≠ 0) :
    Calls Tryz.prog 75 #[.pointer (some ⟨g, 0, none⟩), f] w fun e w' => e = .returned (.int .u64 0) ∧ w = w' := by
  have h2 := h.c2
  have q2 : (code != 0) = true := by rw [bne_iff_ne]; exact hc
  clear h hc
  go_enter Tryz.func75, Tryz.ntmps75
  go_wp2_with fail
  go_ret
  exact ⟨rfl, rfl⟩

/-- The two forms of the address of what is left. -/
theorem Rr.left_cases {w : World} {g : Nat} {A : Option Addr} {c : Nat} {F : Nat → Prop} {k : List UInt8} {p : Nat} {code : Int} (h : Rr w g A c F k p code) :
    (c = p ∧ Rd w F A (k.length - p) (Bs (k.drop p))) ∨ (¬ c = p ∧ Rd w F (Option.map (fun x => x.add p) A) (k.length - p) (Bs (k.drop p))) := by
  have hl := h.left
  by_cases hc : c = p
  · rw [if_pos hc] at hl; exact .inl ⟨hc, hl⟩
  · rw [if_neg hc] at hl; exact .inr ⟨hc, hl⟩

/-- The reader behind a field that took s bytes. -/
theorem Rr.took {w : World} {g : Nat} {A : Option Addr} {c : Nat} {F : Nat → Prop} {k : List UInt8} {p : Nat} (h : Rr w g A c F k p 0) (q : Nat) {s : Nat} (hs : p + s ≤ k.length) {y : Int} (hy : y = ((p + s : Nat) : Int)) :
    Readto w ((w.drewN q).setCell ⟨g, 1, none⟩ (.int .i64 y)) g A c F k (p + s) 0 := by
  subst hy
  exact ⟨(h.drewN q).move hs, ((Only.refl (fun j => j = g) w).drewN q).setCell (p := ⟨g, 1, none⟩) (.inl rfl) _⟩
theorem Rr.fell {w : World} {g : Nat} {A : Option Addr} {c : Nat} {F : Nat → Prop} {k : List UInt8} {p : Nat} (h : Rr w g A c F k p 0) (q : Nat) (d : Int) :
    Readto w ((w.drewN q).setCell ⟨g, 2, none⟩ (.int .i64 d)) g A c F k p d :=
  ⟨(h.drewN q).break_ d, ((Only.refl (fun j => j = g) w).drewN q).setCell (p := ⟨g, 2, none⟩) (.inl rfl) _⟩

theorem num1_cases (A : Option Addr) (n c : Nat) (k : List UInt8) (F : Nat → Prop) (q : Addr) (most : Nat) (w : World) (hr : Rd w F A n (Bs k)) (hn : n ≤ 140737488355328) (hq : w.cell? q = some (.int .u64 most)) :
    ∃ m s : Nat, ∃ d : Int, (∀ i, Calls Tryz.prog 76 #[.slice A n c, .pointer (some q)] (w.drewN i) fun e w' => e = .returned (.tuple #[.int .u64 m, .int .i64 s, .int .i64 d]) ∧ w' = w.drewN i) ∧ (d = 0 ∧ s ≤ k.length ∧ (∀ p l, k = l.drop p → rnum l p most = (m, p + s, 0)) ∨ ((d != 0) = true ∧ (∀ p l, k = l.drop p → rnum l p most = (0, p, d)))) := by
  cases hd : dec k with
  | none => exact ⟨0, 0, 2, fun i => num1_none A n c k F q _ hr hn hd, .inr ⟨rfl, fun p l e => by unfold rnum; rw [← e, hd]⟩⟩
  | some r =>
    obtain ⟨m, s⟩ := r
    by_cases hm : most < m
    · exact ⟨0, 0, 15, fun i => num1_over A n c k F q most m s _ hr hn hq hd hm, .inr ⟨rfl, fun p l e => by unfold rnum; rw [← e, hd]; simp [hm]⟩⟩
    · exact ⟨m, s, 0, fun i => num1_ok A n c k F q most m s _ hr hn hq hd hm, .inl ⟨rfl, (enc_dec hd).2.1, fun p l e => by unfold rnum; rw [← e, hd]; simp [hm]⟩⟩

set_option maxHeartbeats 800000 in
theorem number_read (g : Nat) (A : Option Addr) (c : Nat) (F : Nat → Prop) (k : List UInt8) (p : Nat) (q : Addr) (most : Nat) (w : World) (h : Rr w g A c F k p 0) (hq : w.cell? q = some (.int .u64 most)) :
    Calls Tryz.prog 75 #[.pointer (some ⟨g, 0, none⟩), .func (.func 76) #[] #[.pointer (some q)]] w fun e w' => e = .returned (.int .u64 (rnum k p most).1) ∧ Readto w w' g A c F k (rnum k p most).2.1 (rnum k p most).2.2 := by
  have h0 := h.c0
  have h1 := h.c1
  have h2 := h.c2
  have hcap := h.cap
  have htop := h.top
  have hle := h.le
  unfold maxLen at htop
  have hsm := h.small
  have hsl : k.length - p ≤ 140737488355328 := by omega
  have f1 := h.f 1
  have f2 := h.f 2
  have hkd : (k.drop p).length = k.length - p := List.length_drop
  rcases h.left_cases with ⟨hcp, hl⟩ | ⟨hcp, hl⟩
  · obtain ⟨m, s, d, hcall, hres⟩ := num1_cases _ _ 0 _ F q most w hl hsl hq
    have H := Lib.hid h
    have HKD := Lib.hid hkd
    clear h hkd hl
    rcases hres with ⟨rfl, hs, hres⟩ | ⟨hd, hres⟩
    · rw [HKD.out] at hs
      have HE := Lib.hid (hres p k rfl)
      have HC := Lib.hid hcall
      clear hres hcall hq
      have hps : p + s ≤ 140737488355328 := by omega
      go_enter Tryz.func75, Tryz.ntmps75
      go_wp2_with fail
      go_quiet ((go_at_call 76; exact Calls.quiet_of_same (HC.out _)))
      go_wp2_with fail
      go_ret
      rw [HE.out]
      exact ⟨rfl, H.out.took _ (by omega) (by omega)⟩
    · have HE := Lib.hid (hres p k rfl)
      have HC := Lib.hid hcall
      clear hres hcall hq
      go_enter Tryz.func75, Tryz.ntmps75
      go_wp2_with fail
      go_quiet ((go_at_call 76; exact Calls.quiet_of_same (HC.out _)))
      go_wp2_with fail
      refine (fail_any g A c F k p d _ (H.out.drewN _)).mono ?_
      rintro e w' ⟨rfl, rfl⟩
      go_wp2_with fail
      go_ret
      rw [HE.out]
      exact ⟨rfl, H.out.fell _ _⟩
  · obtain ⟨m, s, d, hcall, hres⟩ := num1_cases _ _ (c - p) _ F q most w hl hsl hq
    have H := Lib.hid h
    have HKD := Lib.hid hkd
    clear h hkd hl
    rcases hres with ⟨rfl, hs, hres⟩ | ⟨hd, hres⟩
    · rw [HKD.out] at hs
      have HE := Lib.hid (hres p k rfl)
      have HC := Lib.hid hcall
      clear hres hcall hq
      have hps : p + s ≤ 140737488355328 := by omega
      go_enter Tryz.func75, Tryz.ntmps75
      go_wp2_with fail
      go_quiet ((go_at_call 76; exact Calls.quiet_of_same (HC.out _)))
      go_wp2_with fail
      go_ret
      rw [HE.out]
      exact ⟨rfl, H.out.took _ (by omega) (by omega)⟩
    · have HE := Lib.hid (hres p k rfl)
      have HC := Lib.hid hcall
      clear hres hcall hq
      go_enter Tryz.func75, Tryz.ntmps75
      go_wp2_with fail
      go_quiet ((go_at_call 76; exact Calls.quiet_of_same (HC.out _)))
      go_wp2_with fail
      refine (fail_any g A c F k p d _ (H.out.drewN _)).mono ?_
      rintro e w' ⟨rfl, rfl⟩
      go_wp2_with fail
      go_ret
      rw [HE.out]
      exact ⟨rfl, H.out.fell _ _⟩
end

section
open Go.RowKit

/-- An error: the number code, in the place p alone. -/
def Flt (w : World) (v : Value) (p : Int) (code : Int) : Prop :=
  ∃ h, v = .iface 111 (.pointer (some ⟨h, 0, none⟩)) ∧ w.heap[h]? = some (.cells #[.int .i64 p, .iface 46 (.int .i64 code)] 113 (0, 0))

set_option maxHeartbeats 400000 in
theorem wrap_some (T : TypeId) (x : Value) (p : Int) (w : World) :
    Calls Tryz.prog 51 #[.iface T x, .int .i64 p] w fun e w' => e = .returned (.iface 111 (.pointer (some ⟨w.heap.size, 0, none⟩))) ∧ w' = w.alloc (.cells #[.int .i64 p, .iface T x] 113) := by
  go_enter Tryz.func51, Tryz.ntmps51
  go_wp2_with fail
  go_ret
  exact ⟨rfl, rfl⟩

set_option maxHeartbeats 400000 in
theorem err_none (g : Nat) (A : Option Addr) (c : Nat) (F : Nat → Prop) (k : List UInt8) (p : Nat) (w : World) (h : Rr w g A c F k p 0) :
    Calls Tryz.prog 42 #[.pointer (some ⟨g, 0, none⟩)] w fun e w' => e = .returned .nilIface ∧ w' = w := by
  have h2 := h.c2
  clear h
  go_enter Tryz.func42, Tryz.ntmps42
  go_wp2_with fail
  go_ret
  exact ⟨rfl, rfl⟩

set_option maxRecDepth 100000 in
set_option maxHeartbeats 400000 in
theorem err_some (g : Nat) (A : Option Addr) (c : Nat) (F : Nat → Prop) (k : List UInt8) (p : Nat) (code : Int) (w : World) (h : Rr w g A c F k p code) (hc : code ≠ 0) :
    Calls Tryz.prog 42 #[.pointer (some ⟨g, 0, none⟩)] w fun e w' => ∃ v, e = .returned v ∧ Flt w' v p code ∧ Below w.heap.size w w' := by
  have h1 := h.c1
  have h2 := h.c2
  have q2 : (code == 0) = false := beq_eq_false_iff_ne.2 hc
  have HC := Lib.hid hc
  clear h hc
  go_enter Tryz.func42, Tryz.ntmps42
  go_wp2_with fail
  go_still_tail 9, (by kernel_rfl)
  go_wp2_with fail
  refine (wrap_some _ _ _ _).mono ?_
  rintro e w' ⟨rfl, rfl⟩
  go_wp2_with fail
  go_ret
  exact ⟨_, rfl, ⟨w.heap.size, rfl, heap_alloc_new w _⟩, ((Below.refl _ _).alloc (Nat.le_refl _) _).drew⟩

set_option maxHeartbeats 400000 in
theorem end_ok (g : Nat) (A : Option Addr) (c : Nat) (F : Nat → Prop) (k : List UInt8) (w : World) (h : Rr w g A c F k k.length 0) :
    Calls Tryz.prog 40 #[.pointer (some ⟨g, 0, none⟩)] w fun e w' => e = .returned .nilIface ∧ ∃ q, w' = w.drewN q := by
  have h0 := h.c0
  have h1 := h.c1
  have H := Lib.hid h
  clear h
  go_enter Tryz.func40, Tryz.ntmps40
  go_wp2_with fail
  refine (err_none g A c F k k.length _ H.out).mono ?_
  rintro e w' ⟨rfl, rfl⟩
  go_wp2_with fail
  go_quiet (fail)
  go_wp2_with fail
  go_ret
  exact ⟨rfl, _, rfl⟩

set_option maxHeartbeats 400000 in
theorem end_left (g : Nat) (A : Option Addr) (c : Nat) (F : Nat → Prop) (k : List UInt8) (p : Nat) (w : World) (h : Rr w g A c F k p 0) (hp : p < k.length) :
    Calls Tryz.prog 40 #[.pointer (some ⟨g, 0, none⟩)] w fun e w' => ∃ v, e = .returned v ∧ Flt w' v p 2 ∧ Below w.heap.size w w' := by
  have h0 := h.c0
  have h1 := h.c1
  have H := Lib.hid h
  clear h
  have hp' : decide (p < k.length) = true := by simpa using hp
  go_enter Tryz.func40, Tryz.ntmps40
  go_wp2_with fail
  refine (err_none g A c F k p _ H.out).mono ?_
  rintro e w' ⟨rfl, rfl⟩
  go_wp2_with fail
  go_quiet (fail)
  go_wp2_with fail
  refine (wrap_some _ _ _ _).mono ?_
  rintro e w' ⟨rfl, rfl⟩
  go_wp2_with fail
  go_ret
  exact ⟨_, rfl, ⟨w'.heap.size, rfl, heap_alloc_new w' _⟩, below_drewN ((Below.refl _ _).alloc (Nat.le_refl _) _) _⟩

set_option maxHeartbeats 400000 in
theorem end_broken (g : Nat) (A : Option Addr) (c : Nat) (F : Nat → Prop) (k : List UInt8) (p : Nat) (code : Int) (w : World) (h : Rr w g A c F k p code) (hc : code ≠ 0) :
    Calls Tryz.prog 40 #[.pointer (some ⟨g, 0, none⟩)] w fun e w' => ∃ v, e = .returned v ∧ Flt w' v p code ∧ Below w.heap.size w w' := by
  have H := Lib.hid h
  clear h
  go_enter Tryz.func40, Tryz.ntmps40
  go_wp2_with fail
  refine (err_some g A c F k p code _ H.out hc).mono ?_
  rintro e w' ⟨v, rfl, ⟨b, rfl, hb⟩, hbel⟩
  go_wp2_with fail
  go_ret
  exact ⟨_, rfl, ⟨b, rfl, hb⟩, hbel⟩

set_option maxHeartbeats 400000 in
theorem new_any (A : Option Addr) (n c : Nat) (k : List UInt8) (F : Nat → Prop) (w : World) (hr : Rd w F A n (Bs k)) (hn : n ≤ 140737488355328) :
    Calls Tryz.prog 39 #[.slice A n c] w fun e w' => ∃ g A' c', e = .returned (.pointer (some ⟨g, 0, none⟩)) ∧ Rr w' g A' c' (fun j => w.heap.size ≤ j ∧ j < g) k 0 0 ∧ w.heap.size ≤ g ∧ Below w.heap.size w w' := by
  have HR := Lib.hid hr
  have HK := Lib.hid hr.len
  clear hr
  go_enter Tryz.func39, Tryz.ntmps39
  go_wp2_with fail
  refine (clone_any A n c k F _ HR.out hn).mono ?_
  rintro e w' ⟨v, rfl, hown, hbel⟩
  obtain ⟨A', c', rfl⟩ := own_slice hown
  have HO := Lib.hid hown
  have HB := Lib.hid hbel
  clear hown hbel
  go_wp2_with fail
  go_ret
  refine ⟨w'.heap.size, A', c', rfl, ⟨heap_alloc_new w' _, ?_, ?_, ?_, by rw [HK.out]; exact hn, Nat.zero_le _, by omega⟩, HB.out.size, HB.out.alloc HB.out.size _⟩
  · refine (Rd.of_own HO.out).belowAll ((Below.refl _ _).alloc (Nat.le_refl _) _) |>.mono fun j _ hj => ?_
    have := HO.out.lt j hj
    exact this
  · have := own_cap HO.out; rwa [Bs_length] at this
  · exact own_cap_le HO.out

set_option maxHeartbeats 400000 in
theorem rnumber_ok (g : Nat) (A : Option Addr) (c : Nat) (F : Nat → Prop) (k : List UInt8) (p : Nat) (most : Nat) (w : World) (h : Rr w g A c F k p 0) :
    Calls Tryz.prog 68 #[.pointer (some ⟨g, 0, none⟩), .int .u64 most] w fun e w' => e = .returned (.int .u64 (rnum k p most).1) ∧ Readto w w' g A c F k (rnum k p most).2.1 (rnum k p most).2.2 := by
  have H := Lib.hid h
  clear h
  go_enter Tryz.func68, Tryz.ntmps68
  go_wp2_with fail
  refine (number_read g A c F k p _ most _ (H.out.below ((Below.refl _ _).alloc (Nat.le_refl _) _)) (by simp)).mono ?_
  rintro e w' ⟨rfl, hr⟩
  have HR := Lib.hid hr
  clear hr
  go_wp2_with fail
  go_ret
  exact ⟨rfl, HR.out.rr, (Only.of_below ((Below.refl _ _).alloc (Nat.le_refl _) _) _).trans HR.out.only fun _ _ h => h⟩

set_option maxHeartbeats 400000 in
theorem rnumber_broken (g : Nat) (A : Option Addr) (c : Nat) (F : Nat → Prop) (k : List UInt8) (p : Nat) (code : Int) (most : Nat) (w : World) (h : Rr w g A c F k p code) (hc : code ≠ 0) :
    Calls Tryz.prog 68 #[.pointer (some ⟨g, 0, none⟩), .int .u64 most] w fun e w' => e = .returned (.int .u64 0) ∧ Below w.heap.size w w' := by
  have H := Lib.hid h
  clear h
  go_enter Tryz.func68, Tryz.ntmps68
  go_wp2_with fail
  refine (number_broken g A c F k p code _ _ (H.out.below ((Below.refl _ _).alloc (Nat.le_refl _) _)) hc).mono ?_
  rintro e w' ⟨rfl, rfl⟩
  go_wp2_with fail
  go_ret
  exact ⟨rfl, (Below.refl _ _).alloc (Nat.le_refl _) _⟩

set_option maxHeartbeats 400000 in
theorem out_any (a : Addr) (v : Value) (l : List UInt8) (w : World) (hw : Wr w a v l) (hlen : l.length ≤ 140737488355328) :
    Calls Tryz.prog 19 #[.pointer (some a)] w fun e w' => ∃ v', e = .returned v' ∧ w'.ownsRow w.heap.size 5 1 v' l.length (Bs l) ∧ Below w.heap.size w w' := by
  obtain ⟨A, c, rfl⟩ := own_slice hw.row
  have hc := hw.cell
  have HR := Lib.hid (Rd.of_own hw.row)
  clear hw
  go_enter Tryz.func19, Tryz.ntmps19
  go_wp2_with fail
  refine (clone_any A l.length c l _ _ HR.out hlen).mono ?_
  rintro e w' ⟨v', rfl, hown, hbel⟩
  have HO := Lib.hid hown
  have HB := Lib.hid hbel
  clear hown hbel
  go_wp2_with fail
  go_ret
  exact ⟨_, rfl, HO.out, HB.out⟩
end

section
set_option maxRecDepth 100000
open Go.RowKit

/-- What reading comes to: a byte, a bool, bytes after their number, raw bytes: each with the place behind it, and what breaks the reader. -/
def rbyte (k : List UInt8) (p : Nat) : UInt8 × Nat × Int := match k[p]? with | none => (0, p, 2) | some c => (c, p + 1, 0)
def rbool (k : List UInt8) (p : Nat) : Bool × Nat × Int := match k[p]? with | none => (false, p, 2) | some c => if 1 < c.toNat then (false, p, 2) else (c.toNat == 1, p + 1, 0)
def rbytes (k : List UInt8) (p : Nat) (most : Int) : List UInt8 × Nat × Int :=
  match dec (k.drop p) with
  | none => ([], p, 2)
  | some (n, s) => if (max most 0).toNat < n then ([], p, 3) else if (k.drop p).length - s < n then ([], p, 2) else (((k.drop p).drop s).take n, p + (s + n), 0)
def rraw (k : List UInt8) (p : Nat) (n : Int) : List UInt8 × Nat × Int :=
  if ((k.drop p).length : Int) < n then ([], p, 2) else ((k.drop p).take n.toNat, p + n.toNat, 0)

theorem drop_zero_at {k : List UInt8} {p : Nat} {x : Option UInt8} (h : (k.drop p)[0]? = x) : k[p]? = x := by rw [List.getElem?_drop] at h; simpa using h

set_option maxHeartbeats 400000 in
theorem byte1_none (A : Option Addr) (c : Nat) (w : World) :
    Calls Tryz.prog 61 #[.slice A 0 c] w fun e w' => e = .returned (.tuple #[.int .u8 0, .int .i64 0, .int .i64 2]) ∧ w' = w := by
  go_enter Tryz.func61, Tryz.ntmps61
  go_wp2_with fail
  go_ret3
  exact ⟨rfl, rfl⟩

set_option maxHeartbeats 400000 in
theorem byte1_some (A : Option Addr) (n c : Nat) (k : List UInt8) (F : Nat → Prop) (x : UInt8) (w : World) (hr : Rd w F A n (Bs k)) (hx : k[0]? = some x) :
    Calls Tryz.prog 61 #[.slice A n c] w fun e w' => e = .returned (.tuple #[.int .u8 x.toNat, .int .i64 1, .int .i64 0]) ∧ w' = w := by
  have h0 := (List.getElem?_eq_some_iff.1 hx).1
  have hn : 0 < n := by have := hr.len; omega
  obtain ⟨ad, y, rfl, _, hy, hc⟩ := hr.byte hn
  obtain rfl : y = x := by rw [hx] at hy; exact (Option.some.inj hy).symm
  have q0 : (((n : Nat) : Int) == 0) = false := beq_eq_false_iff_ne.2 (by omega)
  have hc' : w.cell? ad = some (.int .u8 y.toNat) := hc
  clear hr hx hy h0 hc
  go_enter Tryz.func61, Tryz.ntmps61
  go_wp2_with fail
  go_ret3
  exact ⟨rfl, rfl⟩

theorem byte1_cases (A : Option Addr) (n c : Nat) (k : List UInt8) (F : Nat → Prop) (w : World) (hr : Rd w F A n (Bs k)) :
    ∃ (m : UInt8) (s : Nat) (d : Int), (∀ i, Calls Tryz.prog 61 #[.slice A n c] (w.drewN i) fun e w' => e = .returned (.tuple #[.int .u8 m.toNat, .int .i64 s, .int .i64 d]) ∧ w' = w.drewN i) ∧ (d = 0 ∧ s ≤ k.length ∧ (∀ p l, k = l.drop p → rbyte l p = (m, p + s, 0)) ∨ ((d != 0) = true ∧ (∀ p l, k = l.drop p → rbyte l p = (0, p, d)))) := by
  obtain rfl : n = k.length := hr.len.symm
  cases hx : k[0]? with
  | none =>
    have hk : k.length = 0 := by simpa using hx
    refine ⟨0, 0, 2, fun i => by rw [hk]; exact byte1_none A c _, .inr ⟨rfl, fun p l e => ?_⟩⟩
    rw [e] at hx
    unfold rbyte; rw [drop_zero_at hx]
  | some x =>
    have h0 := (List.getElem?_eq_some_iff.1 hx).1
    refine ⟨x, 1, 0, fun i => byte1_some A _ c k F x _ hr hx, .inl ⟨rfl, by omega, fun p l e => ?_⟩⟩
    rw [e] at hx
    unfold rbyte; rw [drop_zero_at hx]

set_option maxHeartbeats 400000 in
theorem fbyte_broken (g : Nat) (A : Option Addr) (c : Nat) (F : Nat → Prop) (k : List UInt8) (p : Nat) (code : Int) (f : Value) (w : World) (h : Rr w g A c F k p code) (hc : code ≠ 0) :
    Calls Tryz.prog 60 #[.pointer (some ⟨g, 0, none⟩), f] w fun e w' => e = .returned (.int .u8 0) ∧ w = w' := by
  have h2 := h.c2
  have q2 : (code != 0) = true := by rw [bne_iff_ne]; exact hc
  clear h hc
  go_enter Tryz.func60, Tryz.ntmps60
  go_wp2_with fail
  go_ret
  exact ⟨rfl, rfl⟩

set_option maxHeartbeats 800000 in
theorem fbyte_read (g : Nat) (A : Option Addr) (c : Nat) (F : Nat → Prop) (k : List UInt8) (p : Nat) (w : World) (h : Rr w g A c F k p 0) :
    Calls Tryz.prog 60 #[.pointer (some ⟨g, 0, none⟩), .func (.func 61) #[] #[]] w fun e w' => e = .returned (.int .u8 (rbyte k p).1.toNat) ∧ Readto w w' g A c F k (rbyte k p).2.1 (rbyte k p).2.2 := by
  have h0 := h.c0
  have h1 := h.c1
  have h2 := h.c2
  have hcap := h.cap
  have htop := h.top
  have hle := h.le
  unfold maxLen at htop
  have hsm := h.small
  have hsl : k.length - p ≤ 140737488355328 := by omega
  have f1 := h.f 1
  have f2 := h.f 2
  have hkd : (k.drop p).length = k.length - p := List.length_drop
  rcases h.left_cases with ⟨hcp, hl⟩ | ⟨hcp, hl⟩
  · obtain ⟨m, s, d, hcall, hres⟩ := byte1_cases _ _ 0 _ F w hl
    have H := Lib.hid h
    have HKD := Lib.hid hkd
    clear h hkd hl
    rcases hres with ⟨rfl, hs, hres⟩ | ⟨hd, hres⟩
    · rw [HKD.out] at hs
      have HE := Lib.hid (hres p k rfl)
      have HC := Lib.hid hcall
      clear hres hcall
      have hps : p + s ≤ 140737488355328 := by omega
      go_enter Tryz.func60, Tryz.ntmps60
      go_wp2_with fail
      go_quiet ((go_at_call 61; exact Calls.quiet_of_same (HC.out _)))
      go_wp2_with fail
      go_ret
      rw [HE.out]
      exact ⟨rfl, H.out.took _ (by omega) (by omega)⟩
    · have HE := Lib.hid (hres p k rfl)
      have HC := Lib.hid hcall
      clear hres hcall
      go_enter Tryz.func60, Tryz.ntmps60
      go_wp2_with fail
      go_quiet ((go_at_call 61; exact Calls.quiet_of_same (HC.out _)))
      go_wp2_with fail
      refine (fail_any g A c F k p d _ (H.out.drewN _)).mono ?_
      rintro e w' ⟨rfl, rfl⟩
      go_wp2_with fail
      go_ret
      rw [HE.out]
      exact ⟨rfl, H.out.fell _ _⟩
  · obtain ⟨m, s, d, hcall, hres⟩ := byte1_cases _ _ (c - p) _ F w hl
    have H := Lib.hid h
    have HKD := Lib.hid hkd
    clear h hkd hl
    rcases hres with ⟨rfl, hs, hres⟩ | ⟨hd, hres⟩
    · rw [HKD.out] at hs
      have HE := Lib.hid (hres p k rfl)
      have HC := Lib.hid hcall
      clear hres hcall
      have hps : p + s ≤ 140737488355328 := by omega
      go_enter Tryz.func60, Tryz.ntmps60
      go_wp2_with fail
      go_quiet ((go_at_call 61; exact Calls.quiet_of_same (HC.out _)))
      go_wp2_with fail
      go_ret
      rw [HE.out]
      exact ⟨rfl, H.out.took _ (by omega) (by omega)⟩
    · have HE := Lib.hid (hres p k rfl)
      have HC := Lib.hid hcall
      clear hres hcall
      go_enter Tryz.func60, Tryz.ntmps60
      go_wp2_with fail
      go_quiet ((go_at_call 61; exact Calls.quiet_of_same (HC.out _)))
      go_wp2_with fail
      refine (fail_any g A c F k p d _ (H.out.drewN _)).mono ?_
      rintro e w' ⟨rfl, rfl⟩
      go_wp2_with fail
      go_ret
      rw [HE.out]
      exact ⟨rfl, H.out.fell _ _⟩

set_option maxHeartbeats 400000 in
theorem rbyte_ok (g : Nat) (A : Option Addr) (c : Nat) (F : Nat → Prop) (k : List UInt8) (p : Nat) (w : World) (h : Rr w g A c F k p 0) :
    Calls Tryz.prog 53 #[.pointer (some ⟨g, 0, none⟩)] w fun e w' => e = .returned (.int .u8 (rbyte k p).1.toNat) ∧ Readto w w' g A c F k (rbyte k p).2.1 (rbyte k p).2.2 := by
  have H := Lib.hid h
  clear h
  go_enter Tryz.func53, Tryz.ntmps53
  go_wp2_with fail
  refine (fbyte_read g A c F k p _ H.out).mono ?_
  rintro e w' ⟨rfl, hr⟩
  have HR := Lib.hid hr
  clear hr
  go_wp2_with fail
  go_ret
  exact ⟨rfl, HR.out⟩

set_option maxHeartbeats 400000 in
theorem rbyte_broken (g : Nat) (A : Option Addr) (c : Nat) (F : Nat → Prop) (k : List UInt8) (p : Nat) (code : Int) (w : World) (h : Rr w g A c F k p code) (hc : code ≠ 0) :
    Calls Tryz.prog 53 #[.pointer (some ⟨g, 0, none⟩)] w fun e w' => e = .returned (.int .u8 0) ∧ Below w.heap.size w w' := by
  have H := Lib.hid h
  clear h
  go_enter Tryz.func53, Tryz.ntmps53
  go_wp2_with fail
  refine (fbyte_broken g A c F k p code _ _ H.out hc).mono ?_
  rintro e w' ⟨rfl, rfl⟩
  go_wp2_with fail
  go_ret
  exact ⟨rfl, Below.refl _ _⟩
end

section
set_option maxRecDepth 100000
open Go.RowKit

/-- A cut of a slice. -/
theorem Rd.cut {w : World} {F : Nat → Prop} {A : Option Addr} {n c lo hi : Nat} {k : List UInt8} (h : Rd w F A n (Bs k)) (h1 : lo ≤ hi) (h2 : hi ≤ n) (h3 : n ≤ c) :
    (c = lo ∧ Rd w F A (hi - lo) (Bs ((k.drop lo).take (hi - lo)))) ∨ (¬ c = lo ∧ Rd w F (Option.map (fun x => x.add lo) A) (hi - lo) (Bs ((k.drop lo).take (hi - lo)))) := by
  have hk := h.len
  by_cases hc : c = lo
  · refine .inl ⟨hc, ?_⟩
    have e : hi - lo = 0 := by omega
    rw [e]
    exact Rd.nil _ _ _
  · refine .inr ⟨hc, by simp [Bs]; omega, fun hn => ?_⟩
    obtain ⟨ad, rfl, hF, hb, hcell⟩ := h.2 (by omega)
    refine ⟨ad.add lo, rfl, by rw [add_block]; exact hF, by rw [add_block]; exact hb, fun j u hu => ?_⟩
    rw [add_add]
    refine hcell _ u ?_
    rw [← hu, Bs_get, Bs_get, List.getElem?_take, if_pos, List.getElem?_drop]
    have := (List.getElem?_eq_some_iff.1 hu).1
    simp [Bs] at this
    omega

set_option maxHeartbeats 400000 in
theorem bytes1_none (A : Option Addr) (n c : Nat) (k : List UInt8) (F : Nat → Prop) (q : Addr) (w : World) (hr : Rd w F A n (Bs k)) (hn : n ≤ 140737488355328) (hd : dec k = none) :
    Calls Tryz.prog 83 #[.slice A n c, .pointer (some q)] w fun e w' => e = .returned (.tuple #[.slice none 0 0, .int .i64 0, .int .i64 2]) ∧ w' = w := by
  have HD := Lib.hid hd
  clear hd
  go_enter Tryz.func83, Tryz.ntmps83
  go_wp2_with fail
  refine (split_any A n c k F _ hr hn).mono ?_
  rintro e w' ⟨rfl, rfl⟩
  rw [HD.out]
  go_wp2_with fail
  go_ret3
  exact ⟨rfl, rfl⟩

set_option maxHeartbeats 400000 in
theorem bytes1_over (A : Option Addr) (n c : Nat) (k : List UInt8) (F : Nat → Prop) (q : Addr) (most : Int) (m s : Nat) (w : World) (hr : Rd w F A n (Bs k)) (hn : n ≤ 140737488355328) (hq : w.cell? q = some (.int .i64 most)) (hm2 : most ≤ 9223372036854775807) (hd : dec k = some (m, s)) (hm : (max most 0).toNat < m) :
    Calls Tryz.prog 83 #[.slice A n c, .pointer (some q)] w fun e w' => e = .returned (.tuple #[.slice none 0 0, .int .i64 0, .int .i64 3]) ∧ w' = w := by
  have hs := (enc_dec hd).2.2.1
  have hsl := (enc_dec hd).2.1
  have hkl := hr.len
  have hml := (enc_dec hd).1
  have HD := Lib.hid hd
  clear hd
  have h1 : (((s : Nat) : Int) == 0) = false := beq_eq_false_iff_ne.2 (by omega)
  have HKL := Lib.hid hkl
  clear hkl
  by_cases h0 : 0 ≤ most
  · have h2 : most < m := by omega
    go_enter Tryz.func83, Tryz.ntmps83
    go_wp2_with fail
    refine (split_any A n c k F _ hr hn).mono ?_
    rintro e w' ⟨rfl, rfl⟩
    rw [HD.out]
    go_wp2_with fail
    go_ret3
    exact ⟨rfl, rfl⟩
  · have h2 : (0 : Int) < m := by omega
    go_enter Tryz.func83, Tryz.ntmps83
    go_wp2_with fail
    refine (split_any A n c k F _ hr hn).mono ?_
    rintro e w' ⟨rfl, rfl⟩
    rw [HD.out]
    go_wp2_with fail
    go_ret3
    exact ⟨rfl, rfl⟩

set_option maxHeartbeats 400000 in
theorem bytes1_short (A : Option Addr) (n c : Nat) (k : List UInt8) (F : Nat → Prop) (q : Addr) (most : Int) (m s : Nat) (w : World) (hr : Rd w F A n (Bs k)) (hn : n ≤ 140737488355328) (hq : w.cell? q = some (.int .i64 most)) (hm2 : most ≤ 9223372036854775807) (hd : dec k = some (m, s)) (hm : ¬ (max most 0).toNat < m) (hl : k.length - s < m) :
    Calls Tryz.prog 83 #[.slice A n c, .pointer (some q)] w fun e w' => e = .returned (.tuple #[.slice none 0 0, .int .i64 0, .int .i64 2]) ∧ w' = w := by
  have hs := (enc_dec hd).2.2.1
  have hsl := (enc_dec hd).2.1
  have hkl := hr.len
  have hml := (enc_dec hd).1
  have HD := Lib.hid hd
  clear hd
  have h1 : (((s : Nat) : Int) == 0) = false := beq_eq_false_iff_ne.2 (by omega)
  have h3 : (n : Int) - s < m := by omega
  have hsn : s ≤ n := by omega
  have HKL := Lib.hid hkl
  clear hkl
  by_cases h0 : 0 ≤ most
  · have h2 : ¬ most < m := by omega
    go_enter Tryz.func83, Tryz.ntmps83
    go_wp2_with fail
    refine (split_any A n c k F _ hr hn).mono ?_
    rintro e w' ⟨rfl, rfl⟩
    rw [HD.out]
    go_wp2_with fail
    go_ret3
    exact ⟨rfl, rfl⟩
  · omega

/-- What reading bytes leaves: a row of its own, and how many were taken. -/
def Got (w : World) (x : List UInt8) (t : Nat) (e : Ending) (w' : World) : Prop :=
  ∃ A c, e = .returned (.tuple #[.slice A x.length c, .int .i64 t, .int .i64 0]) ∧ w'.ownsRow w.heap.size 5 1 (.slice A x.length c) x.length (Bs x) ∧ Below w.heap.size w w'
theorem got {w w' : World} {x : List UInt8} {t : Nat} {A : Option Addr} {n c : Nat} {y : Int} (hn : n = x.length) (hy : y = t) (ho : w'.ownsRow w.heap.size 5 1 (.slice A n c) x.length (Bs x)) (hb : Below w.heap.size w w') :
    Got w x t (.returned (.tuple #[.slice A n c, .int .i64 y, .int .i64 0])) w' := by
  subst hn hy
  exact ⟨A, c, rfl, ho, hb⟩

set_option maxHeartbeats 800000 in
theorem bytes1_ok (A : Option Addr) (n c : Nat) (k : List UInt8) (F : Nat → Prop) (q : Addr) (most : Int) (m s : Nat) (w : World) (hr : Rd w F A n (Bs k)) (hn : n ≤ 140737488355328) (hnc : n ≤ c) (hct : c ≤ 9223372036854775807) (hq : w.cell? q = some (.int .i64 most)) (hm2 : most ≤ 9223372036854775807) (hd : dec k = some (m, s)) (hm : ¬ (max most 0).toNat < m) (hl : ¬ k.length - s < m) :
    Calls Tryz.prog 83 #[.slice A n c, .pointer (some q)] w (Got w ((k.drop s).take m) (s + m)) := by
  have hs := (enc_dec hd).2.2.1
  have hsl := (enc_dec hd).2.1
  have hkl := hr.len
  have hml := (enc_dec hd).1
  have HD := Lib.hid hd
  clear hd
  have h1 : (((s : Nat) : Int) == 0) = false := beq_eq_false_iff_ne.2 (by omega)
  have h3 : ¬ (n : Int) - s < m := by omega
  have hsn : s ≤ n := by omega
  have hsm : s + m ≤ n := by omega
  have hxl : ((k.drop s).take m).length = m := by simp; omega
  have HXL := Lib.hid hxl
  have HKL := Lib.hid hkl
  clear hkl hxl
  have hcut := hr.cut (lo := s) (hi := s + m) (by omega) hsm hnc
  rw [Nat.add_sub_cancel_left] at hcut
  have HR := Lib.hid hr
  clear hr
  generalize (k.drop s).take m = x at *
  by_cases h0 : 0 ≤ most
  · have h2 : ¬ most < m := by omega
    rcases hcut with ⟨hcs, hrc⟩ | ⟨hcs, hrc⟩
    · subst hcs
      have HRC := Lib.hid hrc
      clear hrc
      go_enter Tryz.func83, Tryz.ntmps83
      go_wp2_with fail
      refine (split_any A n _ k F _ HR.out hn).mono ?_
      rintro e w' ⟨rfl, rfl⟩
      rw [HD.out]
      go_wp2_with fail
      refine (clone_any _ m _ x F _ HRC.out (by omega)).mono ?_
      rintro e w1 ⟨v, rfl, hown, hb⟩
      obtain ⟨A1, c1, rfl⟩ := own_slice hown
      have HO := Lib.hid hown
      have HB := Lib.hid hb
      clear hown hb
      go_wp2_with fail
      go_ret3
      exact got rfl (by push_cast; rfl) HO.out HB.out
    · have HRC := Lib.hid hrc
      clear hrc
      go_enter Tryz.func83, Tryz.ntmps83
      go_wp2_with fail
      refine (split_any A n c k F _ HR.out hn).mono ?_
      rintro e w' ⟨rfl, rfl⟩
      rw [HD.out]
      go_wp2_with fail
      refine (clone_any _ m _ x F _ HRC.out (by omega)).mono ?_
      rintro e w1 ⟨v, rfl, hown, hb⟩
      obtain ⟨A1, c1, rfl⟩ := own_slice hown
      have HO := Lib.hid hown
      have HB := Lib.hid hb
      clear hown hb
      go_wp2_with fail
      go_ret3
      exact got rfl (by push_cast; rfl) HO.out HB.out
  · have h2 : ¬ (0 : Int) < m := by omega
    rcases hcut with ⟨hcs, hrc⟩ | ⟨hcs, hrc⟩
    · subst hcs
      have HRC := Lib.hid hrc
      clear hrc
      go_enter Tryz.func83, Tryz.ntmps83
      go_wp2_with fail
      refine (split_any A n _ k F _ HR.out hn).mono ?_
      rintro e w' ⟨rfl, rfl⟩
      rw [HD.out]
      go_wp2_with fail
      refine (clone_any _ m _ x F _ HRC.out (by omega)).mono ?_
      rintro e w1 ⟨v, rfl, hown, hb⟩
      obtain ⟨A1, c1, rfl⟩ := own_slice hown
      have HO := Lib.hid hown
      have HB := Lib.hid hb
      clear hown hb
      go_wp2_with fail
      go_ret3
      exact got rfl (by push_cast; rfl) HO.out HB.out
    · have HRC := Lib.hid hrc
      clear hrc
      go_enter Tryz.func83, Tryz.ntmps83
      go_wp2_with fail
      refine (split_any A n c k F _ HR.out hn).mono ?_
      rintro e w' ⟨rfl, rfl⟩
      rw [HD.out]
      go_wp2_with fail
      refine (clone_any _ m _ x F _ HRC.out (by omega)).mono ?_
      rintro e w1 ⟨v, rfl, hown, hb⟩
      obtain ⟨A1, c1, rfl⟩ := own_slice hown
      have HO := Lib.hid hown
      have HB := Lib.hid hb
      clear hown hb
      go_wp2_with fail
      go_ret3
      exact got rfl (by push_cast; rfl) HO.out HB.out
end

section
set_option maxRecDepth 100000
open Go.RowKit

set_option maxHeartbeats 800000 in
theorem fS_err (g : Nat) (A : Option Addr) (c : Nat) (F : Nat → Prop) (k : List UInt8) (p : Nat) (q : Addr) (d : Int) (w : World) (h : Rr w g A c F k p 0) (hd : (d != 0) = true)
    (hcall : ∀ X C i, (Rd w F X (k.length - p) (Bs (k.drop p))) → Calls Tryz.prog 83 #[.slice X (k.length - p) C, .pointer (some q)] (w.drewN i) fun e w' => e = .returned (.tuple #[.slice none 0 0, .int .i64 0, .int .i64 d]) ∧ w' = w.drewN i) :
    Calls Tryz.prog 82 #[.pointer (some ⟨g, 0, none⟩), .func (.func 83) #[] #[.pointer (some q)]] w fun e w' => e = .returned (.slice none 0 0) ∧ Readto w w' g A c F k p d := by
  have h0 := h.c0
  have h1 := h.c1
  have h2 := h.c2
  have hcap := h.cap
  have htop := h.top
  have hle := h.le
  unfold maxLen at htop
  have f2 := h.f 2
  have HCALL := Lib.hid hcall
  clear hcall
  rcases h.left_cases with ⟨hcp, hl⟩ | ⟨hcp, hl⟩
  · have H := Lib.hid h
    have HC := Lib.hid (fun i => HCALL.out A 0 i hl)
    clear h hl
    go_enter Tryz.func82, Tryz.ntmps82
    go_wp2_with fail
    go_quiet ((go_at_call 83; exact Calls.quiet_of_same (HC.out _)))
    go_wp2_with fail
    refine (fail_any g A c F k p d _ (H.out.drewN _)).mono ?_
    rintro e w' ⟨rfl, rfl⟩
    go_wp2_with fail
    go_ret
    exact ⟨rfl, H.out.fell _ _⟩
  · have H := Lib.hid h
    have HC := Lib.hid (fun i => HCALL.out (Option.map (fun x => x.add p) A) (c - p) i hl)
    clear h hl
    go_enter Tryz.func82, Tryz.ntmps82
    go_wp2_with fail
    go_quiet ((go_at_call 83; exact Calls.quiet_of_same (HC.out _)))
    go_wp2_with fail
    refine (fail_any g A c F k p d _ (H.out.drewN _)).mono ?_
    rintro e w' ⟨rfl, rfl⟩
    go_wp2_with fail
    go_ret
    exact ⟨rfl, H.out.fell _ _⟩

/-- What a reader leaves behind bytes that it read: they lie in a row of their own. -/
def Took (w : World) (g : Nat) (A : Option Addr) (c : Nat) (F : Nat → Prop) (k x : List UInt8) (p : Nat) (e : Ending) (w' : World) : Prop :=
  ∃ A1 c1, e = .returned (.slice A1 x.length c1) ∧ w'.ownsRow w.heap.size 5 1 (.slice A1 x.length c1) x.length (Bs x) ∧ Readto w w' g A c F k p 0
theorem took_row {w w1 : World} {g : Nat} {A : Option Addr} {c : Nat} {F : Nat → Prop} {k x : List UInt8} {p t : Nat} {A1 : Option Addr} {c1 : Nat} {y : Int} (h : Rr w g A c F k p 0)
    (ho : w1.ownsRow w.heap.size 5 1 (.slice A1 x.length c1) x.length (Bs x)) (hb : Below w.heap.size w.drew w1) (ht : p + t ≤ k.length) (hy : y = ((p + t : Nat) : Int)) :
    Took w g A c F k x (p + t) (.returned (.slice A1 x.length c1)) (w1.setCell ⟨g, 1, none⟩ (.int .i64 y)) := by
  subst hy
  have hb' : Below w.heap.size w w1 := ⟨hb.os, hb.tape, hb.output, hb.size, hb.block⟩
  have h1 := h.below hb'
  have hlt := h.lt
  refine ⟨A1, c1, rfl, ?_, h1.move ht, ((Only.of_below hb' (fun j => j = g))).setCell (p := ⟨g, 1, none⟩) (.inl rfl) _⟩
  refine own_only ho ((Only.refl (fun j => j = g) w1).setCell (p := ⟨g, 1, none⟩) (.inl rfl) _) fun j hj e => ?_
  have := (ho.lt j hj).1
  omega

set_option maxHeartbeats 800000 in
theorem fS_ok (g : Nat) (A : Option Addr) (c : Nat) (F : Nat → Prop) (k : List UInt8) (p : Nat) (q : Addr) (x : List UInt8) (t : Nat) (w : World) (h : Rr w g A c F k p 0) (ht : p + t ≤ k.length)
    (hcall : ∀ X C, (Rd w F X (k.length - p) (Bs (k.drop p))) → k.length - p ≤ C → C ≤ 9223372036854775807 → Calls Tryz.prog 83 #[.slice X (k.length - p) C, .pointer (some q)] w.drew (Got w.drew x t)) :
    Calls Tryz.prog 82 #[.pointer (some ⟨g, 0, none⟩), .func (.func 83) #[] #[.pointer (some q)]] w (Took w g A c F k x (p + t)) := by
  have h0 := h.c0
  have h1 := h.c1
  have h2 := h.c2
  have hcap := h.cap
  have htop := h.top
  have hle := h.le
  unfold maxLen at htop
  have hsm := h.small
  have hlt := h.lt
  have HCALL := Lib.hid hcall
  clear hcall
  rcases h.left_cases with ⟨hcp, hl⟩ | ⟨hcp, hl⟩
  · have H := Lib.hid h
    have HC := Lib.hid (HCALL.out A 0 hl (by omega) (by omega))
    clear h hl
    go_enter Tryz.func82, Tryz.ntmps82
    go_wp2_with fail
    go_region_held3 (fun w' => w'.cell? ⟨g, 0, none⟩ = some (.slice A k.length c) ∧ w'.cell? ⟨g, 1, none⟩ = some (.int .i64 p)) (go_keep)
      (first | (go_at_call 83; refine (HC.out).mono ?_; rintro e w1 ⟨A1, c1, rfl, hown, hb⟩; have hh0 := (hb.cell (p := ⟨g, 0, none⟩) hlt).trans h0; have hh1 := (hb.cell (p := ⟨g, 1, none⟩) hlt).trans h1; have hf1 := (hb.frozen (p := ⟨g, 1, none⟩) hlt).trans (H.out.f 1); have HO := Lib.hid hown; have HB := Lib.hid hb; clear hown hb))
    go_wp2_with fail
    go_ret
    exact took_row H.out HO.out HB.out ht (by omega)
  · have H := Lib.hid h
    have HC := Lib.hid (HCALL.out (Option.map (fun x => x.add p) A) (c - p) hl (by omega) (by omega))
    clear h hl
    go_enter Tryz.func82, Tryz.ntmps82
    go_wp2_with fail
    go_region_held3 (fun w' => w'.cell? ⟨g, 0, none⟩ = some (.slice A k.length c) ∧ w'.cell? ⟨g, 1, none⟩ = some (.int .i64 p)) (go_keep)
      (first | (go_at_call 83; refine (HC.out).mono ?_; rintro e w1 ⟨A1, c1, rfl, hown, hb⟩; have hh0 := (hb.cell (p := ⟨g, 0, none⟩) hlt).trans h0; have hh1 := (hb.cell (p := ⟨g, 1, none⟩) hlt).trans h1; have hf1 := (hb.frozen (p := ⟨g, 1, none⟩) hlt).trans (H.out.f 1); have HO := Lib.hid hown; have HB := Lib.hid hb; clear hown hb))
    go_wp2_with fail
    go_ret
    exact took_row H.out HO.out HB.out ht (by omega)
end

section
set_option maxRecDepth 100000
open Go.RowKit

/-- What a reader's call for bytes leaves: they lie in a row of their own; the reader stands where r says. -/
def DidRead (w : World) (g : Nat) (A : Option Addr) (c : Nat) (F : Nat → Prop) (k : List UInt8) (r : List UInt8 × Nat × Int) (e : Ending) (w' : World) : Prop :=
  ∃ A1 c1, e = .returned (.slice A1 r.1.length c1) ∧ w'.ownsRow w.heap.size 5 1 (.slice A1 r.1.length c1) r.1.length (Bs r.1) ∧ Readto w w' g A c F k r.2.1 r.2.2

section
variable {w w1 w' : World} {g : Nat} {A : Option Addr} {c : Nat} {F : Nat → Prop} {k x : List UInt8} {p : Nat} {d : Int} {e : Ending}
theorem Readto.after (h : Readto w1 w' g A c F k p d) (hb : Below w.heap.size w w1) : Readto w w' g A c F k p d :=
  ⟨h.rr, (Only.of_below hb _).trans h.only fun _ _ h => h⟩
theorem did_took {r : List UInt8 × Nat × Int} (h : Took w1 g A c F k x p e w') (hb : Below w.heap.size w w1) (hr : r = (x, p, 0)) : DidRead w g A c F k r e w' := by
  obtain ⟨A1, c1, rfl, ho, hto⟩ := h
  subst hr
  exact ⟨A1, c1, rfl, own_base ho hb.size, hto.after hb⟩
theorem did_err {r : List UInt8 × Nat × Int} (h : Readto w1 w' g A c F k p d) (hb : Below w.heap.size w w1) (hr : r = ([], p, d)) : DidRead w g A c F k r (.returned (.slice none 0 0)) w' := by
  subst hr
  exact ⟨none, 0, rfl, World.ownsRow_nil _ _ _ _, h.after hb⟩
end

set_option maxHeartbeats 400000 in
theorem rbytes_any (g : Nat) (A : Option Addr) (c : Nat) (F : Nat → Prop) (k : List UInt8) (p : Nat) (most : Int) (w : World) (h : Rr w g A c F k p 0) (hm : most ≤ 9223372036854775807) :
    Calls Tryz.prog 78 #[.pointer (some ⟨g, 0, none⟩), .int .i64 most] w (DidRead w g A c F k (rbytes k p most)) := by
  have hb : Below w.heap.size w (w.alloc (.cells #[.int .i64 most] 3)) := (Below.refl _ _).alloc (Nat.le_refl _) _
  have hr1 := h.below hb
  have hq : (w.alloc (.cells #[.int .i64 most] 3)).cell? ⟨w.heap.size, 0, none⟩ = some (.int .i64 most) := by simp
  have hsm := h.small
  have hsl : k.length - p ≤ 140737488355328 := by omega
  have H1 := Lib.hid hr1
  have HQ := Lib.hid hq
  clear h hr1 hq
  cases hd : dec (k.drop p) with
  | none =>
    have he : rbytes k p most = ([], p, 2) := by unfold rbytes; rw [hd]
    have HE := Lib.hid he
    have HD := Lib.hid hd
    clear he hd
    go_enter Tryz.func78, Tryz.ntmps78
    go_wp2_with fail
    refine (fS_err g A c F k p _ 2 _ H1.out rfl fun X C i hl => bytes1_none X _ C _ F _ _ hl hsl HD.out).mono ?_
    rintro e w' ⟨rfl, hto⟩
    have HT := Lib.hid hto
    clear hto
    go_wp2_with fail
    go_ret
    exact did_err HT.out hb HE.out
  | some r =>
    obtain ⟨m, s⟩ := r
    have hdl := (enc_dec hd).2.1
    have hkl : (k.drop p).length = k.length - p := List.length_drop
    by_cases hmm : (max most 0).toNat < m
    · have he : rbytes k p most = ([], p, 3) := by unfold rbytes; rw [hd]; simp only [if_pos hmm]
      have HE := Lib.hid he
      have HD := Lib.hid hd
      clear he hd
      go_enter Tryz.func78, Tryz.ntmps78
      go_wp2_with fail
      refine (fS_err g A c F k p _ 3 _ H1.out rfl fun X C i hl => bytes1_over X _ C _ F _ most m s _ hl hsl HQ.out hm HD.out hmm).mono ?_
      rintro e w' ⟨rfl, hto⟩
      have HT := Lib.hid hto
      clear hto
      go_wp2_with fail
      go_ret
      exact did_err HT.out hb HE.out
    · by_cases hll : (k.drop p).length - s < m
      · have he : rbytes k p most = ([], p, 2) := by unfold rbytes; rw [hd]; simp only [if_neg hmm, if_pos hll]
        have HE := Lib.hid he
        have HD := Lib.hid hd
        clear he hd
        go_enter Tryz.func78, Tryz.ntmps78
        go_wp2_with fail
        refine (fS_err g A c F k p _ 2 _ H1.out rfl fun X C i hl => bytes1_short X _ C _ F _ most m s _ hl hsl HQ.out hm HD.out hmm hll).mono ?_
        rintro e w' ⟨rfl, hto⟩
        have HT := Lib.hid hto
        clear hto
        go_wp2_with fail
        go_ret
        exact did_err HT.out hb HE.out
      · have he : rbytes k p most = (((k.drop p).drop s).take m, p + (s + m), 0) := by unfold rbytes; rw [hd]; simp only [if_neg hmm, if_neg hll]
        have hple := H1.out.le
        have HE := Lib.hid he
        have HD := Lib.hid hd
        clear he hd
        go_enter Tryz.func78, Tryz.ntmps78
        go_wp2_with fail
        refine (fS_ok g A c F k p _ (((k.drop p).drop s).take m) (s + m) _ H1.out (by omega) fun X C hl h1 h2 => bytes1_ok X _ C _ F _ most m s _ hl hsl h1 h2 HQ.out hm HD.out hmm hll).mono ?_
        rintro e w' ⟨A1, c1, rfl, ho, hto⟩
        have HT := Lib.hid hto
        have HO := Lib.hid ho
        clear hto ho
        generalize hx : ((k.drop p).drop s).take m = x at *
        have HX := Lib.hid hx
        clear hx
        go_wp2_with fail
        go_ret
        exact did_took ⟨A1, c1, rfl, HO.out, HT.out⟩ hb HE.out

set_option maxHeartbeats 400000 in
theorem fbytes_broken (g : Nat) (A : Option Addr) (c : Nat) (F : Nat → Prop) (k : List UInt8) (p : Nat) (code : Int) (f : Value) (w : World) (h : Rr w g A c F k p code) (hc : code ≠ 0) :
    Calls Tryz.prog 82 #[.pointer (some ⟨g, 0, none⟩), f] w fun e w' => e = .returned (.slice none 0 0) ∧ w = w' := by
  have h2 := h.c2
  have q2 : (code != 0) = true := by rw [bne_iff_ne]; exact hc
  clear h hc
  go_enter Tryz.func82, Tryz.ntmps82
  go_wp2_with fail
  go_ret
  exact ⟨rfl, rfl⟩

set_option maxHeartbeats 400000 in
theorem rbytes_broken (g : Nat) (A : Option Addr) (c : Nat) (F : Nat → Prop) (k : List UInt8) (p : Nat) (code : Int) (n : Int) (w : World) (h : Rr w g A c F k p code) (hc : code ≠ 0) :
    Calls Tryz.prog 78 #[.pointer (some ⟨g, 0, none⟩), .int .i64 n] w fun e w' => e = .returned (.slice none 0 0) ∧ Below w.heap.size w w' := by
  have hr1 := h.below ((Below.refl w.heap.size w).alloc (Nat.le_refl _) (.cells #[.int .i64 n] 3))
  have H1 := Lib.hid hr1
  clear h hr1
  go_enter Tryz.func78, Tryz.ntmps78
  go_wp2_with fail
  refine (fbytes_broken g A c F k p code _ _ H1.out hc).mono ?_
  rintro e w' ⟨rfl, rfl⟩
  go_wp2_with fail
  go_ret
  exact ⟨rfl, (Below.refl _ _).alloc (Nat.le_refl _) _⟩

set_option maxHeartbeats 400000 in
theorem rtext_any (g : Nat) (A : Option Addr) (c : Nat) (F : Nat → Prop) (k : List UInt8) (p : Nat) (most : Int) (w : World) (h : Rr w g A c F k p 0) (hm : most ≤ 9223372036854775807) :
    Calls Tryz.prog 71 #[.pointer (some ⟨g, 0, none⟩), .int .i64 most] w fun e w' => e = .returned (.string ⟨(rbytes k p most).1.toArray⟩) ∧ Readto w w' g A c F k (rbytes k p most).2.1 (rbytes k p most).2.2 := by
  have H := Lib.hid h
  clear h
  go_enter Tryz.func71, Tryz.ntmps71
  go_wp2_with fail
  refine (rbytes_any g A c F k p most _ H.out hm).mono ?_
  rintro e w' ⟨A1, c1, rfl, ho, hto⟩
  have HT := Lib.hid hto
  have HO := Lib.hid ho
  clear hto ho
  generalize hx : rbytes k p most = x at *
  have HX := Lib.hid hx
  clear hx
  have hconv := to_text A1 x.1.length c1 x.1 _ w' (Rd.of_own HO.out)
  go_wp2_with fail
  go_ret
  rw [HX.out]
  exact ⟨rfl, HT.out⟩

set_option maxHeartbeats 400000 in
theorem rtext_broken (g : Nat) (A : Option Addr) (c : Nat) (F : Nat → Prop) (k : List UInt8) (p : Nat) (code : Int) (most : Int) (w : World) (h : Rr w g A c F k p code) (hc : code ≠ 0) :
    Calls Tryz.prog 71 #[.pointer (some ⟨g, 0, none⟩), .int .i64 most] w fun e w' => e = .returned (.string ⟨#[]⟩) ∧ Below w.heap.size w w' := by
  have H := Lib.hid h
  clear h
  go_enter Tryz.func71, Tryz.ntmps71
  go_wp2_with fail
  refine (rbytes_broken g A c F k p code most _ H.out hc).mono ?_
  rintro e w' ⟨rfl, hb⟩
  have hconv := to_text none 0 0 [] (fun _ => True) w' (Rd.nil _ _ _)
  go_wp2_with fail
  go_ret
  exact ⟨rfl, hb⟩

/-- The signed number for which one stands. -/
def unzig (n : Nat) : Int := if n % 2 = 1 then -((n / 2 : Nat) : Int) - 1 else ((n / 2 : Nat) : Int)
theorem unzig_zig (n : Int) : unzig (zig n) = n := by unfold unzig zig; split <;> split <;> omega

theorem and_one64 {n : Nat} (h : n < 18446744073709551616) : bits .and .u64 (n : Int) 1 = ((n % 2 : Nat) : Int) := by
  have h1 := u64_and_nat n 1 h (by omega)
  rw [nat_mask1] at h1
  exact h1
theorem unfold_odd {n : Nat} (h : n < 18446744073709551616) (h2 : n % 2 = 1) : wrap64 (bits .xor .u64 IntKind.u64.max ((n : Int) / 2)) = unzig n := by
  rw [show ((n : Int) / 2) = ((n / 2 : Nat) : Int) from by omega, not64 (by omega)]
  unfold unzig wrap64
  rw [if_pos h2]
  omega

/-- What reading a signed number comes to. -/
def rint (k : List UInt8) (p : Nat) : Int × Nat × Int := (unzig (rnum k p 18446744073709551615).1, (rnum k p 18446744073709551615).2)

theorem rnum_lt (k : List UInt8) (p most : Nat) : (rnum k p most).1 < 18446744073709551616 := by
  unfold rnum
  cases hd : dec (k.drop p) with
  | none => show 0 < _; omega
  | some r =>
    obtain ⟨m, s⟩ := r
    have := (enc_dec hd).1
    simp only []
    split
    · show 0 < _; omega
    · exact this
end

section
set_option maxRecDepth 100000
set_option linter.unusedSimpArgs false
set_option linter.unusedVariables false
open Go.RowKit

theorem rnum_at {k R : List UInt8} {p n most : Nat} (h : k.drop p = enc n ++ R) (hn : n < 18446744073709551616) (hm : n ≤ most) : rnum k p most = (n, p + (enc n).length, 0) := by
  unfold rnum
  rw [h, dec_enc hn]
  simp only
  rw [if_neg (by omega)]
theorem rbytes_at {k b R : List UInt8} {p : Nat} {most : Int} (h : k.drop p = enc b.length ++ (b ++ R)) (hm : (b.length : Int) ≤ most) (hb : b.length < 18446744073709551616) : rbytes k p most = (b, p + ((enc b.length).length + b.length), 0) := by
  unfold rbytes
  rw [h, dec_enc hb]
  simp only
  rw [if_neg (by omega), if_neg (by simp only [List.length_append]; omega), List.drop_left, List.take_left]
theorem bytes_text (s : ByteArray) : (⟨s.data.toList.toArray⟩ : ByteArray) = s := by
  obtain ⟨d⟩ := s
  simp
theorem drop_more {k b R : List UInt8} {p : Nat} (h : k.drop p = b ++ R) : k.drop (p + b.length) = R := by
  rw [← List.drop_drop, h, List.drop_left]

section
variable (g : Nat) (A : Option Addr) (c : Nat) (F : Nat → Prop) (k : List UInt8) (p : Nat)
theorem count_any (n : Nat) (R : List UInt8) (w : World) (h : Rr w g A c F k p 0) (hk : k.drop p = enc n ++ R) (hn : n ≤ 8) :
    Calls Tryz.prog 62 #[.pointer (some ⟨g, 0, none⟩), .int .i64 8] w fun e w' => e = .returned (.int .i64 n) ∧ Readto w w' g A c F k (p + (enc n).length) 0 := by
  have hr := rnumber_ok g A c F k p 18446744073709551615 w h
  rw [rnum_at hk (by omega) (by omega)] at hr
  have HR := Lib.hid hr
  have hn8 : (n : Int) ≤ 8 := by omega
  clear h hk hr
  go_enter Tryz.func62, Tryz.ntmps62
  go_wp2_with fail
  refine HR.out.mono ?_
  rintro e W1 ⟨rfl, hto⟩
  have HT := Lib.hid hto
  clear hto
  go_wp2_with fail
  go_ret
  exact ⟨by first | rfl | (simp), HT.out⟩
theorem sread_any (s : ByteArray) (R : List UInt8) (w : World) (h : Rr w g A c F k p 0) (hk : k.drop p = enc s.size ++ (s.data.toList ++ R)) (hs : s.size ≤ 64) :
    Calls Tryz.prog 70 #[.pointer (some ⟨g, 0, none⟩)] w fun e w' => e = .returned (.string s) ∧ Readto w w' g A c F k (p + ((enc s.size).length + s.size)) 0 := by
  have hsl : s.data.toList.length = s.size := by simp
  have hr := rtext_any g A c F k p 64 w h (by omega)
  rw [rbytes_at (b := s.data.toList) (R := R) (by rw [hsl]; exact hk) (by omega) (by omega), hsl, bytes_text] at hr
  have HR := Lib.hid hr
  clear h hk hr
  go_enter Tryz.func70, Tryz.ntmps70
  go_wp2_with fail
  refine HR.out.mono ?_
  rintro e W1 ⟨rfl, hto⟩
  have HT := Lib.hid hto
  clear hto
  go_wp2_with fail
  go_ret
  exact ⟨rfl, HT.out⟩
theorem readto_trans {g : Nat} {A : Option Addr} {c : Nat} {F : Nat → Prop} {k : List UInt8} {p q : Nat} {d d' : Int} {w w' w'' : World} (h : Readto w w' g A c F k p d) (h' : Readto w' w'' g A c F k q d') : Readto w w'' g A c F k q d' :=
  ⟨h'.rr, h.only.trans h'.only fun _ _ h => h⟩
/-- A new block of the call's own is filled: the reader stands as it did. -/
theorem only_setRow (w : World) (b : Nat) (cs : Array Value) : Only (fun j => j = b) w (w.setRow b cs) :=
  ⟨rfl, rfl, rfl, by simp [World.setRow], fun k _ hn => setRow_other w b k cs (fun e => hn e)⟩
theorem readto_set {g : Nat} {A : Option Addr} {c : Nat} {F : Nat → Prop} {k : List UInt8} {p : Nat} {d : Int} {w w' : World} {o : Obj} {cs : Array Value} (h : Readto (w.alloc o) w' g A c F k p d) (hg : g < w.heap.size) (hF : ∀ j, F j → j < g) : Readto w (w'.setRow w.heap.size cs) g A c F k p d := by
  refine ⟨h.rr.only (only_setRow w' _ cs) (by omega) (fun j hj e => by have h1 := hF j hj; have h2 : j = w.heap.size := e; omega), ?_⟩
  have h1 : Only (fun j => j = g) w w' := (Only.of_below (below_new w o) _).trans h.only fun _ _ h => h
  exact h1.trans (only_setRow w' _ cs) fun j hj e => by have h2 : j = w.heap.size := e; omega
theorem st_one (s : ByteArray) (i : Int) : (#[Value.string s, Value.int .u64 i].all fun x => x.oneCell') = true := by simp [Value.oneCell']
theorem stB_cases {x : Stp} (h : stB x = true) : (x.s.size ≠ 0 ∧ nameB x.s = true ∧ x.id = 0) ∨ (x.s = ByteArray.empty ∧ x.id ≠ 0) := by
  unfold stB at h
  rw [Bool.or_eq_true, Bool.and_eq_true, Bool.and_eq_true] at h
  rcases h with ⟨h1, h2⟩ | ⟨h1, h2⟩
  · exact .inl ⟨(name_size h1).1, h1, eq_of_beq h2⟩
  · exact .inr ⟨empty_of (of_decide_eq_true h1), bne_iff_ne.1 h2⟩

end

def stc (l : List Stp) : List Value := l.flatMap fun x => [.string x.s, .int .u64 x.id]
theorem stc_more {l : List Stp} {j : Nat} (hj : j < l.length) : stc (l.take (j + 1)) = stc (l.take j) ++ [.string (stp l j).s, .int .u64 (stp l j).id] := by
  unfold stc
  rw [List.take_add_one, stp_get hj, List.flatMap_append]
  simp
theorem stc_get : ∀ (l : List Stp) (i : Nat) (x : Stp), l[i]? = some x → (stc l)[i * 2]? = some (.string x.s) ∧ (stc l)[i * 2 + 1]? = some (.int .u64 x.id)
  | [], i, x, h => by simp at h
  | y :: l, 0, x, h => by
    simp at h
    subst h
    exact ⟨rfl, rfl⟩
  | y :: l, i + 1, x, h => by
    have ih := stc_get l i x (by simpa using h)
    have e1 : (i + 1) * 2 = i * 2 + 2 := by omega
    rw [e1]
    exact ih
theorem stc_length (l : List Stp) : (stc l).length = l.length * 2 := by
  induction l with
  | nil => rfl
  | cons x l ih => show (stc l).length + 2 = _; rw [ih, List.length_cons]; omega
theorem pB_split {l : List Stp} {j : Nat} (hj : j < l.length) : pBytes l = pB l j ++ (stBytes (stp l j) ++ (l.drop (j + 1)).flatMap stBytes) := by
  unfold pBytes pB
  rw [List.take_length, List.append_assoc]
  congr 1
  rw [← List.flatMap_cons, ← List.flatMap_append]
  congr 1
  conv => lhs; rw [← List.take_append_drop j l]
  congr 1
  rw [List.drop_eq_getElem_cons hj]
  congr 1
  unfold stp
  rw [List.getD, List.getElem?_eq_getElem hj]
  rfl
theorem only_grown {w w' : World} {row : Option Nat} (h : w.grownBy w' row) : Only (fun j => row = some j) w w' :=
  ⟨h.os, h.tape, h.output, h.size, fun k hk hn => h.block k hk (fun e => hn e.symm)⟩
theorem readto_grown {g : Nat} {A : Option Addr} {c : Nat} {F : Nat → Prop} {k : List UInt8} {p : Nat} {d : Int} {w w' w'' : World} {row : Option Nat} (h : Readto w w' g A c F k p d) (hg : g < w.heap.size) (hF : ∀ j, F j → j < g) (hw : w'.grownBy w'' row) (hr : ∀ k, row = some k → w.heap.size ≤ k) : Readto w w'' g A c F k p d := by
  refine ⟨h.rr.only (only_grown hw) (fun e => by have := hr _ e; omega) (fun j hj e => by have h1 := hF j hj; have h2 := hr _ e; omega), ?_⟩
  exact h.only.trans (only_grown hw) fun j hj e => by have h2 := hr _ e; omega
theorem readto_new {g : Nat} {A : Option Addr} {c : Nat} {F : Nat → Prop} {k : List UInt8} {p : Nat} {d : Int} {w w' : World} (h : Readto w w' g A c F k p d) (o : Obj) : Readto w (w'.alloc o) g A c F k p d :=
  ⟨h.rr.below (below_new w' o), h.only.alloc o⟩
end

section
set_option maxRecDepth 100000
set_option linter.unusedSimpArgs false
set_option linter.unusedVariables false
open Go.RowKit

theorem swc_any (q : Addr) (a : Option Addr) (n cap : Nat) (l : List ByteArray) (s : ByteArray) (hs : s.size ≤ maxLen) (hn : n ≤ 9223372036854775807) (hf : newB l n s = true) (w : World) (hq : w.cell? q = some (.slice a n cap)) (h : Strs w a n l) :
    Calls Tryz.prog 64 #[.string s, .pointer (some q)] w fun e w' => e = .returned (.bool true) ∧ Below w.heap.size w w' := by
  have hr := sfresh_any a n cap l s hs hn w h
  rw [hf] at hr
  have HR := Lib.hid hr
  clear hr h hs hn hf
  go_enter Tryz.func64, Tryz.ntmps64
  go_wp2_with fail
  refine HR.out.mono ?_
  rintro e W1 ⟨rfl, hb⟩
  have HB := Lib.hid hb
  clear hb
  go_wp2_with fail
  go_ret
  exact ⟨rfl, HB.out⟩
theorem readto_then {g : Nat} {A : Option Addr} {c : Nat} {F : Nat → Prop} {k : List UInt8} {p : Nat} {d : Int} {w w' w'' : World} (h : Readto w w' g A c F k p d) (hb : Below w'.heap.size w' w'') : Readto w w'' g A c F k p d :=
  ⟨h.rr.below hb, h.only.trans (Only.of_below hb _) fun _ _ h => h⟩
section
variable (g : Nat) (A : Option Addr) (c : Nat) (F : Nat → Prop) (k : List UInt8) (p : Nat)
theorem wasked_any (q : Addr) (a : Option Addr) (n cap : Nat) (l : List ByteArray) (s : ByteArray) (R : List UInt8) (w : World) (h : Rr w g A c F k p 0) (hk : k.drop p = enc s.size ++ (s.data.toList ++ R)) (hs : s.size ≤ 64)
    (hn : n ≤ 9223372036854775807) (hf : newB l n s = true) (hq : w.cell? q = some (.slice a n cap)) (hqg : q.block ≠ g) (hl : Rd w (fun j => j ≠ g) a n (l.map .string)) :
    Calls Tryz.prog 69 #[.pointer (some ⟨g, 0, none⟩), .func (.func 70) #[] #[], .func (.func 64) #[] #[.pointer (some q)]] w fun e w' => e = .returned (.string s) ∧ Readto w w' g A c F k (p + ((enc s.size).length + s.size)) 0 := by
  have HR := Lib.hid (sread_any g A c F k p s R w h hk hs)
  have HA := Lib.hid (show ∀ w1 : World, Only (fun j => j = g) w w1 → Calls Tryz.prog 64 #[.string s, .pointer (some q)] w1 fun e w' => e = .returned (.bool true) ∧ Below w1.heap.size w1 w' from
    fun w1 ho => swc_any q a n cap l s (by unfold maxLen; omega) hn hf w1 ((ho.cell hqg (lt_of_cell hq)).trans hq) ((hl.only ho fun _ h => h).mono fun _ _ _ => trivial))
  clear h hk hf hq hl
  go_enter Tryz.func69, Tryz.ntmps69
  go_wp2_with fail
  refine HR.out.mono ?_
  rintro e W1 ⟨rfl, hto⟩
  have HT := Lib.hid hto
  clear hto
  go_wp2_with fail
  refine (HA.out _ HT.out.only).mono ?_
  rintro e W2 ⟨rfl, hb⟩
  have HB := Lib.hid hb
  clear hb
  go_wp2_with fail
  go_ret
  exact ⟨rfl, readto_then HT.out HB.out⟩
theorem sword_any (q : Addr) (a : Option Addr) (n cap : Nat) (l : List ByteArray) (s : ByteArray) (R : List UInt8) (w : World) (h : Rr w g A c F k p 0) (hk : k.drop p = enc s.size ++ (s.data.toList ++ R)) (hs : s.size ≤ 64)
    (hn : n ≤ 9223372036854775807) (hf : newB l n s = true) (hq : w.cell? q = some (.slice a n cap)) (hqg : q.block ≠ g) (hl : Rd w (fun j => j ≠ g) a n (l.map .string)) :
    Calls Tryz.prog 63 #[.pointer (some ⟨g, 0, none⟩), .func (.func 64) #[] #[.pointer (some q)]] w fun e w' => e = .returned (.string s) ∧ Readto w w' g A c F k (p + ((enc s.size).length + s.size)) 0 := by
  have HA := Lib.hid (wasked_any g A c F k p q a n cap l s R w h hk hs hn hf hq hqg hl)
  clear h hk hf hq hl
  go_enter Tryz.func63, Tryz.ntmps63
  go_wp2_with fail
  refine HA.out.mono ?_
  rintro e W1 ⟨rfl, hto⟩
  have HT := Lib.hid hto
  clear hto
  go_wp2_with fail
  go_ret
  exact ⟨rfl, HT.out⟩
end
end

section
open Go.RowKit

section
variable {P : Program} {ops : Array Oper} {Q : Exit → Act → World → Prop} {md : Region.Mode} {S : World → Prop} {T : List Nat}

/-- None of these has come. -/
def early (T : List Nat) (l : Array Bool) : Bool := T.all fun t => !l.getD t false
/-- What has come has come behind what it waits for. -/
def closedB (md : Region.Mode) (ops : Array Oper) (l : Array Bool) : Bool :=
  (List.range ops.size).all fun j => !l.getD j false || match ops[j]? with
    | some o => o.after.all fun e => !Region.binds md e || l.getD e.on false
    | none => true
/-- Number t comes behind number i. -/
def behind (md : Region.Mode) (ops : Array Oper) (i : Nat) : Nat → Nat → Bool
  | 0, _ => false
  | n + 1, t => match ops[t]? with
    | some o => o.after.any fun e => Region.binds md e && (e.on == i || behind md ops i n e.on)
    | none => false
def Closed (md : Region.Mode) (ops : Array Oper) (l : Array Bool) : Prop :=
  ∀ j o, ops[j]? = some o → l.getD j false = true → ∀ e ∈ o.after, Region.binds md e = true → l.getD e.on false = true
theorem closed_of {l : Array Bool} (h : closedB md ops l = true) : Closed md ops l := fun j o ho hl e he hb => by
  unfold closedB at h
  have h1 := List.all_eq_true.1 h j (List.mem_range.2 (Array.getElem?_eq_some_iff.1 ho).1)
  rw [hl, ho] at h1
  simp only [Bool.not_true, Bool.false_or] at h1
  have h2 := Array.all_eq_true'.1 h1 e he
  rw [hb] at h2
  simpa using h2
theorem Closed.behind_ {l : Array Bool} (h : Closed md ops l) {i : Nat} : ∀ {n t : Nat}, behind md ops i n t = true → l.getD t false = true → l.getD i false = true := by
  intro n
  induction n with
  | zero => intro t hb; cases hb
  | succ n ih =>
    intro t hb ht
    unfold behind at hb
    split at hb
    · rename_i o ho
      obtain ⟨e, he, h1⟩ := Array.any_eq_true'.1 hb
      rw [Bool.and_eq_true, Bool.or_eq_true] at h1
      have h2 := h t o ho ht e he h1.1
      rcases h1.2 with h3 | h3
      · rw [beq_iff_eq] at h3; rwa [h3] at h2
      · exact ih h3 h2
    · cases hb
theorem getF_set_ne {l : Array Bool} {i k : Nat} (h : i ≠ k) : (l.setIfInBounds i true).getD k false = l.getD k false := by
  rw [Array.getD_eq_getD_getElem?, Array.getD_eq_getD_getElem?, Array.getElem?_setIfInBounds, if_neg h]
theorem getF_mono {l : Array Bool} {i k : Nat} (h : l.getD k false = true) : (l.setIfInBounds i true).getD k false = true := by
  by_cases e : i = k
  · subst e
    rw [Array.getD_eq_getD_getElem?] at *
    rw [Array.getElem?_setIfInBounds, if_pos rfl]
    by_cases h2 : i < l.size
    · rw [if_pos h2]; rfl
    · rw [Array.getElem?_eq_none (by omega)] at h; cases h
  · rw [getF_set_ne e]; exact h
theorem Closed.set {l : Array Bool} (h : Closed md ops l) {j : Nat} (hj : j ∈ Region.ready md ops l) : Closed md ops (l.setIfInBounds j true) := fun k o ho hl e he hb => by
  obtain ⟨_, oj, hoj, hall⟩ := mem_ready.1 hj
  by_cases hk : j = k
  · subst hk
    rw [hoj] at ho; cases ho
    exact getF_mono (hall e he hb)
  · rw [getF_set_ne hk] at hl
    exact getF_mono (h k o ho hl e he hb)

/-- Whatever order is picked from here on, and S holds behind each operation as long as none of T has come. -/
def wpAnyT (P : Program) (md : Region.Mode) (ops : Array Oper) (Q : Exit → Act → World → Prop) (S : World → Prop) (T : List Nat) : Nat → Array Bool → Act → World → Prop
  | 0, listed, a, w => Region.ready md ops listed = [] ∧ Q .normal a w
  | fuel + 1, listed, a, w =>
    (Region.ready md ops listed = [] → Q .normal a w) ∧
    ∀ i ∈ Region.ready md ops listed, wpOp P ops Q i (fun a' w' => (early T (listed.setIfInBounds i true) = true → S w') ∧ wpAnyT P md ops Q S T fuel (listed.setIfInBounds i true) a' w') a w
theorem wpAny_of_T : ∀ (fuel : Nat) (listed : Array Bool) (a : Act) (w : World), wpAnyT P md ops Q S T fuel listed a w → wpAny P md ops Q fuel listed a w
  | 0, _, _, _, h => h
  | fuel + 1, _, _, _, h => ⟨h.1, fun i hi => wpOp_mono (fun a' w' h' => wpAny_of_T fuel _ a' w' h'.2) (h.2 i hi)⟩
theorem early_set {l : Array Bool} {i : Nat} (hi : T.contains i = false) : early T (l.setIfInBounds i true) = early T l := by
  unfold early
  rw [Bool.eq_iff_iff, List.all_eq_true, List.all_eq_true]
  have hne : ∀ t ∈ T, i ≠ t := fun t ht e => by
    subst e
    rw [List.contains_iff_mem.2 ht] at hi
    cases hi
  exact ⟨fun h t ht => by have := h t ht; rwa [getF_set_ne (hne t ht)] at this, fun h t ht => by rw [getF_set_ne (hne t ht)]; exact h t ht⟩
theorem early_of {l : Array Bool} (h : Closed md ops l) {i n : Nat} (hw : (T.all fun t => behind md ops i n t) = true) (hi : l.getD i false = false) : early T l = true := by
  unfold early
  rw [List.all_eq_true] at *
  intro t ht
  rw [Bool.not_eq_true', ← Bool.not_eq_true]
  intro hl
  rw [h.behind_ (hw t ht) hl] at hi
  cases hi

theorem wpAnyT_first {i n : Nat} {oi : Oper} {v : Value} (hi : ops[i]? = some oi) (hsel : ∀ (j : Nat) (o : Oper) cs b, ops[j]? = some o → o.op ≠ .select cs b)
    (hQ : ∀ c a w, Q (.panic c) (a.put oi.dst v) w → Q (.panic c) a w) (hT : T.contains i = false) (hw : (T.all fun t => behind md ops i n t) = true) :
    ∀ (fuel : Nat) (listed : Array Bool) (a : Act) (w : World),
      (∀ j oj, ops[j]? = some oj → j ≠ i → listed.getD j true = false → (∀ e ∈ oj.after, Region.binds md e = true → e.on ≠ i) → oi.apart ops oj = true) →
      i ∈ Region.ready md ops listed → Closed md ops listed → YieldsIf P ops S oi v a → S w →
      wpAnyT P md ops Q S T fuel (listed.setIfInBounds i true) (a.put oi.dst v) w → wpAnyT P md ops Q S T (fuel + 1) listed a w := by
  intro fuel
  induction fuel with
  | zero =>
    intro listed a w _ hr _ hy hS H
    refine ⟨fun h => (by rw [h] at hr; cases hr), fun j hj => ?_⟩
    by_cases hji : j = i
    · subst hji; exact hy.wpOp hi hS ⟨fun _ => hS, H⟩
    · have := ready_mono hj hji
      rw [H.1] at this
      cases this
  | succ fuel ih =>
    intro listed a w hfree hr hcl hy hS H
    refine ⟨fun h => (by rw [h] at hr; cases hr), fun j hj => ?_⟩
    by_cases hji : j = i
    · subst hji; exact hy.wpOp hi hS ⟨fun _ => hS, H⟩
    · have h1 := H.2 j (ready_mono hj hji)
      obtain ⟨hjun, oj, hoj, hall⟩ := mem_ready.1 hj
      have hiun : listed.getD i false = false := by
        have h0 := (mem_ready.1 hr).1
        rw [Array.getD_eq_getD_getElem?] at *
        cases hx : listed[i]? with
        | none => rfl
        | some b => rw [hx] at h0; exact h0
      have hnot : ∀ e ∈ oj.after, Region.binds md e = true → e.on ≠ i := fun e he hb heq => by
        have h1 := hall e he hb
        rw [heq, hiun] at h1
        cases h1
      have h2 := wpOp_putIf hoj (hfree j oj hoj hji hjun hnot) (fun cs b => hsel i oi cs b hi) (fun cs b => hsel j oj cs b hoj) hQ hy h1
      have hfree' : ∀ k ok, ops[k]? = some ok → k ≠ i → (listed.setIfInBounds j true).getD k true = false →
          (∀ e ∈ ok.after, Region.binds md e = true → e.on ≠ i) → oi.apart ops ok = true := fun k ok hk hki hun hno => by
        refine hfree k ok hk hki ?_ hno
        by_cases hjk : j = k
        · subst hjk; exact hjun
        · rw [getD_set_ne true hjk] at hun; exact hun
      have hcl' := hcl.set hj
      have hea : early T (listed.setIfInBounds j true) = true := early_of hcl' hw (by rw [getF_set_ne hji]; exact hiun)
      refine wpOp_mono (fun a' w' h3 => ?_) h2
      have hS' : S w' := h3.2.1 (by rw [Array.setIfInBounds_comm _ _ (Ne.symm hji), early_set hT]; exact hea)
      refine ⟨fun _ => hS', ih (listed.setIfInBounds j true) a' w' hfree' (ready_mono hr (Ne.symm hji)) hcl' h3.1 hS' ?_⟩
      rw [Array.setIfInBounds_comm _ _ hji]
      exact h3.2.2
/-- An operation that only reads: taken first. -/
def takeB (md : Region.Mode) (ops : Array Oper) (T : List Nat) (listed : Array Bool) (i : Nat) : Bool :=
  Region.noSelect ops && Region.free md ops listed i && (Region.ready md ops listed).contains i && closedB md ops listed && !T.contains i && (T.all fun t => behind md ops i ops.size t)
theorem takeT (i : Nat) (d : Option Tmp) {oi : Oper} {v : Value} {fuel : Nat} {listed : Array Bool} {a : Act} {w : World} (hi : ops[i]? = some oi) (hd : oi.dst = d) (hb : takeB md ops T listed i = true) (hwa : Region.wanted oi (yielded ops a.tmps) = true)
    (hQ : ∀ c a w, Q (.panic c) (a.put oi.dst v) w → Q (.panic c) a w) (hy : ∀ w, S w → (execOp a.eval oi).run P w = .ok (.value v) w) (hS : S w)
    (h : wpAnyT P md ops Q S T fuel (listed.setIfInBounds i true) (a.put d v) w) : wpAnyT P md ops Q S T (fuel + 1) listed a w := by
  unfold takeB at hb
  simp only [Bool.and_eq_true, Bool.not_eq_true'] at hb
  obtain ⟨⟨⟨⟨⟨h1, h2⟩, h3⟩, h4⟩, h5⟩, h6⟩ := hb
  subst hd
  exact wpAnyT_first hi (Region.noSelect_spec h1) hQ h5 h6 fuel listed a w (Region.free_spec hi h2) (by simpa using h3) (closed_of h4) (.inl ⟨hwa, hy⟩) hS h
theorem skipT (i : Nat) (d : Option Tmp) {oi : Oper} {fuel : Nat} {listed : Array Bool} {a : Act} {w : World} (hi : ops[i]? = some oi) (hd : oi.dst = d) (hb : takeB md ops T listed i = true) (hwa : Region.wanted oi (yielded ops a.tmps) = false)
    (hQ : ∀ c a w, Q (.panic c) (a.put oi.dst undef) w → Q (.panic c) a w) (hS : S w)
    (h : wpAnyT P md ops Q S T fuel (listed.setIfInBounds i true) (a.put d undef) w) : wpAnyT P md ops Q S T (fuel + 1) listed a w := by
  unfold takeB at hb
  simp only [Bool.and_eq_true, Bool.not_eq_true'] at hb
  obtain ⟨⟨⟨⟨⟨h1, h2⟩, h3⟩, h4⟩, h5⟩, h6⟩ := hb
  subst hd
  exact wpAnyT_first hi (Region.noSelect_spec h1) hQ h5 h6 fuel listed a w (Region.free_spec hi h2) (by simpa using h3) (closed_of h4) (.inr ⟨hwa, rfl⟩) hS h
/-- The one operation that may come up now. -/
theorem oneT (i : Nat) {o : Oper} {fuel : Nat} {listed : Array Bool} {a : Act} {w : World} (hr : (Region.ready md ops listed == [i]) = true) (ho : ops[i]? = some o) (hwa : Region.wanted o (yielded ops a.tmps) = true)
    (h : ∀ K : Act → World → Prop, Shut (∀ a' w', (early T (listed.setIfInBounds i true) = true → S w') → wpAnyT P md ops Q S T fuel (listed.setIfInBounds i true) a' w' → K a' w') → o.wp P a w K Q) : wpAnyT P md ops Q S T (fuel + 1) listed a w := by
  rw [beq_iff_eq] at hr
  refine ⟨fun h0 => (by rw [hr] at h0; cases h0), fun j hj => ?_⟩
  rw [hr] at hj
  obtain rfl : j = i := by simpa using hj
  unfold wpOp
  simp only [ho, hwa, if_true]
  exact .inl (h _ (fun a' w' hS hW => ⟨hS, hW⟩))
theorem doneT {listed : Array Bool} {a : Act} {w : World} (hr : (Region.ready md ops listed == []) = true) (h : Q .normal a w) : ∀ fuel, wpAnyT P md ops Q S T fuel listed a w
  | 0 => ⟨beq_iff_eq.1 hr, h⟩
  | _ + 1 => ⟨fun _ => h, by rw [beq_iff_eq.1 hr]; simp⟩
theorem startT (S : World → Prop) (T : List Nat) {id : Nat} {a : Act} {w : World} (hm : P.follows .mixedOrders = true)
    (h : wpAnyT P .any ops Q S T ops.size (Array.replicate ops.size false) a w.drew) : (Code.region id ops true).wp P Q a w :=
  wp_region_any hm (wpAny_of_T _ _ _ _ h)
end

/-! What only reads. -/
def Reads (P : Program) (S : World → Prop) (o : Oper) (v : Value) (a : Act) : Prop := ∀ w, S w → (execOp a.eval o).run P w = .ok (.value v) w
section
variable {P : Program} {S : World → Prop} {o : Oper} {a : Act}
theorem Reads.move {x : Operand} {v : Value} (ho : o.op = .move x) (hx : a.eval x = v) : Reads P S o v a := fun w _ => by unfold execOp; simp only [ho, hx, Sem.run_pure]
theorem Reads.fieldAt (T : TypeId) (x : Operand) (n : Nat) (ho : o.op = .fieldAddr T x n) (u r : Value) (hx : a.eval x = u) (hi : ∀ w, (Instr.fieldAt T u n).run P w = .ok r w) : Reads P S o r a := fun w _ => by
  unfold execOp
  simp only [ho, Sem.run_bind, Sem.run_pure, Result.andThen_ok, hx, hi]
theorem Reads.indexAt (T : TypeId) (x y : Operand) (ho : o.op = .indexAddr T x y) (u v r : Value) (hx : a.eval x = u) (hy : a.eval y = v) (hi : ∀ w, (Instr.indexAt T u v).run P w = .ok r w) : Reads P S o r a := fun w _ => by
  unfold execOp
  simp only [ho, Sem.run_bind, Sem.run_pure, Result.andThen_ok, hx, hy, hi]
theorem Reads.load (T : TypeId) (x : Operand) (ho : o.op = .load T x) (u r : Value) (hx : a.eval x = u) (hi : ∀ w, S w → (Instr.loadAt T u).run P w = .ok r w) : Reads P S o r a := fun w hS => by
  unfold execOp
  simp only [ho, Sem.run_bind, Sem.run_pure, Result.andThen_ok, hx, hi w hS]
theorem Reads.binop (op : BinOp) (T T2 : TypeId) (x y : Operand) (ho : o.op = .binOp op T x y T2) (u v r : Value) (hx : a.eval x = u) (hy : a.eval y = v)
    (hg : ∀ w, (eqGuard op T x y u v).run P w = .ok () w) (hb : ∀ w, (binOp op T u v).run P w = .ok r w) : Reads P S o r a := fun w _ => by
  unfold execOp
  simp only [ho, Sem.run_bind, Sem.run_pure, Result.andThen_ok, hx, hy, hg, hb]
theorem Reads.unop (op : UnOp) (T : TypeId) (x : Operand) (ho : o.op = .unOp op T x) (u r : Value) (hx : a.eval x = u) (hi : ∀ w, (Op.unary op u).run P w = .ok r w) : Reads P S o r a := fun w _ => by
  unfold execOp
  simp only [ho, Sem.run_bind, Sem.run_pure, Result.andThen_ok, hx, hi]
theorem Reads.pick (c x y : Operand) (ho : o.op = .pick c x y) (b : Bool) (v : Value) (hc : a.eval c = .bool b) (hv : (if b then a.eval x else a.eval y) = v) : Reads P S o v a := fun w _ => by
  unfold execOp
  simp only [ho, Sem.run_bind, Sem.run_pure, Result.andThen_ok, hc, asBool]
  cases b <;> simp_all
end

/-! What makes memory. -/
section
variable {P : Program} {o : Oper} {a : Act} {w : World} {K : Act → World → Prop} {Q : Exit → Act → World → Prop}
theorem wp_run {v : Value} {w' : World} (hr : (execOp a.eval o).run P w = .ok (.value v) w') (h : K (a.put o.dst v) w') : o.wp P a w K Q := by
  unfold Oper.wp
  rw [hr]
  exact h
theorem wp_unit {w' : World} (hr : (execOp a.eval o).run P w = .ok .skip w') (h : K (a.put o.dst undef) w') : o.wp P a w K Q := by
  unfold Oper.wp
  rw [hr]
  exact h
/-- A slice of one element, made. -/
theorem wp_slice1 (t e : TypeId) (x : Operand) (ho : o.op = .buildSlice t 1 #[(0, x)]) (u : Value) (hx : a.eval x = u) (cs : Array Value)
    (hr : ∀ w : World, (Instr.buildSlice t 1 #[(0, u)]).run P w = .ok (.slice (some ⟨w.heap.size, 0, none⟩) 1 1) (w.alloc (.cells cs e))) (h : K (a.put o.dst (.slice (some ⟨w.heap.size, 0, none⟩) 1 1)) (w.alloc (.cells cs e))) : o.wp P a w K Q := by
  refine wp_run ?_ h
  unfold execOp
  simp only [ho, Sem.run_bind, List.map_toArray, List.map_cons, List.map_nil, hx, hr, Result.andThen_ok, Sem.run_pure]
theorem wp_append_at (s x : Operand) (t : TypeId) (ho : o.op = .call { callee := .builtin .append, args := #[s, x], argTypes := #[t, t] })
    (base : Nat) (e : TypeId) (i : TypeInfo) (z : Value) (size bytes : Nat) (ht : P.underlying t = some (.slice e)) (hi : P.info? e = some i) (hz : i.zero = some z)
    (hsize : i.size = size) (hby : i.bytes = bytes) (hzs : z.cells.size = size) (hsz : 0 < size)
    (v : Value) (n : Nat) (xs : List Value) (hs : a.eval s = v) (hown : w.ownsRow base e size v n xs)
    (ad : Addr) (m c : Nat) (news : List Value) (hx : a.eval x = .slice (some ad) m c) (hl : news.length = m * size) (hnews : ∀ j u, news[j]? = some u → w.cell? (ad.add j) = some u) (h1 : ∀ u ∈ news, u.oneCell' = true)
    (h63 : n + m ≤ maxLen) (hbytes : (n + m) * bytes ≤ 140737488355328) (hbase : base ≤ w.heap.size)
    (h : ∀ v' w', w'.ownsRow base e size v' (n + m) (xs ++ news) → w.grownBy w' v.ownBlock → (v'.ownBlock = v.ownBlock ∨ v'.ownBlock = some w.heap.size) → K (a.put o.dst v') w') : o.wp P a w K Q := by
  obtain ⟨v', w', hr, h2, h3, h4, h5⟩ := run_append_own_at (P := P) w base t o.type e i z size bytes ht hi hz hsize hby hzs hsz v n xs hown ad m c news hl hnews h1 h63 hbytes hbase
  refine wp_run ?_ (h v' w' h2 h3 h5)
  unfold execOp
  simp only [ho, resolve, invoke, builtin, Sem.run_bind, Sem.run_pure, Result.andThen_ok, List.map_toArray, List.map_cons, List.map_nil, hs, hx, hr]
/-- A call, met by its contract. -/
theorem wp_call_any {f : FuncId} {fn : Func} {xs : List Operand} {ts : Array TypeId} {args : List Value} {R : Ending → World → Prop} (ho : o.op = .call { callee := .value (.func f), args := xs.toArray, argTypes := ts })
    (hf : P.funcs[f]? = some fn) (hn : (fn.name == "runtime.NumGoroutine") = false) (hb : fn.body.isNone = false) (hargs : xs.map a.eval = args)
    (hc : Calls P f args.toArray w R) (hK : ∀ e w', R e w' → ∃ v, e = .returned v ∧ K (a.put o.dst v) w') : o.wp P a w K Q := by
  have hrun : (execOp a.eval o).run P w = .ok (.enter f args.toArray) w := by
    have hn' : ¬ fn.name = "runtime.NumGoroutine" := by simpa using hn
    have hb' : ¬ fn.body = none := fun e => by rw [e] at hb; cases hb
    unfold execOp
    simp [ho, resolve, Act.eval, Deferred.ofValue, invoke, callFunc, hf, hn', hb', ← hargs]
  unfold Oper.wp
  rw [hrun]
  refine Calls.mono hc fun e w' hR => ?_
  obtain ⟨v, rfl, h⟩ := hK e w' hR
  exact h
/-- A call of a function that is a value. -/
theorem wpList_call_fn {ops : Array Oper} {rest : List Oper} (hgd : o.guard = none) {x : Operand} {xs : List Operand} {ts : Array TypeId} (ho : o.op = .call { callee := .value x, args := xs.toArray, argTypes := ts }) {f : FuncId} {fn : Func} {cap : Array Value}
    (hx : a.eval x = .func (.func f) #[] cap) (hf : P.funcs[f]? = some fn) (hn : (fn.name == "runtime.NumGoroutine") = false) (hb : fn.body.isNone = false) {args : List Value} (hargs : xs.map a.eval = args) {R : Ending → World → Prop}
    (hc : Calls P f (args.toArray ++ cap) w R) (hK : ∀ e w', R e w' → ∃ v, e = .returned v ∧ wpList P ops Q rest (a.put o.dst v) w') : wpList P ops Q (o :: rest) a w := by
  refine wpList_plain hgd fun K hKK => ?_
  have hrun : (execOp a.eval o).run P w = .ok (.enter f (args.toArray ++ cap)) w := by
    have hn' : ¬ fn.name = "runtime.NumGoroutine" := by simpa using hn
    have hb' : ¬ fn.body = none := fun e => by rw [e] at hb; cases hb
    unfold execOp
    simp [ho, resolve, hx, Deferred.ofValue, invoke, callFunc, hf, hn', hb', ← hargs]
  unfold Oper.wp
  rw [hrun]
  refine Calls.mono hc fun e w' hR => ?_
  obtain ⟨v, rfl, h⟩ := hK e w' hR
  exact hKK _ _ h
/-- One cell, stored. -/
theorem wp_store_cell (t : TypeId) (x y : Operand) (ho : o.op = .store t x y) (p : Addr) (hx : a.eval x = .pointer (some p)) (v : Value) (hy : a.eval y = v) (hr : (Instr.storeAt t (.pointer (some p)) v).run P w = .ok () (w.setCell p v))
    (h : K (a.put o.dst undef) (w.setCell p v)) : o.wp P a w K Q := by
  unfold Oper.wp execOp
  simp only [ho, hx, hy, Sem.run_bind, hr, Result.andThen_ok, Sem.run_pure]
  exact h
end
end

section
set_option maxRecDepth 100000
set_option linter.unusedSimpArgs false
set_option linter.unusedVariables false
open Go.RowKit

theorem late_ok_ {b : Bool} {p : Prop} (h : (b == false) = true) : b = true → p := fun e => by rw [e] at h; cases h
theorem str_info_ : (Tryz.prog.info? 9).map (fun i => (i.zero, i.size, i.bytes)) = some (some (.string ByteArray.empty), 1, 16) := by kernel_rfl
theorem mk_str_ (x : ByteArray) (w : World) : (Instr.buildSlice 22 1 #[(0, .string x)]).run Tryz.prog w = .ok (.slice (some ⟨w.heap.size, 0, none⟩) 1 1) (w.alloc (.cells #[.string x] 9)) := by
  go_simp
theorem ld_strs_ {p : Addr} {v : Value} {w : World} (hc : w.cell? p = some v) {a : Option Addr} {n c : Nat} (hv : v = .slice a n c) : (Instr.loadAt 22 (.pointer (some p))).run Tryz.prog w = .ok v w := by
  subst hv
  go_simp
theorem st_strs_ {p : Addr} {old v : Value} {w : World} (hc : w.cell? p = some old) (hf : w.frozen? p = false) {a : Option Addr} {n c : Nat} (hv : v = .slice a n c) : (Instr.storeAt 22 (.pointer (some p)) v).run Tryz.prog w = .ok () (w.setCell p v) := by
  subst hv
  go_simp
theorem own_set_ {w : World} {B : Nat} {T : TypeId} {s : Nat} {v : Value} {n : Nat} {xs : List Value} (h : w.ownsRow B T s v n xs) {p : Addr} (hp : p.block < B) (u : Value) : (w.setCell p u).ownsRow B T s v n xs := by
  refine ⟨h.1, ?_⟩
  rcases h.2 with hn | ⟨g, cap, cur, rfl, hb, hg, rest⟩
  · exact .inl hn
  · exact .inr ⟨g, cap, cur, rfl, hb, (Below.heap_setCell _ _ _ _ (by omega)).trans hg, rest⟩
theorem Reads.makeFunc {P : Program} {S : World → Prop} {o : Oper} {a : Act} (f : FuncId) (x : Operand) (ho : o.op = .makeFunc (.func f) #[] #[x]) (u : Value) (hx : a.eval x = u) (hi : ∀ w, (Instr.makeFunc (.func f) #[] #[u]).run P w = .ok (.func (.func f) #[] #[u]) w) : Reads P S o (.func (.func f) #[] #[u]) a := fun w _ => by
  unfold execOp
  simp only [ho, hx, List.map_toArray, List.map_cons, List.map_nil, Sem.run_bind, hi, Sem.run_pure, Result.andThen_ok]
theorem mk_func_ (f : FuncId) (p : Option Addr) (w : World) : (Instr.makeFunc (.func f) #[] #[.pointer p]).run Tryz.prog w = .ok (.func (.func f) #[] #[.pointer p]) w := by
  go_simp
def wsB (l : List ByteArray) (n : Nat) : List UInt8 := (List.range n).flatMap fun i => wB (nth l i)
theorem wsB_more (l : List ByteArray) (n : Nat) : wsB l (n + 1) = wsB l n ++ wB (nth l n) := by
  unfold wsB
  rw [List.range_succ, List.flatMap_append]
  simp
theorem wsB_split (l : List ByteArray) {j : Nat} : ∀ {n : Nat}, j ≤ n → ∃ R, wsB l n = wsB l j ++ R
  | 0, h => ⟨[], by obtain rfl : j = 0 := by omega
                    simp⟩
  | n + 1, h => by
    by_cases e : j = n + 1
    · subst e
      exact ⟨[], by simp⟩
    · obtain ⟨R, hR⟩ := wsB_split l (j := j) (n := n) (by omega)
      exact ⟨R ++ wB (nth l n), by rw [wsB_more, hR, List.append_assoc]⟩
theorem strs_more (l : List ByteArray) {j : Nat} (hj : j < l.length) : (l.take (j + 1)).map Value.string = (l.take j).map Value.string ++ [Value.string (nth l j)] := by
  rw [List.take_add_one, List.map_append]
  unfold nth
  simp [hj]
theorem readto_from {g : Nat} {A : Option Addr} {c : Nat} {F : Nat → Prop} {k : List UInt8} {p : Nat} {d : Int} {w w' : World} {o : Obj} (h : Readto (w.alloc o) w' g A c F k p d) : Readto w w' g A c F k p d :=
  ⟨h.rr, (Only.of_below (below_new w o) _).trans h.only fun _ _ h => h⟩

/-- What stands at the head of a round. -/
structure RWi (w wr : World) (g : Nat) (A : Option Addr) (c : Nat) (F : Nat → Prop) (k : List UInt8) (p : Nat) (l : List ByteArray) (j : Nat) (v : Value) : Prop where
  box : Row wr w.heap.size 22 [v]
  row : wr.ownsRow (w.heap.size + 1) 9 1 v j ((l.take j).map Value.string)
  rd : Readto w wr g A c F k p 0

set_option maxHeartbeats 3200000 in
theorem swords_any (g : Nat) (A : Option Addr) (c : Nat) (F : Nat → Prop) (k : List UInt8) (p : Nat) (l : List ByteArray) (R : List UInt8) (w : World) (h : Rr w g A c F k p 0) (hk : k.drop p = enc l.length ++ (wsB l l.length ++ R))
    (h1 : 1 ≤ l.length) (h8 : l.length ≤ 8) (hw : wordsB l = true) (hF : ∀ j, F j → j < g) :
    Calls Tryz.prog 55 #[.pointer (some ⟨g, 0, none⟩)] w fun e w' => ∃ v, e = .returned v ∧ w'.ownsRow (w.heap.size + 1) 9 1 v l.length (l.map Value.string) ∧ Readto w w' g A c F k (p + ((enc l.length).length + (wsB l l.length).length)) 0 := by
  obtain ⟨i0, hi, hz0, hz1, hz2⟩ := info_parts str_info_
  have hgl := h.lt
  have HCT := Lib.hid (count_any g A c F k p l.length (wsB l l.length ++ R) (w.alloc (.cells #[.slice none 0 0] 22)) (h.below (below_new w _)) hk h8)
  have HK := Lib.hid hk
  have HWD := Lib.hid hw
  have HF := Lib.hid hF
  obtain ⟨n, hn⟩ : ∃ n, l.length = n := ⟨_, rfl⟩
  rw [hn] at HCT h1 h8 HK ⊢
  have HN := Lib.hid hn
  have HBX := Lib.hid (Row.new w [.slice none 0 0] 22)
  have hn0 : ¬ (n : Int) = 0 := by omega
  clear h hk hw hn hF
  go_enter Tryz.func55, Tryz.ntmps55
  go_wp2_with fail
  refine HCT.out.mono ?_
  rintro e W1 ⟨rfl, hto⟩
  have HBX1 := Lib.hid (HBX.out.only hto.only (by omega))
  have HT := Lib.hid (readto_from hto)
  clear hto
  go_wp2_with fail
  go_loopw [11] (fun i wr => ∃ (j : Nat) (v : Value), j ≤ n ∧ i = .int .i64 (j : Int) ∧ RWi w wr g A c F k (p + ((enc n).length + (wsB l j).length)) l j v) (fun i _ => n - (intOf i).toNat)
  case atStart => exact ⟨0, .slice none 0 0, Nat.zero_le _, rfl, ⟨HBX1.out, World.ownsRow_nil _ _ _ _, HT.out⟩⟩
  case round =>
    obtain ⟨j, v, hjn, rfl, hinv⟩ := hrel
    have HINV := Lib.hid hinv
    have hblt := hinv.box.lt
    clear hinv
    obtain ⟨a, cv, rfl⟩ := own_slice HINV.out.row
    have bj0 : (0 : Int) ≤ (j : Int) := by omega
    by_cases hj : j < n
    · have hji : (j : Int) < (n : Int) := by omega
      have hjl : j < l.length := by rw [HN.out]; exact hj
      have hbc := HINV.out.box.cell (k := 0) rfl
      have hsz : (nth l j).size ≤ 64 := wordsB_size HWD.out hjl
      have hnew : newB (l.take j) j (nth l j) = true := by
        rw [newB_take]
        exact List.all_eq_true.1 HWD.out j (List.mem_range.2 hjl)
      obtain ⟨R2, hR2⟩ := wsB_split l (j := j + 1) (n := n) (by omega)
      have hkd : k.drop (p + ((enc n).length + (wsB l j).length)) = enc (nth l j).size ++ ((nth l j).data.toList ++ (R2 ++ R)) := by
        rw [← Nat.add_assoc]
        refine drop_more (drop_more ?_)
        rw [HK.out, hR2, wsB_more]
        unfold wB
        simp only [List.append_assoc]
      have hrd : Rd wr.drew (fun q => q ≠ g) a j ((l.take j).map Value.string) := (Rd.of_own (w := wr.drew) HINV.out.row).mono fun q _ hq => by
        have := (HINV.out.row.lt q hq).1
        omega
      have HW := Lib.hid (sword_any g A c F k _ ⟨w.heap.size, 0, none⟩ a j cv (l.take j) (nth l j) (R2 ++ R) wr.drew (HINV.out.rd.rr.below (Below.refl _ _).drew) hkd hsz (by omega) hnew hbc (by show w.heap.size ≠ g; omega) hrd)
      have HSM := Lib.hid (strs_more l hjl)
      have HWM := Lib.hid (wsB_more l j)
      have hwl : (wB (nth l j)).length = (enc (nth l j).size).length + (nth l j).size := by unfold wB; simp
      clear hkd hnew hrd hR2
      generalize nth l j = x at *
      go_wp2_with fail
      refine startT (fun w' => w'.cell? ⟨w.heap.size, 0, none⟩ = some (.slice a j cv)) [5] (by kernel_rfl) ?_
      have hS0 : wr.drew.cell? ⟨w.heap.size, 0, none⟩ = some (.slice a j cv) := hbc
      refine takeT 0 (some 13) rfl rfl (by kernel_rfl) (by kernel_rfl) (fun _ _ _ h => h) (Reads.load 22 (.tmp 2) rfl _ _ rfl (fun w' h => ld_strs_ h rfl)) hS0 ?_
      simp only [Act.put, List.setIfInBounds_toArray, List.set_cons_zero, List.set_cons_succ]
      refine takeT 1 (some 14) rfl rfl (by kernel_rfl) (by kernel_rfl) (fun _ _ _ h => h) (Reads.move (x := .tmp 0) rfl rfl) hS0 ?_
      simp only [Act.put, List.setIfInBounds_toArray, List.set_cons_zero, List.set_cons_succ]
      refine takeT 2 (some 15) (v := .func (.func 64) #[] #[.pointer (some ⟨w.heap.size, 0, none⟩)]) rfl rfl (by kernel_rfl) (by kernel_rfl) (fun _ _ _ h => h) (Reads.makeFunc 64 (.tmp 2) rfl _ rfl (fun w' => mk_func_ _ _ w')) hS0 ?_
      simp only [Act.put, List.setIfInBounds_toArray, List.set_cons_zero, List.set_cons_succ]
      refine oneT 3 (by kernel_rfl) rfl (by kernel_rfl) (fun K hK => ?_)
      refine wp_call_any (args := [.pointer (some ⟨g, 0, none⟩), .func (.func 64) #[] #[.pointer (some ⟨w.heap.size, 0, none⟩)]]) rfl Tryz.func63 (by kernel_rfl) (by kernel_rfl) rfl HW.out ?_
      rintro e W3 ⟨rfl, hto3⟩
      refine ⟨_, rfl, ?_⟩
      have hb3 : Row W3 w.heap.size 22 [.slice a j cv] := (show Row wr.drew w.heap.size 22 [.slice a j cv] from HINV.out.box).only hto3.only (by omega)
      have hS3 := hb3.cell (k := 0) rfl
      have ho3 : W3.ownsRow (w.heap.size + 1) 9 1 (.slice a j cv) j ((l.take j).map Value.string) := own_only (w := wr.drew) HINV.out.row hto3.only (fun q hq e => by have h1 := (HINV.out.row.lt q hq).1; have h2 : q = g := e; omega)
      have ht3 : Readto w W3 g A c F k _ 0 := ⟨hto3.rr, (HINV.out.rd.only.trans (Only.of_below (Below.refl _ _).drew _) fun _ _ h => h).trans hto3.only fun _ _ h => h⟩
      refine hK.out _ _ (fun _ => hS3) ?_
      clear hK K
      change wpAnyT _ _ _ _ _ _ _ _ (Act.put _ (some 16) _) _
      simp only [Act.put, List.setIfInBounds_toArray, List.set_cons_zero, List.set_cons_succ]
      have hb4 := hb3.alloc (.cells #[.string x] 9)
      have ho4 := ho3.alloc (.cells #[.string x] 9)
      have ht4 := readto_new ht3 (.cells #[.string x] 9)
      refine oneT 4 (by kernel_rfl) rfl (by kernel_rfl) (fun K hK => ?_)
      refine wp_slice1 22 9 (.tmp 16) rfl (.string x) rfl #[.string x] (fun w' => mk_str_ x w') ?_
      refine hK.out _ _ (fun _ => hb4.cell (k := 0) rfl) ?_
      clear hK K
      change wpAnyT _ _ _ _ _ _ _ _ (Act.put _ (some 17) _) _
      simp only [Act.put, List.setIfInBounds_toArray, List.set_cons_zero, List.set_cons_succ]
      have hsz3 := hb3.lt
      refine oneT 5 (by kernel_rfl) rfl (by kernel_rfl) (fun K hK => ?_)
      refine wp_append_at (.tmp 13) (.tmp 17) 22 rfl (w.heap.size + 1) 9 i0 (.string ByteArray.empty) 1 16 Tryz.underlying22 hi hz0 hz1 hz2 rfl (by decide) (.slice a j cv) j _ rfl ho4 ⟨W3.heap.size, 0, none⟩ 1 1 [.string x] rfl rfl (Go.cell_one_new W3 (.string x) _) (by intro u hu; simp at hu; subst hu; rfl) (by unfold maxLen; omega) (by omega) (by simp; omega) (fun v5 W5 ho5 hg5 _ => ?_)
      refine hK.out _ _ (late_ok_ (by kernel_rfl)) ?_
      clear hK K
      change wpAnyT _ _ _ _ _ _ _ _ (Act.put _ (some 18) _) _
      simp only [Act.put, List.setIfInBounds_toArray, List.set_cons_zero, List.set_cons_succ]
      have hno : ∀ q, (Value.slice a j cv).ownBlock = some q → w.heap.size + 1 ≤ q := fun q hq => (ho4.lt q hq).1
      have ht5 := readto_grown ht4 hgl HF.out hg5 (fun q hq => by have := hno q hq; omega)
      have hb5 : Row W5 w.heap.size 22 [.slice a j cv] := hb4.only (only_grown hg5) (fun e => by have := hno _ e; omega)
      obtain ⟨a5, c5, rfl⟩ := own_slice ho5
      refine oneT 6 (by kernel_rfl) rfl (by kernel_rfl) (fun K hK => ?_)
      refine wp_store_cell 22 (.tmp 2) (.tmp 18) rfl ⟨w.heap.size, 0, none⟩ rfl (.slice a5 (j + 1) c5) rfl (st_strs_ (hb5.cell (k := 0) rfl) (hb5.free 0) rfl) ?_
      refine hK.out _ _ (late_ok_ (by kernel_rfl)) ?_
      clear hK K
      change wpAnyT _ _ _ _ _ _ _ _ (Act.put _ none _) _
      simp only [Act.put, List.setIfInBounds_toArray, List.set_cons_zero, List.set_cons_succ]
      refine doneT (by kernel_rfl) ?_ _
      have HN2 := Lib.hid (show RWi w (W5.setCell ⟨w.heap.size, 0, none⟩ (.slice a5 (j + 1) c5)) g A c F k (p + ((enc n).length + (wsB l (j + 1)).length)) l (j + 1) (.slice a5 (j + 1) c5) from by
        refine ⟨hb5.set 0 _, ?_, ?_⟩
        · rw [HSM.out]
          exact own_set_ ho5 (by show w.heap.size < _; omega) _
        · have e : p + ((enc n).length + (wsB l j).length) + ((enc x.size).length + x.size) = p + ((enc n).length + (wsB l (j + 1)).length) := by rw [HWM.out, List.length_append, hwl]; omega
          rw [e] at ht5
          exact ⟨ht5.rr.only (Only.setCell (S := fun q => q = w.heap.size) (Only.refl _ _) (.inl rfl) _) (by show ¬ g = w.heap.size; omega) (fun q hq e => by have h1 := HF.out q hq; have h2 : q = w.heap.size := e; omega), ht5.only.trans (Only.setCell (S := fun q => q = w.heap.size) (Only.refl _ _) (.inl rfl) _) fun q hq e => by have h2 : q = w.heap.size := e; omega⟩)
      go_wp2_with fail
      go_roundw
      case rel => exact ⟨j + 1, _, by omega, by go_num, HN2.out⟩
      case measure => simp [intOf] <;> omega
    · obtain rfl : j = n := by omega
      have hbc := HINV.out.box.cell (k := 0) rfl
      have hbf := HINV.out.box.free 0
      have hb2 : Row (wr.setCell ⟨w.heap.size, 0, none⟩ (.slice a j cv)) w.heap.size 22 [.slice a j cv] := HINV.out.box.set 0 _
      have hbc2 := hb2.cell (k := 0) rfl
      have hres : Tryz.f55.results = #[.cell 2 22] := by kernel_rfl
      go_wp2_with fail
      (try simp only [Exit.inBlock, Exit.then])
      refine bodyPost_ret (v := .slice a j cv) ?_ rfl ?_
      · simp only [results, hres]
        go_simp
      · refine ⟨_, rfl, ?_, ?_⟩
        · have h1 := HINV.out.row
          rw [List.take_of_length_le (by rw [HN.out]; exact Nat.le_refl _)] at h1
          exact own_set_ h1 (by show w.heap.size < _; omega) _
        · have h1 := HINV.out.rd
          exact ⟨h1.rr.only (Only.setCell (S := fun q => q = w.heap.size) (Only.refl _ _) (.inl rfl) _) (by show ¬ g = w.heap.size; omega) (fun q hq e => by have h1 := HF.out q hq; have h2 : q = w.heap.size := e; omega), h1.only.trans (Only.setCell (S := fun q => q = w.heap.size) (Only.refl _ _) (.inl rfl) _) fun q hq e => by have h2 : q = w.heap.size := e; omega⟩
end

section
set_option maxRecDepth 100000
set_option linter.unusedSimpArgs false
set_option linter.unusedVariables false
open Go.RowKit

theorem fwc_any (q : Addr) (a : Option Addr) (n cap : Nat) (l : List ByteArray) (s : ByteArray) (hs : s.size ≤ maxLen) (hn : n ≤ 9223372036854775807) (hf : folB l s = true) (w : World) (hq : w.cell? q = some (.slice a n cap)) (h : Strs w a n l) :
    Calls Tryz.prog 66 #[.string s, .pointer (some q)] w fun e w' => e = .returned (.bool true) ∧ Below w.heap.size w w' := by
  have hr := follows_any a n cap l s hs hn w h
  rw [hf] at hr
  have HR := Lib.hid hr
  clear hr h hs hn hf
  go_enter Tryz.func66, Tryz.ntmps66
  go_wp2_with fail
  refine HR.out.mono ?_
  rintro e W1 ⟨rfl, hb⟩
  have HB := Lib.hid hb
  clear hb
  go_wp2_with fail
  go_ret
  exact ⟨rfl, by rw [HB.out]; exact Below.refl _ _⟩
section
variable (g : Nat) (A : Option Addr) (c : Nat) (F : Nat → Prop) (k : List UInt8) (p : Nat)
theorem fasked_any (q : Addr) (a : Option Addr) (n cap : Nat) (l : List ByteArray) (s : ByteArray) (R : List UInt8) (w : World) (h : Rr w g A c F k p 0) (hk : k.drop p = enc s.size ++ (s.data.toList ++ R)) (hs : s.size ≤ 64)
    (hn : n ≤ 9223372036854775807) (hf : folB l s = true) (hq : w.cell? q = some (.slice a n cap)) (hqg : q.block ≠ g) (hl : Rd w (fun j => j ≠ g) a n (l.map .string)) :
    Calls Tryz.prog 69 #[.pointer (some ⟨g, 0, none⟩), .func (.func 70) #[] #[], .func (.func 66) #[] #[.pointer (some q)]] w fun e w' => e = .returned (.string s) ∧ Readto w w' g A c F k (p + ((enc s.size).length + s.size)) 0 := by
  have HR := Lib.hid (sread_any g A c F k p s R w h hk hs)
  have HA := Lib.hid (show ∀ w1 : World, Only (fun j => j = g) w w1 → Calls Tryz.prog 66 #[.string s, .pointer (some q)] w1 fun e w' => e = .returned (.bool true) ∧ Below w1.heap.size w1 w' from
    fun w1 ho => fwc_any q a n cap l s (by unfold maxLen; omega) hn hf w1 ((ho.cell hqg (lt_of_cell hq)).trans hq) ((hl.only ho fun _ h => h).mono fun _ _ _ => trivial))
  clear h hk hf hq hl
  go_enter Tryz.func69, Tryz.ntmps69
  go_wp2_with fail
  refine HR.out.mono ?_
  rintro e W1 ⟨rfl, hto⟩
  have HT := Lib.hid hto
  clear hto
  go_wp2_with fail
  refine (HA.out _ HT.out.only).mono ?_
  rintro e W2 ⟨rfl, hb⟩
  have HB := Lib.hid hb
  clear hb
  go_wp2_with fail
  go_ret
  exact ⟨rfl, readto_then HT.out HB.out⟩
theorem fword_any (q : Addr) (a : Option Addr) (n cap : Nat) (l : List ByteArray) (s : ByteArray) (R : List UInt8) (w : World) (h : Rr w g A c F k p 0) (hk : k.drop p = enc s.size ++ (s.data.toList ++ R)) (hs : s.size ≤ 64)
    (hn : n ≤ 9223372036854775807) (hf : folB l s = true) (hq : w.cell? q = some (.slice a n cap)) (hqg : q.block ≠ g) (hl : Rd w (fun j => j ≠ g) a n (l.map .string)) :
    Calls Tryz.prog 63 #[.pointer (some ⟨g, 0, none⟩), .func (.func 66) #[] #[.pointer (some q)]] w fun e w' => e = .returned (.string s) ∧ Readto w w' g A c F k (p + ((enc s.size).length + s.size)) 0 := by
  have HA := Lib.hid (fasked_any g A c F k p q a n cap l s R w h hk hs hn hf hq hqg hl)
  clear h hk hf hq hl
  go_enter Tryz.func63, Tryz.ntmps63
  go_wp2_with fail
  refine HA.out.mono ?_
  rintro e W1 ⟨rfl, hto⟩
  have HT := Lib.hid hto
  clear hto
  go_wp2_with fail
  go_ret
  exact ⟨rfl, HT.out⟩
end
end

section
set_option maxRecDepth 100000
set_option linter.unusedSimpArgs false
set_option linter.unusedVariables false
open Go.RowKit

def eqN (l m : List ByteArray) (n : Nat) : Bool := (List.range n).all fun i => eqS (nth l i) (nth m i)
theorem eqN_more (l m : List ByteArray) (n : Nat) : eqN l m (n + 1) = (eqN l m n && eqS (nth l n) (nth m n)) := by
  unfold eqN
  rw [List.range_succ, List.all_append]
  simp only [List.all_cons, List.all_nil, Bool.and_true]
theorem eqN_no {l m : List ByteArray} {n k : Nat} (h : eqN l m n = false) (hm : n ≤ k) : eqN l m k = false := by
  unfold eqN at *
  rw [← Bool.not_eq_true, List.all_eq_true] at *
  exact fun h' => h fun i hi => h' i (List.mem_range.2 (by have := List.mem_range.1 hi; omega))
end

section
set_option maxRecDepth 100000
set_option linter.unusedSimpArgs false
set_option linter.unusedVariables false
open Go.RowKit

theorem Gives.load_at {P : Program} {S : World → Prop} {o : Oper} {a : Act} (ty : TypeId) (x : Operand) (ho : o.op = .load ty x) (ad : Addr) (hx : a.eval x = .pointer (some ad)) (cs : List Value) (d : TypeDesc) (hS : ∀ w, S w → ∀ j v, cs[j]? = some v → w.cell? (ad.add j) = some v)
    (hu : P.underlying ty = some d) (hd : rowD d = true) (hi : (P.info? ty).map (·.size) = some cs.length) : Gives P S o (.agg cs.toArray) a :=
  Gives.load ty x ho (.pointer (some ad)) _ hx fun w hw => by
    simp only [Instr.loadAt, Instr.sureAddr, Sem.run_bind, Sem.run_pure, Result.andThen_ok, run_loadVar_at w ad ty cs d (hS w hw) hu hd hi]
theorem fs_2 (g : Nat) (w : World) : (Instr.fieldAt 25 (.pointer (some ⟨g, 0, none⟩)) 2).run Tryz.prog w = .ok (.pointer (some ⟨g, 2, none⟩)) w := by kernel_rfl
theorem ld_ss {a : Addr} {v : Value} {w : World} (h : w.cell? a = some v) : (Instr.loadAt 23 (.pointer (some a))).run Tryz.prog w = .ok v w := by
  go_simp
theorem un_not (b : Bool) (w : World) : (Op.unary .not (.bool b)).run Tryz.prog w = .ok (.bool (!b)) w := rfl
theorem VAt.one {w : World} {v : Vt} {cs : List Value} (h : VAt w v cs) : cs.toArray.all (·.oneCell') = true := by cases h; rw [List.all_toArray]; rfl
theorem Row.setRow {w : World} {g : Nat} {T : TypeId} {l : List Value} (h : Row w g T l) (m : List Value) : Row (w.setRow g m.toArray) g T m := setRow_heap w g _ _ _ _ h
theorem Row.setRowOther {w : World} {g k : Nat} {T : TypeId} {l : List Value} (h : Row w g T l) (hk : g ≠ k) (m : Array Value) : Row (w.setRow k m) g T l := (setRow_other w k g m hk).trans h
theorem Vt.sound_mk {k n : Int} {s : ByteArray} {names : List ByteArray} {ids : List Int} {len : Nat} {parts : Nat → Vt} (h : (Vt.mk k n s names ids len parts).sound = true) : headV k n s names ids len = true ∧ ∀ i, i < len → (parts i).sound = true := by
  rw [Vt.sound, Bool.and_eq_true, List.all_eq_true] at h
  exact ⟨h.1, fun i hi => h.2 i (List.mem_range.2 hi)⟩
theorem St.sound_mk {k : Int} {words : List ByteArray} {len : Nat} {parts : Nat → St} (h : (St.mk k words len parts).sound = true) : headS k words len = true ∧ ∀ i, i < len → (parts i).sound = true := by
  rw [St.sound, Bool.and_eq_true, List.all_eq_true] at h
  exact ⟨h.1, fun i hi => h.2 i (List.mem_range.2 hi)⟩
theorem headV_5 {n : Int} {s : ByteArray} {names : List ByteArray} {ids : List Int} {len : Nat} (h : headV 5 n s names ids len = true) : len = names.length := by
  unfold headV at h
  rw [if_neg (by decide), if_neg (by decide), if_neg (by decide), if_neg (by decide), if_pos rfl] at h
  simp only [Bool.and_eq_true, decide_eq_true_eq] at h
  exact h.1.2
theorem headS_5 {words : List ByteArray} {len : Nat} (h : headS 5 words len = true) : len = words.length := by
  unfold headS at h
  rw [if_neg (by decide), if_neg (by decide), if_pos rfl] at h
  simp only [Bool.and_eq_true, decide_eq_true_eq] at h
  exact h.1.2
theorem headS_6 {words : List ByteArray} {len : Nat} (h : headS 6 words len = true) : len = 1 := by
  unfold headS at h
  rw [if_neg (by decide), if_neg (by decide), if_neg (by decide), if_pos rfl] at h
  simp only [Bool.and_eq_true, decide_eq_true_eq] at h
  exact h.2
theorem eqL_len {l m : List ByteArray} (h : eqL l m = true) : l.length = m.length := by
  unfold eqL at h
  rw [Bool.and_eq_true, decide_eq_true_eq] at h
  exact h.1
def allN (f : Nat → Bool) (n : Nat) : Bool := (List.range n).all f
theorem allN_more (f : Nat → Bool) (n : Nat) : allN f (n + 1) = (allN f n && f n) := by
  unfold allN
  rw [List.range_succ, List.all_append]
  simp only [List.all_cons, List.all_nil, Bool.and_true]
theorem allN_no {f : Nat → Bool} {n k : Nat} (h : allN f n = false) (hm : n ≤ k) : allN f k = false := by
  unfold allN at *
  rw [← Bool.not_eq_true, List.all_eq_true] at *
  exact fun h' => h fun i hi => h' i (List.mem_range.2 (by have := List.mem_range.1 hi; omega))
end

end Go.Proofs.YtkkdjkmnemnpdaaGreatDoor
