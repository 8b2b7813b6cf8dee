/- What a reader's calls for bytes, raw bytes, texts and signed numbers come to, whatever its bytes are. -/
import Derived.Test.YtaekepejeokciaaDoorReadS
import Derived.Deep.RegionHeld3
namespace Go.Proofs.YtaekepejeokciaaDoor
set_option maxRecDepth 100000
open Go.RowKit

set_option maxHeartbeats 400000 in
theorem raw1_short (A : Option Addr) (n c : Nat) (q : Addr) (m : Int) (w : World) (hq : w.cell? q = some (.int .i64 m)) (hm : (n : Int) < m) :
    Calls Tryd.prog 81 #[.slice A n c, .pointer (some q)] w fun e w' => e = .returned (.tuple #[.slice none 0 0, .int .i64 0, .int .i64 2]) ∧ w' = w := by
  go_enter Tryd.func81, Tryd.ntmps81
  go_wp2_with fail
  go_ret3
  exact ⟨rfl, rfl⟩

set_option maxHeartbeats 400000 in
theorem raw1_ok (A : Option Addr) (n c : Nat) (k : List UInt8) (F : Nat → Prop) (q : Addr) (m : Int) (w : World) (hr : Rd w F A n (Bs k)) (hn : n ≤ 140737488355328) (hnc : n ≤ c) (_hct : c ≤ 9223372036854775807) (hq : w.cell? q = some (.int .i64 m)) (hm : ¬ (n : Int) < m) :
    Calls Tryd.prog 81 #[.slice A n c, .pointer (some q)] w (Got w (k.take m.toNat) m.toNat) := by
  have hkl := hr.len
  have hxl : (k.take m.toNat).length = m.toNat := by simp; omega
  have hrc : Rd w F A m.toNat (Bs (k.take m.toNat)) := by
    refine ⟨by rw [Bs_length, hxl], fun h0 => ?_⟩
    obtain ⟨ad, rfl, hF, hb, hcell⟩ := hr.2 (by omega)
    refine ⟨ad, rfl, hF, hb, fun j u hu => hcell j u ?_⟩
    have hj : j < m.toNat := by
      have := (List.getElem?_eq_some_iff.1 hu).1
      simp [Bs] at this
      omega
    rw [← hu, Bs_get, Bs_get, List.getElem?_take, if_pos hj]
  have HR := Lib.hid hr
  have HXL := Lib.hid hxl
  clear hr hxl hkl
  generalize k.take m.toNat = x at *
  by_cases h0 : 0 ≤ m
  · obtain ⟨j, rfl⟩ := Int.eq_ofNat_of_zero_le h0
    rw [Int.toNat_natCast] at hrc ⊢
    have HRC := Lib.hid hrc
    clear hrc
    have h2 : ¬ (n : Int) < j := hm
    have h3 : j ≤ n := by omega
    clear hm h0
    have HX2 := Lib.hid HRC.out.len
    go_enter Tryd.func81, Tryd.ntmps81
    go_wp2_with fail
    refine (clone_any A j _ x F _ HRC.out (by omega)).mono ?_
    rintro e w1 ⟨v, rfl, hown, hb⟩
    obtain ⟨A1, c1, rfl⟩ := own_slice hown
    have HO := Lib.hid hown
    have HB := Lib.hid hb
    clear hown hb
    go_wp2_with fail
    go_ret3
    exact got rfl rfl HO.out HB.out
  · have e0 : m.toNat = 0 := by omega
    rw [e0] at hrc ⊢
    have HRC := Lib.hid hrc
    clear hrc e0
    go_enter Tryd.func81, Tryd.ntmps81
    go_wp2_with fail
    refine (clone_any A 0 _ x F _ HRC.out (by omega)).mono ?_
    rintro e w1 ⟨v, rfl, hown, hb⟩
    obtain ⟨A1, c1, rfl⟩ := own_slice hown
    have HO := Lib.hid hown
    have HB := Lib.hid hb
    clear hown hb
    go_wp2_with fail
    go_ret3
    exact got rfl rfl HO.out HB.out

set_option maxHeartbeats 800000 in
theorem fS_err (g : Nat) (A : Option Addr) (c : Nat) (F : Nat → Prop) (k : List UInt8) (p : Nat) (q : Addr) (d : Int) (w : World) (h : Rr w g A c F k p 0) (hd : (d != 0) = true)
    (hcall : ∀ X C i, (Rd w F X (k.length - p) (Bs (k.drop p))) → Calls Tryd.prog 80 #[.slice X (k.length - p) C, .pointer (some q)] (w.drewN i) fun e w' => e = .returned (.tuple #[.slice none 0 0, .int .i64 0, .int .i64 d]) ∧ w' = w.drewN i) :
    Calls Tryd.prog 79 #[.pointer (some ⟨g, 0, none⟩), .func (.func 80) #[] #[.pointer (some q)]] w fun e w' => e = .returned (.slice none 0 0) ∧ Readto w w' g A c F k p d := by
  have h0 := h.c0
  have h1 := h.c1
  have h2 := h.c2
  have hcap := h.cap
  have htop := h.top
  have hle := h.le
  unfold maxLen at htop
  have f2 := h.f 2
  have HCALL := Lib.hid hcall
  clear hcall
  rcases h.left_cases with ⟨hcp, hl⟩ | ⟨hcp, hl⟩
  · have H := Lib.hid h
    have HC := Lib.hid (fun i => HCALL.out A 0 i hl)
    clear h hl
    go_enter Tryd.func79, Tryd.ntmps79
    go_wp2_with fail
    go_quiet ((go_at_call 80; exact Calls.quiet_of_same (HC.out _)))
    go_wp2_with fail
    refine (fail_any g A c F k p d _ (H.out.drewN _)).mono ?_
    rintro e w' ⟨rfl, rfl⟩
    go_wp2_with fail
    go_ret
    exact ⟨rfl, H.out.fell _ _⟩
  · have H := Lib.hid h
    have HC := Lib.hid (fun i => HCALL.out (Option.map (fun x => x.add p) A) (c - p) i hl)
    clear h hl
    go_enter Tryd.func79, Tryd.ntmps79
    go_wp2_with fail
    go_quiet ((go_at_call 80; exact Calls.quiet_of_same (HC.out _)))
    go_wp2_with fail
    refine (fail_any g A c F k p d _ (H.out.drewN _)).mono ?_
    rintro e w' ⟨rfl, rfl⟩
    go_wp2_with fail
    go_ret
    exact ⟨rfl, H.out.fell _ _⟩

/-- What a reader leaves behind bytes that it read: they lie in a row of their own. -/
def Took (w : World) (g : Nat) (A : Option Addr) (c : Nat) (F : Nat → Prop) (k x : List UInt8) (p : Nat) (e : Ending) (w' : World) : Prop :=
  ∃ A1 c1, e = .returned (.slice A1 x.length c1) ∧ w'.ownsRow w.heap.size 5 1 (.slice A1 x.length c1) x.length (Bs x) ∧ Readto w w' g A c F k p 0
theorem took_row {w w1 : World} {g : Nat} {A : Option Addr} {c : Nat} {F : Nat → Prop} {k x : List UInt8} {p t : Nat} {A1 : Option Addr} {c1 : Nat} {y : Int} (h : Rr w g A c F k p 0)
    (ho : w1.ownsRow w.heap.size 5 1 (.slice A1 x.length c1) x.length (Bs x)) (hb : Below w.heap.size w.drew w1) (ht : p + t ≤ k.length) (hy : y = ((p + t : Nat) : Int)) :
    Took w g A c F k x (p + t) (.returned (.slice A1 x.length c1)) (w1.setCell ⟨g, 1, none⟩ (.int .i64 y)) := by
  subst hy
  have hb' : Below w.heap.size w w1 := ⟨hb.os, hb.tape, hb.output, hb.size, hb.block⟩
  have h1 := h.below hb'
  have hlt := h.lt
  refine ⟨A1, c1, rfl, ?_, h1.move ht, ((Only.of_below hb' (fun j => j = g))).setCell (p := ⟨g, 1, none⟩) (.inl rfl) _⟩
  refine own_only ho ((Only.refl (fun j => j = g) w1).setCell (p := ⟨g, 1, none⟩) (.inl rfl) _) fun j hj e => ?_
  have := (ho.lt j hj).1
  omega

set_option maxHeartbeats 800000 in
theorem fS_ok (g : Nat) (A : Option Addr) (c : Nat) (F : Nat → Prop) (k : List UInt8) (p : Nat) (q : Addr) (x : List UInt8) (t : Nat) (w : World) (h : Rr w g A c F k p 0) (ht : p + t ≤ k.length)
    (hcall : ∀ X C, (Rd w F X (k.length - p) (Bs (k.drop p))) → k.length - p ≤ C → C ≤ 9223372036854775807 → Calls Tryd.prog 80 #[.slice X (k.length - p) C, .pointer (some q)] w.drew (Got w.drew x t)) :
    Calls Tryd.prog 79 #[.pointer (some ⟨g, 0, none⟩), .func (.func 80) #[] #[.pointer (some q)]] w (Took w g A c F k x (p + t)) := by
  have h0 := h.c0
  have h1 := h.c1
  have h2 := h.c2
  have hcap := h.cap
  have htop := h.top
  have hle := h.le
  unfold maxLen at htop
  have hsm := h.small
  have hlt := h.lt
  have HCALL := Lib.hid hcall
  clear hcall
  rcases h.left_cases with ⟨hcp, hl⟩ | ⟨hcp, hl⟩
  · have H := Lib.hid h
    have HC := Lib.hid (HCALL.out A 0 hl (by omega) (by omega))
    clear h hl
    go_enter Tryd.func79, Tryd.ntmps79
    go_wp2_with fail
    go_region_held3 (fun w' => w'.cell? ⟨g, 0, none⟩ = some (.slice A k.length c) ∧ w'.cell? ⟨g, 1, none⟩ = some (.int .i64 p)) (go_keep)
      (first | (go_at_call 80; refine (HC.out).mono ?_; rintro e w1 ⟨A1, c1, rfl, hown, hb⟩; have hh0 := (hb.cell (p := ⟨g, 0, none⟩) hlt).trans h0; have hh1 := (hb.cell (p := ⟨g, 1, none⟩) hlt).trans h1; have hf1 := (hb.frozen (p := ⟨g, 1, none⟩) hlt).trans (H.out.f 1); have HO := Lib.hid hown; have HB := Lib.hid hb; clear hown hb))
    go_wp2_with fail
    go_ret
    exact took_row H.out HO.out HB.out ht (by omega)
  · have H := Lib.hid h
    have HC := Lib.hid (HCALL.out (Option.map (fun x => x.add p) A) (c - p) hl (by omega) (by omega))
    clear h hl
    go_enter Tryd.func79, Tryd.ntmps79
    go_wp2_with fail
    go_region_held3 (fun w' => w'.cell? ⟨g, 0, none⟩ = some (.slice A k.length c) ∧ w'.cell? ⟨g, 1, none⟩ = some (.int .i64 p)) (go_keep)
      (first | (go_at_call 80; refine (HC.out).mono ?_; rintro e w1 ⟨A1, c1, rfl, hown, hb⟩; have hh0 := (hb.cell (p := ⟨g, 0, none⟩) hlt).trans h0; have hh1 := (hb.cell (p := ⟨g, 1, none⟩) hlt).trans h1; have hf1 := (hb.frozen (p := ⟨g, 1, none⟩) hlt).trans (H.out.f 1); have HO := Lib.hid hown; have HB := Lib.hid hb; clear hown hb))
    go_wp2_with fail
    go_ret
    exact took_row H.out HO.out HB.out ht (by omega)

set_option maxHeartbeats 800000 in
theorem fR_err (g : Nat) (A : Option Addr) (c : Nat) (F : Nat → Prop) (k : List UInt8) (p : Nat) (q : Addr) (d : Int) (w : World) (h : Rr w g A c F k p 0) (hd : (d != 0) = true)
    (hcall : ∀ X C i, (Rd w F X (k.length - p) (Bs (k.drop p))) → Calls Tryd.prog 81 #[.slice X (k.length - p) C, .pointer (some q)] (w.drewN i) fun e w' => e = .returned (.tuple #[.slice none 0 0, .int .i64 0, .int .i64 d]) ∧ w' = w.drewN i) :
    Calls Tryd.prog 79 #[.pointer (some ⟨g, 0, none⟩), .func (.func 81) #[] #[.pointer (some q)]] w fun e w' => e = .returned (.slice none 0 0) ∧ Readto w w' g A c F k p d := by
  have h0 := h.c0
  have h1 := h.c1
  have h2 := h.c2
  have hcap := h.cap
  have htop := h.top
  have hle := h.le
  unfold maxLen at htop
  have f2 := h.f 2
  have HCALL := Lib.hid hcall
  clear hcall
  rcases h.left_cases with ⟨hcp, hl⟩ | ⟨hcp, hl⟩
  · have H := Lib.hid h
    have HC := Lib.hid (fun i => HCALL.out A 0 i hl)
    clear h hl
    go_enter Tryd.func79, Tryd.ntmps79
    go_wp2_with fail
    go_quiet ((go_at_call 81; exact Calls.quiet_of_same (HC.out _)))
    go_wp2_with fail
    refine (fail_any g A c F k p d _ (H.out.drewN _)).mono ?_
    rintro e w' ⟨rfl, rfl⟩
    go_wp2_with fail
    go_ret
    exact ⟨rfl, H.out.fell _ _⟩
  · have H := Lib.hid h
    have HC := Lib.hid (fun i => HCALL.out (Option.map (fun x => x.add p) A) (c - p) i hl)
    clear h hl
    go_enter Tryd.func79, Tryd.ntmps79
    go_wp2_with fail
    go_quiet ((go_at_call 81; exact Calls.quiet_of_same (HC.out _)))
    go_wp2_with fail
    refine (fail_any g A c F k p d _ (H.out.drewN _)).mono ?_
    rintro e w' ⟨rfl, rfl⟩
    go_wp2_with fail
    go_ret
    exact ⟨rfl, H.out.fell _ _⟩

set_option maxHeartbeats 800000 in
theorem fR_ok (g : Nat) (A : Option Addr) (c : Nat) (F : Nat → Prop) (k : List UInt8) (p : Nat) (q : Addr) (x : List UInt8) (t : Nat) (w : World) (h : Rr w g A c F k p 0) (ht : p + t ≤ k.length)
    (hcall : ∀ X C, (Rd w F X (k.length - p) (Bs (k.drop p))) → k.length - p ≤ C → C ≤ 9223372036854775807 → Calls Tryd.prog 81 #[.slice X (k.length - p) C, .pointer (some q)] w.drew (Got w.drew x t)) :
    Calls Tryd.prog 79 #[.pointer (some ⟨g, 0, none⟩), .func (.func 81) #[] #[.pointer (some q)]] w (Took w g A c F k x (p + t)) := by
  have h0 := h.c0
  have h1 := h.c1
  have h2 := h.c2
  have hcap := h.cap
  have htop := h.top
  have hle := h.le
  unfold maxLen at htop
  have hsm := h.small
  have hlt := h.lt
  have HCALL := Lib.hid hcall
  clear hcall
  rcases h.left_cases with ⟨hcp, hl⟩ | ⟨hcp, hl⟩
  · have H := Lib.hid h
    have HC := Lib.hid (HCALL.out A 0 hl (by omega) (by omega))
    clear h hl
    go_enter Tryd.func79, Tryd.ntmps79
    go_wp2_with fail
    go_region_held3 (fun w' => w'.cell? ⟨g, 0, none⟩ = some (.slice A k.length c) ∧ w'.cell? ⟨g, 1, none⟩ = some (.int .i64 p)) (go_keep)
      (first | (go_at_call 81; refine (HC.out).mono ?_; rintro e w1 ⟨A1, c1, rfl, hown, hb⟩; have hh0 := (hb.cell (p := ⟨g, 0, none⟩) hlt).trans h0; have hh1 := (hb.cell (p := ⟨g, 1, none⟩) hlt).trans h1; have hf1 := (hb.frozen (p := ⟨g, 1, none⟩) hlt).trans (H.out.f 1); have HO := Lib.hid hown; have HB := Lib.hid hb; clear hown hb))
    go_wp2_with fail
    go_ret
    exact took_row H.out HO.out HB.out ht (by omega)
  · have H := Lib.hid h
    have HC := Lib.hid (HCALL.out (Option.map (fun x => x.add p) A) (c - p) hl (by omega) (by omega))
    clear h hl
    go_enter Tryd.func79, Tryd.ntmps79
    go_wp2_with fail
    go_region_held3 (fun w' => w'.cell? ⟨g, 0, none⟩ = some (.slice A k.length c) ∧ w'.cell? ⟨g, 1, none⟩ = some (.int .i64 p)) (go_keep)
      (first | (go_at_call 81; refine (HC.out).mono ?_; rintro e w1 ⟨A1, c1, rfl, hown, hb⟩; have hh0 := (hb.cell (p := ⟨g, 0, none⟩) hlt).trans h0; have hh1 := (hb.cell (p := ⟨g, 1, none⟩) hlt).trans h1; have hf1 := (hb.frozen (p := ⟨g, 1, none⟩) hlt).trans (H.out.f 1); have HO := Lib.hid hown; have HB := Lib.hid hb; clear hown hb))
    go_wp2_with fail
    go_ret
    exact took_row H.out HO.out HB.out ht (by omega)

end Go.Proofs.YtaekepejeokciaaDoor
