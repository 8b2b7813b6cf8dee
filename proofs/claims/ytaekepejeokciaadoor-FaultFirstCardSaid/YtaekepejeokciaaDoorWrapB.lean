/- FaultWraps: the walk. -/
import Derived.Test.YtaekepejeokciaaDoorWrapA
namespace Go.Proofs.YtaekepejeokciaaDoor
set_option maxRecDepth 100000
open Go.RowKit

theorem fb_new (w : World) (n : Int) (v : Value) : FB (w.alloc (.cells #[.int .i64 n, v] 26)) w.heap.size n v := heap_alloc_new _ _

set_option maxHeartbeats 2000000 in
theorem wraps_law (code : Nat) (n : Int) (a : Option Addr) (len c : Nat) (zs : List Int) (F : Nat → Prop) (w : World) (hc : code < 256) (h16 : (code : Int) % 16 = n) (hr : Rd w F a len (Is zs)) (hlen : len ≤ 9223372036854775807) (hg : ErrTy w) :
    Calls Tryd.prog 3 #[.int .u8 code, .slice a len c] w fun e w' => e = .returned (.bool true) ∧ Below w.heap.size w w' := by
  have HR := Lib.hid hr
  have HG := Lib.hid hg
  have H16 := Lib.hid h16
  have hp40 := madeP_length n zs
  clear hr hg h16
  go_enter Tryd.func3, Tryd.ntmps3
  go_wp2_with fail
  refine (made_er code n a len c zs F _ hc H16.out HR.out hlen).mono ?_
  rintro e w1 ⟨x, A, m, c', rfl, her, hrd, hb1⟩
  generalize madeP n zs = ps at *
  have hb2 : Below w1.heap.size w1 (w1.alloc (.cells #[.int .i64 n, .slice A m c'] 26)) := (Below.refl _ _).alloc (Nat.le_refl _) _
  have hfb := fb_new w1 n (.slice A m c')
  have c0 := hfb.c0
  have c1 := hfb.c1
  have hml : ps.length = m := hrd.leni
  have hq : (n != n) = false := by simp
  have HE := Lib.hid (her.below hb2)
  have HP := Lib.hid (hrd.belowAll hb2)
  have HG2 := Lib.hid ((HG.out.below hb1 HG.out.pos).below hb2 (Nat.lt_of_lt_of_le HG.out.pos hb1.size))
  have HB2 := Lib.hid (hb1.trans (hb2.mono hb1.size))
  have hz : w1.heap.size < (w1.alloc (.cells #[.int .i64 n, .slice A m c'] 26)).heap.size := by simp
  have HZ := Lib.hid hz
  have hf : x = .nilIface ∧ (n == 0) = true ∨ ∃ T y, x = .iface T y ∧ (n == 0) = false := by
    rcases her with ⟨h0, _, rfl⟩ | ⟨h0, h⟩
    · exact .inl ⟨rfl, beq_iff_eq.2 h0⟩
    · obtain ⟨T, y, e⟩ := h.iface
      exact .inr ⟨T, y, e, beq_eq_false_iff_ne.2 h0⟩
  clear her hrd hb1 hb2 hfb hz
  have hp1000 : ps.length ≤ 1000 := by omega
  rcases hf with ⟨rfl, hn0⟩ | ⟨T, y, rfl, hn0⟩
  all_goals
    go_wp2_with fail
    generalize w1.alloc (.cells #[.int .i64 n, .slice A m c'] 26) = w2 at *
    have HED := Lib.hid (HE.out.below ((Below.refl _ _).drew))
    have HGD := Lib.hid (HG2.out.below ((Below.refl w2.heap.size _).drew) HG2.out.pos)
    have HPD := Lib.hid (HP.out.belowAll ((Below.refl _ _).drew))
    have HC1 := Lib.hid c1
    go_region_held3 (fun w' => w'.cell? ⟨w1.heap.size, 0, none⟩ = some (.int .i64 n) ∧ w'.cell? ⟨w1.heap.size, 1, none⟩ = some (.slice A m c'))
      (first
        | go_keep
        | (go_split_ands
           exact ⟨(hb.cell (p := ⟨w1.heap.size, 0, none⟩) (lt_of_cell (by assumption))).trans (by assumption), (hb.cell (p := ⟨w1.heap.size, 1, none⟩) (lt_of_cell (by assumption))).trans (by assumption)⟩))
      (first
        | (go_at_call 10; refine (code_er ps n _ _ HED.out hp1000 HGD.out).mono ?_; rintro e w3 ⟨rfl, hb⟩; have HE3 := Lib.hid (HED.out.below hb); have HG3 := Lib.hid (HGD.out.below hb HGD.out.pos); have HP3 := Lib.hid (HPD.out.belowAll hb); have HB3 := Lib.hid hb)
        | (go_at_call 12; refine (places_er ps n _ _ HE3.out hp1000 HG3.out).mono ?_; rintro e w4 ⟨A4, m4, c4, rfl, hrd4, hb⟩; have HE4 := Lib.hid (HE3.out.below hb); have HG4 := Lib.hid (HG3.out.below hb HG3.out.pos); have HP4 := Lib.hid (HP3.out.belowAll hb); have HR4 := Lib.hid hrd4; have HB4 := Lib.hid hb; clear hrd4)
        | (go_at_call 11; refine (ints_same _ _ _ _ _ _ ps _ _ _ (by have := HR4.out.leni; omega) HR4.out HP4.out).mono ?_; rintro e w5 ⟨rfl, q, rfl⟩))
    have k3 := (HB3.out.cell (p := ⟨w1.heap.size, 1, none⟩) (lt_of_cell HC1.out)).trans HC1.out
    have k1 := (HB4.out.cell (p := ⟨w1.heap.size, 1, none⟩) (lt_of_cell k3)).trans k3
    clear k3
    have HEQ := Lib.hid (HE4.out.below (below_drewN (n := q) (Below.refl w4.heap.size w4)))
    have HGQ := Lib.hid (HG4.out.below (below_drewN (n := q) (Below.refl w4.heap.size w4)) HG4.out.pos)
    have hb40 : Below w.heap.size w (w4.drewN q) := below_drewN (((HB2.out.trans ((Below.refl _ _).drew)).trans (HB3.out.mono (by exact HB2.out.size))).trans (HB4.out.mono (Nat.le_trans HB2.out.size (by exact HB3.out.size))))
    have HB40 := Lib.hid hb40
    clear hb40
    cases ps with
    | nil =>
      have hm0 : m = 0 := hml.symm
      subst hm0
      go_wp2_with fail
      refine (place_er [] n _ _ HEQ.out (by simp) HGQ.out).mono ?_
      rintro e w6 ⟨rfl, hb6⟩
      rw [show plc [] = -1 from rfl]
      have HG6 := Lib.hid (HGQ.out.below hb6 HGQ.out.pos)
      have HB6 := Lib.hid (HB40.out.trans (hb6.mono HB40.out.size))
      clear hb6
      go_wp2_with fail
      refine (awake1_any _ HG6.out).mono ?_
      rintro e w7 ⟨rfl, hb7⟩
      have HB7 := Lib.hid (HB6.out.trans (hb7.mono HB6.out.size))
      clear hb7
      go_wp2_with fail
      go_ret
      exact ⟨rfl, HB7.out⟩
    | cons p r =>
      have hm0 : (0 : Int) < m := by simp at hml; omega
      obtain ⟨a0, x0, rfl, hab, hx, hca⟩ := HP4.out.num (k := 0) (by omega)
      obtain rfl : p = x0 := by simpa using hx
      rw [Addr.add_zero'] at hca
      clear hx
      go_wp2_with fail
      refine (place_er (p :: r) n _ _ HEQ.out (by omega) HGQ.out).mono ?_
      rintro e w6 ⟨rfl, hb6⟩
      rw [show plc (p :: r) = p from rfl]
      have HG6 := Lib.hid (HGQ.out.below hb6 HGQ.out.pos)
      have HB6 := Lib.hid (HB40.out.trans (hb6.mono HB40.out.size))
      clear hb6
      go_wp2_with fail
      refine (awake1_any _ HG6.out).mono ?_
      rintro e w7 ⟨rfl, hb7⟩
      have HB7 := Lib.hid (HB6.out.trans (hb7.mono HB6.out.size))
      clear hb7
      go_wp2_with fail
      go_ret
      exact ⟨rfl, HB7.out⟩

end Go.Proofs.YtaekepejeokciaaDoor
