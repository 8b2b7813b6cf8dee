/- The document's reader takes bytes; for any bytes up to 1000. -/
import Derived.Test.YtaekepejeokciaaDoorMrA
namespace Go.Proofs.YtaekepejeokciaaDoor
set_option maxRecDepth 100000
open Go.RowKit

theorem mtook_row {w w2 : World} {g : Nat} {A : Option Addr} {c : Nat} {F : Nat → Prop} {k x : List UInt8} {p n : Nat} {v : Value} {y : Int} (h : Mr w g A c F k p 0 0) (hx : x.length = n)
    (ho : w2.ownsRow w.heap.size 5 1 v n (Bs x)) (hb : Below w.heap.size w w2) (ht : p + n ≤ k.length) (hy : y = ((p + n : Nat) : Int)) :
    Mtook w g A c F k x (p + n) (.returned v) (w2.setCell ⟨g, 1, none⟩ (.int .i64 y)) := by
  subst hy
  subst hx
  obtain ⟨A1, c1, rfl⟩ := own_slice ho
  have h1 := h.below hb
  have hlt := h.lt
  refine ⟨A1, c1, rfl, ?_, h1.move ht, (Only.of_below hb (fun j => j = g)).setCell (p := ⟨g, 1, none⟩) (.inl rfl) _⟩
  refine own_only ho ((Only.refl (fun j => j = g) w2).setCell (p := ⟨g, 1, none⟩) (.inl rfl) _) fun j hj e => ?_
  have := (ho.lt j hj).1
  omega

set_option maxHeartbeats 1000000 in
theorem take_any (g : Nat) (A : Option Addr) (c : Nat) (F : Nat → Prop) (k : List UInt8) (p n : Nat) (w : World) (h : Mr w g A c F k p 0 0) (hn : p + n ≤ k.length) :
    Calls Tryd.prog 94 #[.pointer (some ⟨g, 0, none⟩), .int .i64 n] w (Mtook w g A c F k ((k.drop p).take n) (p + n)) := by
  obtain ⟨i0, hi, hz0, hz1, hz2⟩ := info_parts u8_info
  have h0 := h.c0
  have h1 := h.c1
  have hf1 := h.f 1
  have hcap := h.cap
  have htop := h.top
  have hsm := h.small
  have hlt := h.lt
  unfold maxLen at htop
  have hxl : ((k.drop p).take n).length = n := by simp; omega
  have HXL := Lib.hid hxl
  have hcut := h.rd.cut (lo := p) (hi := p + n) (by omega) hn h.cap
  rw [Nat.add_sub_cancel_left] at hcut
  have H := Lib.hid h
  have hba : Below w.heap.size w (w.alloc (.cells #[] 5)) := (Below.refl _ _).alloc (Nat.le_refl _) _
  have HO := Lib.hid ((World.ownsRow_made w #[] 0 (Nat.le_refl _) (by unfold maxLen; omega) rfl : (w.alloc (.cells #[] 5)).ownsRow w.heap.size 5 1 (.slice (some ⟨w.heap.size, 0, none⟩) 0 0) 0 []).drew)
  have HBA := Lib.hid hba
  have q1 : 0 + n ≤ maxLen := by unfold maxLen; omega
  have q2 : (0 + n) * 1 ≤ 140737488355328 := by omega
  have HQ1 := Lib.hid q1
  have HQ2 := Lib.hid q2
  have hg0 := (hba.cell (p := ⟨g, 0, none⟩) hlt).trans h0
  have hg1 := (hba.cell (p := ⟨g, 1, none⟩) hlt).trans h1
  have HG0 := Lib.hid hg0
  clear hg0
  have hgf1 := (hba.frozen (p := ⟨g, 1, none⟩) hlt).trans hf1
  have HG1 := Lib.hid hg1
  have HGF := Lib.hid hgf1
  have hne : some g ≠ (Value.slice (some (⟨w.heap.size, 0, none⟩ : Addr)) 0 0).ownBlock := by
    intro e; simp [Value.ownBlock] at e; omega
  have HNE := Lib.hid hne
  have hlt2 : g < (w.alloc (.cells #[] 5)).drew.heap.size := Nat.lt_of_lt_of_le hlt hba.size
  have HLT := Lib.hid hlt2
  clear hlt2
  clear q1 q2 hxl h hba hg1 hgf1 hne
  rcases hcut with ⟨hcp, hrd⟩ | ⟨hcp, hrd⟩
  · obtain rfl : n = 0 := by omega
    have HRD := Lib.hid (hrd.belowAll HBA.out.drew)
    clear hrd
    have s2 : (0 : Int) ≤ (p : Int) := by omega
    have s4 : (p : Int) ≤ c := by omega
    have s1 : IntKind.i64.wrap (p : Int) = (p : Int) := IntWalk.i64_in _ (by omega)
    go_enter Tryd.func94, Tryd.ntmps94
    go_wp2_with fail
    go_region_held3 (fun w' => w'.cell? ⟨g, 0, none⟩ = some (.slice A k.length c) ∧ w'.cell? ⟨g, 1, none⟩ = some (.int .i64 p))
      (first
        | go_keep
        | exact ⟨k0, k1⟩
        | (go_split_ands
           exact ⟨k0, k1⟩))
      ((refine step_append_rd (by rfl) (.tmp 6) (.tmp 21) 47 (by rfl) w.heap.size 5 i0 (.int .u8 0) 1 Tryd.underlying47 hi hz0 hz1 hz2 rfl (.slice (some ⟨w.heap.size, 0, none⟩) 0 0) 0 [] (by rfl) HO.out F _ 0 _ (Bs ((k.drop p).take 0)) (by rfl) HRD.out (Bs_one _) HQ1.out HQ2.out (by simp) ?_; intro v2 w2 hown2 hgrow hat; have k0 := hgrow.cell (a := ⟨g, 0, none⟩) HG0.out HNE.out; have k1 := hgrow.cell (a := ⟨g, 1, none⟩) HG1.out HNE.out; have kf := (World.frozen?_of_block (a := ⟨g, 1, none⟩) (hgrow.block g HLT.out HNE.out)).trans HGF.out))
    have hb2 : Below w.heap.size w w2 := HBA.out.drew.grown hgrow (by exact HBA.out.size) (fun j hj => by simp [Value.ownBlock] at hj; omega)
    rw [Nat.zero_add, List.nil_append] at hown2
    have HO2 := Lib.hid hown2
    have HB2 := Lib.hid hb2
    clear hown2 hb2 hgrow hat k0
    go_wp2_with fail
    go_ret
    exact mtook_row H.out HXL.out HO2.out HB2.out hn (by simp)
  · have HRD := Lib.hid (hrd.belowAll HBA.out.drew)
    clear hrd
    have s2 : (0 : Int) ≤ (p : Int) + n := by omega
    have s4 : (p : Int) + n ≤ c := by omega
    have s5 : (p : Int) ≤ (p : Int) + n := by omega
    have s3 : ((p : Int) + n).toNat = p + n := by omega
    have s6 : p + n - p = n := by omega
    have s1 : IntKind.i64.wrap ((p : Int) + n) = (p : Int) + n := IntWalk.i64_in _ (by omega)
    go_enter Tryd.func94, Tryd.ntmps94
    go_wp2_with fail
    go_region_held3 (fun w' => w'.cell? ⟨g, 0, none⟩ = some (.slice A k.length c) ∧ w'.cell? ⟨g, 1, none⟩ = some (.int .i64 p))
      (first
        | go_keep
        | exact ⟨k0, k1⟩
        | (go_split_ands
           exact ⟨k0, k1⟩))
      ((refine step_append_rd (by rfl) (.tmp 6) (.tmp 21) 47 (by rfl) w.heap.size 5 i0 (.int .u8 0) 1 Tryd.underlying47 hi hz0 hz1 hz2 rfl (.slice (some ⟨w.heap.size, 0, none⟩) 0 0) 0 [] (by rfl) HO.out F _ n _ (Bs ((k.drop p).take n)) (by rfl) HRD.out (Bs_one _) HQ1.out HQ2.out (by simp) ?_; intro v2 w2 hown2 hgrow hat; have k0 := hgrow.cell (a := ⟨g, 0, none⟩) HG0.out HNE.out; have k1 := hgrow.cell (a := ⟨g, 1, none⟩) HG1.out HNE.out; have kf := (World.frozen?_of_block (a := ⟨g, 1, none⟩) (hgrow.block g HLT.out HNE.out)).trans HGF.out))
    have hb2 : Below w.heap.size w w2 := HBA.out.drew.grown hgrow (by exact HBA.out.size) (fun j hj => by simp [Value.ownBlock] at hj; omega)
    rw [Nat.zero_add, List.nil_append] at hown2
    have HO2 := Lib.hid hown2
    have HB2 := Lib.hid hb2
    clear hown2 hb2 hgrow hat k0
    go_wp2_with fail
    go_ret
    exact mtook_row H.out HXL.out HO2.out HB2.out hn (by simp)

end Go.Proofs.YtaekepejeokciaaDoor
