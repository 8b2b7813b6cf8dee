/- A field is read by both readers alike; for any bytes up to 1000 and any field. -/
import Derived.Test.YtaekepejeokciaaDoorRdsA
namespace Go.Proofs.YtaekepejeokciaaDoor
set_option maxRecDepth 100000
open Go.RowKit

/-- Both have read, alike. -/
def RTo (w : World) (g1 g2 B : Nat) (A1 A2 : Option Addr) (c1 c2 : Nat) (k : List UInt8) (e : Ending) (w' : World) : Prop :=
  e = .returned (.bool true) ∧ ∃ p' code', Two w' g1 g2 B A1 A2 c1 c2 k p' code' ∧ Below B w w'

section
variable {w w' : World} {g1 g2 B : Nat} {A1 A2 : Option Addr} {c1 c2 : Nat} {k : List UInt8} {p p' : Nat} {code code' : Int}
theorem Two.room (h : Two w g1 g2 B A1 A2 c1 c2 k p code) : B ≤ w.heap.size := by have := h.rr.lt; have := h.lo; omega
theorem Half.room (h : Half w g1 g2 B A1 A2 c1 c2 k p p' code code') : B ≤ w.heap.size := by have := h.rr.lt; have := h.lo; omega
theorem Two.bel (h : Two w g1 g2 B A1 A2 c1 c2 k p code) (hr : Readto w w' g1 A1 c1 (fun j => B ≤ j ∧ j < g1) k p' code') : Below B w w' := hr.only.below h.room (fun j hj => by have hj' : j = g1 := hj; have := h.lo; omega)
theorem Half.bel (h : Half w g1 g2 B A1 A2 c1 c2 k p p' code code') (hm : Mto w w' g2 A2 c2 (fun j => j < B) k p' code' (fz code' p')) : Below B w w' := hm.only.below h.room (fun j hj => by have hj' : j = g2 := hj; have := h.lo; have := h.lt; omega)
theorem nbytes_len {most : Int} {F : Nat → Prop} {fa : Int} (h : Mr w g2 A2 c2 F k p code fa) : (nbytes_ k p code most).1.length ≤ 1000 := by
  have hs := h.small
  unfold nbytes_
  split
  · unfold rbytes
    split
    · simp
    · split
      · simp
      · split
        · simp
        · simp; omega
  · simp
theorem nraw_len {n : Int} {F : Nat → Prop} {fa : Int} (h : Mr w g2 A2 c2 F k p code fa) : (nraw_ k p code n).1.length ≤ 1000 := by
  have hs := h.small
  unfold nraw_
  split
  · unfold rraw
    split
    · simp
    · simp; omega
  · simp
theorem rto_ok {w0 : World} (h : Half w g1 g2 B A1 A2 c1 c2 k p p' code code') (hm : Mto w w' g2 A2 c2 (fun j => j < B) k p' code' (fz code' p')) (hb : Below B w0 w) : RTo w0 g1 g2 B A1 A2 c1 c2 k (.returned (.bool true)) w' :=
  ⟨rfl, p', code', h.two hm, hb.trans (h.bel hm)⟩
theorem rto_dn {w0 : World} (h : Half w g1 g2 B A1 A2 c1 c2 k p p' code code') (hm : Mto w w' g2 A2 c2 (fun j => j < B) k p' code' (fz code' p')) (hb : Below B w0 w) (q : Nat) : RTo w0 g1 g2 B A1 A2 c1 c2 k (.returned (.bool true)) (w'.drewN q) :=
  ⟨rfl, p', code', (h.two hm).drewN q, below_dn (hb.trans (h.bel hm)) q⟩
end

section
variable (g1 g2 B : Nat) (A1 A2 : Option Addr) (c1 c2 : Nat) (k : List UInt8) (p : Nat) (code : Int) (f : Fd) (A3 : Option Addr) (c3 : Nat) (w : World)

theorem box_cell (cs : Array Value) (t : TypeId) (i : Nat) : (w.alloc (.cells cs t)).cell? ⟨w.heap.size, i, none⟩ = cs[i]? := World.cell?_alloc_new _ _ _ i

set_option maxHeartbeats 800000 in
theorem reads_0 (h : Two w g1 g2 B A1 A2 c1 c2 k p code) (hk : f.kind = 0) :
    Calls Tryd.prog 27 #[.pointer (some ⟨g1, 0, none⟩), .pointer (some ⟨g2, 0, none⟩), .agg #[.int .i64 f.kind, .int .u64 f.n, .slice A3 f.b.length c3, .int .i64 f.most]] w (RTo w g1 g2 B A1 A2 c1 c2 k) := by
  have hba : Below w.heap.size w (w.alloc (.cells #[.int .i64 f.kind, .int .u64 f.n, .slice A3 f.b.length c3, .int .i64 f.most] 63)) := (Below.refl _ _).alloc (Nat.le_refl _) _
  have HT := Lib.hid (h.below hba)
  have HB := Lib.hid ((Below.refl B w).alloc h.room (.cells #[.int .i64 f.kind, .int .u64 f.n, .slice A3 f.b.length c3, .int .i64 f.most] 63))
  have hg1 : g1 < w.heap.size := h.rr.lt
  have hg2 : g2 < w.heap.size := h.mr.lt
  have hg12 := h.lt
  clear h hba
  have q0 : (f.kind == 0) = true := beq_iff_eq.2 hk
  clear hk
  go_enter Tryd.func27, Tryd.ntmps27
  go_wp2_with fail
  refine (ubyte g1 A1 c1 _ k p code _ HT.out.rr).mono ?_
  rintro e w3 ⟨rfl, hto⟩
  have HH := Lib.hid (HT.out.half hto)
  have HB3 := Lib.hid (HB.out.trans (HT.out.bel hto))
  clear hto
  go_wp2_with fail
  refine (vbyte g2 A2 c2 _ k p code _ HH.out.mr).mono ?_
  rintro e w4 ⟨rfl, hto⟩
  have HM := Lib.hid hto
  clear hto
  go_wp2_with fail
  go_ret
  exact rto_ok HH.out HM.out HB3.out

set_option maxHeartbeats 800000 in
theorem reads_2 (h : Two w g1 g2 B A1 A2 c1 c2 k p code) (hk : f.kind = 2) :
    Calls Tryd.prog 27 #[.pointer (some ⟨g1, 0, none⟩), .pointer (some ⟨g2, 0, none⟩), .agg #[.int .i64 f.kind, .int .u64 f.n, .slice A3 f.b.length c3, .int .i64 f.most]] w (RTo w g1 g2 B A1 A2 c1 c2 k) := by
  have hba : Below w.heap.size w (w.alloc (.cells #[.int .i64 f.kind, .int .u64 f.n, .slice A3 f.b.length c3, .int .i64 f.most] 63)) := (Below.refl _ _).alloc (Nat.le_refl _) _
  have HT := Lib.hid (h.below hba)
  have HB := Lib.hid ((Below.refl B w).alloc h.room (.cells #[.int .i64 f.kind, .int .u64 f.n, .slice A3 f.b.length c3, .int .i64 f.most] 63))
  have hg1 : g1 < w.heap.size := h.rr.lt
  have hg2 : g2 < w.heap.size := h.mr.lt
  have hg12 := h.lt
  clear h hba
  have q0 : (f.kind == 0) = false := beq_eq_false_iff_ne.2 (by omega)
  have q1 : (f.kind == 1) = false := beq_eq_false_iff_ne.2 (by omega)
  have q2 : (f.kind == 2) = true := beq_iff_eq.2 hk
  clear hk
  go_enter Tryd.func27, Tryd.ntmps27
  go_wp2_with fail
  refine (uint g1 A1 c1 _ k p code _ HT.out.rr).mono ?_
  rintro e w3 ⟨rfl, hto⟩
  have HH := Lib.hid (HT.out.half hto)
  have HB3 := Lib.hid (HB.out.trans (HT.out.bel hto))
  clear hto
  go_wp2_with fail
  refine (vint g2 A2 c2 _ k p code _ HH.out.mr).mono ?_
  rintro e w4 ⟨rfl, hto⟩
  have HM := Lib.hid hto
  clear hto
  go_wp2_with fail
  go_ret
  exact rto_ok HH.out HM.out HB3.out

set_option maxHeartbeats 800000 in
theorem reads_3 (h : Two w g1 g2 B A1 A2 c1 c2 k p code) (hk : f.kind = 3) :
    Calls Tryd.prog 27 #[.pointer (some ⟨g1, 0, none⟩), .pointer (some ⟨g2, 0, none⟩), .agg #[.int .i64 f.kind, .int .u64 f.n, .slice A3 f.b.length c3, .int .i64 f.most]] w (RTo w g1 g2 B A1 A2 c1 c2 k) := by
  have hba : Below w.heap.size w (w.alloc (.cells #[.int .i64 f.kind, .int .u64 f.n, .slice A3 f.b.length c3, .int .i64 f.most] 63)) := (Below.refl _ _).alloc (Nat.le_refl _) _
  have HT := Lib.hid (h.below hba)
  have HB := Lib.hid ((Below.refl B w).alloc h.room (.cells #[.int .i64 f.kind, .int .u64 f.n, .slice A3 f.b.length c3, .int .i64 f.most] 63))
  have hg1 : g1 < w.heap.size := h.rr.lt
  have hg2 : g2 < w.heap.size := h.mr.lt
  have hg12 := h.lt
  clear h hba
  have q0 : (f.kind == 0) = false := beq_eq_false_iff_ne.2 (by omega)
  have q1 : (f.kind == 1) = false := beq_eq_false_iff_ne.2 (by omega)
  have q2 : (f.kind == 2) = false := beq_eq_false_iff_ne.2 (by omega)
  have q3 : (f.kind == 3) = true := beq_iff_eq.2 hk
  clear hk
  go_enter Tryd.func27, Tryd.ntmps27
  go_wp2_with fail
  refine (ubool g1 A1 c1 _ k p code _ HT.out.rr).mono ?_
  rintro e w3 ⟨rfl, hto⟩
  have HH := Lib.hid (HT.out.half hto)
  have HB3 := Lib.hid (HB.out.trans (HT.out.bel hto))
  clear hto
  go_wp2_with fail
  refine (vbool g2 A2 c2 _ k p code _ HH.out.mr).mono ?_
  rintro e w4 ⟨rfl, hto⟩
  have HM := Lib.hid hto
  clear hto
  go_wp2_with fail
  go_ret
  exact rto_ok HH.out HM.out HB3.out

set_option maxHeartbeats 800000 in
theorem reads_1 (h : Two w g1 g2 B A1 A2 c1 c2 k p code) (hk : f.kind = 1) :
    Calls Tryd.prog 27 #[.pointer (some ⟨g1, 0, none⟩), .pointer (some ⟨g2, 0, none⟩), .agg #[.int .i64 f.kind, .int .u64 f.n, .slice A3 f.b.length c3, .int .i64 f.most]] w (RTo w g1 g2 B A1 A2 c1 c2 k) := by
  have hba : Below w.heap.size w (w.alloc (.cells #[.int .i64 f.kind, .int .u64 f.n, .slice A3 f.b.length c3, .int .i64 f.most] 63)) := (Below.refl _ _).alloc (Nat.le_refl _) _
  have HT := Lib.hid (h.below hba)
  have HB := Lib.hid ((Below.refl B w).alloc h.room (.cells #[.int .i64 f.kind, .int .u64 f.n, .slice A3 f.b.length c3, .int .i64 f.most] 63))
  have hg1 : g1 < w.heap.size := h.rr.lt
  have hg2 : g2 < w.heap.size := h.mr.lt
  have hg12 := h.lt
  clear h hba
  have q0 : (f.kind == 0) = false := beq_eq_false_iff_ne.2 (by omega)
  have q1 : (f.kind == 1) = true := beq_iff_eq.2 hk
  clear hk
  have hc1 : (w.alloc (.cells #[.int .i64 f.kind, .int .u64 f.n, .slice A3 f.b.length c3, .int .i64 f.most] 63)).cell? ⟨w.heap.size, 1, none⟩ = some (.int .u64 f.n) := box_cell w _ _ 1
  have HC := Lib.hid hc1
  clear hc1
  go_enter Tryd.func27, Tryd.ntmps27
  go_wp2_with fail
  go_region_held3 (fun w' => w'.cell? ⟨w.heap.size, 1, none⟩ = some (.int .u64 f.n)) (go_keep)
    (first
      | (go_at_call 35; refine (unum g1 A1 c1 _ k p code _ f.n (HT.out.drewN 1).rr).mono ?_; rintro e w3 ⟨rfl, hto⟩; have hs3 := (hto.only.cell (a := ⟨w.heap.size, 1, none⟩) (fun h => by have h' : w.heap.size = g1 := h; omega) (by simp)).trans HC.out; have HH := Lib.hid ((HT.out.drewN 1).half hto); have HB3 := Lib.hid ((below_dn HB.out 1).trans ((HT.out.drewN 1).bel hto)); clear hto)
      | (go_at_call 64; refine (vnum g2 A2 c2 _ k p code _ f.n HH.out.mr).mono ?_; rintro e w4 ⟨rfl, hto⟩; have hs4 := (hto.only.cell (a := ⟨w.heap.size, 1, none⟩) (fun h => by have h' : w.heap.size = g2 := h; omega) (lt_of_cell hs3)).trans hs3; have HM := Lib.hid hto; clear hto))
  go_wp2_with fail
  go_ret
  exact rto_ok HH.out HM.out HB3.out

set_option maxHeartbeats 800000 in
theorem reads_4 (h : Two w g1 g2 B A1 A2 c1 c2 k p code) (hk : f.kind = 4) (hm : f.most ≤ 9223372036854775807) :
    Calls Tryd.prog 27 #[.pointer (some ⟨g1, 0, none⟩), .pointer (some ⟨g2, 0, none⟩), .agg #[.int .i64 f.kind, .int .u64 f.n, .slice A3 f.b.length c3, .int .i64 f.most]] w (RTo w g1 g2 B A1 A2 c1 c2 k) := by
  have hba : Below w.heap.size w (w.alloc (.cells #[.int .i64 f.kind, .int .u64 f.n, .slice A3 f.b.length c3, .int .i64 f.most] 63)) := (Below.refl _ _).alloc (Nat.le_refl _) _
  have HT := Lib.hid (h.below hba)
  have HB := Lib.hid ((Below.refl B w).alloc h.room (.cells #[.int .i64 f.kind, .int .u64 f.n, .slice A3 f.b.length c3, .int .i64 f.most] 63))
  have hg1 : g1 < w.heap.size := h.rr.lt
  have hg2 : g2 < w.heap.size := h.mr.lt
  have hg12 := h.lt
  clear h hba
  have q0 : (f.kind == 0) = false := beq_eq_false_iff_ne.2 (by omega)
  have q1 : (f.kind == 1) = false := beq_eq_false_iff_ne.2 (by omega)
  have q2 : (f.kind == 2) = false := beq_eq_false_iff_ne.2 (by omega)
  have q3 : (f.kind == 3) = false := beq_eq_false_iff_ne.2 (by omega)
  have q4 : (f.kind == 4) = true := beq_iff_eq.2 hk
  clear hk
  have hc1 : (w.alloc (.cells #[.int .i64 f.kind, .int .u64 f.n, .slice A3 f.b.length c3, .int .i64 f.most] 63)).cell? ⟨w.heap.size, 3, none⟩ = some (.int .i64 f.most) := box_cell w _ _ 3
  have HC := Lib.hid hc1
  clear hc1
  have hrs : (nbytes_ k p code f.most).1.length ≤ 1000 := nbytes_len HT.out.mr
  generalize hr : nbytes_ k p code f.most = r at *
  have HR := Lib.hid hr
  clear hr
  go_enter Tryd.func27, Tryd.ntmps27
  go_wp2_with fail
  go_region_held3 (fun w' => w'.cell? ⟨w.heap.size, 3, none⟩ = some (.int .i64 f.most)) (go_keep)
    (first
      | (go_at_call 38; refine (ubytes g1 A1 c1 _ k p code _ f.most hm (HT.out.drewN 1).rr).mono ?_; rw [HR.out]; rintro e w3 ⟨X3, C3, rfl, ho3, hto⟩; have hs3 := (hto.only.cell (a := ⟨w.heap.size, 3, none⟩) (fun h => by have h' : w.heap.size = g1 := h; omega) (by simp)).trans HC.out; have HO3 := Lib.hid ho3; have HH := Lib.hid ((HT.out.drewN 1).half hto); have HB3 := Lib.hid ((below_dn HB.out 1).trans ((HT.out.drewN 1).bel hto)); clear hto ho3)
      | (go_at_call 67; refine (vbytes g2 A2 c2 _ k p code _ f.most hm HH.out.mr).mono ?_; rw [HR.out]; rintro e w4 ⟨X4, C4, rfl, ho4, hto⟩; have hs4 := (hto.only.cell (a := ⟨w.heap.size, 3, none⟩) (fun h => by have h' : w.heap.size = g2 := h; omega) (lt_of_cell hs3)).trans hs3; have HO4 := Lib.hid ho4; have HRD := Lib.hid ((Rd.of_own HO3.out).only hto.only (fun j hj e => by have h1 := (HO3.out.lt j hj).1; have h2 : j = g2 := e; simp at h1; omega)); have HM := Lib.hid hto; clear hto ho4)
      | (go_at_call 60; refine (bytes_any X3 X4 _ _ C3 C4 r.1 r.1 _ _ _ (by unfold maxLen; omega) HRD.out (Rd.of_own HO4.out)).mono ?_; rintro e w5 ⟨rfl, q5, rfl⟩; rw [decide_eq_true rfl]))
  go_wp2_with fail
  go_ret
  exact rto_dn HH.out HM.out HB3.out q5

set_option maxHeartbeats 800000 in
theorem reads_7 (h : Two w g1 g2 B A1 A2 c1 c2 k p code) (hk : f.kind < 0 ∨ 6 < f.kind) :
    Calls Tryd.prog 27 #[.pointer (some ⟨g1, 0, none⟩), .pointer (some ⟨g2, 0, none⟩), .agg #[.int .i64 f.kind, .int .u64 f.n, .slice A3 f.b.length c3, .int .i64 f.most]] w (RTo w g1 g2 B A1 A2 c1 c2 k) := by
  have hba : Below w.heap.size w (w.alloc (.cells #[.int .i64 f.kind, .int .u64 f.n, .slice A3 f.b.length c3, .int .i64 f.most] 63)) := (Below.refl _ _).alloc (Nat.le_refl _) _
  have HT := Lib.hid (h.below hba)
  have HB := Lib.hid ((Below.refl B w).alloc h.room (.cells #[.int .i64 f.kind, .int .u64 f.n, .slice A3 f.b.length c3, .int .i64 f.most] 63))
  have hg1 : g1 < w.heap.size := h.rr.lt
  have hg2 : g2 < w.heap.size := h.mr.lt
  have hg12 := h.lt
  clear h hba
  have q0 : (f.kind == 0) = false := beq_eq_false_iff_ne.2 (by omega)
  have q1 : (f.kind == 1) = false := beq_eq_false_iff_ne.2 (by omega)
  have q2 : (f.kind == 2) = false := beq_eq_false_iff_ne.2 (by omega)
  have q3 : (f.kind == 3) = false := beq_eq_false_iff_ne.2 (by omega)
  have q4 : (f.kind == 4) = false := beq_eq_false_iff_ne.2 (by omega)
  have q5 : (f.kind == 5) = false := beq_eq_false_iff_ne.2 (by omega)
  have q6 : (f.kind == 6) = false := beq_eq_false_iff_ne.2 (by omega)
  clear hk
  have hc1 : (w.alloc (.cells #[.int .i64 f.kind, .int .u64 f.n, .slice A3 f.b.length c3, .int .i64 f.most] 63)).cell? ⟨w.heap.size, 3, none⟩ = some (.int .i64 f.most) := box_cell w _ _ 3
  have HC := Lib.hid hc1
  clear hc1
  have hrs : (nraw_ k p code f.most).1.length ≤ 1000 := nraw_len HT.out.mr
  generalize hr : nraw_ k p code f.most = r at *
  have HR := Lib.hid hr
  clear hr
  go_enter Tryd.func27, Tryd.ntmps27
  go_wp2_with fail
  go_region_held3 (fun w' => w'.cell? ⟨w.heap.size, 3, none⟩ = some (.int .i64 f.most)) (go_keep)
    (first
      | (go_at_call 40; refine (uraw g1 A1 c1 _ k p code _ f.most (HT.out.drewN 1).rr).mono ?_; rw [HR.out]; rintro e w3 ⟨X3, C3, rfl, ho3, hto⟩; have hs3 := (hto.only.cell (a := ⟨w.heap.size, 3, none⟩) (fun h => by have h' : w.heap.size = g1 := h; omega) (by simp)).trans HC.out; have HO3 := Lib.hid ho3; have HH := Lib.hid ((HT.out.drewN 1).half hto); have HB3 := Lib.hid ((below_dn HB.out 1).trans ((HT.out.drewN 1).bel hto)); clear hto ho3)
      | (go_at_call 69; refine (vraw g2 A2 c2 _ k p code _ f.most HH.out.mr).mono ?_; rw [HR.out]; rintro e w4 ⟨X4, C4, rfl, ho4, hto⟩; have hs4 := (hto.only.cell (a := ⟨w.heap.size, 3, none⟩) (fun h => by have h' : w.heap.size = g2 := h; omega) (lt_of_cell hs3)).trans hs3; have HO4 := Lib.hid ho4; have HRD := Lib.hid ((Rd.of_own HO3.out).only hto.only (fun j hj e => by have h1 := (HO3.out.lt j hj).1; have h2 : j = g2 := e; simp at h1; omega)); have HM := Lib.hid hto; clear hto ho4)
      | (go_at_call 60; refine (bytes_any X3 X4 _ _ C3 C4 r.1 r.1 _ _ _ (by unfold maxLen; omega) HRD.out (Rd.of_own HO4.out)).mono ?_; rintro e w5 ⟨rfl, q5, rfl⟩; rw [decide_eq_true rfl]))
  go_wp2_with fail
  go_ret
  exact rto_dn HH.out HM.out HB3.out q5

set_option maxHeartbeats 800000 in
theorem reads_5 (h : Two w g1 g2 B A1 A2 c1 c2 k p code) (hk : f.kind = 5) (hm : f.most ≤ 9223372036854775807) :
    Calls Tryd.prog 27 #[.pointer (some ⟨g1, 0, none⟩), .pointer (some ⟨g2, 0, none⟩), .agg #[.int .i64 f.kind, .int .u64 f.n, .slice A3 f.b.length c3, .int .i64 f.most]] w (RTo w g1 g2 B A1 A2 c1 c2 k) := by
  have hba : Below w.heap.size w (w.alloc (.cells #[.int .i64 f.kind, .int .u64 f.n, .slice A3 f.b.length c3, .int .i64 f.most] 63)) := (Below.refl _ _).alloc (Nat.le_refl _) _
  have HT := Lib.hid (h.below hba)
  have HB := Lib.hid ((Below.refl B w).alloc h.room (.cells #[.int .i64 f.kind, .int .u64 f.n, .slice A3 f.b.length c3, .int .i64 f.most] 63))
  have hg1 : g1 < w.heap.size := h.rr.lt
  have hg2 : g2 < w.heap.size := h.mr.lt
  have hg12 := h.lt
  clear h hba
  have q0 : (f.kind == 0) = false := beq_eq_false_iff_ne.2 (by omega)
  have q1 : (f.kind == 1) = false := beq_eq_false_iff_ne.2 (by omega)
  have q2 : (f.kind == 2) = false := beq_eq_false_iff_ne.2 (by omega)
  have q3 : (f.kind == 3) = false := beq_eq_false_iff_ne.2 (by omega)
  have q4 : (f.kind == 4) = false := beq_eq_false_iff_ne.2 (by omega)
  have q5 : (f.kind == 5) = true := beq_iff_eq.2 hk
  clear hk
  have hc1 : (w.alloc (.cells #[.int .i64 f.kind, .int .u64 f.n, .slice A3 f.b.length c3, .int .i64 f.most] 63)).cell? ⟨w.heap.size, 3, none⟩ = some (.int .i64 f.most) := box_cell w _ _ 3
  have HC := Lib.hid hc1
  generalize hr : nbytes_ k p code f.most = r at *
  have HR := Lib.hid hr
  clear hr
  go_enter Tryd.func27, Tryd.ntmps27
  go_wp2_with fail
  go_region_with
    (first
      | (go_at_call 39; refine (utext g1 A1 c1 _ k p code _ f.most hm (HT.out.drewN 1).rr).mono ?_; rw [HR.out]; rintro e w3 ⟨rfl, hto⟩; have hs3 := (hto.only.cell (a := ⟨w.heap.size, 3, none⟩) (fun h => by have h' : w.heap.size = g1 := h; omega) (by simp)).trans HC.out; have HH := Lib.hid ((HT.out.drewN 1).half hto); have HB3 := Lib.hid ((below_dn HB.out 1).trans ((HT.out.drewN 1).bel hto)); clear hto)
      | (go_at_call 67; refine (vbytes g2 A2 c2 _ k p code _ f.most hm HH.out.mr).mono ?_; rw [HR.out]; rintro e w4 ⟨X4, C4, rfl, ho4, hto⟩; have hs4 := (hto.only.cell (a := ⟨w.heap.size, 3, none⟩) (fun h => by have h' : w.heap.size = g2 := h; omega) (lt_of_cell hs3)).trans hs3; have hconv := to_text X4 _ C4 r.1 _ w4 (Rd.of_own ho4); have HM := Lib.hid hto; clear hto ho4))
  all_goals
    go_wp2_with fail
    go_ret
    exact rto_ok HH.out HM.out HB3.out

set_option maxHeartbeats 800000 in
theorem reads_6 (h : Two w g1 g2 B A1 A2 c1 c2 k p code) (hk : f.kind = 6) :
    Calls Tryd.prog 27 #[.pointer (some ⟨g1, 0, none⟩), .pointer (some ⟨g2, 0, none⟩), .agg #[.int .i64 f.kind, .int .u64 f.n, .slice A3 f.b.length c3, .int .i64 f.most]] w (RTo w g1 g2 B A1 A2 c1 c2 k) := by
  have hba : Below w.heap.size w (w.alloc (.cells #[.int .i64 f.kind, .int .u64 f.n, .slice A3 f.b.length c3, .int .i64 f.most] 63)) := (Below.refl _ _).alloc (Nat.le_refl _) _
  have HT := Lib.hid (h.below hba)
  have HB := Lib.hid ((Below.refl B w).alloc h.room (.cells #[.int .i64 f.kind, .int .u64 f.n, .slice A3 f.b.length c3, .int .i64 f.most] 63))
  have hg1 : g1 < w.heap.size := h.rr.lt
  have hg2 : g2 < w.heap.size := h.mr.lt
  have hg12 := h.lt
  clear h hba
  have q0 : (f.kind == 0) = false := beq_eq_false_iff_ne.2 (by omega)
  have q1 : (f.kind == 1) = false := beq_eq_false_iff_ne.2 (by omega)
  have q2 : (f.kind == 2) = false := beq_eq_false_iff_ne.2 (by omega)
  have q3 : (f.kind == 3) = false := beq_eq_false_iff_ne.2 (by omega)
  have q4 : (f.kind == 4) = false := beq_eq_false_iff_ne.2 (by omega)
  have q5 : (f.kind == 5) = false := beq_eq_false_iff_ne.2 (by omega)
  have q6 : (f.kind == 6) = true := beq_iff_eq.2 hk
  clear hk
  have hc1 : (w.alloc (.cells #[.int .i64 f.kind, .int .u64 f.n, .slice A3 f.b.length c3, .int .i64 f.most] 63)).cell? ⟨w.heap.size, 3, none⟩ = some (.int .i64 f.most) := box_cell w _ _ 3
  go_enter Tryd.func27, Tryd.ntmps27
  go_wp2_with fail
  refine (ufail g1 A1 c1 _ k p code _ f.most HT.out.rr).mono ?_
  rintro e w3 ⟨rfl, hto⟩
  have hs3 := (hto.only.cell (a := ⟨w.heap.size, 3, none⟩) (fun h => by have h' : w.heap.size = g1 := h; omega) (by simp)).trans hc1
  have HH := Lib.hid (HT.out.half hto)
  have HB3 := Lib.hid (HB.out.trans (HT.out.bel hto))
  clear hto
  go_wp2_with fail
  refine (vfail g2 A2 c2 _ k p code _ f.most HH.out.mr).mono ?_
  rintro e w4 ⟨rfl, hto⟩
  have HM := Lib.hid hto
  clear hto
  go_wp2_with fail
  go_ret
  exact rto_ok HH.out HM.out HB3.out

theorem reads_any (h : Two w g1 g2 B A1 A2 c1 c2 k p code) (hm : f.most ≤ 9223372036854775807) :
    Calls Tryd.prog 27 #[.pointer (some ⟨g1, 0, none⟩), .pointer (some ⟨g2, 0, none⟩), .agg #[.int .i64 f.kind, .int .u64 f.n, .slice A3 f.b.length c3, .int .i64 f.most]] w (RTo w g1 g2 B A1 A2 c1 c2 k) := by
  by_cases h0 : f.kind = 0
  · exact reads_0 g1 g2 B A1 A2 c1 c2 k p code f A3 c3 w h h0
  by_cases h1 : f.kind = 1
  · exact reads_1 g1 g2 B A1 A2 c1 c2 k p code f A3 c3 w h h1
  by_cases h2 : f.kind = 2
  · exact reads_2 g1 g2 B A1 A2 c1 c2 k p code f A3 c3 w h h2
  by_cases h3 : f.kind = 3
  · exact reads_3 g1 g2 B A1 A2 c1 c2 k p code f A3 c3 w h h3
  by_cases h4 : f.kind = 4
  · exact reads_4 g1 g2 B A1 A2 c1 c2 k p code f A3 c3 w h h4 hm
  by_cases h5 : f.kind = 5
  · exact reads_5 g1 g2 B A1 A2 c1 c2 k p code f A3 c3 w h h5 hm
  by_cases h6 : f.kind = 6
  · exact reads_6 g1 g2 B A1 A2 c1 c2 k p code f A3 c3 w h h6
  · exact reads_7 g1 g2 B A1 A2 c1 c2 k p code f A3 c3 w h (by omega)
end

end Go.Proofs.YtaekepejeokciaaDoor
