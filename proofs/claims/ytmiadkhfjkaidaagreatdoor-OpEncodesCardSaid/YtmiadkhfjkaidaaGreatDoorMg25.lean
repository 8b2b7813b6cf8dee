/- Which operations are right: by the program. A right value written: the program's recursion. What Encode answers for any schema. -/
import Derived.Test.YtmiadkhfjkaidaaGreatDoorMg24
import Derived.Test.YtmiadkhfjkaidaaGreatDoorMg7
import Derived.Test.YtmiadkhfjkaidaaGreatDoorMg17
import Derived.Test.YtmiadkhfjkaidaaGreatDoorMg10
namespace Go.Proofs.YtmiadkhfjkaidaaGreatDoor
section
set_option maxRecDepth 100000
set_option linter.unusedSimpArgs false
set_option linter.unusedVariables false
open Go.RowKit

/-- An operation's cells. -/
abbrev oC (k : Int) (a : Option Addr) (n c : Nat) (id af : Int) (vk vn : Int) (vs : ByteArray) (va : Option Addr) (vla vca : Nat) (vb : Option Addr) (vlb vcb : Nat) (vc : Option Addr) (vlc vcc : Nat) : List Value := [.int .i64 k, .slice a n c, .int .u64 id, .int .u64 af, .int .i64 vk, .int .i64 vn, .string vs, .slice va vla vca, .slice vb vlb vcb, .slice vc vlc vcc]
theorem o_info {k : Int} {a : Option Addr} {n c : Nat} {id af : Int} {vk vn : Int} {vs : ByteArray} {va : Option Addr} {vla vca : Nat} {vb : Option Addr} {vlb vcb : Nat} {vc : Option Addr} {vlc vcc : Nat} : (Tryz.prog.info? 30).map (·.size) = some (oC k a n c id af vk vn vs va vla vca vb vlb vcb vc vlc vcc).toArray.size := by kernel_rfl
/-- Whether an operation is right. -/
def rightO (k : Int) (l : List Stp) (id af : Int) (v : Vt) : Bool :=
  rightP l && (if k = 1 then (id == 0 && af == 0) && v.rightAt 1 else if k = 2 then (id != 0 && id != af) && v.rightAt 1 else if k = 3 then af == 0 && ((id != 0 && id != af) && isZ v) else if k = 4 then (id != 0 && id != af) && isZ v else false)

set_option maxHeartbeats 800000 in
theorem element_any (k : Int) (a : Option Addr) (n c : Nat) (id af : Int) (vk vn : Int) (vs : ByteArray) (va : Option Addr) (vla vca : Nat) (vb : Option Addr) (vlb vcb : Nat) (vc : Option Addr) (vlc vcc : Nat) (w : World) :
    Calls Tryz.prog 40 #[.agg (oC k a n c id af vk vn vs va vla vca vb vlb vcb vc vlc vcc).toArray] w fun e w' => e = .returned (.bool (id != 0 && id != af)) ∧ Below w.heap.size w w' := by
  have HB := Lib.hid (below_newO w (.cells (oC k a n c id af vk vn vs va vla vca vb vlb vcb vc vlc vcc).toArray 30))
  have c2 := (Row.new w (oC k a n c id af vk vn vs va vla vca vb vlb vcb vc vlc vcc) 30).cell (k := 2) rfl
  have c3 := (Row.new w (oC k a n c id af vk vn vs va vla vca vb vlb vcb vc vlc vcc) 30).cell (k := 3) rfl
  by_cases h0 : id = 0
  · subst h0
    go_enter Tryz.func40, Tryz.ntmps40
    go_wp2_with fail
    go_ret
    exact ⟨rfl, HB.out⟩
  · have h1 : (id == 0) = false := beq_eq_false_iff_ne.2 h0
    go_enter Tryz.func40, Tryz.ntmps40
    go_wp2_with fail
    go_ret
    exact ⟨by simp [bne, h1], HB.out⟩

set_option maxHeartbeats 6400000 in
theorem oright_any (k : Int) (a : Option Addr) (n c : Nat) (l : List Stp) (id af : Int) (vk vn : Int) (vs : ByteArray) (va : Option Addr) (vla vca : Nat) (vb : Option Addr) (vlb vcb : Nat) (vc : Option Addr) (vlc vcc : Nat) (v : Vt) (hn : n ≤ 9223372036854775807) (w : World) (hS : Sts w a n l) (hok : ∀ x ∈ l, StOk x) (hV : VAt w v (vC vk vn vs va vla vca vb vlb vcb vc vlc vcc)) :
    Calls Tryz.prog 16 #[.agg (oC k a n c id af vk vn vs va vla vca vb vlb vcb vc vlc vcc).toArray] w fun e w' => e = .returned (.bool (rightO k l id af v)) ∧ Below w.heap.size w w' := by
  have hb := below_newO w (.cells (oC k a n c id af vk vn vs va vla vca vb vlb vcb vc vlc vcc).toArray 30)
  have HB := Lib.hid hb
  have HR := Lib.hid (Row.new w (oC k a n c id af vk vn vs va vla vca vb vlb vcb vc vlc vcc) 30)
  have c0 := HR.out.cell (k := 0) rfl
  have c1 := HR.out.cell (k := 1) rfl
  have hp := pright_any a n c l hn _ (hS.below hb) hok
  have HV := Lib.hid (fun wx (hx : Below w.heap.size w wx) => vright_any v (vC vk vn vs va vla vca vb vlb vcb vc vlc vcc) wx (hV.later hx))
  have HZ := Lib.hid (fun wx (hx : Below w.heap.size w wx) => vsameZ v (vC vk vn vs va vla vca vb vlb vcb vc vlc vcc) wx (hV.later hx))
  have HE := Lib.hid (element_any k a n c id af vk vn vs va vla vca vb vlb vcb vc vlc vcc)
  clear hb hS hok hV
  cases hr : rightP l
  · rw [hr] at hp
    have HP := Lib.hid hp
    rw [show rightO k l id af v = false by unfold rightO; rw [hr, Bool.false_and]]
    clear hp hr
    go_enter Tryz.func16, Tryz.ntmps16
    go_wp2_with fail
    refine HP.out.mono ?_
    rintro e W1 ⟨rfl, hb⟩
    have HB1 := Lib.hid (HB.out.trans (hb.mono HB.out.size))
    clear hb
    go_wp2_with fail
    go_ret
    exact ⟨rfl, HB1.out⟩
  · rw [hr] at hp
    have HP := Lib.hid hp
    obtain ⟨res, hres⟩ : ∃ r, rightO k l id af v = r := ⟨_, rfl⟩
    rw [hres]
    unfold rightO at hres
    rw [hr, Bool.true_and] at hres
    have HRES := Lib.hid hres
    clear hp hr hres
    go_enter Tryz.func16, Tryz.ntmps16
    go_wp2_with fail
    refine HP.out.mono ?_
    rintro e W1 ⟨rfl, hb⟩
    have HB1 := Lib.hid (HB.out.trans (hb.mono HB.out.size))
    have HR1 := Lib.hid (HR.out.belowAll hb)
    clear hb c0 c1
    have c0 := HR1.out.cell (k := 0) rfl
    have c2 := HR1.out.cell (k := 2) rfl
    have c3 := HR1.out.cell (k := 3) rfl
    have c4 := HR1.out.cell (k := 4) rfl
    have c5 := HR1.out.cell (k := 5) rfl
    have c6 := HR1.out.cell (k := 6) rfl
    have c7 := HR1.out.cell (k := 7) rfl
    have c8 := HR1.out.cell (k := 8) rfl
    have c9 := HR1.out.cell (k := 9) rfl
    by_cases k1 : k = 1
    · subst k1
      have hres := HRES.out
      rw [if_pos rfl] at hres
      by_cases i0 : id = 0
      · subst i0
        by_cases f0 : af = 0
        · subst f0
          go_wp2_with fail
          refine (HV.out _ HB1.out).mono ?_
          rintro e W2 ⟨rfl, hb⟩
          have HB2 := Lib.hid (HB1.out.trans (hb.mono HB1.out.size))
          clear hb
          go_wp2_with fail
          go_ret
          exact ⟨by rw [← hres]; simp, HB2.out⟩
        · have g0 : (af == 0) = false := beq_eq_false_iff_ne.2 f0
          go_wp2_with fail
          go_ret
          exact ⟨by rw [← hres]; simp [g0], HB1.out⟩
      · have g0 : (id == 0) = false := beq_eq_false_iff_ne.2 i0
        go_wp2_with fail
        go_ret
        exact ⟨by rw [← hres]; simp [g0], HB1.out⟩
    have n1 : (k == 1) = false := beq_eq_false_iff_ne.2 k1
    have hres := HRES.out
    rw [if_neg k1] at hres
    have HRES := Lib.hid hres
    clear hres
    by_cases k2 : k = 2
    · subst k2
      have hres := HRES.out
      rw [if_pos rfl] at hres
      go_wp2_with (refine wpList_load_row rfl 30 (.tmp 1) rfl w.heap.size rfl 30 _ (0, 0) _ HR1.out Tryz.underlying30 rfl o_info ?_)
      refine (HE.out _).mono ?_
      rintro e W2 ⟨rfl, hb⟩
      have HB2 := Lib.hid (HB1.out.trans (hb.mono HB1.out.size))
      have HR2 := Lib.hid (HR1.out.belowAll hb)
      clear hb c0 c2 c3 c4 c5 c6 c7 c8 c9
      have c4 := HR2.out.cell (k := 4) rfl
      have c5 := HR2.out.cell (k := 5) rfl
      have c6 := HR2.out.cell (k := 6) rfl
      have c7 := HR2.out.cell (k := 7) rfl
      have c8 := HR2.out.cell (k := 8) rfl
      have c9 := HR2.out.cell (k := 9) rfl
      generalize (id != 0 && id != af) = el at *
      cases el
      · go_wp2_with fail
        go_ret
        exact ⟨by rw [← hres]; simp, HB2.out⟩
      · go_wp2_with fail
        refine (HV.out _ HB2.out).mono ?_
        rintro e W3 ⟨rfl, hb⟩
        have HB3 := Lib.hid (HB2.out.trans (hb.mono HB2.out.size))
        clear hb
        go_wp2_with fail
        go_ret
        exact ⟨by rw [← hres]; simp, HB3.out⟩
    have n2 : (k == 2) = false := beq_eq_false_iff_ne.2 k2
    have hres := HRES.out
    rw [if_neg k2] at hres
    have HRES := Lib.hid hres
    clear hres
    by_cases k3 : k = 3
    · subst k3
      have hres := HRES.out
      rw [if_pos rfl] at hres
      by_cases f0 : af = 0
      · subst f0
        go_wp2_with (refine wpList_load_row rfl 30 (.tmp 1) rfl w.heap.size rfl 30 _ (0, 0) _ HR1.out Tryz.underlying30 rfl o_info ?_)
        refine (HE.out _).mono ?_
        rintro e W2 ⟨rfl, hb⟩
        have HB2 := Lib.hid (HB1.out.trans (hb.mono HB1.out.size))
        have HR2 := Lib.hid (HR1.out.belowAll hb)
        clear hb c0 c2 c3 c4 c5 c6 c7 c8 c9
        have c4 := HR2.out.cell (k := 4) rfl
        have c5 := HR2.out.cell (k := 5) rfl
        have c6 := HR2.out.cell (k := 6) rfl
        have c7 := HR2.out.cell (k := 7) rfl
        have c8 := HR2.out.cell (k := 8) rfl
        have c9 := HR2.out.cell (k := 9) rfl
        generalize (id != 0 && id != 0) = el at *
        cases el
        · go_wp2_with fail
          go_ret
          exact ⟨by rw [← hres]; simp, HB2.out⟩
        · go_wp2_with fail
          refine (HZ.out _ HB2.out).mono ?_
          rintro e W3 ⟨rfl, hb⟩
          have HB3 := Lib.hid (HB2.out.trans (hb.mono HB2.out.size))
          clear hb
          go_wp2_with fail
          go_ret
          exact ⟨by rw [← hres]; simp, HB3.out⟩
      · have g0 : (af == 0) = false := beq_eq_false_iff_ne.2 f0
        go_wp2_with fail
        go_ret
        exact ⟨by rw [← hres]; simp [g0], HB1.out⟩
    have n3 : (k == 3) = false := beq_eq_false_iff_ne.2 k3
    have hres := HRES.out
    rw [if_neg k3] at hres
    have HRES := Lib.hid hres
    clear hres
    by_cases k4 : k = 4
    · subst k4
      have hres := HRES.out
      rw [if_pos rfl] at hres
      go_wp2_with (refine wpList_load_row rfl 30 (.tmp 1) rfl w.heap.size rfl 30 _ (0, 0) _ HR1.out Tryz.underlying30 rfl o_info ?_)
      refine (HE.out _).mono ?_
      rintro e W2 ⟨rfl, hb⟩
      have HB2 := Lib.hid (HB1.out.trans (hb.mono HB1.out.size))
      have HR2 := Lib.hid (HR1.out.belowAll hb)
      clear hb c0 c2 c3 c4 c5 c6 c7 c8 c9
      have c4 := HR2.out.cell (k := 4) rfl
      have c5 := HR2.out.cell (k := 5) rfl
      have c6 := HR2.out.cell (k := 6) rfl
      have c7 := HR2.out.cell (k := 7) rfl
      have c8 := HR2.out.cell (k := 8) rfl
      have c9 := HR2.out.cell (k := 9) rfl
      generalize (id != 0 && id != af) = el at *
      cases el
      · go_wp2_with fail
        go_ret
        exact ⟨by rw [← hres]; simp, HB2.out⟩
      · go_wp2_with fail
        refine (HZ.out _ HB2.out).mono ?_
        rintro e W3 ⟨rfl, hb⟩
        have HB3 := Lib.hid (HB2.out.trans (hb.mono HB2.out.size))
        clear hb
        go_wp2_with fail
        go_ret
        exact ⟨by rw [← hres]; simp, HB3.out⟩
    have n4 : (k == 4) = false := beq_eq_false_iff_ne.2 k4
    have hres := HRES.out
    rw [if_neg k4] at hres
    have HRES := Lib.hid hres
    clear hres
    go_wp2_with fail
    go_ret
    exact ⟨by rw [← HRES.out]; rfl, HB1.out⟩
end

section
set_option maxRecDepth 100000
set_option linter.unusedSimpArgs false
set_option linter.unusedVariables false
open Go.RowKit

set_option maxHeartbeats 3200000 in
theorem vwrite_10 (W w : World) (a : Addr) (v : Value) (k0 : List UInt8) (s : ByteArray) (a3 b3 c3 : Option Addr) (la ca lb cb len cc : Nat)  (hw : WP W w a v k0) (ha : W.heap.size ≤ a.block) (hlen : k0.length + 100 ≤ 140737488355328) :
    Calls Tryz.prog 87 #[.pointer (some a), .agg #[.int .i64 1, .int .i64 0, .string s, .slice a3 la ca, .slice b3 lb cb, .slice c3 len cc]] w fun e w' => e = .returned (.tuple #[]) ∧ ∃ v', Wrote w w' a v v' (k0 ++ [1, 0]) := by
  have HA := Lib.hid ha
  have R3 := Lib.hid (Row.new w [.int .i64 1, .int .i64 0, .string s, .slice a3 la ca, .slice b3 lb cb, .slice c3 len cc] 28)
  have HWB := Lib.hid (hw.later (below_new w (.cells #[.int .i64 1, .int .i64 0, .string s, .slice a3 la ca, .slice b3 lb cb, .slice c3 len cc] 28)))
  have HWP := Lib.hid hw
  have HLN := Lib.hid hlen
  clear hw ha hlen
  go_enter Tryz.func87, Tryz.ntmps87
  go_wp2_with fail
  refine (byte_any a v k0 1 _ HWB.out.wr (by have := HLN.out; omega)).mono ?_
  rintro e W1 ⟨rfl, v1, hw1⟩
  have hne : ¬ ((fun b => b = a.block ∨ v.ownBlock = some b) w.heap.size) := by
    rintro (h | h)
    · have h2 := HWP.out.wr.lt; have h3 : w.heap.size = a.block := h; omega
    · have h2 := HWP.out.wr.rowlt _ h; exact Nat.lt_irrefl _ h2
  have r1 : Row W1 w.heap.size 28 [.int .i64 1, .int .i64 0, .string s, .slice a3 la ca, .slice b3 lb cb, .slice c3 len cc] := R3.out.only hw1.only hne
  have HR1 := Lib.hid r1
  have c0 := r1.cell (k := 0) rfl
  have HW1 := Lib.hid (HWB.out.wrote HA.out hw1)
  have HX1 := Lib.hid hw1
  have HGL := Lib.hid r1.lt
  have hne1 : v1.ownBlock ≠ some w.heap.size := fun e => by
    rcases hw1.rows _ e with h | h
    · have h2 := HWP.out.wr.rowlt _ h
      exact Nat.lt_irrefl _ h2
    · have h2 : w.heap.size + 1 ≤ w.heap.size := by simpa using h
      omega
  have HNE := Lib.hid hne1
  clear hw1 r1 hne hne1
  have c1 := HR1.out.cell (k := 1) rfl
  go_wp2_with fail
  refine (bool_any a v1 (k0 ++ [1]) false W1 HW1.out.wr (by have := HLN.out; simp only [List.length_append, List.length_cons, List.length_nil]; omega)).mono ?_
  rintro e W2 ⟨rfl, v2, hw2⟩
  have HW2 := Lib.hid (wrote_from (HX1.out.trans hw2))
  clear hw2
  go_wp2_with fail
  go_end0
  exact ⟨rfl, v2, by have h := HW2.out; rw [List.append_assoc] at h; exact h⟩

set_option maxHeartbeats 3200000 in
theorem vwrite_11 (W w : World) (a : Addr) (v : Value) (k0 : List UInt8) (s : ByteArray) (a3 b3 c3 : Option Addr) (la ca lb cb len cc : Nat)  (hw : WP W w a v k0) (ha : W.heap.size ≤ a.block) (hlen : k0.length + 100 ≤ 140737488355328) :
    Calls Tryz.prog 87 #[.pointer (some a), .agg #[.int .i64 1, .int .i64 1, .string s, .slice a3 la ca, .slice b3 lb cb, .slice c3 len cc]] w fun e w' => e = .returned (.tuple #[]) ∧ ∃ v', Wrote w w' a v v' (k0 ++ [1, 1]) := by
  have HA := Lib.hid ha
  have R3 := Lib.hid (Row.new w [.int .i64 1, .int .i64 1, .string s, .slice a3 la ca, .slice b3 lb cb, .slice c3 len cc] 28)
  have HWB := Lib.hid (hw.later (below_new w (.cells #[.int .i64 1, .int .i64 1, .string s, .slice a3 la ca, .slice b3 lb cb, .slice c3 len cc] 28)))
  have HWP := Lib.hid hw
  have HLN := Lib.hid hlen
  clear hw ha hlen
  go_enter Tryz.func87, Tryz.ntmps87
  go_wp2_with fail
  refine (byte_any a v k0 1 _ HWB.out.wr (by have := HLN.out; omega)).mono ?_
  rintro e W1 ⟨rfl, v1, hw1⟩
  have hne : ¬ ((fun b => b = a.block ∨ v.ownBlock = some b) w.heap.size) := by
    rintro (h | h)
    · have h2 := HWP.out.wr.lt; have h3 : w.heap.size = a.block := h; omega
    · have h2 := HWP.out.wr.rowlt _ h; exact Nat.lt_irrefl _ h2
  have r1 : Row W1 w.heap.size 28 [.int .i64 1, .int .i64 1, .string s, .slice a3 la ca, .slice b3 lb cb, .slice c3 len cc] := R3.out.only hw1.only hne
  have HR1 := Lib.hid r1
  have c0 := r1.cell (k := 0) rfl
  have HW1 := Lib.hid (HWB.out.wrote HA.out hw1)
  have HX1 := Lib.hid hw1
  have HGL := Lib.hid r1.lt
  have hne1 : v1.ownBlock ≠ some w.heap.size := fun e => by
    rcases hw1.rows _ e with h | h
    · have h2 := HWP.out.wr.rowlt _ h
      exact Nat.lt_irrefl _ h2
    · have h2 : w.heap.size + 1 ≤ w.heap.size := by simpa using h
      omega
  have HNE := Lib.hid hne1
  clear hw1 r1 hne hne1
  have c1 := HR1.out.cell (k := 1) rfl
  go_wp2_with fail
  refine (bool_any a v1 (k0 ++ [1]) true W1 HW1.out.wr (by have := HLN.out; simp only [List.length_append, List.length_cons, List.length_nil]; omega)).mono ?_
  rintro e W2 ⟨rfl, v2, hw2⟩
  have HW2 := Lib.hid (wrote_from (HX1.out.trans hw2))
  clear hw2
  go_wp2_with fail
  go_end0
  exact ⟨rfl, v2, by have h := HW2.out; rw [List.append_assoc] at h; exact h⟩

set_option maxHeartbeats 3200000 in
theorem vwrite_2 (W w : World) (a : Addr) (v : Value) (k0 : List UInt8) (n : Int) (s : ByteArray) (a3 b3 c3 : Option Addr) (la ca lb cb len cc : Nat) (hn : (Lit.int .i64 n).wf = true) (hw : WP W w a v k0) (ha : W.heap.size ≤ a.block) (hlen : k0.length + 100 ≤ 140737488355328) :
    Calls Tryz.prog 87 #[.pointer (some a), .agg #[.int .i64 2, .int .i64 n, .string s, .slice a3 la ca, .slice b3 lb cb, .slice c3 len cc]] w fun e w' => e = .returned (.tuple #[]) ∧ ∃ v', Wrote w w' a v v' (k0 ++ ([2] ++ enc (zig n))) := by
  have HA := Lib.hid ha
  have R3 := Lib.hid (Row.new w [.int .i64 2, .int .i64 n, .string s, .slice a3 la ca, .slice b3 lb cb, .slice c3 len cc] 28)
  have HWB := Lib.hid (hw.later (below_new w (.cells #[.int .i64 2, .int .i64 n, .string s, .slice a3 la ca, .slice b3 lb cb, .slice c3 len cc] 28)))
  have HWP := Lib.hid hw
  have HLN := Lib.hid hlen
  clear hw ha hlen
  go_enter Tryz.func87, Tryz.ntmps87
  go_wp2_with fail
  refine (byte_any a v k0 2 _ HWB.out.wr (by have := HLN.out; omega)).mono ?_
  rintro e W1 ⟨rfl, v1, hw1⟩
  have hne : ¬ ((fun b => b = a.block ∨ v.ownBlock = some b) w.heap.size) := by
    rintro (h | h)
    · have h2 := HWP.out.wr.lt; have h3 : w.heap.size = a.block := h; omega
    · have h2 := HWP.out.wr.rowlt _ h; exact Nat.lt_irrefl _ h2
  have r1 : Row W1 w.heap.size 28 [.int .i64 2, .int .i64 n, .string s, .slice a3 la ca, .slice b3 lb cb, .slice c3 len cc] := R3.out.only hw1.only hne
  have HR1 := Lib.hid r1
  have c0 := r1.cell (k := 0) rfl
  have HW1 := Lib.hid (HWB.out.wrote HA.out hw1)
  have HX1 := Lib.hid hw1
  have HGL := Lib.hid r1.lt
  have hne1 : v1.ownBlock ≠ some w.heap.size := fun e => by
    rcases hw1.rows _ e with h | h
    · have h2 := HWP.out.wr.rowlt _ h
      exact Nat.lt_irrefl _ h2
    · have h2 : w.heap.size + 1 ≤ w.heap.size := by simpa using h
      omega
  have HNE := Lib.hid hne1
  clear hw1 r1 hne hne1
  have c1 := HR1.out.cell (k := 1) rfl
  go_wp2_with fail
  refine (int_any a v1 (k0 ++ [2]) n W1 HW1.out.wr (wf_i64_le hn).1 (wf_i64_le hn).2 (by have := HLN.out; simp only [List.length_append, List.length_cons, List.length_nil]; omega)).mono ?_
  rintro e W2 ⟨rfl, v2, hw2⟩
  have HW2 := Lib.hid (wrote_from (HX1.out.trans hw2))
  clear hw2
  go_wp2_with fail
  go_end0
  exact ⟨rfl, v2, by have h := HW2.out; rw [List.append_assoc] at h; exact h⟩

set_option maxHeartbeats 3200000 in
theorem vwrite_3 (W w : World) (a : Addr) (v : Value) (k0 : List UInt8) (n : Int) (s : ByteArray) (a3 b3 c3 : Option Addr) (la ca lb cb len cc : Nat) (hs : s.size ≤ 64) (hw : WP W w a v k0) (ha : W.heap.size ≤ a.block) (hlen : k0.length + 200 ≤ 140737488355328) :
    Calls Tryz.prog 87 #[.pointer (some a), .agg #[.int .i64 3, .int .i64 n, .string s, .slice a3 la ca, .slice b3 lb cb, .slice c3 len cc]] w fun e w' => e = .returned (.tuple #[]) ∧ ∃ v', Wrote w w' a v v' (k0 ++ ([3] ++ wB s)) := by
  have HA := Lib.hid ha
  have R3 := Lib.hid (Row.new w [.int .i64 3, .int .i64 n, .string s, .slice a3 la ca, .slice b3 lb cb, .slice c3 len cc] 28)
  have HWB := Lib.hid (hw.later (below_new w (.cells #[.int .i64 3, .int .i64 n, .string s, .slice a3 la ca, .slice b3 lb cb, .slice c3 len cc] 28)))
  have HWP := Lib.hid hw
  have HLN := Lib.hid hlen
  clear hw ha hlen
  go_enter Tryz.func87, Tryz.ntmps87
  go_wp2_with fail
  refine (byte_any a v k0 3 _ HWB.out.wr (by have := HLN.out; omega)).mono ?_
  rintro e W1 ⟨rfl, v1, hw1⟩
  have hne : ¬ ((fun b => b = a.block ∨ v.ownBlock = some b) w.heap.size) := by
    rintro (h | h)
    · have h2 := HWP.out.wr.lt; have h3 : w.heap.size = a.block := h; omega
    · have h2 := HWP.out.wr.rowlt _ h; exact Nat.lt_irrefl _ h2
  have r1 : Row W1 w.heap.size 28 [.int .i64 3, .int .i64 n, .string s, .slice a3 la ca, .slice b3 lb cb, .slice c3 len cc] := R3.out.only hw1.only hne
  have HR1 := Lib.hid r1
  have c0 := r1.cell (k := 0) rfl
  have HW1 := Lib.hid (HWB.out.wrote HA.out hw1)
  have HX1 := Lib.hid hw1
  have HGL := Lib.hid r1.lt
  have hne1 : v1.ownBlock ≠ some w.heap.size := fun e => by
    rcases hw1.rows _ e with h | h
    · have h2 := HWP.out.wr.rowlt _ h
      exact Nat.lt_irrefl _ h2
    · have h2 : w.heap.size + 1 ≤ w.heap.size := by simpa using h
      omega
  have HNE := Lib.hid hne1
  clear hw1 r1 hne hne1
  have c1 := HR1.out.cell (k := 2) rfl
  go_wp2_with fail
  refine (puttext_any a v1 (k0 ++ [3]) s W1 HW1.out.wr (by have := HLN.out; simp only [List.length_append, List.length_cons, List.length_nil]; omega)).mono ?_
  rintro e W2 ⟨rfl, v2, hw2⟩
  have HW2 := Lib.hid (wrote_from (HX1.out.trans hw2))
  clear hw2
  go_wp2_with fail
  go_end0
  exact ⟨rfl, v2, by have h := HW2.out; rw [List.append_assoc] at h; exact h⟩

set_option maxHeartbeats 3200000 in
theorem vwrite_4 (W w : World) (a : Addr) (v : Value) (k0 : List UInt8) (n : Int) (s : ByteArray) (a3 b3 c3 : Option Addr) (la ca lb cb len cc : Nat) (hs : s.size ≤ 64) (hw : WP W w a v k0) (ha : W.heap.size ≤ a.block) (hlen : k0.length + 200 ≤ 140737488355328) :
    Calls Tryz.prog 87 #[.pointer (some a), .agg #[.int .i64 4, .int .i64 n, .string s, .slice a3 la ca, .slice b3 lb cb, .slice c3 len cc]] w fun e w' => e = .returned (.tuple #[]) ∧ ∃ v', Wrote w w' a v v' (k0 ++ ([4] ++ wB s)) := by
  have HA := Lib.hid ha
  have R3 := Lib.hid (Row.new w [.int .i64 4, .int .i64 n, .string s, .slice a3 la ca, .slice b3 lb cb, .slice c3 len cc] 28)
  have HWB := Lib.hid (hw.later (below_new w (.cells #[.int .i64 4, .int .i64 n, .string s, .slice a3 la ca, .slice b3 lb cb, .slice c3 len cc] 28)))
  have HWP := Lib.hid hw
  have HLN := Lib.hid hlen
  clear hw ha hlen
  go_enter Tryz.func87, Tryz.ntmps87
  go_wp2_with fail
  refine (byte_any a v k0 4 _ HWB.out.wr (by have := HLN.out; omega)).mono ?_
  rintro e W1 ⟨rfl, v1, hw1⟩
  have hne : ¬ ((fun b => b = a.block ∨ v.ownBlock = some b) w.heap.size) := by
    rintro (h | h)
    · have h2 := HWP.out.wr.lt; have h3 : w.heap.size = a.block := h; omega
    · have h2 := HWP.out.wr.rowlt _ h; exact Nat.lt_irrefl _ h2
  have r1 : Row W1 w.heap.size 28 [.int .i64 4, .int .i64 n, .string s, .slice a3 la ca, .slice b3 lb cb, .slice c3 len cc] := R3.out.only hw1.only hne
  have HR1 := Lib.hid r1
  have c0 := r1.cell (k := 0) rfl
  have HW1 := Lib.hid (HWB.out.wrote HA.out hw1)
  have HX1 := Lib.hid hw1
  have HGL := Lib.hid r1.lt
  have hne1 : v1.ownBlock ≠ some w.heap.size := fun e => by
    rcases hw1.rows _ e with h | h
    · have h2 := HWP.out.wr.rowlt _ h
      exact Nat.lt_irrefl _ h2
    · have h2 : w.heap.size + 1 ≤ w.heap.size := by simpa using h
      omega
  have HNE := Lib.hid hne1
  clear hw1 r1 hne hne1
  have c1 := HR1.out.cell (k := 2) rfl
  go_wp2_with fail
  refine (puttext_any a v1 (k0 ++ [4]) s W1 HW1.out.wr (by have := HLN.out; simp only [List.length_append, List.length_cons, List.length_nil]; omega)).mono ?_
  rintro e W2 ⟨rfl, v2, hw2⟩
  have HW2 := Lib.hid (wrote_from (HX1.out.trans hw2))
  clear hw2
  go_wp2_with fail
  go_end0
  exact ⟨rfl, v2, by have h := HW2.out; rw [List.append_assoc] at h; exact h⟩

set_option maxHeartbeats 3200000 in
theorem vwrite_5 (W w : World) (a : Addr) (v : Value) (k0 : List UInt8) (n : Int) (s : ByteArray) (a3 b3 c3 : Option Addr) (la ca lb cb cc : Nat) (names : List ByteArray) (css : Nat → List Value) (parts : Nat → Vt) (B : Nat) (hs : Strs W a3 la names) (hss : ∀ i, i < la → (nth names i).size ≤ 64) (hn8 : la ≤ 8) (hp : Parts W 6 c3 la css)
    (HW : ∀ i, i < la → ∀ (w' : World) (v' : Value) (k : List UInt8), WP W w' a v' k → k.length + B + 100 ≤ 140737488355328 → Calls Tryz.prog 87 #[.pointer (some a), .agg (css i).toArray] w' fun e w'' => e = .returned (.tuple #[]) ∧ ∃ v'', Wrote w' w'' a v' v'' (k ++ (parts i).bytes)) (HL : ∀ i, i < la → (parts i).bytes.length ≤ B) (hw : WP W w a v k0) (ha : W.heap.size ≤ a.block) (hlen : k0.length + (20 + 8 * (74 + B) + 200) ≤ 140737488355328) :
    Calls Tryz.prog 87 #[.pointer (some a), .agg #[.int .i64 5, .int .i64 n, .string s, .slice a3 la ca, .slice b3 lb cb, .slice c3 la cc]] w fun e w' => e = .returned (.tuple #[]) ∧ ∃ v', Wrote w w' a v v' (k0 ++ ([5] ++ (enc la ++ (List.range la).flatMap fun i => wB (nth names i) ++ (parts i).bytes))) := by
  have HA := Lib.hid ha
  have HSS := Lib.hid (show Strs W a3 la names ∧ _ ∧ Parts W 6 c3 la css ∧ _ ∧ _ from ⟨hs, hss, hp, HW, HL⟩)
  clear hs hss hp HW HL
  have R3 := Lib.hid (Row.new w [.int .i64 5, .int .i64 n, .string s, .slice a3 la ca, .slice b3 lb cb, .slice c3 la cc] 28)
  have HWB := Lib.hid (hw.later (below_new w (.cells #[.int .i64 5, .int .i64 n, .string s, .slice a3 la ca, .slice b3 lb cb, .slice c3 la cc] 28)))
  have HWP := Lib.hid hw
  have HLN := Lib.hid hlen
  clear hw ha hlen
  go_enter Tryz.func87, Tryz.ntmps87
  go_wp2_with fail
  refine (byte_any a v k0 5 _ HWB.out.wr (by have := HLN.out; omega)).mono ?_
  rintro e W1 ⟨rfl, v1, hw1⟩
  have hne : ¬ ((fun b => b = a.block ∨ v.ownBlock = some b) w.heap.size) := by
    rintro (h | h)
    · have h2 := HWP.out.wr.lt; have h3 : w.heap.size = a.block := h; omega
    · have h2 := HWP.out.wr.rowlt _ h; exact Nat.lt_irrefl _ h2
  have r1 : Row W1 w.heap.size 28 [.int .i64 5, .int .i64 n, .string s, .slice a3 la ca, .slice b3 lb cb, .slice c3 la cc] := R3.out.only hw1.only hne
  have HR1 := Lib.hid r1
  have c0 := r1.cell (k := 0) rfl
  have HW1 := Lib.hid (HWB.out.wrote HA.out hw1)
  have HX1 := Lib.hid hw1
  have HGL := Lib.hid r1.lt
  have hne1 : v1.ownBlock ≠ some w.heap.size := fun e => by
    rcases hw1.rows _ e with h | h
    · have h2 := HWP.out.wr.rowlt _ h
      exact Nat.lt_irrefl _ h2
    · have h2 : w.heap.size + 1 ≤ w.heap.size := by simpa using h
      omega
  have HNE := Lib.hid hne1
  clear hw1 r1 hne hne1
  have c3' := HR1.out.cell (k := 3) rfl
  have c5' := HR1.out.cell (k := 5) rfl
  have HC := Lib.hid (fwrite_any W a a3 c3 la ca cc names css parts B W1 v1 (k0 ++ [5]) HSS.out.1 HSS.out.2.1 hn8 HSS.out.2.2.1 HSS.out.2.2.2.1 HSS.out.2.2.2.2 HA.out HW1.out (by have := HLN.out; simp only [List.length_append, List.length_cons, List.length_nil]; omega))
  go_wp2_with fail
  refine HC.out.mono ?_
  rintro e W2 ⟨rfl, v2, hw2⟩
  have HW2 := Lib.hid (wrote_from (HX1.out.trans hw2))
  clear hw2
  go_wp2_with fail
  go_end0
  exact ⟨rfl, v2, by have h := HW2.out; rw [List.append_assoc] at h; exact h⟩

set_option maxHeartbeats 3200000 in
theorem vwrite_6 (W w : World) (a : Addr) (v : Value) (k0 : List UInt8) (n : Int) (s : ByteArray) (a3 b3 c3 : Option Addr) (la ca lb cb cc : Nat) (ids : List Int) (css : Nat → List Value) (parts : Nat → Vt) (B : Nat) (hs : Nums W b3 lb ids) (hss : ∀ x ∈ ids, (Lit.int .u64 x).wf = true) (hn12 : lb ≤ 12) (hp : Parts W 6 c3 lb css)
    (HW : ∀ i, i < lb → ∀ (w' : World) (v' : Value) (k : List UInt8), WP W w' a v' k → k.length + B + 100 ≤ 140737488355328 → Calls Tryz.prog 87 #[.pointer (some a), .agg (css i).toArray] w' fun e w'' => e = .returned (.tuple #[]) ∧ ∃ v'', Wrote w' w'' a v' v'' (k ++ (parts i).bytes)) (HL : ∀ i, i < lb → (parts i).bytes.length ≤ B) (hw : WP W w a v k0) (ha : W.heap.size ≤ a.block) (hlen : k0.length + (20 + 12 * (10 + B) + 400) ≤ 140737488355328) :
    Calls Tryz.prog 87 #[.pointer (some a), .agg #[.int .i64 6, .int .i64 n, .string s, .slice a3 la ca, .slice b3 lb cb, .slice c3 lb cc]] w fun e w' => e = .returned (.tuple #[]) ∧ ∃ v', Wrote w w' a v v' (k0 ++ ([6] ++ (enc lb ++ (List.range lb).flatMap fun i => iB ids i ++ (parts i).bytes))) := by
  have HA := Lib.hid ha
  have HSS := Lib.hid (show Nums W b3 lb ids ∧ _ ∧ Parts W 6 c3 lb css ∧ _ ∧ _ from ⟨hs, hss, hp, HW, HL⟩)
  clear hs hss hp HW HL
  have R3 := Lib.hid (Row.new w [.int .i64 6, .int .i64 n, .string s, .slice a3 la ca, .slice b3 lb cb, .slice c3 lb cc] 28)
  have HWB := Lib.hid (hw.later (below_new w (.cells #[.int .i64 6, .int .i64 n, .string s, .slice a3 la ca, .slice b3 lb cb, .slice c3 lb cc] 28)))
  have HWP := Lib.hid hw
  have HLN := Lib.hid hlen
  clear hw ha hlen
  go_enter Tryz.func87, Tryz.ntmps87
  go_wp2_with fail
  refine (byte_any a v k0 6 _ HWB.out.wr (by have := HLN.out; omega)).mono ?_
  rintro e W1 ⟨rfl, v1, hw1⟩
  have hne : ¬ ((fun b => b = a.block ∨ v.ownBlock = some b) w.heap.size) := by
    rintro (h | h)
    · have h2 := HWP.out.wr.lt; have h3 : w.heap.size = a.block := h; omega
    · have h2 := HWP.out.wr.rowlt _ h; exact Nat.lt_irrefl _ h2
  have r1 : Row W1 w.heap.size 28 [.int .i64 6, .int .i64 n, .string s, .slice a3 la ca, .slice b3 lb cb, .slice c3 lb cc] := R3.out.only hw1.only hne
  have HR1 := Lib.hid r1
  have c0 := r1.cell (k := 0) rfl
  have HW1 := Lib.hid (HWB.out.wrote HA.out hw1)
  have HX1 := Lib.hid hw1
  have HGL := Lib.hid r1.lt
  have hne1 : v1.ownBlock ≠ some w.heap.size := fun e => by
    rcases hw1.rows _ e with h | h
    · have h2 := HWP.out.wr.rowlt _ h
      exact Nat.lt_irrefl _ h2
    · have h2 : w.heap.size + 1 ≤ w.heap.size := by simpa using h
      omega
  have HNE := Lib.hid hne1
  clear hw1 r1 hne hne1
  have c4 := HR1.out.cell (k := 4) rfl
  have hen := enc_length_le (n := lb) (by omega)
  have hn12i : (lb : Int) ≤ 12 := by omega
  have HIL := Lib.hid HSS.out.1.len
  go_wp2_with fail
  refine (number_any a v1 (k0 ++ [6]) lb W1 HW1.out.wr (by omega) (by have := HLN.out; simp only [List.length_append, List.length_cons, List.length_nil]; omega)).mono ?_
  rintro e W2 ⟨rfl, v2, hw2⟩
  have hr2 := HR1.out.only hw2.only (by rintro (h | h); (have h2 := HWP.out.wr.lt; have h3 : w.heap.size = a.block := h; omega); exact HNE.out h)
  have HR2 := Lib.hid hr2
  have d4 := hr2.cell (k := 4) rfl
  have hne2 : v2.ownBlock ≠ some w.heap.size := fun e => by
    rcases hw2.rows _ e with h | h
    · exact HNE.out h
    · have := HGL.out; omega
  have HNE2 := Lib.hid hne2
  have HGL2 := Lib.hid hr2.lt
  have HX2 := Lib.hid (wrote_from (HX1.out.trans hw2))
  clear hw2 hr2 hne2
  go_wp2_with fail
  go_loopw [4, 5, 52] (fun _ _ i wr => ∃ (j : Nat) (v' : Value), j ≤ lb ∧ i = .int .i64 (j : Int) ∧ Wrote w wr a v v' (k0 ++ [6] ++ enc lb ++ (List.range j).flatMap fun i => iB ids i ++ (parts i).bytes) ∧ Row wr w.heap.size 28 [.int .i64 6, .int .i64 n, .string s, .slice a3 la ca, .slice b3 lb cb, .slice c3 lb cc] ∧ v'.ownBlock ≠ some w.heap.size) (fun _ _ i _ => lb - (intOf i).toNat)
  case atStart => exact ⟨0, v2, Nat.zero_le _, rfl, by simpa using HX2.out, HR2.out, HNE2.out⟩
  case round =>
    obtain ⟨j, v3, hjn, rfl, hwr, hrow, hnb⟩ := hrel
    have hwp := HWP.out.wrote HA.out hwr
    have bj0 : (0 : Int) ≤ (j : Int) := by omega
    by_cases hj : j < lb
    · have hji : (j : Int) < (lb : Int) := by omega
      obtain ⟨ad, rfl, hc0⟩ := Nums.at_ (HSS.out.1.belowAll hwp.be) hj
      have hidl : j < ids.length := by rw [HIL.out]; exact hj
      have hidm : ids.getD j 0 ∈ ids := by simp [hidl]
      have hidb := wf_u64_lt (HSS.out.2.1 _ hidm)
      obtain ⟨m, hm⟩ : ∃ m : Nat, ids.getD j 0 = (m : Int) := ⟨(ids.getD j 0).toNat, by omega⟩
      have hib : iB ids j = enc m := by unfold iB; rw [hm]; rfl
      have hib10 := enc_length_le (n := m) (by omega)
      rw [hm] at hc0 hidb
      have hfl := flat_blen (f := fun i => iB ids i ++ (parts i).bytes) (b := 10 + B) (n := j) (fun i hi => by
        rw [List.length_append]
        have h3 := iB_len HSS.out.2.1 (i := i) (by omega)
        have h4 := HSS.out.2.2.2.2 i (by omega)
        omega)
      have hj8 : j * (10 + B) ≤ 11 * (10 + B) := Nat.mul_le_mul_right _ (by omega)
      have HMO := Lib.hid (flat_bmore (fun i => iB ids i ++ (parts i).bytes) j)
      have hkl : (k0 ++ [6] ++ enc lb ++ (List.range j).flatMap fun i => iB ids i ++ (parts i).bytes).length + B + 10 + 200 ≤ 140737488355328 := by
        have := HLN.out
        simp only [List.length_append, List.length_cons, List.length_nil] at hfl ⊢
        omega
      generalize hkj : (k0 ++ [6] ++ enc lb ++ (List.range j).flatMap fun i => iB ids i ++ (parts i).bytes) = kj at *
      have HKJ := Lib.hid hkj
      have HIB := Lib.hid hib
      have HWP3 := Lib.hid hwp
      have HWR := Lib.hid hwr
      have HRW := Lib.hid hrow
      have HNB := Lib.hid hnb
      have hm0 : (0 : Int) ≤ (m : Int) := by omega
      clear hfl hj8 hwp hwr hkj hm hidm hidl hib hrow hnb
      go_wp2_with fail
      refine (number_any a v3 kj m wr HWP3.out.wr (by omega) (by omega)).mono ?_
      rintro e W3 ⟨rfl, v4, hw4⟩
      have hr4 := HRW.out.only hw4.only (by rintro (h | h); (have h2 := HWP.out.wr.lt; have h3 : w.heap.size = a.block := h; omega); exact HNB.out h)
      have hne4 : v4.ownBlock ≠ some w.heap.size := fun e => by
        rcases hw4.rows _ e with h | h
        · exact HNB.out h
        · have := HRW.out.lt; omega
      have hwp4 := HWP3.out.wrote HA.out hw4
      have e5 := hr4.cell (k := 5) rfl
      obtain ⟨pd, rfl, hpb, hcell⟩ := (HSS.out.2.2.1.below hwp4.be) (by omega)
      obtain ⟨hl6, hcc⟩ := hcell j hj
      have HCC := Lib.hid hcc
      have HL6 := Lib.hid (v_len hl6)
      have HCALL := Lib.hid (HSS.out.2.2.2.1 j hj W3 v4 (kj ++ enc m) hwp4 (by rw [List.length_append]; omega))
      have HR4 := Lib.hid hr4
      have HNE4 := Lib.hid hne4
      have HX4 := Lib.hid (HWR.out.trans hw4)
      clear hw4 hwp4 hcell hcc hl6 hpb hr4 hne4
      go_wp2_with (refine wpList_load_at rfl 28 (.tmp 64) rfl (pd.add (j * 6)) rfl (css j) _ (fun q u hu => by rw [add_add]; exact HCC.out q u hu) Tryz.underlying28 rfl HL6.out ?_)
      refine HCALL.out.mono ?_
      rintro e W5 ⟨rfl, v5, hwp5⟩
      have hr5 := HR4.out.only hwp5.only (by rintro (h | h); (have h2 := HWP.out.wr.lt; have h3 : w.heap.size = a.block := h; omega); exact HNE4.out h)
      have hne5 : v5.ownBlock ≠ some w.heap.size := fun e => by
        rcases hwp5.rows _ e with h | h
        · exact HNE4.out h
        · have := HR4.out.lt; omega
      have HR5 := Lib.hid hr5
      have HNE5 := Lib.hid hne5
      have HX5 := Lib.hid (HX4.out.trans hwp5)
      clear hwp5 hr5 hne5
      go_wp2_with fail
      go_roundw
      case rel =>
        refine ⟨j + 1, v5, by omega, by go_num, ?_, HR5.out, HNE5.out⟩
        rw [HMO.out, HIB.out, ← List.append_assoc, HKJ.out]
        have h := HX5.out
        rw [← List.append_assoc]
        exact h
      case measure => simp [intOf] <;> omega
    · obtain rfl : j = lb := by omega
      have HWQ := Lib.hid hwr
      clear hwp hwr
      go_wp2_with fail
      go_end0
      exact ⟨rfl, v3, by have h := HWQ.out; simpa using h⟩

set_option maxHeartbeats 1600000 in
theorem vwrite_any : ∀ (s : Vt) (cs : List Value) (d : Nat) (W w : World) (a : Addr) (v : Value) (k0 : List UInt8), VAt W s cs → s.rightAt d = true → WP W w a v k0 → W.heap.size ≤ a.block → k0.length + vbnd (6 - d) + 100 ≤ 140737488355328 →
    Calls Tryz.prog 87 #[.pointer (some a), .agg cs.toArray] w fun e w' => e = .returned (.tuple #[]) ∧ ∃ v', Wrote w w' a v v' (k0 ++ s.bytes) := by
  intro s
  induction s with
  | nul => intro cs d W w a v k0 h; cases h
  | mk k n x names ids len parts ih =>
    intro cs d W w a v k0 hs hr hw ha hlen
    rw [Vt.rightAt_mk, Bool.and_eq_true, Bool.and_eq_true, List.all_eq_true] at hr
    obtain ⟨⟨h5, hh⟩, hp⟩ := hr
    have h5 := of_decide_eq_true h5
    have e1 : 6 - d = (5 - d) + 1 := by omega
    have e2 : 6 - (d + 1) = 5 - d := by omega
    rw [e1, vbnd] at hlen
    cases hs with
    | @mk _ _ _ _ _ _ _ a3 b3 c3 la ca lb cb cc css hk hn hsz h1 h1c hss h2 h2c hi h3 h3c hsub =>
    have hnl : names.length = la := Strs.len h1
    have hil : ids.length = lb := Nums.len h2
    have hbl : ∀ i, i < len → (parts i).bytes.length ≤ vbnd (5 - d) := fun i hi' => by
      have := Vt.bytes_len (parts i) (d + 1) (hp i (List.mem_range.2 hi')) (hsub i hi').inn
      rwa [e2] at this
    have hW : ∀ i, i < len → ∀ (w' : World) (v' : Value) (k : List UInt8), WP W w' a v' k → k.length + vbnd (5 - d) + 100 ≤ 140737488355328 → Calls Tryz.prog 87 #[.pointer (some a), .agg (css i).toArray] w' fun e w'' => e = .returned (.tuple #[]) ∧ ∃ v'', Wrote w' w'' a v' v'' (k ++ (parts i).bytes) :=
      fun i hi' w' v' k hw' hl' => ih i (css i) (d + 1) W w' a v' k (hsub i hi') (hp i (List.mem_range.2 hi')) hw' ha (by rw [e2]; exact hl')
    rcases headV_cases hh with ⟨rfl, hn01, _⟩ | ⟨rfl, _⟩ | ⟨rfl, _, hs64, _⟩ | ⟨rfl, _, hnm, _⟩ | ⟨rfl, _, _, _, h8, hl, hri⟩ | ⟨rfl, _, _, _, h12, hl, hid⟩
    · rw [vbytes_1]
      rcases hn01 with rfl | rfl
      · exact vwrite_10 W w a v k0 x a3 b3 c3 la ca lb cb len cc hw ha (by omega)
      · exact vwrite_11 W w a v k0 x a3 b3 c3 la ca lb cb len cc hw ha (by omega)
    · rw [vbytes_2]
      exact vwrite_2 W w a v k0 n x a3 b3 c3 la ca lb cb len cc hn hw ha (by omega)
    · rw [vbytes_3]
      exact vwrite_3 W w a v k0 n x a3 b3 c3 la ca lb cb len cc hs64 hw ha (by omega)
    · rw [vbytes_4]
      exact vwrite_4 W w a v k0 n x a3 b3 c3 la ca lb cb len cc (by have := nameB_sz hnm; omega) hw ha (by omega)
    · rw [vbytes_5, hnl]
      obtain rfl : len = la := by omega
      exact vwrite_5 W w a v k0 n x a3 b3 c3 len ca lb cb cc names css parts (vbnd (5 - d)) h1 (fun i hi' => riseB_size hri (by omega)) (by omega) h3 hW hbl hw ha (by omega)
    · rw [vbytes_6, hil]
      obtain rfl : len = lb := by omega
      exact vwrite_6 W w a v k0 n x a3 b3 c3 la ca len cb cc ids css parts (vbnd (5 - d)) h2 hi (by omega) h3 hW hbl hw ha (by omega)
end

section
set_option maxRecDepth 100000
set_option linter.unusedSimpArgs false
set_option linter.unusedVariables false
open Go.RowKit

/-- What Encode answers. -/
def Enc (B : Nat) (w' : World) (s : Vt) (e : Ending) : Prop :=
  if s.rightAt 1 = true then
    if s.bytes.length ≤ 4096 then ∃ a c, e = .returned (.tuple #[.slice a s.bytes.length c, .nilIface]) ∧ w'.ownsRow B 5 1 (.slice a s.bytes.length c) s.bytes.length (Bs s.bytes)
    else e = .returned (.tuple #[.slice none 0 0, .iface 50 (.int .i64 3)])
  else e = .returned (.tuple #[.slice none 0 0, .iface 50 (.int .i64 1)])

set_option maxHeartbeats 1600000 in
theorem vencode_any (s : Vt) (cs : List Value) (w : World) (h : VAt w s cs) :
    Calls Tryz.prog 45 #[.agg cs.toArray] w fun e w' => Enc w.heap.size w' s e ∧ Below w.heap.size w w' := by
  have hw := Below.alloc1 w (.cells cs.toArray 28)
  have HR := Lib.hid (vright_any s cs _ (h.later hw))
  have HW := Lib.hid hw
  have HS := Lib.hid h
  have HB0 := Lib.hid (Row.new w cs 28)
  have HI := Lib.hid (v_info h.length)
  clear hw h
  by_cases hr : s.rightAt 1 = true
  · rw [hr] at HR
    have HRT := Lib.hid hr
    have hln := s.bytes_len 1 hr HS.out.inn
    have hbn : vbnd (6 - 1) ≤ 400000000 := vbnd_all (by decide)
    have hbn5 : vbnd 5 ≤ 400000000 := vbnd_all (by decide)
    clear hr
    go_enter Tryz.func45, Tryz.ntmps45
    go_wp2_with (refine wpList_load_row rfl 28 (.tmp 1) rfl w.heap.size rfl 28 _ (0, 0) _ HB0.out Tryz.underlying28 rfl HI.out ?_)
    refine HR.out.mono ?_
    rintro e W1 ⟨rfl, hb⟩
    have HB := Lib.hid hb
    clear hb
    have HB1 := Lib.hid (HB0.out.belowAll HB.out)
    have hwp : WP w (W1.alloc (.cells #[.slice none 0 0] 52)) ⟨W1.heap.size, 0, none⟩ (.slice none 0 0) [] :=
      ⟨⟨by simp, by simp, World.ownsRow_nil _ _ _ _, by simp [Value.ownBlock]⟩, (HW.out.trans (HB.out.mono HW.out.size)).trans ((below_new W1 _).mono (Nat.le_trans HW.out.size HB.out.size)), fun j hj => by simp [Value.ownBlock] at hj⟩
    have hsz : w.heap.size ≤ W1.heap.size := Nat.le_trans HW.out.size HB.out.size
    have HWP := Lib.hid hwp
    have HB2 := Lib.hid (HB1.out.alloc (.cells #[.slice none 0 0] 52))
    have HWS := Lib.hid (vwrite_any s cs 1 w (W1.alloc (.cells #[.slice none 0 0] 52)) ⟨W1.heap.size, 0, none⟩ (.slice none 0 0) [] HS.out HRT.out hwp hsz (by simp; omega))
    clear hwp
    go_wp2_with (refine wpList_load_row rfl 28 (.tmp 1) rfl w.heap.size rfl 28 _ (0, 0) _ HB2.out Tryz.underlying28 rfl HI.out ?_)
    refine HWS.out.mono ?_
    rintro e W2 ⟨rfl, v2, hw2x⟩
    have hw2 := HWP.out.wrote hsz hw2x
    rw [List.nil_append] at hw2
    have HW2 := Lib.hid hw2
    clear hw2
    go_wp2_with fail
    refine (out_any ⟨W1.heap.size, 0, none⟩ v2 s.bytes W2 HW2.out.wr (by omega)).mono ?_
    rintro e W3 ⟨v3, rfl, ho, hb⟩
    obtain ⟨a3, c3, rfl⟩ := own_slice ho
    have hz : w.heap.size ≤ W2.heap.size := HW2.out.be.size
    have HO := Lib.hid ho
    have HB3 := Lib.hid (HW2.out.be.trans (hb.mono HW2.out.be.size))
    clear ho hb
    by_cases h4 : s.bytes.length ≤ 4096
    · have h4i : ¬ (4096 : Int) < (s.bytes.length : Int) := by omega
      go_wp2_with fail
      go_ret2
      refine ⟨?_, HB3.out⟩
      unfold Enc
      rw [if_pos HRT.out, if_pos h4]
      exact ⟨a3, c3, rfl, HO.out.1, HO.out.2.imp (fun h => h) fun ⟨g, cap, cur, h1, h2, h3⟩ => ⟨g, cap, cur, h1, Nat.le_trans hz h2, h3⟩⟩
    · have h4i : (4096 : Int) < (s.bytes.length : Int) := by omega
      go_wp2_with fail
      go_ret2
      refine ⟨?_, HB3.out⟩
      unfold Enc
      rw [if_pos HRT.out, if_neg h4]
      rfl
  · rw [Bool.not_eq_true] at hr
    rw [hr] at HR
    have HRT := Lib.hid hr
    clear hr
    go_enter Tryz.func45, Tryz.ntmps45
    go_wp2_with (refine wpList_load_row rfl 28 (.tmp 1) rfl w.heap.size rfl 28 _ (0, 0) _ HB0.out Tryz.underlying28 rfl HI.out ?_)
    refine HR.out.mono ?_
    rintro e W1 ⟨rfl, hb⟩
    have HB := Lib.hid hb
    clear hb
    go_wp2_with fail
    go_ret2
    refine ⟨?_, HW.out.trans (HB.out.mono HW.out.size)⟩
    unfold Enc
    rw [HRT.out]
    rfl
end

end Go.Proofs.YtmiadkhfjkaidaaGreatDoor
