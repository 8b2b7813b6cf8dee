/- What the laws on writing do with one field, and with whether there are too many; for any fields that came in. -/
import Derived.Test.YtaekepejeokciaaFields
import Derived.Test.YtaekepejeokciaaRef
import Derived.Test.YtaekepejeokciaaText
namespace Go.Proofs.Ytaekepejeokciaa
open Go.RowKit

/-- A number of 64 bits as a signed one. -/
def sgn (n : Nat) : Int := if n < 9223372036854775808 then n else (n : Int) - 18446744073709551616

/-- The bytes of a field. -/
def fenc (f : Fd) : List UInt8 :=
  if f.kind = 0 then [UInt8.ofNat (f.n % 256)] else if f.kind = 1 then enc f.n else if f.kind = 2 then enc (zig (sgn f.n)) else if f.kind = 3 then [bb (f.n % 2 == 1)]
  else if f.kind = 4 then enc f.b.length ++ f.b else if f.kind = 5 then enc f.b.length ++ f.b else f.b

theorem sgn_range {n : Nat} (h : n < 18446744073709551616) : -9223372036854775808 ≤ sgn n ∧ sgn n ≤ 9223372036854775807 := by unfold sgn; split <;> omega

theorem fenc_length {f : Fd} (hn : f.n < 18446744073709551616) (hb : f.b.length < 18446744073709551616) : (fenc f).length ≤ f.b.length + 10 := by
  have h1 := enc_length_le hn
  have h2 := enc_length_le hb
  have h3 := enc_length_le (zig_lt (sgn_range hn).1 (sgn_range hn).2)
  unfold fenc
  repeat' split
  all_goals simp <;> omega

/-- What writing a field leaves: the writer, and the document's answer as a slice. -/
def DidWrite (w : World) (a : Addr) (v : Value) (l x : List UInt8) (e : Ending) (w' : World) : Prop :=
  ∃ A c v', e = .returned (.slice A x.length c) ∧ Rd w' (fun _ => True) A x.length (Bs x) ∧ Wrote w w' a v v' (l ++ x)

theorem did_own {w w1 w' : World} {a : Addr} {v v' u : Value} {l x : List UInt8} (h : Wrote w w1 a v v' (l ++ x)) (ho : w'.ownsRow w1.heap.size 5 1 u x.length (Bs x)) (hb : Below w1.heap.size w1 w') :
    DidWrite w a v l x (.returned u) w' := by
  obtain ⟨A, c, rfl⟩ := own_slice ho
  exact ⟨A, c, v', rfl, (Rd.of_own ho).mono fun _ _ _ => trivial, h.then hb⟩

/-- A field by value: its four cells. -/
def fval (f : Fd) (A : Option Addr) (c : Nat) : Value := .agg #[.int .i64 f.kind, .int .u64 f.n, .slice A f.b.length c, .int .i64 f.most]

theorem wrap_sgn {n : Nat} (h : n < 18446744073709551616) : wrap64 (n : Int) = sgn n := by
  unfold sgn wrap64
  split <;> omega

theorem rd_after {w w1 : World} {a : Addr} {v v1 : Value} {x k : List UInt8} {o : Obj} {A : Option Addr} {n B : Nat} (hr : Rd w (fun j => j < B) A n (Bs k)) (hB : B ≤ a.block) (hv : ∀ j, v.ownBlock = some j → B ≤ j)
    (h : Wrote (w.alloc o) w1 a v v1 x) : Rd w1 (fun j => j < B) A n (Bs k) :=
  (hr.belowAll ((Below.refl _ _).alloc (Nat.le_refl _) o)).only h.only fun j hj hs => by
    rcases hs with hs | hs
    · omega
    · have := hv _ hs; omega

theorem box_kept {w w1 : World} {a : Addr} {v v1 : Value} {l x : List UInt8} {o : Obj} (hw : Wr w a v l) (h : Wrote (w.alloc o) w1 a v v1 x) : w1.heap[w.heap.size]? = some o := by
  refine (h.only.block w.heap.size (by simp) fun hs => ?_).trans (heap_alloc_new w o)
  have h1 := hw.lt
  rcases hs with hs | hs
  · omega
  · have := hw.rowlt _ hs; omega

section
variable (a : Addr) (v : Value) (l : List UInt8) (f : Fd) (A : Option Addr) (c B : Nat) (w : World)

set_option maxHeartbeats 400000 in
theorem writes_0 (hw : Wr w a v l) (hlen : l.length + 20 ≤ 140737488355000) (hk : f.kind = 0) :
    Calls Try.prog 8 #[.pointer (some a), .agg #[.int .i64 f.kind, .int .u64 f.n, .slice A f.b.length c, .int .i64 f.most]] w (DidWrite w a v l ([UInt8.ofNat (f.n % 256)])) := by
  have q0 : (f.kind == 0) = true := beq_iff_eq.2 hk
  have HW := Lib.hid hw
  clear hw hk
  have hx : ((f.n : Int) % 256) = (((UInt8.ofNat (f.n % 256)).toNat : Nat) : Int) := by rw [toNat_low (by omega)]; omega
  have HX := Lib.hid hx
  clear hx
  go_enter Try.func8, Try.ntmps8
  go_wp2_with fail
  rw [HX.out]
  refine (byte_any a v l (UInt8.ofNat (f.n % 256)) _ (HW.out.alloc _) (by omega)).mono ?_
  rintro e w1 ⟨rfl, v1, hw1⟩
  have hbox := box_kept HW.out hw1
  have k1 := cell_of_row w1 w.heap.size 1 _ _ _ hbox
  have k2 := cell_of_row w1 w.heap.size 2 _ _ _ hbox
  simp at k1 k2
  have HW1 := Lib.hid hw1
  clear hbox hw1
  go_wp2_with fail
  go_ret
  refine did_own (HW1.out.after ((Below.refl _ _).alloc (Nat.le_refl _) _)) (own_lit w1 _ _ ?_ 1 rfl (by unfold maxLen; omega)) ((Below.refl _ _).alloc (Nat.le_refl _) _)
  show [Value.int .u8 ((f.n : Int) % 256)] = Bs [UInt8.ofNat (f.n % 256)]
  rw [HX.out]
  rfl

set_option maxHeartbeats 400000 in
theorem writes_1 (hw : Wr w a v l) (hlen : l.length + 20 ≤ 140737488355000) (hn : f.n < 18446744073709551616) (hk : f.kind = 1) :
    Calls Try.prog 8 #[.pointer (some a), .agg #[.int .i64 f.kind, .int .u64 f.n, .slice A f.b.length c, .int .i64 f.most]] w (DidWrite w a v l (enc f.n)) := by
  have q0 : (f.kind == 0) = false := beq_eq_false_iff_ne.2 (by omega)
  have q1 : (f.kind == 1) = true := beq_iff_eq.2 hk
  have HW := Lib.hid hw
  clear hw hk
  go_enter Try.func8, Try.ntmps8
  go_wp2_with fail
  refine (number_any a v l f.n _ (HW.out.alloc _) hn (by omega)).mono ?_
  rintro e w1 ⟨rfl, v1, hw1⟩
  have hbox := box_kept HW.out hw1
  have k1 := cell_of_row w1 w.heap.size 1 _ _ _ hbox
  have k2 := cell_of_row w1 w.heap.size 2 _ _ _ hbox
  simp at k1 k2
  have HW1 := Lib.hid hw1
  clear hbox hw1
  go_wp2_with fail
  refine (refnum_any f.n f.n _ (Nat.le_refl _) hn).mono ?_
  rintro e w2 ⟨u, rfl, hown, hb⟩
  go_wp2_with fail
  go_ret
  exact did_own (HW1.out.after ((Below.refl _ _).alloc (Nat.le_refl _) _)) hown hb

set_option maxHeartbeats 400000 in
theorem writes_2 (hw : Wr w a v l) (hlen : l.length + 20 ≤ 140737488355000) (hn : f.n < 18446744073709551616) (hk : f.kind = 2) :
    Calls Try.prog 8 #[.pointer (some a), .agg #[.int .i64 f.kind, .int .u64 f.n, .slice A f.b.length c, .int .i64 f.most]] w (DidWrite w a v l (enc (zig (sgn f.n)))) := by
  have q0 : (f.kind == 0) = false := beq_eq_false_iff_ne.2 (by omega)
  have q1 : (f.kind == 1) = false := beq_eq_false_iff_ne.2 (by omega)
  have q2 : (f.kind == 2) = true := beq_iff_eq.2 hk
  have HW := Lib.hid hw
  clear hw hk
  have hx : wrap64 (f.n : Int) = sgn f.n := wrap_sgn hn
  have HX := Lib.hid hx
  have hr := sgn_range hn
  have HR := Lib.hid hr
  clear hx hr
  go_enter Try.func8, Try.ntmps8
  go_wp2_with fail
  rw [HX.out]
  refine (int_any a v l (sgn f.n) _ (HW.out.alloc _) HR.out.1 HR.out.2 (by omega)).mono ?_
  rintro e w1 ⟨rfl, v1, hw1⟩
  have hbox := box_kept HW.out hw1
  have k1 := cell_of_row w1 w.heap.size 1 _ _ _ hbox
  have k2 := cell_of_row w1 w.heap.size 2 _ _ _ hbox
  simp at k1 k2
  have HW1 := Lib.hid hw1
  clear hbox hw1
  go_wp2_with fail
  rw [HX.out]
  refine (refint_any (sgn f.n) _ HR.out.1 HR.out.2).mono ?_
  rintro e w2 ⟨u, rfl, hown, hb⟩
  go_wp2_with fail
  go_ret
  exact did_own (HW1.out.after ((Below.refl _ _).alloc (Nat.le_refl _) _)) hown hb

set_option maxHeartbeats 400000 in
theorem writes_3 (hw : Wr w a v l) (hlen : l.length + 20 ≤ 140737488355000) (hk : f.kind = 3) :
    Calls Try.prog 8 #[.pointer (some a), .agg #[.int .i64 f.kind, .int .u64 f.n, .slice A f.b.length c, .int .i64 f.most]] w (DidWrite w a v l ([bb (f.n % 2 == 1)])) := by
  have q0 : (f.kind == 0) = false := beq_eq_false_iff_ne.2 (by omega)
  have q1 : (f.kind == 1) = false := beq_eq_false_iff_ne.2 (by omega)
  have q2 : (f.kind == 2) = false := beq_eq_false_iff_ne.2 (by omega)
  have q3 : (f.kind == 3) = true := beq_iff_eq.2 hk
  have HW := Lib.hid hw
  clear hw hk
  have hx : (((f.n : Int) % 2) == 1) = (f.n % 2 == 1) := by rw [Bool.eq_iff_iff]; simp only [beq_iff_eq]; omega
  have HX := Lib.hid hx
  clear hx
  go_enter Try.func8, Try.ntmps8
  go_wp2_with fail
  rw [HX.out]
  refine (bool_any a v l (f.n % 2 == 1) _ (HW.out.alloc _) (by omega)).mono ?_
  rintro e w1 ⟨rfl, v1, hw1⟩
  have hbox := box_kept HW.out hw1
  have k1 := cell_of_row w1 w.heap.size 1 _ _ _ hbox
  have k2 := cell_of_row w1 w.heap.size 2 _ _ _ hbox
  simp at k1 k2
  have HW1 := Lib.hid hw1
  clear hbox hw1
  go_wp2_with fail
  rw [HX.out]
  refine (refbool_any (f.n % 2 == 1) _).mono ?_
  rintro e w2 ⟨u, rfl, hown, hb⟩
  go_wp2_with fail
  go_ret
  exact did_own (HW1.out.after ((Below.refl _ _).alloc (Nat.le_refl _) _)) hown hb

set_option maxHeartbeats 400000 in
theorem writes_4 (hw : Wr w a v l) (hlen : l.length + f.b.length + 20 ≤ 140737488355000) (hr : Rd w (fun j => j < B) A f.b.length (Bs f.b)) (hB : B ≤ a.block) (hv : ∀ j, v.ownBlock = some j → B ≤ j) (hk : f.kind = 4) :
    Calls Try.prog 8 #[.pointer (some a), .agg #[.int .i64 f.kind, .int .u64 f.n, .slice A f.b.length c, .int .i64 f.most]] w (DidWrite w a v l (enc f.b.length ++ f.b)) := by
  have q0 : (f.kind == 0) = false := beq_eq_false_iff_ne.2 (by omega)
  have q1 : (f.kind == 1) = false := beq_eq_false_iff_ne.2 (by omega)
  have q2 : (f.kind == 2) = false := beq_eq_false_iff_ne.2 (by omega)
  have q3 : (f.kind == 3) = false := beq_eq_false_iff_ne.2 (by omega)
  have q4 : (f.kind == 4) = true := beq_iff_eq.2 hk
  have HW := Lib.hid hw
  clear hw hk
  have HR := Lib.hid hr
  have HV := Lib.hid hv
  clear hr hv
  go_enter Try.func8, Try.ntmps8
  go_wp2_with fail
  refine (putbytes_any a v l A _ c f.b _ _ (HW.out.alloc _) (HR.out.belowAll ((Below.refl _ _).alloc (Nat.le_refl _) _)) (fun j hj => ⟨by omega, fun e => by have := HV.out _ e; omega⟩) (by omega)).mono ?_
  rintro e w1 ⟨rfl, v1, hw1⟩
  have hbox := box_kept HW.out hw1
  have k1 := cell_of_row w1 w.heap.size 1 _ _ _ hbox
  have k2 := cell_of_row w1 w.heap.size 2 _ _ _ hbox
  simp at k1 k2
  have HW1 := Lib.hid hw1
  clear hbox hw1
  go_wp2_with fail
  refine (refbytes_any A _ c f.b _ _ (rd_after HR.out hB HV.out HW1.out) (by omega)).mono ?_
  rintro e w2 ⟨u, rfl, hown, hb⟩
  go_wp2_with fail
  go_ret
  exact did_own (HW1.out.after ((Below.refl _ _).alloc (Nat.le_refl _) _)) hown hb

set_option maxHeartbeats 400000 in
theorem writes_5 (hw : Wr w a v l) (hlen : l.length + f.b.length + 20 ≤ 140737488355000) (hr : Rd w (fun j => j < B) A f.b.length (Bs f.b)) (hB : B ≤ a.block) (hv : ∀ j, v.ownBlock = some j → B ≤ j) (hk : f.kind = 5) :
    Calls Try.prog 8 #[.pointer (some a), .agg #[.int .i64 f.kind, .int .u64 f.n, .slice A f.b.length c, .int .i64 f.most]] w (DidWrite w a v l (enc f.b.length ++ f.b)) := by
  have q0 : (f.kind == 0) = false := beq_eq_false_iff_ne.2 (by omega)
  have q1 : (f.kind == 1) = false := beq_eq_false_iff_ne.2 (by omega)
  have q2 : (f.kind == 2) = false := beq_eq_false_iff_ne.2 (by omega)
  have q3 : (f.kind == 3) = false := beq_eq_false_iff_ne.2 (by omega)
  have q4 : (f.kind == 4) = false := beq_eq_false_iff_ne.2 (by omega)
  have q5 : (f.kind == 5) = true := beq_iff_eq.2 hk
  have HW := Lib.hid hw
  clear hw hk
  have HR := Lib.hid hr
  have HV := Lib.hid hv
  clear hr hv
  have hconv := fun w' h => to_text A f.b.length c f.b (fun j => j < B) w' h
  have hsz : (⟨f.b.toArray⟩ : ByteArray).size = f.b.length := by simp [ByteArray.size]
  have hl2 : (⟨f.b.toArray⟩ : ByteArray).data.toList = f.b := rfl
  have HS := Lib.hid hsz
  have hc1 := hconv _ (HR.out.belowAll ((Below.refl _ _).alloc (Nat.le_refl _) (.cells #[.int .i64 f.kind, .int .u64 f.n, .slice A f.b.length c, .int .i64 f.most] 32)))
  clear hconv hsz hl2
  go_enter Try.func8, Try.ntmps8
  go_wp2_with fail
  refine (puttext_any a v l ⟨f.b.toArray⟩ _ (HW.out.alloc _) (by rw [HS.out]; omega)).mono ?_
  rw [HS.out]
  rintro e w1 ⟨rfl, v1, hw1⟩
  have hbox := box_kept HW.out hw1
  have k1 := cell_of_row w1 w.heap.size 1 _ _ _ hbox
  have k2 := cell_of_row w1 w.heap.size 2 _ _ _ hbox
  simp at k1 k2
  have HW1 := Lib.hid hw1
  clear hbox hw1
  go_wp2_with fail
  refine (refbytes_any A _ c f.b _ _ (rd_after HR.out hB HV.out HW1.out) (by omega)).mono ?_
  rintro e w2 ⟨u, rfl, hown, hb⟩
  go_wp2_with fail
  go_ret
  exact did_own (HW1.out.after ((Below.refl _ _).alloc (Nat.le_refl _) _)) hown hb

set_option maxHeartbeats 400000 in
theorem writes_6 (hw : Wr w a v l) (hlen : l.length + f.b.length + 20 ≤ 140737488355000) (hr : Rd w (fun j => j < B) A f.b.length (Bs f.b)) (hB : B ≤ a.block) (hv : ∀ j, v.ownBlock = some j → B ≤ j) (hk : f.kind < 0 ∨ 5 < f.kind) :
    Calls Try.prog 8 #[.pointer (some a), .agg #[.int .i64 f.kind, .int .u64 f.n, .slice A f.b.length c, .int .i64 f.most]] w (DidWrite w a v l (f.b)) := by
  have q0 : (f.kind == 0) = false := beq_eq_false_iff_ne.2 (by omega)
  have q1 : (f.kind == 1) = false := beq_eq_false_iff_ne.2 (by omega)
  have q2 : (f.kind == 2) = false := beq_eq_false_iff_ne.2 (by omega)
  have q3 : (f.kind == 3) = false := beq_eq_false_iff_ne.2 (by omega)
  have q4 : (f.kind == 4) = false := beq_eq_false_iff_ne.2 (by omega)
  have q5 : (f.kind == 5) = false := beq_eq_false_iff_ne.2 (by omega)
  have HW := Lib.hid hw
  clear hw hk
  have HR := Lib.hid hr
  have HV := Lib.hid hv
  clear hr hv
  go_enter Try.func8, Try.ntmps8
  go_wp2_with fail
  refine (raw_any a v l A _ c f.b _ _ (HW.out.alloc _) (HR.out.belowAll ((Below.refl _ _).alloc (Nat.le_refl _) _)) (by omega)).mono ?_
  rintro e w1 ⟨rfl, v1, hw1⟩
  have hbox := box_kept HW.out hw1
  have k1 := cell_of_row w1 w.heap.size 1 _ _ _ hbox
  have k2 := cell_of_row w1 w.heap.size 2 _ _ _ hbox
  simp at k1 k2
  have HW1 := Lib.hid hw1
  clear hbox hw1
  go_wp2_with fail
  go_ret
  exact ⟨A, c, v1, rfl, (rd_after HR.out hB HV.out HW1.out).mono fun _ _ _ => trivial, HW1.out.after ((Below.refl _ _).alloc (Nat.le_refl _) _)⟩

end

end Go.Proofs.Ytaekepejeokciaa
