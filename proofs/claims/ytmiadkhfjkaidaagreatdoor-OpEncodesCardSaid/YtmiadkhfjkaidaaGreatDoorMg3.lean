/- Walking over trees: a place in a slice of rows, a row loaded from any place; the program's and the document's depth. -/
import Derived.Test.YtmiadkhfjkaidaaGreatDoorMg2
import Derived.Deep.Slices
import Derived.Laws.Rows
import Derived.Laws.BitsAllLaws
import Derived.Deep.CutRange
import Derived.Deep.CutBlock
import Derived.RegionTactic
import Derived.IntWalk
namespace Go.Proofs.YtmiadkhfjkaidaaGreatDoor
section
set_option maxRecDepth 100000
set_option linter.unusedSimpArgs false
set_option linter.unusedVariables false
open Go.RowKit

def rowD : TypeDesc → Bool
  | .struct _ => true
  | .array _ _ => true
  | _ => false
theorem Row.new1 (w : World) (X : Obj) (l : List Value) (T : TypeId) : Row ((w.alloc X).alloc (.cells l.toArray T)) (w.heap.size + 1) T l := heap_alloc2_new _ _ _
theorem Row.new2 (w : World) (X Y : Obj) (l : List Value) (T : TypeId) : Row (((w.alloc X).alloc Y).alloc (.cells l.toArray T)) (w.heap.size + 1 + 1) T l := by
  have h := Row.new ((w.alloc X).alloc Y) l T
  rwa [show ((w.alloc X).alloc Y).heap.size = w.heap.size + 1 + 1 by simp] at h
theorem Below.alloc1 (w : World) (X : Obj) : Below w.heap.size w (w.alloc X) := (Below.refl _ _).alloc (Nat.le_refl _) _
theorem Below.alloc2 (w : World) (X Y : Obj) : Below w.heap.size w ((w.alloc X).alloc Y) := ((Below.refl _ _).alloc (Nat.le_refl _) _).alloc (by simp) _
theorem Below.alloc3 (w : World) (X Y Z : Obj) : Below w.heap.size w (((w.alloc X).alloc Y).alloc Z) := (Below.alloc2 w X Y).alloc (by simp; omega) _
theorem run_loadVar_at {P : Program} (w : World) (a : Addr) (ty : TypeId) (cs : List Value) (d : TypeDesc) (hc : ∀ j v, cs[j]? = some v → w.cell? (a.add j) = some v)
    (hu : P.underlying ty = some d) (hd : rowD d = true) (hi : (P.info? ty).map (·.size) = some cs.length) : (loadVar ty a).run P w = .ok (.agg cs.toArray) w := by
  have hl : (loadCells a cs.length).run P w = .ok cs.toArray w := run_loadCells_list (P := P) w a cs hc
  cases hq : P.info? ty with
  | none => simp [hq] at hi
  | some i =>
    have hs : i.size = cs.length := by simpa [hq] using hi
    have hagg : (isAgg ty).run P w = .ok true w := by
      unfold isAgg
      rw [Sem.run_bind, run_underlying hu w]
      cases d <;> simp_all [rowD]
    simp [loadVar, Sem.run_bind, hagg, sizeOf, typeInfo, hq, hs, hl]
theorem wpList_load_at {P : Program} {ops : Array Oper} {rest : List Oper} {op : Oper} {a : Act} {w : World} {Q : Exit → Act → World → Prop} (hgd : op.guard = none) (ty : TypeId) (x : Operand) (ho : op.op = .load ty x)
    (ad : Addr) (hx : a.eval x = .pointer (some ad)) (cs : List Value) (d : TypeDesc) (hc : ∀ j v, cs[j]? = some v → w.cell? (ad.add j) = some v)
    (hu : P.underlying ty = some d) (hd : rowD d = true) (hi : (P.info? ty).map (·.size) = some cs.length)
    (h : wpList P ops Q rest (a.put op.dst (.agg cs.toArray)) w) : wpList P ops Q (op :: rest) a w :=
  wpList_plain hgd fun _ hK => by
    unfold Oper.wp execOp
    simp only [ho, hx, Instr.loadAt, Instr.sureAddr, Sem.run_bind, Sem.run_pure, Result.andThen_ok, run_loadVar_at w ad ty cs d hc hu hd hi]
    exact hK _ _ h
theorem wpList_indexAt {P : Program} {ops : Array Oper} {rest : List Oper} {o : Oper} {a : Act} {w : World} {Q : Exit → Act → World → Prop} (hgd : o.guard = none) (T : TypeId) (x y : Operand) (ho : o.op = .indexAddr T x y) (u v r : Value) (hx : a.eval x = u) (hy : a.eval y = v)
    (hi : (Instr.indexAt T u v).run P w = .ok r w) (h : wpList P ops Q rest (a.put o.dst r) w) : wpList P ops Q (o :: rest) a w := by
  refine wpList_plain hgd fun _ hK => ?_
  unfold Oper.wp execOp
  simp only [ho, Sem.run_bind, Sem.run_pure, Result.andThen_ok, hx, hy, hi]
  exact hK _ _ h
theorem v_size : (Tryz.prog.info? 28).map (·.size) = some 6 := by kernel_rfl
theorem s_size : (Tryz.prog.info? 48).map (·.size) = some 3 := by kernel_rfl
theorem v_len {cs : List Value} (h : cs.length = 6) : (Tryz.prog.info? 28).map (·.size) = some cs.length := by rw [h]; exact v_size
theorem s_len {cs : List Value} (h : cs.length = 3) : (Tryz.prog.info? 48).map (·.size) = some cs.length := by rw [h]; exact s_size
theorem v_info {cs : List Value} (h : cs.length = 6) : (Tryz.prog.info? 28).map (·.size) = some cs.toArray.size := by rw [List.size_toArray]; exact v_len h
theorem s_info {cs : List Value} (h : cs.length = 3) : (Tryz.prog.info? 48).map (·.size) = some cs.toArray.size := by rw [List.size_toArray]; exact s_len h
theorem ix_v (ad : Addr) (n cap k : Nat) (h : k < n) (w : World) : (Instr.indexAt 26 (.slice (some ad) n cap) (.int .i64 (k : Int))).run Tryz.prog w = .ok (.pointer (some (ad.add (k * 6)))) w := by
  have h1 : (0 : Int) ≤ (k : Int) := by omega
  have h2 : (k : Int) < (n : Int) := by omega
  go_simp
theorem ix_s (ad : Addr) (n cap k : Nat) (h : k < n) (w : World) : (Instr.indexAt 46 (.slice (some ad) n cap) (.int .i64 (k : Int))).run Tryz.prog w = .ok (.pointer (some (ad.add (k * 3)))) w := by
  have h1 : (0 : Int) ≤ (k : Int) := by omega
  have h2 : (k : Int) < (n : Int) := by omega
  go_simp
/-- A part's place, and what is there. -/
theorem Parts.at_ {w : World} {s n : Nat} {c : Option Addr} {css : Nat → List Value} (h : Parts w s c n css) {j : Nat} (hj : j < n) :
    ∃ ad, c = some ad ∧ (css j).length = s ∧ ∀ i u, (css j)[i]? = some u → w.cell? ((ad.add (j * s)).add i) = some u := by
  obtain ⟨ad, e, _, hc⟩ := h (by omega)
  exact ⟨ad, e, (hc j hj).1, fun i u hu => by rw [add_add]; exact (hc j hj).2 i u hu⟩

/-- The document's depth. -/
theorem rdepth_ref : ∀ (v : Vt) (cs : List Value) (w : World), VAt w v cs → v.depth ≤ 1000 →
    Calls Tryz.prog 49 #[.agg cs.toArray] w fun e w' => e = .returned (.int .i64 (v.depth : Int)) ∧ Below w.heap.size w w' := by
  intro v
  induction v with
  | nul => intro cs w h; cases h
  | mk k n s names ids len parts ih =>
    intro cs w h hd
    cases h with
    | mk css hk hn hs h1 h1c hss h2 h2c hi h3 h3c hp =>
    rename_i a b c la ca lb cb cc
    rw [Vt.depth] at hd
    have hmm : ∀ i, i < len → (parts i).depth ≤ 999 := most_le.1 (by omega)
    have hml : ∀ m, m ≤ len → most (fun i => (parts i).depth) m ≤ 999 := fun m hm => most_le.2 fun i hi => hmm i (by omega)
    have hdn : (Vt.mk k n s names ids len parts).depth = most (fun i => (parts i).depth) len + 1 := by rw [Vt.depth]
    have HDN := Lib.hid hdn
    have HP := Lib.hid hp
    have H3 := Lib.hid h3
    have HMM := Lib.hid hmm
    have HML := Lib.hid hml
    have IH := Lib.hid ih
    have hlc : len ≤ maxLen := Nat.le_trans h3c.1 h3c.2
    have hlb : (len : Int) ≤ 9223372036854775807 := by unfold maxLen at hlc; omega
    have HB0 := Lib.hid (Row.new w [.int .i64 k, .int .i64 n, .string s, .slice a la ca, .slice b lb cb, .slice c len cc] 28)
    have HW := Lib.hid (Below.alloc1 w (.cells #[.int .i64 k, .int .i64 n, .string s, .slice a la ca, .slice b lb cb, .slice c len cc] 28))
    clear hp h3 hmm hml ih hd h1 h2 hdn hk hn hs h1c hss h2c hi h3c hlc
    go_enter Tryz.func49, Tryz.ntmps49
    go_wp2_with fail
    go_loopw [3, 4] (fun m i wr => ∃ j : Nat, j ≤ len ∧ i = .int .i64 (j : Int) ∧ m = .int .i64 ((most (fun i => (parts i).depth) j : Int) + 1) ∧ Row wr w.heap.size 28 [.int .i64 k, .int .i64 n, .string s, .slice a la ca, .slice b lb cb, .slice c len cc] ∧ Below w.heap.size w wr) (fun _ i _ => len - (intOf i).toNat)
    case atStart => exact ⟨0, Nat.zero_le _, rfl, rfl, HB0.out, HW.out⟩
    case round =>
      obtain ⟨j, hjn, rfl, rfl, hb0, hw⟩ := hrel
      have bj0 : (0 : Int) ≤ (j : Int) := by omega
      have hml := HML.out j hjn
      have hc5 := hb0.cell (k := 5) (v := .slice c len cc) rfl
      by_cases hj : j < len
      · have hji : (j : Int) < (len : Int) := by omega
        have hvj := (HP.out j hj).later hw
        obtain ⟨ad, rfl, hlen, hcell⟩ := (H3.out.below hw).at_ hj
        have hrec := IH.out j (css j) wr hvj (by have := HMM.out j hj; omega)
        have hmd := HMM.out j hj
        have hmax : most (fun i => (parts i).depth) (j + 1) = max (most (fun i => (parts i).depth) j) (parts j).depth := rfl
        have HMX := Lib.hid hmax
        have HIX := Lib.hid (ix_v ad len cc j hj wr)
        have HREC := Lib.hid hrec
        have HC := Lib.hid hcell
        have HL := Lib.hid (v_len hlen)
        have HB1 := Lib.hid hb0
        have HW1 := Lib.hid hw
        clear hvj hlen hcell hrec hmax hw hb0 HB0 HW
        generalize hq : most (fun i => (parts i).depth) j = q at *
        generalize hr : (parts j).depth = r at *
        clear hq hr
        go_wp2_with (first
          | (refine wpList_indexAt rfl 26 (.tmp 14) (.tmp 15) rfl _ _ _ rfl rfl HIX.out ?_)
          | (refine wpList_load_at rfl 28 (.tmp 16) rfl (ad.add (j * 6)) rfl (css j) _ HC.out Tryz.underlying28 rfl HL.out ?_))
        refine HREC.out.mono ?_
        rintro e W1 ⟨rfl, hb⟩
        have hw1 := HW1.out.trans (hb.mono HW1.out.size)
        have hb1 := HB1.out.belowAll hb
        by_cases hgt : q + 1 < r + 1
        · have hgi : (q : Int) + 1 < (r : Int) + 1 := by omega
          go_wp2_with fail
          go_roundw
          case rel => exact ⟨j + 1, by omega, by go_num, by rw [HMX.out, Nat.max_eq_right (by omega)], hb1, hw1⟩
          case measure => simp [intOf] <;> omega
        · have hgi : ¬ (q : Int) + 1 < (r : Int) + 1 := by omega
          go_wp2_with fail
          go_roundw
          case rel => exact ⟨j + 1, by omega, by go_num, by rw [HMX.out, Nat.max_eq_left (by omega)], hb1, hw1⟩
          case measure => simp [intOf] <;> omega
      · obtain rfl : j = len := by omega
        go_wp2_with fail
        go_ret
        exact ⟨by rw [HDN.out]; rfl, hw⟩
end

end Go.Proofs.YtmiadkhfjkaidaaGreatDoor
