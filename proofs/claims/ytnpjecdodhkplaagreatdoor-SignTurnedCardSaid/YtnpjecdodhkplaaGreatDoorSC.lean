import Derived.Test.YtnpjecdodhkplaaGreatDoorSI
namespace Go.Proofs.YtnpjecdodhkplaaGreatDoor
set_option maxRecDepth 100000
set_option linter.unusedSimpArgs false
set_option linter.unusedVariables false
open Go.RowKit
open List renaming setIfInBounds_toArray → yA, set_cons_zero → yB, set_cons_succ → yC
open Lib renaming hid → yH
structure Pm where
 x : Lm
 y : Lm
 z : Lm
 t : Lm
structure Pm.ok (p : Pm) : Prop where
 x : p.x.ok
 y : p.y.ok
 z : p.z.ok
 t : p.t.ok
def PL (p : Pm) : List Value := EL p.x ++ (EL p.y ++ (EL p.z ++ EL p.t))
theorem PL_length (p : Pm) : (PL p).length = 20 := rfl
theorem PL_one (p : Pm) : (PL p).toArray.all (·.oneCell') = true := by rw [List.all_toArray]; rfl
theorem PL_sz (p q : Pm) : (PL p).toArray.size = (PL q).toArray.size := rfl
theorem pl_size : (Tryz.prog.info? 64).map (·.size) = some 20 := by kernel_rfl
theorem pl_info (p : Pm) : (Tryz.prog.info? 64).map (·.size) = some (PL p).toArray.size := pl_size.trans rfl
theorem pl_len (p : Pm) : (Tryz.prog.info? 64).map (·.size) = some (PL p).length := pl_size.trans rfl
theorem el_len (x : Lm) : (Tryz.prog.info? 62).map (·.size) = some (EL x).length := el_size.trans rfl
def zeP : Pm := ⟨zeL, zeL, zeL, zeL⟩
theorem pl_build (x y z t : Lm) (w : World) : (Instr.build 64 #[(0, .agg (EL x).toArray), (1, .agg (EL y).toArray), (2, .agg (EL z).toArray), (3, .agg (EL t).toArray)]).run Tryz.prog w = .ok (.agg (PL ⟨x, y, z, t⟩).toArray) w := run_build w 64 _ _ (by kernel_rfl)
theorem Gives.build4 {P : Program} {S : World → Prop} {o : Oper} {a : Act} (T : TypeId) (x0 x1 x2 x3 : Operand) (ho : o.op = .build T #[(0, x0), (1, x1), (2, x2), (3, x3)]) (u0 u1 u2 u3 v : Value) (h0 : a.eval x0 = u0) (h1 : a.eval x1 = u1) (h2 : a.eval x2 = u2) (h3 : a.eval x3 = u3)
  (hrun : ∀ w, (Instr.build T #[(0, u0), (1, u1), (2, u2), (3, u3)]).run P w = .ok v w) : Gives P S o v a :=
 Gives.run fun w _ => by
  unfold execOp
  simp only [ho, Sem.run_bind, Sem.run_pure, List.map_toArray, List.map_cons, List.map_nil, h0, h1, h2, h3, hrun, Result.andThen_ok]
theorem z20 : (#[.int .u64 0, .int .u64 0, .int .u64 0, .int .u64 0, .int .u64 0, .int .u64 0, .int .u64 0, .int .u64 0, .int .u64 0, .int .u64 0, .int .u64 0, .int .u64 0, .int .u64 0, .int .u64 0, .int .u64 0, .int .u64 0, .int .u64 0, .int .u64 0, .int .u64 0, .int .u64 0] : Array Value) = (PL zeP).toArray := rfl
theorem z32 : (#[.int .u8 0, .int .u8 0, .int .u8 0, .int .u8 0, .int .u8 0, .int .u8 0, .int .u8 0, .int .u8 0, .int .u8 0, .int .u8 0, .int .u8 0, .int .u8 0, .int .u8 0, .int .u8 0, .int .u8 0, .int .u8 0, .int .u8 0, .int .u8 0, .int .u8 0, .int .u8 0, .int .u8 0, .int .u8 0, .int .u8 0, .int .u8 0, .int .u8 0, .int .u8 0, .int .u8 0, .int .u8 0, .int .u8 0, .int .u8 0, .int .u8 0, .int .u8 0] : Array Value) = (By 0 32).toArray := by rw [By_zero]; rfl
theorem By_sz (N M : Nat) : (By N 32).toArray.size = (By M 32).toArray.size := by rw [List.size_toArray, List.size_toArray, By_length, By_length]
theorem By_one32 (N : Nat) : (By N 32).toArray.all (·.oneCell') = true := By_one N 32
theorem by_alloc (w : World) : (Instr.alloc 22 true (.tuple #[])).run Tryz.prog w = .ok (.pointer (some ⟨w.heap.size, 0, none⟩)) (w.alloc (.cells (By 0 32).toArray 22)) := by
 rw [By_zero]
 kernel_rfl
theorem Row.new4 (w : World) (X Y Z V : Obj) (l : List Value) (T : TypeId) : Row (((((w.alloc X).alloc Y).alloc Z).alloc V).alloc (.cells l.toArray T)) (w.heap.size + 1 + 1 + 1 + 1) T l := by
 have h := Row.new ((((w.alloc X).alloc Y).alloc Z).alloc V) l T
 rwa [show ((((w.alloc X).alloc Y).alloc Z).alloc V).heap.size = w.heap.size + 1 + 1 + 1 + 1 by simp] at h
theorem Below.alloc5 (w : World) (X Y Z V U : Obj) : Below w.heap.size w (((((w.alloc X).alloc Y).alloc Z).alloc V).alloc U) := (Below.alloc4 w X Y Z V).alloc (by simp; omega) _
theorem Below.alloc1 (w : World) (X : Obj) : Below w.heap.size w (w.alloc X) := (Below.refl _ _).alloc (Nat.le_refl _) _
theorem Row.part {w : World} {g : Nat} {T : TypeId} {l : List Value} (h : Row w g T l) (off : Nat) (cs : List Value) (hp : ∀ j v, cs[j]? = some v → l[off + j]? = some v) (j : Nat) (v : Value) (hv : cs[j]? = some v) :
  w.cell? ((⟨g, off, none⟩ : Addr).add j) = some v := by
 have e : (⟨g, off, none⟩ : Addr).add j = ⟨g, off + j, none⟩ := by unfold Addr.add; split <;> simp_all
 rw [e]
 exact h.cell (hp j v hv)
theorem part0 {a b : List Value} (j : Nat) (v : Value) (h : a[j]? = some v) : (a ++ b)[0 + j]? = some v := by
 rw [Nat.zero_add, List.getElem?_append_left (List.getElem?_eq_some_iff.1 h).1]
 exact h
theorem part_skip {a b c : List Value} {n m : Nat} (hn : a.length = n) (h : ∀ j v, c[j]? = some v → b[m + j]? = some v) (j : Nat) (v : Value) (hv : c[j]? = some v) : (a ++ b)[(n + m) + j]? = some v := by
 rw [List.getElem?_append_right (by omega), hn, show n + m + j - n = m + j by omega]
 exact h j v hv
theorem pt_x (p : Pm) : ∀ j v, (EL p.x)[j]? = some v → (PL p)[0 + j]? = some v := part0
theorem pt_y (p : Pm) : ∀ j v, (EL p.y)[j]? = some v → (PL p)[5 + j]? = some v := part_skip (n := 5) (m := 0) rfl part0
theorem pt_z (p : Pm) : ∀ j v, (EL p.z)[j]? = some v → (PL p)[10 + j]? = some v := part_skip (n := 5) (m := 5) rfl (part_skip (n := 5) (m := 0) rfl part0)
theorem pt_t (p : Pm) : ∀ j v, (EL p.t)[j]? = some v → (PL p)[15 + j]? = some v := part_skip (n := 5) (m := 10) rfl (part_skip (n := 5) (m := 5) rfl (part_skip (n := 5) (m := 0) rfl (fun j v h => by rw [Nat.zero_add]; exact h)))
theorem fa_x (g : Nat) (w : World) : (Instr.fieldAt 64 (.pointer (some ⟨g, 0, none⟩)) 0).run Tryz.prog w = .ok (.pointer (some ⟨g, 0, none⟩)) w := by kernel_rfl
theorem fa_y (g : Nat) (w : World) : (Instr.fieldAt 64 (.pointer (some ⟨g, 0, none⟩)) 1).run Tryz.prog w = .ok (.pointer (some ⟨g, 5, none⟩)) w := by kernel_rfl
theorem fa_z (g : Nat) (w : World) : (Instr.fieldAt 64 (.pointer (some ⟨g, 0, none⟩)) 2).run Tryz.prog w = .ok (.pointer (some ⟨g, 10, none⟩)) w := by kernel_rfl
theorem fa_t (g : Nat) (w : World) : (Instr.fieldAt 64 (.pointer (some ⟨g, 0, none⟩)) 3).run Tryz.prog w = .ok (.pointer (some ⟨g, 15, none⟩)) w := by kernel_rfl
theorem Only.setRow {S : Nat → Prop} {w w' : World} {g : Nat} {cs : Array Value} (h : Only S w w') (hg : S g ∨ w.heap.size ≤ g) : Only S w (w'.setRow g cs) := by
 have hb : Below g w' (w'.setRow g cs) := below_setRow (Below.refl _ _) (Nat.le_refl _) _
 refine h.trans (T := fun k => k = g) ⟨hb.os, hb.tape, hb.output, hb.size, fun k hk hn => setRow_other w' g k _ hn⟩ fun k hk e => ?_
 subst e
 rcases hg with hg | hg
 ·exact hg
 ·omega
theorem wp_old_one {P : Program} {ops : Array Oper} {Q : Exit → Act → World → Prop} {id : Nat} {W : World} {vs : List (Nat × Value)} {a0 aD : Act} {s g : Nat} {os : Oper} {L T : TypeId} {z c : List Value} {x y : Operand} (hm : P.follows .mixedOrders = true)
  (hD : Dets P ops (fun w' => Only (fun k => k = g) W w') vs a0 aD)
  (hk : (detsOk ops [] (vs.map (·.1)) && allocsOk ops [] && coverOk ops (vs.map (·.1) ++ []) [s] && dstsIn ops a0.tmps.size && Region.noSelect ops && nodupOk [s]) = true)
  (hos : ops[s]? = some os) (hgd : os.guard = none) (hst : os.op = .store L x y) (hdn : os.dst = none) (hx : aD.eval x = .pointer (some ⟨g, 0, none⟩)) (hy : aD.eval y = .agg c.toArray)
  (hr : Row W g T z) (hi : (P.info? L).map (·.size) = some c.toArray.size) (hsz : z.toArray.size = c.toArray.size) (h1 : c.toArray.all (·.oneCell') = true)
  (hend : ∀ w, Only (fun k => k = g) W w → Row w g T c → Q .normal aD w) : (Code.region id ops true).wp P Q a0 W := by
 refine wp_vars (B := W.heap.size) (vars := [⟨none, g, T, z, c, s⟩]) hm ((Only.refl _ W).drew) hD ?_ ?_ hk ?_ ?_ (fun w h => h.size) ?_ ?_ ?_
 ·intro v hv k hk'
  obtain rfl := List.mem_singleton.1 hv
  cases hk'
 ·intro v hv
  obtain rfl := List.mem_singleton.1 hv
  exact ⟨os, L, x, y, hos, hgd, hdn, hst, fun _ => hx, fun _ => hy, hi, hsz, h1⟩
 ·intro w w' h hb
  exact h.trans (Only.of_below hb (fun _ => False)) (fun _ _ f => f.elim)
 ·intro w g' cs h hg
  refine h.setRow ?_
  rcases hg with hg | ⟨v, hv, _, he⟩
  ·exact .inr hg
  ·obtain rfl := List.mem_singleton.1 hv
   exact .inl he.symm
 ·intro v hv v' hv' _ _ hne
  obtain rfl := List.mem_singleton.1 hv
  obtain rfl := List.mem_singleton.1 hv'
  exact absurd rfl hne
 ·intro v hv _
  obtain rfl := List.mem_singleton.1 hv
  exact hr
 ·intro gs w hS _ hrows _
  exact hend w hS (hrows ⟨none, g, T, z, c, s⟩ (by simp))
def dN : Nat := 37095705934669439343138083508754565189542113879843219016388785533085940283555
def bxN : Nat := 15112221349535400772501151409588531511454012693041857206046113283949847762202
def byN : Nat := 46316835694926478169428394003475163141307993866256225615783033603165251855960
def Tb (g N : Nat) (w : World) : Prop := ∃ T, w.heap[g]? = some (.cells (By N 32).toArray T (0, 0))
theorem Tb.belowAll {g N : Nat} {w w' : World} (h : Tb g N w) (hb : Below w.heap.size w w') : Tb g N w' := by
 obtain ⟨t, h⟩ := h
 exact ⟨t, (hb.block _ (Array.getElem?_eq_some_iff.1 h).1).trans h⟩
structure Ge (w : World) : Prop where
 en : En w
theorem Ge.belowAll {w w' : World} (h : Ge w) (hb : Below w.heap.size w w') : Ge w' := ⟨h.en.belowAll hb⟩
structure Gc (w : World) : Prop where
 gl : Ge w
 d : Tb 3 dN w
 x : Tb 0 bxN w
 y : Tb 1 byN w
structure Gx (w : World) : Prop where
 gl : Gl w
 d : Tb 3 dN w
 x : Tb 0 bxN w
 y : Tb 1 byN w
theorem Gx.gc {w : World} (h : Gx w) : Gc w := ⟨⟨h.gl.en⟩, h.d, h.x, h.y⟩
theorem Gx.belowAll {w w' : World} (h : Gx w) (hb : Below w.heap.size w w') : Gx w' := ⟨h.gl.belowAll hb, h.d.belowAll hb, h.x.belowAll hb, h.y.belowAll hb⟩
instance {w : World} : Coe (Gx w) (Gc w) := ⟨Gx.gc⟩
theorem Gc.belowAll {w w' : World} (h : Gc w) (hb : Below w.heap.size w w') : Gc w' := ⟨h.gl.belowAll hb, h.d.belowAll hb, h.x.belowAll hb, h.y.belowAll hb⟩
def dL : Lm := ofB dN
theorem dL_ok : dL.ok := ofB_ok _
def atP (x y : Lm) : Pm := ⟨x, y, smL 1, mulL x y⟩
def quP (x u y v : Lm) : Pm := ⟨mulL x v, mulL y u, mulL u v, mulL x y⟩
def ze1 : Pm := atP (smL 0) (smL 1)
def baP : Pm := atP (ofB bxN) (ofB byN)
def ngP (p : Pm) : Pm := ⟨negL p.x, p.y, p.z, negL p.t⟩
def plA (p q : Pm) : Lm := mulL (addL p.y p.x) (addL q.y q.x)
def miA (p q : Pm) : Lm := mulL (subL p.y p.x) (subL q.y q.x)
def onA (p q : Pm) : Lm := addL (mulL p.z q.z) (mulL p.z q.z)
def moA (p q : Pm) : Lm := addL (mulL (mulL p.t q.t) dL) (mulL (mulL p.t q.t) dL)
def adP (p q : Pm) : Pm := quP (subL (plA p q) (miA p q)) (addL (onA p q) (moA p q)) (addL (plA p q) (miA p q)) (subL (onA p q) (moA p q))
def unD (p : Pm) : Lm := subL (mulL p.y p.y) (mulL p.x p.x)
def doP (p : Pm) : Pm := quP (addL (mulL p.x p.y) (mulL p.x p.y)) (unD p) (addL (mulL p.y p.y) (mulL p.x p.x)) (subL (addL (mulL p.z p.z) (mulL p.z p.z)) (unD p))
theorem sm_ok0 : (smL 0).ok := smL_ok (by decide)
theorem sm_ok1 : (smL 1).ok := smL_ok (by decide)
theorem atP_ok {x y : Lm} (hx : x.ok) (hy : y.ok) : (atP x y).ok := ⟨hx, hy, sm_ok1, mulL_ok hx hy⟩
theorem quP_ok {x u y v : Lm} (hx : x.ok) (hu : u.ok) (hy : y.ok) (hv : v.ok) : (quP x u y v).ok := ⟨mulL_ok hx hv, mulL_ok hy hu, mulL_ok hu hv, mulL_ok hx hy⟩
theorem ze1_ok : ze1.ok := atP_ok sm_ok0 sm_ok1
theorem baP_ok : baP.ok := atP_ok (ofB_ok _) (ofB_ok _)
theorem ngP_ok {p : Pm} (h : p.ok) : (ngP p).ok := ⟨negL_ok _, h.y, h.z, negL_ok _⟩
theorem plA_ok {p q : Pm} (h : p.ok) (k : q.ok) : (plA p q).ok := mulL_ok (addL_ok h.y h.x) (addL_ok k.y k.x)
theorem miA_ok {p q : Pm} (h : p.ok) (k : q.ok) : (miA p q).ok := mulL_ok (subL_ok h.y) (subL_ok k.y)
theorem onA_ok {p q : Pm} (h : p.ok) (k : q.ok) : (onA p q).ok := addL_ok (mulL_ok h.z k.z) (mulL_ok h.z k.z)
theorem moA_ok {p q : Pm} (h : p.ok) (k : q.ok) : (moA p q).ok := addL_ok (mulL_ok (mulL_ok h.t k.t) dL_ok) (mulL_ok (mulL_ok h.t k.t) dL_ok)
theorem adP_ok {p q : Pm} (h : p.ok) (k : q.ok) : (adP p q).ok := quP_ok (subL_ok (plA_ok h k)) (addL_ok (onA_ok h k) (moA_ok h k)) (addL_ok (plA_ok h k) (miA_ok h k)) (subL_ok (onA_ok h k))
theorem unD_ok {p : Pm} (h : p.ok) : (unD p).ok := subL_ok (mulL_ok h.y h.y)
theorem doP_ok {p : Pm} (h : p.ok) : (doP p).ok := quP_ok (addL_ok (mulL_ok h.x h.y) (mulL_ok h.x h.y)) (unD_ok h) (addL_ok (mulL_ok h.y h.y) (mulL_ok h.x h.x)) (subL_ok (addL_ok (mulL_ok h.z h.z) (mulL_ok h.z h.z)))
section
section
open Go.RowKit
set_option maxHeartbeats 3200000 in
theorem at_any {x y : Lm} (hx : x.ok) (hy : y.ok) (w : World) (hq : Gc w) :
  Calls Tryz.prog 56 #[.agg (EL x).toArray, .agg (EL y).toArray] w fun e w' => e = .returned (.agg (PL (atP x y)).toArray) ∧ Below w.heap.size w w' := by
 have hb0 := (((Row.new w (EL x) 62)).alloc (.cells (EL y).toArray 62)).alloc (.cells (PL zeP).toArray 64)
 have hb1 := ((Row.new1 w (.cells (EL x).toArray 62) (EL y) 62)).alloc (.cells (PL zeP).toArray 64)
 have hz := (Row.new2 w (.cells (EL x).toArray 62) (.cells (EL y).toArray 62) (PL zeP) 64)
 have hw := Below.alloc3 w (.cells (EL x).toArray 62) (.cells (EL y).toArray 62) (.cells (PL zeP).toArray 64)
 go_enter Tryz.func56, Tryz.ntmps56
 go_wp2_with fail
 rw [z20]
 generalize (((w.alloc (.cells (EL x).toArray 62)).alloc (.cells (EL y).toArray 62)).alloc (.cells (PL zeP).toArray 64)) = W0 at *
 refine wp_flat_store (aD := ?aD1) (S := fun w' => Below W0.heap.size W0 w') (s := 7) (T := 64) (T' := 64) (g := w.heap.size + 1 + 1) (z := PL zeP) (c := PL ⟨x, y, (smL 1), (mulL x y)⟩) (x := .tmp 4) (y := .tmp 11)
  (vs := [(0, .agg (EL x).toArray), (1, .agg (EL y).toArray), (2, .agg (EL (smL 1)).toArray), (3, .agg (EL x).toArray), (4, .agg (EL y).toArray), (5, .agg (EL (mulL x y)).toArray), (6, .agg (PL ⟨x, y, (smL 1), (mulL x y)⟩).toArray)]) (by kernel_rfl) ((Below.refl _ _).drew) (fun _ _ h k => S_trans h k) ?hD1 ?hk1 rfl rfl rfl rfl ?ea1 ?eb1 (fun w' h => hz.belowAll h) (pl_info _) (PL_sz _ _) (PL_one _) ?h1
 case hD1 =>
  refine .s 5 rfl (Gives.l 62 (.tmp 2) (w.heap.size) (fun w' h => hb0.belowAll h) Tryz.underlying62 (el_info _)) ?_
  refine .s 6 rfl (Gives.l 62 (.tmp 3) (w.heap.size + 1) (fun w' h => hb1.belowAll h) Tryz.underlying62 (el_info _)) ?_
  refine .s 7 rfl (Gives.c (args := [.int .u32 1]) rfl Tryz.func92 (fun w' h => sm_any 1 (by decide) w')) ?_
  refine .s 8 rfl (Gives.l 62 (.tmp 2) (w.heap.size) (fun w' h => hb0.belowAll h) Tryz.underlying62 (el_info _)) ?_
  refine .s 9 rfl (Gives.l 62 (.tmp 3) (w.heap.size + 1) (fun w' h => hb1.belowAll h) Tryz.underlying62 (el_info _)) ?_
  refine .s 10 rfl (Gives.c (args := [.agg (EL x).toArray, .agg (EL y).toArray]) rfl Tryz.func61 (fun w' h => mul_any hx hy w')) ?_
  refine .s 11 rfl (Gives.build4 64 (.tmp 5) (.tmp 6) (.tmp 7) (.tmp 10) rfl _ _ _ _ _ rfl rfl rfl rfl (fun w' => pl_build _ _ _ _ w')) ?_
  exact .nil
 case hk1 => kernel_rfl
 case ea1 => rfl
 case eb1 => rfl
 case h1 =>
 intro W1 hb
 replace hb0 := hb0.belowAll hb
 replace hb1 := hb1.belowAll hb
 replace hz := hz.belowAll hb
 replace hw := hw.trans (hb.mono hw.size)
 clear hb
 replace hb0 := hb0.setRowOther (k := w.heap.size + 1 + 1) (by omega) (PL ⟨x, y, (smL 1), (mulL x y)⟩).toArray
 replace hb1 := hb1.setRowOther (k := w.heap.size + 1 + 1) (by omega) (PL ⟨x, y, (smL 1), (mulL x y)⟩).toArray
 replace hz := hz.setRow (PL ⟨x, y, (smL 1), (mulL x y)⟩)
 replace hw := below_setRow (g := w.heap.size + 1 + 1) hw (by omega) (PL ⟨x, y, (smL 1), (mulL x y)⟩).toArray
 have hgot := hz
 have HGOT := yH hgot
 have HW := yH hw
 clear hgot hw hb0 hb1 hz
 go_wp2_with fail
 refine bodyPost_ret (results_cell_row (by rfl) _ _ (w.heap.size + 1 + 1) _ _ _ _ (by rfl) HGOT.out Tryz.underlying64 rfl (pl_info _)) rfl ?_
 exact ⟨rfl, HW.out⟩
set_option maxHeartbeats 3200000 in
theorem qu_any {x u y v : Lm} (hx : x.ok) (hu : u.ok) (hy : y.ok) (hv : v.ok) (w : World) (hq : Gc w) :
  Calls Tryz.prog 121 #[.agg (EL x).toArray, .agg (EL u).toArray, .agg (EL y).toArray, .agg (EL v).toArray] w fun e w' => e = .returned (.agg (PL (quP x u y v)).toArray) ∧ Below w.heap.size w w' := by
 have hb0 := (((((Row.new w (EL x) 62)).alloc (.cells (EL u).toArray 62)).alloc (.cells (EL y).toArray 62)).alloc (.cells (EL v).toArray 62)).alloc (.cells (PL zeP).toArray 64)
 have hb1 := ((((Row.new1 w (.cells (EL x).toArray 62) (EL u) 62)).alloc (.cells (EL y).toArray 62)).alloc (.cells (EL v).toArray 62)).alloc (.cells (PL zeP).toArray 64)
 have hb2 := (((Row.new2 w (.cells (EL x).toArray 62) (.cells (EL u).toArray 62) (EL y) 62)).alloc (.cells (EL v).toArray 62)).alloc (.cells (PL zeP).toArray 64)
 have hb3 := ((Row.new3 w (.cells (EL x).toArray 62) (.cells (EL u).toArray 62) (.cells (EL y).toArray 62) (EL v) 62)).alloc (.cells (PL zeP).toArray 64)
 have hz := (Row.new4 w (.cells (EL x).toArray 62) (.cells (EL u).toArray 62) (.cells (EL y).toArray 62) (.cells (EL v).toArray 62) (PL zeP) 64)
 have hw := Below.alloc5 w (.cells (EL x).toArray 62) (.cells (EL u).toArray 62) (.cells (EL y).toArray 62) (.cells (EL v).toArray 62) (.cells (PL zeP).toArray 64)
 go_enter Tryz.func121, Tryz.ntmps121
 go_wp2_with fail
 rw [z20]
 generalize (((((w.alloc (.cells (EL x).toArray 62)).alloc (.cells (EL u).toArray 62)).alloc (.cells (EL y).toArray 62)).alloc (.cells (EL v).toArray 62)).alloc (.cells (PL zeP).toArray 64)) = W0 at *
 refine wp_flat_store (aD := ?aD1) (S := fun w' => Below W0.heap.size W0 w') (s := 13) (T := 64) (T' := 64) (g := w.heap.size + 1 + 1 + 1 + 1) (z := PL zeP) (c := PL ⟨(mulL x v), (mulL y u), (mulL u v), (mulL x y)⟩) (x := .tmp 8) (y := .tmp 21)
  (vs := [(0, .agg (EL x).toArray), (1, .agg (EL v).toArray), (2, .agg (EL (mulL x v)).toArray), (3, .agg (EL y).toArray), (4, .agg (EL u).toArray), (5, .agg (EL (mulL y u)).toArray), (6, .agg (EL u).toArray), (7, .agg (EL v).toArray), (8, .agg (EL (mulL u v)).toArray), (9, .agg (EL x).toArray), (10, .agg (EL y).toArray), (11, .agg (EL (mulL x y)).toArray), (12, .agg (PL ⟨(mulL x v), (mulL y u), (mulL u v), (mulL x y)⟩).toArray)]) (by kernel_rfl) ((Below.refl _ _).drew) (fun _ _ h k => S_trans h k) ?hD1 ?hk1 rfl rfl rfl rfl ?ea1 ?eb1 (fun w' h => hz.belowAll h) (pl_info _) (PL_sz _ _) (PL_one _) ?h1
 case hD1 =>
  refine .s 9 rfl (Gives.l 62 (.tmp 4) (w.heap.size) (fun w' h => hb0.belowAll h) Tryz.underlying62 (el_info _)) ?_
  refine .s 10 rfl (Gives.l 62 (.tmp 7) (w.heap.size + 1 + 1 + 1) (fun w' h => hb3.belowAll h) Tryz.underlying62 (el_info _)) ?_
  refine .s 11 rfl (Gives.c (args := [.agg (EL x).toArray, .agg (EL v).toArray]) rfl Tryz.func61 (fun w' h => mul_any hx hv w')) ?_
  refine .s 12 rfl (Gives.l 62 (.tmp 6) (w.heap.size + 1 + 1) (fun w' h => hb2.belowAll h) Tryz.underlying62 (el_info _)) ?_
  refine .s 13 rfl (Gives.l 62 (.tmp 5) (w.heap.size + 1) (fun w' h => hb1.belowAll h) Tryz.underlying62 (el_info _)) ?_
  refine .s 14 rfl (Gives.c (args := [.agg (EL y).toArray, .agg (EL u).toArray]) rfl Tryz.func61 (fun w' h => mul_any hy hu w')) ?_
  refine .s 15 rfl (Gives.l 62 (.tmp 5) (w.heap.size + 1) (fun w' h => hb1.belowAll h) Tryz.underlying62 (el_info _)) ?_
  refine .s 16 rfl (Gives.l 62 (.tmp 7) (w.heap.size + 1 + 1 + 1) (fun w' h => hb3.belowAll h) Tryz.underlying62 (el_info _)) ?_
  refine .s 17 rfl (Gives.c (args := [.agg (EL u).toArray, .agg (EL v).toArray]) rfl Tryz.func61 (fun w' h => mul_any hu hv w')) ?_
  refine .s 18 rfl (Gives.l 62 (.tmp 4) (w.heap.size) (fun w' h => hb0.belowAll h) Tryz.underlying62 (el_info _)) ?_
  refine .s 19 rfl (Gives.l 62 (.tmp 6) (w.heap.size + 1 + 1) (fun w' h => hb2.belowAll h) Tryz.underlying62 (el_info _)) ?_
  refine .s 20 rfl (Gives.c (args := [.agg (EL x).toArray, .agg (EL y).toArray]) rfl Tryz.func61 (fun w' h => mul_any hx hy w')) ?_
  refine .s 21 rfl (Gives.build4 64 (.tmp 11) (.tmp 14) (.tmp 17) (.tmp 20) rfl _ _ _ _ _ rfl rfl rfl rfl (fun w' => pl_build _ _ _ _ w')) ?_
  exact .nil
 case hk1 => kernel_rfl
 case ea1 => rfl
 case eb1 => rfl
 case h1 =>
 intro W1 hb
 replace hb0 := hb0.belowAll hb
 replace hb1 := hb1.belowAll hb
 replace hb2 := hb2.belowAll hb
 replace hb3 := hb3.belowAll hb
 replace hz := hz.belowAll hb
 replace hw := hw.trans (hb.mono hw.size)
 clear hb
 replace hb0 := hb0.setRowOther (k := w.heap.size + 1 + 1 + 1 + 1) (by omega) (PL ⟨(mulL x v), (mulL y u), (mulL u v), (mulL x y)⟩).toArray
 replace hb1 := hb1.setRowOther (k := w.heap.size + 1 + 1 + 1 + 1) (by omega) (PL ⟨(mulL x v), (mulL y u), (mulL u v), (mulL x y)⟩).toArray
 replace hb2 := hb2.setRowOther (k := w.heap.size + 1 + 1 + 1 + 1) (by omega) (PL ⟨(mulL x v), (mulL y u), (mulL u v), (mulL x y)⟩).toArray
 replace hb3 := hb3.setRowOther (k := w.heap.size + 1 + 1 + 1 + 1) (by omega) (PL ⟨(mulL x v), (mulL y u), (mulL u v), (mulL x y)⟩).toArray
 replace hz := hz.setRow (PL ⟨(mulL x v), (mulL y u), (mulL u v), (mulL x y)⟩)
 replace hw := below_setRow (g := w.heap.size + 1 + 1 + 1 + 1) hw (by omega) (PL ⟨(mulL x v), (mulL y u), (mulL u v), (mulL x y)⟩).toArray
 have hgot := hz
 have HGOT := yH hgot
 have HW := yH hw
 clear hgot hw hb0 hb1 hb2 hb3 hz
 go_wp2_with fail
 refine bodyPost_ret (results_cell_row (by rfl) _ _ (w.heap.size + 1 + 1 + 1 + 1) _ _ _ _ (by rfl) HGOT.out Tryz.underlying64 rfl (pl_info _)) rfl ?_
 exact ⟨rfl, HW.out⟩
set_option maxHeartbeats 3200000 in
theorem ng_any {p : Pm} (hp : p.ok) (w : World) (hq : Gc w) :
  Calls Tryz.prog 44 #[.agg (PL p).toArray] w fun e w' => e = .returned (.agg (PL (ngP p)).toArray) ∧ Below w.heap.size w w' := by
 have hb0 := ((Row.new w (PL p) 64)).alloc (.cells (PL zeP).toArray 64)
 have hz := (Row.new1 w (.cells (PL p).toArray 64) (PL zeP) 64)
 have hw := Below.alloc2 w (.cells (PL p).toArray 64) (.cells (PL zeP).toArray 64)
 go_enter Tryz.func44, Tryz.ntmps44
 go_wp2_with fail
 rw [z20]
 generalize ((w.alloc (.cells (PL p).toArray 64)).alloc (.cells (PL zeP).toArray 64)) = W0 at *
 refine wp_flat_store (aD := ?aD1) (S := fun w' => Below W0.heap.size W0 w') (s := 11) (T := 64) (T' := 64) (g := w.heap.size + 1) (z := PL zeP) (c := PL ⟨(negL p.x), p.y, p.z, (negL p.t)⟩) (x := .tmp 2) (y := .tmp 13)
  (vs := [(0, .pointer (some ⟨w.heap.size, 0, none⟩)), (1, .agg (EL p.x).toArray), (2, .agg (EL (negL p.x)).toArray), (3, .pointer (some ⟨w.heap.size, 5, none⟩)), (4, .agg (EL p.y).toArray), (5, .pointer (some ⟨w.heap.size, 10, none⟩)), (6, .agg (EL p.z).toArray), (7, .pointer (some ⟨w.heap.size, 15, none⟩)), (8, .agg (EL p.t).toArray), (9, .agg (EL (negL p.t)).toArray), (10, .agg (PL ⟨(negL p.x), p.y, p.z, (negL p.t)⟩).toArray)]) (by kernel_rfl) ((Below.refl _ _).drew) (fun _ _ h k => S_trans h k) ?hD1 ?hk1 rfl rfl rfl rfl ?ea1 ?eb1 (fun w' h => hz.belowAll h) (pl_info _) (PL_sz _ _) (PL_one _) ?h1
 case hD1 =>
  refine .s 3 rfl (Gives.fieldAt 64 (.tmp 1) 0 rfl _ _ rfl (fun w' => fa_x (w.heap.size) w')) ?_
  refine .s 4 rfl (Gives.load_at 62 (.tmp 3) rfl ⟨w.heap.size, 0, none⟩ rfl (EL p.x) _ (fun w' h => (hb0.belowAll h).part 0 (EL p.x) (pt_x _)) Tryz.underlying62 rfl (el_len _)) ?_
  refine .s 5 rfl (Gives.c (args := [.agg (EL p.x).toArray]) rfl Tryz.func79 (fun w' h => neg_any hp.x w' ((hq.belowAll hw).gl.belowAll h).en)) ?_
  refine .s 6 rfl (Gives.fieldAt 64 (.tmp 1) 1 rfl _ _ rfl (fun w' => fa_y (w.heap.size) w')) ?_
  refine .s 7 rfl (Gives.load_at 62 (.tmp 6) rfl ⟨w.heap.size, 5, none⟩ rfl (EL p.y) _ (fun w' h => (hb0.belowAll h).part 5 (EL p.y) (pt_y _)) Tryz.underlying62 rfl (el_len _)) ?_
  refine .s 8 rfl (Gives.fieldAt 64 (.tmp 1) 2 rfl _ _ rfl (fun w' => fa_z (w.heap.size) w')) ?_
  refine .s 9 rfl (Gives.load_at 62 (.tmp 8) rfl ⟨w.heap.size, 10, none⟩ rfl (EL p.z) _ (fun w' h => (hb0.belowAll h).part 10 (EL p.z) (pt_z _)) Tryz.underlying62 rfl (el_len _)) ?_
  refine .s 10 rfl (Gives.fieldAt 64 (.tmp 1) 3 rfl _ _ rfl (fun w' => fa_t (w.heap.size) w')) ?_
  refine .s 11 rfl (Gives.load_at 62 (.tmp 10) rfl ⟨w.heap.size, 15, none⟩ rfl (EL p.t) _ (fun w' h => (hb0.belowAll h).part 15 (EL p.t) (pt_t _)) Tryz.underlying62 rfl (el_len _)) ?_
  refine .s 12 rfl (Gives.c (args := [.agg (EL p.t).toArray]) rfl Tryz.func79 (fun w' h => neg_any hp.t w' ((hq.belowAll hw).gl.belowAll h).en)) ?_
  refine .s 13 rfl (Gives.build4 64 (.tmp 5) (.tmp 7) (.tmp 9) (.tmp 12) rfl _ _ _ _ _ rfl rfl rfl rfl (fun w' => pl_build _ _ _ _ w')) ?_
  exact .nil
 case hk1 => kernel_rfl
 case ea1 => rfl
 case eb1 => rfl
 case h1 =>
 intro W1 hb
 replace hb0 := hb0.belowAll hb
 replace hz := hz.belowAll hb
 replace hw := hw.trans (hb.mono hw.size)
 clear hb
 replace hb0 := hb0.setRowOther (k := w.heap.size + 1) (by omega) (PL ⟨(negL p.x), p.y, p.z, (negL p.t)⟩).toArray
 replace hz := hz.setRow (PL ⟨(negL p.x), p.y, p.z, (negL p.t)⟩)
 replace hw := below_setRow (g := w.heap.size + 1) hw (by omega) (PL ⟨(negL p.x), p.y, p.z, (negL p.t)⟩).toArray
 have hgot := hz
 have HGOT := yH hgot
 have HW := yH hw
 clear hgot hw hb0 hz
 go_wp2_with fail
 refine bodyPost_ret (results_cell_row (by rfl) _ _ (w.heap.size + 1) _ _ _ _ (by rfl) HGOT.out Tryz.underlying64 rfl (pl_info _)) rfl ?_
 exact ⟨rfl, HW.out⟩
end
section
open Go.RowKit
set_option maxHeartbeats 3200000 in
theorem ad_any {p q : Pm} (hp : p.ok) (hk : q.ok) (w : World) (hq : Gc w) :
  Calls Tryz.prog 95 #[.agg (PL p).toArray, .agg (PL q).toArray] w fun e w' => e = .returned (.agg (PL (adP p q)).toArray) ∧ Below w.heap.size w w' := by
 have hb0 := (((Row.new w (PL p) 64)).alloc (.cells (PL q).toArray 64)).alloc (.cells (PL zeP).toArray 64)
 have hb1 := ((Row.new1 w (.cells (PL p).toArray 64) (PL q) 64)).alloc (.cells (PL zeP).toArray 64)
 have hz := (Row.new2 w (.cells (PL p).toArray 64) (.cells (PL q).toArray 64) (PL zeP) 64)
 have hw := Below.alloc3 w (.cells (PL p).toArray 64) (.cells (PL q).toArray 64) (.cells (PL zeP).toArray 64)
 go_enter Tryz.func95, Tryz.ntmps95
 go_wp2_with fail
 rw [z20]
 generalize (((w.alloc (.cells (PL p).toArray 64)).alloc (.cells (PL q).toArray 64)).alloc (.cells (PL zeP).toArray 64)) = W0 at *
 have lt_hb0 := hb0.lt
 have lt_hb1 := hb1.lt
 have lt_hz := hz.lt
 refine wp_vars_one (aD := ?aD1) (B := W0.heap.size) (S := fun w' => Below W0.heap.size W0 w') (k1 := 11) (s1 := 12) (T1 := 62) (L1 := 62) (z1 := EL zeL) (c1 := EL (mulL (addL p.y p.x) (addL q.y q.x))) (x1 := .tmp 5) (y1 := .tmp 19)
  (vs := [(0, .pointer (some ⟨w.heap.size, 5, none⟩)), (1, .agg (EL p.y).toArray), (2, .pointer (some ⟨w.heap.size, 0, none⟩)), (3, .agg (EL p.x).toArray), (4, .agg (EL (addL p.y p.x)).toArray), (5, .pointer (some ⟨w.heap.size + 1, 5, none⟩)), (6, .agg (EL q.y).toArray), (7, .pointer (some ⟨w.heap.size + 1, 0, none⟩)), (8, .agg (EL q.x).toArray), (9, .agg (EL (addL q.y q.x)).toArray), (10, .agg (EL (mulL (addL p.y p.x) (addL q.y q.x))).toArray)]) (by kernel_rfl) ((Below.refl _ _).drew) (fun _ _ h k => S_trans h k) (fun _ _ cs h hg => S_row h hg cs) (fun _ h => h.size) ?hD1 (.of rfl rfl rfl (fun w' => el_alloc w')) ?hk1 rfl rfl (some 5) rfl rfl rfl ?e11 ?f11 (el_info _) (EL_sz _ _) (EL_one _) ?h1
 case hD1 =>
  refine .s 9 rfl (Gives.fieldAt 64 (.tmp 2) 1 rfl _ _ rfl (fun w' => fa_y (w.heap.size) w')) ?_
  refine .s 10 rfl (Gives.load_at 62 (.tmp 9) rfl ⟨w.heap.size, 5, none⟩ rfl (EL p.y) _ (fun w' h => (hb0.belowAll h).part 5 (EL p.y) (pt_y _)) Tryz.underlying62 rfl (el_len _)) ?_
  refine .s 11 rfl (Gives.fieldAt 64 (.tmp 2) 0 rfl _ _ rfl (fun w' => fa_x (w.heap.size) w')) ?_
  refine .s 12 rfl (Gives.load_at 62 (.tmp 11) rfl ⟨w.heap.size, 0, none⟩ rfl (EL p.x) _ (fun w' h => (hb0.belowAll h).part 0 (EL p.x) (pt_x _)) Tryz.underlying62 rfl (el_len _)) ?_
  refine .s 13 rfl (Gives.c (args := [.agg (EL p.y).toArray, .agg (EL p.x).toArray]) rfl Tryz.func111 (fun w' h => add_any hp.y hp.x w')) ?_
  refine .s 14 rfl (Gives.fieldAt 64 (.tmp 3) 1 rfl _ _ rfl (fun w' => fa_y (w.heap.size + 1) w')) ?_
  refine .s 15 rfl (Gives.load_at 62 (.tmp 14) rfl ⟨w.heap.size + 1, 5, none⟩ rfl (EL q.y) _ (fun w' h => (hb1.belowAll h).part 5 (EL q.y) (pt_y _)) Tryz.underlying62 rfl (el_len _)) ?_
  refine .s 16 rfl (Gives.fieldAt 64 (.tmp 3) 0 rfl _ _ rfl (fun w' => fa_x (w.heap.size + 1) w')) ?_
  refine .s 17 rfl (Gives.load_at 62 (.tmp 16) rfl ⟨w.heap.size + 1, 0, none⟩ rfl (EL q.x) _ (fun w' h => (hb1.belowAll h).part 0 (EL q.x) (pt_x _)) Tryz.underlying62 rfl (el_len _)) ?_
  refine .s 18 rfl (Gives.c (args := [.agg (EL q.y).toArray, .agg (EL q.x).toArray]) rfl Tryz.func111 (fun w' h => add_any hk.y hk.x w')) ?_
  refine .s 19 rfl (Gives.c (args := [.agg (EL (addL p.y p.x)).toArray, .agg (EL (addL q.y q.x)).toArray]) rfl Tryz.func61 (fun w' h => mul_any (addL_ok hp.y hp.x) (addL_ok hk.y hk.x) w')) ?_
  exact .nil
 case hk1 => kernel_rfl
 case e11 => intro i1; rfl
 case f11 => intro i1; rfl
 case h1 =>
 intro g5 W1 hb hg1 h5
 have ge_g5 := Nat.le_trans hw.size hg1
 have ne_hb0_g5 : w.heap.size ≠ g5 := by omega
 have ne_hb1_g5 : w.heap.size + 1 ≠ g5 := by omega
 have ne_hz_g5 : w.heap.size + 1 + 1 ≠ g5 := by omega
 clear lt_hb0 lt_hb1 lt_hz
 replace hb0 := hb0.belowAll hb
 replace hb1 := hb1.belowAll hb
 replace hz := hz.belowAll hb
 replace hw := hw.trans (hb.mono hw.size)
 clear hb
 go_wp2_with fail
 have lt_hb0 := hb0.lt
 have lt_hb1 := hb1.lt
 have lt_hz := hz.lt
 have lt_h5 := h5.lt
 refine wp_vars_one (aD := ?aD2) (B := W1.heap.size) (S := fun w' => Below W1.heap.size W1 w') (k1 := 11) (s1 := 12) (T1 := 62) (L1 := 62) (z1 := EL zeL) (c1 := EL (mulL (subL p.y p.x) (subL q.y q.x))) (x1 := .tmp 6) (y1 := .tmp 30)
  (vs := [(0, .pointer (some ⟨w.heap.size, 5, none⟩)), (1, .agg (EL p.y).toArray), (2, .pointer (some ⟨w.heap.size, 0, none⟩)), (3, .agg (EL p.x).toArray), (4, .agg (EL (subL p.y p.x)).toArray), (5, .pointer (some ⟨w.heap.size + 1, 5, none⟩)), (6, .agg (EL q.y).toArray), (7, .pointer (some ⟨w.heap.size + 1, 0, none⟩)), (8, .agg (EL q.x).toArray), (9, .agg (EL (subL q.y q.x)).toArray), (10, .agg (EL (mulL (subL p.y p.x) (subL q.y q.x))).toArray)]) (by kernel_rfl) ((Below.refl _ _).drew) (fun _ _ h k => S_trans h k) (fun _ _ cs h hg => S_row h hg cs) (fun _ h => h.size) ?hD2 (.of rfl rfl rfl (fun w' => el_alloc w')) ?hk2 rfl rfl (some 6) rfl rfl rfl ?e21 ?f21 (el_info _) (EL_sz _ _) (EL_one _) ?h2
 case hD2 =>
  refine .s 20 rfl (Gives.fieldAt 64 (.tmp 2) 1 rfl _ _ rfl (fun w' => fa_y (w.heap.size) w')) ?_
  refine .s 21 rfl (Gives.load_at 62 (.tmp 20) rfl ⟨w.heap.size, 5, none⟩ rfl (EL p.y) _ (fun w' h => (hb0.belowAll h).part 5 (EL p.y) (pt_y _)) Tryz.underlying62 rfl (el_len _)) ?_
  refine .s 22 rfl (Gives.fieldAt 64 (.tmp 2) 0 rfl _ _ rfl (fun w' => fa_x (w.heap.size) w')) ?_
  refine .s 23 rfl (Gives.load_at 62 (.tmp 22) rfl ⟨w.heap.size, 0, none⟩ rfl (EL p.x) _ (fun w' h => (hb0.belowAll h).part 0 (EL p.x) (pt_x _)) Tryz.underlying62 rfl (el_len _)) ?_
  refine .s 24 rfl (Gives.c (args := [.agg (EL p.y).toArray, .agg (EL p.x).toArray]) rfl Tryz.func110 (fun w' h => sub_any hp.y hp.x w' ((hq.belowAll hw).gl.belowAll h).en)) ?_
  refine .s 25 rfl (Gives.fieldAt 64 (.tmp 3) 1 rfl _ _ rfl (fun w' => fa_y (w.heap.size + 1) w')) ?_
  refine .s 26 rfl (Gives.load_at 62 (.tmp 25) rfl ⟨w.heap.size + 1, 5, none⟩ rfl (EL q.y) _ (fun w' h => (hb1.belowAll h).part 5 (EL q.y) (pt_y _)) Tryz.underlying62 rfl (el_len _)) ?_
  refine .s 27 rfl (Gives.fieldAt 64 (.tmp 3) 0 rfl _ _ rfl (fun w' => fa_x (w.heap.size + 1) w')) ?_
  refine .s 28 rfl (Gives.load_at 62 (.tmp 27) rfl ⟨w.heap.size + 1, 0, none⟩ rfl (EL q.x) _ (fun w' h => (hb1.belowAll h).part 0 (EL q.x) (pt_x _)) Tryz.underlying62 rfl (el_len _)) ?_
  refine .s 29 rfl (Gives.c (args := [.agg (EL q.y).toArray, .agg (EL q.x).toArray]) rfl Tryz.func110 (fun w' h => sub_any hk.y hk.x w' ((hq.belowAll hw).gl.belowAll h).en)) ?_
  refine .s 30 rfl (Gives.c (args := [.agg (EL (subL p.y p.x)).toArray, .agg (EL (subL q.y q.x)).toArray]) rfl Tryz.func61 (fun w' h => mul_any (subL_ok hp.y) (subL_ok hk.y) w')) ?_
  exact .nil
 case hk2 => kernel_rfl
 case e21 => intro i1; rfl
 case f21 => intro i1; rfl
 case h2 =>
 intro g6 W2 hb hg2 h6
 have ge_g6 := Nat.le_trans hw.size hg2
 have ne_hb0_g6 : w.heap.size ≠ g6 := by omega
 have ne_hb1_g6 : w.heap.size + 1 ≠ g6 := by omega
 have ne_hz_g6 : w.heap.size + 1 + 1 ≠ g6 := by omega
 have ne_h5_g6 : g5 ≠ g6 := by omega
 clear lt_hb0 lt_hb1 lt_hz lt_h5
 replace hb0 := hb0.belowAll hb
 replace hb1 := hb1.belowAll hb
 replace hz := hz.belowAll hb
 replace h5 := h5.belowAll hb
 replace hw := hw.trans (hb.mono hw.size)
 clear hb
 go_wp2_with fail
 have lt_hb0 := hb0.lt
 have lt_hb1 := hb1.lt
 have lt_hz := hz.lt
 have lt_h5 := h5.lt
 have lt_h6 := h6.lt
 refine wp_vars_two (aD := ?aD3) (B := W2.heap.size) (S := fun w' => Below W2.heap.size W2 w') (k1 := 13) (s1 := 15) (T1 := 62) (L1 := 62) (z1 := EL zeL) (c1 := EL (mulL p.z q.z)) (x1 := .tmp 7) (y1 := .tmp 35) (k2 := 14) (s2 := 16) (T2 := 62) (L2 := 62) (z2 := EL zeL) (c2 := EL (mulL (mulL p.t q.t) (ofB dN))) (x2 := .tmp 8) (y2 := .tmp 43)
  (vs := [(0, .pointer (some ⟨w.heap.size, 10, none⟩)), (1, .agg (EL p.z).toArray), (2, .pointer (some ⟨w.heap.size + 1, 10, none⟩)), (3, .agg (EL q.z).toArray), (4, .agg (EL (mulL p.z q.z)).toArray), (5, .pointer (some ⟨w.heap.size, 15, none⟩)), (6, .agg (EL p.t).toArray), (7, .pointer (some ⟨w.heap.size + 1, 15, none⟩)), (8, .agg (EL q.t).toArray), (9, .agg (EL (mulL p.t q.t)).toArray), (10, .agg (By dN 32).toArray), (11, .agg (EL (ofB dN)).toArray), (12, .agg (EL (mulL (mulL p.t q.t) (ofB dN))).toArray)]) (by kernel_rfl) ((Below.refl _ _).drew) (fun _ _ h k => S_trans h k) (fun _ _ cs h hg => S_row h hg cs) (fun _ h => h.size) ?hD3 (.of rfl rfl rfl (fun w' => el_alloc w')) (.of rfl rfl rfl (fun w' => el_alloc w')) ?hk3 (by decide) rfl rfl rfl rfl (some 7) (some 8) rfl rfl rfl rfl rfl rfl ?e31 ?f31 ?e32 ?f32 (el_info _) (EL_sz _ _) (EL_one _) (el_info _) (EL_sz _ _) (EL_one _) ?h3
 case hD3 =>
  refine .s 31 rfl (Gives.fieldAt 64 (.tmp 2) 2 rfl _ _ rfl (fun w' => fa_z (w.heap.size) w')) ?_
  refine .s 32 rfl (Gives.load_at 62 (.tmp 31) rfl ⟨w.heap.size, 10, none⟩ rfl (EL p.z) _ (fun w' h => (hb0.belowAll h).part 10 (EL p.z) (pt_z _)) Tryz.underlying62 rfl (el_len _)) ?_
  refine .s 33 rfl (Gives.fieldAt 64 (.tmp 3) 2 rfl _ _ rfl (fun w' => fa_z (w.heap.size + 1) w')) ?_
  refine .s 34 rfl (Gives.load_at 62 (.tmp 33) rfl ⟨w.heap.size + 1, 10, none⟩ rfl (EL q.z) _ (fun w' h => (hb1.belowAll h).part 10 (EL q.z) (pt_z _)) Tryz.underlying62 rfl (el_len _)) ?_
  refine .s 35 rfl (Gives.c (args := [.agg (EL p.z).toArray, .agg (EL q.z).toArray]) rfl Tryz.func61 (fun w' h => mul_any hp.z hk.z w')) ?_
  refine .s 36 rfl (Gives.fieldAt 64 (.tmp 2) 3 rfl _ _ rfl (fun w' => fa_t (w.heap.size) w')) ?_
  refine .s 37 rfl (Gives.load_at 62 (.tmp 36) rfl ⟨w.heap.size, 15, none⟩ rfl (EL p.t) _ (fun w' h => (hb0.belowAll h).part 15 (EL p.t) (pt_t _)) Tryz.underlying62 rfl (el_len _)) ?_
  refine .s 38 rfl (Gives.fieldAt 64 (.tmp 3) 3 rfl _ _ rfl (fun w' => fa_t (w.heap.size + 1) w')) ?_
  refine .s 39 rfl (Gives.load_at 62 (.tmp 38) rfl ⟨w.heap.size + 1, 15, none⟩ rfl (EL q.t) _ (fun w' h => (hb1.belowAll h).part 15 (EL q.t) (pt_t _)) Tryz.underlying62 rfl (el_len _)) ?_
  refine .s 40 rfl (Gives.c (args := [.agg (EL p.t).toArray, .agg (EL q.t).toArray]) rfl Tryz.func61 (fun w' h => mul_any hp.t hk.t w')) ?_
  refine .s 41 rfl (Gives.load_any 22 (.global 3) rfl 3 rfl (By dN 32) (fun w' h => ((hq.belowAll hw).belowAll h).d) Tryz.underlying22 rfl (by_info _)) ?_
  refine .s 42 rfl (Gives.c (args := [.agg (By dN 32).toArray]) rfl Tryz.func57 (fun w' h => of_any dN w')) ?_
  refine .s 43 rfl (Gives.c (args := [.agg (EL (mulL p.t q.t)).toArray, .agg (EL (ofB dN)).toArray]) rfl Tryz.func61 (fun w' h => mul_any (mulL_ok hp.t hk.t) (ofB_ok dN) w')) ?_
  exact .nil
 case hk3 => kernel_rfl
 case e31 => intro i1 i2; rfl
 case f31 => intro i1 i2; rfl
 case e32 => intro i1 i2; rfl
 case f32 => intro i1 i2; rfl
 case h3 =>
 intro g7 g8 W3 hb hg30 hg31 hn301 h7 h8
 simp only [Act.put, yA, yB, yC]
 have ge_g7 := Nat.le_trans hw.size hg30
 have ne_hb0_g7 : w.heap.size ≠ g7 := by omega
 have ne_hb1_g7 : w.heap.size + 1 ≠ g7 := by omega
 have ne_hz_g7 : w.heap.size + 1 + 1 ≠ g7 := by omega
 have ne_h5_g7 : g5 ≠ g7 := by omega
 have ne_h6_g7 : g6 ≠ g7 := by omega
 have ge_g8 := Nat.le_trans hw.size hg31
 have ne_hb0_g8 : w.heap.size ≠ g8 := by omega
 have ne_hb1_g8 : w.heap.size + 1 ≠ g8 := by omega
 have ne_hz_g8 : w.heap.size + 1 + 1 ≠ g8 := by omega
 have ne_h5_g8 : g5 ≠ g8 := by omega
 have ne_h6_g8 : g6 ≠ g8 := by omega
 clear lt_hb0 lt_hb1 lt_hz lt_h5 lt_h6
 replace hb0 := hb0.belowAll hb
 replace hb1 := hb1.belowAll hb
 replace hz := hz.belowAll hb
 replace h5 := h5.belowAll hb
 replace h6 := h6.belowAll hb
 replace hw := hw.trans (hb.mono hw.size)
 clear hb
 clear hb0 hb1
 go_wp2_with fail
 refine wp_flat_seq (aD := ?aD4) (S := fun w' => Below W3.heap.size W3 w') (s1 := 6) (s2 := 7) (L1 := 62) (L2 := 62) (T1 := 62) (T2 := 62) (g1 := g7) (g2 := g8) (z1 := EL (mulL p.z q.z)) (z2 := EL (mulL (mulL p.t q.t) (ofB dN))) (c1 := EL (addL (mulL p.z q.z) (mulL p.z q.z))) (c2 := EL (addL (mulL (mulL p.t q.t) (ofB dN)) (mulL (mulL p.t q.t) (ofB dN)))) (x1 := .tmp 7) (y1 := .tmp 46) (x2 := .tmp 8) (y2 := .tmp 49)
  (vs := [(0, .agg (EL (mulL p.z q.z)).toArray), (1, .agg (EL (mulL p.z q.z)).toArray), (2, .agg (EL (addL (mulL p.z q.z) (mulL p.z q.z))).toArray), (3, .agg (EL (mulL (mulL p.t q.t) (ofB dN))).toArray), (4, .agg (EL (mulL (mulL p.t q.t) (ofB dN))).toArray), (5, .agg (EL (addL (mulL (mulL p.t q.t) (ofB dN)) (mulL (mulL p.t q.t) (ofB dN)))).toArray)]) (by kernel_rfl) ((Below.refl _ _).drew) (fun _ _ h k => S_trans h k) ?hD4 ?hk4 rfl rfl rfl rfl rfl rfl rfl rfl ?ea4 ?eb4 ?ec4 ?ed4 hn301.symm (fun w' h => h7.belowAll h) (fun w' h => h8.belowAll h) (el_info _) (EL_sz _ _) (EL_one _) (el_info _) (EL_sz _ _) (EL_one _) ?h4
 case hD4 =>
  refine .s 44 rfl (Gives.l 62 (.tmp 7) (g7) (fun w' h => h7.belowAll h) Tryz.underlying62 (el_info _)) ?_
  refine .s 45 rfl (Gives.l 62 (.tmp 7) (g7) (fun w' h => h7.belowAll h) Tryz.underlying62 (el_info _)) ?_
  refine .s 46 rfl (Gives.c (args := [.agg (EL (mulL p.z q.z)).toArray, .agg (EL (mulL p.z q.z)).toArray]) rfl Tryz.func111 (fun w' h => add_any (mulL_ok hp.z hk.z) (mulL_ok hp.z hk.z) w')) ?_
  refine .s 47 rfl (Gives.l 62 (.tmp 8) (g8) (fun w' h => h8.belowAll h) Tryz.underlying62 (el_info _)) ?_
  refine .s 48 rfl (Gives.l 62 (.tmp 8) (g8) (fun w' h => h8.belowAll h) Tryz.underlying62 (el_info _)) ?_
  refine .s 49 rfl (Gives.c (args := [.agg (EL (mulL (mulL p.t q.t) (ofB dN))).toArray, .agg (EL (mulL (mulL p.t q.t) (ofB dN))).toArray]) rfl Tryz.func111 (fun w' h => add_any (mulL_ok (mulL_ok hp.t hk.t) (ofB_ok dN)) (mulL_ok (mulL_ok hp.t hk.t) (ofB_ok dN)) w')) ?_
  exact .nil
 case hk4 => kernel_rfl
 case ea4 => rfl
 case eb4 => rfl
 case ec4 => rfl
 case ed4 => rfl
 case h4 =>
 intro W4 hb
 replace hz := hz.belowAll hb
 replace h5 := h5.belowAll hb
 replace h6 := h6.belowAll hb
 replace h7 := h7.belowAll hb
 replace h8 := h8.belowAll hb
 replace hw := hw.trans (hb.mono hw.size)
 clear hb
 replace hz := hz.setRowOther (k := g7) ne_hz_g7 (EL (addL (mulL p.z q.z) (mulL p.z q.z))).toArray
 replace h5 := h5.setRowOther (k := g7) ne_h5_g7 (EL (addL (mulL p.z q.z) (mulL p.z q.z))).toArray
 replace h6 := h6.setRowOther (k := g7) ne_h6_g7 (EL (addL (mulL p.z q.z) (mulL p.z q.z))).toArray
 replace h7 := h7.setRow (EL (addL (mulL p.z q.z) (mulL p.z q.z)))
 replace h8 := h8.setRowOther (k := g7) hn301.symm (EL (addL (mulL p.z q.z) (mulL p.z q.z))).toArray
 replace hw := below_setRow (g := g7) hw ge_g7 (EL (addL (mulL p.z q.z) (mulL p.z q.z))).toArray
 replace hz := hz.setRowOther (k := g8) ne_hz_g8 (EL (addL (mulL (mulL p.t q.t) (ofB dN)) (mulL (mulL p.t q.t) (ofB dN)))).toArray
 replace h5 := h5.setRowOther (k := g8) ne_h5_g8 (EL (addL (mulL (mulL p.t q.t) (ofB dN)) (mulL (mulL p.t q.t) (ofB dN)))).toArray
 replace h6 := h6.setRowOther (k := g8) ne_h6_g8 (EL (addL (mulL (mulL p.t q.t) (ofB dN)) (mulL (mulL p.t q.t) (ofB dN)))).toArray
 replace h7 := h7.setRowOther (k := g8) hn301 (EL (addL (mulL (mulL p.t q.t) (ofB dN)) (mulL (mulL p.t q.t) (ofB dN)))).toArray
 replace h8 := h8.setRow (EL (addL (mulL (mulL p.t q.t) (ofB dN)) (mulL (mulL p.t q.t) (ofB dN))))
 replace hw := below_setRow (g := g8) hw ge_g8 (EL (addL (mulL (mulL p.t q.t) (ofB dN)) (mulL (mulL p.t q.t) (ofB dN)))).toArray
 go_wp2_with fail
 generalize ((W4.setRow g7 (EL (addL (mulL p.z q.z) (mulL p.z q.z))).toArray).setRow g8 (EL (addL (mulL (mulL p.t q.t) (ofB dN)) (mulL (mulL p.t q.t) (ofB dN)))).toArray) = V4 at *
 refine wp_flat_store (aD := ?aD5) (S := fun w' => Below V4.heap.size V4 w') (s := 13) (T := 64) (T' := 64) (g := w.heap.size + 1 + 1) (z := PL zeP) (c := PL (quP (subL (mulL (addL p.y p.x) (addL q.y q.x)) (mulL (subL p.y p.x) (subL q.y q.x))) (addL (addL (mulL p.z q.z) (mulL p.z q.z)) (addL (mulL (mulL p.t q.t) (ofB dN)) (mulL (mulL p.t q.t) (ofB dN)))) (addL (mulL (addL p.y p.x) (addL q.y q.x)) (mulL (subL p.y p.x) (subL q.y q.x))) (subL (addL (mulL p.z q.z) (mulL p.z q.z)) (addL (mulL (mulL p.t q.t) (ofB dN)) (mulL (mulL p.t q.t) (ofB dN)))))) (x := .tmp 4) (y := .tmp 62)
  (vs := [(0, .agg (EL (mulL (addL p.y p.x) (addL q.y q.x))).toArray), (1, .agg (EL (mulL (subL p.y p.x) (subL q.y q.x))).toArray), (2, .agg (EL (subL (mulL (addL p.y p.x) (addL q.y q.x)) (mulL (subL p.y p.x) (subL q.y q.x)))).toArray), (3, .agg (EL (addL (mulL p.z q.z) (mulL p.z q.z))).toArray), (4, .agg (EL (addL (mulL (mulL p.t q.t) (ofB dN)) (mulL (mulL p.t q.t) (ofB dN)))).toArray), (5, .agg (EL (addL (addL (mulL p.z q.z) (mulL p.z q.z)) (addL (mulL (mulL p.t q.t) (ofB dN)) (mulL (mulL p.t q.t) (ofB dN))))).toArray), (6, .agg (EL (mulL (addL p.y p.x) (addL q.y q.x))).toArray), (7, .agg (EL (mulL (subL p.y p.x) (subL q.y q.x))).toArray), (8, .agg (EL (addL (mulL (addL p.y p.x) (addL q.y q.x)) (mulL (subL p.y p.x) (subL q.y q.x)))).toArray), (9, .agg (EL (addL (mulL p.z q.z) (mulL p.z q.z))).toArray), (10, .agg (EL (addL (mulL (mulL p.t q.t) (ofB dN)) (mulL (mulL p.t q.t) (ofB dN)))).toArray), (11, .agg (EL (subL (addL (mulL p.z q.z) (mulL p.z q.z)) (addL (mulL (mulL p.t q.t) (ofB dN)) (mulL (mulL p.t q.t) (ofB dN))))).toArray), (12, .agg (PL (quP (subL (mulL (addL p.y p.x) (addL q.y q.x)) (mulL (subL p.y p.x) (subL q.y q.x))) (addL (addL (mulL p.z q.z) (mulL p.z q.z)) (addL (mulL (mulL p.t q.t) (ofB dN)) (mulL (mulL p.t q.t) (ofB dN)))) (addL (mulL (addL p.y p.x) (addL q.y q.x)) (mulL (subL p.y p.x) (subL q.y q.x))) (subL (addL (mulL p.z q.z) (mulL p.z q.z)) (addL (mulL (mulL p.t q.t) (ofB dN)) (mulL (mulL p.t q.t) (ofB dN)))))).toArray)]) (by kernel_rfl) ((Below.refl _ _).drew) (fun _ _ h k => S_trans h k) ?hD5 ?hk5 rfl rfl rfl rfl ?ea5 ?eb5 (fun w' h => hz.belowAll h) (pl_info _) (PL_sz _ _) (PL_one _) ?h5
 case hD5 =>
  refine .s 50 rfl (Gives.l 62 (.tmp 5) (g5) (fun w' h => h5.belowAll h) Tryz.underlying62 (el_info _)) ?_
  refine .s 51 rfl (Gives.l 62 (.tmp 6) (g6) (fun w' h => h6.belowAll h) Tryz.underlying62 (el_info _)) ?_
  refine .s 52 rfl (Gives.c (args := [.agg (EL (mulL (addL p.y p.x) (addL q.y q.x))).toArray, .agg (EL (mulL (subL p.y p.x) (subL q.y q.x))).toArray]) rfl Tryz.func110 (fun w' h => sub_any (mulL_ok (addL_ok hp.y hp.x) (addL_ok hk.y hk.x)) (mulL_ok (subL_ok hp.y) (subL_ok hk.y)) w' ((hq.belowAll hw).gl.belowAll h).en)) ?_
  refine .s 53 rfl (Gives.l 62 (.tmp 7) (g7) (fun w' h => h7.belowAll h) Tryz.underlying62 (el_info _)) ?_
  refine .s 54 rfl (Gives.l 62 (.tmp 8) (g8) (fun w' h => h8.belowAll h) Tryz.underlying62 (el_info _)) ?_
  refine .s 55 rfl (Gives.c (args := [.agg (EL (addL (mulL p.z q.z) (mulL p.z q.z))).toArray, .agg (EL (addL (mulL (mulL p.t q.t) (ofB dN)) (mulL (mulL p.t q.t) (ofB dN)))).toArray]) rfl Tryz.func111 (fun w' h => add_any (addL_ok (mulL_ok hp.z hk.z) (mulL_ok hp.z hk.z)) (addL_ok (mulL_ok (mulL_ok hp.t hk.t) (ofB_ok dN)) (mulL_ok (mulL_ok hp.t hk.t) (ofB_ok dN))) w')) ?_
  refine .s 56 rfl (Gives.l 62 (.tmp 5) (g5) (fun w' h => h5.belowAll h) Tryz.underlying62 (el_info _)) ?_
  refine .s 57 rfl (Gives.l 62 (.tmp 6) (g6) (fun w' h => h6.belowAll h) Tryz.underlying62 (el_info _)) ?_
  refine .s 58 rfl (Gives.c (args := [.agg (EL (mulL (addL p.y p.x) (addL q.y q.x))).toArray, .agg (EL (mulL (subL p.y p.x) (subL q.y q.x))).toArray]) rfl Tryz.func111 (fun w' h => add_any (mulL_ok (addL_ok hp.y hp.x) (addL_ok hk.y hk.x)) (mulL_ok (subL_ok hp.y) (subL_ok hk.y)) w')) ?_
  refine .s 59 rfl (Gives.l 62 (.tmp 7) (g7) (fun w' h => h7.belowAll h) Tryz.underlying62 (el_info _)) ?_
  refine .s 60 rfl (Gives.l 62 (.tmp 8) (g8) (fun w' h => h8.belowAll h) Tryz.underlying62 (el_info _)) ?_
  refine .s 61 rfl (Gives.c (args := [.agg (EL (addL (mulL p.z q.z) (mulL p.z q.z))).toArray, .agg (EL (addL (mulL (mulL p.t q.t) (ofB dN)) (mulL (mulL p.t q.t) (ofB dN)))).toArray]) rfl Tryz.func110 (fun w' h => sub_any (addL_ok (mulL_ok hp.z hk.z) (mulL_ok hp.z hk.z)) (addL_ok (mulL_ok (mulL_ok hp.t hk.t) (ofB_ok dN)) (mulL_ok (mulL_ok hp.t hk.t) (ofB_ok dN))) w' ((hq.belowAll hw).gl.belowAll h).en)) ?_
  refine .s 62 rfl (Gives.c (args := [.agg (EL (subL (mulL (addL p.y p.x) (addL q.y q.x)) (mulL (subL p.y p.x) (subL q.y q.x)))).toArray, .agg (EL (addL (addL (mulL p.z q.z) (mulL p.z q.z)) (addL (mulL (mulL p.t q.t) (ofB dN)) (mulL (mulL p.t q.t) (ofB dN))))).toArray, .agg (EL (addL (mulL (addL p.y p.x) (addL q.y q.x)) (mulL (subL p.y p.x) (subL q.y q.x)))).toArray, .agg (EL (subL (addL (mulL p.z q.z) (mulL p.z q.z)) (addL (mulL (mulL p.t q.t) (ofB dN)) (mulL (mulL p.t q.t) (ofB dN))))).toArray]) rfl Tryz.func121 (fun w' h => qu_any (subL_ok (mulL_ok (addL_ok hp.y hp.x) (addL_ok hk.y hk.x))) (addL_ok (addL_ok (mulL_ok hp.z hk.z) (mulL_ok hp.z hk.z)) (addL_ok (mulL_ok (mulL_ok hp.t hk.t) (ofB_ok dN)) (mulL_ok (mulL_ok hp.t hk.t) (ofB_ok dN)))) (addL_ok (mulL_ok (addL_ok hp.y hp.x) (addL_ok hk.y hk.x)) (mulL_ok (subL_ok hp.y) (subL_ok hk.y))) (subL_ok (addL_ok (mulL_ok hp.z hk.z) (mulL_ok hp.z hk.z))) w' ((hq.belowAll hw).belowAll h))) ?_
  exact .nil
 case hk5 => kernel_rfl
 case ea5 => rfl
 case eb5 => rfl
 case h5 =>
 intro W5 hb
 replace hz := hz.belowAll hb
 replace h5 := h5.belowAll hb
 replace h6 := h6.belowAll hb
 replace h7 := h7.belowAll hb
 replace h8 := h8.belowAll hb
 replace hw := hw.trans (hb.mono hw.size)
 clear hb
 replace hz := hz.setRow (PL (quP (subL (mulL (addL p.y p.x) (addL q.y q.x)) (mulL (subL p.y p.x) (subL q.y q.x))) (addL (addL (mulL p.z q.z) (mulL p.z q.z)) (addL (mulL (mulL p.t q.t) (ofB dN)) (mulL (mulL p.t q.t) (ofB dN)))) (addL (mulL (addL p.y p.x) (addL q.y q.x)) (mulL (subL p.y p.x) (subL q.y q.x))) (subL (addL (mulL p.z q.z) (mulL p.z q.z)) (addL (mulL (mulL p.t q.t) (ofB dN)) (mulL (mulL p.t q.t) (ofB dN))))))
 replace hw := below_setRow (g := w.heap.size + 1 + 1) hw (by omega) (PL (quP (subL (mulL (addL p.y p.x) (addL q.y q.x)) (mulL (subL p.y p.x) (subL q.y q.x))) (addL (addL (mulL p.z q.z) (mulL p.z q.z)) (addL (mulL (mulL p.t q.t) (ofB dN)) (mulL (mulL p.t q.t) (ofB dN)))) (addL (mulL (addL p.y p.x) (addL q.y q.x)) (mulL (subL p.y p.x) (subL q.y q.x))) (subL (addL (mulL p.z q.z) (mulL p.z q.z)) (addL (mulL (mulL p.t q.t) (ofB dN)) (mulL (mulL p.t q.t) (ofB dN)))))).toArray
 have hgot := hz
 have HGOT := yH hgot
 have HW := yH hw
 clear hgot hw hz h5 h6 h7 h8
 go_wp2_with fail
 refine bodyPost_ret (results_cell_row (by rfl) _ _ (w.heap.size + 1 + 1) _ _ _ _ (by rfl) HGOT.out Tryz.underlying64 rfl (pl_info _)) rfl ?_
 exact ⟨rfl, HW.out⟩
set_option maxHeartbeats 3200000 in
theorem do_any {p : Pm} (hp : p.ok) (w : World) (hq : Gc w) :
  Calls Tryz.prog 94 #[.agg (PL p).toArray] w fun e w' => e = .returned (.agg (PL (doP p)).toArray) ∧ Below w.heap.size w w' := by
 have hb0 := ((Row.new w (PL p) 64)).alloc (.cells (PL zeP).toArray 64)
 have hz := (Row.new1 w (.cells (PL p).toArray 64) (PL zeP) 64)
 have hw := Below.alloc2 w (.cells (PL p).toArray 64) (.cells (PL zeP).toArray 64)
 go_enter Tryz.func94, Tryz.ntmps94
 go_wp2_with fail
 rw [z20]
 generalize ((w.alloc (.cells (PL p).toArray 64)).alloc (.cells (PL zeP).toArray 64)) = W0 at *
 have lt_hb0 := hb0.lt
 have lt_hz := hz.lt
 refine wp_vars_four (aD := ?aD1) (B := W0.heap.size) (S := fun w' => Below W0.heap.size W0 w') (k1 := 20) (s1 := 24) (T1 := 62) (L1 := 62) (z1 := EL zeL) (c1 := EL (mulL p.x p.x)) (x1 := .tmp 3) (y1 := .tmp 12) (k2 := 21) (s2 := 25) (T2 := 62) (L2 := 62) (z2 := EL zeL) (c2 := EL (mulL p.y p.y)) (x2 := .tmp 4) (y2 := .tmp 17) (k3 := 22) (s3 := 26) (T3 := 62) (L3 := 62) (z3 := EL zeL) (c3 := EL (mulL p.z p.z)) (x3 := .tmp 5) (y3 := .tmp 22) (k4 := 23) (s4 := 27) (T4 := 62) (L4 := 62) (z4 := EL zeL) (c4 := EL (mulL p.x p.y)) (x4 := .tmp 6) (y4 := .tmp 27)
  (vs := [(0, .pointer (some ⟨w.heap.size, 0, none⟩)), (1, .agg (EL p.x).toArray), (2, .pointer (some ⟨w.heap.size, 0, none⟩)), (3, .agg (EL p.x).toArray), (4, .agg (EL (mulL p.x p.x)).toArray), (5, .pointer (some ⟨w.heap.size, 5, none⟩)), (6, .agg (EL p.y).toArray), (7, .pointer (some ⟨w.heap.size, 5, none⟩)), (8, .agg (EL p.y).toArray), (9, .agg (EL (mulL p.y p.y)).toArray), (10, .pointer (some ⟨w.heap.size, 10, none⟩)), (11, .agg (EL p.z).toArray), (12, .pointer (some ⟨w.heap.size, 10, none⟩)), (13, .agg (EL p.z).toArray), (14, .agg (EL (mulL p.z p.z)).toArray), (15, .pointer (some ⟨w.heap.size, 0, none⟩)), (16, .agg (EL p.x).toArray), (17, .pointer (some ⟨w.heap.size, 5, none⟩)), (18, .agg (EL p.y).toArray), (19, .agg (EL (mulL p.x p.y)).toArray)]) (by kernel_rfl) ((Below.refl _ _).drew) (fun _ _ h k => S_trans h k) (fun _ _ cs h hg => S_row h hg cs) (fun _ h => h.size) ?hD1 (.of rfl rfl rfl (fun w' => el_alloc w')) (.of rfl rfl rfl (fun w' => el_alloc w')) (.of rfl rfl rfl (fun w' => el_alloc w')) (.of rfl rfl rfl (fun w' => el_alloc w')) ?hk1 (by decide) (by decide) (by decide) (by decide) (by decide) (by decide) rfl rfl rfl rfl rfl rfl rfl rfl (some 3) (some 4) (some 5) (some 6) rfl rfl rfl rfl rfl rfl rfl rfl rfl rfl rfl rfl ?e11 ?f11 ?e12 ?f12 ?e13 ?f13 ?e14 ?f14 (el_info _) (EL_sz _ _) (EL_one _) (el_info _) (EL_sz _ _) (EL_one _) (el_info _) (EL_sz _ _) (EL_one _) (el_info _) (EL_sz _ _) (EL_one _) ?h1
 case hD1 =>
  refine .s 8 rfl (Gives.fieldAt 64 (.tmp 1) 0 rfl _ _ rfl (fun w' => fa_x (w.heap.size) w')) ?_
  refine .s 9 rfl (Gives.load_at 62 (.tmp 8) rfl ⟨w.heap.size, 0, none⟩ rfl (EL p.x) _ (fun w' h => (hb0.belowAll h).part 0 (EL p.x) (pt_x _)) Tryz.underlying62 rfl (el_len _)) ?_
  refine .s 10 rfl (Gives.fieldAt 64 (.tmp 1) 0 rfl _ _ rfl (fun w' => fa_x (w.heap.size) w')) ?_
  refine .s 11 rfl (Gives.load_at 62 (.tmp 10) rfl ⟨w.heap.size, 0, none⟩ rfl (EL p.x) _ (fun w' h => (hb0.belowAll h).part 0 (EL p.x) (pt_x _)) Tryz.underlying62 rfl (el_len _)) ?_
  refine .s 12 rfl (Gives.c (args := [.agg (EL p.x).toArray, .agg (EL p.x).toArray]) rfl Tryz.func61 (fun w' h => mul_any hp.x hp.x w')) ?_
  refine .s 13 rfl (Gives.fieldAt 64 (.tmp 1) 1 rfl _ _ rfl (fun w' => fa_y (w.heap.size) w')) ?_
  refine .s 14 rfl (Gives.load_at 62 (.tmp 13) rfl ⟨w.heap.size, 5, none⟩ rfl (EL p.y) _ (fun w' h => (hb0.belowAll h).part 5 (EL p.y) (pt_y _)) Tryz.underlying62 rfl (el_len _)) ?_
  refine .s 15 rfl (Gives.fieldAt 64 (.tmp 1) 1 rfl _ _ rfl (fun w' => fa_y (w.heap.size) w')) ?_
  refine .s 16 rfl (Gives.load_at 62 (.tmp 15) rfl ⟨w.heap.size, 5, none⟩ rfl (EL p.y) _ (fun w' h => (hb0.belowAll h).part 5 (EL p.y) (pt_y _)) Tryz.underlying62 rfl (el_len _)) ?_
  refine .s 17 rfl (Gives.c (args := [.agg (EL p.y).toArray, .agg (EL p.y).toArray]) rfl Tryz.func61 (fun w' h => mul_any hp.y hp.y w')) ?_
  refine .s 18 rfl (Gives.fieldAt 64 (.tmp 1) 2 rfl _ _ rfl (fun w' => fa_z (w.heap.size) w')) ?_
  refine .s 19 rfl (Gives.load_at 62 (.tmp 18) rfl ⟨w.heap.size, 10, none⟩ rfl (EL p.z) _ (fun w' h => (hb0.belowAll h).part 10 (EL p.z) (pt_z _)) Tryz.underlying62 rfl (el_len _)) ?_
  refine .s 20 rfl (Gives.fieldAt 64 (.tmp 1) 2 rfl _ _ rfl (fun w' => fa_z (w.heap.size) w')) ?_
  refine .s 21 rfl (Gives.load_at 62 (.tmp 20) rfl ⟨w.heap.size, 10, none⟩ rfl (EL p.z) _ (fun w' h => (hb0.belowAll h).part 10 (EL p.z) (pt_z _)) Tryz.underlying62 rfl (el_len _)) ?_
  refine .s 22 rfl (Gives.c (args := [.agg (EL p.z).toArray, .agg (EL p.z).toArray]) rfl Tryz.func61 (fun w' h => mul_any hp.z hp.z w')) ?_
  refine .s 23 rfl (Gives.fieldAt 64 (.tmp 1) 0 rfl _ _ rfl (fun w' => fa_x (w.heap.size) w')) ?_
  refine .s 24 rfl (Gives.load_at 62 (.tmp 23) rfl ⟨w.heap.size, 0, none⟩ rfl (EL p.x) _ (fun w' h => (hb0.belowAll h).part 0 (EL p.x) (pt_x _)) Tryz.underlying62 rfl (el_len _)) ?_
  refine .s 25 rfl (Gives.fieldAt 64 (.tmp 1) 1 rfl _ _ rfl (fun w' => fa_y (w.heap.size) w')) ?_
  refine .s 26 rfl (Gives.load_at 62 (.tmp 25) rfl ⟨w.heap.size, 5, none⟩ rfl (EL p.y) _ (fun w' h => (hb0.belowAll h).part 5 (EL p.y) (pt_y _)) Tryz.underlying62 rfl (el_len _)) ?_
  refine .s 27 rfl (Gives.c (args := [.agg (EL p.x).toArray, .agg (EL p.y).toArray]) rfl Tryz.func61 (fun w' h => mul_any hp.x hp.y w')) ?_
  exact .nil
 case hk1 => kernel_rfl
 case e11 => intro i1 i2 i3 i4; rfl
 case f11 => intro i1 i2 i3 i4; rfl
 case e12 => intro i1 i2 i3 i4; rfl
 case f12 => intro i1 i2 i3 i4; rfl
 case e13 => intro i1 i2 i3 i4; rfl
 case f13 => intro i1 i2 i3 i4; rfl
 case e14 => intro i1 i2 i3 i4; rfl
 case f14 => intro i1 i2 i3 i4; rfl
 case h1 =>
 intro g3 g4 g5 g6 W1 hb hg10 hg11 hg12 hg13 hn101 hn102 hn103 hn112 hn113 hn123 h3 h4 h5 h6
 simp only [Act.put, yA, yB, yC]
 have ge_g3 := Nat.le_trans hw.size hg10
 have ne_hb0_g3 : w.heap.size ≠ g3 := by omega
 have ne_hz_g3 : w.heap.size + 1 ≠ g3 := by omega
 have ge_g4 := Nat.le_trans hw.size hg11
 have ne_hb0_g4 : w.heap.size ≠ g4 := by omega
 have ne_hz_g4 : w.heap.size + 1 ≠ g4 := by omega
 have ge_g5 := Nat.le_trans hw.size hg12
 have ne_hb0_g5 : w.heap.size ≠ g5 := by omega
 have ne_hz_g5 : w.heap.size + 1 ≠ g5 := by omega
 have ge_g6 := Nat.le_trans hw.size hg13
 have ne_hb0_g6 : w.heap.size ≠ g6 := by omega
 have ne_hz_g6 : w.heap.size + 1 ≠ g6 := by omega
 clear lt_hb0 lt_hz
 replace hb0 := hb0.belowAll hb
 replace hz := hz.belowAll hb
 replace hw := hw.trans (hb.mono hw.size)
 clear hb
 clear hb0
 go_wp2_with (first
  | (refine wpList_load_row rfl 62 (.tmp 4) rfl (g4) rfl 62 _ (0, 0) _ h4 Tryz.underlying62 rfl (el_info _) ?_)
  | (refine wpList_load_row rfl 62 (.tmp 3) rfl (g3) rfl 62 _ (0, 0) _ h3 Tryz.underlying62 rfl (el_info _) ?_))
 refine (sub_any (mulL_ok hp.y hp.y) (mulL_ok hp.x hp.x) _ (hq.belowAll hw).gl.en).mono ?_
 rintro e W2 ⟨rfl, hb⟩
 replace hz := hz.belowAll hb
 replace h3 := h3.belowAll hb
 replace h4 := h4.belowAll hb
 replace h5 := h5.belowAll hb
 replace h6 := h6.belowAll hb
 replace hw := hw.trans (hb.mono hw.size)
 clear hb
 have lt_hz := hz.lt
 have lt_h3 := h3.lt
 have lt_h4 := h4.lt
 have lt_h5 := h5.lt
 have lt_h6 := h6.lt
 have ne_hz_2 : w.heap.size + 1 ≠ W2.heap.size := by omega
 have ne_h3_2 : g3 ≠ W2.heap.size := by omega
 have ne_h4_2 : g4 ≠ W2.heap.size := by omega
 have ne_h5_2 : g5 ≠ W2.heap.size := by omega
 have ne_h6_2 : g6 ≠ W2.heap.size := by omega
 have new_2 := Row.new W2 (EL zeL) 62
 replace hz := (hz.alloc (.cells (EL zeL).toArray 62)).setRowOther (k := W2.heap.size) ne_hz_2 (EL (subL (mulL p.y p.y) (mulL p.x p.x))).toArray
 replace h3 := (h3.alloc (.cells (EL zeL).toArray 62)).setRowOther (k := W2.heap.size) ne_h3_2 (EL (subL (mulL p.y p.y) (mulL p.x p.x))).toArray
 replace h4 := (h4.alloc (.cells (EL zeL).toArray 62)).setRowOther (k := W2.heap.size) ne_h4_2 (EL (subL (mulL p.y p.y) (mulL p.x p.x))).toArray
 replace h5 := (h5.alloc (.cells (EL zeL).toArray 62)).setRowOther (k := W2.heap.size) ne_h5_2 (EL (subL (mulL p.y p.y) (mulL p.x p.x))).toArray
 replace h6 := (h6.alloc (.cells (EL zeL).toArray 62)).setRowOther (k := W2.heap.size) ne_h6_2 (EL (subL (mulL p.y p.y) (mulL p.x p.x))).toArray
 have h7 := new_2.setRow (EL (subL (mulL p.y p.y) (mulL p.x p.x)))
 have ge_2 := hw.size
 replace hw := below_setRow (g := W2.heap.size) (hw.alloc hw.size (.cells (EL zeL).toArray 62)) hw.size (EL (subL (mulL p.y p.y) (mulL p.x p.x))).toArray
 have NEW := yH new_2
 clear new_2 lt_hz lt_h3 lt_h4 lt_h5 lt_h6
 go_wp2_with (first
  | (refine wpList_store_row rfl 62 (.tmp 7) (.tmp 30) rfl W2.heap.size _ rfl rfl 62 _ NEW.out (el_info _) (EL_sz _ _) (EL_one _) ?_))
 clear NEW
 rw [show (#[Value.int .u64 0, .int .u64 0, .int .u64 0, .int .u64 0, .int .u64 0] : Array Value) = (EL zeL).toArray from rfl]
 generalize (W2.alloc (.cells (EL zeL).toArray 62)).setRow W2.heap.size (EL (subL (mulL p.y p.y) (mulL p.x p.x))).toArray = V2 at *
 generalize W2.heap.size = g7 at *
 refine wp_flat_store (aD := ?aD3) (S := fun w' => Below V2.heap.size V2 w') (s := 13) (T := 64) (T' := 64) (g := w.heap.size + 1) (z := PL zeP) (c := PL (quP (addL (mulL p.x p.y) (mulL p.x p.y)) (subL (mulL p.y p.y) (mulL p.x p.x)) (addL (mulL p.y p.y) (mulL p.x p.x)) (subL (addL (mulL p.z p.z) (mulL p.z p.z)) (subL (mulL p.y p.y) (mulL p.x p.x))))) (x := .tmp 2) (y := .tmp 43)
  (vs := [(0, .agg (EL (mulL p.x p.y)).toArray), (1, .agg (EL (mulL p.x p.y)).toArray), (2, .agg (EL (addL (mulL p.x p.y) (mulL p.x p.y))).toArray), (3, .agg (EL (subL (mulL p.y p.y) (mulL p.x p.x))).toArray), (4, .agg (EL (mulL p.y p.y)).toArray), (5, .agg (EL (mulL p.x p.x)).toArray), (6, .agg (EL (addL (mulL p.y p.y) (mulL p.x p.x))).toArray), (7, .agg (EL (mulL p.z p.z)).toArray), (8, .agg (EL (mulL p.z p.z)).toArray), (9, .agg (EL (addL (mulL p.z p.z) (mulL p.z p.z))).toArray), (10, .agg (EL (subL (mulL p.y p.y) (mulL p.x p.x))).toArray), (11, .agg (EL (subL (addL (mulL p.z p.z) (mulL p.z p.z)) (subL (mulL p.y p.y) (mulL p.x p.x)))).toArray), (12, .agg (PL (quP (addL (mulL p.x p.y) (mulL p.x p.y)) (subL (mulL p.y p.y) (mulL p.x p.x)) (addL (mulL p.y p.y) (mulL p.x p.x)) (subL (addL (mulL p.z p.z) (mulL p.z p.z)) (subL (mulL p.y p.y) (mulL p.x p.x))))).toArray)]) (by kernel_rfl) ((Below.refl _ _).drew) (fun _ _ h k => S_trans h k) ?hD3 ?hk3 rfl rfl rfl rfl ?ea3 ?eb3 (fun w' h => hz.belowAll h) (pl_info _) (PL_sz _ _) (PL_one _) ?h3
 case hD3 =>
  refine .s 31 rfl (Gives.l 62 (.tmp 6) (g6) (fun w' h => h6.belowAll h) Tryz.underlying62 (el_info _)) ?_
  refine .s 32 rfl (Gives.l 62 (.tmp 6) (g6) (fun w' h => h6.belowAll h) Tryz.underlying62 (el_info _)) ?_
  refine .s 33 rfl (Gives.c (args := [.agg (EL (mulL p.x p.y)).toArray, .agg (EL (mulL p.x p.y)).toArray]) rfl Tryz.func111 (fun w' h => add_any (mulL_ok hp.x hp.y) (mulL_ok hp.x hp.y) w')) ?_
  refine .s 34 rfl (Gives.l 62 (.tmp 7) (g7) (fun w' h => h7.belowAll h) Tryz.underlying62 (el_info _)) ?_
  refine .s 35 rfl (Gives.l 62 (.tmp 4) (g4) (fun w' h => h4.belowAll h) Tryz.underlying62 (el_info _)) ?_
  refine .s 36 rfl (Gives.l 62 (.tmp 3) (g3) (fun w' h => h3.belowAll h) Tryz.underlying62 (el_info _)) ?_
  refine .s 37 rfl (Gives.c (args := [.agg (EL (mulL p.y p.y)).toArray, .agg (EL (mulL p.x p.x)).toArray]) rfl Tryz.func111 (fun w' h => add_any (mulL_ok hp.y hp.y) (mulL_ok hp.x hp.x) w')) ?_
  refine .s 38 rfl (Gives.l 62 (.tmp 5) (g5) (fun w' h => h5.belowAll h) Tryz.underlying62 (el_info _)) ?_
  refine .s 39 rfl (Gives.l 62 (.tmp 5) (g5) (fun w' h => h5.belowAll h) Tryz.underlying62 (el_info _)) ?_
  refine .s 40 rfl (Gives.c (args := [.agg (EL (mulL p.z p.z)).toArray, .agg (EL (mulL p.z p.z)).toArray]) rfl Tryz.func111 (fun w' h => add_any (mulL_ok hp.z hp.z) (mulL_ok hp.z hp.z) w')) ?_
  refine .s 41 rfl (Gives.l 62 (.tmp 7) (g7) (fun w' h => h7.belowAll h) Tryz.underlying62 (el_info _)) ?_
  refine .s 42 rfl (Gives.c (args := [.agg (EL (addL (mulL p.z p.z) (mulL p.z p.z))).toArray, .agg (EL (subL (mulL p.y p.y) (mulL p.x p.x))).toArray]) rfl Tryz.func110 (fun w' h => sub_any (addL_ok (mulL_ok hp.z hp.z) (mulL_ok hp.z hp.z)) (subL_ok (mulL_ok hp.y hp.y)) w' ((hq.belowAll hw).gl.belowAll h).en)) ?_
  refine .s 43 rfl (Gives.c (args := [.agg (EL (addL (mulL p.x p.y) (mulL p.x p.y))).toArray, .agg (EL (subL (mulL p.y p.y) (mulL p.x p.x))).toArray, .agg (EL (addL (mulL p.y p.y) (mulL p.x p.x))).toArray, .agg (EL (subL (addL (mulL p.z p.z) (mulL p.z p.z)) (subL (mulL p.y p.y) (mulL p.x p.x)))).toArray]) rfl Tryz.func121 (fun w' h => qu_any (addL_ok (mulL_ok hp.x hp.y) (mulL_ok hp.x hp.y)) (subL_ok (mulL_ok hp.y hp.y)) (addL_ok (mulL_ok hp.y hp.y) (mulL_ok hp.x hp.x)) (subL_ok (addL_ok (mulL_ok hp.z hp.z) (mulL_ok hp.z hp.z))) w' ((hq.belowAll hw).belowAll h))) ?_
  exact .nil
 case hk3 => kernel_rfl
 case ea3 => rfl
 case eb3 => rfl
 case h3 =>
 intro W3 hb
 replace hz := hz.belowAll hb
 replace h3 := h3.belowAll hb
 replace h4 := h4.belowAll hb
 replace h5 := h5.belowAll hb
 replace h6 := h6.belowAll hb
 replace h7 := h7.belowAll hb
 replace hw := hw.trans (hb.mono hw.size)
 clear hb
 replace hz := hz.setRow (PL (quP (addL (mulL p.x p.y) (mulL p.x p.y)) (subL (mulL p.y p.y) (mulL p.x p.x)) (addL (mulL p.y p.y) (mulL p.x p.x)) (subL (addL (mulL p.z p.z) (mulL p.z p.z)) (subL (mulL p.y p.y) (mulL p.x p.x)))))
 replace hw := below_setRow (g := w.heap.size + 1) hw (by omega) (PL (quP (addL (mulL p.x p.y) (mulL p.x p.y)) (subL (mulL p.y p.y) (mulL p.x p.x)) (addL (mulL p.y p.y) (mulL p.x p.x)) (subL (addL (mulL p.z p.z) (mulL p.z p.z)) (subL (mulL p.y p.y) (mulL p.x p.x))))).toArray
 have hgot := hz
 have HGOT := yH hgot
 have HW := yH hw
 clear hgot hw hz h3 h4 h5 h6 h7
 go_wp2_with fail
 refine bodyPost_ret (results_cell_row (by rfl) _ _ (w.heap.size + 1) _ _ _ _ (by rfl) HGOT.out Tryz.underlying64 rfl (pl_info _)) rfl ?_
 exact ⟨rfl, HW.out⟩
set_option maxHeartbeats 3200000 in
theorem ba_any  (w : World) (hq : Gc w) :
  Calls Tryz.prog 23 #[] w fun e w' => e = .returned (.agg (PL baP).toArray) ∧ Below w.heap.size w w' := by
 have hz := (Row.new w (PL zeP) 64)
 have hw := Below.alloc1 w (.cells (PL zeP).toArray 64)
 go_enter Tryz.func23, Tryz.ntmps23
 go_wp2_with fail
 rw [z20]
 generalize (w.alloc (.cells (PL zeP).toArray 64)) = W0 at *
 refine wp_flat_store (aD := ?aD1) (S := fun w' => Below W0.heap.size W0 w') (s := 5) (T := 64) (T' := 64) (g := w.heap.size) (z := PL zeP) (c := PL (atP (ofB bxN) (ofB byN))) (x := .tmp 0) (y := .tmp 5)
  (vs := [(0, .agg (By bxN 32).toArray), (1, .agg (EL (ofB bxN)).toArray), (2, .agg (By byN 32).toArray), (3, .agg (EL (ofB byN)).toArray), (4, .agg (PL (atP (ofB bxN) (ofB byN))).toArray)]) (by kernel_rfl) ((Below.refl _ _).drew) (fun _ _ h k => S_trans h k) ?hD1 ?hk1 rfl rfl rfl rfl ?ea1 ?eb1 (fun w' h => hz.belowAll h) (pl_info _) (PL_sz _ _) (PL_one _) ?h1
 case hD1 =>
  refine .s 1 rfl (Gives.load_any 22 (.global 0) rfl 0 rfl (By bxN 32) (fun w' h => ((hq.belowAll hw).belowAll h).x) Tryz.underlying22 rfl (by_info _)) ?_
  refine .s 2 rfl (Gives.c (args := [.agg (By bxN 32).toArray]) rfl Tryz.func57 (fun w' h => of_any bxN w')) ?_
  refine .s 3 rfl (Gives.load_any 22 (.global 1) rfl 1 rfl (By byN 32) (fun w' h => ((hq.belowAll hw).belowAll h).y) Tryz.underlying22 rfl (by_info _)) ?_
  refine .s 4 rfl (Gives.c (args := [.agg (By byN 32).toArray]) rfl Tryz.func57 (fun w' h => of_any byN w')) ?_
  refine .s 5 rfl (Gives.c (args := [.agg (EL (ofB bxN)).toArray, .agg (EL (ofB byN)).toArray]) rfl Tryz.func56 (fun w' h => at_any (ofB_ok bxN) (ofB_ok byN) w' ((hq.belowAll hw).belowAll h))) ?_
  exact .nil
 case hk1 => kernel_rfl
 case ea1 => rfl
 case eb1 => rfl
 case h1 =>
 intro W1 hb
 replace hz := hz.belowAll hb
 replace hw := hw.trans (hb.mono hw.size)
 clear hb
 replace hz := hz.setRow (PL (atP (ofB bxN) (ofB byN)))
 replace hw := below_setRow (g := w.heap.size) hw (by omega) (PL (atP (ofB bxN) (ofB byN))).toArray
 have hgot := hz
 have HGOT := yH hgot
 have HW := yH hw
 clear hgot hw hz
 go_wp2_with fail
 refine bodyPost_ret (results_cell_row (by rfl) _ _ (w.heap.size) _ _ _ _ (by rfl) HGOT.out Tryz.underlying64 rfl (pl_info _)) rfl ?_
 exact ⟨rfl, HW.out⟩
end
section
open Go.RowKit
def sameB (p q : Pm) : Bool := decide (nu (mulL p.x q.z) = nu (mulL q.x p.z)) && decide (nu (mulL p.y q.z) = nu (mulL q.y p.z))
set_option maxHeartbeats 3200000 in
theorem ze_any  (w : World) (hq : Gc w) :
  Calls Tryz.prog 78 #[] w fun e w' => e = .returned (.agg (PL ze1).toArray) ∧ Below w.heap.size w w' := by
 have hz := (Row.new w (PL zeP) 64)
 have hw := Below.alloc1 w (.cells (PL zeP).toArray 64)
 go_enter Tryz.func78, Tryz.ntmps78
 go_wp2_with fail
 rw [z20]
 generalize (w.alloc (.cells (PL zeP).toArray 64)) = W0 at *
 refine (sm_any 0 (by decide) _).mono ?_
 rintro e W1 ⟨rfl, hb⟩
 replace hz := hz.belowAll hb
 replace hw := hw.trans (hb.mono hw.size)
 clear hb
 go_wp2_with fail
 refine (sm_any 1 (by decide) _).mono ?_
 rintro e W2 ⟨rfl, hb⟩
 replace hz := hz.belowAll hb
 replace hw := hw.trans (hb.mono hw.size)
 clear hb
 go_wp2_with fail
 refine (at_any sm_ok0 sm_ok1 _ (hq.belowAll hw)).mono ?_
 rintro e W3 ⟨rfl, hb⟩
 replace hz := hz.belowAll hb
 replace hw := hw.trans (hb.mono hw.size)
 clear hb
 have hgot := setRow_heap _ (w.heap.size) _ (PL ze1).toArray _ _ hz
 have HGOT := yH hgot
 have HW := yH hw
 clear hgot hw
 go_wp2_with (first
  | (refine wpList_store_row rfl 64 (.tmp 0) (.tmp 3) rfl (w.heap.size) _ rfl rfl 64 _ hz (pl_info _) (PL_sz _ _) (PL_one _) ?_))
 refine bodyPost_ret (results_cell_row (by rfl) _ _ (w.heap.size) _ _ _ _ (by rfl) HGOT.out Tryz.underlying64 rfl (pl_info _)) rfl ?_
 exact ⟨rfl, below_setRow HW.out (by omega) _⟩
end
end
end Go.Proofs.YtnpjecdodhkplaaGreatDoor
