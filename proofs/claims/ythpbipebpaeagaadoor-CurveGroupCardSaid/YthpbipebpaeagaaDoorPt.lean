/- Points of the program: four numbers, as a row of twenty cells; its fields; the three tables of curve. -/
import Derived.Test.YthpbipebpaeagaaDoorRoot
import Derived.Test.YthpbipebpaeagaaDoorRulesF
import Derived.Test.YthpbipebpaeagaaDoorVars
import Derived.Test.YthpbipebpaeagaaDoorSide
import Derived.Test.YthpbipebpaeagaaDoorFour
import Derived.Test.YthpbipebpaeagaaDoorSlF
namespace Go.Proofs.YthpbipebpaeagaaDoor
set_option maxRecDepth 100000
set_option linter.unusedSimpArgs false
open Go.RowKit

/-- A point as the program holds it. -/
structure Pm where
  x : Lm
  y : Lm
  z : Lm
  t : Lm
structure Pm.ok (p : Pm) : Prop where
  x : p.x.ok
  y : p.y.ok
  z : p.z.ok
  t : p.t.ok
def PL (p : Pm) : List Value := EL p.x ++ (EL p.y ++ (EL p.z ++ EL p.t))
theorem PL_length (p : Pm) : (PL p).length = 20 := rfl
theorem PL_one (p : Pm) : (PL p).toArray.all (·.oneCell') = true := by rw [List.all_toArray]; rfl
theorem PL_sz (p q : Pm) : (PL p).toArray.size = (PL q).toArray.size := rfl
theorem pl_size : (Tryd.prog.info? 58).map (·.size) = some 20 := by kernel_rfl
theorem pl_info (p : Pm) : (Tryd.prog.info? 58).map (·.size) = some (PL p).toArray.size := pl_size.trans rfl
theorem pl_len (p : Pm) : (Tryd.prog.info? 58).map (·.size) = some (PL p).length := pl_size.trans rfl
theorem el_len (x : Lm) : (Tryd.prog.info? 26).map (·.size) = some (EL x).length := el_size.trans rfl
def zeP : Pm := ⟨zeL, zeL, zeL, zeL⟩
theorem pl_alloc (w : World) : (Instr.alloc 58 true (.tuple #[])).run Tryd.prog w = .ok (.pointer (some ⟨w.heap.size, 0, none⟩)) (w.alloc (.cells (PL zeP).toArray 58)) := by kernel_rfl
theorem pl_build (x y z t : Lm) (w : World) : (Instr.build 58 #[(0, .agg (EL x).toArray), (1, .agg (EL y).toArray), (2, .agg (EL z).toArray), (3, .agg (EL t).toArray)]).run Tryd.prog w = .ok (.agg (PL ⟨x, y, z, t⟩).toArray) w := run_build w 58 _ _ (by kernel_rfl)
theorem Gives.build4 {P : Program} {S : World → Prop} {o : Oper} {a : Act} (T : TypeId) (x0 x1 x2 x3 : Operand) (ho : o.op = .build T #[(0, x0), (1, x1), (2, x2), (3, x3)]) (u0 u1 u2 u3 v : Value) (h0 : a.eval x0 = u0) (h1 : a.eval x1 = u1) (h2 : a.eval x2 = u2) (h3 : a.eval x3 = u3)
    (hrun : ∀ w, (Instr.build T #[(0, u0), (1, u1), (2, u2), (3, u3)]).run P w = .ok v w) : Gives P S o v a :=
  Gives.run fun w _ => by
    unfold execOp
    simp only [ho, Sem.run_bind, Sem.run_pure, List.map_toArray, List.map_cons, List.map_nil, h0, h1, h2, h3, hrun, Result.andThen_ok]
theorem z20 : (#[.int .u64 0, .int .u64 0, .int .u64 0, .int .u64 0, .int .u64 0, .int .u64 0, .int .u64 0, .int .u64 0, .int .u64 0, .int .u64 0, .int .u64 0, .int .u64 0, .int .u64 0, .int .u64 0, .int .u64 0, .int .u64 0, .int .u64 0, .int .u64 0, .int .u64 0, .int .u64 0] : Array Value) = (PL zeP).toArray := rfl
theorem z32 : (#[.int .u8 0, .int .u8 0, .int .u8 0, .int .u8 0, .int .u8 0, .int .u8 0, .int .u8 0, .int .u8 0, .int .u8 0, .int .u8 0, .int .u8 0, .int .u8 0, .int .u8 0, .int .u8 0, .int .u8 0, .int .u8 0, .int .u8 0, .int .u8 0, .int .u8 0, .int .u8 0, .int .u8 0, .int .u8 0, .int .u8 0, .int .u8 0, .int .u8 0, .int .u8 0, .int .u8 0, .int .u8 0, .int .u8 0, .int .u8 0, .int .u8 0, .int .u8 0] : Array Value) = (By 0 32).toArray := by rw [By_zero]; rfl
theorem By_sz (N M : Nat) : (By N 32).toArray.size = (By M 32).toArray.size := by rw [List.size_toArray, List.size_toArray, By_length, By_length]
theorem By_one32 (N : Nat) : (By N 32).toArray.all (·.oneCell') = true := By_one N 32
theorem by_alloc (w : World) : (Instr.alloc 22 true (.tuple #[])).run Tryd.prog w = .ok (.pointer (some ⟨w.heap.size, 0, none⟩)) (w.alloc (.cells (By 0 32).toArray 22)) := by
  rw [By_zero]
  kernel_rfl
theorem Row.new4 (w : World) (X Y Z V : Obj) (l : List Value) (T : TypeId) : Row (((((w.alloc X).alloc Y).alloc Z).alloc V).alloc (.cells l.toArray T)) (w.heap.size + 1 + 1 + 1 + 1) T l := by
  have h := Row.new ((((w.alloc X).alloc Y).alloc Z).alloc V) l T
  rwa [show ((((w.alloc X).alloc Y).alloc Z).alloc V).heap.size = w.heap.size + 1 + 1 + 1 + 1 by simp] at h
theorem Below.alloc5 (w : World) (X Y Z V U : Obj) : Below w.heap.size w (((((w.alloc X).alloc Y).alloc Z).alloc V).alloc U) := (Below.alloc4 w X Y Z V).alloc (by simp; omega) _
theorem Below.alloc1 (w : World) (X : Obj) : Below w.heap.size w (w.alloc X) := (Below.refl _ _).alloc (Nat.le_refl _) _
/-- A part of a row. -/
theorem Row.part {w : World} {g : Nat} {T : TypeId} {l : List Value} (h : Row w g T l) (off : Nat) (cs : List Value) (hp : ∀ j v, cs[j]? = some v → l[off + j]? = some v) (j : Nat) (v : Value) (hv : cs[j]? = some v) :
    w.cell? ((⟨g, off, none⟩ : Addr).add j) = some v := by
  have e : (⟨g, off, none⟩ : Addr).add j = ⟨g, off + j, none⟩ := by unfold Addr.add; split <;> simp_all
  rw [e]
  exact h.cell (hp j v hv)
theorem part0 {a b : List Value} (j : Nat) (v : Value) (h : a[j]? = some v) : (a ++ b)[0 + j]? = some v := by
  rw [Nat.zero_add, List.getElem?_append_left (List.getElem?_eq_some_iff.1 h).1]
  exact h
theorem part_skip {a b c : List Value} {n m : Nat} (hn : a.length = n) (h : ∀ j v, c[j]? = some v → b[m + j]? = some v) (j : Nat) (v : Value) (hv : c[j]? = some v) : (a ++ b)[(n + m) + j]? = some v := by
  rw [List.getElem?_append_right (by omega), hn, show n + m + j - n = m + j by omega]
  exact h j v hv
theorem pt_x (p : Pm) : ∀ j v, (EL p.x)[j]? = some v → (PL p)[0 + j]? = some v := part0
theorem pt_y (p : Pm) : ∀ j v, (EL p.y)[j]? = some v → (PL p)[5 + j]? = some v := part_skip (n := 5) (m := 0) rfl part0
theorem pt_z (p : Pm) : ∀ j v, (EL p.z)[j]? = some v → (PL p)[10 + j]? = some v := part_skip (n := 5) (m := 5) rfl (part_skip (n := 5) (m := 0) rfl part0)
theorem pt_t (p : Pm) : ∀ j v, (EL p.t)[j]? = some v → (PL p)[15 + j]? = some v := part_skip (n := 5) (m := 10) rfl (part_skip (n := 5) (m := 5) rfl (part_skip (n := 5) (m := 0) rfl (fun j v h => by rw [Nat.zero_add]; exact h)))
theorem fa_x (g : Nat) (w : World) : (Instr.fieldAt 58 (.pointer (some ⟨g, 0, none⟩)) 0).run Tryd.prog w = .ok (.pointer (some ⟨g, 0, none⟩)) w := by kernel_rfl
theorem fa_y (g : Nat) (w : World) : (Instr.fieldAt 58 (.pointer (some ⟨g, 0, none⟩)) 1).run Tryd.prog w = .ok (.pointer (some ⟨g, 5, none⟩)) w := by kernel_rfl
theorem fa_z (g : Nat) (w : World) : (Instr.fieldAt 58 (.pointer (some ⟨g, 0, none⟩)) 2).run Tryd.prog w = .ok (.pointer (some ⟨g, 10, none⟩)) w := by kernel_rfl
theorem fa_t (g : Nat) (w : World) : (Instr.fieldAt 58 (.pointer (some ⟨g, 0, none⟩)) 3).run Tryd.prog w = .ok (.pointer (some ⟨g, 15, none⟩)) w := by kernel_rfl

theorem Only.setRow {S : Nat → Prop} {w w' : World} {g : Nat} {cs : Array Value} (h : Only S w w') (hg : S g ∨ w.heap.size ≤ g) : Only S w (w'.setRow g cs) := by
  have hb : Below g w' (w'.setRow g cs) := below_setRow (Below.refl _ _) (Nat.le_refl _) _
  refine h.trans (T := fun k => k = g) ⟨hb.os, hb.tape, hb.output, hb.size, fun k hk hn => setRow_other w' g k _ hn⟩ fun k hk e => ?_
  subst e
  rcases hg with hg | hg
  · exact hg
  · omega
/-- A drawn region that stores one row into an old block, where other values may be taken before or after. -/
theorem wp_old_one {P : Program} {ops : Array Oper} {Q : Exit → Act → World → Prop} {id : Nat} {W : World} {vs : List (Nat × Value)} {a0 aD : Act} {s g : Nat} {os : Oper} {L T : TypeId} {z c : List Value} {x y : Operand} (hm : P.follows .mixedOrders = true)
    (hD : Dets P ops (fun w' => Only (fun k => k = g) W w') vs a0 aD)
    (hk : (detsOk ops [] (vs.map (·.1)) && allocsOk ops [] && coverOk ops (vs.map (·.1) ++ []) [s] && dstsIn ops a0.tmps.size && Region.noSelect ops && nodupOk [s]) = true)
    (hos : ops[s]? = some os) (hgd : os.guard = none) (hst : os.op = .store L x y) (hdn : os.dst = none) (hx : aD.eval x = .pointer (some ⟨g, 0, none⟩)) (hy : aD.eval y = .agg c.toArray)
    (hr : Row W g T z) (hi : (P.info? L).map (·.size) = some c.toArray.size) (hsz : z.toArray.size = c.toArray.size) (h1 : c.toArray.all (·.oneCell') = true)
    (hend : ∀ w, Only (fun k => k = g) W w → Row w g T c → Q .normal aD w) : (Code.region id ops true).wp P Q a0 W := by
  refine wp_vars (B := W.heap.size) (vars := [⟨none, g, T, z, c, s⟩]) hm ((Only.refl _ W).drew) hD ?_ ?_ hk ?_ ?_ (fun w h => h.size) ?_ ?_ ?_
  · intro v hv k hk'
    obtain rfl := List.mem_singleton.1 hv
    cases hk'
  · intro v hv
    obtain rfl := List.mem_singleton.1 hv
    exact ⟨os, L, x, y, hos, hgd, hdn, hst, fun _ => hx, fun _ => hy, hi, hsz, h1⟩
  · intro w w' h hb
    exact h.trans (Only.of_below hb (fun _ => False)) (fun _ _ f => f.elim)
  · intro w g' cs h hg
    refine h.setRow ?_
    rcases hg with hg | ⟨v, hv, _, he⟩
    · exact .inr hg
    · obtain rfl := List.mem_singleton.1 hv
      exact .inl he.symm
  · intro v hv v' hv' _ _ hne
    obtain rfl := List.mem_singleton.1 hv
    obtain rfl := List.mem_singleton.1 hv'
    exact absurd rfl hne
  · intro v hv _
    obtain rfl := List.mem_singleton.1 hv
    exact hr
  · intro gs w hS _ hrows _
    exact hend w hS (hrows ⟨none, g, T, z, c, s⟩ (by simp))

/-- The numbers in the tables. -/
def dN : Nat := 37095705934669439343138083508754565189542113879843219016388785533085940283555
def bxN : Nat := 15112221349535400772501151409588531511454012693041857206046113283949847762202
def byN : Nat := 46316835694926478169428394003475163141307993866256225615783033603165251855960
/-- A table of 32 bytes. -/
def Tb (g N : Nat) (w : World) : Prop := ∃ T, w.heap[g]? = some (.cells (By N 32).toArray T (0, 0))
theorem Tb.belowAll {g N : Nat} {w w' : World} (h : Tb g N w) (hb : Below w.heap.size w w') : Tb g N w' := by
  obtain ⟨t, h⟩ := h
  exact ⟨t, (hb.block _ (Array.getElem?_eq_some_iff.1 h).1).trans h⟩
structure Ge (w : World) : Prop where
  en : En w
theorem Ge.belowAll {w w' : World} (h : Ge w) (hb : Below w.heap.size w w') : Ge w' := ⟨h.en.belowAll hb⟩
/-- The tables that sums and multiples read. -/
structure Gc (w : World) : Prop where
  gl : Ge w
  d : Tb 2 dN w
  x : Tb 3 bxN w
  y : Tb 4 byN w
/-- And that of roots besides. -/
structure Gx (w : World) : Prop where
  gl : Gl w
  d : Tb 2 dN w
  x : Tb 3 bxN w
  y : Tb 4 byN w
theorem Gx.gc {w : World} (h : Gx w) : Gc w := ⟨⟨h.gl.en⟩, h.d, h.x, h.y⟩
theorem Gx.belowAll {w w' : World} (h : Gx w) (hb : Below w.heap.size w w') : Gx w' := ⟨h.gl.belowAll hb, h.d.belowAll hb, h.x.belowAll hb, h.y.belowAll hb⟩
instance {w : World} : Coe (Gx w) (Gc w) := ⟨Gx.gc⟩
theorem Gc.belowAll {w w' : World} (h : Gc w) (hb : Below w.heap.size w w') : Gc w' := ⟨h.gl.belowAll hb, h.d.belowAll hb, h.x.belowAll hb, h.y.belowAll hb⟩
def dL : Lm := ofB dN
theorem dL_ok : dL.ok := ofB_ok _

/-- What the program's functions make. -/
def atP (x y : Lm) : Pm := ⟨x, y, smL 1, mulL x y⟩
def quP (x u y v : Lm) : Pm := ⟨mulL x v, mulL y u, mulL u v, mulL x y⟩
def ze1 : Pm := atP (smL 0) (smL 1)
def baP : Pm := atP (ofB bxN) (ofB byN)
def ngP (p : Pm) : Pm := ⟨negL p.x, p.y, p.z, negL p.t⟩
def plA (p q : Pm) : Lm := mulL (addL p.y p.x) (addL q.y q.x)
def miA (p q : Pm) : Lm := mulL (subL p.y p.x) (subL q.y q.x)
def onA (p q : Pm) : Lm := addL (mulL p.z q.z) (mulL p.z q.z)
def moA (p q : Pm) : Lm := addL (mulL (mulL p.t q.t) dL) (mulL (mulL p.t q.t) dL)
def adP (p q : Pm) : Pm := quP (subL (plA p q) (miA p q)) (addL (onA p q) (moA p q)) (addL (plA p q) (miA p q)) (subL (onA p q) (moA p q))
def unD (p : Pm) : Lm := subL (mulL p.y p.y) (mulL p.x p.x)
def doP (p : Pm) : Pm := quP (addL (mulL p.x p.y) (mulL p.x p.y)) (unD p) (addL (mulL p.y p.y) (mulL p.x p.x)) (subL (addL (mulL p.z p.z) (mulL p.z p.z)) (unD p))
theorem sm_ok0 : (smL 0).ok := smL_ok (by decide)
theorem sm_ok1 : (smL 1).ok := smL_ok (by decide)
theorem atP_ok {x y : Lm} (hx : x.ok) (hy : y.ok) : (atP x y).ok := ⟨hx, hy, sm_ok1, mulL_ok hx hy⟩
theorem quP_ok {x u y v : Lm} (hx : x.ok) (hu : u.ok) (hy : y.ok) (hv : v.ok) : (quP x u y v).ok := ⟨mulL_ok hx hv, mulL_ok hy hu, mulL_ok hu hv, mulL_ok hx hy⟩
theorem ze1_ok : ze1.ok := atP_ok sm_ok0 sm_ok1
theorem baP_ok : baP.ok := atP_ok (ofB_ok _) (ofB_ok _)
theorem ngP_ok {p : Pm} (h : p.ok) : (ngP p).ok := ⟨negL_ok _, h.y, h.z, negL_ok _⟩
theorem plA_ok {p q : Pm} (h : p.ok) (k : q.ok) : (plA p q).ok := mulL_ok (addL_ok h.y h.x) (addL_ok k.y k.x)
theorem miA_ok {p q : Pm} (h : p.ok) (k : q.ok) : (miA p q).ok := mulL_ok (subL_ok h.y) (subL_ok k.y)
theorem onA_ok {p q : Pm} (h : p.ok) (k : q.ok) : (onA p q).ok := addL_ok (mulL_ok h.z k.z) (mulL_ok h.z k.z)
theorem moA_ok {p q : Pm} (h : p.ok) (k : q.ok) : (moA p q).ok := addL_ok (mulL_ok (mulL_ok h.t k.t) dL_ok) (mulL_ok (mulL_ok h.t k.t) dL_ok)
theorem adP_ok {p q : Pm} (h : p.ok) (k : q.ok) : (adP p q).ok := quP_ok (subL_ok (plA_ok h k)) (addL_ok (onA_ok h k) (moA_ok h k)) (addL_ok (plA_ok h k) (miA_ok h k)) (subL_ok (onA_ok h k))
theorem unD_ok {p : Pm} (h : p.ok) : (unD p).ok := subL_ok (mulL_ok h.y h.y)
theorem doP_ok {p : Pm} (h : p.ok) : (doP p).ok := quP_ok (addL_ok (mulL_ok h.x h.y) (mulL_ok h.x h.y)) (unD_ok h) (addL_ok (mulL_ok h.y h.y) (mulL_ok h.x h.x)) (subL_ok (addL_ok (mulL_ok h.z h.z) (mulL_ok h.z h.z)))

end Go.Proofs.YthpbipebpaeagaaDoor
