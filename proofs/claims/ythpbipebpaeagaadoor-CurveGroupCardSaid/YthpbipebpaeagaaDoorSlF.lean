/- A slice of arrays of bytes, and bytes, that came in, as arguments; such arrays loaded at any address. -/
import Derived.Test.YthpbipebpaeagaaDoorArgF
import Derived.Test.YthpbipebpaeagaaDoorGives
import Derived.Test.YthpbipebpaeagaaDoorRows
import Derived.Deep.Slices
import Derived.Laws.BitsAllLaws
import Derived.Deep.CutRange
import Derived.Deep.CutBlock
import Derived.RegionTactic
import Derived.Lib.Hide
import Derived.IntWalk
import Derived.WalkKit
import Derived.ProofKit
import Derived.OpenShut
import Derived.ShutString
import Derived.ChangeOld
namespace Go.Proofs.YthpbipebpaeagaaDoor
section
set_option maxRecDepth 100000
open Go.RowKit

open Go.ChangeShapes Go.WideShapes
/-- The variable at any address is read. -/
theorem run_loadVar_at {P : Program} (w : World) (a : Addr) (ty : TypeId) (cs : List Value) (d : TypeDesc) (hc : ∀ j v, cs[j]? = some v → w.cell? (a.add j) = some v)
    (hu : P.underlying ty = some d) (hd : d.isRow = true) (hi : (P.info? ty).map (·.size) = some cs.length) : (loadVar ty a).run P w = .ok (.agg cs.toArray) w := by
  have hl : (loadCells a cs.length).run P w = .ok cs.toArray w := run_loadCells_list (P := P) w a cs hc
  cases hq : P.info? ty with
  | none => simp [hq] at hi
  | some i =>
    have hs : i.size = cs.length := by simpa [hq] using hi
    have hagg : (isAgg ty).run P w = .ok true w := by
      unfold isAgg
      rw [Sem.run_bind, run_underlying hu w]
      cases d <;> simp_all
    simp [loadVar, Sem.run_bind, hagg, sizeOf, typeInfo, hq, hs, hl]
theorem wpList_load_at {P : Program} {ops : Array Oper} {rest : List Oper} {op : Oper} {a : Act} {w : World} {Q : Exit → Act → World → Prop} (hgd : op.guard = none) (ty : TypeId) (x : Operand) (ho : op.op = .load ty x)
    (ad : Addr) (hx : a.eval x = .pointer (some ad)) (cs : List Value) (d : TypeDesc) (hc : ∀ j v, cs[j]? = some v → w.cell? (ad.add j) = some v)
    (hu : P.underlying ty = some d) (hd : d.isRow = true) (hi : (P.info? ty).map (·.size) = some cs.length)
    (h : wpList P ops Q rest (a.put op.dst (.agg cs.toArray)) w) : wpList P ops Q (op :: rest) a w :=
  wpList_plain hgd fun _ hK => by
    unfold Oper.wp execOp
    simp only [ho, hx, Instr.loadAt, Instr.sureAddr, Sem.run_bind, Sem.run_pure, Result.andThen_ok, run_loadVar_at w ad ty cs d hc hu hd hi]
    exact hK _ _ h
theorem yieldsIf_load_at {P : Program} {ops : Array Oper} {S : World → Prop} {op : Oper} {a : Act} (hw : Region.wanted op (yielded ops a.tmps) = true) (ty : TypeId) (x : Operand) (ho : op.op = .load ty x)
    (ad : Addr) (hx : a.eval x = .pointer (some ad)) (cs : List Value) (d : TypeDesc) (hS : ∀ w, S w → ∀ j v, cs[j]? = some v → w.cell? (ad.add j) = some v)
    (hu : P.underlying ty = some d) (hd : d.isRow = true) (hi : (P.info? ty).map (·.size) = some cs.length) : YieldsIf P ops S op (.agg cs.toArray) a :=
  .inl ⟨hw, fun w hw' => by
    unfold execOp
    simp only [ho, hx, Instr.loadAt, Instr.sureAddr, Sem.run_bind, Sem.run_pure, Result.andThen_ok, run_loadVar_at w ad ty cs d (hS w hw') hu hd hi]⟩

/-- A slice of numbers' bytes, wherever it lies. -/
def RdA (w : World) (A : Option Addr) (n : Nat) (l : List Nat) : Prop :=
  l.length = n ∧ (∀ N ∈ l, N < 256 ^ 32) ∧ (0 < n → ∃ ad, A = some ad ∧ ad.block < w.heap.size ∧ ∀ (k N : Nat), l[k]? = some N → ∀ j v, (By N 32)[j]? = some v → w.cell? ((ad.add (k * 32)).add j) = some v)
theorem RdA.below {w w' : World} {A : Option Addr} {n : Nat} {l : List Nat} (h : RdA w A n l) {B : Nat} (hB : w.heap.size ≤ B) (hb : Below B w w') : RdA w' A n l :=
  ⟨h.1, h.2.1, fun hn => by
    obtain ⟨ad, e, hl, hc⟩ := h.2.2 hn
    exact ⟨ad, e, Nat.lt_of_lt_of_le hl hb.size, fun k N hN j v hv => (hb.cell (p := (ad.add (k * 32)).add j) (by rw [add_block, add_block]; omega)).trans (hc k N hN j v hv)⟩⟩

section
variable {H : Type} {enc : TypeId × Value → H} {P : Program} {t e : TypeId} {n : Nat} {q : IntKind} {W : World} {base : Nat} {sp : Nat → Bool} {held : Bool}
theorem open_ints_cells (hu : P.underlying t = some (.array n e)) (he : P.underlying e = some (.int q)) (hc : P.cellsOf e = 1) (hs : P.cellsOf t = n) {fuel : Nat} {cs : List Value} (hn : cs.length = n)
    {x : DataW H × List MemPlace} (hf : DataW.trod enc P W base sp held fuel t cs = some x) : ∃ zs : List Int, cs = zs.map (Value.int q) ∧ zs.length = n ∧ ∀ z ∈ zs, (Lit.int q z).wf = true := by
  cases fuel with
  | zero => simp [DataW.trod] at hf
  | succ m =>
    rw [DataW.trod_step] at hf
    unfold DataW.trodStep at hf
    simp only [hu] at hf
    rw [if_pos (by rw [hs]; simpa using hn)] at hf
    simp only [Option.map_eq_some_iff] at hf
    obtain ⟨ys, hy, _⟩ := hf
    rw [hc] at hy
    obtain ⟨zs, rfl, hw, hl⟩ := trod_each he _ ys hy
    have hlen : zs.length = n := by
      have := congrArg List.length hl
      simpa using this.symm
    refine ⟨zs, ?_, hlen, hw⟩
    refine List.ext_getElem? fun i => ?_
    by_cases hi : i < n
    · have h1 := congrArg (fun l : List (List Value) => l[i]?) hl
      simp only [List.getElem?_map, List.getElem?_range hi, Option.map_some, Nat.mul_one] at h1
      have h2 : i < zs.length := by omega
      have h3 : i < cs.length := by omega
      rw [List.getElem?_eq_getElem h2, Option.map_some] at h1
      have h4 := Option.some.inj h1
      rw [List.drop_eq_getElem_cons h3, List.take_succ_cons, List.take_zero] at h4
      rw [List.getElem?_map, List.getElem?_eq_getElem h2, List.getElem?_eq_getElem h3, (List.cons.inj h4).1]
      rfl
    · rw [List.getElem?_eq_none (by omega), List.getElem?_eq_none (by rw [List.length_map]; omega)]
end
theorem cells_get {w : World} {base : Nat} {a : Addr} {n : Nat} {cs : List Value} (h : w.cells? base a n = some cs) : cs.length = n ∧ ∀ j v, cs[j]? = some v → w.cell? (a.add j) = some v := by
  unfold World.cells? at h
  split at h
  · have hm : ∀ (L : List Nat) (cs : List Value), L.mapM (fun i => w.cell? (a.add i)) = some cs → cs.length = L.length ∧ ∀ (j : Nat) (v : Value), cs[j]? = some v → ∃ i : Nat, L[j]? = some i ∧ w.cell? (a.add i) = some v := by
      intro L
      induction L with
      | nil => intro cs h; simp at h; subst h; exact ⟨rfl, fun j v hv => by simp at hv⟩
      | cons i L ih =>
        intro cs h
        rw [List.mapM_cons] at h
        simp only [bind, Option.bind_eq_some_iff, pure, Option.some.injEq] at h
        obtain ⟨y, hy, ys, hys, rfl⟩ := h
        obtain ⟨h1, h2⟩ := ih ys hys
        refine ⟨by simp [h1], fun j v hv => ?_⟩
        cases j with
        | zero => simp at hv; subst hv; exact ⟨i, rfl, hy⟩
        | succ j => simpa using h2 j v (by simpa using hv)
    obtain ⟨h1, h2⟩ := hm _ _ h
    refine ⟨by simpa using h1, fun j v hv => ?_⟩
    obtain ⟨i, hi, hc⟩ := h2 j v hv
    have hj : j < n := by
      have := (List.getElem?_eq_some_iff.1 hi).1
      simpa using this
    rw [List.getElem?_range hj] at hi
    cases hi
    exact hc
  · cases h
/-- An argument of that type. -/
theorem open_arrs {H : Type} {enc : TypeId × Value → H} {w : World} {base : Nat} {spare : Nat → Bool} {held : Bool} {v : Value} {fuel : Nat} {x : DataW H × List MemPlace} (h : DataW.trod enc Tryd.prog w base spare held fuel 44 [v] = some x) :
    ∃ A n cap l, v = .slice A n cap ∧ RdA w A n l ∧ n ≤ cap ∧ cap ≤ maxLen := by
  rcases Go.Deep.open_slice Tryd.underlying44 h with ⟨hcs, _⟩ | ⟨a, len, cap, m, fu, D, Pl, hcs, _, hl, hm, hmm, _, hx⟩
  · obtain rfl : v = .slice none 0 0 := by simpa using hcs
    exact ⟨none, 0, 0, [], rfl, ⟨rfl, by simp, fun h => absurd h (by omega)⟩, Nat.le_refl _, Nat.zero_le _⟩
  · obtain rfl : v = .slice (some a) len cap := by simpa using hcs
    have hml : len ≤ m := by rw [hmm]; split <;> omega
    have hc32 : Tryd.prog.cellsOf 22 = 32 := by kernel_rfl
    rw [hc32] at hx
    have each : ∀ i, i < len → ∃ N : Nat, N < 256 ^ 32 ∧ ∀ j v, (By N 32)[j]? = some v → w.cell? ((a.add (i * 32)).add j) = some v := by
      intro i hi
      obtain ⟨cs', h1, h2⟩ := hx i (by omega)
      obtain ⟨h3, h4⟩ := cells_get h1
      obtain ⟨zs, rfl, h5, h6⟩ := open_ints_cells Tryd.underlying22 Tryd.underlying5 (by kernel_rfl) hc32 h3 h2
      obtain ⟨N, hN, e⟩ := arr_by h5 h6
      exact ⟨N, hN, fun j v hv => h4 j v (by rw [e]; exact hv)⟩
    obtain ⟨f, hf⟩ := Go.Deep.choose_lt each
    refine ⟨some a, len, cap, (List.range len).map f, rfl, ⟨by simp, ?_, fun hn => ⟨a, rfl, ?_, fun k N hN j v hv => ?_⟩⟩, hl, hm⟩
    · intro N hN
      obtain ⟨i, hi, rfl⟩ := List.mem_map.1 hN
      exact (hf i (List.mem_range.1 hi)).1
    · have hg := (hf 0 hn).2 0 _ (By_get _ 32 (by decide))
      have := lt_of_cell hg
      rwa [add_block, add_block] at this
    · have hk : k < len := by
        have := (List.getElem?_eq_some_iff.1 hN).1
        simpa using this
      obtain rfl : f k = N := by simpa [hk] using hN
      exact (hf k hk).2 j v hv
end
section
open Go.RowKit

theorem toNat_low {m : Nat} (h : m < 256) : (UInt8.ofNat m).toNat = m := by rw [UInt8.toNat_ofNat', Nat.mod_eq_of_lt (by simpa using h)]
/-- A slice of bytes that came in: nil, or a row of cap cells. -/
def IsRow (k : IntKind) (w : World) (a : Option Addr) (len cap : Nat) (zs : List Int) : Prop :=
  (a = none ∧ len = 0 ∧ cap = 0 ∧ zs = []) ∨
  ∃ x, a = some x ∧ len ≤ cap ∧ cap ≤ maxLen ∧ zs.length = cap ∧ (∀ i, i < zs.length → w.cell? (x.add i) = some (.int k (zs.getD i 0))) ∧ ∀ n ∈ zs, (Lit.int k n).wf = true

theorem u8_range {n : Int} (h : (Lit.int .u8 n).wf = true) : 0 ≤ n ∧ n ≤ 255 := by
  have := bounds_u8 h
  omega

theorem row_rd {w : World} {a : Option Addr} {len cap : Nat} {zs : List Int} (h : IsRow .u8 w a len cap zs) :
    ∃ k : List UInt8, Rd w (fun j => j < w.heap.size) a len (Bs k) ∧ len ≤ cap ∧ cap ≤ maxLen := by
  rcases h with ⟨rfl, rfl, rfl, rfl⟩ | ⟨x, rfl, h1, h2, h3, h4, h5⟩
  · exact ⟨[], Rd.nil _ _ _, Nat.le_refl _, by unfold maxLen; omega⟩
  · refine ⟨(zs.take len).map fun n => UInt8.ofNat n.toNat, ⟨by simp [Bs]; omega, fun hn => ?_⟩, h1, h2⟩
    have hb : x.block < w.heap.size := by
      have := h4 0 (by omega)
      have := lt_of_cell this
      rwa [add_block] at this
    refine ⟨x, rfl, hb, hb, fun j u hu => ?_⟩
    have hj : j < len := by
      have := (List.getElem?_eq_some_iff.1 hu).1
      simp [Bs] at this
      omega
    have hz : zs[j]? = some (zs.getD j 0) := by rw [List.getD, List.getElem?_eq_getElem (by omega)]; rfl
    rw [h4 j (by omega), ← hu]
    have hr := u8_range (h5 _ (List.mem_of_getElem? hz))
    rw [Bs_get, List.getElem?_map, List.getElem?_take, if_pos hj, hz]
    simp only [Option.map_some]
    rw [toNat_low (by omega)]
    congr 2
    omega

/-- Bytes, as numbers. -/
theorem bs_nat (k : List UInt8) : Bs k = (k.map UInt8.toNat).map fun x => .int .u8 ((x : Nat) : Int) := by simp [Bs]
theorem bs_lt (k : List UInt8) : ∀ x ∈ k.map UInt8.toNat, x < 256 := by
  intro x hx
  obtain ⟨c, _, rfl⟩ := List.mem_map.1 hx
  exact UInt8.toNat_lt c
end

theorem Gives.load_at {P : Program} {S : World → Prop} {o : Oper} {a : Act} (ty : TypeId) (x : Operand) (ho : o.op = .load ty x) (ad : Addr) (hx : a.eval x = .pointer (some ad)) (cs : List Value) (d : TypeDesc) (hS : ∀ w, S w → ∀ j v, cs[j]? = some v → w.cell? (ad.add j) = some v)
    (hu : P.underlying ty = some d) (hd : d.isRow = true) (hi : (P.info? ty).map (·.size) = some cs.length) : Gives P S o (.agg cs.toArray) a :=
  Gives.load ty x ho (.pointer (some ad)) _ hx fun w hw => by
    simp only [Instr.loadAt, Instr.sureAddr, Sem.run_bind, Sem.run_pure, Result.andThen_ok, run_loadVar_at w ad ty cs d (hS w hw) hu hd hi]

end Go.Proofs.YthpbipebpaeagaaDoor
