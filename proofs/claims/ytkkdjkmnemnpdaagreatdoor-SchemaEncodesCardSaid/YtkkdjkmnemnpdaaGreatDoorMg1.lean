/- Words for memory over any program: a slice that reads as a list of cells, what a call may write, an append onto a row of the call's own. Nothing here names a dump. errors.As at a plain number, and what the statements' own Code tells of one; for any number. What the rows' list gives a walk: the cell of the variable that holds the type of errors; and a world that meets it. Values and schemas as trees: what their cells say, however deep they are; what a row's reading of an argument gives. What is right, how deep it is, what fits, what the default is: plain functions on trees; nothing of a program. Numbers as digits of seven bits: the bytes of a number, and the number that bytes begin with. Plain mathematics. A schema's bytes, as a list; how many there may be. Arrays of integers as rows of cells: over any program. Walking over trees: a place in a slice of rows, a row loaded from any place; the program's and the document's depth. -/
import Derived.WalkKit
import Derived.WalkSpells
import Derived.WalkLawsBesides
import Derived.Maps.AppendAt
import Derived.Deep.Draws
import Derived.Deep.AppendLies
import Derived.Lib.Hide
import Derived.Test.YtkkdjkmnemnpdaaGreatDoorRows
import Derived.RowKitTokens
import Derived.Deep.LoopGhost
import Derived.Stop.Asserts
import Derived.Test.YtkkdjkmnemnpdaaGreatDoorCards
import Derived.Test.YtkkdjkmnemnpdaaGreatDoorTie
import Derived.ProofKit
import Derived.OpenShut
import Derived.Deep.DeepHandedRow
import Derived.LaidLaws
import Derived.LaidHandle
import Derived.ChangeSame
import Derived.Deep.Strs
import Derived.SliceStrings
import Derived.ChangeSlices
import GoSem.Op.String
import Derived.Laws.Rows
import Derived.Laws.Tables
import Derived.Laws.CopyOwn
import Derived.Below
import Derived.Deep.Slices
import Derived.Laws.BitsAllLaws
import Derived.Deep.CutRange
import Derived.Deep.CutBlock
import Derived.RegionTactic
import Derived.IntWalk
namespace Go.Proofs.YtkkdjkmnemnpdaaGreatDoor
section
open Go.RowKit

/-- Nothing but blocks in S (and new ones) differs. -/
structure Only (S : Nat → Prop) (w w' : World) : Prop where
  os : w'.os = w.os
  tape : w'.tape = w.tape
  output : w'.output = w.output
  size : w.heap.size ≤ w'.heap.size
  block : ∀ k, k < w.heap.size → ¬ S k → w'.heap[k]? = w.heap[k]?

section
variable {S T : Nat → Prop} {w w' w'' : World}
theorem Only.refl (S : Nat → Prop) (w : World) : Only S w w := ⟨rfl, rfl, rfl, Nat.le_refl _, fun _ _ _ => rfl⟩
theorem Only.trans (h : Only S w w') (h' : Only T w' w'') (hT : ∀ k, k < w.heap.size → T k → S k) : Only S w w'' :=
  ⟨h'.os.trans h.os, h'.tape.trans h.tape, h'.output.trans h.output, Nat.le_trans h.size h'.size,
    fun k hk hS => (h'.block k (Nat.lt_of_lt_of_le hk h.size) (fun t => hS (hT k hk t))).trans (h.block k hk hS)⟩
theorem Only.mono (h : Only S w w') (hT : ∀ k, k < w.heap.size → S k → T k) : Only T w w' :=
  ⟨h.os, h.tape, h.output, h.size, fun k hk hn => h.block k hk (fun s => hn (hT k hk s))⟩
theorem Only.of_below (h : Below w.heap.size w w') (S : Nat → Prop) : Only S w w' := ⟨h.os, h.tape, h.output, h.size, fun k hk _ => h.block k hk⟩
theorem Only.below (h : Only S w w') {B : Nat} (hB : B ≤ w.heap.size) (hS : ∀ k, S k → B ≤ k) : Below B w w' :=
  ⟨h.os, h.tape, h.output, h.size, fun k hk => h.block k (by omega) (fun s => by have := hS k s; omega)⟩
theorem Only.alloc (h : Only S w w') (o : Obj) : Only S w (w'.alloc o) :=
  h.trans (T := fun _ => False) ⟨rfl, rfl, rfl, by simp, fun k hk _ => Below.heap_alloc _ _ _ hk⟩ (fun _ _ f => f.elim)
theorem Only.drew (h : Only S w w') : Only S w w'.drew := ⟨h.os, h.tape, h.output, h.size, h.block⟩
theorem Only.drewN (h : Only S w w') (n : Nat) : Only S w (w'.drewN n) := ⟨h.os, h.tape, h.output, h.size, h.block⟩
theorem Only.setCell (h : Only S w w') {p : Addr} (hp : S p.block ∨ w.heap.size ≤ p.block) (u : Value) : Only S w (w'.setCell p u) :=
  h.trans (T := fun k => k = p.block) ⟨rfl, rfl, rfl, by simp, fun k hk hn => Below.heap_setCell _ _ _ _ hn⟩
    (fun k hk e => by subst e; rcases hp with hp | hp; exact hp; omega)
theorem Only.grown {row : Option Nat} (h : Only S w w') (hg : w'.grownBy w'' row) (hr : ∀ k, row = some k → S k ∨ w.heap.size ≤ k) : Only S w w'' :=
  h.trans (T := fun k => row = some k) ⟨hg.os, hg.tape, hg.output, hg.size, fun k hk hn => hg.block k hk (fun e => hn e.symm)⟩
    (fun k hk e => by rcases hr k e with hp | hp; exact hp; omega)
theorem Only.cell (h : Only S w w') {a : Addr} (hs : ¬ S a.block) (hl : a.block < w.heap.size) : w'.cell? a = w.cell? a := World.cell?_of_block (h.block _ hl hs)
theorem Only.frozen (h : Only S w w') {a : Addr} (hs : ¬ S a.block) (hl : a.block < w.heap.size) : w'.frozen? a = w.frozen? a := World.frozen?_of_block (h.block _ hl hs)
theorem lt_of_cell {a : Addr} {v : Value} (h : w.cell? a = some v) : a.block < w.heap.size := block_lt_of_cell h
end

theorem add_block (a : Addr) (n : Nat) : (a.add n).block = a.block := by unfold Addr.add; split <;> rfl
theorem add_add (a : Addr) (i j : Nat) : (a.add i).add j = a.add (i + j) := by
  unfold Addr.add
  by_cases hi : i = 0 <;> by_cases hj : j = 0 <;> simp [hi, hj, Nat.add_assoc]

/-- The slice at 'a' with n elements of one cell reads as xs; its block is in F. -/
def Rd (w : World) (F : Nat → Prop) (a : Option Addr) (n : Nat) (xs : List Value) : Prop :=
  xs.length = n ∧ (0 < n → ∃ ad, a = some ad ∧ F ad.block ∧ ad.block < w.heap.size ∧ ∀ j u, xs[j]? = some u → w.cell? (ad.add j) = some u)

section
variable {w w' : World} {F S : Nat → Prop} {a : Option Addr} {n : Nat} {xs : List Value}
theorem Rd.at_ {k : Nat} (h : Rd w F a n xs) (hk : k < n) : ∃ ad u, a = some ad ∧ ad.block < w.heap.size ∧ xs[k]? = some u ∧ w.cell? (ad.add k) = some u := by
  obtain ⟨ad, e, _, hb, hc⟩ := h.2 (by omega)
  have hl : k < xs.length := by have := h.1; omega
  exact ⟨ad, xs[k], e, hb, List.getElem?_eq_getElem hl, hc k _ (List.getElem?_eq_getElem hl)⟩
theorem Rd.keep (h : Rd w F a n xs) (hs : w.heap.size ≤ w'.heap.size) (hk : ∀ k, F k → k < w.heap.size → w'.heap[k]? = w.heap[k]?) : Rd w' F a n xs :=
  ⟨h.1, fun hn => by
    obtain ⟨ad, e, hF, hb, hc⟩ := h.2 hn
    exact ⟨ad, e, hF, by omega, fun j u hu => (World.cell?_of_block (by rw [add_block]; exact hk _ hF hb)).trans (hc j u hu)⟩⟩
theorem Rd.only (h : Rd w F a n xs) (ho : Only S w w') (hd : ∀ k, F k → ¬ S k) : Rd w' F a n xs := h.keep ho.size fun k hF hk => ho.block k hk (hd k hF)
theorem Rd.below (h : Rd w F a n xs) {B : Nat} (hb : Below B w w') (hF : ∀ k, k < w.heap.size → F k → k < B) : Rd w' F a n xs := h.keep hb.size fun k hk hl => hb.block k (hF k hl hk)
theorem Rd.belowAll (h : Rd w F a n xs) (hb : Below w.heap.size w w') : Rd w' F a n xs := h.keep hb.size fun k _ hl => hb.block k hl
theorem Rd.mono (h : Rd w F a n xs) {G : Nat → Prop} (hG : ∀ k, k < w.heap.size → F k → G k) : Rd w G a n xs :=
  ⟨h.1, fun hn => by
    obtain ⟨ad, e, hF, hb, hc⟩ := h.2 hn
    exact ⟨ad, e, hG _ hb hF, hb, hc⟩⟩
theorem Rd.nil (w : World) (F : Nat → Prop) (a : Option Addr) : Rd w F a 0 [] := ⟨rfl, fun h => absurd h (by omega)⟩
theorem Rd.of_own {base : Nat} {e : TypeId} {c : Nat} (h : w.ownsRow base e 1 (.slice a n c) n xs) : Rd w (fun k => (Value.slice a n c).ownBlock = some k) a n xs := by
  refine ⟨by simpa using h.1, fun hn => ?_⟩
  obtain ⟨g, cap, hv, _, hlt⟩ := h.form hn
  have ha : a = some ⟨g, 0, none⟩ := by injection hv
  subst ha
  exact ⟨_, rfl, rfl, hlt, h.cells (g := g) rfl⟩
end

/-- Bytes as cells. -/
def Bs (l : List UInt8) : List Value := l.map fun c => .int .u8 (c.toNat : Int)
theorem Bs_length (l : List UInt8) : (Bs l).length = l.length := by simp [Bs]
theorem Bs_append (l m : List UInt8) : Bs (l ++ m) = Bs l ++ Bs m := by simp [Bs]
theorem Bs_get (l : List UInt8) (k : Nat) : (Bs l)[k]? = l[k]?.map fun c => .int .u8 (c.toNat : Int) := by simp [Bs]
theorem Bs_one (l : List UInt8) : ∀ u ∈ Bs l, u.oneCell' = true := by
  intro u hu
  simp only [Bs, List.mem_map] at hu
  obtain ⟨c, _, rfl⟩ := hu
  rfl

theorem Rd.byte {w : World} {F : Nat → Prop} {a : Option Addr} {n k : Nat} {l : List UInt8} (h : Rd w F a n (Bs l)) (hk : k < n) :
    ∃ ad c, a = some ad ∧ ad.block < w.heap.size ∧ l[k]? = some c ∧ w.cell? (ad.add k) = some (.int .u8 (c.toNat : Int)) := by
  obtain ⟨ad, u, e, hb, hu, hc⟩ := h.at_ hk
  rw [Bs_get] at hu
  cases hl : l[k]? with
  | none => rw [hl] at hu; cases hu
  | some c => rw [hl] at hu; cases hu; exact ⟨ad, c, e, hb, rfl, hc⟩
theorem Rd.len {w : World} {F : Nat → Prop} {a : Option Addr} {n : Nat} {l : List UInt8} (h : Rd w F a n (Bs l)) : l.length = n := by have := h.1; rwa [Bs_length] at this

theorem own_only {w w' : World} {S : Nat → Prop} {base : Nat} {e : TypeId} {size : Nat} {v : Value} {n : Nat} {xs : List Value} (h : w.ownsRow base e size v n xs) (ho : Only S w w') (hs : ∀ k, v.ownBlock = some k → ¬ S k) :
    w'.ownsRow base e size v n xs := by
  refine ⟨h.1, ?_⟩
  rcases h.2 with hn | ⟨g, cap, cur, rfl, hb, hg, r⟩
  · exact .inl hn
  · exact .inr ⟨g, cap, cur, rfl, hb, (ho.block g (Array.getElem?_eq_some_iff.1 hg).1 (hs g rfl)).trans hg, r⟩
theorem own_below {w w' : World} {base : Nat} {e : TypeId} {size : Nat} {v : Value} {n : Nat} {xs : List Value} (h : w.ownsRow base e size v n xs) (ho : Below w.heap.size w w') : w'.ownsRow base e size v n xs :=
  own_only h (Only.of_below ho (fun _ => False)) fun _ _ h => h
theorem own_base {w : World} {b b' : Nat} {e : TypeId} {size : Nat} {v : Value} {n : Nat} {xs : List Value} (h : w.ownsRow b e size v n xs) (hb : b' ≤ b) : w.ownsRow b' e size v n xs := by
  refine ⟨h.1, ?_⟩
  rcases h.2 with hn | ⟨g, cap, cur, rfl, hg, r⟩
  · exact .inl hn
  · exact .inr ⟨g, cap, cur, rfl, by omega, r⟩
theorem own_slice {w : World} {base : Nat} {e : TypeId} {v : Value} {n : Nat} {xs : List Value} (h : w.ownsRow base e 1 v n xs) : ∃ A c, v = .slice A n c := by
  rcases h.2 with ⟨rfl, rfl⟩ | ⟨g, cap, _, rfl, _⟩
  · exact ⟨_, _, rfl⟩
  · exact ⟨_, _, rfl⟩

theorem own_cap {w : World} {base : Nat} {e : TypeId} {A : Option Addr} {n c : Nat} {xs : List Value} (h : w.ownsRow base e 1 (.slice A n c) n xs) : xs.length ≤ c := by
  have h1 := h.1
  rcases h.2 with ⟨hv, rfl⟩ | ⟨g, cap, cur, hv, _, _, hn, _⟩
  · omega
  · injection hv with _ _ hc; omega
theorem own_cap_le {w : World} {base : Nat} {e : TypeId} {A : Option Addr} {n c : Nat} {xs : List Value} (h : w.ownsRow base e 1 (.slice A n c) n xs) : c ≤ maxLen := by
  rcases h.2 with ⟨hv, rfl⟩ | ⟨g, cap, cur, hv, _, _, _, hm, _⟩
  · injection hv with _ _ hc; subst hc; unfold maxLen; omega
  · injection hv with _ _ hc; omega

theorem Rd.lit (w : World) (xs : List Value) (cs : Array Value) (t : TypeId) (h : cs.toList = xs) (n : Nat) (hn : xs.length = n) : Rd (w.alloc (.cells cs t)) (fun k => k = w.heap.size) (some ⟨w.heap.size, 0, none⟩) n xs := by
  refine ⟨hn, fun _ => ⟨_, rfl, rfl, by simp, fun j u hu => ?_⟩⟩
  have e : (⟨w.heap.size, 0, none⟩ : Addr).add j = ⟨w.heap.size, j, none⟩ := by unfold Addr.add; split <;> simp_all
  rw [e, World.cell?_alloc_new, ← hu, ← h]
  simp

section
variable {P : Program} (w : World)

theorem append_nothing (base : Nat) (t ty e : TypeId) (i : TypeInfo) (ht : P.underlying t = some (.slice e)) (hi : P.info? e = some i)
    (v : Value) (n : Nat) (xs : List Value) (hown : w.ownsRow base e 1 v n xs) (c : Nat) : (Builtin.append_ #[t, t] ty #[v, .slice none 0 c]).run P w = .ok v w := by
  rcases hown.2 with ⟨rfl, rfl⟩ | ⟨g, cap, cur, rfl, _, _, hnc, _⟩
  · simp [Builtin.append_, run_underlying ht, sizeOf, typeInfo, hi, Builtin.lenOf, Builtin.firstCells]
  · simp [Builtin.append_, run_underlying ht, sizeOf, typeInfo, hi, Builtin.lenOf, Builtin.firstCells, hnc, storeCells]

/-- append onto a row of the call's own; the source may be nil or empty. -/
theorem append_rd (base : Nat) (t ty e : TypeId) (i : TypeInfo) (z : Value) (bytes : Nat) (ht : P.underlying t = some (.slice e)) (hi : P.info? e = some i) (hz : i.zero = some z)
    (hsize : i.size = 1) (hby : i.bytes = bytes) (hzs : z.cells.size = 1)
    (v : Value) (n : Nat) (xs : List Value) (hown : w.ownsRow base e 1 v n xs)
    (F : Nat → Prop) (a : Option Addr) (m c : Nat) (news : List Value) (hr : Rd w F a m news) (h1 : ∀ u ∈ news, u.oneCell' = true)
    (h63 : n + m ≤ maxLen) (hbytes : (n + m) * bytes ≤ 140737488355328) (hbase : base ≤ w.heap.size) :
    ∃ v' w', (Builtin.append_ #[t, t] ty #[v, .slice a m c]).run P w = .ok v' w' ∧ w'.ownsRow base e 1 v' (n + m) (xs ++ news) ∧ w.grownBy w' v.ownBlock ∧
      (v'.ownBlock = v.ownBlock ∨ v'.ownBlock = some w.heap.size) := by
  obtain ⟨hlen, hcells⟩ := hr
  by_cases hm : m = 0
  · subst hm
    obtain rfl : news = [] := List.eq_nil_of_length_eq_zero hlen
    rcases a with _ | ad
    · exact ⟨v, w, append_nothing w base t ty e i ht hi v n xs hown c, by simpa using hown, World.grownBy.refl w _, .inl rfl⟩
    · obtain ⟨v', w', hrun, h2, h3, _, h5⟩ := run_append_own_at (P := P) w base t ty e i z 1 bytes ht hi hz hsize hby hzs (by omega) v n xs hown ad 0 c [] rfl (by intro j u hu; simp at hu) h1 h63 hbytes hbase
      exact ⟨v', w', hrun, h2, h3, h5⟩
  · obtain ⟨ad, rfl, _, _, hc⟩ := hcells (by omega)
    obtain ⟨v', w', hrun, h2, h3, _, h5⟩ := run_append_own_at (P := P) w base t ty e i z 1 bytes ht hi hz hsize hby hzs (by omega) v n xs hown ad m c news (by omega) hc h1 h63 hbytes hbase
    exact ⟨v', w', hrun, h2, h3, h5⟩

theorem wpList_append_rd {ops : Array Oper} {rest : List Oper} {o : Oper} {a : Act} {Q : Exit → Act → World → Prop} (hgd : o.guard = none) (s x : Operand) (t : TypeId)
    (ho : o.op = .call { callee := .builtin .append, args := #[s, x], argTypes := #[t, t] })
    (base : Nat) (e : TypeId) (i : TypeInfo) (z : Value) (bytes : Nat) (ht : P.underlying t = some (.slice e)) (hi : P.info? e = some i) (hz : i.zero = some z)
    (hsize : i.size = 1) (hby : i.bytes = bytes) (hzs : z.cells.size = 1)
    (v : Value) (n : Nat) (xs : List Value) (hs : a.eval s = v) (hown : w.ownsRow base e 1 v n xs)
    (F : Nat → Prop) (A : Option Addr) (m c : Nat) (news : List Value) (hx : a.eval x = .slice A m c) (hr : Rd w F A m news) (h1 : ∀ u ∈ news, u.oneCell' = true)
    (h63 : n + m ≤ maxLen) (hbytes : (n + m) * bytes ≤ 140737488355328) (hbase : base ≤ w.heap.size)
    (h : ∀ v' w', w'.ownsRow base e 1 v' (n + m) (xs ++ news) → w.grownBy w' v.ownBlock → (v'.ownBlock = v.ownBlock ∨ v'.ownBlock = some w.heap.size) → wpList P ops Q rest (a.put o.dst v') w') : wpList P ops Q (o :: rest) a w := by
  refine wpList_plain hgd fun _ hK => ?_
  obtain ⟨v', w', hrun, h2, h3, h4⟩ := append_rd (P := P) w base t o.type e i z bytes ht hi hz hsize hby hzs v n xs hown F A m c news hr h1 h63 hbytes hbase
  unfold Oper.wp execOp
  simp only [ho, resolve, invoke, builtin, Sem.run_bind, Sem.run_pure, Result.andThen_ok, List.map_toArray, List.map_cons, List.map_nil, hs, hx, hrun]
  exact hK _ _ (h v' w' h2 h3 h4)
end
end

section
open Go.RowKit Go.Extern.Stop Go.Stop Go.Extern

theorem rf_valueE (t : Addr) (w : World) : (ReflectliteValue.unpack (.iface 54 (.pointer (some t)))).run Tryz.prog w
    = .ok (.agg #[.pointer (some ⟨1, 54, none⟩), .pointer (some ⟨w.heap.size, 0, none⟩), .int .u64 150]) (w.alloc (.cells #[.pointer (some t)] 54)) := by kernel_rfl
theorem rf_typeE (a : Addr) (w : World) : (ReflectliteValue.methodAny (ReflectliteValue.valueError "reflectlite.Value.Type" 0) (fun t _ _ _ => ReflectliteType.toType t) #[.agg #[.pointer (some ⟨1, 54, none⟩), .pointer (some a), .int .u64 150]]).run Tryz.prog w
    = .ok (.iface 87 (.agg #[.pointer (some ⟨1, 54, none⟩)])) w := by kernel_rfl
theorem rf_mkind (h : Value) (w : World) : (Go.method 267 87 (.agg #[h]) "Kind").run Tryz.prog w = .ok (99, h) w := by kernel_rfl
theorem rf_melem (h : Value) (w : World) : (Go.method 267 87 (.agg #[h]) "Elem").run Tryz.prog w = .ok (111, .agg #[h]) w := by kernel_rfl
theorem rf_mimpl (h : Value) (w : World) : (Go.method 267 87 (.agg #[h]) "Implements").run Tryz.prog w = .ok (112, .agg #[h]) w := by kernel_rfl
theorem rf_massign (h : Value) (w : World) : (Go.method 267 87 (.agg #[h]) "AssignableTo").run Tryz.prog w = .ok (109, .agg #[h]) w := by kernel_rfl
theorem rf_kind_pE (w : World) : ((ReflectliteType.abiMethod fun t => (fun a : Nat => Value.int IntKind.u8 (a : Int)) <$> Rtype.kind t) #[.pointer (some ⟨1, 54, none⟩)]).run Tryz.prog w = .ok (.int .u8 22) w := by kernel_rfl
theorem rf_kind_E (w : World) : ((ReflectliteType.abiMethod fun t => (fun a : Nat => Value.int IntKind.u8 (a : Int)) <$> Rtype.kind t) #[.pointer (some ⟨1, 46, none⟩)]).run Tryz.prog w = .ok (.int .u8 2) w := by kernel_rfl
theorem rf_elem_pE (w : World) : (ReflectliteType.method ReflectliteType.elem #[.agg #[.pointer (some ⟨1, 54, none⟩)]]).run Tryz.prog w = .ok (.iface 87 (.agg #[.pointer (some ⟨1, 46, none⟩)])) w := by kernel_rfl
theorem rf_impl_E (w : World) : (ReflectliteType.relation "Implements" ReflectliteType.implements_ #[.agg #[.pointer (some ⟨1, 46, none⟩)], .iface 87 (.agg #[.pointer (some ⟨1, 30, none⟩)])]).run Tryz.prog w = .ok (.bool true) w := by kernel_rfl
theorem rf_typeOf_E (v : Value) (w : World) : (ReflectliteType.typeOf #[.iface 46 v]).run Tryz.prog w = .ok (.iface 87 (.agg #[.pointer (some ⟨1, 46, none⟩)])) w := by kernel_rfl
theorem rf_as_EE (w : World) : (ReflectliteType.relation "AssignableTo" ReflectliteType.assignableTo #[.agg #[.pointer (some ⟨1, 46, none⟩)], .iface 87 (.agg #[.pointer (some ⟨1, 46, none⟩)])]).run Tryz.prog w = .ok (.bool true) w := by kernel_rfl
theorem rf_val_E (x : Int) (w : World) : (ReflectliteValue.unpack (.iface 46 (.int .i64 x))).run Tryz.prog w
    = .ok (.agg #[.pointer (some ⟨1, 46, none⟩), .pointer (some ⟨w.heap.size, 0, none⟩), .int .u64 130]) (w.alloc (.cells #[.int .i64 x] 46)) := by kernel_rfl
theorem rf_lm (z : Sem Value) (f : TypeId → Addr → Nat → Nat → Sem Value) (v : Value) :
    ReflectliteValue.method z f #[v] = (do match ← ReflectliteValue.parts v with | none => z | some (t, a, fl) => f t a fl (fl % 32)) := rfl
theorem rf_ls (v x : Value) : ReflectliteValue.set #[v, x] = (do
    let (some (dst, a, fl), some (src, b, _)) := (← ReflectliteValue.parts v, ← ReflectliteValue.parts x)
      | unsupported (.noEntry "extern/(internal/reflectlite.Value).Set.zeroValue")
    if fl / ReflectliteValue.flagAddr % 2 == 0 then unsupported (.noEntry "extern/(internal/reflectlite.Value).Set.unaddressable")
    let val ← loadVar src b
    if ← Rtype.directlyAssignable dst src then storeVar dst a val
    else if ← Rtype.implements dst src then
      if (← Rtype.kind src) == 20 then
        match val with
        | .nilIface => unsupported (.noEntry "extern/reflectlite: a nil value of one interface type handed on as a value of another")
        | _ => storeVar dst a val
      else storeVar dst a (.iface src val)
    else panicString ("reflectlite.Set: value of type " ++ (← Rtype.spelt src) ++ " is not assignable to type " ++ (← Rtype.spelt dst))
    pure (.tuple #[])) := rfl
theorem rf_parts_pE (a : Addr) (w : World) : (ReflectliteValue.parts (.agg #[.pointer (some ⟨1, 54, none⟩), .pointer (some a), .int .u64 150])).run Tryz.prog w = .ok (some (54, a, 150)) w := by kernel_rfl
theorem rf_isnil_E (a p : Addr) (W : World) (ha : W.cell? a = some (.pointer (some p))) :
    (ReflectliteValue.method (ReflectliteValue.valueError "reflectlite.Value.IsNil" 0) ReflectliteValue.isNil #[.agg #[.pointer (some ⟨1, 54, none⟩), .pointer (some a), .int .u64 150]]).run Tryz.prog W = .ok (.bool false) W := by
  rw [rf_lm]
  simp only [Sem.run_bind, rf_parts_pE, Result.andThen]
  simp [ReflectliteValue.isNil, loadVar, isAgg, underlying, Tryz.underlying54, ha, Result.andThen]
theorem rf_elemof_E (w : World) : (Rtype.elem? 54).run Tryz.prog w = .ok (some 46) w := by kernel_rfl
theorem rf_mk_E (p : Addr) (w : World) : (ReflectliteValue.mk 46 p ReflectliteValue.flagAddr).run Tryz.prog w = .ok (.agg #[.pointer (some ⟨1, 46, none⟩), .pointer (some p), .int .u64 386]) w := by kernel_rfl
theorem rf_elemv_E (a p : Addr) (W : World) (ha : W.cell? a = some (.pointer (some p))) :
    (ReflectliteValue.method (ReflectliteValue.valueError "reflectlite.Value.Elem" 0) ReflectliteValue.elem #[.agg #[.pointer (some ⟨1, 54, none⟩), .pointer (some a), .int .u64 150]]).run Tryz.prog W
      = .ok (.agg #[.pointer (some ⟨1, 46, none⟩), .pointer (some p), .int .u64 386]) W := by
  rw [rf_lm]
  simp only [Sem.run_bind, rf_parts_pE, Result.andThen]
  simp [ReflectliteValue.elem, loadVar, isAgg, underlying, Tryz.underlying54, ha, Result.andThen, rf_elemof_E, rf_mk_E]
theorem rf_parts_Ea (a : Addr) (w : World) : (ReflectliteValue.parts (.agg #[.pointer (some ⟨1, 46, none⟩), .pointer (some a), .int .u64 386])).run Tryz.prog w = .ok (some (46, a, 386)) w := by kernel_rfl
theorem rf_parts_E (a : Addr) (w : World) : (ReflectliteValue.parts (.agg #[.pointer (some ⟨1, 46, none⟩), .pointer (some a), .int .u64 130])).run Tryz.prog w = .ok (some (46, a, 130)) w := by kernel_rfl
theorem rf_direct_E (w : World) : (Rtype.directlyAssignable 46 46).run Tryz.prog w = .ok true w := by kernel_rfl
theorem rf_set_E (ta b : Addr) (e : Int) (old : Value) (W : World) (hb : W.cell? b = some (.int .i64 e)) (ht : W.cell? ta = some old) (hf : W.frozen? ta = false) :
    (ReflectliteValue.set #[.agg #[.pointer (some ⟨1, 46, none⟩), .pointer (some ta), .int .u64 386], .agg #[.pointer (some ⟨1, 46, none⟩), .pointer (some b), .int .u64 130]]).run Tryz.prog W
      = .ok (.tuple #[]) (W.setCell ta (.int .i64 e)) := by
  rw [rf_ls]
  simp only [Sem.run_bind, rf_parts_Ea, rf_parts_E, Result.andThen]
  simp [ReflectliteValue.flagAddr, loadVar, isAgg, underlying, Tryz.underlying46, hb, Result.andThen, rf_direct_E, storeVar, Value.cells, storeCells, Addr.add]
  rw [run_store Tryz.prog W ta _ _ (by rfl)]
  simp [ht, hf]

set_option maxRecDepth 100000 in
set_option maxHeartbeats 4000000 in
theorem ase_plain (c : Int) (a t : Addr) (old : Value) (w : World) (ha : w.cell? a = some (.pointer (some t))) (ht : w.cell? t = some old) (hf : w.frozen? t = false) :
    Calls Tryz.prog 37 #[.iface 46 (.int .i64 c), .iface 54 (.pointer (some t)), .agg #[.pointer (some ⟨1, 54, none⟩), .pointer (some a), .int .u64 150], .iface 87 (.agg #[.pointer (some ⟨1, 46, none⟩)])] w
      fun e w' => e = .returned (.bool true) ∧ ∃ w1, Below w.heap.size w w1 ∧ w' = w1.setCell t (.int .i64 c) := by
  have h1 := @run_callFunc_extern Tryz.prog 48 _ ReflectliteType.typeOf Tryz.func48 (by kernel_rfl) (by kernel_rfl) (by kernel_rfl) (by kernel_rfl)
  have h2 := @run_callFunc_extern Tryz.prog 109 _ (ReflectliteType.relation "AssignableTo" ReflectliteType.assignableTo) Tryz.func109 (by kernel_rfl) (by kernel_rfl) (by kernel_rfl) (by kernel_rfl)
  have h3 := @run_callFunc_extern Tryz.prog 34 _ (fun args => ReflectliteValue.unpack (args.getD 0 (.tuple #[]))) Tryz.func34 (by kernel_rfl) (by kernel_rfl) (by kernel_rfl) (by kernel_rfl)
  have h4 := @run_callFunc_extern Tryz.prog 49 _ (ReflectliteValue.method (ReflectliteValue.valueError "reflectlite.Value.Elem" 0) ReflectliteValue.elem) Tryz.func49 (by kernel_rfl) (by kernel_rfl) (by kernel_rfl) (by kernel_rfl)
  have h5 := @run_callFunc_extern Tryz.prog 50 _ ReflectliteValue.set Tryz.func50 (by kernel_rfl) (by kernel_rfl) (by kernel_rfl) (by kernel_rfl)
  have f2 := rf_typeOf_E
  have f4 := rf_massign
  have f5 := rf_as_EE
  have f14 := rf_val_E
  have hal := lt_of_cell ha
  have htl := lt_of_cell ht
  have hb1 : Below w.heap.size w (w.alloc (.cells #[.pointer (some ⟨1, 54, none⟩), .pointer (some a), .int .u64 150] 68)) := (Below.refl _ _).alloc (Nat.le_refl _) _
  have ha2 := (hb1.cell hal).trans ha
  have ht2 := (hb1.cell htl).trans ht
  have hf2 := (hb1.frozen htl).trans hf
  have HB1 := Lib.hid hb1
  have el := rf_elemv_E a t _ ha2
  have htw := lt_of_cell ht2
  have st := rf_set_E t ⟨w.heap.size + 1, 0, none⟩ c old ((w.alloc (.cells #[.pointer (some ⟨1, 54, none⟩), .pointer (some a), .int .u64 150] 68)).alloc (.cells #[.int .i64 c] 46)) (by rw [World.cell?_alloc_at _ _ _ _ (by simp)]; rfl) (by rw [World.cell?_alloc_lt _ _ _ htw]; exact ht2) (by rw [World.frozen?_alloc_old _ _ _ (Nat.ne_of_lt htw)]; exact hf2)
  clear hb1 ha ht hf
  go_enter Tryz.func37, Tryz.ntmps37
  go_wp2
  refine wp_loop_rounds 1 ?_
  rw [rounds_succ]
  go_wp2
  go_ret
  exact ⟨rfl, _, HB1.out.alloc HB1.out.size _, rfl⟩

/-- The variable that holds the type of errors. -/
def ErrTy (w : World) : Prop := w.cell? ⟨0, 0, none⟩ = some (.iface 87 (.agg #[.pointer (some ⟨1, 30, none⟩)]))
theorem ErrTy.below {w w' : World} {B : Nat} (h : ErrTy w) (hb : Below B w w') (hB : 0 < B) : ErrTy w' := (hb.cell (p := ⟨0, 0, none⟩) hB).trans h
theorem ErrTy.pos {w : World} (h : ErrTy w) : 0 < w.heap.size := lt_of_cell h

set_option maxRecDepth 100000 in
set_option maxHeartbeats 4000000 in
theorem ae_plain (c : Int) (t : Addr) (old : Value) (w : World) (hg : ErrTy w) (ht : w.cell? t = some old) (hf : w.frozen? t = false) :
    Calls Tryz.prog 22 #[.iface 46 (.int .i64 c), .iface 54 (.pointer (some t))] w fun e w' => e = .returned (.bool true) ∧ ∃ w1, Below w.heap.size w w1 ∧ w' = w1.setCell t (.int .i64 c) := by
  have h1 := @run_callFunc_extern Tryz.prog 34 _ (fun args => ReflectliteValue.unpack (args.getD 0 (.tuple #[]))) Tryz.func34 (by kernel_rfl) (by kernel_rfl) (by kernel_rfl) (by kernel_rfl)
  have h2 := @run_callFunc_extern Tryz.prog 35 _ (ReflectliteValue.methodAny (ReflectliteValue.valueError "reflectlite.Value.Type" 0) (fun t _ _ _ => ReflectliteType.toType t)) Tryz.func35 (by kernel_rfl) (by kernel_rfl) (by kernel_rfl) (by kernel_rfl)
  have h3 := @run_callFunc_extern Tryz.prog 36 _ (ReflectliteValue.method (ReflectliteValue.valueError "reflectlite.Value.IsNil" 0) ReflectliteValue.isNil) Tryz.func36 (by kernel_rfl) (by kernel_rfl) (by kernel_rfl) (by kernel_rfl)
  have h4 := @run_callFunc_extern Tryz.prog 99 _ (ReflectliteType.abiMethod fun t => do pure (.int .u8 (← Rtype.kind t))) Tryz.func99 (by kernel_rfl) (by kernel_rfl) (by kernel_rfl) (by kernel_rfl)
  have h5 := @run_callFunc_extern Tryz.prog 111 _ (ReflectliteType.method ReflectliteType.elem) Tryz.func111 (by kernel_rfl) (by kernel_rfl) (by kernel_rfl) (by kernel_rfl)
  have h6 := @run_callFunc_extern Tryz.prog 112 _ (ReflectliteType.relation "Implements" ReflectliteType.implements_) Tryz.func112 (by kernel_rfl) (by kernel_rfl) (by kernel_rfl) (by kernel_rfl)
  have f1 := rf_valueE
  have f2 := rf_typeE
  have f3 := rf_mkind
  have f4 := rf_melem
  have f5 := rf_mimpl
  have f6 := rf_kind_pE
  have f7 := rf_kind_E
  have f8 := rf_elem_pE
  have f9 := rf_impl_E
  have hb1 : Below w.heap.size w ((w.alloc (.cells #[.pointer (some t)] 54)).alloc (.cells #[.pointer (some ⟨1, 54, none⟩), .pointer (some ⟨w.heap.size, 0, none⟩), .int .u64 150] 68)) := ((Below.refl _ _).alloc (Nat.le_refl _) _).alloc (by simp) _
  have htl := lt_of_cell ht
  have hg2 : ErrTy _ := hg.below hb1 hg.pos
  unfold ErrTy at hg2
  have n8 := rf_isnil_E ⟨w.heap.size, 0, none⟩ t ((w.alloc (.cells #[.pointer (some t)] 54)).alloc (.cells #[.pointer (some ⟨1, 54, none⟩), .pointer (some ⟨w.heap.size, 0, none⟩), .int .u64 150] 68)) (by rw [World.cell?_alloc_lt _ _ _ (by simp)]; simp)
  have HT := Lib.hid ((hb1.cell htl).trans ht)
  have HF := Lib.hid ((hb1.frozen htl).trans hf)
  have HB1 := Lib.hid hb1
  clear hg ht hf hb1
  go_enter Tryz.func22, Tryz.ntmps22
  go_wp2_with fail
  refine (ase_plain c ⟨w.heap.size, 0, none⟩ t old _ (by rw [World.cell?_alloc_lt _ _ _ (by simp)]; simp) HT.out HF.out).mono ?_
  rintro e w2 ⟨rfl, w1, hb2, rfl⟩
  have HB2 := Lib.hid hb2
  clear hb2
  go_wp2_with fail
  go_ret
  exact ⟨rfl, _, HB1.out.trans (HB2.out.mono HB1.out.size), rfl⟩

/-- What the statements' own Code tells of nil. -/
theorem lcode_nil (w : World) :
    Calls Tryz.prog 8 #[.nilIface] w fun e w' => e = .returned (.int .i64 0) ∧ w' = w := by
  go_enter Tryz.func8, Tryz.ntmps8
  go_wp2_with fail
  go_ret
  exact ⟨rfl, rfl⟩

set_option maxRecDepth 100000 in
set_option maxHeartbeats 400000 in
theorem lcode_plain (c : Int) (w : World) (hg : ErrTy w) :
    Calls Tryz.prog 8 #[.iface 46 (.int .i64 c)] w fun e w' => e = .returned (.int .i64 c) ∧ Below w.heap.size w w' := by
  have hb1 : Below w.heap.size w (w.alloc (.cells #[.int .i64 0] 46)) := (Below.refl _ _).alloc (Nat.le_refl _) _
  have HG := Lib.hid (hg.below hb1 hg.pos)
  have HB1 := Lib.hid hb1
  clear hg hb1
  go_enter Tryz.func8, Tryz.ntmps8
  go_wp2_with fail
  refine (ae_plain c ⟨w.heap.size, 0, none⟩ (.int .i64 0) _ HG.out (by simp) (by rw [World.frozen?_alloc_at _ _ _ _ (by simp)])).mono ?_
  rintro e w2 ⟨rfl, w1, hb2, rfl⟩
  have hsz := hb2.size
  simp at hsz
  have hc1 : w1.cell? ⟨w.heap.size, 0, none⟩ = some (.int .i64 0) := (hb2.cell (p := ⟨w.heap.size, 0, none⟩) (by simp)).trans (by simp)
  have hr3 : (w1.setCell ⟨w.heap.size, 0, none⟩ (.int .i64 c)).cell? ⟨w.heap.size, 0, none⟩ = some (.int .i64 c) := World.cell?_setCell_same _ _ _ hc1
  have hb3 : Below w.heap.size w (w1.setCell ⟨w.heap.size, 0, none⟩ (.int .i64 c)) := (HB1.out.trans (hb2.mono HB1.out.size)).setCell (by simp) _
  have HB3 := Lib.hid hb3
  clear hb2 hb3
  go_wp2_with fail
  go_ret
  exact ⟨rfl, HB3.out⟩
end

section
open Go.ChangeShapes Go.WideShapes Go.ChangeAt Go.RowKit

theorem own : ownKnob Tryz.prog.godebug = none := by kernel_rfl
theorem laidOut : laidOutB Tryz.prog = true := by kernel_rfl
theorem et_named : Tryz.prog.globalNamed "errors.errorType" = some 0 := by kernel_rfl
theorem rt_named : (Tryz.prog.cutTypes.find? (·.1 == "internal/reflectlite.rtype")).map (·.2) = some 87 := by kernel_rfl
theorem et_row : ((List.range 167).filter fun t => Tryz.prog.rowNamed t [101, 114, 114, 111, 114]) = [30] := by kernel_rfl
theorem ty_size : Tryz.prog.types.size = 167 := by kernel_rfl

theorem errTy_of_laid {W : World} (h : laidMetH Tryz.prog [("errors.errorType", Rows.laid_errors_errorType)] W) : ErrTy W := by
  have h' : laidMet Tryz.prog [] W ∧ handlesMet Tryz.prog [("errors.errorType", Rows.laid_errors_errorType)] W := h
  obtain ⟨name, u, ty, e1, e2, e3, e4, e5⟩ := h'.2 _ (List.mem_singleton.2 rfl)
  have en : name = [101, 114, 114, 111, 114] := (Option.some.inj e1).symm
  subst en
  obtain rfl := Option.some.inj (rt_named.symm.trans e2)
  have hm : ty ∈ (List.range 167).filter fun t => Tryz.prog.rowNamed t [101, 114, 114, 111, 114] := List.mem_filter.2 ⟨List.mem_range.2 (by rw [← ty_size]; exact e3), e4⟩
  rw [et_row] at hm
  obtain rfl := List.mem_singleton.1 hm
  have hh : typeHandle Tryz.prog 30 = .pointer (some ⟨1, 30, none⟩) := by kernel_rfl
  rw [hh] at e5
  have e6 := World.var?_cell et_named e5 0
  unfold ErrTy
  simpa using e6

/-- A world that meets the condition: the settled one, the variable's cell laid. -/
noncomputable def laidWorld (os : Os) : World :=
  { World.holding Tryz.prog os ⟨#[], #[], []⟩ with heap := (World.holding Tryz.prog os ⟨#[], #[], []⟩).heap.modify 0 fun
      | .cells _ t frozen => .cells #[.iface 87 (.agg #[.pointer (some ⟨1, 30, none⟩)])] t frozen
      | o => o }
theorem laidWorld_met (os : Os) (args : Array Value) : laidMetH Tryz.prog [("errors.errorType", Rows.laid_errors_errorType)] ((laidWorld os).forCall (fun _ _ => 0) ⟨#[], args, []⟩).memory :=
  laidMetH_of_parts (laidMet_nil _ _) (by kernel_rfl)
end

section
set_option maxRecDepth 100000
open Go.RowKit Go.ChangeShapes

/-- A value: its kind, its number, its text, its names, its elements' numbers, its parts. -/
inductive Vt where
  | nul
  | mk (kind n : Int) (s : ByteArray) (names : List ByteArray) (ids : List Int) (len : Nat) (parts : Nat → Vt)
/-- A schema: its kind, its words, its parts. -/
inductive St where
  | nul
  | mk (kind : Int) (words : List ByteArray) (len : Nat) (parts : Nat → St)

/-- Rows of cells, n of them, of size s each, one behind the other. -/
def Parts (w : World) (s : Nat) (c : Option Addr) (n : Nat) (css : Nat → List Value) : Prop :=
  0 < n → ∃ ad, c = some ad ∧ ad.block < w.heap.size ∧ ∀ j, j < n → (css j).length = s ∧ ∀ i u, (css j)[i]? = some u → w.cell? (ad.add (j * s + i)) = some u
theorem Parts.below {w w' : World} {s n : Nat} {c : Option Addr} {css : Nat → List Value} (h : Parts w s c n css) (hb : Below w.heap.size w w') : Parts w' s c n css := fun hn => by
  obtain ⟨ad, e, hlt, hc⟩ := h hn
  exact ⟨ad, e, Nat.lt_of_lt_of_le hlt hb.size, fun j hj => ⟨(hc j hj).1, fun i u hu => (hb.cell (p := ad.add (j * s + i)) (by rw [add_block]; exact hlt)).trans ((hc j hj).2 i u hu)⟩⟩

inductive VAt (w : World) : Vt → List Value → Prop
  | mk {k n : Int} {s : ByteArray} {names : List ByteArray} {ids : List Int} {len : Nat} {parts : Nat → Vt} {a b c : Option Addr} {la ca lb cb cc : Nat} (css : Nat → List Value)
      (hk : (Lit.int .i64 k).wf = true) (hn : (Lit.int .i64 n).wf = true) (hs : s.size ≤ maxLen)
      (h1 : Rd w (fun _ => True) a la (names.map Value.string)) (h1c : la ≤ ca ∧ ca ≤ maxLen) (hss : ∀ x ∈ names, x.size ≤ maxLen)
      (h2 : Rd w (fun _ => True) b lb (ids.map (Value.int .u64))) (h2c : lb ≤ cb ∧ cb ≤ maxLen) (hi : ∀ x ∈ ids, (Lit.int .u64 x).wf = true)
      (h3 : Parts w 6 c len css) (h3c : len ≤ cc ∧ cc ≤ maxLen) (h : ∀ j, j < len → VAt w (parts j) (css j)) :
      VAt w (.mk k n s names ids len parts) [.int .i64 k, .int .i64 n, .string s, .slice a la ca, .slice b lb cb, .slice c len cc]
inductive SAt (w : World) : St → List Value → Prop
  | mk {k : Int} {words : List ByteArray} {len : Nat} {parts : Nat → St} {a c : Option Addr} {la ca cc : Nat} (css : Nat → List Value)
      (hk : (Lit.int .i64 k).wf = true)
      (h1 : Rd w (fun _ => True) a la (words.map Value.string)) (h1c : la ≤ ca ∧ ca ≤ maxLen) (hss : ∀ x ∈ words, x.size ≤ maxLen)
      (h3 : Parts w 3 c len css) (h3c : len ≤ cc ∧ cc ≤ maxLen) (h : ∀ j, j < len → SAt w (parts j) (css j)) :
      SAt w (.mk k words len parts) [.int .i64 k, .slice a la ca, .slice c len cc]
theorem VAt.length {w : World} {v : Vt} {cs : List Value} (h : VAt w v cs) : cs.length = 6 := by cases h; rfl
theorem SAt.length {w : World} {v : St} {cs : List Value} (h : SAt w v cs) : cs.length = 3 := by cases h; rfl
theorem VAt.later {w w' : World} (hb : Below w.heap.size w w') : ∀ {v : Vt} {cs : List Value}, VAt w v cs → VAt w' v cs := by
  intro v cs h
  induction h with
  | mk css hk hn hs h1 h1c hss h2 h2c hi h3 h3c _ ih => exact .mk css hk hn hs (h1.belowAll hb) h1c hss (h2.belowAll hb) h2c hi (h3.below hb) h3c ih
theorem SAt.later {w w' : World} (hb : Below w.heap.size w w') : ∀ {v : St} {cs : List Value}, SAt w v cs → SAt w' v cs := by
  intro v cs h
  induction h with
  | mk css hk h1 h1c hss h3 h3c _ ih => exact .mk css hk (h1.belowAll hb) h1c hss (h3.below hb) h3c ih

section
variable {H : Type} {enc : TypeId × Value → H} {P : Program} {w : World} {base : Nat} {spare : Nat → Bool} {held : Bool}
theorem read_int {t : TypeId} {k : IntKind} {fuel : Nat} {cs : List Value} {x : DataW H × List MemPlace} (ht : P.underlying t = some (.int k)) (h : DataW.trod enc P w base spare held fuel t cs = some x) : ∃ n, cs = [.int k n] ∧ (Lit.int k n).wf = true := by
  cases fuel with
  | zero => simp [DataW.trod] at h
  | succ m =>
    unfold DataW.trod at h
    rw [ht] at h
    split at h <;> simp_all
theorem read_str {t : TypeId} {fuel : Nat} {cs : List Value} {x : DataW H × List MemPlace} (ht : P.underlying t = some .string) (h : DataW.trod enc P w base spare held fuel t cs = some x) : ∃ s, cs = [.string s] ∧ s.size ≤ maxLen := by
  cases fuel with
  | zero => simp [DataW.trod] at h
  | succ m =>
    unfold DataW.trod at h
    rw [ht] at h
    split at h <;> simp_all
theorem read_strs {t e : TypeId} {fuel : Nat} {cs : List Value} {x : DataW H × List MemPlace} (ht : P.underlying t = some (.slice e)) (he : P.underlying e = some .string) (hc : P.cellsOf e = 1) (h : DataW.trod enc P w base spare held fuel t cs = some x) :
    ∃ (a : Option Addr) (len cap : Nat) (l : List ByteArray), cs = [.slice a len cap] ∧ Rd w (fun _ => True) a len (l.map Value.string) ∧ (len ≤ cap ∧ cap ≤ maxLen) ∧ ∀ s ∈ l, s.size ≤ maxLen := by
  rcases open_strings ht he hc h with ⟨rfl, _⟩ | ⟨a, len, cap, ss, rfl, _, hl, hm, hlen, _, hcell, hsz⟩
  · exact ⟨none, 0, 0, [], rfl, Rd.nil _ _ _, ⟨Nat.le_refl _, Nat.zero_le _⟩, fun _ h => by cases h⟩
  · have hle : len ≤ ss.length := by rw [hlen]; split <;> omega
    refine ⟨some a, len, cap, ss.take len, rfl, ⟨by simp; omega, fun hn => ?_⟩, ⟨hl, hm⟩, fun s hs => hsz s (List.mem_of_mem_take hs)⟩
    have hb : a.block < w.heap.size := by
      have := lt_of_cell (hcell 0 (by omega))
      rwa [add_block] at this
    refine ⟨a, rfl, trivial, hb, fun j u hu => ?_⟩
    have hj : j < len := by
      have := (List.getElem?_eq_some_iff.1 hu).1
      simp at this
      omega
    rw [hcell j (by omega), ← hu, List.getElem?_map, List.getElem?_take, if_pos hj, List.getD, List.getElem?_eq_getElem (by omega)]
    rfl
theorem read_ints {t e : TypeId} {k : IntKind} {fuel : Nat} {cs : List Value} {x : DataW H × List MemPlace} (ht : P.underlying t = some (.slice e)) (he : P.underlying e = some (.int k)) (hc : P.cellsOf e = 1) (h : DataW.trod enc P w base spare held fuel t cs = some x) :
    ∃ (a : Option Addr) (len cap : Nat) (l : List Int), cs = [.slice a len cap] ∧ Rd w (fun _ => True) a len (l.map (Value.int k)) ∧ (len ≤ cap ∧ cap ≤ maxLen) ∧ ∀ n ∈ l, (Lit.int k n).wf = true := by
  rcases open_ints ht he hc h with ⟨rfl, _⟩ | ⟨a, len, cap, ss, rfl, _, hl, hm, hlen, _, hcell, hsz⟩
  · exact ⟨none, 0, 0, [], rfl, Rd.nil _ _ _, ⟨Nat.le_refl _, Nat.zero_le _⟩, fun _ h => by cases h⟩
  · have hle : len ≤ ss.length := by rw [hlen]; split <;> omega
    refine ⟨some a, len, cap, ss.take len, rfl, ⟨by simp; omega, fun hn => ?_⟩, ⟨hl, hm⟩, fun s hs => hsz s (List.mem_of_mem_take hs)⟩
    have hb : a.block < w.heap.size := by
      have := lt_of_cell (hcell 0 (by omega))
      rwa [add_block] at this
    refine ⟨a, rfl, trivial, hb, fun j u hu => ?_⟩
    have hj : j < len := by
      have := (List.getElem?_eq_some_iff.1 hu).1
      simp at this
      omega
    rw [hcell j (by omega), ← hu, List.getElem?_map, List.getElem?_take, if_pos hj, List.getD, List.getElem?_eq_getElem (by omega)]
    rfl
/-- A slice of rows of cells, whose reading is known. -/
theorem read_parts {t e : TypeId} {s fuel : Nat} {cs : List Value} {x : DataW H × List MemPlace} {T : Type} (R : T → List Value → Prop) (ht : P.underlying t = some (.slice e)) (hc : P.cellsOf e = s) (hs : 0 < s) (d0 : T)
    (hR : ∀ m, m < fuel → ∀ cs' x', cs'.length = s → DataW.trod enc P w base spare held m e cs' = some x' → ∃ v, R v cs') (h : DataW.trod enc P w base spare held fuel t cs = some x) :
    ∃ (c : Option Addr) (len cap : Nat) (css : Nat → List Value) (parts : Nat → T), cs = [.slice c len cap] ∧ Parts w s c len css ∧ (len ≤ cap ∧ cap ≤ maxLen) ∧ ∀ j, j < len → R (parts j) (css j) := by
  rcases DataW.trod_slice ht h with ⟨rfl, _⟩ | ⟨a, len, cap, elems, rest, n, hf, rfl, _, _, hl, hm, hlen, hel, _, _⟩
  · exact ⟨none, 0, 0, fun _ => [], fun _ => d0, rfl, fun h => absurd h (by decide), ⟨Nat.le_refl _, Nat.zero_le _⟩, fun j h => absurd h (Nat.not_lt_zero _)⟩
  · have hone : ∀ j, j < len → ∃ q : List Value × T, w.cells? base (a.add (j * s)) s = some q.1 ∧ R q.2 q.1 := fun j hj => by
      have h1 := hel j hj
      rw [hc, List.getElem?_eq_getElem (by omega)] at h1
      obtain ⟨cs', h2, h3⟩ := Option.bind_eq_some_iff.1 h1
      obtain ⟨v, hv⟩ := hR n (by omega) cs' _ (World.cells?_some h2).2.1 h3
      exact ⟨(cs', v), h2, hv⟩
    refine ⟨some a, len, cap, fun j => if hj : j < len then (hone j hj).choose.1 else [], fun j => if hj : j < len then (hone j hj).choose.2 else d0, rfl, fun hn => ⟨a, rfl, ?_, fun j hj => ?_⟩, ⟨hl, hm⟩, fun j hj => ?_⟩
    · have h1 := World.cells?_block (hone 0 hn).choose_spec.1 hs
      rwa [add_block] at h1
    · simp only [dif_pos hj]
      obtain ⟨_, h1, h2⟩ := World.cells?_some (hone j hj).choose_spec.1
      refine ⟨h1, fun i u hu => ?_⟩
      have hi : i < s := by
        have := (List.getElem?_eq_some_iff.1 hu).1
        omega
      rw [← add_add, h2 i hi, hu]
    · simp only [dif_pos hj]
      exact (hone j hj).choose_spec.2
end

theorem read_field {α : Type} {xs : List α} {n k : Nat} {f : Option α} (hlen : xs.length = n) (h : f = xs[k]?) (hk : k < n) : ∃ x, f = some x := ⟨_, h.trans (List.getElem?_eq_getElem (by omega))⟩
theorem six {cs : List Value} (h : cs.length = 6) : ∃ a b c d e f, cs = [a, b, c, d, e, f] := by
  match cs, h with
  | [a, b, c, d, e, f], _ => exact ⟨a, b, c, d, e, f, rfl⟩
theorem three {cs : List Value} (h : cs.length = 3) : ∃ a b c, cs = [a, b, c] := by
  match cs, h with
  | [a, b, c], _ => exact ⟨a, b, c, rfl⟩
theorem c_int : Tryz.prog.cellsOf 3 = 1 := by kernel_rfl
theorem c_str : Tryz.prog.cellsOf 9 = 1 := by kernel_rfl
theorem c_u64 : Tryz.prog.cellsOf 58 = 1 := by kernel_rfl
theorem c_strs : Tryz.prog.cellsOf 22 = 1 := by kernel_rfl
theorem c_ids : Tryz.prog.cellsOf 41 = 1 := by kernel_rfl
theorem c_vals : Tryz.prog.cellsOf 42 = 1 := by kernel_rfl
theorem c_val : Tryz.prog.cellsOf 44 = 6 := by kernel_rfl
theorem c_schs : Tryz.prog.cellsOf 23 = 1 := by kernel_rfl
theorem c_sch : Tryz.prog.cellsOf 25 = 3 := by kernel_rfl
/-- What a reading of a value says. -/
theorem vat_of {H : Type} {enc : TypeId × Value → H} {w : World} {base : Nat} {spare : Nat → Bool} {held : Bool} : ∀ (fuel : Nat) (cs : List Value) (x : DataW H × List MemPlace), DataW.trod enc Tryz.prog w base spare held fuel 44 cs = some x → ∃ v, VAt w v cs := by
  intro fuel
  induction fuel using Nat.strongRecOn with
  | _ fuel ih =>
    intro cs x h
    obtain ⟨xs, n, rfl, _, hl, hlen, hf⟩ := DataW.trod_struct Tryz.underlying44 h
    rw [c_val] at hl
    obtain ⟨c0, c1, c2, c3, c4, c5, rfl⟩ := six hl
    obtain ⟨x0, h0⟩ := read_field hlen (hf 0 { name := "Kind", type := 3, offset := 0, embedded := false, tag := "", pkgPath := "", byteOffset := 0 } rfl) (by decide)
    obtain ⟨x1, h1⟩ := read_field hlen (hf 1 { name := "N", type := 3, offset := 1, embedded := false, tag := "", pkgPath := "", byteOffset := 8 } rfl) (by decide)
    obtain ⟨x2, h2⟩ := read_field hlen (hf 2 { name := "S", type := 9, offset := 2, embedded := false, tag := "", pkgPath := "", byteOffset := 16 } rfl) (by decide)
    obtain ⟨x3, h3⟩ := read_field hlen (hf 3 { name := "Names", type := 22, offset := 3, embedded := false, tag := "", pkgPath := "", byteOffset := 32 } rfl) (by decide)
    obtain ⟨x4, h4⟩ := read_field hlen (hf 4 { name := "Ids", type := 41, offset := 4, embedded := false, tag := "", pkgPath := "", byteOffset := 56 } rfl) (by decide)
    obtain ⟨x5, h5⟩ := read_field hlen (hf 5 { name := "Parts", type := 42, offset := 5, embedded := false, tag := "", pkgPath := "", byteOffset := 80 } rfl) (by decide)
    simp only [c_int, c_str, c_strs, c_ids, c_vals, List.drop_zero, List.drop_succ_cons, List.take_succ_cons, List.take_zero] at h0 h1 h2 h3 h4 h5
    obtain ⟨k, e0, hk⟩ := read_int Tryz.underlying3 h0
    obtain ⟨m, e1, hm⟩ := read_int Tryz.underlying3 h1
    obtain ⟨s, e2, hs⟩ := read_str Tryz.underlying9 h2
    obtain ⟨a, la, ca, names, e3, r3, l3, b3⟩ := read_strs Tryz.underlying22 Tryz.underlying9 c_str h3
    obtain ⟨b, lb, cb, ids, e4, r4, l4, b4⟩ := read_ints Tryz.underlying41 Tryz.underlying58 c_u64 h4
    obtain ⟨c, lc, cc, css, parts, e5, r5, l5, b5⟩ := read_parts (VAt w) Tryz.underlying42 c_val (by decide) .nul (fun m hm cs' x' _ hx => ih m (by omega) cs' x' hx) h5
    injection e0 with e0; injection e1 with e1; injection e2 with e2; injection e3 with e3; injection e4 with e4; injection e5 with e5
    subst e0 e1 e2 e3 e4 e5
    exact ⟨_, .mk css hk hm hs r3 l3 b3 r4 l4 b4 r5 l5 b5⟩
theorem sat_of {H : Type} {enc : TypeId × Value → H} {w : World} {base : Nat} {spare : Nat → Bool} {held : Bool} : ∀ (fuel : Nat) (cs : List Value) (x : DataW H × List MemPlace), DataW.trod enc Tryz.prog w base spare held fuel 25 cs = some x → ∃ v, SAt w v cs := by
  intro fuel
  induction fuel using Nat.strongRecOn with
  | _ fuel ih =>
    intro cs x h
    obtain ⟨xs, n, rfl, _, hl, hlen, hf⟩ := DataW.trod_struct Tryz.underlying25 h
    rw [c_sch] at hl
    obtain ⟨c0, c1, c2, rfl⟩ := three hl
    obtain ⟨x0, h0⟩ := read_field hlen (hf 0 { name := "Kind", type := 3, offset := 0, embedded := false, tag := "", pkgPath := "", byteOffset := 0 } rfl) (by decide)
    obtain ⟨x1, h1⟩ := read_field hlen (hf 1 { name := "Words", type := 22, offset := 1, embedded := false, tag := "", pkgPath := "", byteOffset := 8 } rfl) (by decide)
    obtain ⟨x2, h2⟩ := read_field hlen (hf 2 { name := "Parts", type := 23, offset := 2, embedded := false, tag := "", pkgPath := "", byteOffset := 32 } rfl) (by decide)
    simp only [c_int, c_strs, c_schs, List.drop_zero, List.drop_succ_cons, List.take_succ_cons, List.take_zero] at h0 h1 h2
    obtain ⟨k, e0, hk⟩ := read_int Tryz.underlying3 h0
    obtain ⟨a, la, ca, names, e1, r1, l1, b1⟩ := read_strs Tryz.underlying22 Tryz.underlying9 c_str h1
    obtain ⟨c, lc, cc, css, parts, e2, r2, l2, b2⟩ := read_parts (SAt w) Tryz.underlying23 c_sch (by decide) .nul (fun m hm cs' x' _ hx => ih m (by omega) cs' x' hx) h2
    injection e0 with e0; injection e1 with e1; injection e2 with e2
    subst e0 e1 e2
    exact ⟨_, .mk css hk r1 l1 b1 r2 l2 b2⟩
end

section
/-- A byte of a text, as a number. -/
def sat (s : ByteArray) (i : Nat) : Nat := (s.data.toList.getD i 0).toNat
def letB (c : Nat) : Bool := (decide (97 ≤ c) && decide (c ≤ 122)) || (decide (48 ≤ c) && decide (c ≤ 57)) || decide (c = 95)
def nameB (s : ByteArray) : Bool := decide (1 ≤ s.size) && decide (s.size ≤ 12) && (List.range s.size).all fun i => letB (sat s i)
def eqS (a b : ByteArray) : Bool := a.toList == b.toList
def ltS (a b : ByteArray) : Bool := Go.Op.bytesLess a.toList b.toList
def nth (l : List ByteArray) (i : Nat) : ByteArray := l.getD i ByteArray.empty
/-- Names, each behind the one before. -/
def riseB (l : List ByteArray) : Bool := (List.range l.length).all fun i => nameB (nth l i) && (decide (i = 0) || ltS (nth l (i - 1)) (nth l i))
/-- Names, unlike each other. -/
def wordsB (l : List ByteArray) : Bool := (List.range l.length).all fun i => nameB (nth l i) && (List.range i).all fun j => !eqS (nth l i) (nth l j)
def idsB (l : List Int) : Bool := (List.range l.length).all fun i => decide (l.getD i 0 ≠ 0) && (List.range i).all fun j => decide (l.getD i 0 ≠ l.getD j 0)
def eqL (l m : List ByteArray) : Bool := decide (l.length = m.length) && (List.range l.length).all fun i => eqS (nth l i) (nth m i)

/-- What a value's own fields have to be. -/
def headV (k n : Int) (s : ByteArray) (names : List ByteArray) (ids : List Int) (len : Nat) : Bool :=
  if k = 1 then decide (n = 0 ∨ n = 1) && decide (s.size = 0) && decide (names.length = 0) && decide (ids.length = 0) && decide (len = 0)
  else if k = 2 then decide (s.size = 0) && decide (names.length = 0) && decide (ids.length = 0) && decide (len = 0)
  else if k = 3 then decide (n = 0) && decide (s.size ≤ 64) && decide (names.length = 0) && decide (ids.length = 0) && decide (len = 0)
  else if k = 4 then decide (n = 0) && nameB s && decide (names.length = 0) && decide (ids.length = 0) && decide (len = 0)
  else if k = 5 then decide (n = 0) && decide (s.size = 0) && decide (ids.length = 0) && decide (names.length ≤ 8) && decide (len = names.length) && riseB names
  else if k = 6 then decide (n = 0) && decide (s.size = 0) && decide (names.length = 0) && decide (ids.length ≤ 12) && decide (len = ids.length) && idsB ids
  else false
/-- What a schema's own fields have to be. -/
def headS (k : Int) (words : List ByteArray) (len : Nat) : Bool :=
  if k = 1 ∨ k = 2 ∨ k = 3 then decide (words.length = 0) && decide (len = 0)
  else if k = 4 then decide (1 ≤ words.length) && decide (words.length ≤ 8) && wordsB words && decide (len = 0)
  else if k = 5 then decide (words.length ≤ 8) && decide (len = words.length) && riseB words
  else if k = 6 then decide (words.length = 0) && decide (len = 1)
  else false
/-- The greatest of the first ones. -/
def most (f : Nat → Nat) : Nat → Nat
  | 0 => 0
  | n + 1 => max (most f n) (f n)
theorem most_le {f : Nat → Nat} {m : Nat} : ∀ {n : Nat}, most f n ≤ m ↔ ∀ i, i < n → f i ≤ m
  | 0 => ⟨fun _ i h => absurd h (Nat.not_lt_zero i), fun _ => Nat.zero_le _⟩
  | n + 1 => by
    rw [most, Nat.max_le, most_le (n := n)]
    refine ⟨fun h i hi => ?_, fun h => ⟨fun i hi => h i (by omega), h n (by omega)⟩⟩
    rcases Nat.lt_or_ge i n with h1 | h1
    · exact h.1 i h1
    · obtain rfl : i = n := by omega
      exact h.2
def Vt.depth : Vt → Nat
  | .nul => 0
  | .mk _ _ _ _ _ len parts => most (fun i => (parts i).depth) len + 1
def St.depth : St → Nat
  | .nul => 0
  | .mk _ _ len parts => most (fun i => (parts i).depth) len + 1
def Vt.sound : Vt → Bool
  | .nul => false
  | .mk k n s names ids len parts => headV k n s names ids len && (List.range len).all fun i => (parts i).sound
def St.sound : St → Bool
  | .nul => false
  | .mk k words len parts => headS k words len && (List.range len).all fun i => (parts i).sound
/-- Right, where it lies so deep. -/
def Vt.rightAt (v : Vt) (d : Nat) : Bool := decide (d + v.depth ≤ 6) && v.sound
def St.rightAt (v : St) (d : Nat) : Bool := decide (d + v.depth ≤ 6) && v.sound
theorem Vt.rightAt_mk {k n : Int} {s : ByteArray} {names : List ByteArray} {ids : List Int} {len : Nat} {parts : Nat → Vt} (d : Nat) :
    (Vt.mk k n s names ids len parts).rightAt d = (decide (d ≤ 5) && headV k n s names ids len && (List.range len).all fun i => (parts i).rightAt (d + 1)) := by
  unfold Vt.rightAt
  rw [Vt.depth, Vt.sound, Bool.eq_iff_iff]
  simp only [Bool.and_eq_true, decide_eq_true_eq, List.all_eq_true, List.mem_range]
  constructor
  · rintro ⟨h1, h2, h3⟩
    have h4 : most (fun i => (parts i).depth) len ≤ 5 - d := by omega
    exact ⟨⟨by omega, h2⟩, fun i hi => ⟨by have := most_le.1 h4 i hi; omega, h3 i hi⟩⟩
  · rintro ⟨⟨h1, h2⟩, h3⟩
    have h4 : most (fun i => (parts i).depth) len ≤ 5 - d := most_le.2 fun i hi => by have := (h3 i hi).1; omega
    exact ⟨by omega, h2, fun i hi => (h3 i hi).2⟩
theorem St.rightAt_mk {k : Int} {words : List ByteArray} {len : Nat} {parts : Nat → St} (d : Nat) :
    (St.mk k words len parts).rightAt d = (decide (d ≤ 5) && headS k words len && (List.range len).all fun i => (parts i).rightAt (d + 1)) := by
  unfold St.rightAt
  rw [St.depth, St.sound, Bool.eq_iff_iff]
  simp only [Bool.and_eq_true, decide_eq_true_eq, List.all_eq_true, List.mem_range]
  constructor
  · rintro ⟨h1, h2, h3⟩
    have h4 : most (fun i => (parts i).depth) len ≤ 5 - d := by omega
    exact ⟨⟨by omega, h2⟩, fun i hi => ⟨by have := most_le.1 h4 i hi; omega, h3 i hi⟩⟩
  · rintro ⟨⟨h1, h2⟩, h3⟩
    have h4 : most (fun i => (parts i).depth) len ≤ 5 - d := most_le.2 fun i hi => by have := (h3 i hi).1; omega
    exact ⟨by omega, h2, fun i hi => (h3 i hi).2⟩
/-- Whether a value fits a schema, both being right. -/
def fitsV : Vt → St → Bool
  | .mk k _ s names _ len parts, .mk k' words _ parts' =>
    decide (k = k') && (if k = 4 then (List.range words.length).any fun i => eqS (nth words i) s
      else if k = 5 then eqL names words && (List.range len).all fun i => fitsV (parts i) (parts' i)
      else if k = 6 then (List.range len).all fun i => fitsV (parts i) (parts' 0)
      else true)
  | _, _ => false
/-- A schema's default. -/
def St.dflt : St → Vt
  | .nul => .nul
  | .mk k words _ parts => .mk k 0 (if k = 4 then nth words 0 else ByteArray.empty) (if k = 5 then words else []) [] (if k = 5 then words.length else 0) fun i => (parts i).dflt

theorem eqS_refl (a : ByteArray) : eqS a a = true := by unfold eqS; exact beq_self_eq_true _
theorem eqL_refl (l : List ByteArray) : eqL l l = true := by
  unfold eqL
  rw [decide_eq_true rfl, Bool.true_and, List.all_eq_true]
  exact fun i _ => eqS_refl _
theorem nameB_sz {s : ByteArray} (h : nameB s = true) : s.size ≤ 12 := by
  unfold nameB at h
  simp only [Bool.and_eq_true, decide_eq_true_eq] at h
  exact h.1.2
theorem riseB_name {l : List ByteArray} (h : riseB l = true) {i : Nat} (hi : i < l.length) : nameB (nth l i) = true := by
  unfold riseB at h
  have h1 := List.all_eq_true.1 h i (List.mem_range.2 hi)
  rw [Bool.and_eq_true] at h1
  exact h1.1
theorem wordsB_name {l : List ByteArray} (h : wordsB l = true) {i : Nat} (hi : i < l.length) : nameB (nth l i) = true := by
  unfold wordsB at h
  have h1 := List.all_eq_true.1 h i (List.mem_range.2 hi)
  rw [Bool.and_eq_true] at h1
  exact h1.1
theorem sz0 : ByteArray.empty.size = 0 := rfl
/-- The default of what is sound is so, no deeper, and fits. -/
theorem dflt_ok : ∀ {s : St}, s.sound = true → s.dflt.sound = true ∧ s.dflt.depth ≤ s.depth ∧ fitsV s.dflt s = true := by
  intro s
  induction s with
  | nul => intro h; cases h
  | mk k words len parts ih =>
    intro h
    rw [St.sound, Bool.and_eq_true, List.all_eq_true] at h
    obtain ⟨h1, h2⟩ := h
    have hp : ∀ i, i < len → (parts i).sound = true := fun i hi => h2 i (List.mem_range.2 hi)
    unfold headS at h1
    rw [St.dflt]
    by_cases c3 : k = 1 ∨ k = 2 ∨ k = 3
    · have e4 : ¬ k = 4 := by omega
      have e5 : ¬ k = 5 := by omega
      have e6 : ¬ k = 6 := by omega
      simp only [if_neg e4, if_neg e5]
      refine ⟨?_, by rw [Vt.depth, St.depth, most]; omega, by rw [fitsV, if_neg e4, if_neg e5, if_neg e6, decide_eq_true rfl]; rfl⟩
      rw [Vt.sound, List.range_zero, List.all_nil, Bool.and_true, headV]
      rcases c3 with rfl | rfl | rfl <;> decide
    · rw [if_neg c3] at h1
      by_cases e4 : k = 4
      · subst e4
        rw [if_pos rfl] at h1
        simp only [Bool.and_eq_true, decide_eq_true_eq] at h1
        rw [if_pos rfl, if_neg (show ¬ (4 : Int) = 5 by decide), if_neg (show ¬ (4 : Int) = 5 by decide)]
        refine ⟨?_, by rw [Vt.depth, St.depth, most]; omega, ?_⟩
        · rw [Vt.sound, List.range_zero, List.all_nil, Bool.and_true, headV, wordsB_name h1.1.2 (by omega), if_neg (by decide), if_neg (by decide), if_neg (by decide), if_pos rfl]
          rfl
        · rw [fitsV, decide_eq_true rfl, if_pos rfl, Bool.true_and, List.any_eq_true]
          exact ⟨0, List.mem_range.2 (by omega), eqS_refl _⟩
      · rw [if_neg e4] at h1
        by_cases e5 : k = 5
        · subst e5
          rw [if_pos rfl] at h1
          simp only [Bool.and_eq_true, decide_eq_true_eq] at h1
          obtain ⟨⟨h3, rfl⟩, h5⟩ := h1
          rw [if_neg e4, if_pos rfl, if_pos rfl]
          refine ⟨?_, ?_, ?_⟩
          · rw [Vt.sound, Bool.and_eq_true, List.all_eq_true]
            refine ⟨?_, fun i hi => (ih i (hp i (List.mem_range.1 hi))).1⟩
            rw [headV, if_neg (by decide), if_neg (by decide), if_neg (by decide), if_neg (by decide), if_pos rfl, h5, decide_eq_true h3, decide_eq_true (rfl : words.length = words.length)]
            rfl
          · rw [Vt.depth, St.depth]
            have := most_le.2 (fun i hi => Nat.le_trans (ih i (hp i hi)).2.1 (most_le.1 (Nat.le_refl (most (fun i => (parts i).depth) words.length)) i hi))
            omega
          · rw [fitsV, decide_eq_true rfl, if_neg e4, if_pos rfl, eqL_refl, Bool.true_and, Bool.true_and, List.all_eq_true]
            exact fun i hi => (ih i (hp i (List.mem_range.1 hi))).2.2
        · rw [if_neg e5] at h1
          by_cases e6 : k = 6
          · subst e6
            simp only [if_neg e4, if_neg e5]
            refine ⟨?_, by rw [Vt.depth, St.depth, most]; omega, ?_⟩
            · rw [Vt.sound, List.range_zero, List.all_nil, Bool.and_true, headV]
              decide
            · rw [fitsV, decide_eq_true rfl, if_neg e4, if_neg e5, if_pos rfl, List.range_zero]
              rfl
          · rw [if_neg e6] at h1
            cases h1

theorem bl_nil (x : List UInt8) : Go.Op.bytesLess x [] = false := by cases x <;> rfl
theorem bl_cons (a : UInt8) (x : List UInt8) (b : UInt8) (y : List UInt8) : Go.Op.bytesLess (a :: x) (b :: y) = true ↔ a < b ∨ (a = b ∧ Go.Op.bytesLess x y = true) := by
  rw [Go.Op.bytesLess, Bool.or_eq_true, Bool.and_eq_true, decide_eq_true_eq, beq_iff_eq]
theorem bl_trans : ∀ {x y z : List UInt8}, Go.Op.bytesLess x y = true → Go.Op.bytesLess y z = true → Go.Op.bytesLess x z = true
  | _, [], _, h, _ => by rw [bl_nil] at h; cases h
  | _, _, [], _, h => by rw [bl_nil] at h; cases h
  | [], _ :: _, _ :: _, _, _ => rfl
  | a :: x, b :: y, c :: z, h, k => by
    rw [bl_cons] at h k ⊢
    rcases h with h | ⟨rfl, h⟩
    · rcases k with k | ⟨rfl, k⟩
      · exact .inl (UInt8.lt_trans h k)
      · exact .inl h
    · rcases k with k | ⟨rfl, k⟩
      · exact .inl k
      · exact .inr ⟨rfl, bl_trans h k⟩
theorem bl_irrefl : ∀ (x : List UInt8), Go.Op.bytesLess x x = false
  | [] => rfl
  | a :: x => by
    rw [← Bool.not_eq_true, bl_cons]
    rintro (h | ⟨_, h⟩)
    · exact UInt8.lt_irrefl a h
    · rw [bl_irrefl x] at h; cases h
theorem bl_tri : ∀ (x y : List UInt8), Go.Op.bytesLess x y = true ∨ x = y ∨ Go.Op.bytesLess y x = true
  | [], [] => .inr (.inl rfl)
  | [], _ :: _ => .inl rfl
  | _ :: _, [] => .inr (.inr rfl)
  | a :: x, b :: y => by
    rw [bl_cons, bl_cons]
    rcases Nat.lt_trichotomy a.toNat b.toNat with h | h | h
    · exact .inl (.inl (UInt8.lt_iff_toNat_lt.2 h))
    · obtain rfl := UInt8.toNat_inj.1 h
      rcases bl_tri x y with h | rfl | h
      · exact .inl (.inr ⟨rfl, h⟩)
      · exact .inr (.inl rfl)
      · exact .inr (.inr (.inr ⟨rfl, h⟩))
    · exact .inr (.inr (.inl (UInt8.lt_iff_toNat_lt.2 h)))
theorem ltS_trans {a b c : ByteArray} (h : ltS a b = true) (k : ltS b c = true) : ltS a c = true := bl_trans h k
/-- Behind, and neither like it nor ahead of it: the same. -/
theorem ltS_iff {a b : ByteArray} : ltS a b = true ↔ (eqS b a || ltS b a) = false := by
  unfold ltS eqS
  rw [Bool.or_eq_false_iff, beq_eq_false_iff_ne]
  constructor
  · intro h
    refine ⟨fun e => ?_, ?_⟩
    · rw [e, bl_irrefl] at h; cases h
    · rw [← Bool.not_eq_true]
      intro k
      have := bl_trans h k
      rw [bl_irrefl] at this
      cases this
  · rintro ⟨h, k⟩
    rcases bl_tri a.toList b.toList with h1 | h1 | h1
    · exact h1
    · exact absurd h1.symm h
    · rw [k] at h1; cases h1
/-- Each behind all before it. -/
def pairB (l : List ByteArray) : Bool := (List.range l.length).all fun i => nameB (nth l i) && (List.range i).all fun j => !(eqS (nth l i) (nth l j) || ltS (nth l i) (nth l j))
theorem pair_rise (l : List ByteArray) : pairB l = riseB l := by
  rw [Bool.eq_iff_iff]
  unfold pairB riseB
  simp only [List.all_eq_true, List.mem_range, Bool.and_eq_true, Bool.or_eq_true, decide_eq_true_eq, Bool.not_eq_true']
  constructor
  · intro h i hi
    refine ⟨(h i hi).1, ?_⟩
    by_cases h0 : i = 0
    · exact .inl h0
    · exact .inr (ltS_iff.2 ((h i hi).2 (i - 1) (by omega)))
  · intro h i hi
    refine ⟨(h i hi).1, fun j hj => ?_⟩
    rw [← ltS_iff]
    have hall : ∀ d j, j + d + 1 < l.length → ltS (nth l j) (nth l (j + d + 1)) = true := by
      intro d
      induction d with
      | zero =>
        intro j hj
        rcases (h (j + 1) hj).2 with h1 | h1
        · omega
        · simpa using h1
      | succ d ih =>
        intro j hj
        refine ltS_trans (ih j (by omega)) ?_
        rcases (h (j + (d + 1) + 1) hj).2 with h1 | h1
        · omega
        · rwa [show j + (d + 1) + 1 - 1 = j + d + 1 by omega] at h1
    have := hall (i - j - 1) j (by omega)
    rwa [show j + (i - j - 1) + 1 = i by omega] at this
end

section
/-- A number's bytes. -/
def enc (n : Nat) : List UInt8 :=
  if h : n < 128 then [UInt8.ofNat n] else UInt8.ofNat (n % 128 + 128) :: enc (n / 128)
termination_by n
decreasing_by omega

/-- The number that bytes begin with, of whatever size, and how many bytes it has. -/
def rdec : List UInt8 → Option (Nat × Nat)
  | [] => none
  | c :: r => if c.toNat < 128 then some (c.toNat, 1) else
    match rdec r with
    | none => none
    | some (n, s) => if n = 0 then none else some (c.toNat % 128 + 128 * n, s + 1)

/-- The number of 64 bits that bytes begin with. -/
def dec (l : List UInt8) : Option (Nat × Nat) :=
  match rdec l with
  | none => none
  | some (n, s) => if n < 18446744073709551616 then some (n, s) else none

/-- The value of digits, the lowest one first. -/
def dig : List UInt8 → Nat
  | [] => 0
  | c :: r => c.toNat % 128 + 128 * dig r

theorem toNat_low {n : Nat} (h : n < 256) : (UInt8.ofNat n).toNat = n := by simp [Nat.mod_eq_of_lt h]

theorem enc_small {n : Nat} (h : n < 128) : enc n = [UInt8.ofNat n] := by rw [enc, dif_pos h]
theorem enc_big {n : Nat} (h : ¬ n < 128) : enc n = UInt8.ofNat (n % 128 + 128) :: enc (n / 128) := by rw [enc, dif_neg h]

theorem rdec_enc (n : Nat) : ∀ r : List UInt8, rdec (enc n ++ r) = some (n, (enc n).length) := by
  induction n using Nat.strongRecOn with
  | ind n ih =>
    intro r
    by_cases h : n < 128
    · rw [enc_small h]
      have h1 := toNat_low (n := n) (by omega)
      simp only [List.cons_append, List.nil_append, rdec, h1, if_pos h, List.length_cons, List.length_nil]
    · rw [enc_big h]
      have h1 := toNat_low (n := n % 128 + 128) (by omega)
      have h2 := ih (n / 128) (by omega) r
      have h3 : ¬ n % 128 + 128 < 128 := by omega
      have h4 : ¬ n / 128 = 0 := by omega
      simp only [List.cons_append, rdec, h1, if_neg h3, h2, if_neg h4, List.length_cons]
      congr 2
      omega

theorem enc_rdec : ∀ (l : List UInt8) (n s : Nat), rdec l = some (n, s) → s ≤ l.length ∧ 0 < s ∧ l.take s = enc n := by
  intro l
  induction l with
  | nil => intro n s h; simp [rdec] at h
  | cons c r ih =>
    intro n s h
    rw [rdec] at h
    by_cases hc : c.toNat < 128
    · rw [if_pos hc] at h
      injection h with h; injection h with h1 h2
      subst h1 h2
      refine ⟨by simp, by omega, ?_⟩
      rw [enc_small hc]
      simp
    · rw [if_neg hc] at h
      cases hr : rdec r with
      | none => rw [hr] at h; cases h
      | some p =>
        obtain ⟨m, t⟩ := p
        rw [hr] at h
        have hcl : c.toNat < 256 := c.toNat_lt
        by_cases hm : m = 0
        · simp [hm] at h
        · simp only [if_neg hm] at h
          injection h with h; injection h with h1 h2
          subst h1 h2
          obtain ⟨g1, g2, g3⟩ := ih m t hr
          refine ⟨by simp; omega, by omega, ?_⟩
          rw [enc_big (by omega), List.take_succ_cons, g3]
          have e1 : (c.toNat % 128 + 128 * m) % 128 + 128 = c.toNat := by omega
          have e2 : (c.toNat % 128 + 128 * m) / 128 = m := by omega
          rw [e1, e2]
          simp

theorem enc_length_le {n : Nat} (h : n < 18446744073709551616) : (enc n).length ≤ 10 := by
  have step : ∀ (k n : Nat), n < 128 ^ (k + 1) → (enc n).length ≤ k + 1 := by
    intro k
    induction k with
    | zero => intro n h; rw [enc_small (by simpa using h)]; simp
    | succ k ih =>
      intro n h
      by_cases hn : n < 128
      · rw [enc_small hn]; simp
      · rw [enc_big hn, List.length_cons]
        have := ih (n / 128) (by rw [Nat.div_lt_iff_lt_mul (by omega)]; rw [Nat.pow_succ] at h; exact h)
        omega
  exact step 9 n (by omega)
theorem enc_length_pos (n : Nat) : 0 < (enc n).length := by
  by_cases h : n < 128
  · rw [enc_small h]; simp
  · rw [enc_big h]; simp

theorem dec_enc {n : Nat} (h : n < 18446744073709551616) (r : List UInt8) : dec (enc n ++ r) = some (n, (enc n).length) := by
  unfold dec; rw [rdec_enc]; simp [h]

theorem enc_dec {l : List UInt8} {n s : Nat} (h : dec l = some (n, s)) : n < 18446744073709551616 ∧ s ≤ l.length ∧ 0 < s ∧ l.take s = enc n := by
  unfold dec at h
  cases hr : rdec l with
  | none => rw [hr] at h; cases h
  | some p =>
    obtain ⟨m, t⟩ := p
    rw [hr] at h
    by_cases hm : m < 18446744073709551616
    · simp only [if_pos hm] at h
      injection h with h; injection h with h1 h2
      subst h1 h2
      exact ⟨hm, enc_rdec l _ _ hr⟩
    · simp [hm] at h

theorem dig_snoc (l : List UInt8) (c : UInt8) : dig (l ++ [c]) = dig l + c.toNat % 128 * 128 ^ l.length := by
  induction l with
  | nil => simp [dig]
  | cons d r ih =>
    simp only [List.cons_append, dig, ih, List.length_cons, Nat.pow_succ, Nat.mul_add]
    have : 128 * (c.toNat % 128 * 128 ^ r.length) = c.toNat % 128 * (128 ^ r.length * 128) := by
      rw [Nat.mul_comm 128, Nat.mul_assoc]
    omega

theorem dig_lt (l : List UInt8) : dig l < 128 ^ l.length := by
  induction l with
  | nil => simp [dig]
  | cons d r ih => simp only [dig, List.length_cons, Nat.pow_succ]; omega

/-- What bytes come to behind a row of digits that go on. -/
theorem rdec_front : ∀ (p r : List UInt8), (∀ c ∈ p, ¬ c.toNat < 128) →
    rdec (p ++ r) = match rdec r with
      | none => none
      | some (n, s) => if n = 0 ∧ p ≠ [] then none else some (dig p + 128 ^ p.length * n, s + p.length) := by
  intro p
  induction p with
  | nil => intro r _; cases h : rdec r with
    | none => simp [h]
    | some q => simp [h, dig]
  | cons c p ih =>
    intro r hp
    have hc := hp c (by simp)
    have ih := ih r (fun d hd => hp d (by simp [hd]))
    rw [List.cons_append, rdec, if_neg hc, ih]
    cases h : rdec r with
    | none => rfl
    | some q =>
      obtain ⟨n, s⟩ := q
      by_cases hn : n = 0
      · subst hn
        by_cases hpn : p = []
        · subst hpn; simp [dig]
        · simp [hpn]
      · have h1 : ¬ dig p + 128 ^ p.length * n = 0 := by
          have : 0 < 128 ^ p.length * n := Nat.mul_pos (Nat.pow_pos (by omega)) (by omega)
          omega
        simp only [hn, false_and, if_false, if_neg h1, dig, List.length_cons, Nat.pow_succ]
        congr 2
        · rw [Nat.mul_add, Nat.mul_comm (128 ^ p.length) 128, Nat.mul_assoc]; omega

section
variable {k : List UInt8} {j : Nat}
theorem cut_at {x : UInt8} (hx : k[j]? = some x) : k = k.take j ++ x :: k.drop (j + 1) := by
  obtain ⟨hj, e⟩ := List.getElem?_eq_some_iff.1 hx
  rw [← e, List.getElem_cons_drop, List.take_append_drop]
theorem len_take {x : UInt8} (hx : k[j]? = some x) : (k.take j).length = j := by
  obtain ⟨hj, _⟩ := List.getElem?_eq_some_iff.1 hx
  rw [List.length_take]; omega
theorem dec_end (h : ∀ d ∈ k, ¬ d.toNat < 128) : dec k = none := by
  have := rdec_front k [] h
  rw [List.append_nil] at this
  unfold dec; rw [this]; simp [rdec]
theorem dec_stop {x : UInt8} (h : ∀ d ∈ k.take j, ¬ d.toNat < 128) (hx : k[j]? = some x) (hj : j = 9) (h1 : 1 < x.toNat) : dec k = none := by
  have hl := len_take hx
  have hf := rdec_front (k.take j) (x :: k.drop (j + 1)) h
  rw [← cut_at hx, hl, hj] at hf
  have hb : ∀ n, 2 ≤ n → ¬ dig (k.take 9) + 128 ^ 9 * n < 18446744073709551616 := by
    intro n hn
    have : 128 ^ 9 * 2 ≤ 128 ^ 9 * n := Nat.mul_le_mul_left _ hn
    omega
  unfold dec
  rw [hf]
  by_cases hc : x.toNat < 128
  · have h0 : ¬ x.toNat = 0 := by omega
    simp only [rdec, if_pos hc, h0, false_and, if_false, if_neg (hb _ h1)]
  · simp only [rdec, if_neg hc]
    cases hr : rdec (k.drop (9 + 1)) with
    | none => rfl
    | some q =>
      obtain ⟨n, s⟩ := q
      by_cases hn : n = 0
      · simp [hn]
      · have h2 : ¬ x.toNat % 128 + 128 * n = 0 := by omega
        simp only [if_neg hn, h2, false_and, if_false, if_neg (hb (x.toNat % 128 + 128 * n) (by omega))]
theorem dec_zero {x : UInt8} (h : ∀ d ∈ k.take j, ¬ d.toNat < 128) (hx : k[j]? = some x) (hj : 0 < j) (h1 : x.toNat = 0) : dec k = none := by
  have hl := len_take hx
  have hf := rdec_front (k.take j) (x :: k.drop (j + 1)) h
  have hp : k.take j ≠ [] := by intro e; rw [e] at hl; simp at hl; omega
  rw [← cut_at hx] at hf
  unfold dec
  rw [hf]
  simp [rdec, h1, hp]
theorem dec_val {x : UInt8} (h : ∀ d ∈ k.take j, ¬ d.toNat < 128) (hx : k[j]? = some x) (hj : j ≤ 9) (h9 : j = 9 → x.toNat ≤ 1) (hc : x.toNat < 128) (h0 : x.toNat = 0 → j = 0) :
    dec k = some (dig (k.take j) + x.toNat % 128 * 128 ^ j, j + 1) := by
  have hl := len_take hx
  have hf := rdec_front (k.take j) (x :: k.drop (j + 1)) h
  have hd := dig_lt (k.take j)
  rw [← cut_at hx] at hf
  rw [hl] at hf hd
  have hm : x.toNat % 128 = x.toNat := Nat.mod_eq_of_lt hc
  have hn : ¬ (x.toNat = 0 ∧ k.take j ≠ []) := by
    rintro ⟨e, hp⟩
    have := h0 e
    subst this
    simp at hp
  have hv : dig (k.take j) + 128 ^ j * x.toNat < 18446744073709551616 := by
    have h1 : dig (k.take j) + 128 ^ j * x.toNat < 128 ^ j * (x.toNat + 1) := by rw [Nat.mul_add]; omega
    by_cases hj9 : j = 9
    · have := h9 hj9
      have h2 : 128 ^ j * (x.toNat + 1) ≤ 128 ^ j * 2 := Nat.mul_le_mul_left _ (by omega)
      rw [hj9] at h1 h2 ⊢
      omega
    · have h2 : 128 ^ j * (x.toNat + 1) ≤ 128 ^ 8 * 128 := Nat.mul_le_mul (Nat.pow_le_pow_right (by omega) (by omega)) (by omega)
      omega
  unfold dec
  rw [hf]
  simp only [rdec, if_pos hc, if_neg hn, if_pos hv]
  rw [hm, Nat.mul_comm (128 ^ j), Nat.add_comm 1 j]
theorem take_all_succ {x : UInt8} (h : ∀ d ∈ k.take j, ¬ d.toNat < 128) (hx : k[j]? = some x) (hc : ¬ x.toNat < 128) : ∀ d ∈ k.take (j + 1), ¬ d.toNat < 128 := by
  intro d hd
  rw [List.take_add_one, hx] at hd
  simp at hd
  rcases hd with hd | hd
  · exact h d hd
  · rw [hd]; exact hc
theorem dig_succ {x : UInt8} (hx : k[j]? = some x) : dig (k.take (j + 1)) = dig (k.take j) + x.toNat % 128 * 128 ^ j := by
  have hl := len_take hx
  rw [List.take_add_one, hx]
  show dig (k.take j ++ [x]) = _
  rw [dig_snoc, hl]
end
end

section
set_option maxRecDepth 100000

def wB (s : ByteArray) : List UInt8 := enc s.size ++ s.data.toList
def St.bytes : St → List UInt8
  | .nul => []
  | .mk k words _ parts => UInt8.ofNat k.toNat :: (if k = 4 then enc words.length ++ (List.range words.length).flatMap (fun i => wB (nth words i))
    else if k = 5 then enc words.length ++ (List.range words.length).flatMap (fun i => wB (nth words i) ++ (parts i).bytes)
    else if k = 6 then (parts 0).bytes else [])
theorem flat_bmore {α : Type} (f : Nat → List α) (n : Nat) : (List.range (n + 1)).flatMap f = (List.range n).flatMap f ++ f n := by
  rw [List.range_succ, List.flatMap_append]
  simp
theorem flat_blen {f : Nat → List UInt8} {b : Nat} : ∀ {n : Nat}, (∀ i, i < n → (f i).length ≤ b) → ((List.range n).flatMap f).length ≤ n * b
  | 0, _ => by simp
  | n + 1, h => by
    rw [flat_bmore, List.length_append, Nat.add_mul, Nat.one_mul]
    have h1 := flat_blen (f := f) (b := b) (n := n) (fun i hi => h i (by omega))
    have h2 := h n (by omega)
    omega
theorem wB_len {s : ByteArray} (h : s.size ≤ 64) : (wB s).length ≤ 74 := by
  have h1 := enc_length_le (n := s.size) (by omega)
  have h2 : s.data.toList.length = s.size := by simp
  unfold wB
  rw [List.length_append]
  omega
def bnd : Nat → Nat
  | 0 => 0
  | n + 1 => 1000 + 8 * bnd n
theorem bnd_mono : ∀ {n m : Nat}, n ≤ m → bnd n ≤ bnd m
  | 0, _, _ => Nat.zero_le _
  | n + 1, 0, h => absurd h (by omega)
  | n + 1, m + 1, h => by
    have := bnd_mono (n := n) (m := m) (by omega)
    unfold bnd
    omega
theorem bnd_all {n : Nat} (h : n ≤ 6) : bnd n ≤ 100000000 := Nat.le_trans (bnd_mono h) (by decide)
theorem St.bytes_len : ∀ (s : St) (d : Nat), s.rightAt d = true → s.bytes.length ≤ bnd (6 - d) := by
  intro s
  induction s with
  | nul => intro d h; simp [St.bytes]
  | mk k words len parts ih =>
    intro d h
    rw [St.rightAt_mk, Bool.and_eq_true, Bool.and_eq_true, List.all_eq_true] at h
    obtain ⟨⟨h5, hh⟩, hp⟩ := h
    have h5 := of_decide_eq_true h5
    have e1 : 6 - d = (5 - d) + 1 := by omega
    have e2 : 6 - (d + 1) = 5 - d := by omega
    rw [e1, bnd]
    have hpp : ∀ i, i < len → (parts i).bytes.length ≤ bnd (5 - d) := fun i hi => by
      have := ih i (d + 1) (hp i (List.mem_range.2 hi))
      rwa [e2] at this
    unfold St.bytes
    by_cases k4 : k = 4
    · subst k4
      rw [if_pos rfl]
      have hw : wordsB words = true ∧ words.length ≤ 8 := by
        unfold headS at hh
        simp at hh
        exact ⟨hh.1.2, hh.1.1.2⟩
      have h1 := enc_length_le (n := words.length) (by omega)
      have h2 := flat_blen (f := fun i => wB (nth words i)) (b := 74) (n := words.length) (fun i hi => wB_len (by
        have h3 := List.all_eq_true.1 hw.1 i (List.mem_range.2 hi)
        rw [Bool.and_eq_true] at h3
        have := nameB_sz h3.1
        omega))
      have h4 : words.length * 74 ≤ 8 * 74 := Nat.mul_le_mul_right _ hw.2
      simp only [List.length_cons, List.length_append]
      omega
    · by_cases k5 : k = 5
      · subst k5
        rw [if_neg (by decide), if_pos rfl]
        have hw : words.length ≤ 8 ∧ len = words.length ∧ riseB words = true := by
          unfold headS at hh
          simp at hh
          exact ⟨hh.1.1, hh.1.2, hh.2⟩
        have h1 := enc_length_le (n := words.length) (by omega)
        have h2 := flat_blen (f := fun i => wB (nth words i) ++ (parts i).bytes) (b := 74 + bnd (5 - d)) (n := words.length) (fun i hi => by
          rw [List.length_append]
          have h3 := wB_len (s := nth words i) (by have := nameB_sz (riseB_name hw.2.2 hi); omega)
          have h4 := hpp i (by omega)
          omega)
        have h4 : words.length * (74 + bnd (5 - d)) ≤ 8 * (74 + bnd (5 - d)) := Nat.mul_le_mul_right _ hw.1
        simp only [List.length_cons, List.length_append]
        omega
      · by_cases k6 : k = 6
        · subst k6
          rw [if_neg (by decide), if_neg (by decide), if_pos rfl]
          have hw : len = 1 := by
            unfold headS at hh
            simp at hh
            exact hh.2
          have h4 := hpp 0 (by omega)
          simp only [List.length_cons]
          omega
        · rw [if_neg k4, if_neg k5, if_neg k6]
          simp only [List.length_cons, List.length_nil]
          omega
end

section
open Go.RowKit

theorem below_drewN {B : Nat} {a w : World} (h : Below B a w) (n : Nat) : Below B a (w.drewN n) := ⟨h.os, h.tape, h.output, h.size, h.block⟩
/-- Block g is this row. -/
def Row (w : World) (g : Nat) (T : TypeId) (l : List Value) : Prop := w.heap[g]? = some (.cells l.toArray T (0, 0))
section
variable {w w' : World} {g : Nat} {T : TypeId} {l : List Value}
theorem Row.lt (h : Row w g T l) : g < w.heap.size := (Array.getElem?_eq_some_iff.1 h).1
theorem Row.cell (h : Row w g T l) {k : Nat} {v : Value} (hk : l[k]? = some v) : w.cell? ⟨g, k, none⟩ = some v := by
  rw [cell_of_row w g k _ _ _ h, List.getElem?_toArray]; exact hk
theorem Row.free (h : Row w g T l) (k : Nat) : w.frozen? ⟨g, k, none⟩ = false := frozen_of_row w g k _ _ h
theorem Row.set (h : Row w g T l) (k : Nat) (v : Value) : Row (w.setCell ⟨g, k, none⟩ v) g T (l.set k v) := by
  unfold Row at h ⊢
  rw [heap_setCell_same w g _ _ _ _ h, List.setIfInBounds_toArray]
theorem Row.below {B : Nat} (h : Row w g T l) (hb : Below B w w') (hg : g < B) : Row w' g T l := (hb.block g hg).trans h
theorem Row.belowAll (h : Row w g T l) (hb : Below w.heap.size w w') : Row w' g T l := h.below hb h.lt
theorem Row.drewN (h : Row w g T l) (n : Nat) : Row (w.drewN n) g T l := h
theorem Row.only {S : Nat → Prop} (h : Row w g T l) (ho : Only S w w') (hs : ¬ S g) : Row w' g T l := (ho.block g h.lt hs).trans h
theorem Row.rd (h : Row w g T l) {n : Nat} (hn : l.length = n) : Rd w (fun k => k = g) (some ⟨g, 0, none⟩) n l :=
  ⟨hn, fun _ => ⟨_, rfl, rfl, h.lt, fun j u hu => by
    have e : (⟨g, 0, none⟩ : Addr).add j = ⟨g, j, none⟩ := by unfold Addr.add; split <;> simp_all
    rw [e]; exact h.cell hu⟩⟩
theorem Row.new (w : World) (l : List Value) (T : TypeId) : Row (w.alloc (.cells l.toArray T)) w.heap.size T l := heap_alloc_new _ _
theorem Row.alloc (h : Row w g T l) (o : Obj) : Row (w.alloc o) g T l := (Below.heap_alloc _ _ _ h.lt).trans h
theorem Row.setCell (h : Row w g T l) {p : Addr} (hp : g ≠ p.block) (v : Value) : Row (w.setCell p v) g T l := (Below.heap_setCell _ _ _ _ hp).trans h
end

/-- A row of integers that is filled from its first cell on; whole. -/
def Tab (K : IntKind) (f : Nat → Nat) (n k : Nat) : List Value := (List.range n).map fun i => .int K ((if i < k then f i else 0 : Nat) : Int)
def Tabs (K : IntKind) (f : Nat → Nat) (n : Nat) : List Value := (List.range n).map fun i => .int K ((f i : Nat) : Int)
theorem Tab_length (K : IntKind) (f : Nat → Nat) (n k : Nat) : (Tab K f n k).length = n := by simp [Tab]
theorem Tabs_length (K : IntKind) (f : Nat → Nat) (n : Nat) : (Tabs K f n).length = n := by simp [Tabs]
theorem Tab_get (K : IntKind) (f : Nat → Nat) (n k : Nat) {j : Nat} (hj : j < n) : (Tab K f n k)[j]? = some (.int K ((if j < k then f j else 0 : Nat) : Int)) := by simp [Tab, hj]
theorem Tabs_get (K : IntKind) (f : Nat → Nat) (n : Nat) {j : Nat} (hj : j < n) : (Tabs K f n)[j]? = some (.int K ((f j : Nat) : Int)) := by simp [Tabs, hj]
theorem Tab_done (K : IntKind) (f : Nat → Nat) (n : Nat) : Tab K f n n = Tabs K f n := by
  unfold Tab Tabs
  refine List.map_congr_left fun i hi => ?_
  rw [if_pos (List.mem_range.1 hi)]
theorem Tab_zero (K : IntKind) (f : Nat → Nat) (n : Nat) : Tab K f n 0 = List.replicate n (.int K 0) := by
  unfold Tab
  refine List.ext_getElem? fun i => ?_
  by_cases h : i < n <;> simp [h]
theorem Tab_set (K : IntKind) (f : Nat → Nat) (n : Nat) {k : Nat} (hk : k < n) : (Tab K f n k).set k (.int K ((f k : Nat) : Int)) = Tab K f n (k + 1) := by
  refine List.ext_getElem? fun j => ?_
  by_cases hj : j < n
  · rw [List.getElem?_set, Tab_get _ _ _ _ hj, Tab_get _ _ _ _ hj]
    by_cases e : k = j
    · subst e; rw [if_pos rfl, if_pos (by rw [Tab_length]; exact hk), if_pos (by omega)]
    · rw [if_neg e]
      by_cases h2 : j < k
      · rw [if_pos h2, if_pos (by omega)]
      · rw [if_neg h2, if_neg (by omega)]
  · rw [List.getElem?_eq_none (by rw [List.length_set, Tab_length]; omega), List.getElem?_eq_none (by rw [Tab_length]; omega)]
theorem Tabs_one (K : IntKind) (f : Nat → Nat) (n : Nat) : (Tabs K f n).toArray.all (·.oneCell') = true := by
  rw [List.all_toArray, List.all_eq_true]
  intro v hv
  simp only [Tabs, List.mem_map] at hv
  obtain ⟨i, _, rfl⟩ := hv
  rfl
theorem Tabs_congr (K : IntKind) {f g : Nat → Nat} {n : Nat} (h : ∀ i, i < n → f i = g i) : Tabs K f n = Tabs K g n := by
  unfold Tabs
  refine List.map_congr_left fun i hi => ?_
  rw [h i (List.mem_range.1 hi)]
end

section
set_option maxRecDepth 100000
set_option linter.unusedSimpArgs false
set_option linter.unusedVariables false
open Go.RowKit

def rowD : TypeDesc → Bool
  | .struct _ => true
  | .array _ _ => true
  | _ => false
theorem Row.new1 (w : World) (X : Obj) (l : List Value) (T : TypeId) : Row ((w.alloc X).alloc (.cells l.toArray T)) (w.heap.size + 1) T l := heap_alloc2_new _ _ _
theorem Row.new2 (w : World) (X Y : Obj) (l : List Value) (T : TypeId) : Row (((w.alloc X).alloc Y).alloc (.cells l.toArray T)) (w.heap.size + 1 + 1) T l := by
  have h := Row.new ((w.alloc X).alloc Y) l T
  rwa [show ((w.alloc X).alloc Y).heap.size = w.heap.size + 1 + 1 by simp] at h
theorem Below.alloc1 (w : World) (X : Obj) : Below w.heap.size w (w.alloc X) := (Below.refl _ _).alloc (Nat.le_refl _) _
theorem Below.alloc2 (w : World) (X Y : Obj) : Below w.heap.size w ((w.alloc X).alloc Y) := ((Below.refl _ _).alloc (Nat.le_refl _) _).alloc (by simp) _
theorem Below.alloc3 (w : World) (X Y Z : Obj) : Below w.heap.size w (((w.alloc X).alloc Y).alloc Z) := (Below.alloc2 w X Y).alloc (by simp; omega) _
theorem run_loadVar_at {P : Program} (w : World) (a : Addr) (ty : TypeId) (cs : List Value) (d : TypeDesc) (hc : ∀ j v, cs[j]? = some v → w.cell? (a.add j) = some v)
    (hu : P.underlying ty = some d) (hd : rowD d = true) (hi : (P.info? ty).map (·.size) = some cs.length) : (loadVar ty a).run P w = .ok (.agg cs.toArray) w := by
  have hl : (loadCells a cs.length).run P w = .ok cs.toArray w := run_loadCells_list (P := P) w a cs hc
  cases hq : P.info? ty with
  | none => simp [hq] at hi
  | some i =>
    have hs : i.size = cs.length := by simpa [hq] using hi
    have hagg : (isAgg ty).run P w = .ok true w := by
      unfold isAgg
      rw [Sem.run_bind, run_underlying hu w]
      cases d <;> simp_all [rowD]
    simp [loadVar, Sem.run_bind, hagg, sizeOf, typeInfo, hq, hs, hl]
theorem wpList_load_at {P : Program} {ops : Array Oper} {rest : List Oper} {op : Oper} {a : Act} {w : World} {Q : Exit → Act → World → Prop} (hgd : op.guard = none) (ty : TypeId) (x : Operand) (ho : op.op = .load ty x)
    (ad : Addr) (hx : a.eval x = .pointer (some ad)) (cs : List Value) (d : TypeDesc) (hc : ∀ j v, cs[j]? = some v → w.cell? (ad.add j) = some v)
    (hu : P.underlying ty = some d) (hd : rowD d = true) (hi : (P.info? ty).map (·.size) = some cs.length)
    (h : wpList P ops Q rest (a.put op.dst (.agg cs.toArray)) w) : wpList P ops Q (op :: rest) a w :=
  wpList_plain hgd fun _ hK => by
    unfold Oper.wp execOp
    simp only [ho, hx, Instr.loadAt, Instr.sureAddr, Sem.run_bind, Sem.run_pure, Result.andThen_ok, run_loadVar_at w ad ty cs d hc hu hd hi]
    exact hK _ _ h
theorem wpList_indexAt {P : Program} {ops : Array Oper} {rest : List Oper} {o : Oper} {a : Act} {w : World} {Q : Exit → Act → World → Prop} (hgd : o.guard = none) (T : TypeId) (x y : Operand) (ho : o.op = .indexAddr T x y) (u v r : Value) (hx : a.eval x = u) (hy : a.eval y = v)
    (hi : (Instr.indexAt T u v).run P w = .ok r w) (h : wpList P ops Q rest (a.put o.dst r) w) : wpList P ops Q (o :: rest) a w := by
  refine wpList_plain hgd fun _ hK => ?_
  unfold Oper.wp execOp
  simp only [ho, Sem.run_bind, Sem.run_pure, Result.andThen_ok, hx, hy, hi]
  exact hK _ _ h
theorem v_size : (Tryz.prog.info? 44).map (·.size) = some 6 := by kernel_rfl
theorem s_size : (Tryz.prog.info? 25).map (·.size) = some 3 := by kernel_rfl
theorem v_len {cs : List Value} (h : cs.length = 6) : (Tryz.prog.info? 44).map (·.size) = some cs.length := by rw [h]; exact v_size
theorem s_len {cs : List Value} (h : cs.length = 3) : (Tryz.prog.info? 25).map (·.size) = some cs.length := by rw [h]; exact s_size
theorem v_info {cs : List Value} (h : cs.length = 6) : (Tryz.prog.info? 44).map (·.size) = some cs.toArray.size := by rw [List.size_toArray]; exact v_len h
theorem s_info {cs : List Value} (h : cs.length = 3) : (Tryz.prog.info? 25).map (·.size) = some cs.toArray.size := by rw [List.size_toArray]; exact s_len h
theorem ix_v (ad : Addr) (n cap k : Nat) (h : k < n) (w : World) : (Instr.indexAt 42 (.slice (some ad) n cap) (.int .i64 (k : Int))).run Tryz.prog w = .ok (.pointer (some (ad.add (k * 6)))) w := by
  have h1 : (0 : Int) ≤ (k : Int) := by omega
  have h2 : (k : Int) < (n : Int) := by omega
  go_simp
theorem ix_s (ad : Addr) (n cap k : Nat) (h : k < n) (w : World) : (Instr.indexAt 23 (.slice (some ad) n cap) (.int .i64 (k : Int))).run Tryz.prog w = .ok (.pointer (some (ad.add (k * 3)))) w := by
  have h1 : (0 : Int) ≤ (k : Int) := by omega
  have h2 : (k : Int) < (n : Int) := by omega
  go_simp
/-- A part's place, and what is there. -/
theorem Parts.at_ {w : World} {s n : Nat} {c : Option Addr} {css : Nat → List Value} (h : Parts w s c n css) {j : Nat} (hj : j < n) :
    ∃ ad, c = some ad ∧ (css j).length = s ∧ ∀ i u, (css j)[i]? = some u → w.cell? ((ad.add (j * s)).add i) = some u := by
  obtain ⟨ad, e, _, hc⟩ := h (by omega)
  exact ⟨ad, e, (hc j hj).1, fun i u hu => by rw [add_add]; exact (hc j hj).2 i u hu⟩
end

end Go.Proofs.YtkkdjkmnemnpdaaGreatDoor
