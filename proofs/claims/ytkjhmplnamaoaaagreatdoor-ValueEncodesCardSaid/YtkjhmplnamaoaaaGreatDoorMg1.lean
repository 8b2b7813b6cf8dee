/- Words for memory over any program: a slice that reads as a list of cells, what a call may write, an append onto a row of the call's own. Nothing here names a dump. errors.As at a plain number, and what the statements' own Code tells of one; for any number. What the rows' list gives a walk: the cell of the variable that holds the type of errors; and a world that meets it. Values and schemas as trees: what their cells say, however deep they are; what a row's reading of an argument gives. What is right, how deep it is, what fits, what the default is: plain functions on trees; nothing of a program. Numbers as digits of seven bits: the bytes of a number, and the number that bytes begin with. Plain mathematics. A schema's bytes, as a list; how many there may be. A writer of fields in memory, and what writing raw bytes makes of it; for writers whose bytes lie in a row of their own. What each call of a writer leaves: the bytes of the field behind what was written; for rows of up to 2^47 bytes. -/
import Derived.WalkKit
import Derived.WalkSpells
import Derived.WalkLawsBesides
import Derived.Maps.AppendAt
import Derived.Deep.Draws
import Derived.Deep.AppendLies
import Derived.Lib.Hide
import Derived.Test.YtkjhmplnamaoaaaGreatDoorRows
import Derived.RowKitTokens
import Derived.Deep.LoopGhost
import Derived.Stop.Asserts
import Derived.Test.YtkjhmplnamaoaaaGreatDoorCards
import Derived.Test.YtkjhmplnamaoaaaGreatDoorTie
import Derived.ProofKit
import Derived.OpenShut
import Derived.Deep.DeepHandedRow
import Derived.LaidLaws
import Derived.LaidHandle
import Derived.ChangeSame
import Derived.Deep.Strs
import Derived.SliceStrings
import Derived.ChangeSlices
import GoSem.Op.String
import Derived.Deep.QuietTactic
import Derived.BigQuiet
namespace Go.Proofs.YtkjhmplnamaoaaaGreatDoor
section
open Go.RowKit

/-- Nothing but blocks in S (and new ones) differs. -/
structure Only (S : Nat → Prop) (w w' : World) : Prop where
  os : w'.os = w.os
  tape : w'.tape = w.tape
  output : w'.output = w.output
  size : w.heap.size ≤ w'.heap.size
  block : ∀ k, k < w.heap.size → ¬ S k → w'.heap[k]? = w.heap[k]?

section
variable {S T : Nat → Prop} {w w' w'' : World}
theorem Only.refl (S : Nat → Prop) (w : World) : Only S w w := ⟨rfl, rfl, rfl, Nat.le_refl _, fun _ _ _ => rfl⟩
theorem Only.trans (h : Only S w w') (h' : Only T w' w'') (hT : ∀ k, k < w.heap.size → T k → S k) : Only S w w'' :=
  ⟨h'.os.trans h.os, h'.tape.trans h.tape, h'.output.trans h.output, Nat.le_trans h.size h'.size,
    fun k hk hS => (h'.block k (Nat.lt_of_lt_of_le hk h.size) (fun t => hS (hT k hk t))).trans (h.block k hk hS)⟩
theorem Only.mono (h : Only S w w') (hT : ∀ k, k < w.heap.size → S k → T k) : Only T w w' :=
  ⟨h.os, h.tape, h.output, h.size, fun k hk hn => h.block k hk (fun s => hn (hT k hk s))⟩
theorem Only.of_below (h : Below w.heap.size w w') (S : Nat → Prop) : Only S w w' := ⟨h.os, h.tape, h.output, h.size, fun k hk _ => h.block k hk⟩
theorem Only.below (h : Only S w w') {B : Nat} (hB : B ≤ w.heap.size) (hS : ∀ k, S k → B ≤ k) : Below B w w' :=
  ⟨h.os, h.tape, h.output, h.size, fun k hk => h.block k (by omega) (fun s => by have := hS k s; omega)⟩
theorem Only.alloc (h : Only S w w') (o : Obj) : Only S w (w'.alloc o) :=
  h.trans (T := fun _ => False) ⟨rfl, rfl, rfl, by simp, fun k hk _ => Below.heap_alloc _ _ _ hk⟩ (fun _ _ f => f.elim)
theorem Only.drew (h : Only S w w') : Only S w w'.drew := ⟨h.os, h.tape, h.output, h.size, h.block⟩
theorem Only.drewN (h : Only S w w') (n : Nat) : Only S w (w'.drewN n) := ⟨h.os, h.tape, h.output, h.size, h.block⟩
theorem Only.setCell (h : Only S w w') {p : Addr} (hp : S p.block ∨ w.heap.size ≤ p.block) (u : Value) : Only S w (w'.setCell p u) :=
  h.trans (T := fun k => k = p.block) ⟨rfl, rfl, rfl, by simp, fun k hk hn => Below.heap_setCell _ _ _ _ hn⟩
    (fun k hk e => by subst e; rcases hp with hp | hp; exact hp; omega)
theorem Only.grown {row : Option Nat} (h : Only S w w') (hg : w'.grownBy w'' row) (hr : ∀ k, row = some k → S k ∨ w.heap.size ≤ k) : Only S w w'' :=
  h.trans (T := fun k => row = some k) ⟨hg.os, hg.tape, hg.output, hg.size, fun k hk hn => hg.block k hk (fun e => hn e.symm)⟩
    (fun k hk e => by rcases hr k e with hp | hp; exact hp; omega)
theorem Only.cell (h : Only S w w') {a : Addr} (hs : ¬ S a.block) (hl : a.block < w.heap.size) : w'.cell? a = w.cell? a := World.cell?_of_block (h.block _ hl hs)
theorem Only.frozen (h : Only S w w') {a : Addr} (hs : ¬ S a.block) (hl : a.block < w.heap.size) : w'.frozen? a = w.frozen? a := World.frozen?_of_block (h.block _ hl hs)
theorem lt_of_cell {a : Addr} {v : Value} (h : w.cell? a = some v) : a.block < w.heap.size := block_lt_of_cell h
end

theorem add_block (a : Addr) (n : Nat) : (a.add n).block = a.block := by unfold Addr.add; split <;> rfl
theorem add_add (a : Addr) (i j : Nat) : (a.add i).add j = a.add (i + j) := by
  unfold Addr.add
  by_cases hi : i = 0 <;> by_cases hj : j = 0 <;> simp [hi, hj, Nat.add_assoc]

/-- The slice at 'a' with n elements of one cell reads as xs; its block is in F. -/
def Rd (w : World) (F : Nat → Prop) (a : Option Addr) (n : Nat) (xs : List Value) : Prop :=
  xs.length = n ∧ (0 < n → ∃ ad, a = some ad ∧ F ad.block ∧ ad.block < w.heap.size ∧ ∀ j u, xs[j]? = some u → w.cell? (ad.add j) = some u)

section
variable {w w' : World} {F S : Nat → Prop} {a : Option Addr} {n : Nat} {xs : List Value}
theorem Rd.at_ {k : Nat} (h : Rd w F a n xs) (hk : k < n) : ∃ ad u, a = some ad ∧ ad.block < w.heap.size ∧ xs[k]? = some u ∧ w.cell? (ad.add k) = some u := by
  obtain ⟨ad, e, _, hb, hc⟩ := h.2 (by omega)
  have hl : k < xs.length := by have := h.1; omega
  exact ⟨ad, xs[k], e, hb, List.getElem?_eq_getElem hl, hc k _ (List.getElem?_eq_getElem hl)⟩
theorem Rd.keep (h : Rd w F a n xs) (hs : w.heap.size ≤ w'.heap.size) (hk : ∀ k, F k → k < w.heap.size → w'.heap[k]? = w.heap[k]?) : Rd w' F a n xs :=
  ⟨h.1, fun hn => by
    obtain ⟨ad, e, hF, hb, hc⟩ := h.2 hn
    exact ⟨ad, e, hF, by omega, fun j u hu => (World.cell?_of_block (by rw [add_block]; exact hk _ hF hb)).trans (hc j u hu)⟩⟩
theorem Rd.only (h : Rd w F a n xs) (ho : Only S w w') (hd : ∀ k, F k → ¬ S k) : Rd w' F a n xs := h.keep ho.size fun k hF hk => ho.block k hk (hd k hF)
theorem Rd.below (h : Rd w F a n xs) {B : Nat} (hb : Below B w w') (hF : ∀ k, k < w.heap.size → F k → k < B) : Rd w' F a n xs := h.keep hb.size fun k hk hl => hb.block k (hF k hl hk)
theorem Rd.belowAll (h : Rd w F a n xs) (hb : Below w.heap.size w w') : Rd w' F a n xs := h.keep hb.size fun k _ hl => hb.block k hl
theorem Rd.mono (h : Rd w F a n xs) {G : Nat → Prop} (hG : ∀ k, k < w.heap.size → F k → G k) : Rd w G a n xs :=
  ⟨h.1, fun hn => by
    obtain ⟨ad, e, hF, hb, hc⟩ := h.2 hn
    exact ⟨ad, e, hG _ hb hF, hb, hc⟩⟩
theorem Rd.nil (w : World) (F : Nat → Prop) (a : Option Addr) : Rd w F a 0 [] := ⟨rfl, fun h => absurd h (by omega)⟩
theorem Rd.of_own {base : Nat} {e : TypeId} {c : Nat} (h : w.ownsRow base e 1 (.slice a n c) n xs) : Rd w (fun k => (Value.slice a n c).ownBlock = some k) a n xs := by
  refine ⟨by simpa using h.1, fun hn => ?_⟩
  obtain ⟨g, cap, hv, _, hlt⟩ := h.form hn
  have ha : a = some ⟨g, 0, none⟩ := by injection hv
  subst ha
  exact ⟨_, rfl, rfl, hlt, h.cells (g := g) rfl⟩
end

/-- Bytes as cells. -/
def Bs (l : List UInt8) : List Value := l.map fun c => .int .u8 (c.toNat : Int)
theorem Bs_length (l : List UInt8) : (Bs l).length = l.length := by simp [Bs]
theorem Bs_append (l m : List UInt8) : Bs (l ++ m) = Bs l ++ Bs m := by simp [Bs]
theorem Bs_get (l : List UInt8) (k : Nat) : (Bs l)[k]? = l[k]?.map fun c => .int .u8 (c.toNat : Int) := by simp [Bs]
theorem Bs_one (l : List UInt8) : ∀ u ∈ Bs l, u.oneCell' = true := by
  intro u hu
  simp only [Bs, List.mem_map] at hu
  obtain ⟨c, _, rfl⟩ := hu
  rfl

theorem Rd.byte {w : World} {F : Nat → Prop} {a : Option Addr} {n k : Nat} {l : List UInt8} (h : Rd w F a n (Bs l)) (hk : k < n) :
    ∃ ad c, a = some ad ∧ ad.block < w.heap.size ∧ l[k]? = some c ∧ w.cell? (ad.add k) = some (.int .u8 (c.toNat : Int)) := by
  obtain ⟨ad, u, e, hb, hu, hc⟩ := h.at_ hk
  rw [Bs_get] at hu
  cases hl : l[k]? with
  | none => rw [hl] at hu; cases hu
  | some c => rw [hl] at hu; cases hu; exact ⟨ad, c, e, hb, rfl, hc⟩
theorem Rd.len {w : World} {F : Nat → Prop} {a : Option Addr} {n : Nat} {l : List UInt8} (h : Rd w F a n (Bs l)) : l.length = n := by have := h.1; rwa [Bs_length] at this

theorem own_only {w w' : World} {S : Nat → Prop} {base : Nat} {e : TypeId} {size : Nat} {v : Value} {n : Nat} {xs : List Value} (h : w.ownsRow base e size v n xs) (ho : Only S w w') (hs : ∀ k, v.ownBlock = some k → ¬ S k) :
    w'.ownsRow base e size v n xs := by
  refine ⟨h.1, ?_⟩
  rcases h.2 with hn | ⟨g, cap, cur, rfl, hb, hg, r⟩
  · exact .inl hn
  · exact .inr ⟨g, cap, cur, rfl, hb, (ho.block g (Array.getElem?_eq_some_iff.1 hg).1 (hs g rfl)).trans hg, r⟩
theorem own_below {w w' : World} {base : Nat} {e : TypeId} {size : Nat} {v : Value} {n : Nat} {xs : List Value} (h : w.ownsRow base e size v n xs) (ho : Below w.heap.size w w') : w'.ownsRow base e size v n xs :=
  own_only h (Only.of_below ho (fun _ => False)) fun _ _ h => h
theorem own_base {w : World} {b b' : Nat} {e : TypeId} {size : Nat} {v : Value} {n : Nat} {xs : List Value} (h : w.ownsRow b e size v n xs) (hb : b' ≤ b) : w.ownsRow b' e size v n xs := by
  refine ⟨h.1, ?_⟩
  rcases h.2 with hn | ⟨g, cap, cur, rfl, hg, r⟩
  · exact .inl hn
  · exact .inr ⟨g, cap, cur, rfl, by omega, r⟩
theorem own_slice {w : World} {base : Nat} {e : TypeId} {v : Value} {n : Nat} {xs : List Value} (h : w.ownsRow base e 1 v n xs) : ∃ A c, v = .slice A n c := by
  rcases h.2 with ⟨rfl, rfl⟩ | ⟨g, cap, _, rfl, _⟩
  · exact ⟨_, _, rfl⟩
  · exact ⟨_, _, rfl⟩

theorem own_cap {w : World} {base : Nat} {e : TypeId} {A : Option Addr} {n c : Nat} {xs : List Value} (h : w.ownsRow base e 1 (.slice A n c) n xs) : xs.length ≤ c := by
  have h1 := h.1
  rcases h.2 with ⟨hv, rfl⟩ | ⟨g, cap, cur, hv, _, _, hn, _⟩
  · omega
  · injection hv with _ _ hc; omega
theorem own_cap_le {w : World} {base : Nat} {e : TypeId} {A : Option Addr} {n c : Nat} {xs : List Value} (h : w.ownsRow base e 1 (.slice A n c) n xs) : c ≤ maxLen := by
  rcases h.2 with ⟨hv, rfl⟩ | ⟨g, cap, cur, hv, _, _, _, hm, _⟩
  · injection hv with _ _ hc; subst hc; unfold maxLen; omega
  · injection hv with _ _ hc; omega

theorem Rd.lit (w : World) (xs : List Value) (cs : Array Value) (t : TypeId) (h : cs.toList = xs) (n : Nat) (hn : xs.length = n) : Rd (w.alloc (.cells cs t)) (fun k => k = w.heap.size) (some ⟨w.heap.size, 0, none⟩) n xs := by
  refine ⟨hn, fun _ => ⟨_, rfl, rfl, by simp, fun j u hu => ?_⟩⟩
  have e : (⟨w.heap.size, 0, none⟩ : Addr).add j = ⟨w.heap.size, j, none⟩ := by unfold Addr.add; split <;> simp_all
  rw [e, World.cell?_alloc_new, ← hu, ← h]
  simp

section
variable {P : Program} (w : World)

theorem append_nothing (base : Nat) (t ty e : TypeId) (i : TypeInfo) (ht : P.underlying t = some (.slice e)) (hi : P.info? e = some i)
    (v : Value) (n : Nat) (xs : List Value) (hown : w.ownsRow base e 1 v n xs) (c : Nat) : (Builtin.append_ #[t, t] ty #[v, .slice none 0 c]).run P w = .ok v w := by
  rcases hown.2 with ⟨rfl, rfl⟩ | ⟨g, cap, cur, rfl, _, _, hnc, _⟩
  · simp [Builtin.append_, run_underlying ht, sizeOf, typeInfo, hi, Builtin.lenOf, Builtin.firstCells]
  · simp [Builtin.append_, run_underlying ht, sizeOf, typeInfo, hi, Builtin.lenOf, Builtin.firstCells, hnc, storeCells]

/-- append onto a row of the call's own; the source may be nil or empty. -/
theorem append_rd (base : Nat) (t ty e : TypeId) (i : TypeInfo) (z : Value) (bytes : Nat) (ht : P.underlying t = some (.slice e)) (hi : P.info? e = some i) (hz : i.zero = some z)
    (hsize : i.size = 1) (hby : i.bytes = bytes) (hzs : z.cells.size = 1)
    (v : Value) (n : Nat) (xs : List Value) (hown : w.ownsRow base e 1 v n xs)
    (F : Nat → Prop) (a : Option Addr) (m c : Nat) (news : List Value) (hr : Rd w F a m news) (h1 : ∀ u ∈ news, u.oneCell' = true)
    (h63 : n + m ≤ maxLen) (hbytes : (n + m) * bytes ≤ 140737488355328) (hbase : base ≤ w.heap.size) :
    ∃ v' w', (Builtin.append_ #[t, t] ty #[v, .slice a m c]).run P w = .ok v' w' ∧ w'.ownsRow base e 1 v' (n + m) (xs ++ news) ∧ w.grownBy w' v.ownBlock ∧
      (v'.ownBlock = v.ownBlock ∨ v'.ownBlock = some w.heap.size) := by
  obtain ⟨hlen, hcells⟩ := hr
  by_cases hm : m = 0
  · subst hm
    obtain rfl : news = [] := List.eq_nil_of_length_eq_zero hlen
    rcases a with _ | ad
    · exact ⟨v, w, append_nothing w base t ty e i ht hi v n xs hown c, by simpa using hown, World.grownBy.refl w _, .inl rfl⟩
    · obtain ⟨v', w', hrun, h2, h3, _, h5⟩ := run_append_own_at (P := P) w base t ty e i z 1 bytes ht hi hz hsize hby hzs (by omega) v n xs hown ad 0 c [] rfl (by intro j u hu; simp at hu) h1 h63 hbytes hbase
      exact ⟨v', w', hrun, h2, h3, h5⟩
  · obtain ⟨ad, rfl, _, _, hc⟩ := hcells (by omega)
    obtain ⟨v', w', hrun, h2, h3, _, h5⟩ := run_append_own_at (P := P) w base t ty e i z 1 bytes ht hi hz hsize hby hzs (by omega) v n xs hown ad m c news (by omega) hc h1 h63 hbytes hbase
    exact ⟨v', w', hrun, h2, h3, h5⟩

theorem wpList_append_rd {ops : Array Oper} {rest : List Oper} {o : Oper} {a : Act} {Q : Exit → Act → World → Prop} (hgd : o.guard = none) (s x : Operand) (t : TypeId)
    (ho : o.op = .call { callee := .builtin .append, args := #[s, x], argTypes := #[t, t] })
    (base : Nat) (e : TypeId) (i : TypeInfo) (z : Value) (bytes : Nat) (ht : P.underlying t = some (.slice e)) (hi : P.info? e = some i) (hz : i.zero = some z)
    (hsize : i.size = 1) (hby : i.bytes = bytes) (hzs : z.cells.size = 1)
    (v : Value) (n : Nat) (xs : List Value) (hs : a.eval s = v) (hown : w.ownsRow base e 1 v n xs)
    (F : Nat → Prop) (A : Option Addr) (m c : Nat) (news : List Value) (hx : a.eval x = .slice A m c) (hr : Rd w F A m news) (h1 : ∀ u ∈ news, u.oneCell' = true)
    (h63 : n + m ≤ maxLen) (hbytes : (n + m) * bytes ≤ 140737488355328) (hbase : base ≤ w.heap.size)
    (h : ∀ v' w', w'.ownsRow base e 1 v' (n + m) (xs ++ news) → w.grownBy w' v.ownBlock → (v'.ownBlock = v.ownBlock ∨ v'.ownBlock = some w.heap.size) → wpList P ops Q rest (a.put o.dst v') w') : wpList P ops Q (o :: rest) a w := by
  refine wpList_plain hgd fun _ hK => ?_
  obtain ⟨v', w', hrun, h2, h3, h4⟩ := append_rd (P := P) w base t o.type e i z bytes ht hi hz hsize hby hzs v n xs hown F A m c news hr h1 h63 hbytes hbase
  unfold Oper.wp execOp
  simp only [ho, resolve, invoke, builtin, Sem.run_bind, Sem.run_pure, Result.andThen_ok, List.map_toArray, List.map_cons, List.map_nil, hs, hx, hrun]
  exact hK _ _ (h v' w' h2 h3 h4)
end
end

section
open Go.RowKit Go.Extern.Stop Go.Stop Go.Extern

theorem rf_valueE (t : Addr) (w : World) : (ReflectliteValue.unpack (.iface 50 (.pointer (some t)))).run Tryz.prog w
    = .ok (.agg #[.pointer (some ⟨1, 50, none⟩), .pointer (some ⟨w.heap.size, 0, none⟩), .int .u64 150]) (w.alloc (.cells #[.pointer (some t)] 50)) := by kernel_rfl
theorem rf_typeE (a : Addr) (w : World) : (ReflectliteValue.methodAny (ReflectliteValue.valueError "reflectlite.Value.Type" 0) (fun t _ _ _ => ReflectliteType.toType t) #[.agg #[.pointer (some ⟨1, 50, none⟩), .pointer (some a), .int .u64 150]]).run Tryz.prog w
    = .ok (.iface 101 (.agg #[.pointer (some ⟨1, 50, none⟩)])) w := by kernel_rfl
theorem rf_mkind (h : Value) (w : World) : (Go.method 303 101 (.agg #[h]) "Kind").run Tryz.prog w = .ok (137, h) w := by kernel_rfl
theorem rf_melem (h : Value) (w : World) : (Go.method 303 101 (.agg #[h]) "Elem").run Tryz.prog w = .ok (148, .agg #[h]) w := by kernel_rfl
theorem rf_mimpl (h : Value) (w : World) : (Go.method 303 101 (.agg #[h]) "Implements").run Tryz.prog w = .ok (149, .agg #[h]) w := by kernel_rfl
theorem rf_massign (h : Value) (w : World) : (Go.method 303 101 (.agg #[h]) "AssignableTo").run Tryz.prog w = .ok (146, .agg #[h]) w := by kernel_rfl
theorem rf_kind_pE (w : World) : ((ReflectliteType.abiMethod fun t => (fun a : Nat => Value.int IntKind.u8 (a : Int)) <$> Rtype.kind t) #[.pointer (some ⟨1, 50, none⟩)]).run Tryz.prog w = .ok (.int .u8 22) w := by kernel_rfl
theorem rf_kind_E (w : World) : ((ReflectliteType.abiMethod fun t => (fun a : Nat => Value.int IntKind.u8 (a : Int)) <$> Rtype.kind t) #[.pointer (some ⟨1, 42, none⟩)]).run Tryz.prog w = .ok (.int .u8 2) w := by kernel_rfl
theorem rf_elem_pE (w : World) : (ReflectliteType.method ReflectliteType.elem #[.agg #[.pointer (some ⟨1, 50, none⟩)]]).run Tryz.prog w = .ok (.iface 101 (.agg #[.pointer (some ⟨1, 42, none⟩)])) w := by kernel_rfl
theorem rf_impl_E (w : World) : (ReflectliteType.relation "Implements" ReflectliteType.implements_ #[.agg #[.pointer (some ⟨1, 42, none⟩)], .iface 101 (.agg #[.pointer (some ⟨1, 31, none⟩)])]).run Tryz.prog w = .ok (.bool true) w := by kernel_rfl
theorem rf_typeOf_E (v : Value) (w : World) : (ReflectliteType.typeOf #[.iface 42 v]).run Tryz.prog w = .ok (.iface 101 (.agg #[.pointer (some ⟨1, 42, none⟩)])) w := by kernel_rfl
theorem rf_as_EE (w : World) : (ReflectliteType.relation "AssignableTo" ReflectliteType.assignableTo #[.agg #[.pointer (some ⟨1, 42, none⟩)], .iface 101 (.agg #[.pointer (some ⟨1, 42, none⟩)])]).run Tryz.prog w = .ok (.bool true) w := by kernel_rfl
theorem rf_val_E (x : Int) (w : World) : (ReflectliteValue.unpack (.iface 42 (.int .i64 x))).run Tryz.prog w
    = .ok (.agg #[.pointer (some ⟨1, 42, none⟩), .pointer (some ⟨w.heap.size, 0, none⟩), .int .u64 130]) (w.alloc (.cells #[.int .i64 x] 42)) := by kernel_rfl
theorem rf_lm (z : Sem Value) (f : TypeId → Addr → Nat → Nat → Sem Value) (v : Value) :
    ReflectliteValue.method z f #[v] = (do match ← ReflectliteValue.parts v with | none => z | some (t, a, fl) => f t a fl (fl % 32)) := rfl
theorem rf_ls (v x : Value) : ReflectliteValue.set #[v, x] = (do
    let (some (dst, a, fl), some (src, b, _)) := (← ReflectliteValue.parts v, ← ReflectliteValue.parts x)
      | unsupported (.noEntry "extern/(internal/reflectlite.Value).Set.zeroValue")
    if fl / ReflectliteValue.flagAddr % 2 == 0 then unsupported (.noEntry "extern/(internal/reflectlite.Value).Set.unaddressable")
    let val ← loadVar src b
    if ← Rtype.directlyAssignable dst src then storeVar dst a val
    else if ← Rtype.implements dst src then
      if (← Rtype.kind src) == 20 then
        match val with
        | .nilIface => unsupported (.noEntry "extern/reflectlite: a nil value of one interface type handed on as a value of another")
        | _ => storeVar dst a val
      else storeVar dst a (.iface src val)
    else panicString ("reflectlite.Set: value of type " ++ (← Rtype.spelt src) ++ " is not assignable to type " ++ (← Rtype.spelt dst))
    pure (.tuple #[])) := rfl
theorem rf_parts_pE (a : Addr) (w : World) : (ReflectliteValue.parts (.agg #[.pointer (some ⟨1, 50, none⟩), .pointer (some a), .int .u64 150])).run Tryz.prog w = .ok (some (50, a, 150)) w := by kernel_rfl
theorem rf_isnil_E (a p : Addr) (W : World) (ha : W.cell? a = some (.pointer (some p))) :
    (ReflectliteValue.method (ReflectliteValue.valueError "reflectlite.Value.IsNil" 0) ReflectliteValue.isNil #[.agg #[.pointer (some ⟨1, 50, none⟩), .pointer (some a), .int .u64 150]]).run Tryz.prog W = .ok (.bool false) W := by
  rw [rf_lm]
  simp only [Sem.run_bind, rf_parts_pE, Result.andThen]
  simp [ReflectliteValue.isNil, loadVar, isAgg, underlying, Tryz.underlying50, ha, Result.andThen]
theorem rf_elemof_E (w : World) : (Rtype.elem? 50).run Tryz.prog w = .ok (some 42) w := by kernel_rfl
theorem rf_mk_E (p : Addr) (w : World) : (ReflectliteValue.mk 42 p ReflectliteValue.flagAddr).run Tryz.prog w = .ok (.agg #[.pointer (some ⟨1, 42, none⟩), .pointer (some p), .int .u64 386]) w := by kernel_rfl
theorem rf_elemv_E (a p : Addr) (W : World) (ha : W.cell? a = some (.pointer (some p))) :
    (ReflectliteValue.method (ReflectliteValue.valueError "reflectlite.Value.Elem" 0) ReflectliteValue.elem #[.agg #[.pointer (some ⟨1, 50, none⟩), .pointer (some a), .int .u64 150]]).run Tryz.prog W
      = .ok (.agg #[.pointer (some ⟨1, 42, none⟩), .pointer (some p), .int .u64 386]) W := by
  rw [rf_lm]
  simp only [Sem.run_bind, rf_parts_pE, Result.andThen]
  simp [ReflectliteValue.elem, loadVar, isAgg, underlying, Tryz.underlying50, ha, Result.andThen, rf_elemof_E, rf_mk_E]
theorem rf_parts_Ea (a : Addr) (w : World) : (ReflectliteValue.parts (.agg #[.pointer (some ⟨1, 42, none⟩), .pointer (some a), .int .u64 386])).run Tryz.prog w = .ok (some (42, a, 386)) w := by kernel_rfl
theorem rf_parts_E (a : Addr) (w : World) : (ReflectliteValue.parts (.agg #[.pointer (some ⟨1, 42, none⟩), .pointer (some a), .int .u64 130])).run Tryz.prog w = .ok (some (42, a, 130)) w := by kernel_rfl
theorem rf_direct_E (w : World) : (Rtype.directlyAssignable 42 42).run Tryz.prog w = .ok true w := by kernel_rfl
theorem rf_set_E (ta b : Addr) (e : Int) (old : Value) (W : World) (hb : W.cell? b = some (.int .i64 e)) (ht : W.cell? ta = some old) (hf : W.frozen? ta = false) :
    (ReflectliteValue.set #[.agg #[.pointer (some ⟨1, 42, none⟩), .pointer (some ta), .int .u64 386], .agg #[.pointer (some ⟨1, 42, none⟩), .pointer (some b), .int .u64 130]]).run Tryz.prog W
      = .ok (.tuple #[]) (W.setCell ta (.int .i64 e)) := by
  rw [rf_ls]
  simp only [Sem.run_bind, rf_parts_Ea, rf_parts_E, Result.andThen]
  simp [ReflectliteValue.flagAddr, loadVar, isAgg, underlying, Tryz.underlying42, hb, Result.andThen, rf_direct_E, storeVar, Value.cells, storeCells, Addr.add]
  rw [run_store Tryz.prog W ta _ _ (by rfl)]
  simp [ht, hf]

set_option maxRecDepth 100000 in
set_option maxHeartbeats 4000000 in
theorem ase_plain (c : Int) (a t : Addr) (old : Value) (w : World) (ha : w.cell? a = some (.pointer (some t))) (ht : w.cell? t = some old) (hf : w.frozen? t = false) :
    Calls Tryz.prog 40 #[.iface 42 (.int .i64 c), .iface 50 (.pointer (some t)), .agg #[.pointer (some ⟨1, 50, none⟩), .pointer (some a), .int .u64 150], .iface 101 (.agg #[.pointer (some ⟨1, 42, none⟩)])] w
      fun e w' => e = .returned (.bool true) ∧ ∃ w1, Below w.heap.size w w1 ∧ w' = w1.setCell t (.int .i64 c) := by
  have h1 := @run_callFunc_extern Tryz.prog 63 _ ReflectliteType.typeOf Tryz.func63 (by kernel_rfl) (by kernel_rfl) (by kernel_rfl) (by kernel_rfl)
  have h2 := @run_callFunc_extern Tryz.prog 146 _ (ReflectliteType.relation "AssignableTo" ReflectliteType.assignableTo) Tryz.func146 (by kernel_rfl) (by kernel_rfl) (by kernel_rfl) (by kernel_rfl)
  have h3 := @run_callFunc_extern Tryz.prog 37 _ (fun args => ReflectliteValue.unpack (args.getD 0 (.tuple #[]))) Tryz.func37 (by kernel_rfl) (by kernel_rfl) (by kernel_rfl) (by kernel_rfl)
  have h4 := @run_callFunc_extern Tryz.prog 64 _ (ReflectliteValue.method (ReflectliteValue.valueError "reflectlite.Value.Elem" 0) ReflectliteValue.elem) Tryz.func64 (by kernel_rfl) (by kernel_rfl) (by kernel_rfl) (by kernel_rfl)
  have h5 := @run_callFunc_extern Tryz.prog 65 _ ReflectliteValue.set Tryz.func65 (by kernel_rfl) (by kernel_rfl) (by kernel_rfl) (by kernel_rfl)
  have f2 := rf_typeOf_E
  have f4 := rf_massign
  have f5 := rf_as_EE
  have f14 := rf_val_E
  have hal := lt_of_cell ha
  have htl := lt_of_cell ht
  have hb1 : Below w.heap.size w (w.alloc (.cells #[.pointer (some ⟨1, 50, none⟩), .pointer (some a), .int .u64 150] 71)) := (Below.refl _ _).alloc (Nat.le_refl _) _
  have ha2 := (hb1.cell hal).trans ha
  have ht2 := (hb1.cell htl).trans ht
  have hf2 := (hb1.frozen htl).trans hf
  have HB1 := Lib.hid hb1
  have el := rf_elemv_E a t _ ha2
  have htw := lt_of_cell ht2
  have st := rf_set_E t ⟨w.heap.size + 1, 0, none⟩ c old ((w.alloc (.cells #[.pointer (some ⟨1, 50, none⟩), .pointer (some a), .int .u64 150] 71)).alloc (.cells #[.int .i64 c] 42)) (by rw [World.cell?_alloc_at _ _ _ _ (by simp)]; rfl) (by rw [World.cell?_alloc_lt _ _ _ htw]; exact ht2) (by rw [World.frozen?_alloc_old _ _ _ (Nat.ne_of_lt htw)]; exact hf2)
  clear hb1 ha ht hf
  go_enter Tryz.func40, Tryz.ntmps40
  go_wp2
  refine wp_loop_rounds 1 ?_
  rw [rounds_succ]
  go_wp2
  go_ret
  exact ⟨rfl, _, HB1.out.alloc HB1.out.size _, rfl⟩

/-- The variable that holds the type of errors. -/
def ErrTy (w : World) : Prop := w.cell? ⟨0, 0, none⟩ = some (.iface 101 (.agg #[.pointer (some ⟨1, 31, none⟩)]))
theorem ErrTy.below {w w' : World} {B : Nat} (h : ErrTy w) (hb : Below B w w') (hB : 0 < B) : ErrTy w' := (hb.cell (p := ⟨0, 0, none⟩) hB).trans h
theorem ErrTy.pos {w : World} (h : ErrTy w) : 0 < w.heap.size := lt_of_cell h

set_option maxRecDepth 100000 in
set_option maxHeartbeats 4000000 in
theorem ae_plain (c : Int) (t : Addr) (old : Value) (w : World) (hg : ErrTy w) (ht : w.cell? t = some old) (hf : w.frozen? t = false) :
    Calls Tryz.prog 20 #[.iface 42 (.int .i64 c), .iface 50 (.pointer (some t))] w fun e w' => e = .returned (.bool true) ∧ ∃ w1, Below w.heap.size w w1 ∧ w' = w1.setCell t (.int .i64 c) := by
  have h1 := @run_callFunc_extern Tryz.prog 37 _ (fun args => ReflectliteValue.unpack (args.getD 0 (.tuple #[]))) Tryz.func37 (by kernel_rfl) (by kernel_rfl) (by kernel_rfl) (by kernel_rfl)
  have h2 := @run_callFunc_extern Tryz.prog 38 _ (ReflectliteValue.methodAny (ReflectliteValue.valueError "reflectlite.Value.Type" 0) (fun t _ _ _ => ReflectliteType.toType t)) Tryz.func38 (by kernel_rfl) (by kernel_rfl) (by kernel_rfl) (by kernel_rfl)
  have h3 := @run_callFunc_extern Tryz.prog 39 _ (ReflectliteValue.method (ReflectliteValue.valueError "reflectlite.Value.IsNil" 0) ReflectliteValue.isNil) Tryz.func39 (by kernel_rfl) (by kernel_rfl) (by kernel_rfl) (by kernel_rfl)
  have h4 := @run_callFunc_extern Tryz.prog 137 _ (ReflectliteType.abiMethod fun t => do pure (.int .u8 (← Rtype.kind t))) Tryz.func137 (by kernel_rfl) (by kernel_rfl) (by kernel_rfl) (by kernel_rfl)
  have h5 := @run_callFunc_extern Tryz.prog 148 _ (ReflectliteType.method ReflectliteType.elem) Tryz.func148 (by kernel_rfl) (by kernel_rfl) (by kernel_rfl) (by kernel_rfl)
  have h6 := @run_callFunc_extern Tryz.prog 149 _ (ReflectliteType.relation "Implements" ReflectliteType.implements_) Tryz.func149 (by kernel_rfl) (by kernel_rfl) (by kernel_rfl) (by kernel_rfl)
  have f1 := rf_valueE
  have f2 := rf_typeE
  have f3 := rf_mkind
  have f4 := rf_melem
  have f5 := rf_mimpl
  have f6 := rf_kind_pE
  have f7 := rf_kind_E
  have f8 := rf_elem_pE
  have f9 := rf_impl_E
  have hb1 : Below w.heap.size w ((w.alloc (.cells #[.pointer (some t)] 50)).alloc (.cells #[.pointer (some ⟨1, 50, none⟩), .pointer (some ⟨w.heap.size, 0, none⟩), .int .u64 150] 71)) := ((Below.refl _ _).alloc (Nat.le_refl _) _).alloc (by simp) _
  have htl := lt_of_cell ht
  have hg2 : ErrTy _ := hg.below hb1 hg.pos
  unfold ErrTy at hg2
  have n8 := rf_isnil_E ⟨w.heap.size, 0, none⟩ t ((w.alloc (.cells #[.pointer (some t)] 50)).alloc (.cells #[.pointer (some ⟨1, 50, none⟩), .pointer (some ⟨w.heap.size, 0, none⟩), .int .u64 150] 71)) (by rw [World.cell?_alloc_lt _ _ _ (by simp)]; simp)
  have HT := Lib.hid ((hb1.cell htl).trans ht)
  have HF := Lib.hid ((hb1.frozen htl).trans hf)
  have HB1 := Lib.hid hb1
  clear hg ht hf hb1
  go_enter Tryz.func20, Tryz.ntmps20
  go_wp2_with fail
  refine (ase_plain c ⟨w.heap.size, 0, none⟩ t old _ (by rw [World.cell?_alloc_lt _ _ _ (by simp)]; simp) HT.out HF.out).mono ?_
  rintro e w2 ⟨rfl, w1, hb2, rfl⟩
  have HB2 := Lib.hid hb2
  clear hb2
  go_wp2_with fail
  go_ret
  exact ⟨rfl, _, HB1.out.trans (HB2.out.mono HB1.out.size), rfl⟩

/-- What the statements' own Code tells of nil. -/
theorem lcode_nil (w : World) :
    Calls Tryz.prog 8 #[.nilIface] w fun e w' => e = .returned (.int .i64 0) ∧ w' = w := by
  go_enter Tryz.func8, Tryz.ntmps8
  go_wp2_with fail
  go_ret
  exact ⟨rfl, rfl⟩

set_option maxRecDepth 100000 in
set_option maxHeartbeats 400000 in
theorem lcode_plain (c : Int) (w : World) (hg : ErrTy w) :
    Calls Tryz.prog 8 #[.iface 42 (.int .i64 c)] w fun e w' => e = .returned (.int .i64 c) ∧ Below w.heap.size w w' := by
  have hb1 : Below w.heap.size w (w.alloc (.cells #[.int .i64 0] 42)) := (Below.refl _ _).alloc (Nat.le_refl _) _
  have HG := Lib.hid (hg.below hb1 hg.pos)
  have HB1 := Lib.hid hb1
  clear hg hb1
  go_enter Tryz.func8, Tryz.ntmps8
  go_wp2_with fail
  refine (ae_plain c ⟨w.heap.size, 0, none⟩ (.int .i64 0) _ HG.out (by simp) (by rw [World.frozen?_alloc_at _ _ _ _ (by simp)])).mono ?_
  rintro e w2 ⟨rfl, w1, hb2, rfl⟩
  have hsz := hb2.size
  simp at hsz
  have hc1 : w1.cell? ⟨w.heap.size, 0, none⟩ = some (.int .i64 0) := (hb2.cell (p := ⟨w.heap.size, 0, none⟩) (by simp)).trans (by simp)
  have hr3 : (w1.setCell ⟨w.heap.size, 0, none⟩ (.int .i64 c)).cell? ⟨w.heap.size, 0, none⟩ = some (.int .i64 c) := World.cell?_setCell_same _ _ _ hc1
  have hb3 : Below w.heap.size w (w1.setCell ⟨w.heap.size, 0, none⟩ (.int .i64 c)) := (HB1.out.trans (hb2.mono HB1.out.size)).setCell (by simp) _
  have HB3 := Lib.hid hb3
  clear hb2 hb3
  go_wp2_with fail
  go_ret
  exact ⟨rfl, HB3.out⟩
end

section
open Go.ChangeShapes Go.WideShapes Go.ChangeAt Go.RowKit

theorem own : ownKnob Tryz.prog.godebug = none := by kernel_rfl
theorem laidOut : laidOutB Tryz.prog = true := by kernel_rfl
theorem et_named : Tryz.prog.globalNamed "errors.errorType" = some 0 := by kernel_rfl
theorem rt_named : (Tryz.prog.cutTypes.find? (·.1 == "internal/reflectlite.rtype")).map (·.2) = some 101 := by kernel_rfl
theorem et_row : ((List.range 203).filter fun t => Tryz.prog.rowNamed t [101, 114, 114, 111, 114]) = [31] := by kernel_rfl
theorem ty_size : Tryz.prog.types.size = 203 := by kernel_rfl

theorem errTy_of_laid {W : World} (h : laidMetH Tryz.prog [("errors.errorType", Rows.laid_errors_errorType)] W) : ErrTy W := by
  have h' : laidMet Tryz.prog [] W ∧ handlesMet Tryz.prog [("errors.errorType", Rows.laid_errors_errorType)] W := h
  obtain ⟨name, u, ty, e1, e2, e3, e4, e5⟩ := h'.2 _ (List.mem_singleton.2 rfl)
  have en : name = [101, 114, 114, 111, 114] := (Option.some.inj e1).symm
  subst en
  obtain rfl := Option.some.inj (rt_named.symm.trans e2)
  have hm : ty ∈ (List.range 203).filter fun t => Tryz.prog.rowNamed t [101, 114, 114, 111, 114] := List.mem_filter.2 ⟨List.mem_range.2 (by rw [← ty_size]; exact e3), e4⟩
  rw [et_row] at hm
  obtain rfl := List.mem_singleton.1 hm
  have hh : typeHandle Tryz.prog 31 = .pointer (some ⟨1, 31, none⟩) := by kernel_rfl
  rw [hh] at e5
  have e6 := World.var?_cell et_named e5 0
  unfold ErrTy
  simpa using e6

/-- A world that meets the condition: the settled one, the variable's cell laid. -/
noncomputable def laidWorld (os : Os) : World :=
  { World.holding Tryz.prog os ⟨#[], #[], []⟩ with heap := (World.holding Tryz.prog os ⟨#[], #[], []⟩).heap.modify 0 fun
      | .cells _ t frozen => .cells #[.iface 101 (.agg #[.pointer (some ⟨1, 31, none⟩)])] t frozen
      | o => o }
theorem laidWorld_met (os : Os) (args : Array Value) : laidMetH Tryz.prog [("errors.errorType", Rows.laid_errors_errorType)] ((laidWorld os).forCall (fun _ _ => 0) ⟨#[], args, []⟩).memory :=
  laidMetH_of_parts (laidMet_nil _ _) (by kernel_rfl)
end

section
set_option maxRecDepth 100000
open Go.RowKit Go.ChangeShapes

/-- A value: its kind, its number, its text, its names, its elements' numbers, its parts. -/
inductive Vt where
  | nul
  | mk (kind n : Int) (s : ByteArray) (names : List ByteArray) (ids : List Int) (len : Nat) (parts : Nat → Vt)
/-- A schema: its kind, its words, its parts. -/
inductive St where
  | nul
  | mk (kind : Int) (words : List ByteArray) (len : Nat) (parts : Nat → St)

/-- Rows of cells, n of them, of size s each, one behind the other. -/
def Parts (w : World) (s : Nat) (c : Option Addr) (n : Nat) (css : Nat → List Value) : Prop :=
  0 < n → ∃ ad, c = some ad ∧ ad.block < w.heap.size ∧ ∀ j, j < n → (css j).length = s ∧ ∀ i u, (css j)[i]? = some u → w.cell? (ad.add (j * s + i)) = some u
theorem Parts.below {w w' : World} {s n : Nat} {c : Option Addr} {css : Nat → List Value} (h : Parts w s c n css) (hb : Below w.heap.size w w') : Parts w' s c n css := fun hn => by
  obtain ⟨ad, e, hlt, hc⟩ := h hn
  exact ⟨ad, e, Nat.lt_of_lt_of_le hlt hb.size, fun j hj => ⟨(hc j hj).1, fun i u hu => (hb.cell (p := ad.add (j * s + i)) (by rw [add_block]; exact hlt)).trans ((hc j hj).2 i u hu)⟩⟩

inductive VAt (w : World) : Vt → List Value → Prop
  | mk {k n : Int} {s : ByteArray} {names : List ByteArray} {ids : List Int} {len : Nat} {parts : Nat → Vt} {a b c : Option Addr} {la ca lb cb cc : Nat} (css : Nat → List Value)
      (hk : (Lit.int .i64 k).wf = true) (hn : (Lit.int .i64 n).wf = true) (hs : s.size ≤ maxLen)
      (h1 : Rd w (fun _ => True) a la (names.map Value.string)) (h1c : la ≤ ca ∧ ca ≤ maxLen) (hss : ∀ x ∈ names, x.size ≤ maxLen)
      (h2 : Rd w (fun _ => True) b lb (ids.map (Value.int .u64))) (h2c : lb ≤ cb ∧ cb ≤ maxLen) (hi : ∀ x ∈ ids, (Lit.int .u64 x).wf = true)
      (h3 : Parts w 6 c len css) (h3c : len ≤ cc ∧ cc ≤ maxLen) (h : ∀ j, j < len → VAt w (parts j) (css j)) :
      VAt w (.mk k n s names ids len parts) [.int .i64 k, .int .i64 n, .string s, .slice a la ca, .slice b lb cb, .slice c len cc]
inductive SAt (w : World) : St → List Value → Prop
  | mk {k : Int} {words : List ByteArray} {len : Nat} {parts : Nat → St} {a c : Option Addr} {la ca cc : Nat} (css : Nat → List Value)
      (hk : (Lit.int .i64 k).wf = true)
      (h1 : Rd w (fun _ => True) a la (words.map Value.string)) (h1c : la ≤ ca ∧ ca ≤ maxLen) (hss : ∀ x ∈ words, x.size ≤ maxLen)
      (h3 : Parts w 3 c len css) (h3c : len ≤ cc ∧ cc ≤ maxLen) (h : ∀ j, j < len → SAt w (parts j) (css j)) :
      SAt w (.mk k words len parts) [.int .i64 k, .slice a la ca, .slice c len cc]
theorem VAt.length {w : World} {v : Vt} {cs : List Value} (h : VAt w v cs) : cs.length = 6 := by cases h; rfl
theorem SAt.length {w : World} {v : St} {cs : List Value} (h : SAt w v cs) : cs.length = 3 := by cases h; rfl
theorem VAt.later {w w' : World} (hb : Below w.heap.size w w') : ∀ {v : Vt} {cs : List Value}, VAt w v cs → VAt w' v cs := by
  intro v cs h
  induction h with
  | mk css hk hn hs h1 h1c hss h2 h2c hi h3 h3c _ ih => exact .mk css hk hn hs (h1.belowAll hb) h1c hss (h2.belowAll hb) h2c hi (h3.below hb) h3c ih
theorem SAt.later {w w' : World} (hb : Below w.heap.size w w') : ∀ {v : St} {cs : List Value}, SAt w v cs → SAt w' v cs := by
  intro v cs h
  induction h with
  | mk css hk h1 h1c hss h3 h3c _ ih => exact .mk css hk (h1.belowAll hb) h1c hss (h3.below hb) h3c ih

section
variable {H : Type} {enc : TypeId × Value → H} {P : Program} {w : World} {base : Nat} {spare : Nat → Bool} {held : Bool}
theorem read_int {t : TypeId} {k : IntKind} {fuel : Nat} {cs : List Value} {x : DataW H × List MemPlace} (ht : P.underlying t = some (.int k)) (h : DataW.trod enc P w base spare held fuel t cs = some x) : ∃ n, cs = [.int k n] ∧ (Lit.int k n).wf = true := by
  cases fuel with
  | zero => simp [DataW.trod] at h
  | succ m =>
    unfold DataW.trod at h
    rw [ht] at h
    split at h <;> simp_all
theorem read_str {t : TypeId} {fuel : Nat} {cs : List Value} {x : DataW H × List MemPlace} (ht : P.underlying t = some .string) (h : DataW.trod enc P w base spare held fuel t cs = some x) : ∃ s, cs = [.string s] ∧ s.size ≤ maxLen := by
  cases fuel with
  | zero => simp [DataW.trod] at h
  | succ m =>
    unfold DataW.trod at h
    rw [ht] at h
    split at h <;> simp_all
theorem read_strs {t e : TypeId} {fuel : Nat} {cs : List Value} {x : DataW H × List MemPlace} (ht : P.underlying t = some (.slice e)) (he : P.underlying e = some .string) (hc : P.cellsOf e = 1) (h : DataW.trod enc P w base spare held fuel t cs = some x) :
    ∃ (a : Option Addr) (len cap : Nat) (l : List ByteArray), cs = [.slice a len cap] ∧ Rd w (fun _ => True) a len (l.map Value.string) ∧ (len ≤ cap ∧ cap ≤ maxLen) ∧ ∀ s ∈ l, s.size ≤ maxLen := by
  rcases open_strings ht he hc h with ⟨rfl, _⟩ | ⟨a, len, cap, ss, rfl, _, hl, hm, hlen, _, hcell, hsz⟩
  · exact ⟨none, 0, 0, [], rfl, Rd.nil _ _ _, ⟨Nat.le_refl _, Nat.zero_le _⟩, fun _ h => by cases h⟩
  · have hle : len ≤ ss.length := by rw [hlen]; split <;> omega
    refine ⟨some a, len, cap, ss.take len, rfl, ⟨by simp; omega, fun hn => ?_⟩, ⟨hl, hm⟩, fun s hs => hsz s (List.mem_of_mem_take hs)⟩
    have hb : a.block < w.heap.size := by
      have := lt_of_cell (hcell 0 (by omega))
      rwa [add_block] at this
    refine ⟨a, rfl, trivial, hb, fun j u hu => ?_⟩
    have hj : j < len := by
      have := (List.getElem?_eq_some_iff.1 hu).1
      simp at this
      omega
    rw [hcell j (by omega), ← hu, List.getElem?_map, List.getElem?_take, if_pos hj, List.getD, List.getElem?_eq_getElem (by omega)]
    rfl
theorem read_ints {t e : TypeId} {k : IntKind} {fuel : Nat} {cs : List Value} {x : DataW H × List MemPlace} (ht : P.underlying t = some (.slice e)) (he : P.underlying e = some (.int k)) (hc : P.cellsOf e = 1) (h : DataW.trod enc P w base spare held fuel t cs = some x) :
    ∃ (a : Option Addr) (len cap : Nat) (l : List Int), cs = [.slice a len cap] ∧ Rd w (fun _ => True) a len (l.map (Value.int k)) ∧ (len ≤ cap ∧ cap ≤ maxLen) ∧ ∀ n ∈ l, (Lit.int k n).wf = true := by
  rcases open_ints ht he hc h with ⟨rfl, _⟩ | ⟨a, len, cap, ss, rfl, _, hl, hm, hlen, _, hcell, hsz⟩
  · exact ⟨none, 0, 0, [], rfl, Rd.nil _ _ _, ⟨Nat.le_refl _, Nat.zero_le _⟩, fun _ h => by cases h⟩
  · have hle : len ≤ ss.length := by rw [hlen]; split <;> omega
    refine ⟨some a, len, cap, ss.take len, rfl, ⟨by simp; omega, fun hn => ?_⟩, ⟨hl, hm⟩, fun s hs => hsz s (List.mem_of_mem_take hs)⟩
    have hb : a.block < w.heap.size := by
      have := lt_of_cell (hcell 0 (by omega))
      rwa [add_block] at this
    refine ⟨a, rfl, trivial, hb, fun j u hu => ?_⟩
    have hj : j < len := by
      have := (List.getElem?_eq_some_iff.1 hu).1
      simp at this
      omega
    rw [hcell j (by omega), ← hu, List.getElem?_map, List.getElem?_take, if_pos hj, List.getD, List.getElem?_eq_getElem (by omega)]
    rfl
/-- A slice of rows of cells, whose reading is known. -/
theorem read_parts {t e : TypeId} {s fuel : Nat} {cs : List Value} {x : DataW H × List MemPlace} {T : Type} (R : T → List Value → Prop) (ht : P.underlying t = some (.slice e)) (hc : P.cellsOf e = s) (hs : 0 < s) (d0 : T)
    (hR : ∀ m, m < fuel → ∀ cs' x', cs'.length = s → DataW.trod enc P w base spare held m e cs' = some x' → ∃ v, R v cs') (h : DataW.trod enc P w base spare held fuel t cs = some x) :
    ∃ (c : Option Addr) (len cap : Nat) (css : Nat → List Value) (parts : Nat → T), cs = [.slice c len cap] ∧ Parts w s c len css ∧ (len ≤ cap ∧ cap ≤ maxLen) ∧ ∀ j, j < len → R (parts j) (css j) := by
  rcases DataW.trod_slice ht h with ⟨rfl, _⟩ | ⟨a, len, cap, elems, rest, n, hf, rfl, _, _, hl, hm, hlen, hel, _, _⟩
  · exact ⟨none, 0, 0, fun _ => [], fun _ => d0, rfl, fun h => absurd h (by decide), ⟨Nat.le_refl _, Nat.zero_le _⟩, fun j h => absurd h (Nat.not_lt_zero _)⟩
  · have hone : ∀ j, j < len → ∃ q : List Value × T, w.cells? base (a.add (j * s)) s = some q.1 ∧ R q.2 q.1 := fun j hj => by
      have h1 := hel j hj
      rw [hc, List.getElem?_eq_getElem (by omega)] at h1
      obtain ⟨cs', h2, h3⟩ := Option.bind_eq_some_iff.1 h1
      obtain ⟨v, hv⟩ := hR n (by omega) cs' _ (World.cells?_some h2).2.1 h3
      exact ⟨(cs', v), h2, hv⟩
    refine ⟨some a, len, cap, fun j => if hj : j < len then (hone j hj).choose.1 else [], fun j => if hj : j < len then (hone j hj).choose.2 else d0, rfl, fun hn => ⟨a, rfl, ?_, fun j hj => ?_⟩, ⟨hl, hm⟩, fun j hj => ?_⟩
    · have h1 := World.cells?_block (hone 0 hn).choose_spec.1 hs
      rwa [add_block] at h1
    · simp only [dif_pos hj]
      obtain ⟨_, h1, h2⟩ := World.cells?_some (hone j hj).choose_spec.1
      refine ⟨h1, fun i u hu => ?_⟩
      have hi : i < s := by
        have := (List.getElem?_eq_some_iff.1 hu).1
        omega
      rw [← add_add, h2 i hi, hu]
    · simp only [dif_pos hj]
      exact (hone j hj).choose_spec.2
end

theorem read_field {α : Type} {xs : List α} {n k : Nat} {f : Option α} (hlen : xs.length = n) (h : f = xs[k]?) (hk : k < n) : ∃ x, f = some x := ⟨_, h.trans (List.getElem?_eq_getElem (by omega))⟩
theorem six {cs : List Value} (h : cs.length = 6) : ∃ a b c d e f, cs = [a, b, c, d, e, f] := by
  match cs, h with
  | [a, b, c, d, e, f], _ => exact ⟨a, b, c, d, e, f, rfl⟩
theorem three {cs : List Value} (h : cs.length = 3) : ∃ a b c, cs = [a, b, c] := by
  match cs, h with
  | [a, b, c], _ => exact ⟨a, b, c, rfl⟩
theorem c_int : Tryz.prog.cellsOf 3 = 1 := by kernel_rfl
theorem c_str : Tryz.prog.cellsOf 9 = 1 := by kernel_rfl
theorem c_u64 : Tryz.prog.cellsOf 54 = 1 := by kernel_rfl
theorem c_strs : Tryz.prog.cellsOf 22 = 1 := by kernel_rfl
theorem c_ids : Tryz.prog.cellsOf 23 = 1 := by kernel_rfl
theorem c_vals : Tryz.prog.cellsOf 24 = 1 := by kernel_rfl
theorem c_val : Tryz.prog.cellsOf 26 = 6 := by kernel_rfl
/-- What a reading of a value says. -/
theorem vat_of {H : Type} {enc : TypeId × Value → H} {w : World} {base : Nat} {spare : Nat → Bool} {held : Bool} : ∀ (fuel : Nat) (cs : List Value) (x : DataW H × List MemPlace), DataW.trod enc Tryz.prog w base spare held fuel 26 cs = some x → ∃ v, VAt w v cs := by
  intro fuel
  induction fuel using Nat.strongRecOn with
  | _ fuel ih =>
    intro cs x h
    obtain ⟨xs, n, rfl, _, hl, hlen, hf⟩ := DataW.trod_struct Tryz.underlying26 h
    rw [c_val] at hl
    obtain ⟨c0, c1, c2, c3, c4, c5, rfl⟩ := six hl
    obtain ⟨x0, h0⟩ := read_field hlen (hf 0 { name := "Kind", type := 3, offset := 0, embedded := false, tag := "", pkgPath := "", byteOffset := 0 } rfl) (by decide)
    obtain ⟨x1, h1⟩ := read_field hlen (hf 1 { name := "N", type := 3, offset := 1, embedded := false, tag := "", pkgPath := "", byteOffset := 8 } rfl) (by decide)
    obtain ⟨x2, h2⟩ := read_field hlen (hf 2 { name := "S", type := 9, offset := 2, embedded := false, tag := "", pkgPath := "", byteOffset := 16 } rfl) (by decide)
    obtain ⟨x3, h3⟩ := read_field hlen (hf 3 { name := "Names", type := 22, offset := 3, embedded := false, tag := "", pkgPath := "", byteOffset := 32 } rfl) (by decide)
    obtain ⟨x4, h4⟩ := read_field hlen (hf 4 { name := "Ids", type := 23, offset := 4, embedded := false, tag := "", pkgPath := "", byteOffset := 56 } rfl) (by decide)
    obtain ⟨x5, h5⟩ := read_field hlen (hf 5 { name := "Parts", type := 24, offset := 5, embedded := false, tag := "", pkgPath := "", byteOffset := 80 } rfl) (by decide)
    simp only [c_int, c_str, c_strs, c_ids, c_vals, List.drop_zero, List.drop_succ_cons, List.take_succ_cons, List.take_zero] at h0 h1 h2 h3 h4 h5
    obtain ⟨k, e0, hk⟩ := read_int Tryz.underlying3 h0
    obtain ⟨m, e1, hm⟩ := read_int Tryz.underlying3 h1
    obtain ⟨s, e2, hs⟩ := read_str Tryz.underlying9 h2
    obtain ⟨a, la, ca, names, e3, r3, l3, b3⟩ := read_strs Tryz.underlying22 Tryz.underlying9 c_str h3
    obtain ⟨b, lb, cb, ids, e4, r4, l4, b4⟩ := read_ints Tryz.underlying23 Tryz.underlying54 c_u64 h4
    obtain ⟨c, lc, cc, css, parts, e5, r5, l5, b5⟩ := read_parts (VAt w) Tryz.underlying24 c_val (by decide) .nul (fun m hm cs' x' _ hx => ih m (by omega) cs' x' hx) h5
    injection e0 with e0; injection e1 with e1; injection e2 with e2; injection e3 with e3; injection e4 with e4; injection e5 with e5
    subst e0 e1 e2 e3 e4 e5
    exact ⟨_, .mk css hk hm hs r3 l3 b3 r4 l4 b4 r5 l5 b5⟩
end

section
/-- A byte of a text, as a number. -/
def sat (s : ByteArray) (i : Nat) : Nat := (s.data.toList.getD i 0).toNat
def letB (c : Nat) : Bool := (decide (97 ≤ c) && decide (c ≤ 122)) || (decide (48 ≤ c) && decide (c ≤ 57)) || decide (c = 95)
def nameB (s : ByteArray) : Bool := decide (1 ≤ s.size) && decide (s.size ≤ 12) && (List.range s.size).all fun i => letB (sat s i)
def eqS (a b : ByteArray) : Bool := a.toList == b.toList
def ltS (a b : ByteArray) : Bool := Go.Op.bytesLess a.toList b.toList
def nth (l : List ByteArray) (i : Nat) : ByteArray := l.getD i ByteArray.empty
/-- Names, each behind the one before. -/
def riseB (l : List ByteArray) : Bool := (List.range l.length).all fun i => nameB (nth l i) && (decide (i = 0) || ltS (nth l (i - 1)) (nth l i))
/-- Names, unlike each other. -/
def wordsB (l : List ByteArray) : Bool := (List.range l.length).all fun i => nameB (nth l i) && (List.range i).all fun j => !eqS (nth l i) (nth l j)
def idsB (l : List Int) : Bool := (List.range l.length).all fun i => decide (l.getD i 0 ≠ 0) && (List.range i).all fun j => decide (l.getD i 0 ≠ l.getD j 0)
def eqL (l m : List ByteArray) : Bool := decide (l.length = m.length) && (List.range l.length).all fun i => eqS (nth l i) (nth m i)

/-- What a value's own fields have to be. -/
def headV (k n : Int) (s : ByteArray) (names : List ByteArray) (ids : List Int) (len : Nat) : Bool :=
  if k = 1 then decide (n = 0 ∨ n = 1) && decide (s.size = 0) && decide (names.length = 0) && decide (ids.length = 0) && decide (len = 0)
  else if k = 2 then decide (s.size = 0) && decide (names.length = 0) && decide (ids.length = 0) && decide (len = 0)
  else if k = 3 then decide (n = 0) && decide (s.size ≤ 64) && decide (names.length = 0) && decide (ids.length = 0) && decide (len = 0)
  else if k = 4 then decide (n = 0) && nameB s && decide (names.length = 0) && decide (ids.length = 0) && decide (len = 0)
  else if k = 5 then decide (n = 0) && decide (s.size = 0) && decide (ids.length = 0) && decide (names.length ≤ 8) && decide (len = names.length) && riseB names
  else if k = 6 then decide (n = 0) && decide (s.size = 0) && decide (names.length = 0) && decide (ids.length ≤ 12) && decide (len = ids.length) && idsB ids
  else false
/-- What a schema's own fields have to be. -/
def headS (k : Int) (words : List ByteArray) (len : Nat) : Bool :=
  if k = 1 ∨ k = 2 ∨ k = 3 then decide (words.length = 0) && decide (len = 0)
  else if k = 4 then decide (1 ≤ words.length) && decide (words.length ≤ 8) && wordsB words && decide (len = 0)
  else if k = 5 then decide (words.length ≤ 8) && decide (len = words.length) && riseB words
  else if k = 6 then decide (words.length = 0) && decide (len = 1)
  else false
/-- The greatest of the first ones. -/
def most (f : Nat → Nat) : Nat → Nat
  | 0 => 0
  | n + 1 => max (most f n) (f n)
theorem most_le {f : Nat → Nat} {m : Nat} : ∀ {n : Nat}, most f n ≤ m ↔ ∀ i, i < n → f i ≤ m
  | 0 => ⟨fun _ i h => absurd h (Nat.not_lt_zero i), fun _ => Nat.zero_le _⟩
  | n + 1 => by
    rw [most, Nat.max_le, most_le (n := n)]
    refine ⟨fun h i hi => ?_, fun h => ⟨fun i hi => h i (by omega), h n (by omega)⟩⟩
    rcases Nat.lt_or_ge i n with h1 | h1
    · exact h.1 i h1
    · obtain rfl : i = n := by omega
      exact h.2
def Vt.depth : Vt → Nat
  | .nul => 0
  | .mk _ _ _ _ _ len parts => most (fun i => (parts i).depth) len + 1
def St.depth : St → Nat
  | .nul => 0
  | .mk _ _ len parts => most (fun i => (parts i).depth) len + 1
def Vt.sound : Vt → Bool
  | .nul => false
  | .mk k n s names ids len parts => headV k n s names ids len && (List.range len).all fun i => (parts i).sound
def St.sound : St → Bool
  | .nul => false
  | .mk k words len parts => headS k words len && (List.range len).all fun i => (parts i).sound
/-- Right, where it lies so deep. -/
def Vt.rightAt (v : Vt) (d : Nat) : Bool := decide (d + v.depth ≤ 6) && v.sound
def St.rightAt (v : St) (d : Nat) : Bool := decide (d + v.depth ≤ 6) && v.sound
theorem Vt.rightAt_mk {k n : Int} {s : ByteArray} {names : List ByteArray} {ids : List Int} {len : Nat} {parts : Nat → Vt} (d : Nat) :
    (Vt.mk k n s names ids len parts).rightAt d = (decide (d ≤ 5) && headV k n s names ids len && (List.range len).all fun i => (parts i).rightAt (d + 1)) := by
  unfold Vt.rightAt
  rw [Vt.depth, Vt.sound, Bool.eq_iff_iff]
  simp only [Bool.and_eq_true, decide_eq_true_eq, List.all_eq_true, List.mem_range]
  constructor
  · rintro ⟨h1, h2, h3⟩
    have h4 : most (fun i => (parts i).depth) len ≤ 5 - d := by omega
    exact ⟨⟨by omega, h2⟩, fun i hi => ⟨by have := most_le.1 h4 i hi; omega, h3 i hi⟩⟩
  · rintro ⟨⟨h1, h2⟩, h3⟩
    have h4 : most (fun i => (parts i).depth) len ≤ 5 - d := most_le.2 fun i hi => by have := (h3 i hi).1; omega
    exact ⟨by omega, h2, fun i hi => (h3 i hi).2⟩
theorem St.rightAt_mk {k : Int} {words : List ByteArray} {len : Nat} {parts : Nat → St} (d : Nat) :
    (St.mk k words len parts).rightAt d = (decide (d ≤ 5) && headS k words len && (List.range len).all fun i => (parts i).rightAt (d + 1)) := by
  unfold St.rightAt
  rw [St.depth, St.sound, Bool.eq_iff_iff]
  simp only [Bool.and_eq_true, decide_eq_true_eq, List.all_eq_true, List.mem_range]
  constructor
  · rintro ⟨h1, h2, h3⟩
    have h4 : most (fun i => (parts i).depth) len ≤ 5 - d := by omega
    exact ⟨⟨by omega, h2⟩, fun i hi => ⟨by have := most_le.1 h4 i hi; omega, h3 i hi⟩⟩
  · rintro ⟨⟨h1, h2⟩, h3⟩
    have h4 : most (fun i => (parts i).depth) len ≤ 5 - d := most_le.2 fun i hi => by have := (h3 i hi).1; omega
    exact ⟨by omega, h2, fun i hi => (h3 i hi).2⟩
/-- Whether a value fits a schema, both being right. -/
def fitsV : Vt → St → Bool
  | .mk k _ s names _ len parts, .mk k' words _ parts' =>
    decide (k = k') && (if k = 4 then (List.range words.length).any fun i => eqS (nth words i) s
      else if k = 5 then eqL names words && (List.range len).all fun i => fitsV (parts i) (parts' i)
      else if k = 6 then (List.range len).all fun i => fitsV (parts i) (parts' 0)
      else true)
  | _, _ => false
/-- A schema's default. -/
def St.dflt : St → Vt
  | .nul => .nul
  | .mk k words _ parts => .mk k 0 (if k = 4 then nth words 0 else ByteArray.empty) (if k = 5 then words else []) [] (if k = 5 then words.length else 0) fun i => (parts i).dflt

theorem eqS_refl (a : ByteArray) : eqS a a = true := by unfold eqS; exact beq_self_eq_true _
theorem eqL_refl (l : List ByteArray) : eqL l l = true := by
  unfold eqL
  rw [decide_eq_true rfl, Bool.true_and, List.all_eq_true]
  exact fun i _ => eqS_refl _
theorem nameB_sz {s : ByteArray} (h : nameB s = true) : s.size ≤ 12 := by
  unfold nameB at h
  simp only [Bool.and_eq_true, decide_eq_true_eq] at h
  exact h.1.2
theorem riseB_name {l : List ByteArray} (h : riseB l = true) {i : Nat} (hi : i < l.length) : nameB (nth l i) = true := by
  unfold riseB at h
  have h1 := List.all_eq_true.1 h i (List.mem_range.2 hi)
  rw [Bool.and_eq_true] at h1
  exact h1.1
theorem wordsB_name {l : List ByteArray} (h : wordsB l = true) {i : Nat} (hi : i < l.length) : nameB (nth l i) = true := by
  unfold wordsB at h
  have h1 := List.all_eq_true.1 h i (List.mem_range.2 hi)
  rw [Bool.and_eq_true] at h1
  exact h1.1
theorem sz0 : ByteArray.empty.size = 0 := rfl
/-- The default of what is sound is so, no deeper, and fits. -/
theorem dflt_ok : ∀ {s : St}, s.sound = true → s.dflt.sound = true ∧ s.dflt.depth ≤ s.depth ∧ fitsV s.dflt s = true := by
  intro s
  induction s with
  | nul => intro h; cases h
  | mk k words len parts ih =>
    intro h
    rw [St.sound, Bool.and_eq_true, List.all_eq_true] at h
    obtain ⟨h1, h2⟩ := h
    have hp : ∀ i, i < len → (parts i).sound = true := fun i hi => h2 i (List.mem_range.2 hi)
    unfold headS at h1
    rw [St.dflt]
    by_cases c3 : k = 1 ∨ k = 2 ∨ k = 3
    · have e4 : ¬ k = 4 := by omega
      have e5 : ¬ k = 5 := by omega
      have e6 : ¬ k = 6 := by omega
      simp only [if_neg e4, if_neg e5]
      refine ⟨?_, by rw [Vt.depth, St.depth, most]; omega, by rw [fitsV, if_neg e4, if_neg e5, if_neg e6, decide_eq_true rfl]; rfl⟩
      rw [Vt.sound, List.range_zero, List.all_nil, Bool.and_true, headV]
      rcases c3 with rfl | rfl | rfl <;> decide
    · rw [if_neg c3] at h1
      by_cases e4 : k = 4
      · subst e4
        rw [if_pos rfl] at h1
        simp only [Bool.and_eq_true, decide_eq_true_eq] at h1
        rw [if_pos rfl, if_neg (show ¬ (4 : Int) = 5 by decide), if_neg (show ¬ (4 : Int) = 5 by decide)]
        refine ⟨?_, by rw [Vt.depth, St.depth, most]; omega, ?_⟩
        · rw [Vt.sound, List.range_zero, List.all_nil, Bool.and_true, headV, wordsB_name h1.1.2 (by omega), if_neg (by decide), if_neg (by decide), if_neg (by decide), if_pos rfl]
          rfl
        · rw [fitsV, decide_eq_true rfl, if_pos rfl, Bool.true_and, List.any_eq_true]
          exact ⟨0, List.mem_range.2 (by omega), eqS_refl _⟩
      · rw [if_neg e4] at h1
        by_cases e5 : k = 5
        · subst e5
          rw [if_pos rfl] at h1
          simp only [Bool.and_eq_true, decide_eq_true_eq] at h1
          obtain ⟨⟨h3, rfl⟩, h5⟩ := h1
          rw [if_neg e4, if_pos rfl, if_pos rfl]
          refine ⟨?_, ?_, ?_⟩
          · rw [Vt.sound, Bool.and_eq_true, List.all_eq_true]
            refine ⟨?_, fun i hi => (ih i (hp i (List.mem_range.1 hi))).1⟩
            rw [headV, if_neg (by decide), if_neg (by decide), if_neg (by decide), if_neg (by decide), if_pos rfl, h5, decide_eq_true h3, decide_eq_true (rfl : words.length = words.length)]
            rfl
          · rw [Vt.depth, St.depth]
            have := most_le.2 (fun i hi => Nat.le_trans (ih i (hp i hi)).2.1 (most_le.1 (Nat.le_refl (most (fun i => (parts i).depth) words.length)) i hi))
            omega
          · rw [fitsV, decide_eq_true rfl, if_neg e4, if_pos rfl, eqL_refl, Bool.true_and, Bool.true_and, List.all_eq_true]
            exact fun i hi => (ih i (hp i (List.mem_range.1 hi))).2.2
        · rw [if_neg e5] at h1
          by_cases e6 : k = 6
          · subst e6
            simp only [if_neg e4, if_neg e5]
            refine ⟨?_, by rw [Vt.depth, St.depth, most]; omega, ?_⟩
            · rw [Vt.sound, List.range_zero, List.all_nil, Bool.and_true, headV]
              decide
            · rw [fitsV, decide_eq_true rfl, if_neg e4, if_neg e5, if_pos rfl, List.range_zero]
              rfl
          · rw [if_neg e6] at h1
            cases h1

theorem bl_nil (x : List UInt8) : Go.Op.bytesLess x [] = false := by cases x <;> rfl
theorem bl_cons (a : UInt8) (x : List UInt8) (b : UInt8) (y : List UInt8) : Go.Op.bytesLess (a :: x) (b :: y) = true ↔ a < b ∨ (a = b ∧ Go.Op.bytesLess x y = true) := by
  rw [Go.Op.bytesLess, Bool.or_eq_true, Bool.and_eq_true, decide_eq_true_eq, beq_iff_eq]
theorem bl_trans : ∀ {x y z : List UInt8}, Go.Op.bytesLess x y = true → Go.Op.bytesLess y z = true → Go.Op.bytesLess x z = true
  | _, [], _, h, _ => by rw [bl_nil] at h; cases h
  | _, _, [], _, h => by rw [bl_nil] at h; cases h
  | [], _ :: _, _ :: _, _, _ => rfl
  | a :: x, b :: y, c :: z, h, k => by
    rw [bl_cons] at h k ⊢
    rcases h with h | ⟨rfl, h⟩
    · rcases k with k | ⟨rfl, k⟩
      · exact .inl (UInt8.lt_trans h k)
      · exact .inl h
    · rcases k with k | ⟨rfl, k⟩
      · exact .inl k
      · exact .inr ⟨rfl, bl_trans h k⟩
theorem bl_irrefl : ∀ (x : List UInt8), Go.Op.bytesLess x x = false
  | [] => rfl
  | a :: x => by
    rw [← Bool.not_eq_true, bl_cons]
    rintro (h | ⟨_, h⟩)
    · exact UInt8.lt_irrefl a h
    · rw [bl_irrefl x] at h; cases h
theorem bl_tri : ∀ (x y : List UInt8), Go.Op.bytesLess x y = true ∨ x = y ∨ Go.Op.bytesLess y x = true
  | [], [] => .inr (.inl rfl)
  | [], _ :: _ => .inl rfl
  | _ :: _, [] => .inr (.inr rfl)
  | a :: x, b :: y => by
    rw [bl_cons, bl_cons]
    rcases Nat.lt_trichotomy a.toNat b.toNat with h | h | h
    · exact .inl (.inl (UInt8.lt_iff_toNat_lt.2 h))
    · obtain rfl := UInt8.toNat_inj.1 h
      rcases bl_tri x y with h | rfl | h
      · exact .inl (.inr ⟨rfl, h⟩)
      · exact .inr (.inl rfl)
      · exact .inr (.inr (.inr ⟨rfl, h⟩))
    · exact .inr (.inr (.inl (UInt8.lt_iff_toNat_lt.2 h)))
theorem ltS_trans {a b c : ByteArray} (h : ltS a b = true) (k : ltS b c = true) : ltS a c = true := bl_trans h k
/-- Behind, and neither like it nor ahead of it: the same. -/
theorem ltS_iff {a b : ByteArray} : ltS a b = true ↔ (eqS b a || ltS b a) = false := by
  unfold ltS eqS
  rw [Bool.or_eq_false_iff, beq_eq_false_iff_ne]
  constructor
  · intro h
    refine ⟨fun e => ?_, ?_⟩
    · rw [e, bl_irrefl] at h; cases h
    · rw [← Bool.not_eq_true]
      intro k
      have := bl_trans h k
      rw [bl_irrefl] at this
      cases this
  · rintro ⟨h, k⟩
    rcases bl_tri a.toList b.toList with h1 | h1 | h1
    · exact h1
    · exact absurd h1.symm h
    · rw [k] at h1; cases h1
/-- Each behind all before it. -/
def pairB (l : List ByteArray) : Bool := (List.range l.length).all fun i => nameB (nth l i) && (List.range i).all fun j => !(eqS (nth l i) (nth l j) || ltS (nth l i) (nth l j))
theorem pair_rise (l : List ByteArray) : pairB l = riseB l := by
  rw [Bool.eq_iff_iff]
  unfold pairB riseB
  simp only [List.all_eq_true, List.mem_range, Bool.and_eq_true, Bool.or_eq_true, decide_eq_true_eq, Bool.not_eq_true']
  constructor
  · intro h i hi
    refine ⟨(h i hi).1, ?_⟩
    by_cases h0 : i = 0
    · exact .inl h0
    · exact .inr (ltS_iff.2 ((h i hi).2 (i - 1) (by omega)))
  · intro h i hi
    refine ⟨(h i hi).1, fun j hj => ?_⟩
    rw [← ltS_iff]
    have hall : ∀ d j, j + d + 1 < l.length → ltS (nth l j) (nth l (j + d + 1)) = true := by
      intro d
      induction d with
      | zero =>
        intro j hj
        rcases (h (j + 1) hj).2 with h1 | h1
        · omega
        · simpa using h1
      | succ d ih =>
        intro j hj
        refine ltS_trans (ih j (by omega)) ?_
        rcases (h (j + (d + 1) + 1) hj).2 with h1 | h1
        · omega
        · rwa [show j + (d + 1) + 1 - 1 = j + d + 1 by omega] at h1
    have := hall (i - j - 1) j (by omega)
    rwa [show j + (i - j - 1) + 1 = i by omega] at this
end

section
/-- A number's bytes. -/
def enc (n : Nat) : List UInt8 :=
  if h : n < 128 then [UInt8.ofNat n] else UInt8.ofNat (n % 128 + 128) :: enc (n / 128)
termination_by n
decreasing_by omega

/-- The number that bytes begin with, of whatever size, and how many bytes it has. -/
def rdec : List UInt8 → Option (Nat × Nat)
  | [] => none
  | c :: r => if c.toNat < 128 then some (c.toNat, 1) else
    match rdec r with
    | none => none
    | some (n, s) => if n = 0 then none else some (c.toNat % 128 + 128 * n, s + 1)

/-- The number of 64 bits that bytes begin with. -/
def dec (l : List UInt8) : Option (Nat × Nat) :=
  match rdec l with
  | none => none
  | some (n, s) => if n < 18446744073709551616 then some (n, s) else none

/-- The value of digits, the lowest one first. -/
def dig : List UInt8 → Nat
  | [] => 0
  | c :: r => c.toNat % 128 + 128 * dig r

theorem toNat_low {n : Nat} (h : n < 256) : (UInt8.ofNat n).toNat = n := by simp [Nat.mod_eq_of_lt h]

theorem enc_small {n : Nat} (h : n < 128) : enc n = [UInt8.ofNat n] := by rw [enc, dif_pos h]
theorem enc_big {n : Nat} (h : ¬ n < 128) : enc n = UInt8.ofNat (n % 128 + 128) :: enc (n / 128) := by rw [enc, dif_neg h]

theorem rdec_enc (n : Nat) : ∀ r : List UInt8, rdec (enc n ++ r) = some (n, (enc n).length) := by
  induction n using Nat.strongRecOn with
  | ind n ih =>
    intro r
    by_cases h : n < 128
    · rw [enc_small h]
      have h1 := toNat_low (n := n) (by omega)
      simp only [List.cons_append, List.nil_append, rdec, h1, if_pos h, List.length_cons, List.length_nil]
    · rw [enc_big h]
      have h1 := toNat_low (n := n % 128 + 128) (by omega)
      have h2 := ih (n / 128) (by omega) r
      have h3 : ¬ n % 128 + 128 < 128 := by omega
      have h4 : ¬ n / 128 = 0 := by omega
      simp only [List.cons_append, rdec, h1, if_neg h3, h2, if_neg h4, List.length_cons]
      congr 2
      omega

theorem enc_rdec : ∀ (l : List UInt8) (n s : Nat), rdec l = some (n, s) → s ≤ l.length ∧ 0 < s ∧ l.take s = enc n := by
  intro l
  induction l with
  | nil => intro n s h; simp [rdec] at h
  | cons c r ih =>
    intro n s h
    rw [rdec] at h
    by_cases hc : c.toNat < 128
    · rw [if_pos hc] at h
      injection h with h; injection h with h1 h2
      subst h1 h2
      refine ⟨by simp, by omega, ?_⟩
      rw [enc_small hc]
      simp
    · rw [if_neg hc] at h
      cases hr : rdec r with
      | none => rw [hr] at h; cases h
      | some p =>
        obtain ⟨m, t⟩ := p
        rw [hr] at h
        have hcl : c.toNat < 256 := c.toNat_lt
        by_cases hm : m = 0
        · simp [hm] at h
        · simp only [if_neg hm] at h
          injection h with h; injection h with h1 h2
          subst h1 h2
          obtain ⟨g1, g2, g3⟩ := ih m t hr
          refine ⟨by simp; omega, by omega, ?_⟩
          rw [enc_big (by omega), List.take_succ_cons, g3]
          have e1 : (c.toNat % 128 + 128 * m) % 128 + 128 = c.toNat := by omega
          have e2 : (c.toNat % 128 + 128 * m) / 128 = m := by omega
          rw [e1, e2]
          simp

theorem enc_length_le {n : Nat} (h : n < 18446744073709551616) : (enc n).length ≤ 10 := by
  have step : ∀ (k n : Nat), n < 128 ^ (k + 1) → (enc n).length ≤ k + 1 := by
    intro k
    induction k with
    | zero => intro n h; rw [enc_small (by simpa using h)]; simp
    | succ k ih =>
      intro n h
      by_cases hn : n < 128
      · rw [enc_small hn]; simp
      · rw [enc_big hn, List.length_cons]
        have := ih (n / 128) (by rw [Nat.div_lt_iff_lt_mul (by omega)]; rw [Nat.pow_succ] at h; exact h)
        omega
  exact step 9 n (by omega)
theorem enc_length_pos (n : Nat) : 0 < (enc n).length := by
  by_cases h : n < 128
  · rw [enc_small h]; simp
  · rw [enc_big h]; simp

theorem dec_enc {n : Nat} (h : n < 18446744073709551616) (r : List UInt8) : dec (enc n ++ r) = some (n, (enc n).length) := by
  unfold dec; rw [rdec_enc]; simp [h]

theorem enc_dec {l : List UInt8} {n s : Nat} (h : dec l = some (n, s)) : n < 18446744073709551616 ∧ s ≤ l.length ∧ 0 < s ∧ l.take s = enc n := by
  unfold dec at h
  cases hr : rdec l with
  | none => rw [hr] at h; cases h
  | some p =>
    obtain ⟨m, t⟩ := p
    rw [hr] at h
    by_cases hm : m < 18446744073709551616
    · simp only [if_pos hm] at h
      injection h with h; injection h with h1 h2
      subst h1 h2
      exact ⟨hm, enc_rdec l _ _ hr⟩
    · simp [hm] at h

theorem dig_snoc (l : List UInt8) (c : UInt8) : dig (l ++ [c]) = dig l + c.toNat % 128 * 128 ^ l.length := by
  induction l with
  | nil => simp [dig]
  | cons d r ih =>
    simp only [List.cons_append, dig, ih, List.length_cons, Nat.pow_succ, Nat.mul_add]
    have : 128 * (c.toNat % 128 * 128 ^ r.length) = c.toNat % 128 * (128 ^ r.length * 128) := by
      rw [Nat.mul_comm 128, Nat.mul_assoc]
    omega

theorem dig_lt (l : List UInt8) : dig l < 128 ^ l.length := by
  induction l with
  | nil => simp [dig]
  | cons d r ih => simp only [dig, List.length_cons, Nat.pow_succ]; omega

/-- What bytes come to behind a row of digits that go on. -/
theorem rdec_front : ∀ (p r : List UInt8), (∀ c ∈ p, ¬ c.toNat < 128) →
    rdec (p ++ r) = match rdec r with
      | none => none
      | some (n, s) => if n = 0 ∧ p ≠ [] then none else some (dig p + 128 ^ p.length * n, s + p.length) := by
  intro p
  induction p with
  | nil => intro r _; cases h : rdec r with
    | none => simp [h]
    | some q => simp [h, dig]
  | cons c p ih =>
    intro r hp
    have hc := hp c (by simp)
    have ih := ih r (fun d hd => hp d (by simp [hd]))
    rw [List.cons_append, rdec, if_neg hc, ih]
    cases h : rdec r with
    | none => rfl
    | some q =>
      obtain ⟨n, s⟩ := q
      by_cases hn : n = 0
      · subst hn
        by_cases hpn : p = []
        · subst hpn; simp [dig]
        · simp [hpn]
      · have h1 : ¬ dig p + 128 ^ p.length * n = 0 := by
          have : 0 < 128 ^ p.length * n := Nat.mul_pos (Nat.pow_pos (by omega)) (by omega)
          omega
        simp only [hn, false_and, if_false, if_neg h1, dig, List.length_cons, Nat.pow_succ]
        congr 2
        · rw [Nat.mul_add, Nat.mul_comm (128 ^ p.length) 128, Nat.mul_assoc]; omega

section
variable {k : List UInt8} {j : Nat}
theorem cut_at {x : UInt8} (hx : k[j]? = some x) : k = k.take j ++ x :: k.drop (j + 1) := by
  obtain ⟨hj, e⟩ := List.getElem?_eq_some_iff.1 hx
  rw [← e, List.getElem_cons_drop, List.take_append_drop]
theorem len_take {x : UInt8} (hx : k[j]? = some x) : (k.take j).length = j := by
  obtain ⟨hj, _⟩ := List.getElem?_eq_some_iff.1 hx
  rw [List.length_take]; omega
theorem dec_end (h : ∀ d ∈ k, ¬ d.toNat < 128) : dec k = none := by
  have := rdec_front k [] h
  rw [List.append_nil] at this
  unfold dec; rw [this]; simp [rdec]
theorem dec_stop {x : UInt8} (h : ∀ d ∈ k.take j, ¬ d.toNat < 128) (hx : k[j]? = some x) (hj : j = 9) (h1 : 1 < x.toNat) : dec k = none := by
  have hl := len_take hx
  have hf := rdec_front (k.take j) (x :: k.drop (j + 1)) h
  rw [← cut_at hx, hl, hj] at hf
  have hb : ∀ n, 2 ≤ n → ¬ dig (k.take 9) + 128 ^ 9 * n < 18446744073709551616 := by
    intro n hn
    have : 128 ^ 9 * 2 ≤ 128 ^ 9 * n := Nat.mul_le_mul_left _ hn
    omega
  unfold dec
  rw [hf]
  by_cases hc : x.toNat < 128
  · have h0 : ¬ x.toNat = 0 := by omega
    simp only [rdec, if_pos hc, h0, false_and, if_false, if_neg (hb _ h1)]
  · simp only [rdec, if_neg hc]
    cases hr : rdec (k.drop (9 + 1)) with
    | none => rfl
    | some q =>
      obtain ⟨n, s⟩ := q
      by_cases hn : n = 0
      · simp [hn]
      · have h2 : ¬ x.toNat % 128 + 128 * n = 0 := by omega
        simp only [if_neg hn, h2, false_and, if_false, if_neg (hb (x.toNat % 128 + 128 * n) (by omega))]
theorem dec_zero {x : UInt8} (h : ∀ d ∈ k.take j, ¬ d.toNat < 128) (hx : k[j]? = some x) (hj : 0 < j) (h1 : x.toNat = 0) : dec k = none := by
  have hl := len_take hx
  have hf := rdec_front (k.take j) (x :: k.drop (j + 1)) h
  have hp : k.take j ≠ [] := by intro e; rw [e] at hl; simp at hl; omega
  rw [← cut_at hx] at hf
  unfold dec
  rw [hf]
  simp [rdec, h1, hp]
theorem dec_val {x : UInt8} (h : ∀ d ∈ k.take j, ¬ d.toNat < 128) (hx : k[j]? = some x) (hj : j ≤ 9) (h9 : j = 9 → x.toNat ≤ 1) (hc : x.toNat < 128) (h0 : x.toNat = 0 → j = 0) :
    dec k = some (dig (k.take j) + x.toNat % 128 * 128 ^ j, j + 1) := by
  have hl := len_take hx
  have hf := rdec_front (k.take j) (x :: k.drop (j + 1)) h
  have hd := dig_lt (k.take j)
  rw [← cut_at hx] at hf
  rw [hl] at hf hd
  have hm : x.toNat % 128 = x.toNat := Nat.mod_eq_of_lt hc
  have hn : ¬ (x.toNat = 0 ∧ k.take j ≠ []) := by
    rintro ⟨e, hp⟩
    have := h0 e
    subst this
    simp at hp
  have hv : dig (k.take j) + 128 ^ j * x.toNat < 18446744073709551616 := by
    have h1 : dig (k.take j) + 128 ^ j * x.toNat < 128 ^ j * (x.toNat + 1) := by rw [Nat.mul_add]; omega
    by_cases hj9 : j = 9
    · have := h9 hj9
      have h2 : 128 ^ j * (x.toNat + 1) ≤ 128 ^ j * 2 := Nat.mul_le_mul_left _ (by omega)
      rw [hj9] at h1 h2 ⊢
      omega
    · have h2 : 128 ^ j * (x.toNat + 1) ≤ 128 ^ 8 * 128 := Nat.mul_le_mul (Nat.pow_le_pow_right (by omega) (by omega)) (by omega)
      omega
  unfold dec
  rw [hf]
  simp only [rdec, if_pos hc, if_neg hn, if_pos hv]
  rw [hm, Nat.mul_comm (128 ^ j), Nat.add_comm 1 j]
theorem take_all_succ {x : UInt8} (h : ∀ d ∈ k.take j, ¬ d.toNat < 128) (hx : k[j]? = some x) (hc : ¬ x.toNat < 128) : ∀ d ∈ k.take (j + 1), ¬ d.toNat < 128 := by
  intro d hd
  rw [List.take_add_one, hx] at hd
  simp at hd
  rcases hd with hd | hd
  · exact h d hd
  · rw [hd]; exact hc
theorem dig_succ {x : UInt8} (hx : k[j]? = some x) : dig (k.take (j + 1)) = dig (k.take j) + x.toNat % 128 * 128 ^ j := by
  have hl := len_take hx
  rw [List.take_add_one, hx]
  show dig (k.take j ++ [x]) = _
  rw [dig_snoc, hl]
end
end

section
set_option maxRecDepth 100000

def wB (s : ByteArray) : List UInt8 := enc s.size ++ s.data.toList
def St.bytes : St → List UInt8
  | .nul => []
  | .mk k words _ parts => UInt8.ofNat k.toNat :: (if k = 4 then enc words.length ++ (List.range words.length).flatMap (fun i => wB (nth words i))
    else if k = 5 then enc words.length ++ (List.range words.length).flatMap (fun i => wB (nth words i) ++ (parts i).bytes)
    else if k = 6 then (parts 0).bytes else [])
theorem flat_bmore {α : Type} (f : Nat → List α) (n : Nat) : (List.range (n + 1)).flatMap f = (List.range n).flatMap f ++ f n := by
  rw [List.range_succ, List.flatMap_append]
  simp
theorem flat_blen {f : Nat → List UInt8} {b : Nat} : ∀ {n : Nat}, (∀ i, i < n → (f i).length ≤ b) → ((List.range n).flatMap f).length ≤ n * b
  | 0, _ => by simp
  | n + 1, h => by
    rw [flat_bmore, List.length_append, Nat.add_mul, Nat.one_mul]
    have h1 := flat_blen (f := f) (b := b) (n := n) (fun i hi => h i (by omega))
    have h2 := h n (by omega)
    omega
theorem wB_len {s : ByteArray} (h : s.size ≤ 64) : (wB s).length ≤ 74 := by
  have h1 := enc_length_le (n := s.size) (by omega)
  have h2 : s.data.toList.length = s.size := by simp
  unfold wB
  rw [List.length_append]
  omega
def bnd : Nat → Nat
  | 0 => 0
  | n + 1 => 1000 + 8 * bnd n
theorem bnd_mono : ∀ {n m : Nat}, n ≤ m → bnd n ≤ bnd m
  | 0, _, _ => Nat.zero_le _
  | n + 1, 0, h => absurd h (by omega)
  | n + 1, m + 1, h => by
    have := bnd_mono (n := n) (m := m) (by omega)
    unfold bnd
    omega
theorem bnd_all {n : Nat} (h : n ≤ 6) : bnd n ≤ 100000000 := Nat.le_trans (bnd_mono h) (by decide)
theorem St.bytes_len : ∀ (s : St) (d : Nat), s.rightAt d = true → s.bytes.length ≤ bnd (6 - d) := by
  intro s
  induction s with
  | nul => intro d h; simp [St.bytes]
  | mk k words len parts ih =>
    intro d h
    rw [St.rightAt_mk, Bool.and_eq_true, Bool.and_eq_true, List.all_eq_true] at h
    obtain ⟨⟨h5, hh⟩, hp⟩ := h
    have h5 := of_decide_eq_true h5
    have e1 : 6 - d = (5 - d) + 1 := by omega
    have e2 : 6 - (d + 1) = 5 - d := by omega
    rw [e1, bnd]
    have hpp : ∀ i, i < len → (parts i).bytes.length ≤ bnd (5 - d) := fun i hi => by
      have := ih i (d + 1) (hp i (List.mem_range.2 hi))
      rwa [e2] at this
    unfold St.bytes
    by_cases k4 : k = 4
    · subst k4
      rw [if_pos rfl]
      have hw : wordsB words = true ∧ words.length ≤ 8 := by
        unfold headS at hh
        simp at hh
        exact ⟨hh.1.2, hh.1.1.2⟩
      have h1 := enc_length_le (n := words.length) (by omega)
      have h2 := flat_blen (f := fun i => wB (nth words i)) (b := 74) (n := words.length) (fun i hi => wB_len (by
        have h3 := List.all_eq_true.1 hw.1 i (List.mem_range.2 hi)
        rw [Bool.and_eq_true] at h3
        have := nameB_sz h3.1
        omega))
      have h4 : words.length * 74 ≤ 8 * 74 := Nat.mul_le_mul_right _ hw.2
      simp only [List.length_cons, List.length_append]
      omega
    · by_cases k5 : k = 5
      · subst k5
        rw [if_neg (by decide), if_pos rfl]
        have hw : words.length ≤ 8 ∧ len = words.length ∧ riseB words = true := by
          unfold headS at hh
          simp at hh
          exact ⟨hh.1.1, hh.1.2, hh.2⟩
        have h1 := enc_length_le (n := words.length) (by omega)
        have h2 := flat_blen (f := fun i => wB (nth words i) ++ (parts i).bytes) (b := 74 + bnd (5 - d)) (n := words.length) (fun i hi => by
          rw [List.length_append]
          have h3 := wB_len (s := nth words i) (by have := nameB_sz (riseB_name hw.2.2 hi); omega)
          have h4 := hpp i (by omega)
          omega)
        have h4 : words.length * (74 + bnd (5 - d)) ≤ 8 * (74 + bnd (5 - d)) := Nat.mul_le_mul_right _ hw.1
        simp only [List.length_cons, List.length_append]
        omega
      · by_cases k6 : k = 6
        · subst k6
          rw [if_neg (by decide), if_neg (by decide), if_pos rfl]
          have hw : len = 1 := by
            unfold headS at hh
            simp at hh
            exact hh.2
          have h4 := hpp 0 (by omega)
          simp only [List.length_cons]
          omega
        · rw [if_neg k4, if_neg k5, if_neg k6]
          simp only [List.length_cons, List.length_nil]
          omega
end

section
open Go.RowKit

theorem u8_info : (Tryz.prog.info? 5).map (fun i => (i.zero, i.size, i.bytes)) = some (some (.int .u8 0), 1, 1) := by kernel_rfl

/-- A writer at a: what it holds is the row v, the bytes l. -/
structure Wr (w : World) (a : Addr) (v : Value) (l : List UInt8) : Prop where
  cell : w.cell? a = some v
  free : w.frozen? a = false
  row : w.ownsRow 0 5 1 v l.length (Bs l)
  off : v.ownBlock ≠ some a.block

theorem Wr.only {w w' : World} {S : Nat → Prop} {a : Addr} {v : Value} {l : List UInt8} (h : Wr w a v l) (ho : Only S w w') (h1 : ¬ S a.block) (h2 : ∀ k, v.ownBlock = some k → ¬ S k) : Wr w' a v l :=
  ⟨(ho.cell h1 (lt_of_cell h.cell)).trans h.cell, (ho.frozen h1 (lt_of_cell h.cell)).trans h.free, own_only h.row ho h2, h.off⟩
theorem Wr.below {w w' : World} {a : Addr} {v : Value} {l : List UInt8} (h : Wr w a v l) (ho : Below w.heap.size w w') : Wr w' a v l :=
  h.only (Only.of_below ho (fun _ => False)) (fun h => h) (fun _ _ h => h)
theorem Wr.alloc {w : World} {a : Addr} {v : Value} {l : List UInt8} (h : Wr w a v l) (o : Obj) : Wr (w.alloc o) a v l := h.below ((Below.refl _ _).alloc (Nat.le_refl _) _)
theorem Wr.lt {w : World} {a : Addr} {v : Value} {l : List UInt8} (h : Wr w a v l) : a.block < w.heap.size := lt_of_cell h.cell
theorem Wr.rowlt {w : World} {a : Addr} {v : Value} {l : List UInt8} (h : Wr w a v l) : ∀ k, v.ownBlock = some k → k < w.heap.size := fun k hk => (h.row.lt k hk).2

theorem raw_wr {w w' : World} {a : Addr} {v' u : Value} {l k : List UInt8} {b : Option Nat} (hc : w'.cell? a = some u) (hf : w'.frozen? a = false) (hal : a.block < w.heap.size)
    (hown : w'.ownsRow 0 5 1 v' (l.length + k.length) (Bs l ++ Bs k)) (hat : v'.ownBlock = b ∨ v'.ownBlock = some w.heap.size) (hoff : b ≠ some a.block) :
    Wr (w'.setCell a v') a v' (l ++ k) := by
  have hne : v'.ownBlock ≠ some a.block := by
    rcases hat with h | h
    · rw [h]; exact hoff
    · rw [h]; intro e; injection e with e; omega
  refine ⟨World.cell?_setCell_same _ _ _ hc, by rw [World.frozen?_setCell]; exact hf, ?_, hne⟩
  rw [List.length_append, Bs_append]
  exact hown.kept (row := some a.block) ⟨rfl, rfl, rfl, by simp, fun j _ hj => Below.heap_setCell _ _ _ _ (fun e => hj (by rw [e]))⟩ (.inr hne)

/-- The writer at a held the row v in w; in w' it holds v', with the bytes l. -/
structure Wrote (w w' : World) (a : Addr) (v v' : Value) (l : List UInt8) : Prop where
  wr : Wr w' a v' l
  only : Only (fun j => j = a.block ∨ v.ownBlock = some j) w w'
  near : v'.ownBlock = v.ownBlock ∨ ∃ g, v'.ownBlock = some g ∧ w.heap.size ≤ g

section
variable {w w' w'' : World} {a : Addr} {v v' v'' : Value} {l k : List UInt8}
theorem Wrote.refl (h : Wr w a v l) : Wrote w w a v v l := ⟨h, Only.refl _ _, .inl rfl⟩
theorem Wrote.trans (h : Wrote w w' a v v' l) (h' : Wrote w' w'' a v' v'' k) : Wrote w w'' a v v'' k := by
  refine ⟨h'.wr, h.only.trans h'.only fun j hj hk => ?_, ?_⟩
  · rcases hk with hk | hk
    · exact .inl hk
    · rcases h.near with e | ⟨g, e, hg⟩
      · rw [e] at hk; exact .inr hk
      · rw [e] at hk; injection hk with hk; omega
  · rcases h'.near with e | ⟨g, e, hg⟩
    · rw [e]; exact h.near
    · exact .inr ⟨g, e, Nat.le_trans h.only.size hg⟩
theorem Wrote.after {w0 : World} (h : Wrote w w' a v v' l) (hb : Below w0.heap.size w0 w) : Wrote w0 w' a v v' l :=
  ⟨h.wr, (Only.of_below hb _).trans h.only fun _ _ hk => hk, h.near.imp id fun ⟨g, e, hg⟩ => ⟨g, e, Nat.le_trans hb.size hg⟩⟩
theorem Wrote.then (h : Wrote w w' a v v' l) (hb : Below w'.heap.size w' w'') : Wrote w w'' a v v' l :=
  ⟨h.wr.below hb, h.only.trans (Only.of_below hb (fun _ => False)) fun _ _ hk => hk.elim, h.near⟩
theorem Wrote.rows (h : Wrote w w' a v v' l) : ∀ j, v'.ownBlock = some j → v.ownBlock = some j ∨ w.heap.size ≤ j := fun j hj => by
  rcases h.near with e | ⟨g, e, hg⟩
  · rw [e] at hj; exact .inl hj
  · rw [e] at hj; injection hj with hj; exact .inr (by omega)
end

set_option maxHeartbeats 400000 in
theorem raw_any (a : Addr) (v : Value) (l : List UInt8) (A : Option Addr) (n c : Nat) (k : List UInt8) (F : Nat → Prop) (w : World) (hw : Wr w a v l) (hr : Rd w F A n (Bs k)) (hlen : l.length + n ≤ 140737488355328) :
    Calls Tryz.prog 60 #[.pointer (some a), .slice A n c] w fun e w' => e = .returned (.tuple #[]) ∧ ∃ v', Wrote w w' a v v' (l ++ k) := by
  obtain ⟨i0, hi, hz0, hz1, hz2⟩ := info_parts u8_info
  obtain ⟨hc, hf, ho, hoff⟩ := hw
  obtain rfl : n = k.length := hr.len.symm
  go_enter Tryz.func60, Tryz.ntmps60
  go_wp2_with (at_builtin; refine wpList_append_rd _ rfl (.tmp 10) (.tmp 11) 29 rfl 0 5 i0 (.int .u8 0) 1 Tryz.underlying29 hi hz0 hz1 hz2 rfl v l.length (Bs l) rfl ho F A k.length c (Bs k) rfl hr (Bs_one k) ?c1 ?c2 ?c3 ?_)
  case c1 => unfold maxLen; omega
  case c2 => omega
  case c3 => omega
  intro v' w' hown hg hat
  obtain ⟨A', c', rfl⟩ := own_slice hown
  have hal := lt_of_cell hc
  have hc' := (World.cell?_of_block (hg.block a.block hal (Ne.symm hoff))).trans hc
  have hf' := (World.frozen?_of_block (hg.block a.block hal (Ne.symm hoff))).trans hf
  go_wp2
  go_end0
  refine ⟨rfl, _, ⟨raw_wr hc' hf' hal hown hat hoff, ?_, hat.imp id fun h => ⟨_, h, Nat.le_refl _⟩⟩⟩
  exact ((Only.refl _ _).grown hg (fun j hj => .inl (.inr hj))).setCell (.inl (.inl rfl)) _
end

section
open Go.RowKit

theorem or128 : ∀ x, x < 256 → x ||| 128 = x % 128 + 128 := by decide +kernel
theorem or_goes (m : Nat) : bits .or .u8 ((m : Int) % 256) 128 = (((UInt8.ofNat (m % 128 + 128)).toNat : Nat) : Int) := by
  have h1 : (m : Int) % 256 = ((m % 256 : Nat) : Int) := by omega
  rw [h1]
  have h2 := u8_or_nat (m % 256) 128 (by omega) (by omega)
  rw [show ((128 : Nat) : Int) = 128 from rfl] at h2
  rw [h2, or128 _ (by omega), toNat_low (by omega)]
  congr 2
  omega
theorem low_last {m : Nat} (h : m < 128) : [Value.int .u8 (m : Int)] = Bs [UInt8.ofNat m] := by simp only [Bs, List.map_cons, List.map_nil]; rw [toNat_low (by omega)]

theorem big_goes (m : Nat) : [Value.int .u8 (bits .or .u8 ((m : Int) % 256) 128)] = Bs [UInt8.ofNat (m % 128 + 128)] := by rw [or_goes]; rfl

set_option maxHeartbeats 400000 in
theorem number_any (a : Addr) (v : Value) (l : List UInt8) (n : Nat) (w : World) (hw : Wr w a v l) (hn : n < 18446744073709551616) (hlen : l.length + 10 ≤ 140737488355328) :
    Calls Tryz.prog 34 #[.pointer (some a), .int .u64 n] w fun e w' => e = .returned (.tuple #[]) ∧ ∃ v', Wrote w w' a v v' (l ++ enc n) := by
  have hel := enc_length_le hn
  go_enter Tryz.func34, Tryz.ntmps34
  go_wp2_with fail
  go_loopw [1] (fun i wr => ∃ (m : Nat) (p : List UInt8) (v' : Value), i = .int .u64 m ∧ m < 18446744073709551616 ∧ enc n = p ++ enc m ∧ Wrote w wr a v v' (l ++ p)) (fun i _ => (intOf i).toNat)
  case atStart => exact ⟨n, [], v, rfl, hn, rfl, by rw [List.append_nil]; exact .refl hw⟩
  case round =>
    obtain ⟨m, p, v1, rfl, hm, he, hw1⟩ := hrel
    have hpl : (l ++ p).length + 1 ≤ 140737488355328 := by
      have := congrArg List.length he
      have h3 := enc_length_pos m
      simp at this ⊢
      omega
    have HE := Lib.hid he
    clear he
    by_cases hc : m < 128
    · have hc' : (m : Int) ≤ 127 := by omega
      go_wp2_with fail
      refine (raw_any a v1 (l ++ p) _ 1 1 [UInt8.ofNat m] _ _ (hw1.wr.alloc _) (Rd.lit _ _ _ _ (by exact low_last hc) 1 rfl) hpl).mono ?_
      rintro e w2 ⟨rfl, v2, hw2⟩
      go_wp2_with fail
      go_end0
      refine ⟨rfl, v2, ?_⟩
      rw [HE.out, enc_small hc, ← List.append_assoc]
      exact hw1.trans (hw2.after ((Below.refl _ _).alloc (Nat.le_refl _) _))
    · have hc' : (127 : Int) < m := by omega
      go_wp2_with fail
      refine (raw_any a v1 (l ++ p) _ 1 1 [UInt8.ofNat (m % 128 + 128)] _ _ (hw1.wr.alloc _) (Rd.lit _ _ _ _ (by exact big_goes m) 1 rfl) hpl).mono ?_
      rintro e w2 ⟨rfl, v2, hw2⟩
      go_wp2_with fail
      go_roundw
      case rel =>
        refine ⟨m / 128, p ++ [UInt8.ofNat (m % 128 + 128)], v2, by go_num, by omega, by rw [HE.out, enc_big hc]; simp, ?_⟩
        rw [← List.append_assoc]
        exact hw1.trans (hw2.after ((Below.refl _ _).alloc (Nat.le_refl _) _))
      case measure => simp [intOf]; omega

/-- The number that stands for a signed one. -/
def zig (n : Int) : Nat := if n < 0 then (-2 * n - 1).toNat else (2 * n).toNat

theorem xor_ones {x : Nat} (h : x < 2 ^ 64) : (2 ^ 64 - 1) ^^^ x = 2 ^ 64 - (x + 1) := by
  apply Nat.eq_of_testBit_eq
  intro i
  rw [Nat.testBit_xor, Nat.testBit_two_pow_sub_one, Nat.testBit_two_pow_sub_succ h]
  by_cases hi : i < 64
  · simp [hi]
  · have : x.testBit i = false := Nat.testBit_lt_two_pow (Nat.lt_of_lt_of_le h (Nat.pow_le_pow_right (by omega) (by omega)))
    simp [hi, this]
theorem not64 {x : Nat} (h : x < 2 ^ 64) : bits .xor .u64 IntKind.u64.max (x : Int) = ((2 ^ 64 - (x + 1) : Nat) : Int) := by
  have h1 : IntKind.u64.max = ((2 ^ 64 - 1 : Nat) : Int) := rfl
  rw [h1, u64_xor_nat (2 ^ 64 - 1) x (by omega) (by omega), xor_ones h]
theorem fold_below {n : Int} (h1 : -9223372036854775808 ≤ n) (h : n < 0) : bits .xor .u64 IntKind.u64.max (IntKind.u64.wrap (IntKind.u64.wrap n * 2)) = zig n := by
  rw [IntKind.wrap_u64, IntKind.wrap_u64]
  have e : (n % 18446744073709551616 * 2 % 18446744073709551616 : Int) = ((2 * n + 18446744073709551616).toNat : Int) := by omega
  rw [e, not64 (by omega)]
  unfold zig
  rw [if_pos h]
  omega

set_option maxHeartbeats 400000 in
theorem fold_any (n : Int) (w : World) (h1 : -9223372036854775808 ≤ n) (h2 : n ≤ 9223372036854775807) :
    Calls Tryz.prog 61 #[.int .i64 n] w fun e w' => e = .returned (.int .u64 (zig n)) ∧ w = w' := by
  by_cases h : n < 0
  · have hz := Lib.hid (fold_below h1 h)
    go_enter Tryz.func61, Tryz.ntmps61
    go_wp2
    go_ret
    exact ⟨by rw [← hz.out]; rfl, rfl⟩
  · have hz : n * 2 = (zig n : Int) := by unfold zig; rw [if_neg h]; omega
    have HZ := Lib.hid hz
    clear hz
    go_enter Tryz.func61, Tryz.ntmps61
    go_wp2
    go_ret
    exact ⟨by rw [← HZ.out]; rfl, rfl⟩

theorem zig_lt {n : Int} (h1 : -9223372036854775808 ≤ n) (h2 : n ≤ 9223372036854775807) : zig n < 18446744073709551616 := by unfold zig; split <;> omega

set_option maxHeartbeats 400000 in
theorem int_any (a : Addr) (v : Value) (l : List UInt8) (n : Int) (w : World) (hw : Wr w a v l) (h1 : -9223372036854775808 ≤ n) (h2 : n ≤ 9223372036854775807) (hlen : l.length + 10 ≤ 140737488355328) :
    Calls Tryz.prog 31 #[.pointer (some a), .int .i64 n] w fun e w' => e = .returned (.tuple #[]) ∧ ∃ v', Wrote w w' a v v' (l ++ enc (zig n)) := by
  go_enter Tryz.func31, Tryz.ntmps31
  go_wp2_with fail
  refine (fold_any n _ h1 h2).mono ?_
  rintro e w2 ⟨rfl, rfl⟩
  go_wp2_with fail
  refine (number_any a v l (zig n) _ hw (zig_lt h1 h2) hlen).mono ?_
  rintro e w2 ⟨rfl, v2, hw2⟩
  go_wp2_with fail
  go_end0
  exact ⟨rfl, v2, hw2⟩

set_option maxHeartbeats 400000 in
/-- slices.Clone at bytes. -/
theorem clone_any (A : Option Addr) (n c : Nat) (k : List UInt8) (F : Nat → Prop) (w : World) (hr : Rd w F A n (Bs k)) (hn : n ≤ 140737488355328) :
    Calls Tryz.prog 35 #[.slice A n c] w fun e w' => ∃ v, e = .returned v ∧ w'.ownsRow w.heap.size 5 1 v k.length (Bs k) ∧ Below w.heap.size w w' := by
  obtain ⟨i0, hi, hz0, hz1, hz2⟩ := info_parts u8_info
  obtain rfl : n = k.length := hr.len.symm
  have qT : ∀ (w : World) (a : Option Addr) (n c n' c' : Nat), (binOp .eql 29 (.slice a n c) (.slice none n' c')).run Tryz.prog w = .ok (.bool a.isNone) w := fun w a n c n' c' => Lib.run_eql_slice_nil w _ _ a n c n' c' Tryz.underlying29
  cases A with
  | none =>
    have hk : k = [] := by
      rcases Nat.eq_zero_or_pos k.length with h | h
      · exact List.eq_nil_of_length_eq_zero h
      · obtain ⟨ad, h, _⟩ := hr.2 h; cases h
    subst hk
    go_enter Tryz.func35, Tryz.ntmps35
    go_wp2
    go_ret
    exact ⟨_, rfl, World.ownsRow_nil _ _ _ _, Below.refl _ _⟩
  | some ad =>
    have HR := Lib.hid hr
    clear hr
    go_enter Tryz.func35, Tryz.ntmps35
    go_wp2_with (at_builtin; refine wpList_append_rd _ rfl (.tmp 5) (.tmp 6) 29 rfl w.heap.size 5 i0 (.int .u8 0) 1 Tryz.underlying29 hi hz0 hz1 hz2 rfl (.slice (some ⟨w.heap.size, 0, none⟩) 0 0) 0 [] rfl (World.ownsRow_made w #[] 0 (Nat.le_refl _) (by unfold maxLen; omega) rfl) F (some ad) k.length c (Bs k) rfl (HR.out.belowAll ((Below.refl _ _).alloc (Nat.le_refl _) _)) (Bs_one k) ?c1 ?c2 ?c3 ?_)
    case c1 => unfold maxLen; omega
    case c2 => omega
    case c3 => simp
    intro v' w' hown hg hat
    go_wp2
    go_ret
    refine ⟨v', rfl, by simpa using hown, ((Below.refl _ _).alloc (Nat.le_refl _) _).grown hg (by simp) (fun j hj => ?_)⟩
    simp [Value.ownBlock] at hj
    omega
end

end Go.Proofs.YtkjhmplnamaoaaaGreatDoor
